/-
  PnGD: PnE PnK PnI PnA PnW, one behind the other (tools/merge.py).
-/
import Derived.Test.YtcpcljdnkekogaaPnGC
import Derived.Test.YtcpcljdnkekogaaTbN
import Derived.Test.YtcpcljdnkekogaaTbJ
import Derived.Test.YtcpcljdnkekogaaTbD
/-
  An engine in memory; what its calls leave as it was. Lists that may be.
-/
namespace Go.Proofs.Ytcpcljdnkekogaa
open Go.RowKit
set_option linter.unusedVariables false
set_option linter.unusedSimpArgs false

/-- A list that may be: each rule may be, no id twice, at most 64. -/
structure OkN (l : List Ru) : Prop where
  may : ∀ R ∈ l, okR R = true
  one : (l.map Ru.i).Nodup
  few : l.length ≤ 64
theorem OkN.nil : OkN [] := ⟨by simp, by simp, by simp⟩
theorem OkN.fnd {l : List Ru} (o : OkN l) {k : Nat} (hk : k < l.length) : fnd (l.take k) l[k].i = -1 := by
  rw [fnd_none]
  intro R hR e
  obtain ⟨j, hj, rfl⟩ := List.mem_iff_getElem.1 hR
  rw [List.length_take] at hj
  rw [List.getElem_take] at e
  have h1 := o.one
  rw [List.nodup_iff_pairwise_ne, List.pairwise_iff_getElem] at h1
  exact h1 j k (by simp; omega) (by simp; omega) (by omega) (by simpa using e)
theorem OkN.set {l : List Ru} (o : OkN l) : setE l 64 = 0 := by
  have key : ∀ d, d ≤ l.length → setK 64 (l.take (l.length - d)) (l.drop (l.length - d)) = 0 := fun d => by
    induction d with
    | zero => intro _; exact setK_end (Nat.le_refl _)
    | succ d ih =>
      intro hd
      have hk : l.length - (d + 1) < l.length := by omega
      have hj : joinE (l.take (l.length - (d + 1))) l[l.length - (d + 1)] = 0 := joinE_ok.2 ⟨(okR_err _).1 (o.may _ (List.getElem_mem hk)), o.fnd hk⟩
      have hf := o.few
      rw [setK_next hk hj (by omega), show l.length - (d + 1) + 1 = l.length - d by omega]
      exact ih (by omega)
  have := key l.length (Nat.le_refl _)
  rw [Nat.sub_self] at this
  exact this
theorem OkN.of_set {l : List Ru} {M : Int} (h : setE l M = 0) (hM : M ≤ 64) : OkN l := by
  have o := setE_ok h
  refine ⟨fun R hR => ?_, ?_, ?_⟩
  · obtain ⟨k, hk, rfl⟩ := List.mem_iff_getElem.1 hR
    exact o.may k hk
  · rw [List.nodup_iff_pairwise_ne, List.pairwise_iff_getElem]
    intro i j hi hj hij
    have := o.ne (j := i) (k := j) hij (by simpa using hj)
    simpa using this
  · rcases o.few with e | e
    · rw [e]; simp
    · omega
theorem okN_ins {l : List Ru} (o : OkN l) {M p : Int} {R : Ru} (h : insE l M p R = 0) (hM : M ≤ 64) : OkN (putL l p.toNat R) := by
  have hj : joinE l R = 0 := by
    unfold insE at h
    by_cases e : joinE l R = 0
    · exact e
    · rw [if_neg e] at h; exact absurd h e
  have hlt : (l.length : Int) < M := by
    unfold insE at h
    rw [if_pos hj] at h
    by_cases e : 0 ≤ p ∧ p ≤ l.length
    · rw [if_pos e] at h
      by_cases e2 : M ≤ l.length
      · rw [if_pos e2] at h; exact absurd h (by decide)
      · omega
    · rw [if_neg e] at h; exact absurd h (by decide)
  obtain ⟨j1, j2⟩ := joinE_ok.1 hj
  have hp : (putL l p.toNat R).Perm (R :: l) := by
    unfold putL
    refine (List.perm_middle).trans ?_
    rw [List.take_append_drop]
  refine ⟨fun S hS => ?_, ?_, ?_⟩
  · rcases List.mem_cons.1 (hp.mem_iff.1 hS) with rfl | hS
    · exact (okR_err _).2 j1
    · exact o.may S hS
  · rw [(hp.map Ru.i).nodup_iff, List.map_cons, List.nodup_cons]
    refine ⟨fun hm => ?_, o.one⟩
    obtain ⟨S, hS, e⟩ := List.mem_map.1 hm
    exact (fnd_none.1 j2) S hS e
  · rw [hp.length_eq, List.length_cons]; omega
theorem outL_sub (l : List Ru) (k : Nat) : (outL l k).Sublist l := by
  unfold outL
  conv => rhs; rw [← List.take_append_drop k l]
  exact List.Sublist.append_left (List.drop_sublist_drop_left l (Nat.le_succ k)) _
theorem okN_sub {l m : List Ru} (o : OkN l) (h : m.Sublist l) : OkN m := ⟨fun R hR => o.may R (h.subset hR), (h.map Ru.i).nodup o.one, Nat.le_trans h.length_le o.few⟩
theorem delL_sub (l : List Ru) (x : Int) : (delL l x).Sublist l := by
  unfold delL; split
  · exact outL_sub l _
  · exact List.Sublist.refl l
theorem putL_mem {l : List Ru} {p : Nat} {R S : Ru} (h : S ∈ putL l p R) : S = R ∨ S ∈ l := by
  unfold putL at h
  rcases List.mem_append.1 h with h | h
  · exact .inr (List.mem_of_mem_take h)
  · rcases List.mem_cons.1 h with h | h
    · exact .inl h
    · exact .inr (List.mem_of_mem_drop h)
theorem OkN.all {l : List Ru} (o : OkN l) (b : ∀ R ∈ l, BdR R) : OkA l := fun R hR => ⟨b R hR, o.may R hR⟩

/-- The blocks that an engine has besides its own. -/
def Foot (t : Nat) (v nv lv : Value) (vs : List Value) (k : Nat) : Prop := k = t ∨ v.ownBlock = some k ∨ nv.ownBlock = some k ∨ lv.ownBlock = some k ∨ ∃ u ∈ vs, u.ownBlock = some k
def CE (t : Nat) (c : Cf) (nv lv : Value) : Obj := .cells #[.pointer (some ⟨t, 0, none⟩), .int .i64 c.a, .int .i64 c.p, nv, lv] 74 (0, 0)
structure EngF (w : World) (X : Nat) (c : Cf) (l : List Ru) (N : List Pn) (LS : List (List Nat)) (t : Nat) (v nv lv : Value) (vs : List Value) : Prop where
  blk : w.heap[X]? = some (CE t c nv lv)
  tab : Tab w t v c.m c.a l
  fr : Fr w nv lv vs N LS
/-- The engine in block X; S: where its parts lie. -/
structure Eng (w : World) (X : Nat) (c : Cf) (l : List Ru) (N : List Pn) (LS : List (List Nat)) (S : Nat → Prop) : Prop where
  at' : ∃ t v nv lv vs, EngF w X c l N LS t v nv lv vs ∧ ∀ k, Foot t v nv lv vs k → S k
  plt : Plt l N LS
  ok : OkN l
  bd : ∀ R ∈ l, BdR R
  nX : ¬ S X
theorem Eng.lt {w : World} {X : Nat} {c : Cf} {l : List Ru} {N : List Pn} {LS : List (List Nat)} {S : Nat → Prop} (h : Eng w X c l N LS S) : X < w.heap.size := by
  obtain ⟨t, v, nv, lv, vs, e, _⟩ := h.at'
  exact blk_lt e.blk
theorem tab_stay {w w1 : World} {t : Nat} {v : Value} {M A : Int} {l : List Ru} (h : Tab w t v M A l) (ht : w1.heap[t]? = w.heap[t]?) (hv : ∀ k, v.ownBlock = some k → w1.heap[k]? = w.heap[k]?) : Tab w1 t v M A l := by
  refine ⟨ht.trans h.1, ?_, h.2.2⟩
  refine ⟨h.2.1.1, ?_⟩
  rcases h.2.1.2 with h2 | ⟨g, cap, cur, e, hg, hh, q⟩
  · exact .inl h2
  · exact .inr ⟨g, cap, cur, e, hg, by rw [hv g (by rw [e]; rfl)]; exact hh, q⟩
theorem fr_stay {w w1 : World} {nv lv : Value} {vs : List Value} {N : List Pn} {LS : List (List Nat)} (h : Fr w nv lv vs N LS) (hs : w.heap.size ≤ w1.heap.size) (h1 : ∀ k, nv.ownBlock = some k → w1.heap[k]? = w.heap[k]?) (h2 : ∀ k, lv.ownBlock = some k → w1.heap[k]? = w.heap[k]?) (h3 : ∀ v ∈ vs, ∀ k, v.ownBlock = some k → w1.heap[k]? = w.heap[k]?) : Fr w1 nv lv vs N LS :=
  ⟨h.nod.stay h1, h.lst.stay h2, h.len, fun k v l a b => (h.src k v l a b).stay (fun j e _ => h3 v (List.mem_of_getElem? a) j e), fun v hv k e => Nat.lt_of_lt_of_le (h.lt v hv k e) hs, h.ap, h.far⟩
theorem EngF.stay {w w1 : World} {X : Nat} {c : Cf} {l : List Ru} {N : List Pn} {LS : List (List Nat)} {t : Nat} {v nv lv : Value} {vs : List Value} (h : EngF w X c l N LS t v nv lv vs) (hs : w.heap.size ≤ w1.heap.size) (hk : ∀ k, k < w.heap.size → (k = X ∨ Foot t v nv lv vs k) → w1.heap[k]? = w.heap[k]?) : EngF w1 X c l N LS t v nv lv vs :=
  ⟨(hk X (blk_lt h.blk) (.inl rfl)).trans h.blk, tab_stay h.tab (hk t h.tab.lt (.inr (.inl rfl))) (fun k e => hk k (h.tab.own e) (.inr (.inr (.inl e)))),
    fr_stay h.fr hs (fun k e => hk k (h.fr.nod.lt k e).2 (.inr (.inr (.inr (.inl e))))) (fun k e => hk k (h.fr.lst.lt k e).2 (.inr (.inr (.inr (.inr (.inl e)))))) (fun u hu k e => hk k (h.fr.lt u hu k e) (.inr (.inr (.inr (.inr (.inr ⟨u, hu, e⟩))))))⟩
theorem Eng.stay {w w1 : World} {X : Nat} {c : Cf} {l : List Ru} {N : List Pn} {LS : List (List Nat)} {S : Nat → Prop} (h : Eng w X c l N LS S) (hs : w.heap.size ≤ w1.heap.size) (hk : ∀ k, k < w.heap.size → (k = X ∨ S k) → w1.heap[k]? = w.heap[k]?) : Eng w1 X c l N LS S := by
  obtain ⟨t, v, nv, lv, vs, e, f⟩ := h.at'
  exact ⟨⟨t, v, nv, lv, vs, e.stay hs (fun k h1 h2 => hk k h1 (h2.imp id (f k))), f⟩, h.plt, h.ok, h.bd, h.nX⟩
theorem Eng.on {w w1 : World} {X : Nat} {c : Cf} {l : List Ru} {N : List Pn} {LS : List (List Nat)} {S : Nat → Prop} (h : Eng w X c l N LS S) (hb : Below w.heap.size w w1) : Eng w1 X c l N LS S := h.stay hb.size (fun k hk _ => hb.block k hk)
/-- Another engine was written. -/
theorem Eng.apart {w w1 : World} {X Y : Nat} {c : Cf} {l : List Ru} {N : List Pn} {LS : List (List Nat)} {S : Nat → Prop} (h : Eng w X c l N LS S) (hg : w.grownBy w1 (some Y)) (h1 : X ≠ Y) (h2 : ¬ S Y) : Eng w1 X c l N LS S :=
  h.stay hg.size (fun k hk e => hg.block k hk (fun e' => by
    injection e' with e'
    subst e'
    rcases e with e | e
    · exact h1 e.symm
    · exact h2 e))
theorem Eng.mono {w : World} {X : Nat} {c : Cf} {l : List Ru} {N : List Pn} {LS : List (List Nat)} {S S' : Nat → Prop} (h : Eng w X c l N LS S) (hs : ∀ k, S k → S' k) (hX : ¬ S' X) : Eng w X c l N LS S' := by
  obtain ⟨t, v, nv, lv, vs, e, f⟩ := h.at'
  exact ⟨⟨t, v, nv, lv, vs, e, fun k hk => hs k (f k hk)⟩, h.plt, h.ok, h.bd, hX⟩
theorem grown_below2 {w w1 w2 : World} {X : Nat} (hb : Below w.heap.size w w1) (hg : w1.grownBy w2 (some X)) : w.grownBy w2 (some X) :=
  ⟨hg.os.trans hb.os, hg.tape.trans hb.tape, hg.output.trans hb.output, Nat.le_trans hb.size hg.size, fun k hk e => by rw [hg.block k (Nat.lt_of_lt_of_le hk hb.size) e, hb.block k hk]⟩
theorem grown_then {w w1 w2 : World} {X : Nat} (hg : w.grownBy w1 (some X)) (hb : Below w1.heap.size w1 w2) : w.grownBy w2 (some X) :=
  ⟨hb.os.trans hg.os, hb.tape.trans hg.tape, hb.output.trans hg.output, Nat.le_trans hg.size hb.size, fun k hk e => by rw [hb.block k (Nat.lt_of_lt_of_le hk hg.size), hg.block k hk e]⟩
theorem grown_of {w w' : World} (X : Nat) (h : Below w.heap.size w w') : w.grownBy w' (some X) := ⟨h.os, h.tape, h.output, h.size, fun k hk _ => h.block k hk⟩
theorem only_grown {w w' : World} {X : Nat} (h : Only X w w') : w.grownBy w' (some X) := ⟨h.os, h.tape, h.output, Nat.le_of_eq h.size.symm, fun k _ e => h.block k (fun e' => e (by rw [e']))⟩
end Go.Proofs.Ytcpcljdnkekogaa
/-
  The engine's calls that change it: New, Insert, Delete, Set.
-/
namespace Go.Proofs.Ytcpcljdnkekogaa
open Go.RowKit
set_option linter.unusedVariables false
set_option linter.unusedSimpArgs false

theorem blkE {w : World} {X t : Nat} {c : Cf} {nv lv : Value} (h : w.heap[X]? = some (CE t c nv lv)) : w.cell? ⟨X, 0, none⟩ = some (.pointer (some ⟨t, 0, none⟩)) ∧ w.cell? ⟨X, 1, none⟩ = some (.int .i64 c.a) ∧ w.cell? ⟨X, 2, none⟩ = some (.int .i64 c.p) ∧ w.cell? ⟨X, 3, none⟩ = some nv ∧ w.cell? ⟨X, 4, none⟩ = some lv ∧ ∀ j, w.frozen? ⟨X, j, none⟩ = false :=
  ⟨blk_cell h rfl, blk_cell h rfl, blk_cell h rfl, blk_cell h rfl, blk_cell h rfl, blk_free h⟩
set_option maxHeartbeats 1000000 in
theorem keepPC (X t t' : Nat) (c : Cf) (nv lv : Value) (w : World) (h : w.heap[X]? = some (CE t c nv lv)) :
    Calls Try.prog 35 #[.pointer (some ⟨X, 0, none⟩), .pointer (some ⟨t', 0, none⟩)] w fun e w' => e = .returned (.tuple #[]) ∧ w'.heap[X]? = some (CE t' c nv lv) ∧ Only X w w' := by
  have HX : Hid ((w.setCell ⟨X, 0, none⟩ (.pointer (some ⟨t', 0, none⟩))).heap[X]? = some (CE t' c nv lv)) := blk_set h _
  have HO : Hid (Only X w (w.setCell ⟨X, 0, none⟩ (.pointer (some ⟨t', 0, none⟩)))) := only_setCellF w X 0 _
  obtain ⟨c0, _, _, _, _, hz⟩ := blkE h
  have hz0 := hz 0
  clear hz h
  go_enter Try.func35, Try.ntmps35
  go_wp2_with (fail)
  go_end0
  exact ⟨rfl, HX.out, HO.out⟩
set_option maxHeartbeats 1000000 in
theorem draftPC (X t : Nat) (c : Cf) (nv lv v : Value) (l : List Ru) (w : World) (h : w.heap[X]? = some (CE t c nv lv)) (hT : Tab w t v c.m c.a l) (hl : l.length ≤ 64) :
    Calls Try.prog 17 #[.pointer (some ⟨X, 0, none⟩)] w fun e w' => ∃ (t' : Nat) (v' : Value), e = .returned (.pointer (some ⟨t', 0, none⟩)) ∧ Tab w' t' v' c.m c.a l ∧ w.heap.size ≤ t' ∧ (∀ k, v'.ownBlock = some k → w.heap.size ≤ k) ∧ Below w.heap.size w w' := by
  have hC := cloneC t v c.m c.a l w hT (by omega)
  obtain ⟨c0, _, _, _, _, _⟩ := blkE h
  clear h hT hl
  go_enter Try.func17, Try.ntmps17
  go_wp2_with (go_at_call 28; fail)
  refine hC.mono ?_
  rintro e w1 ⟨t', v', rfl, a1, a2, a3, a4⟩
  have H1 : Hid _ := a1
  have H2 : Hid _ := a2
  have H3 : Hid _ := a3
  have H4 : Hid _ := a4
  clear a1 a2 a3 a4 hC
  go_wp2_with (fail)
  go_ret
  exact ⟨_, v', rfl, H1.out, H2.out, H3.out, H4.out⟩
set_option maxHeartbeats 4000000 in
set_option maxRecDepth 20000 in
theorem takePC (X t0 t b : Nat) (c : Cf) (nv0 lv0 v : Value) (l : List Ru) (w : World) (h : w.heap[X]? = some (CE t0 c nv0 lv0)) (hT : Tab w t v c.m c.a l) (hXb : X < b) (hbt : b ≤ t) (hbv : ∀ k, v.ownBlock = some k → b ≤ k) (hbw : b ≤ w.heap.size) (ok : OkN l) (bd : ∀ R ∈ l, BdR R) :
    Calls Try.prog 23 #[.pointer (some ⟨X, 0, none⟩), .pointer (some ⟨t, 0, none⟩)] w fun e w' => e = .returned (.tuple #[]) ∧ ∃ (N : List Pn) (LS : List (List Nat)), Eng w' X c l N LS (fun k => b ≤ k) ∧ w.grownBy w' (some X) := by
  have hK := keepPC X t0 t c nv0 lv0 w h
  have HT : Hid (Tab w t v c.m c.a l) := hT
  have Hok : Hid (OkN l) := ok
  have Hbd : Hid (∀ R ∈ l, BdR R) := bd
  have Hv : Hid (∀ k, v.ownBlock = some k → b ≤ k) := hbv
  clear h hT ok bd hbv
  go_enter Try.func23, Try.ntmps23
  go_wp2_with (go_at_call 35; fail)
  refine hK.mono ?_
  rintro e w1 ⟨rfl, hX1, ho1⟩
  have HX1 : Hid _ := hX1
  have HO1 : Hid (Only X w w1) := ho1
  have HT1 : Hid (Tab w1 t v c.m c.a l) := tab_stay HT.out (ho1.block t (by omega)) (fun k e => ho1.block k (by have := Hv.out k e; omega))
  have hR := rulesC t v c.m c.a l w1 HT1.out (Nat.le_trans Hok.out.few (by decide))
  clear hX1 ho1 hK
  go_wp2_with (go_at_call 32; fail)
  refine hR.mono ?_
  rintro e w2 ⟨u, rfl, hr2, hb2⟩
  have HB2 : Hid (Below w1.heap.size w1 w2) := hb2
  have hP := plantC l u w2 hr2.src Hok.out.few (Hok.out.all Hbd.out)
  obtain ⟨au, cu, rfl, _⟩ := hr2.form
  clear hr2 hb2 hR
  go_wp2_with (go_at_call 36; fail)
  refine hP.mono ?_
  rintro e w3 ⟨nv, lv, vs, N, LS, rfl, hf3, hpl3, hfn3, hb3⟩
  have HF3 : Hid (Fr w3 nv lv vs N LS) := hf3
  have HP3 : Hid (Plt l N LS) := hpl3
  have HN3 : Hid (Frn w2.heap.size nv lv vs) := hfn3
  have HB3 : Hid (Below w1.heap.size w1 w3) := HB2.out.trans (hb3.mono HB2.out.size)
  have HX3 : Hid (w3.heap[X]? = some (CE t c nv0 lv0)) := blk_on HX1.out HB3.out
  obtain ⟨adn, capn, hnv, _, _⟩ := hf3.nod.form
  obtain ⟨adl, capl, hlv, _, _⟩ := hf3.lst.form
  generalize N.length = nn at hnv
  generalize vs.length = nl at hlv
  subst hnv hlv
  clear hf3 hpl3 hfn3 hb3 hP
  have hw1 : w1.heap.size = w.heap.size := HO1.out.size
  go_wp2_with (refine wpList_store_blk rfl 72 (.tmp 14) (.tmp 12) rfl X 3 #[.slice adn nn capn, .slice adl nl capl] #[.pointer (some ⟨t, 0, none⟩), .int .i64 c.a, .int .i64 c.p, .slice adn nn capn, .slice adl nl capl] rfl rfl 74 _ HX3.out (Nat.le_of_ble_eq_true rfl) rfl (by kernel_rfl) rfl ?_; intro w4 hw4 how4)
  go_end0
  have s2 := HB2.out.size
  have f1 : ∀ k, (Value.slice adn nn capn).ownBlock = some k → b ≤ k := fun k e => by have := HN3.out.1 k e; omega
  have f2 : ∀ k, (Value.slice adl nl capl).ownBlock = some k → b ≤ k := fun k e => by have := HN3.out.2.1 k e; omega
  have f3 : ∀ u ∈ vs, ∀ k, u.ownBlock = some k → b ≤ k := fun u hu k e => by have := HN3.out.2.2 u hu k e; omega
  refine ⟨rfl, ⟨N, LS, ⟨⟨t, v, .slice adn nn capn, .slice adl nl capl, vs, ⟨hw4, tab_stay (HT1.out.on HB3.out) (how4.block t (by omega)) (fun k e => how4.block k (by have := Hv.out k e; omega)), HF3.out.only how4 (fun e => by have := f1 _ e; omega) (fun e => by have := f2 _ e; omega) (fun u hu e => by have := f3 u hu _ e; omega)⟩, ?_⟩, HP3.out, Hok.out, Hbd.out, by omega⟩⟩, ?_⟩
  · rintro k (rfl | e | e | e | ⟨u, hu, e⟩)
    · exact hbt
    · exact Hv.out k e
    · exact f1 k e
    · exact f2 k e
    · exact f3 u hu k e
  · exact (World.grownBy.trans (only_grown HO1.out) (grown_then (grown_of X HB3.out) (Below.refl _ _))).trans (only_grown how4)
/-- Room: how large the rules are. -/
def prnZ (l : List Ru) : Int := (prnN witX (l.map pr) : Nat)
theorem prnL_ok {l : List Ru} (o : OkN l) : prnL l = prnN witX (l.map pr) := if_pos o.set
def roomE (c : Cf) (l : List Ru) : Int := if c.p < prnZ l then 160 else 0
set_option maxHeartbeats 4000000 in
set_option maxRecDepth 20000 in
theorem takeIfRoomPC (X t0 t b : Nat) (c : Cf) (nv0 lv0 v : Value) (l : List Ru) (w : World) (h : w.heap[X]? = some (CE t0 c nv0 lv0)) (hT : Tab w t v c.m c.a l) (hXb : X < b) (hbt : b ≤ t) (hbv : ∀ k, v.ownBlock = some k → b ≤ k) (hbw : b ≤ w.heap.size) (ok : OkN l) (bd : ∀ R ∈ l, BdR R) :
    Calls Try.prog 19 #[.pointer (some ⟨X, 0, none⟩), .pointer (some ⟨t, 0, none⟩)] w fun e w' => e = .returned (.int .i64 (roomE c l)) ∧ ((roomE c l ≠ 0 ∧ Below w.heap.size w w') ∨ (roomE c l = 0 ∧ ∃ (N : List Pn) (LS : List (List Nat)), Eng w' X c l N LS (fun k => b ≤ k) ∧ w.grownBy w' (some X))) := by
  have hR := rulesC t v c.m c.a l w hT (Nat.le_trans ok.few (by decide))
  have HX : Hid (w.heap[X]? = some (CE t0 c nv0 lv0)) := h
  have HT : Hid (Tab w t v c.m c.a l) := hT
  have Hok : Hid (OkN l) := ok
  have Hbd : Hid (∀ R ∈ l, BdR R) := bd
  have Hv : Hid (∀ k, v.ownBlock = some k → b ≤ k) := hbv
  clear h hT ok bd hbv
  go_enter Try.func19, Try.ntmps19
  go_wp2_with (go_at_call 32; fail)
  refine hR.mono ?_
  rintro e w2 ⟨u, rfl, hr2, hb2⟩
  have HB2 : Hid (Below w.heap.size w w2) := hb2
  have hP := pruneC l u w2 hr2.src (Nat.le_trans Hok.out.few (by decide)) Hbd.out
  rw [Hok.out.set, prnL_ok Hok.out] at hP
  obtain ⟨au, cu, rfl, _⟩ := hr2.form
  clear hr2 hb2 hR
  go_wp2_with (go_at_call 31; fail)
  refine hP.mono ?_
  rintro e w3 ⟨rfl, hb3⟩
  have HB3 : Hid (Below w.heap.size w w3) := HB2.out.trans (hb3.mono HB2.out.size)
  have HX3 : Hid (w3.heap[X]? = some (CE t0 c nv0 lv0)) := blk_on HX.out HB3.out
  obtain ⟨_, _, x2, _, _, _⟩ := blkE HX3.out
  have Hz : Hid (prnZ l = ((prnN witX (l.map pr) : Nat) : Int)) := rfl
  generalize prnN witX (l.map pr) = Q at *
  clear hb3 hP
  by_cases hr : c.p < prnZ l
  · have HE : Hid (roomE c l = 160) := if_pos hr
    have hq : c.p < (Q : Int) := by rw [← Hz.out]; exact hr
    clear hr
    go_wp2_with (fail)
    go_ret
    exact ⟨ret_int HE.out.symm, .inl ⟨by rw [HE.out]; decide, HB3.out⟩⟩
  · have HE : Hid (roomE c l = 0) := if_neg hr
    have hq : ¬ c.p < (Q : Int) := by rw [← Hz.out]; exact hr
    have hTk := takePC X t0 t b c nv0 lv0 v l w3 HX3.out (HT.out.on HB3.out) hXb hbt Hv.out (Nat.le_trans hbw HB3.out.size) Hok.out Hbd.out
    clear hr
    go_wp2_with (go_at_call 23; fail)
    refine hTk.mono ?_
    rintro e w4 ⟨rfl, N, LS, he4, hg4⟩
    have HE4 : Hid _ := he4
    have HG4 : Hid _ := hg4
    clear he4 hg4 hTk
    go_wp2_with (fail)
    go_ret
    exact ⟨ret_int HE.out.symm, .inr ⟨HE.out, N, LS, HE4.out, grown_below2 HB3.out HG4.out⟩⟩
end Go.Proofs.Ytcpcljdnkekogaa
/-
  The engine's New, Insert, Delete, Set.
-/
namespace Go.Proofs.Ytcpcljdnkekogaa
open Go.RowKit
set_option linter.unusedVariables false
set_option linter.unusedSimpArgs false

def CfV (c : Cf) : Value := .agg #[.int .i64 c.m, .int .i64 c.a, .int .i64 c.p, .int .i64 c.g, .int .i64 c.t, .int .i64 c.b, .int .i64 c.d]
set_option maxHeartbeats 1000000 in
theorem newE (c : Cf) (o : BdC c) (h : okC c = true) (w : World) : Calls Try.prog 6 #[.agg #[.int .i64 c.m, .int .i64 c.a, .int .i64 c.p, .int .i64 c.g, .int .i64 c.t, .int .i64 c.b, .int .i64 c.d]] w fun e w' =>
    ∃ X : Nat, e = .returned (.tuple #[.pointer (some ⟨X, 0, none⟩), .int .i64 0]) ∧ Eng w' X c [] [] [] (fun k => w.heap.size ≤ k ∧ k < X) ∧ w.heap.size ≤ X ∧ Below w.heap.size w w' := by
  have hC := newOk c o h (w.alloc (.cells #[.int .i64 c.m, .int .i64 c.a, .int .i64 c.p, .int .i64 c.g, .int .i64 c.t, .int .i64 c.b, .int .i64 c.d] 27))
  clear h o
  go_enter Try.func6, Try.ntmps6
  go_wp2_with (go_at_call 16; fail)
  refine hC.mono ?_
  rintro e w1 ⟨t, rfl, hT1, ht1, hb1⟩
  have HB1 : Hid (Below w.heap.size w w1) := ((Below.refl _ _).alloc (Nat.le_refl _) _).trans (hb1.mono (by simp))
  have HT1 : Hid (Tab w1 t (.slice none 0 0) c.m c.a []) := hT1
  have Ht1 : Hid (w.heap.size < t) := by simp at ht1; show _ < _; omega
  have x1 : w1.cell? ⟨w.heap.size, 1, none⟩ = some (.int .i64 c.a) := cell_on1 hb1 (blk_cell (blk_new w _) rfl)
  have x2 : w1.cell? ⟨w.heap.size, 2, none⟩ = some (.int .i64 c.p) := cell_on1 hb1 (blk_cell (blk_new w _) rfl)
  clear hb1 hC hT1 ht1
  go_wp2_with (fail)
  refine bodyPost_ret (v := .tuple #[.pointer (some ⟨w1.heap.size, 0, none⟩), .int .i64 0]) (by simp [results, Try.results6, go_sem]) rfl ?_
  have hb2 : Below w1.heap.size w1 (w1.alloc (.cells #[.pointer (some ⟨t, 0, none⟩), .int .i64 c.a, .int .i64 c.p, .slice none 0 0, .slice none 0 0] 74)) := (Below.refl _ _).alloc (Nat.le_refl _) _
  refine ⟨_, rfl, ⟨⟨t, .slice none 0 0, .slice none 0 0, .slice none 0 0, [], ⟨blk_new w1 _, HT1.out.on hb2, Fr.nil _⟩, ?_⟩, .inl ⟨rfl, rfl, rfl⟩, OkN.nil, by simp, by omega⟩, HB1.out.size, HB1.out.alloc HB1.out.size _⟩
  rintro k (rfl | e | e | e | ⟨u, hu, e⟩)
  · exact ⟨Nat.le_of_lt Ht1.out, HT1.out.lt⟩
  · simp [Value.ownBlock] at e
  · simp [Value.ownBlock] at e
  · simp [Value.ownBlock] at e
  · simp at hu
set_option maxHeartbeats 1000000 in
theorem newNo (c : Cf) (o : BdC c) (h : okC c = false) (w : World) : Calls Try.prog 6 #[.agg #[.int .i64 c.m, .int .i64 c.a, .int .i64 c.p, .int .i64 c.g, .int .i64 c.t, .int .i64 c.b, .int .i64 c.d]] w fun e w' =>
    e = .returned (.tuple #[.pointer none, .int .i64 110]) ∧ Below w.heap.size w w' := by
  have hC := newBad c o h (w.alloc (.cells #[.int .i64 c.m, .int .i64 c.a, .int .i64 c.p, .int .i64 c.g, .int .i64 c.t, .int .i64 c.b, .int .i64 c.d] 27))
  clear h o
  go_enter Try.func6, Try.ntmps6
  go_wp2_with (go_at_call 16; fail)
  refine hC.mono ?_
  rintro e w1 ⟨rfl, hb1⟩
  have HB1 : Hid (Below w.heap.size w w1) := ((Below.refl _ _).alloc (Nat.le_refl _) _).trans (hb1.mono (by simp))
  clear hb1 hC
  go_wp2_with (fail)
  refine bodyPost_ret (v := .tuple #[.pointer none, .int .i64 110]) (by simp [results, Try.results6, go_sem]) rfl ?_
  exact ⟨rfl, HB1.out⟩
def pinE (c : Cf) (l : List Ru) (p : Int) (R : Ru) : Int := if insE l c.m p R = 0 then roomE c (putL l p.toNat R) else insE l c.m p R
def pinL (c : Cf) (l : List Ru) (p : Int) (R : Ru) : List Ru := if pinE c l p R = 0 then putL l p.toNat R else l
def psetE (c : Cf) (m : List Ru) : Int := if setE m c.m = 0 then roomE c m else setE m c.m
def psetL (c : Cf) (m l : List Ru) : List Ru := if psetE c m = 0 then m else l
theorem room_ne {c : Cf} {l : List Ru} (h : roomE c l ≠ 0) : roomE c l = 160 := by
  unfold roomE at h ⊢
  split
  · rfl
  · rename_i e; rw [if_neg e] at h; exact absurd rfl h
/-- What a call that may change an engine does. -/
def Did (w w' : World) (X : Nat) (c : Cf) (l' : List Ru) (S : Nat → Prop) : Prop := ∃ (N' : List Pn) (LS' : List (List Nat)), Eng w' X c l' N' LS' (fun k => S k ∨ w.heap.size ≤ k) ∧ w.grownBy w' (some X)
theorem Eng.did {w w' : World} {X : Nat} {c : Cf} {l : List Ru} {N : List Pn} {LS : List (List Nat)} {S : Nat → Prop} (h : Eng w X c l N LS S) (hb : Below w.heap.size w w') : Did w w' X c l S :=
  ⟨N, LS, (h.on hb).mono (fun k e => .inl e) (fun e => by
    rcases e with e | e
    · exact h.nX e
    · have := h.lt; omega), grown_of X hb⟩
theorem Eng.did2 {w w1 w' : World} {X : Nat} {c : Cf} {l l' : List Ru} {N N' : List Pn} {LS LS' : List (List Nat)} {S : Nat → Prop} (h : Eng w X c l N LS S) (hb : Below w.heap.size w w1) (he : Eng w' X c l' N' LS' (fun k => w.heap.size ≤ k)) (hg : w1.grownBy w' (some X)) : Did w w' X c l' S :=
  ⟨N', LS', he.mono (fun k e => .inr e) (fun e => by
    rcases e with e | e
    · exact h.nX e
    · have := h.lt; omega), grown_below2 hb hg⟩
set_option maxHeartbeats 4000000 in
set_option maxRecDepth 20000 in
theorem insertE (X : Nat) (c : Cf) (l : List Ru) (N : List Pn) (LS : List (List Nat)) (S : Nat → Prop) (p : Int) (R : Ru) (w : World) (h : Eng w X c l N LS S) (b : BdR R) (hc : BdC c) (hm : c.m ≤ 64) :
    Calls Try.prog 10 #[.pointer (some ⟨X, 0, none⟩), .int .i64 p, .agg #[.int .i64 R.i, .int .u32 (R.s : Int), .int .i64 R.sl, .int .u32 (R.d : Int), .int .i64 R.dl, .int .u16 (R.p.1 : Int), .int .u16 (R.p.2 : Int), .int .u16 (R.q.1 : Int), .int .u16 (R.q.2 : Int), .int .u8 (R.m.1 : Int), .int .u8 (R.m.2 : Int), .int .i64 R.act]] w fun e w' => e = .returned (.int .i64 (pinE c l p R)) ∧ Did w w' X c (pinL c l p R) S := by
  have HE : Hid (Eng w X c l N LS S) := h
  obtain ⟨t, v, nv, lv, vs, he, hf⟩ := h.at'
  have hXl := h.lt
  have hb0 : Below w.heap.size w (w.alloc (.cells #[.int .i64 R.i, .int .u32 (R.s : Int), .int .i64 R.sl, .int .u32 (R.d : Int), .int .i64 R.dl, .int .u16 (R.p.1 : Int), .int .u16 (R.p.2 : Int), .int .u16 (R.q.1 : Int), .int .u16 (R.q.2 : Int), .int .u8 (R.m.1 : Int), .int .u8 (R.m.2 : Int), .int .i64 R.act] 46)) := (Below.refl _ _).alloc (Nat.le_refl _) _
  have HB0 : Hid (Below w.heap.size w (w.alloc (.cells #[.int .i64 R.i, .int .u32 (R.s : Int), .int .i64 R.sl, .int .u32 (R.d : Int), .int .i64 R.dl, .int .u16 (R.p.1 : Int), .int .u16 (R.p.2 : Int), .int .u16 (R.q.1 : Int), .int .u16 (R.q.2 : Int), .int .u8 (R.m.1 : Int), .int .u8 (R.m.2 : Int), .int .i64 R.act] 46))) := hb0
  have HX0 : Hid (w.heap[X]? = some (CE t c nv lv)) := he.blk
  have hD := draftPC X t c nv lv v l (w.alloc (.cells #[.int .i64 R.i, .int .u32 (R.s : Int), .int .i64 R.sl, .int .u32 (R.d : Int), .int .i64 R.dl, .int .u16 (R.p.1 : Int), .int .u16 (R.p.2 : Int), .int .u16 (R.q.1 : Int), .int .u16 (R.q.2 : Int), .int .u8 (R.m.1 : Int), .int .u8 (R.m.2 : Int), .int .i64 R.act] 46)) (blk_on he.blk hb0) (he.tab.on hb0) h.ok.few
  obtain ⟨y0, y1, y2, y3, y4, y5, y6, y7, y8, y9, y10, y11⟩ := blk12 (blk_new w (.cells #[.int .i64 R.i, .int .u32 (R.s : Int), .int .i64 R.sl, .int .u32 (R.d : Int), .int .i64 R.dl, .int .u16 (R.p.1 : Int), .int .u16 (R.p.2 : Int), .int .u16 (R.q.1 : Int), .int .u16 (R.q.2 : Int), .int .u8 (R.m.1 : Int), .int .u8 (R.m.2 : Int), .int .i64 R.act] 46))
  have Hy : Hid ((w.alloc (.cells #[.int .i64 R.i, .int .u32 (R.s : Int), .int .i64 R.sl, .int .u32 (R.d : Int), .int .i64 R.dl, .int .u16 (R.p.1 : Int), .int .u16 (R.p.2 : Int), .int .u16 (R.q.1 : Int), .int .u16 (R.q.2 : Int), .int .u8 (R.m.1 : Int), .int .u8 (R.m.2 : Int), .int .i64 R.act] 46)).heap[w.heap.size]? = some (.cells #[.int .i64 R.i, .int .u32 (R.s : Int), .int .i64 R.sl, .int .u32 (R.d : Int), .int .i64 R.dl, .int .u16 (R.p.1 : Int), .int .u16 (R.p.2 : Int), .int .u16 (R.q.1 : Int), .int .u16 (R.q.2 : Int), .int .u8 (R.m.1 : Int), .int .u8 (R.m.2 : Int), .int .i64 R.act] 46 (0, 0))) := blk_new w _
  clear he hf hb0 h y0 y1 y2 y3 y4 y5 y6 y7 y8 y9 y10 y11
  go_enter Try.func10, Try.ntmps10
  go_wp2_with (go_at_call 17; fail)
  refine hD.mono ?_
  rintro e w1 ⟨t1, v1, rfl, hT1, ht1, hv1, hb1⟩
  have hz0 : (w.alloc (.cells #[.int .i64 R.i, .int .u32 (R.s : Int), .int .i64 R.sl, .int .u32 (R.d : Int), .int .i64 R.dl, .int .u16 (R.p.1 : Int), .int .u16 (R.p.2 : Int), .int .u16 (R.q.1 : Int), .int .u16 (R.q.2 : Int), .int .u8 (R.m.1 : Int), .int .u8 (R.m.2 : Int), .int .i64 R.act] 46)).heap.size = w.heap.size + 1 := by simp
  have HB1 : Hid (Below w.heap.size w w1) := HB0.out.trans (hb1.mono HB0.out.size)
  have Ht1 : Hid (w.heap.size < t1) := by show _ < _; omega
  have Hv1 : Hid (∀ k, v1.ownBlock = some k → w.heap.size < k) := fun k e => by have := hv1 k e; omega
  have hI := insertC t1 v1 c.m c.a l p R w1 hT1 (Nat.le_trans HE.out.ok.few (by decide)) b hc.1
  obtain ⟨y0, y1, y2, y3, y4, y5, y6, y7, y8, y9, y10, y11⟩ := blk12 (blk_on Hy.out hb1)
  clear hT1 ht1 hv1 hb1 hD hz0
  go_wp2_with (go_at_call 21; fail)
  refine hI.mono ?_
  rintro e w2 ⟨rfl, v2, hT2, hm2⟩
  have HB2 : Hid (Below w.heap.size w w2) := hm2.below' HB1.out HB1.out.size (Nat.le_of_lt Ht1.out) (fun k e => Nat.le_of_lt (Hv1.out k e))
  have Hv2 : Hid (∀ k, v2.ownBlock = some k → w.heap.size ≤ k) := hm2.ge HB1.out.size (fun k e => Nat.le_of_lt (Hv1.out k e))
  have HT2 : Hid (Tab w2 t1 v2 c.m c.a (insL l c.m p R)) := hT2
  clear hT2 hm2 hI y0 y1 y2 y3 y4 y5 y6 y7 y8 y9 y10 y11
  by_cases h0 : insE l c.m p R = 0
  · have Hp : Hid (pinE c l p R = roomE c (putL l p.toNat R)) := if_pos h0
    have HoN : Hid (OkN (putL l p.toNat R)) := okN_ins HE.out.ok h0 hm
    have HbN : Hid (∀ S ∈ putL l p.toNat R, BdR S) := fun S hS => by
      rcases putL_mem hS with rfl | hS
      · exact b
      · exact HE.out.bd S hS
    have hT3 := HT2.out
    rw [show insL l c.m p R = putL l p.toNat R from if_pos h0] at hT3
    have hTk := takeIfRoomPC X t t1 w.heap.size c nv lv v2 (putL l p.toNat R) w2 (blk_on HX0.out HB2.out) hT3 hXl (Nat.le_of_lt Ht1.out) Hv2.out HB2.out.size HoN.out HbN.out
    have Hpl : Hid (roomE c (putL l p.toNat R) = 0 → pinL c l p R = putL l p.toNat R) := fun e => if_pos (by rw [Hp.out]; exact e)
    have Hpn : Hid (roomE c (putL l p.toNat R) ≠ 0 → pinL c l p R = l) := fun e => if_neg (by rw [Hp.out]; exact e)
    rw [h0]
    clear h0 hT3
    go_wp2_with (go_at_call 19; fail)
    refine hTk.mono ?_
    rintro e w4 ⟨rfl, hw4⟩
    have HW4 : Hid _ := hw4
    clear hw4 hTk
    generalize roomE c (putL l p.toNat R) = E4 at *
    go_wp2_with (fail)
    go_ret
    refine ⟨ret_int Hp.out.symm, ?_⟩
    rcases HW4.out with ⟨e0, hb4⟩ | ⟨e0, N4, LS4, he4, hg4⟩
    · rw [Hpn.out e0]
      exact HE.out.did (HB2.out.trans (hb4.mono HB2.out.size))
    · rw [Hpl.out e0]
      exact HE.out.did2 HB2.out he4 hg4
  · have Hp : Hid (pinE c l p R = insE l c.m p R) := if_neg h0
    have Hpl : Hid (pinL c l p R = l) := if_neg (by rw [Hp.out]; exact h0)
    have h0' : (insE l c.m p R != 0) = true := by simpa using h0
    generalize insE l c.m p R = E2 at *
    go_wp2_with (fail)
    go_ret
    exact ⟨ret_int Hp.out.symm, by rw [Hpl.out]; exact HE.out.did HB2.out⟩
set_option maxHeartbeats 4000000 in
set_option maxRecDepth 20000 in
theorem deleteE (X : Nat) (c : Cf) (l : List Ru) (N : List Pn) (LS : List (List Nat)) (S : Nat → Prop) (x : Int) (w : World) (h : Eng w X c l N LS S) :
    Calls Try.prog 11 #[.pointer (some ⟨X, 0, none⟩), .int .i64 x] w fun e w' => e = .returned (.int .i64 (delE l x)) ∧ Did w w' X c (delL l x) S := by
  have HE : Hid (Eng w X c l N LS S) := h
  obtain ⟨t, v, nv, lv, vs, he, hf⟩ := h.at'
  have hXl := h.lt
  have HX0 : Hid (w.heap[X]? = some (CE t c nv lv)) := he.blk
  have hD := draftPC X t c nv lv v l w he.blk he.tab h.ok.few
  clear he hf h
  go_enter Try.func11, Try.ntmps11
  go_wp2_with (go_at_call 17; fail)
  refine hD.mono ?_
  rintro e w1 ⟨t1, v1, rfl, hT1, ht1, hv1, hb1⟩
  have HB1 : Hid (Below w.heap.size w w1) := hb1
  have Ht1 : Hid (w.heap.size ≤ t1) := ht1
  have Hv1 : Hid (∀ k, v1.ownBlock = some k → w.heap.size ≤ k) := hv1
  have hI := deleteC t1 v1 c.m c.a l x w1 hT1 (Nat.le_trans HE.out.ok.few (by decide))
  clear hT1 ht1 hv1 hb1 hD
  go_wp2_with (go_at_call 22; fail)
  refine hI.mono ?_
  rintro e w2 ⟨rfl, v2, hT2, hm2⟩
  have HB2 : Hid (Below w.heap.size w w2) := hm2.below' HB1.out HB1.out.size Ht1.out Hv1.out
  have Hv2 : Hid (∀ k, v2.ownBlock = some k → w.heap.size ≤ k) := hm2.ge HB1.out.size Hv1.out
  have HT2 : Hid (Tab w2 t1 v2 c.m c.a (delL l x)) := hT2
  clear hT2 hm2 hI
  by_cases h0 : 0 ≤ fnd l x
  · have Hp : Hid (delE l x = 0) := if_pos h0
    have hTk := takePC X t t1 w.heap.size c nv lv v2 (delL l x) w2 (blk_on HX0.out HB2.out) HT2.out hXl Ht1.out Hv2.out HB2.out.size (okN_sub HE.out.ok (delL_sub l x)) (fun R hR => HE.out.bd R ((delL_sub l x).subset hR))
    rw [Hp.out]
    clear h0
    go_wp2_with (go_at_call 23; fail)
    refine hTk.mono ?_
    rintro e w4 ⟨rfl, N4, LS4, he4, hg4⟩
    have H4 : Hid _ := he4
    have H5 : Hid _ := hg4
    clear he4 hg4 hTk
    go_wp2_with (fail)
    go_ret
    exact ⟨ret_int Hp.out.symm, HE.out.did2 HB2.out H4.out H5.out⟩
  · have Hp : Hid (delE l x = 114) := if_neg h0
    have Hpl : Hid (delL l x = l) := if_neg h0
    rw [Hp.out]
    clear h0
    go_wp2_with (fail)
    go_ret
    exact ⟨ret_int Hp.out.symm, by rw [Hpl.out]; exact HE.out.did HB2.out⟩
set_option maxHeartbeats 4000000 in
set_option maxRecDepth 20000 in
theorem setEE (X : Nat) (c : Cf) (l : List Ru) (N : List Pn) (LS : List (List Nat)) (S : Nat → Prop) (u : Value) (m : List Ru) (w : World) (h : Eng w X c l N LS S) (hs : SrcU w u m) (hml : m.length ≤ 200000) (b : ∀ R ∈ m, BdR R) (hc : BdC c) (hm : c.m ≤ 64) :
    Calls Try.prog 7 #[.pointer (some ⟨X, 0, none⟩), u] w fun e w' => e = .returned (.int .i64 (psetE c m)) ∧ Did w w' X c (psetL c m l) S := by
  have HE : Hid (Eng w X c l N LS S) := h
  obtain ⟨t, v, nv, lv, vs, he, hf⟩ := h.at'
  have hXl := h.lt
  have HX0 : Hid (w.heap[X]? = some (CE t c nv lv)) := he.blk
  have hD := draftPC X t c nv lv v l w he.blk he.tab h.ok.few
  have HS : Hid (SrcU w u m) := hs
  obtain ⟨au, cu, hue, _⟩ := hs
  obtain ⟨n, hn⟩ : ∃ n, n = m.length := ⟨_, rfl⟩
  rw [← hn] at hue
  subst hue
  clear he hf h hn
  go_enter Try.func7, Try.ntmps7
  go_wp2_with (go_at_call 17; fail)
  refine hD.mono ?_
  rintro e w1 ⟨t1, v1, rfl, hT1, ht1, hv1, hb1⟩
  have HB1 : Hid (Below w.heap.size w w1) := hb1
  have Ht1 : Hid (w.heap.size ≤ t1) := ht1
  have Hv1 : Hid (∀ k, v1.ownBlock = some k → w.heap.size ≤ k) := hv1
  have hI := setC t1 v1 c.m c.a l _ m w1 hT1 (HS.out.keep hb1) hml hc.1 (fun k hk => b _ (List.getElem_mem hk))
  clear hT1 ht1 hv1 hb1 hD
  go_wp2_with (go_at_call 18; fail)
  refine hI.mono ?_
  rintro e w2 ⟨rfl, v2, hT2, hm2⟩
  have HB2 : Hid (Below w.heap.size w w2) := hm2.below' HB1.out HB1.out.size Ht1.out Hv1.out
  have Hv2 : Hid (∀ k, v2.ownBlock = some k → w.heap.size ≤ k) := hm2.ge HB1.out.size Hv1.out
  by_cases h0 : setE m c.m = 0
  · have Hp : Hid (psetE c m = roomE c m) := if_pos h0
    rw [if_pos h0] at hT2
    have HT2 : Hid (Tab w2 t1 v2 c.m c.a m) := hT2
    have hTk := takeIfRoomPC X t t1 w.heap.size c nv lv v2 m w2 (blk_on HX0.out HB2.out) hT2 hXl Ht1.out Hv2.out HB2.out.size (OkN.of_set h0 hm) b
    rw [h0]
    clear h0 hT2 hm2 hI
    go_wp2_with (go_at_call 19; fail)
    refine hTk.mono ?_
    rintro e w4 ⟨rfl, hw4⟩
    have HW4 : Hid _ := hw4
    clear hw4 hTk
    generalize roomE c m = E4 at *
    go_wp2_with (fail)
    go_ret
    refine ⟨ret_int Hp.out.symm, ?_⟩
    unfold psetL
    rw [Hp.out]
    rcases HW4.out with ⟨e0, hb4⟩ | ⟨e0, N4, LS4, he4, hg4⟩
    · rw [if_neg e0]
      exact HE.out.did (HB2.out.trans (hb4.mono HB2.out.size))
    · rw [if_pos e0]
      exact HE.out.did2 HB2.out he4 hg4
  · have Hp : Hid (psetE c m = setE m c.m) := if_neg h0
    have Hne : Hid (¬ setE m c.m = 0) := h0
    have h0' : (setE m c.m != 0) = true := by simpa using h0
    clear hT2 hm2 hI h0
    generalize setE m c.m = E2 at *
    go_wp2_with (fail)
    go_ret
    exact ⟨ret_int Hp.out.symm, by unfold psetL; rw [Hp.out, if_neg Hne.out]; exact HE.out.did HB2.out⟩
end Go.Proofs.Ytcpcljdnkekogaa
/-
  The engine's Ask and Stats.
-/
namespace Go.Proofs.Ytcpcljdnkekogaa
open Go.RowKit
set_option linter.unusedVariables false
set_option linter.unusedSimpArgs false

theorem results_rows2 {P : Program} {fn : Func} {tmps : Array Value} {w : World} {t u : Tmp} {ty ty2 T U : TypeId} {d d2 : TypeDesc} {B C : Nat} {cs ds : Array Value} {fr fr2 : Nat × Nat} (h : fn.results = #[.cell t ty, .cell u ty2]) (hp : tmps.getD t undef = .pointer (some ⟨B, 0, none⟩)) (hq : tmps.getD u undef = .pointer (some ⟨C, 0, none⟩))
    (hb : w.heap[B]? = some (.cells cs T fr)) (hu : P.underlying ty = some d) (hd : d.isRow = true) (hi : (P.info? ty).map (·.size) = some cs.size)
    (hc : w.heap[C]? = some (.cells ds U fr2)) (hu2 : P.underlying ty2 = some d2) (hd2 : d2.isRow = true) (hi2 : (P.info? ty2).map (·.size) = some ds.size) : (results fn tmps).run P w = .ok (.tuple #[.agg cs, .agg ds]) w := by
  have hl := run_loadVar_mid (P := P) w B 0 ty cs.toList d (by have := World.rangeAt_of_block hb 0 cs.size; simpa using this) hu hd (by simpa using hi)
  have hl2 := run_loadVar_mid (P := P) w C 0 ty2 ds.toList d2 (by have := World.rangeAt_of_block hc 0 ds.size; simpa using this) hu2 hd2 (by simpa using hi2)
  have hp2 : tmps[t]?.getD undef = .pointer (some ⟨B, 0, none⟩) := by simpa using hp
  have hq2 : tmps[u]?.getD undef = .pointer (some ⟨C, 0, none⟩) := by simpa using hq
  simp [results, h, hp2, hq2, asAddr, hl, hl2]
theorem Eng.size {w : World} {X : Nat} {c : Cf} {l : List Ru} {N : List Pn} {LS : List (List Nat)} {S : Nat → Prop} (h : Eng w X c l N LS S) : N.length ≤ 200000 ∧ LS.length ≤ 200000 ∧ pnTot LS ≤ 262144 := by
  have hf := h.ok.few
  have hs := h.plt.sum
  have hp := prn_le (W := witX) (l := l.map pr)
  rw [List.length_map] at hp
  have hm : l.length * (l.length * l.length) ≤ 64 * (64 * 64) := Nat.mul_le_mul hf (Nat.mul_le_mul hf hf)
  rcases h.plt with ⟨_, e2, e3⟩ | ⟨_, G, P⟩
  · rw [e2, e3]; simp [pnTot]
  · have := P.small hf (Nat.le_refl _)
    exact ⟨this.1, this.2, by omega⟩
/-- A verdict, steps, as values. -/
def vdV (c : Cf) (l : List Ru) (h : Hd) : Value := .agg #[.bool (vdH (mat l h)), .int .i64 (vdI l (mat l h)), .int .i64 (vdA c.a l (mat l h))]
def stV (N : List Pn) (l : List Ru) (h : Hd) : Value := .agg #[.int .i64 (fndN N h : Nat), .int .i64 (cntR l h : Nat), .int .i64 0, .int .i64 0, .int .i64 0]
def saV (N : List Pn) (LS : List (List Nat)) : Value := .agg #[.int .i64 (N.length : Nat), .int .i64 (pnTot LS : Nat), .int .i64 0, .int .i64 0]
set_option maxHeartbeats 8000000 in
set_option maxRecDepth 20000 in
theorem askE (X : Nat) (c : Cf) (l : List Ru) (N : List Pn) (LS : List (List Nat)) (S : Nat → Prop) (h : Hd) (w : World) (hE : Eng w X c l N LS S) (oh : OkH h) :
    Calls Try.prog 12 #[.pointer (some ⟨X, 0, none⟩), .agg #[.int .u32 (h.s : Int), .int .u32 (h.d : Int), .int .u16 (h.p : Int), .int .u16 (h.q : Int), .int .u8 (h.r : Int)]] w fun e w' => e = .returned (.tuple #[vdV c l h, stV N l h]) ∧ Below w.heap.size w w' := by
  have hsz := hE.size
  have okA := hE.ok.all hE.bd
  have hP := hE.plt
  have hfew := hE.ok.few
  obtain ⟨t, v, nv, lv, vs, he, _⟩ := hE.at'
  obtain ⟨x0, x1, x2, x3, x4, _⟩ := blkE he.blk
  have hFo : Fo w X 3 nv lv vs N LS := ⟨x3, x4, he.fr⟩
  have hFd : ∀ W, Below w.heap.size w W → Calls Try.prog 24 #[.pointer (some ⟨X, 3, none⟩), .agg #[.int .u32 (h.s : Int), .int .u32 (h.d : Int), .int .u16 (h.p : Int), .int .u16 (h.q : Int), .int .u8 (h.r : Int)]] W fun e w' => e = .returned (.tuple #[fndV N vs h, .int .i64 (fndN N h : Nat)]) ∧ Below W.heap.size W w' := fun W hb => findFC X 3 nv lv vs N LS l h W (hFo.on hb) hP okA oh (by omega) (by omega)
  have hFi : ∀ W, Below w.heap.size w W → Calls Try.prog 25 #[.pointer (some ⟨X, 0, none⟩), fndV N vs h, .agg #[.int .u32 (h.s : Int), .int .u32 (h.d : Int), .int .u16 (h.p : Int), .int .u16 (h.q : Int), .int .u8 (h.r : Int)]] W fun e w' => e = .returned (.tuple #[.agg #[.bool (vdH (mat l h)), .int .i64 (vdI l (mat l h)), .int .i64 (vdA c.a l (mat l h))], .int .i64 (cntR l h : Nat)]) ∧ Below W.heap.size W w' := fun W hb => firstC X t v c.m c.a c.a l h _ W (cell_on1 hb x0) (cell_on1 hb x1) (he.tab.on hb) (fndV_src (he.fr.on hb) hP okA oh) okA hfew oh
  obtain ⟨fa, fc, hfv⟩ := fndV_sh he.fr hP okA oh
  generalize (prsL l h).length = fn at hfv
  unfold vdV stV
  rw [hfv] at hFd hFi
  have hK66 : fndN N h ≤ 66 := fndN_le hP okA oh
  have hC64 : cntR l h ≤ 64 := Nat.le_trans (cntR_le l h) (Nat.le_trans (Nat.le_trans (List.length_filter_le _ _) (by simp)) hfew)
  generalize fndN N h = K at *
  generalize cntR l h = C at *
  generalize vdH (mat l h) = vb at *
  generalize vdI l (mat l h) = vi at *
  generalize vdA c.a l (mat l h) = va at *
  have hXl : X < w.heap.size := blk_lt he.blk
  obtain ⟨w0, hw0⟩ : ∃ w0, w0 = ((w.alloc (.cells #[.int .u32 (h.s : Int), .int .u32 (h.d : Int), .int .u16 (h.p : Int), .int .u16 (h.q : Int), .int .u8 (h.r : Int)] 55)).alloc (.cells #[.bool false, .int .i64 0, .int .i64 0] 49)).alloc (.cells #[.int .i64 0, .int .i64 0, .int .i64 0, .int .i64 0, .int .i64 0] 51) := ⟨_, rfl⟩
  have HB0 : Hid (Below w.heap.size w w0) := by rw [hw0]; exact (((Below.refl _ _).alloc (Nat.le_refl _) _).alloc (by simp) _).alloc (by simp; omega) _
  have HH0 : Hid (w0.heap[w.heap.size]? = some (.cells #[.int .u32 (h.s : Int), .int .u32 (h.d : Int), .int .u16 (h.p : Int), .int .u16 (h.q : Int), .int .u8 (h.r : Int)] 55 (0, 0))) := by rw [hw0]; exact blk_alloc (blk_alloc (blk_new w _) _) _
  have HV0 : Hid (w0.heap[w.heap.size + 1]? = some (.cells #[.bool false, .int .i64 0, .int .i64 0] 49 (0, 0))) := by
    have := blk_alloc (blk_new (w.alloc (.cells #[.int .u32 (h.s : Int), .int .u32 (h.d : Int), .int .u16 (h.p : Int), .int .u16 (h.q : Int), .int .u8 (h.r : Int)] 55)) (.cells #[.bool false, .int .i64 0, .int .i64 0] 49)) (.cells #[.int .i64 0, .int .i64 0, .int .i64 0, .int .i64 0, .int .i64 0] 51)
    rw [← hw0] at this
    show _ = _
    simpa using this
  have HS0 : Hid (w0.heap[w.heap.size + 1 + 1]? = some (.cells #[.int .i64 0, .int .i64 0, .int .i64 0, .int .i64 0, .int .i64 0] 51 (0, 0))) := by
    have := blk_new ((w.alloc (.cells #[.int .u32 (h.s : Int), .int .u32 (h.d : Int), .int .u16 (h.p : Int), .int .u16 (h.q : Int), .int .u8 (h.r : Int)] 55)).alloc (.cells #[.bool false, .int .i64 0, .int .i64 0] 49)) (.cells #[.int .i64 0, .int .i64 0, .int .i64 0, .int .i64 0, .int .i64 0] 51)
    rw [← hw0] at this
    show _ = _
    simpa using this
  have hw0s : ((w.alloc (.cells #[.int .u32 (h.s : Int), .int .u32 (h.d : Int), .int .u16 (h.p : Int), .int .u16 (h.q : Int), .int .u8 (h.r : Int)] 55)).alloc (.cells #[.bool false, .int .i64 0, .int .i64 0] 49)).alloc (.cells #[.int .i64 0, .int .i64 0, .int .i64 0, .int .i64 0, .int .i64 0] 51) = w0 := hw0.symm
  obtain ⟨Bv, hBv⟩ : ∃ B, B = w.heap.size + 1 := ⟨_, rfl⟩
  obtain ⟨Bs, hBs⟩ : ∃ B, B = w.heap.size + 1 + 1 := ⟨_, rfl⟩
  have HBv : Hid (w.heap.size ≤ Bv) := by show _ ≤ _; omega
  have HBs : Hid (w.heap.size ≤ Bs) := by show _ ≤ _; omega
  have HBn : Hid (Bs ≠ Bv) := by show _ ≠ _; omega
  rw [← hBs] at HS0
  rw [← hBv] at HV0
  have He1 : Hid (w.heap.size + 1 + 1 = Bs) := hBs.symm
  have He2 : Hid (w.heap.size + 1 = Bv) := hBv.symm
  clear hBs hBv
  clear hw0 hFo he x0 x1 x2 x3 x4 hP okA hE hfv hsz
  go_enter Try.func12, Try.ntmps12
  go_upto_region 3 with (fail)
  have e1 := He1.out
  have e2 := He2.out
  try simp only [hw0s, World.size_alloc, e1]
  try simp only [e2]
  clear hw0s e1 e2 He1 He2
  obtain ⟨z0, z1, z2, z3, z4⟩ := blk5 HH0.out
  have hzb : w.heap.size < w0.heap.size := blk_lt HH0.out
  have kne : Nonempty (Kin (w0)) := ⟨⟨_, Below.refl _ _⟩⟩
  have kc0 : ∀ y : Kin (w0), y.val.cell? ⟨w.heap.size, 0, none⟩ = some (.int .u32 (h.s : Int)) := fun y => by rw [kin_cell (by first | omega | (simp <;> omega))]; first | assumption | (simp [go_sem]; done) | simp [go_sem, *]
  have kc1 : ∀ y : Kin (w0), y.val.cell? ⟨w.heap.size, 1, none⟩ = some (.int .u32 (h.d : Int)) := fun y => by rw [kin_cell (by first | omega | (simp <;> omega))]; first | assumption | (simp [go_sem]; done) | simp [go_sem, *]
  have kc2 : ∀ y : Kin (w0), y.val.cell? ⟨w.heap.size, 2, none⟩ = some (.int .u16 (h.p : Int)) := fun y => by rw [kin_cell (by first | omega | (simp <;> omega))]; first | assumption | (simp [go_sem]; done) | simp [go_sem, *]
  have kc3 : ∀ y : Kin (w0), y.val.cell? ⟨w.heap.size, 3, none⟩ = some (.int .u16 (h.q : Int)) := fun y => by rw [kin_cell (by first | omega | (simp <;> omega))]; first | assumption | (simp [go_sem]; done) | simp [go_sem, *]
  have kc4 : ∀ y : Kin (w0), y.val.cell? ⟨w.heap.size, 4, none⟩ = some (.int .u8 (h.r : Int)) := fun y => by rw [kin_cell (by first | omega | (simp <;> omega))]; first | assumption | (simp [go_sem]; done) | simp [go_sem, *]
  refine wp_region_kin (w0) (Below.refl _ _) (by kernel_rfl) (by kernel_rfl) ?_
  repeat (go_big_quiet_step (first | (go_at_call 24; exact kin_call (hFd _ (HB0.out.trans (Below.mono (Kin.is _) HB0.out.size))))))
  refine wpQuiet_nil ?_
  rintro wq ⟨⟨xq, hxq⟩, hyq⟩
  have hq : Below (w0).heap.size (w0) wq := by rw [hyq]; exact hxq
  clear hyq hxq xq
  clear kne kc0 kc1 kc2 kc3 kc4
  obtain ⟨hcq, hfq⟩ := bcell hq
  have hzq := hq.size
  try simp at hzq
  have HBq : Hid (Below w.heap.size w wq) := HB0.out.trans (hq.mono HB0.out.size)
  have HHq : Hid (wq.heap[w.heap.size]? = some (.cells #[.int .u32 (h.s : Int), .int .u32 (h.d : Int), .int .u16 (h.p : Int), .int .u16 (h.q : Int), .int .u8 (h.r : Int)] 55 (0, 0))) := blk_on HH0.out hq
  have HVq : Hid (wq.heap[Bv]? = some (.cells #[.bool false, .int .i64 0, .int .i64 0] 49 (0, 0))) := blk_on HV0.out hq
  have HSq : Hid (wq.heap[Bs]? = some (.cells #[.int .i64 0, .int .i64 0, .int .i64 0, .int .i64 0, .int .i64 0] 51 (0, 0))) := blk_on HS0.out hq
  clear hq hcq hfq hzq hFd z0 z1 z2 z3 z4 HB0 HH0 HV0 HS0 hzb
  clear w0
  go_upto_region 4 with (fail)
  have hz := blk5 HHq.out
  have hHd : ∀ W, Below wq.heap.size wq W → W.cell? ⟨w.heap.size, 0, none⟩ = some (.int .u32 (h.s : Int)) ∧ W.cell? ⟨w.heap.size, 1, none⟩ = some (.int .u32 (h.d : Int)) ∧ W.cell? ⟨w.heap.size, 2, none⟩ = some (.int .u16 (h.p : Int)) ∧ W.cell? ⟨w.heap.size, 3, none⟩ = some (.int .u16 (h.q : Int)) ∧ W.cell? ⟨w.heap.size, 4, none⟩ = some (.int .u8 (h.r : Int)) := fun W hb => ⟨cell_on1 hb hz.1, cell_on1 hb hz.2.1, cell_on1 hb hz.2.2.1, cell_on1 hb hz.2.2.2.1, cell_on1 hb hz.2.2.2.2⟩
  clear hz
  refine wp_region_held_drew (S := fun w' => Below wq.heap.size wq w') (by kernel_rfl) (Below.refl _ _).drew (fun hS0 => ?_)
  show wpAnyH _ _ _ _ _ 12 _ _ _
  refine wpAnyH_take (i := 0) (v := .pointer (some ⟨X, 0, none⟩)) rfl (by kernel_rfl) (by kernel_rfl) (by kernel_rfl) (fun _ _ _ h => h) (.inl ⟨rfl, fun _ _ => by simp [execOp, go_sem]⟩) hS0 ?_
  simp only [List.getElem_toArray, List.getElem_cons_succ, List.getElem_cons_zero, Act.put, List.setIfInBounds_toArray, List.set_cons_zero, List.set_cons_succ]
  refine wpAnyH_take (i := 1) (v := .pointer (some ⟨X, 0, none⟩)) rfl (by kernel_rfl) (by kernel_rfl) (by kernel_rfl) (fun _ _ _ h => h) (.inl ⟨rfl, fun _ _ => by simp [execOp, go_sem]⟩) hS0 ?_
  simp only [List.getElem_toArray, List.getElem_cons_succ, List.getElem_cons_zero, Act.put, List.setIfInBounds_toArray, List.set_cons_zero, List.set_cons_succ]
  refine wpAnyH_take (i := 2) (v := .pointer (some ⟨X, 0, none⟩)) rfl (by kernel_rfl) (by kernel_rfl) (by kernel_rfl) (fun _ _ _ h => h) (.inl ⟨rfl, fun _ _ => by simp [execOp, go_sem]⟩) hS0 ?_
  simp only [List.getElem_toArray, List.getElem_cons_succ, List.getElem_cons_zero, Act.put, List.setIfInBounds_toArray, List.set_cons_zero, List.set_cons_succ]
  refine wpAnyH_take (i := 3) (v := .slice fa fn fc) rfl (by kernel_rfl) (by kernel_rfl) (by kernel_rfl) (fun _ _ _ h => h) (.inl ⟨rfl, fun _ _ => by simp [execOp, go_sem]⟩) hS0 ?_
  simp only [List.getElem_toArray, List.getElem_cons_succ, List.getElem_cons_zero, Act.put, List.setIfInBounds_toArray, List.set_cons_zero, List.set_cons_succ]
  refine wpAnyH_take (i := 4) (v := .agg #[.int .u32 (h.s : Int), .int .u32 (h.d : Int), .int .u16 (h.p : Int), .int .u16 (h.q : Int), .int .u8 (h.r : Int)]) rfl (by kernel_rfl) (by kernel_rfl) (by kernel_rfl) (fun _ _ _ h => h) (.inl ⟨rfl, fun w' hw' => by obtain ⟨k0, k1, k2, k3, k4⟩ := hHd w' hw'; simp [execOp, go_sem, k0, k1, k2, k3, k4]⟩) hS0 ?_
  simp only [List.getElem_toArray, List.getElem_cons_succ, List.getElem_cons_zero, Act.put, List.setIfInBounds_toArray, List.set_cons_zero, List.set_cons_succ]
  refine wpAnyH_all (rs := [5, 9]) (by kernel_rfl) (by simp) ?_
  intro i0 hi0
  simp only [List.mem_cons, List.not_mem_nil, or_false] at hi0
  rcases hi0 with hi0 | hi0
  · subst hi0
    refine wpOp_of_wp rfl rfl (fun K' hK' => ?_)
    have hBc := HBq.out.trans ((hS0).mono HBq.out.size)
    go_wp2_with (go_at_call 25; refine (hFi _ hBc).mono ?_; rintro e w3 ⟨rfl, hb3⟩)
    have hS3 : Below wq.heap.size wq w3 := hS0.trans (hb3.mono hS0.size)
    refine ⟨hS3, ?_⟩
    try simp only [List.getElem_toArray, List.getElem_cons_succ, List.getElem_cons_zero, Act.put, List.setIfInBounds_toArray, List.set_cons_zero, List.set_cons_succ]
    refine wpAnyH_take (i := 6) (v := .tuple #[.agg #[.bool vb, .int .i64 vi, .int .i64 va], .int .i64 (C : Int)]) rfl (by kernel_rfl) (by kernel_rfl) (by kernel_rfl) (fun _ _ _ h => h) (.inl ⟨rfl, fun _ _ => by simp [execOp, go_sem]⟩) hS3 ?_
    simp only [List.getElem_toArray, List.getElem_cons_succ, List.getElem_cons_zero, Act.put, List.setIfInBounds_toArray, List.set_cons_zero, List.set_cons_succ]
    refine wpAnyH_take (i := 7) (v := .agg #[.bool vb, .int .i64 vi, .int .i64 va]) rfl (by kernel_rfl) (by kernel_rfl) (by kernel_rfl) (fun _ _ _ h => h) (.inl ⟨rfl, fun _ _ => by simp [execOp, go_sem]⟩) hS3 ?_
    simp only [List.getElem_toArray, List.getElem_cons_succ, List.getElem_cons_zero, Act.put, List.setIfInBounds_toArray, List.set_cons_zero, List.set_cons_succ]
    refine wpAnyH_take (i := 8) (v := .int .i64 (C : Int)) rfl (by kernel_rfl) (by kernel_rfl) (by kernel_rfl) (fun _ _ _ h => h) (.inl ⟨rfl, fun _ _ => by simp [execOp, go_sem]⟩) hS3 ?_
    simp only [List.getElem_toArray, List.getElem_cons_succ, List.getElem_cons_zero, Act.put, List.setIfInBounds_toArray, List.set_cons_zero, List.set_cons_succ]
    refine wpAnyH_all (rs := [9]) (by kernel_rfl) (by simp) ?_
    intro i0 hi0
    simp only [List.mem_cons, List.not_mem_nil, or_false] at hi0
    subst hi0
    refine wpOp_of_wp rfl rfl (fun K' hK' => ?_)
    have hS6 : Below wq.heap.size wq (w3.alloc (.cells #[.bool false, .int .i64 0, .int .i64 0] 49)) := hS3.alloc hS3.size _
    have h6 : (w3.alloc (.cells #[.bool false, .int .i64 0, .int .i64 0] 49)).heap[w3.heap.size]? = some (.cells #[.bool false, .int .i64 0, .int .i64 0] 49 (0, 0)) := blk_new w3 _
    have hB6 : wq.heap.size ≤ w3.heap.size := hS3.size
    go_wp2_with (fail)
    refine ⟨hS6, ?_⟩
    try simp only [List.getElem_toArray, List.getElem_cons_succ, List.getElem_cons_zero, Act.put, List.setIfInBounds_toArray, List.set_cons_zero, List.set_cons_succ]
    refine wpAnyH_all (rs := [10]) (by kernel_rfl) (by simp) ?_
    intro i0 hi0
    simp only [List.mem_cons, List.not_mem_nil, or_false] at hi0
    subst hi0
    refine wpOp_of_wp rfl rfl (fun K' hK' => ?_)
    refine wp_store_blk 49 (.tmp 8) (.tmp 29) rfl w3.heap.size 0 #[.bool vb, .int .i64 vi, .int .i64 va] #[.bool vb, .int .i64 vi, .int .i64 va] rfl rfl 49 _ h6 (Nat.le_of_ble_eq_true rfl) rfl (by kernel_rfl) rfl ?_
    intro w7 h7 ho7
    have hS7 : Below wq.heap.size wq w7 := hS6.trans (ho7.below hB6)
    refine hK' _ _ ⟨hS7, ?_⟩
    try simp only [List.getElem_toArray, List.getElem_cons_succ, List.getElem_cons_zero, Act.put, List.setIfInBounds_toArray, List.set_cons_zero, List.set_cons_succ]
    refine wpAnyH_take (i := 11) (v := .int .i64 (C : Int)) rfl (by kernel_rfl) (by kernel_rfl) (by kernel_rfl) (fun _ _ _ h => h) (.inl ⟨rfl, fun _ _ => by simp [execOp, go_sem]⟩) hS7 ?_
    simp only [List.getElem_toArray, List.getElem_cons_succ, List.getElem_cons_zero, Act.put, List.setIfInBounds_toArray, List.set_cons_zero, List.set_cons_succ]
    refine wpAnyH_done (by kernel_rfl) ?_ _
    try simp only [List.getElem_toArray, List.getElem_cons_succ, List.getElem_cons_zero, Act.put, List.setIfInBounds_toArray, List.set_cons_zero, List.set_cons_succ]
    have HB7 : Hid (Below w.heap.size w w7) := HBq.out.trans (hS7.mono HBq.out.size)
    have HV7 : Hid (w7.heap[Bv]? = some (.cells #[.bool false, .int .i64 0, .int .i64 0] 49 (0, 0))) := blk_on HVq.out hS7
    have HS7 : Hid (w7.heap[Bs]? = some (.cells #[.int .i64 0, .int .i64 0, .int .i64 0, .int .i64 0, .int .i64 0] 51 (0, 0))) := blk_on HSq.out hS7
    obtain ⟨q0, q1, q2⟩ := blk3 h7
    generalize hB6e : w3.heap.size = B6 at *
    clear h7 ho7 hS7 h6 hS6 hB6 hB6e hHd hFi
    go_wp2_with (first | (refine wpList_store_blk rfl 49 (.tmp 4) (.tmp 31) rfl Bv 0 #[.bool vb, .int .i64 vi, .int .i64 va] #[.bool vb, .int .i64 vi, .int .i64 va] rfl rfl 49 _ HV7.out (Nat.le_of_ble_eq_true rfl) rfl (by kernel_rfl) rfl ?_; intro w8 hw8 how8; have HS8 : Hid (w8.heap[Bs]? = some (.cells #[.int .i64 0, .int .i64 0, .int .i64 0, .int .i64 0, .int .i64 0] 51 (0, 0))) := (how8.block Bs HBn.out).trans HS7.out) | (refine wpList_store_blk rfl 51 (.tmp 5) (.tmp 34) rfl Bs 0 #[.int .i64 (K : Int), .int .i64 (C : Int), .int .i64 0, .int .i64 0, .int .i64 0] #[.int .i64 (K : Int), .int .i64 (C : Int), .int .i64 0, .int .i64 0, .int .i64 0] rfl rfl 51 _ HS8.out (Nat.le_of_ble_eq_true rfl) rfl (by kernel_rfl) rfl ?_; intro w9 hw9 how9))
    refine bodyPost_ret (results_rows2 Try.results12 rfl rfl ((how9.block Bv (fun e => HBn.out e.symm)).trans hw8) Try.underlying49 rfl (by kernel_rfl) hw9 Try.underlying51 rfl (by kernel_rfl)) rfl ?_
    exact ⟨rfl, (HB7.out.trans (how8.below HBv.out)).trans (how9.below HBs.out)⟩
  · subst hi0
    refine wpOp_of_wp rfl rfl (fun K' hK' => ?_)
    have hS4 : Below wq.heap.size wq (wq.drew.alloc (.cells #[.bool false, .int .i64 0, .int .i64 0] 49)) := hS0.alloc (Nat.le_refl _) _
    have h4 : (wq.drew.alloc (.cells #[.bool false, .int .i64 0, .int .i64 0] 49)).heap[wq.drew.heap.size]? = some (.cells #[.bool false, .int .i64 0, .int .i64 0] 49 (0, 0)) := blk_new wq.drew _
    go_wp2_with (fail)
    refine ⟨hS4, ?_⟩
    try simp only [List.getElem_toArray, List.getElem_cons_succ, List.getElem_cons_zero, Act.put, List.setIfInBounds_toArray, List.set_cons_zero, List.set_cons_succ]
    refine wpAnyH_all (rs := [5]) (by kernel_rfl) (by simp) ?_
    intro i0 hi0
    simp only [List.mem_cons, List.not_mem_nil, or_false] at hi0
    subst hi0
    refine wpOp_of_wp rfl rfl (fun K' hK' => ?_)
    have hBc := HBq.out.trans ((hS4).mono HBq.out.size)
    go_wp2_with (go_at_call 25; refine (hFi _ hBc).mono ?_; rintro e w3 ⟨rfl, hb3⟩)
    have hS6 : Below wq.heap.size wq w3 := hS4.trans (hb3.mono hS4.size)
    have h6 : w3.heap[wq.heap.size]? = some (.cells #[.bool false, .int .i64 0, .int .i64 0] 49 (0, 0)) := blk_on h4 hb3
    have hB6 : wq.heap.size ≤ wq.heap.size := Nat.le_refl _
    refine ⟨hS6, ?_⟩
    try simp only [List.getElem_toArray, List.getElem_cons_succ, List.getElem_cons_zero, Act.put, List.setIfInBounds_toArray, List.set_cons_zero, List.set_cons_succ]
    refine wpAnyH_take (i := 6) (v := .tuple #[.agg #[.bool vb, .int .i64 vi, .int .i64 va], .int .i64 (C : Int)]) rfl (by kernel_rfl) (by kernel_rfl) (by kernel_rfl) (fun _ _ _ h => h) (.inl ⟨rfl, fun _ _ => by simp [execOp, go_sem]⟩) hS6 ?_
    simp only [List.getElem_toArray, List.getElem_cons_succ, List.getElem_cons_zero, Act.put, List.setIfInBounds_toArray, List.set_cons_zero, List.set_cons_succ]
    refine wpAnyH_take (i := 7) (v := .agg #[.bool vb, .int .i64 vi, .int .i64 va]) rfl (by kernel_rfl) (by kernel_rfl) (by kernel_rfl) (fun _ _ _ h => h) (.inl ⟨rfl, fun _ _ => by simp [execOp, go_sem]⟩) hS6 ?_
    simp only [List.getElem_toArray, List.getElem_cons_succ, List.getElem_cons_zero, Act.put, List.setIfInBounds_toArray, List.set_cons_zero, List.set_cons_succ]
    refine wpAnyH_take (i := 8) (v := .int .i64 (C : Int)) rfl (by kernel_rfl) (by kernel_rfl) (by kernel_rfl) (fun _ _ _ h => h) (.inl ⟨rfl, fun _ _ => by simp [execOp, go_sem]⟩) hS6 ?_
    simp only [List.getElem_toArray, List.getElem_cons_succ, List.getElem_cons_zero, Act.put, List.setIfInBounds_toArray, List.set_cons_zero, List.set_cons_succ]
    refine wpAnyH_all (rs := [10]) (by kernel_rfl) (by simp) ?_
    intro i0 hi0
    simp only [List.mem_cons, List.not_mem_nil, or_false] at hi0
    subst hi0
    refine wpOp_of_wp rfl rfl (fun K' hK' => ?_)
    refine wp_store_blk 49 (.tmp 8) (.tmp 29) rfl wq.heap.size 0 #[.bool vb, .int .i64 vi, .int .i64 va] #[.bool vb, .int .i64 vi, .int .i64 va] rfl rfl 49 _ h6 (Nat.le_of_ble_eq_true rfl) rfl (by kernel_rfl) rfl ?_
    intro w7 h7 ho7
    have hS7 : Below wq.heap.size wq w7 := hS6.trans (ho7.below hB6)
    refine hK' _ _ ⟨hS7, ?_⟩
    try simp only [List.getElem_toArray, List.getElem_cons_succ, List.getElem_cons_zero, Act.put, List.setIfInBounds_toArray, List.set_cons_zero, List.set_cons_succ]
    refine wpAnyH_take (i := 11) (v := .int .i64 (C : Int)) rfl (by kernel_rfl) (by kernel_rfl) (by kernel_rfl) (fun _ _ _ h => h) (.inl ⟨rfl, fun _ _ => by simp [execOp, go_sem]⟩) hS7 ?_
    simp only [List.getElem_toArray, List.getElem_cons_succ, List.getElem_cons_zero, Act.put, List.setIfInBounds_toArray, List.set_cons_zero, List.set_cons_succ]
    refine wpAnyH_done (by kernel_rfl) ?_ _
    try simp only [List.getElem_toArray, List.getElem_cons_succ, List.getElem_cons_zero, Act.put, List.setIfInBounds_toArray, List.set_cons_zero, List.set_cons_succ]
    have HB7 : Hid (Below w.heap.size w w7) := HBq.out.trans (hS7.mono HBq.out.size)
    have HV7 : Hid (w7.heap[Bv]? = some (.cells #[.bool false, .int .i64 0, .int .i64 0] 49 (0, 0))) := blk_on HVq.out hS7
    have HS7 : Hid (w7.heap[Bs]? = some (.cells #[.int .i64 0, .int .i64 0, .int .i64 0, .int .i64 0, .int .i64 0] 51 (0, 0))) := blk_on HSq.out hS7
    obtain ⟨q0, q1, q2⟩ := blk3 h7
    generalize hB6e : wq.heap.size = B6 at *
    clear h7 ho7 hS7 h6 hS6 hB6 hB6e hHd hFi
    go_wp2_with (first | (refine wpList_store_blk rfl 49 (.tmp 4) (.tmp 31) rfl Bv 0 #[.bool vb, .int .i64 vi, .int .i64 va] #[.bool vb, .int .i64 vi, .int .i64 va] rfl rfl 49 _ HV7.out (Nat.le_of_ble_eq_true rfl) rfl (by kernel_rfl) rfl ?_; intro w8 hw8 how8; have HS8 : Hid (w8.heap[Bs]? = some (.cells #[.int .i64 0, .int .i64 0, .int .i64 0, .int .i64 0, .int .i64 0] 51 (0, 0))) := (how8.block Bs HBn.out).trans HS7.out) | (refine wpList_store_blk rfl 51 (.tmp 5) (.tmp 34) rfl Bs 0 #[.int .i64 (K : Int), .int .i64 (C : Int), .int .i64 0, .int .i64 0, .int .i64 0] #[.int .i64 (K : Int), .int .i64 (C : Int), .int .i64 0, .int .i64 0, .int .i64 0] rfl rfl 51 _ HS8.out (Nat.le_of_ble_eq_true rfl) rfl (by kernel_rfl) rfl ?_; intro w9 hw9 how9))
    refine bodyPost_ret (results_rows2 Try.results12 rfl rfl ((how9.block Bv (fun e => HBn.out e.symm)).trans hw8) Try.underlying49 rfl (by kernel_rfl) hw9 Try.underlying51 rfl (by kernel_rfl)) rfl ?_
    exact ⟨rfl, (HB7.out.trans (how8.below HBv.out)).trans (how9.below HBs.out)⟩
set_option maxHeartbeats 8000000 in
set_option maxRecDepth 20000 in
theorem statsE (X : Nat) (c : Cf) (l : List Ru) (N : List Pn) (LS : List (List Nat)) (S : Nat → Prop) (w : World) (hE : Eng w X c l N LS S) :
    Calls Try.prog 14 #[.pointer (some ⟨X, 0, none⟩)] w fun e w' => e = .returned (saV N LS) ∧ Below w.heap.size w w' := by
  have hsz := hE.size
  obtain ⟨t, v, nv, lv, vs, he, _⟩ := hE.at'
  obtain ⟨x0, x1, x2, x3, x4, _⟩ := blkE he.blk
  have hFo : Fo w X 3 nv lv vs N LS := ⟨x3, x4, he.fr⟩
  have hEn : ∀ W, Below w.heap.size w W → Calls Try.prog 26 #[.pointer (some ⟨X, 3, none⟩)] W fun e w' => e = .returned (.int .i64 (pnTot LS : Nat)) ∧ Below W.heap.size W w' := fun W hb => entriesC X 3 nv lv vs N LS W (hFo.on hb) (by omega) (by omega)
  obtain ⟨adn, capn, hnv, hcn, hat⟩ := he.fr.nod.form
  clear hcn hat
  unfold saV
  have hXl : X < w.heap.size := blk_lt he.blk
  generalize pnTot LS = T at *
  generalize N.length = n at *
  subst hnv
  have hx3 : ∀ W, Below w.heap.size w W → W.cell? ⟨X, 3, none⟩ = some (.slice adn n capn) := fun W hb => cell_on1 hb x3
  have HR0 : Hid ((w.alloc (.cells #[.int .i64 0, .int .i64 0, .int .i64 0, .int .i64 0] 59)).heap[w.heap.size]? = some (.cells #[.int .i64 0, .int .i64 0, .int .i64 0, .int .i64 0] 59 (0, 0))) := blk_new w _
  have HB0 : Hid (Below w.heap.size w (w.alloc (.cells #[.int .i64 0, .int .i64 0, .int .i64 0, .int .i64 0] 59))) := (Below.refl _ _).alloc (Nat.le_refl _) _
  clear hFo he x0 x1 x2 x3 x4 hE
  go_enter Try.func14, Try.ntmps14
  go_upto_region 3 with (fail)
  generalize w.alloc (.cells #[.int .i64 0, .int .i64 0, .int .i64 0, .int .i64 0] 59) = w0 at *
  refine wp_region_held_drew (S := fun w' => Below w.heap.size w w') (by kernel_rfl) HB0.out.drew (fun hS0 => ?_)
  show wpAnyH _ _ _ _ _ 12 _ _ _
  refine wpAnyH_take (i := 0) (v := .pointer (some ⟨X, 0, none⟩)) rfl (by kernel_rfl) (by kernel_rfl) (by kernel_rfl) (fun _ _ _ h => h) (.inl ⟨rfl, fun _ _ => by simp [execOp, go_sem]⟩) hS0 ?_
  simp only [List.getElem_toArray, List.getElem_cons_succ, List.getElem_cons_zero, Act.put, List.setIfInBounds_toArray, List.set_cons_zero, List.set_cons_succ]
  refine wpAnyH_take (i := 1) (v := .pointer (some ⟨X, 0, none⟩)) rfl (by kernel_rfl) (by kernel_rfl) (by kernel_rfl) (fun _ _ _ h => h) (.inl ⟨rfl, fun _ _ => by simp [execOp, go_sem]⟩) hS0 ?_
  simp only [List.getElem_toArray, List.getElem_cons_succ, List.getElem_cons_zero, Act.put, List.setIfInBounds_toArray, List.set_cons_zero, List.set_cons_succ]
  refine wpAnyH_take (i := 2) (v := .pointer (some ⟨X, 3, none⟩)) rfl (by kernel_rfl) (by kernel_rfl) (by kernel_rfl) (fun _ _ _ h => h) (.inl ⟨rfl, fun _ _ => by simp [execOp, go_sem]⟩) hS0 ?_
  simp only [List.getElem_toArray, List.getElem_cons_succ, List.getElem_cons_zero, Act.put, List.setIfInBounds_toArray, List.set_cons_zero, List.set_cons_succ]
  refine wpAnyH_take (i := 3) (v := .pointer (some ⟨X, 3, none⟩)) rfl (by kernel_rfl) (by kernel_rfl) (by kernel_rfl) (fun _ _ _ h => h) (.inl ⟨rfl, fun _ _ => by simp [execOp, go_sem]⟩) hS0 ?_
  simp only [List.getElem_toArray, List.getElem_cons_succ, List.getElem_cons_zero, Act.put, List.setIfInBounds_toArray, List.set_cons_zero, List.set_cons_succ]
  refine wpAnyH_take (i := 4) (v := .slice adn n capn) rfl (by kernel_rfl) (by kernel_rfl) (by kernel_rfl) (fun _ _ _ h => h) (.inl ⟨rfl, fun w' hw' => by have hcc := hx3 w' hw'; simp [execOp, go_sem, hcc]⟩) hS0 ?_
  simp only [List.getElem_toArray, List.getElem_cons_succ, List.getElem_cons_zero, Act.put, List.setIfInBounds_toArray, List.set_cons_zero, List.set_cons_succ]
  refine wpAnyH_take (i := 5) (v := .int .i64 (n : Int)) rfl (by kernel_rfl) (by kernel_rfl) (by kernel_rfl) (fun _ _ _ h => h) (.inl ⟨rfl, fun _ _ => by simp [execOp, go_sem]⟩) hS0 ?_
  simp only [List.getElem_toArray, List.getElem_cons_succ, List.getElem_cons_zero, Act.put, List.setIfInBounds_toArray, List.set_cons_zero, List.set_cons_succ]
  refine wpAnyH_take (i := 6) (v := .pointer (some ⟨X, 0, none⟩)) rfl (by kernel_rfl) (by kernel_rfl) (by kernel_rfl) (fun _ _ _ h => h) (.inl ⟨rfl, fun _ _ => by simp [execOp, go_sem]⟩) hS0 ?_
  simp only [List.getElem_toArray, List.getElem_cons_succ, List.getElem_cons_zero, Act.put, List.setIfInBounds_toArray, List.set_cons_zero, List.set_cons_succ]
  refine wpAnyH_take (i := 7) (v := .pointer (some ⟨X, 0, none⟩)) rfl (by kernel_rfl) (by kernel_rfl) (by kernel_rfl) (fun _ _ _ h => h) (.inl ⟨rfl, fun _ _ => by simp [execOp, go_sem]⟩) hS0 ?_
  simp only [List.getElem_toArray, List.getElem_cons_succ, List.getElem_cons_zero, Act.put, List.setIfInBounds_toArray, List.set_cons_zero, List.set_cons_succ]
  refine wpAnyH_take (i := 8) (v := .pointer (some ⟨X, 3, none⟩)) rfl (by kernel_rfl) (by kernel_rfl) (by kernel_rfl) (fun _ _ _ h => h) (.inl ⟨rfl, fun _ _ => by simp [execOp, go_sem]⟩) hS0 ?_
  simp only [List.getElem_toArray, List.getElem_cons_succ, List.getElem_cons_zero, Act.put, List.setIfInBounds_toArray, List.set_cons_zero, List.set_cons_succ]
  refine wpAnyH_all (rs := [9]) (by kernel_rfl) (by simp) ?_
  intro i0 hi0
  simp only [List.mem_cons, List.not_mem_nil, or_false] at hi0
  subst hi0
  refine wpOp_of_wp rfl rfl (fun K' hK' => ?_)
  go_wp2_with (go_at_call 26; refine (hEn _ hS0).mono ?_; rintro e w3 ⟨rfl, hb3⟩)
  have hS3 : Below w.heap.size w w3 := hS0.trans (hb3.mono hS0.size)
  have h3 : w3.heap[w.heap.size]? = some (.cells #[.int .i64 0, .int .i64 0, .int .i64 0, .int .i64 0] 59 (0, 0)) := (blk_on (show w0.drew.heap[w.heap.size]? = _ from HR0.out) hb3)
  refine ⟨hS3, ?_⟩
  try simp only [List.getElem_toArray, List.getElem_cons_succ, List.getElem_cons_zero, Act.put, List.setIfInBounds_toArray, List.set_cons_zero, List.set_cons_succ]
  refine wpAnyH_take (i := 10) (v := .agg #[.int .i64 (n : Int), .int .i64 (T : Int), .int .i64 0, .int .i64 0]) rfl (by kernel_rfl) (by kernel_rfl) (by kernel_rfl) (fun _ _ _ h => h) (.inl ⟨rfl, fun _ _ => by simp [execOp, go_sem]⟩) hS3 ?_
  simp only [List.getElem_toArray, List.getElem_cons_succ, List.getElem_cons_zero, Act.put, List.setIfInBounds_toArray, List.set_cons_zero, List.set_cons_succ]
  refine wpAnyH_all (rs := [11]) (by kernel_rfl) (by simp) ?_
  intro i0 hi0
  simp only [List.mem_cons, List.not_mem_nil, or_false] at hi0
  subst hi0
  refine wpOp_of_wp rfl rfl (fun K' hK' => ?_)
  refine wp_store_blk 59 (.tmp 2) (.tmp 16) rfl w.heap.size 0 #[.int .i64 (n : Int), .int .i64 (T : Int), .int .i64 0, .int .i64 0] #[.int .i64 (n : Int), .int .i64 (T : Int), .int .i64 0, .int .i64 0] rfl rfl 59 _ h3 (Nat.le_of_ble_eq_true rfl) rfl (by kernel_rfl) rfl ?_
  intro w7 h7 ho7
  have hS7 : Below w.heap.size w w7 := hS3.trans (ho7.below (Nat.le_refl _))
  refine hK' _ _ ⟨hS7, ?_⟩
  refine wpAnyH_done (by kernel_rfl) ?_ _
  try simp only [List.getElem_toArray, List.getElem_cons_succ, List.getElem_cons_zero, Act.put, List.setIfInBounds_toArray, List.set_cons_zero, List.set_cons_succ]
  go_wp2_with (fail)
  exact bodyPost_ret (results_blk Try.results14 rfl h7 Try.underlying59 rfl (by kernel_rfl)) rfl ⟨rfl, hS7⟩
end Go.Proofs.Ytcpcljdnkekogaa
/-
  The document's examples, as the laws play them.
-/
namespace Go.Proofs.Ytcpcljdnkekogaa
open Go.RowKit
set_option linter.unusedVariables false
set_option linter.unusedSimpArgs false

def eC : Cf := ⟨10, 1, 100, 100, 100, 4, 8⟩
def eA : Ru := ⟨1, 167772160, 8, 0, 0, (0, 65535), (0, 65535), (0, 0), 2⟩
def eB : Ru := ⟨2, 0, 0, 167772160, 8, (0, 65535), (0, 65535), (0, 0), 3⟩
theorem eC_bd : BdC eC := by unfold BdC I64 eC; decide
theorem eC_ok : okC eC = true := by decide
theorem eA_bd : BdR eA := by unfold BdR I64 eA; decide
theorem eB_bd : BdR eB := by unfold BdR I64 eB; decide
theorem ex_a : pinE eC [] 0 eA = 0 := by decide +kernel
theorem ex_b : pinE eC [eA] 1 eB = 0 := by decide +kernel
theorem ex_c : pinE eC [eA, eB] 0 eA = 111 := by decide +kernel
theorem ex_al : pinL eC [] 0 eA = [eA] := by unfold pinL; rw [if_pos ex_a]; rfl
theorem ex_bl : pinL eC [eA] 1 eB = [eA, eB] := by unfold pinL; rw [if_pos ex_b]; rfl
theorem ex_cl : pinL eC [eA, eB] 0 eA = [eA, eB] := by unfold pinL; rw [if_neg (by rw [ex_c]; decide)]
theorem ex_m1 : mat [eA, eB] ⟨167772169, 167772160, 0, 0, 0⟩ = 0 := by decide +kernel
theorem ex_m2 : mat [eA, eB] ⟨150994944, 167772160, 0, 0, 0⟩ = 1 := by decide +kernel
theorem ex_m3 : mat [eA, eB] ⟨150994944, 150994944, 0, 0, 0⟩ = -1 := by decide +kernel
theorem okE (a b : Nat) (ha : a < 4294967296) (hb : b < 4294967296) : OkH ⟨a, b, 0, 0, 0⟩ := ⟨ha, hb, show (0 : Nat) < 65536 by decide, show (0 : Nat) < 65536 by decide, show (0 : Nat) < 256 by decide⟩
theorem every16 (i a : Int) (w : World) : Calls Try.prog 20 #[.int .i64 i, .int .i64 a] w fun e w' => e = .returned (.agg #[.int .i64 (allR i a).i, .int .u32 ((allR i a).s : Int), .int .i64 (allR i a).sl, .int .u32 ((allR i a).d : Int), .int .i64 (allR i a).dl, .int .u16 ((allR i a).p.1 : Int), .int .u16 ((allR i a).p.2 : Int), .int .u16 ((allR i a).q.1 : Int), .int .u16 ((allR i a).q.2 : Int), .int .u8 ((allR i a).m.1 : Int), .int .u8 ((allR i a).m.2 : Int), .int .i64 (allR i a).act]) ∧ Below w.heap.size w w' := by
  go_enter Try.func20, Try.ntmps20
  go_wp2
  refine bodyPost_ret (results_blk Try.results20 rfl (blk_new w _) Try.underlying46 rfl (by kernel_rfl)) rfl ?_
  exact ⟨rfl, (Below.refl _ _).alloc (Nat.le_refl _) _⟩
theorem example16 (w : World) : Calls Try.prog 13 #[] w fun e w' => e = .returned (.agg #[.int .i64 10, .int .i64 1, .int .i64 100, .int .i64 100, .int .i64 100, .int .i64 4, .int .i64 8]) ∧ Below w.heap.size w w' := by
  go_enter Try.func13, Try.ntmps13
  go_wp2
  refine bodyPost_ret (results_blk Try.results13 rfl (blk_new w _) Try.underlying27 rfl (by kernel_rfl)) rfl ?_
  exact ⟨rfl, (Below.refl _ _).alloc (Nat.le_refl _) _⟩
theorem Did.eng {w w' : World} {X : Nat} {c : Cf} {l' : List Ru} {S : Nat → Prop} (h : Did w w' X c l' S) : ∃ (N' : List Pn) (LS' : List (List Nat)), Eng w' X c l' N' LS' (fun k => S k ∨ w.heap.size ≤ k) := by
  obtain ⟨N', LS', h, _⟩ := h
  exact ⟨N', LS', h⟩
theorem Did.blk {w w' : World} {X : Nat} {c : Cf} {l' : List Ru} {S : Nat → Prop} (h : Did w w' X c l' S) {B : Nat} {o : Obj} (hb : w.heap[B]? = some o) (hn : B ≠ X) : w'.heap[B]? = some o := by
  obtain ⟨_, _, _, hg⟩ := h
  rw [hg.block B (blk_lt hb) (fun e => hn (by injection e))]; exact hb
theorem Did.below {w0 w w' : World} {X : Nat} {c : Cf} {l' : List Ru} {S : Nat → Prop} (h : Did w w' X c l' S) (hb : Below w0.heap.size w0 w) (hX : w0.heap.size ≤ X) : Below w0.heap.size w0 w' := by
  obtain ⟨_, _, _, hg⟩ := h
  exact hb.grown hg hb.size (fun k e => by injection e with e; omega)
set_option maxHeartbeats 8000000 in
set_option maxRecDepth 20000 in
theorem awake16 (w : World) : Calls Try.prog 8 #[] w fun e w' => e = .returned (.bool true) ∧ Below w.heap.size w w' := by
  go_enter Try.func8, Try.ntmps8
  go_wp2_with (go_at_call 13; fail)
  refine (example16 _).mono ?_
  rintro e w1 ⟨rfl, hb1⟩
  have HB1 : Hid (Below w.heap.size w w1) := hb1
  clear hb1
  go_wp2_with (go_at_call 6; fail)
  refine (newE eC eC_bd eC_ok _).mono ?_
  rintro e w2 ⟨X, rfl, hE2, hX2, hb2⟩
  have HB2 : Hid (Below w.heap.size w w2) := HB1.out.trans (hb2.mono HB1.out.size)
  have HX : Hid (w.heap.size ≤ X) := Nat.le_trans HB1.out.size hX2
  have HE2 : Hid (Eng w2 X eC [] [] [] (fun k => w1.heap.size ≤ k ∧ k < X)) := hE2
  clear hE2 hX2 hb2
  go_wp2_with (go_at_call 20; fail)
  refine (every16 1 2 _).mono ?_
  rintro e w3 ⟨rfl, hb3⟩
  have HB3 : Hid (Below w.heap.size w w3) := HB2.out.trans (hb3.mono HB2.out.size)
  have HE3 : Hid (Eng w3 X eC [] [] [] (fun k => w1.heap.size ≤ k ∧ k < X)) := HE2.out.on hb3
  have HA3 : Hid ((w3.alloc (.cells #[.int .i64 1, .int .u32 0, .int .i64 0, .int .u32 0, .int .i64 0, .int .u16 0, .int .u16 65535, .int .u16 0, .int .u16 65535, .int .u8 0, .int .u8 0, .int .i64 2] 46)).heap[w3.heap.size]? = some (.cells #[.int .i64 1, .int .u32 0, .int .i64 0, .int .u32 0, .int .i64 0, .int .u16 0, .int .u16 65535, .int .u16 0, .int .u16 65535, .int .u8 0, .int .u8 0, .int .i64 2] 46 (0, 0))) := blk_new w3 _
  have hba : Below w3.heap.size w3 (w3.alloc (.cells #[.int .i64 1, .int .u32 0, .int .i64 0, .int .u32 0, .int .i64 0, .int .u16 0, .int .u16 65535, .int .u16 0, .int .u16 65535, .int .u8 0, .int .u8 0, .int .i64 2] 46)) := (Below.refl _ _).alloc (Nat.le_refl _) _
  have HBa : Hid (Below w.heap.size w (w3.alloc (.cells #[.int .i64 1, .int .u32 0, .int .i64 0, .int .u32 0, .int .i64 0, .int .u16 0, .int .u16 65535, .int .u16 0, .int .u16 65535, .int .u8 0, .int .u8 0, .int .i64 2] 46))) := HB3.out.trans (hba.mono HB3.out.size)
  have HEa : Hid (Eng (w3.alloc (.cells #[.int .i64 1, .int .u32 0, .int .i64 0, .int .u32 0, .int .i64 0, .int .u16 0, .int .u16 65535, .int .u16 0, .int .u16 65535, .int .u8 0, .int .u8 0, .int .i64 2] 46)) X eC [] [] [] (fun k => w1.heap.size ≤ k ∧ k < X)) := HE3.out.on hba
  have HXa : Hid (X < w3.heap.size) := HE3.out.lt
  clear hb3 hba HB1 HB2 HE2
  simp only [allR]
  go_wp2_with (first | (refine wpList_store_blk rfl 39 (.tmp 27) (.tmp 26) rfl w3.heap.size 1 #[.int .u32 167772160, .int .i64 8] #[.int .i64 1, .int .u32 167772160, .int .i64 8, .int .u32 0, .int .i64 0, .int .u16 0, .int .u16 65535, .int .u16 0, .int .u16 65535, .int .u8 0, .int .u8 0, .int .i64 2] rfl rfl 46 _ HA3.out (Nat.le_of_ble_eq_true rfl) rfl (by kernel_rfl) rfl ?_; intro w4 hA4 ho4) | (go_at_call 20; fail))
  have HA4 : Hid _ := hA4
  have hb4 : Below w3.heap.size (w3.alloc (.cells #[.int .i64 1, .int .u32 0, .int .i64 0, .int .u32 0, .int .i64 0, .int .u16 0, .int .u16 65535, .int .u16 0, .int .u16 65535, .int .u8 0, .int .u8 0, .int .i64 2] 46)) w4 := ho4.below (Nat.le_refl _)
  have HB4 : Hid (Below w.heap.size w w4) := HBa.out.trans (hb4.mono HB3.out.size)
  have HE4 : Hid (Eng w4 X eC [] [] [] (fun k => w1.heap.size ≤ k ∧ k < X)) := HEa.out.stay (Nat.le_of_eq ho4.size.symm) (fun k _ e => ho4.block k (by have := HXa.out; omega))
  have Hba : Hid (w3.heap.size < w4.heap.size) := blk_lt hA4
  generalize hBa : w3.heap.size = Ba at *
  clear hA4 ho4 hb4 hBa HA3 HEa HBa HB3 HE3
  clear w3
  refine (every16 2 3 _).mono ?_
  rintro e w5 ⟨rfl, hb5⟩
  have HB5 : Hid (Below w.heap.size w w5) := HB4.out.trans (hb5.mono HB4.out.size)
  have HE5 : Hid (Eng w5 X eC [] [] [] (fun k => w1.heap.size ≤ k ∧ k < X)) := HE4.out.on hb5
  have HA5 : Hid (w5.heap[Ba]? = some (.cells #[.int .i64 1, .int .u32 167772160, .int .i64 8, .int .u32 0, .int .i64 0, .int .u16 0, .int .u16 65535, .int .u16 0, .int .u16 65535, .int .u8 0, .int .u8 0, .int .i64 2] 46 (0, 0))) := blk_on HA4.out hb5
  have HC5 : Hid ((w5.alloc (.cells #[.int .i64 2, .int .u32 0, .int .i64 0, .int .u32 0, .int .i64 0, .int .u16 0, .int .u16 65535, .int .u16 0, .int .u16 65535, .int .u8 0, .int .u8 0, .int .i64 3] 46)).heap[w5.heap.size]? = some (.cells #[.int .i64 2, .int .u32 0, .int .i64 0, .int .u32 0, .int .i64 0, .int .u16 0, .int .u16 65535, .int .u16 0, .int .u16 65535, .int .u8 0, .int .u8 0, .int .i64 3] 46 (0, 0))) := blk_new w5 _
  have hba : Below w5.heap.size w5 (w5.alloc (.cells #[.int .i64 2, .int .u32 0, .int .i64 0, .int .u32 0, .int .i64 0, .int .u16 0, .int .u16 65535, .int .u16 0, .int .u16 65535, .int .u8 0, .int .u8 0, .int .i64 3] 46)) := (Below.refl _ _).alloc (Nat.le_refl _) _
  have HBa : Hid (Below w.heap.size w (w5.alloc (.cells #[.int .i64 2, .int .u32 0, .int .i64 0, .int .u32 0, .int .i64 0, .int .u16 0, .int .u16 65535, .int .u16 0, .int .u16 65535, .int .u8 0, .int .u8 0, .int .i64 3] 46))) := HB5.out.trans (hba.mono HB5.out.size)
  have HEa : Hid (Eng (w5.alloc (.cells #[.int .i64 2, .int .u32 0, .int .i64 0, .int .u32 0, .int .i64 0, .int .u16 0, .int .u16 65535, .int .u16 0, .int .u16 65535, .int .u8 0, .int .u8 0, .int .i64 3] 46)) X eC [] [] [] (fun k => w1.heap.size ≤ k ∧ k < X)) := HE5.out.on hba
  have HXb : Hid (X < w5.heap.size) := HE5.out.lt
  have HAb : Hid ((w5.alloc (.cells #[.int .i64 2, .int .u32 0, .int .i64 0, .int .u32 0, .int .i64 0, .int .u16 0, .int .u16 65535, .int .u16 0, .int .u16 65535, .int .u8 0, .int .u8 0, .int .i64 3] 46)).heap[Ba]? = some (.cells #[.int .i64 1, .int .u32 167772160, .int .i64 8, .int .u32 0, .int .i64 0, .int .u16 0, .int .u16 65535, .int .u16 0, .int .u16 65535, .int .u8 0, .int .u8 0, .int .i64 2] 46 (0, 0))) := blk_on HA5.out hba
  have HAl : Hid (Ba < w5.heap.size) := blk_lt HA5.out
  clear hb5 hba HB4 HE4 HA4
  simp only [allR]
  go_wp2_with (first | (refine wpList_store_blk rfl 39 (.tmp 30) (.tmp 29) rfl w5.heap.size 3 #[.int .u32 167772160, .int .i64 8] #[.int .i64 2, .int .u32 0, .int .i64 0, .int .u32 167772160, .int .i64 8, .int .u16 0, .int .u16 65535, .int .u16 0, .int .u16 65535, .int .u8 0, .int .u8 0, .int .i64 3] rfl rfl 46 _ HC5.out (Nat.le_of_ble_eq_true rfl) rfl (by kernel_rfl) rfl ?_; intro w6 hC6 ho6; have hA6 : w6.heap[Ba]? = some (.cells #[.int .i64 1, .int .u32 167772160, .int .i64 8, .int .u32 0, .int .i64 0, .int .u16 0, .int .u16 65535, .int .u16 0, .int .u16 65535, .int .u8 0, .int .u8 0, .int .i64 2] 46 (0, 0)) := (ho6.block Ba (by have := HAl.out; omega)).trans HAb.out; obtain ⟨a0, a1, a2, a3, a4, a5, a6, a7, a8, a9, a10, a11⟩ := blk12 hA6) | (go_at_call 10; fail))
  have HA6 : Hid _ := hA6
  have HC6 : Hid _ := hC6
  have HB6 : Hid (Below w.heap.size w w6) := HBa.out.trans ((ho6.below (Nat.le_refl _)).mono HB5.out.size)
  have HE6 : Hid (Eng w6 X eC [] [] [] (fun k => w1.heap.size ≤ k ∧ k < X)) := HEa.out.stay (Nat.le_of_eq ho6.size.symm) (fun k _ e => ho6.block k (by have := HXb.out; omega))
  have HXn : Hid (Ba ≠ X ∧ w5.heap.size ≠ X) := ⟨by have := HXa.out; omega, by have := HXb.out; omega⟩
  generalize hBb : w5.heap.size = Bb at *
  clear hA6 hC6 ho6 hBb HC5 HEa HBa HB5 HE5 HA5 HAb HAl a0 a1 a2 a3 a4 a5 a6 a7 a8 a9 a10 a11
  clear w5
  have hI1 := insertE X eC [] [] [] _ 0 eA w6 HE6.out eA_bd eC_bd (by decide)
  rw [ex_a, ex_al] at hI1
  refine hI1.mono ?_
  rintro e w7 ⟨rfl, hd7⟩
  obtain ⟨N7, L7, hE7⟩ := hd7.eng
  have HB7 : Hid (Below w.heap.size w w7) := hd7.below HB6.out HX.out
  have HA7 : Hid _ := hd7.blk HA6.out HXn.out.1
  have HC7 : Hid _ := hd7.blk HC6.out HXn.out.2
  have hI2 := insertE X eC [eA] N7 L7 _ 1 eB w7 hE7 eB_bd eC_bd (by decide)
  rw [ex_b, ex_bl] at hI2
  obtain ⟨b0, b1, b2, b3, b4, b5, b6, b7, b8, b9, b10, b11⟩ := blk12 HC7.out
  clear hd7 hI1 hE7 HE6 HA6 HC6 HB6
  go_wp2_with (go_at_call 10; fail)
  refine hI2.mono ?_
  rintro e w8 ⟨rfl, hd8⟩
  obtain ⟨N8, L8, hE8⟩ := hd8.eng
  have HB8 : Hid (Below w.heap.size w w8) := hd8.below HB7.out HX.out
  have HA8 : Hid _ := hd8.blk HA7.out HXn.out.1
  have hI3 := insertE X eC [eA, eB] N8 L8 _ 0 eA w8 hE8 eA_bd eC_bd (by decide)
  rw [ex_c, ex_cl] at hI3
  clear b0 b1 b2 b3 b4 b5 b6 b7 b8 b9 b10 b11
  obtain ⟨b0, b1, b2, b3, b4, b5, b6, b7, b8, b9, b10, b11⟩ := blk12 HA8.out
  clear hd8 hI2 hE8 HA7 HC7 HB7
  go_wp2_with (go_at_call 10; fail)
  refine hI3.mono ?_
  rintro e w9 ⟨rfl, hd9⟩
  obtain ⟨N9, L9, hE9⟩ := hd9.eng
  have HB9 : Hid (Below w.heap.size w w9) := hd9.below HB8.out HX.out
  have HE9 : Hid _ := hE9
  have hc1 : 1 ≤ cntR [eA, eB] ⟨167772169, 167772160, 0, 0, 0⟩ := cntR_pos (hE9.ok.all hE9.bd) (by rw [ex_m1]; decide)
  clear b0 b1 b2 b3 b4 b5 b6 b7 b8 b9 b10 b11 hd9 hI3 hE9 HA8 HB8
  generalize w9 = U0 at *
  have hK := askE X eC [eA, eB] N9 L9 _ ⟨167772169, 167772160, 0, 0, 0⟩ U0 HE9.out (okE _ _ (by decide) (by decide))
  unfold vdV stV at hK
  rw [ex_m1] at hK
  generalize cntR [eA, eB] ⟨167772169, 167772160, 0, 0, 0⟩ = C1 at *
  generalize fndN N9 ⟨167772169, 167772160, 0, 0, 0⟩ = K1 at *
  go_wp2_with (go_at_call 12; fail)
  refine hK.mono ?_
  rintro e V1 ⟨rfl, hb⟩
  have ev : vdH 0 = true ∧ vdI [eA, eB] 0 = 1 ∧ vdA eC.a [eA, eB] 0 = 2 := by decide
  rw [ev.1, ev.2.1, ev.2.2]
  have hU : Below U0.heap.size U0 ((V1.alloc (.cells #[.bool true, .int .i64 1, .int .i64 2] 49)).alloc (.cells #[.int .i64 (K1 : Int), .int .i64 (C1 : Int), .int .i64 0, .int .i64 0, .int .i64 0] 51)) := hb.trans ((((Below.refl _ _).alloc (Nat.le_refl _) _).alloc (by simp) _).mono hb.size)
  have HB_1 : Hid (Below w.heap.size w ((V1.alloc (.cells #[.bool true, .int .i64 1, .int .i64 2] 49)).alloc (.cells #[.int .i64 (K1 : Int), .int .i64 (C1 : Int), .int .i64 0, .int .i64 0, .int .i64 0] 51))) := HB9.out.trans (hU.mono HB9.out.size)
  have HE_1 : Hid (Eng ((V1.alloc (.cells #[.bool true, .int .i64 1, .int .i64 2] 49)).alloc (.cells #[.int .i64 (K1 : Int), .int .i64 (C1 : Int), .int .i64 0, .int .i64 0, .int .i64 0] 51)) X eC [eA, eB] N9 L9 _) := HE9.out.on hU
  have HV1_1 : Hid (((V1.alloc (.cells #[.bool true, .int .i64 1, .int .i64 2] 49)).alloc (.cells #[.int .i64 (K1 : Int), .int .i64 (C1 : Int), .int .i64 0, .int .i64 0, .int .i64 0] 51)).heap[V1.heap.size]? = some (.cells #[.bool true, .int .i64 1, .int .i64 2] 49 (0, 0))) := blk_alloc (blk_new V1 _) _
  have HS1_1 : Hid (((V1.alloc (.cells #[.bool true, .int .i64 1, .int .i64 2] 49)).alloc (.cells #[.int .i64 (K1 : Int), .int .i64 (C1 : Int), .int .i64 0, .int .i64 0, .int .i64 0] 51)).heap[V1.heap.size + 1]? = some (.cells #[.int .i64 (K1 : Int), .int .i64 (C1 : Int), .int .i64 0, .int .i64 0, .int .i64 0] 51 (0, 0))) := by
    have := blk_new (V1.alloc (.cells #[.bool true, .int .i64 1, .int .i64 2] 49)) (.cells #[.int .i64 (K1 : Int), .int .i64 (C1 : Int), .int .i64 0, .int .i64 0, .int .i64 0] 51)
    show _ = _
    simpa using this
  clear hK hb ev hU HB9 HE9
  go_upto_region 12 with (fail)
  try simp only [World.size_alloc]
  generalize ((V1.alloc (.cells #[.bool true, .int .i64 1, .int .i64 2] 49)).alloc (.cells #[.int .i64 (K1 : Int), .int .i64 (C1 : Int), .int .i64 0, .int .i64 0, .int .i64 0] 51)) = U1 at *
  generalize V1.heap.size = Q1 at *
  clear V1
  have hK := askE X eC [eA, eB] N9 L9 _ ⟨150994944, 167772160, 0, 0, 0⟩ U1 HE_1.out (okE _ _ (by decide) (by decide))
  unfold vdV stV at hK
  rw [ex_m2] at hK
  generalize cntR [eA, eB] ⟨150994944, 167772160, 0, 0, 0⟩ = C2 at *
  generalize fndN N9 ⟨150994944, 167772160, 0, 0, 0⟩ = K2 at *
  go_wp2_with (go_at_call 12; fail)
  refine hK.mono ?_
  rintro e V2 ⟨rfl, hb⟩
  have ev : vdH 1 = true ∧ vdI [eA, eB] 1 = 2 ∧ vdA eC.a [eA, eB] 1 = 3 := by decide
  rw [ev.1, ev.2.1, ev.2.2]
  have hU : Below U1.heap.size U1 ((V2.alloc (.cells #[.bool true, .int .i64 2, .int .i64 3] 49)).alloc (.cells #[.int .i64 (K2 : Int), .int .i64 (C2 : Int), .int .i64 0, .int .i64 0, .int .i64 0] 51)) := hb.trans ((((Below.refl _ _).alloc (Nat.le_refl _) _).alloc (by simp) _).mono hb.size)
  have HB_2 : Hid (Below w.heap.size w ((V2.alloc (.cells #[.bool true, .int .i64 2, .int .i64 3] 49)).alloc (.cells #[.int .i64 (K2 : Int), .int .i64 (C2 : Int), .int .i64 0, .int .i64 0, .int .i64 0] 51))) := HB_1.out.trans (hU.mono HB_1.out.size)
  have HE_2 : Hid (Eng ((V2.alloc (.cells #[.bool true, .int .i64 2, .int .i64 3] 49)).alloc (.cells #[.int .i64 (K2 : Int), .int .i64 (C2 : Int), .int .i64 0, .int .i64 0, .int .i64 0] 51)) X eC [eA, eB] N9 L9 _) := HE_1.out.on hU
  have HV2_2 : Hid (((V2.alloc (.cells #[.bool true, .int .i64 2, .int .i64 3] 49)).alloc (.cells #[.int .i64 (K2 : Int), .int .i64 (C2 : Int), .int .i64 0, .int .i64 0, .int .i64 0] 51)).heap[V2.heap.size]? = some (.cells #[.bool true, .int .i64 2, .int .i64 3] 49 (0, 0))) := blk_alloc (blk_new V2 _) _
  have HV1_2 : Hid _ := blk_on HV1_1.out hU
  have HS1_2 : Hid _ := blk_on HS1_1.out hU
  clear hK hb ev hU HB_1 HE_1
  clear HV1_1 HS1_1
  go_upto_region 13 with (fail)
  try simp only [World.size_alloc]
  generalize ((V2.alloc (.cells #[.bool true, .int .i64 2, .int .i64 3] 49)).alloc (.cells #[.int .i64 (K2 : Int), .int .i64 (C2 : Int), .int .i64 0, .int .i64 0, .int .i64 0] 51)) = U2 at *
  generalize V2.heap.size = Q2 at *
  clear V2
  have hK := askE X eC [eA, eB] N9 L9 _ ⟨150994944, 150994944, 0, 0, 0⟩ U2 HE_2.out (okE _ _ (by decide) (by decide))
  unfold vdV stV at hK
  rw [ex_m3] at hK
  generalize cntR [eA, eB] ⟨150994944, 150994944, 0, 0, 0⟩ = C3 at *
  generalize fndN N9 ⟨150994944, 150994944, 0, 0, 0⟩ = K3 at *
  go_wp2_with (go_at_call 12; fail)
  refine hK.mono ?_
  rintro e V3 ⟨rfl, hb⟩
  have ev : vdH (-1) = false ∧ vdI [eA, eB] (-1) = 0 ∧ vdA eC.a [eA, eB] (-1) = 1 := by decide
  rw [ev.1, ev.2.1, ev.2.2]
  have hU : Below U2.heap.size U2 ((V3.alloc (.cells #[.bool false, .int .i64 0, .int .i64 1] 49)).alloc (.cells #[.int .i64 (K3 : Int), .int .i64 (C3 : Int), .int .i64 0, .int .i64 0, .int .i64 0] 51)) := hb.trans ((((Below.refl _ _).alloc (Nat.le_refl _) _).alloc (by simp) _).mono hb.size)
  have HB_3 : Hid (Below w.heap.size w ((V3.alloc (.cells #[.bool false, .int .i64 0, .int .i64 1] 49)).alloc (.cells #[.int .i64 (K3 : Int), .int .i64 (C3 : Int), .int .i64 0, .int .i64 0, .int .i64 0] 51))) := HB_2.out.trans (hU.mono HB_2.out.size)
  have HE_3 : Hid (Eng ((V3.alloc (.cells #[.bool false, .int .i64 0, .int .i64 1] 49)).alloc (.cells #[.int .i64 (K3 : Int), .int .i64 (C3 : Int), .int .i64 0, .int .i64 0, .int .i64 0] 51)) X eC [eA, eB] N9 L9 _) := HE_2.out.on hU
  have HV3_3 : Hid (((V3.alloc (.cells #[.bool false, .int .i64 0, .int .i64 1] 49)).alloc (.cells #[.int .i64 (K3 : Int), .int .i64 (C3 : Int), .int .i64 0, .int .i64 0, .int .i64 0] 51)).heap[V3.heap.size]? = some (.cells #[.bool false, .int .i64 0, .int .i64 1] 49 (0, 0))) := blk_alloc (blk_new V3 _) _
  have HV1_3 : Hid _ := blk_on HV1_2.out hU
  have HV2_3 : Hid _ := blk_on HV2_2.out hU
  have HS1_3 : Hid _ := blk_on HS1_2.out hU
  clear hK hb ev hU HB_2 HE_2
  clear HV1_2 HV2_2 HS1_2
  go_upto_region 14 with (fail)
  try simp only [World.size_alloc]
  generalize ((V3.alloc (.cells #[.bool false, .int .i64 0, .int .i64 1] 49)).alloc (.cells #[.int .i64 (K3 : Int), .int .i64 (C3 : Int), .int .i64 0, .int .i64 0, .int .i64 0] 51)) = U3 at *
  generalize V3.heap.size = Q3 at *
  clear V3
  have hc1i : (1 : Int) ≤ (C1 : Int) := by omega
  obtain ⟨a0, a1, a2⟩ := blk3 HV1_3.out
  obtain ⟨c0, c1, c2, c3, c4⟩ := blk5 HS1_3.out
  obtain ⟨d0, d1, d2⟩ := blk3 HV2_3.out
  obtain ⟨g0, g1, g2⟩ := blk3 HV3_3.out
  go_wp2_with (fail)
  go_ret
  exact ⟨rfl, HB_3.out⟩
end Go.Proofs.Ytcpcljdnkekogaa
