/-
  PkAZ: TpK TpQ, one behind the other (tools/pack.py).
-/
import Derived.Test.YtfpmljgmfapoiaaGreatPkAY
import Derived.Test.YtfpmljgmfapoiaaGreatPkAD
/-
  The engine in memory; New.
-/
namespace Go.Proofs.YtfpmljgmfapoiaaGreat
open Go.RowKit
set_option linter.unusedVariables false
set_option linter.unusedSimpArgs false

/-- The engine's parts: the rules' table t, its row v, the tables of tuples. -/
structure EngF (w : World) (X : Nat) (c : Cf) (l : List Ru) (L : Tp → List Hx.SlI) (t : Nat) (v : Value) (B : Nat) (ad : Option Addr) (n cap : Nat) (f : Tp → Option Nat) (ks : List Tp) (Sg : Tp → Nat → Prop) : Prop where
  tab : Tab w t v c.m c.a l
  sp : Spc w X B (.pointer (some ⟨t, 0, none⟩)) (.int .i64 c.a) (.int .i64 c.t) ad n cap l f ks L Sg
  ap : ∀ k, (k = B ∨ (Value.slice ad n cap).ownBlock = some k ∨ ∃ s, (f s).isSome = true ∧ Sg s k) → k ≠ t ∧ v.ownBlock ≠ some k
/-- The blocks that an engine has besides its own. -/
def Foot (t : Nat) (v : Value) (B : Nat) (tv : Value) (f : Tp → Option Nat) (Sg : Tp → Nat → Prop) (k : Nat) : Prop := k = t ∨ v.ownBlock = some k ∨ k = B ∨ tv.ownBlock = some k ∨ ∃ s, (f s).isSome = true ∧ Sg s k
/-- The engine in block X; S: where its parts lie. -/
structure Eng (w : World) (X : Nat) (c : Cf) (l : List Ru) (L : Tp → List Hx.SlI) (S : Nat → Prop) : Prop where
  at' : ∃ t v B ad n cap f ks Sg, EngF w X c l L t v B ad n cap f ks Sg ∧ ∀ k, Foot t v B (.slice ad n cap) f Sg k → S k
  ok : OkN l
  bd : ∀ R ∈ l, BdR R
  nX : ¬ S X
section
variable {w w1 : World} {X : Nat} {c : Cf} {l : List Ru} {L : Tp → List Hx.SlI} {S S' : Nat → Prop} {t : Nat} {v : Value} {B : Nat} {ad : Option Addr} {n cap : Nat} {f : Tp → Option Nat} {ks : List Tp} {Sg : Tp → Nat → Prop}
theorem Eng.lt (h : Eng w X c l L S) : X < w.heap.size := by
  obtain ⟨t, v, B, ad, n, cap, f, ks, Sg, e, _⟩ := h.at'
  exact blk_lt e.sp.blk
theorem EngF.flt (h : EngF w X c l L t v B ad n cap f ks Sg) : ∀ k, Foot t v B (.slice ad n cap) f Sg k → k < w.heap.size := fun k hk => by
  rcases hk with rfl | e | rfl | e | ⟨s, e, hs⟩
  · exact h.tab.lt
  · exact h.tab.own e
  · exact h.sp.mp.lt
  · exact (h.sp.row.lt k e).2
  · exact h.sp.gs.lt s e k hs
theorem EngF.stay (h : EngF w X c l L t v B ad n cap f ks Sg) (hz : w.heap.size ≤ w1.heap.size) (hX : w1.heap[X]? = w.heap[X]?) (hk : ∀ k, Foot t v B (.slice ad n cap) f Sg k → w1.heap[k]? = w.heap[k]?) : EngF w1 X c l L t v B ad n cap f ks Sg where
  tab := tab_stay h.tab (hk t (.inl rfl)) fun k e => hk k (.inr (.inl e))
  sp := ⟨hX.trans h.sp.blk, h.sp.mp.stay (hk B (.inr (.inr (.inl rfl)))), h.sp.gs.stay hz fun s e b hb => hk b (.inr (.inr (.inr (.inr ⟨s, e, hb⟩)))), h.sp.dom, h.sp.off, h.sp.BX, rowV_stay h.sp.row fun k e => hk k (.inr (.inr (.inr (.inl e)))), h.sp.tB, h.sp.tX⟩
  ap := h.ap
theorem Eng.stay (h : Eng w X c l L S) (hs : w.heap.size ≤ w1.heap.size) (hk : ∀ k, k < w.heap.size → (k = X ∨ S k) → w1.heap[k]? = w.heap[k]?) : Eng w1 X c l L S := by
  obtain ⟨t, v, B, ad, n, cap, f, ks, Sg, e, hf⟩ := h.at'
  exact ⟨⟨t, v, B, ad, n, cap, f, ks, Sg, e.stay hs (hk X h.lt (.inl rfl)) fun k hF => hk k (e.flt k hF) (.inr (hf k hF)), hf⟩, h.ok, h.bd, h.nX⟩
theorem Eng.on (h : Eng w X c l L S) (hb : Below w.heap.size w w1) : Eng w1 X c l L S := h.stay hb.size (fun k hk _ => hb.block k hk)
theorem Eng.mono (h : Eng w X c l L S) (hs : ∀ k, k < w.heap.size → S k → S' k) (hX : ¬ S' X) : Eng w X c l L S' := by
  obtain ⟨t, v, B, ad, n, cap, f, ks, Sg, e, hf⟩ := h.at'
  exact ⟨⟨t, v, B, ad, n, cap, f, ks, Sg, e, fun k hF => hs k (e.flt k hF) (hf k hF)⟩, h.ok, h.bd, hX⟩
end
/-- What stays: all but the engine's own block and its parts. -/
structure Grs (w w' : World) (X : Nat) (S : Nat → Prop) : Prop where
  os : w'.os = w.os
  tape : w'.tape = w.tape
  output : w'.output = w.output
  size : w.heap.size ≤ w'.heap.size
  block : ∀ k, k < w.heap.size → k ≠ X → ¬ S k → w'.heap[k]? = w.heap[k]?
theorem Grs.of {w w' : World} (X : Nat) (S : Nat → Prop) (h : Below w.heap.size w w') : Grs w w' X S := ⟨h.os, h.tape, h.output, h.size, fun k hk _ _ => h.block k hk⟩
theorem Grs.pre {w w1 w2 : World} {X : Nat} {S : Nat → Prop} (hb : Below w.heap.size w w1) (hg : Grs w1 w2 X S) : Grs w w2 X S :=
  ⟨hg.os.trans hb.os, hg.tape.trans hb.tape, hg.output.trans hb.output, Nat.le_trans hb.size hg.size, fun k hk h1 h2 => by rw [hg.block k (Nat.lt_of_lt_of_le hk hb.size) h1 h2, hb.block k hk]⟩
theorem Grs.then {w w1 w2 : World} {X : Nat} {S : Nat → Prop} (hg : Grs w w1 X S) (hb : Below w1.heap.size w1 w2) : Grs w w2 X S :=
  ⟨hb.os.trans hg.os, hb.tape.trans hg.tape, hb.output.trans hg.output, Nat.le_trans hg.size hb.size, fun k hk h1 h2 => by rw [hb.block k (Nat.lt_of_lt_of_le hk hg.size), hg.block k hk h1 h2]⟩
theorem Grs.below {w0 w w' : World} {X B : Nat} {S : Nat → Prop} (hg : Grs w w' X S) (hb : Below B w0 w) (hB : B ≤ w.heap.size) (hX : B ≤ X) (hS : ∀ k, S k → B ≤ k) : Below B w0 w' :=
  ⟨hg.os.trans hb.os, hg.tape.trans hb.tape, hg.output.trans hb.output, Nat.le_trans hb.size hg.size, fun k hk => by rw [hg.block k (Nat.lt_of_lt_of_le hk hB) (by omega) (fun h => by have := hS k h; omega), hb.block k hk]⟩
/-- What a call that may change an engine does. -/
def Did (w w' : World) (X : Nat) (c : Cf) (l' : List Ru) (S : Nat → Prop) : Prop := ∃ L', Eng w' X c l' L' (fun k => S k ∨ (w.heap.size ≤ k ∧ k < w'.heap.size)) ∧ Grs w w' X S
theorem Eng.did {w w' : World} {X : Nat} {c : Cf} {l : List Ru} {L : Tp → List Hx.SlI} {S : Nat → Prop} (h : Eng w X c l L S) (hb : Below w.heap.size w w') : Did w w' X c l S :=
  ⟨L, (h.on hb).mono (fun k _ e => .inl e) (fun e => by
    rcases e with e | e
    · exact h.nX e
    · have := h.lt; omega), Grs.of X S hb⟩
end Go.Proofs.YtfpmljgmfapoiaaGreat
/-
  Ask. Written by tools/mkTpQ.py.
-/
namespace Go.Proofs.YtfpmljgmfapoiaaGreat
open Go.RowKit
set_option linter.unusedVariables false
set_option linter.unusedSimpArgs false

def prK (L : Tp → List Hx.SlI) (h : Hd) (t : Tp) : Nat := prbN (L t) (cutH t h)
def askR (l : List Ru) (L : Tp → List Hx.SlI) (h : Hd) : As := askS (fdK l h) (prK L h) (rkK l l.length) ⟨64, 0, 0, 0⟩
def vdV (c : Cf) (l : List Ru) (h : Hd) : Value := .agg #[.bool (vdH (mat l h)), .int .i64 (vdI l (mat l h)), .int .i64 (vdA c.a l (mat l h))]
def stC (s : As) : Array Value := #[.int .i64 0, .int .i64 s.ru, .int .i64 0, .int .i64 s.tb, .int .i64 s.pb]
theorem trnF_at {f : Tp → Option Nat} {T : List (Nat × Tp)} {k : Nat} (hk : k < T.length) : (trnF f T)[k]'(by unfold trnF; simpa using hk) = ((T[k]'hk).1, (f (T[k]'hk).2).getD 0) := by unfold trnF; simp
theorem trnF_len (f : Tp → Option Nat) (T : List (Nat × Tp)) : (trnF f T).length = T.length := by unfold trnF; simp
/-- The table of a turn. -/
theorem turn_at {w : World} {X : Nat} {c : Cf} {l : List Ru} {L : Tp → List Hx.SlI} {t : Nat} {v : Value} {B : Nat} {ad : Option Addr} {n cap : Nat} {f : Tp → Option Nat} {ks : List Tp} {Sg : Tp → Nat → Prop} (e : EngF w X c l L t v B ad n cap f ks Sg) {k : Nat} (hk : k < (rkK l l.length).length) :
    ∃ g h' v' c' P sp m, f ((rkK l l.length)[k]'hk).2 = some g ∧ BdT ((rkK l l.length)[k]'hk).2 ∧ ((rkK l l.length)[k]'hk).1 < l.length ∧ GrpF w g ((rkK l l.length)[k]'hk).2 (con (allS l) ((rkK l l.length)[k]'hk).2) (ent (allS l) ((rkK l l.length)[k]'hk).2) (L ((rkK l l.length)[k]'hk).2) h' v' c' P sp m := by
  obtain ⟨_, hx, h1, _⟩ := (rk_od l l.length (Nat.le_refl _)).fst _ (List.getElem_mem hk)
  have hs := (e.sp.dom ((rkK l l.length)[k]'hk).2).2 (ent_all.2 ⟨_, List.getElem_mem hx, h1⟩)
  obtain ⟨g, hg⟩ := Option.isSome_iff_exists.1 hs
  obtain ⟨h', v', c', P, sp, m, hf, _⟩ := e.sp.gs.grp _ g hg
  exact ⟨g, h', v', c', P, sp, m, hg, e.sp.mp.bd _ hs, hx, hf⟩
/-- verdict, at what Ask found. -/
theorem verdictS {w : World} {X : Nat} {c : Cf} {l : List Ru} {L : Tp → List Hx.SlI} {t : Nat} {v : Value} {B : Nat} {ad : Option Addr} {n cap : Nat} {f : Tp → Option Nat} {ks : List Tp} {Sg : Tp → Nat → Prop} (e : EngF w X c l L t v B ad n cap f ks Sg) (ok : OkN l) {h : Hd} (oh : OkH h) {s : As} (hs : askR l L h = s) (W : World) (hb : Below w.heap.size w W) :
    Calls Tryz.prog 35 #[.pointer (some ⟨X, 0, none⟩), .int .i64 s.m] W fun e w' => e = .returned (vdV c l h) ∧ Below W.heap.size W w' := by
  obtain ⟨h1, _⟩ := ask_ok ok oh (prK L h) s hs.symm
  unfold vdV
  rcases h1 with ⟨h1, h2, _⟩ | ⟨h1, h2, _⟩
  · rw [h1, h2]
    exact verdictNo X t v _ _ _ c l W (blk_on e.sp.blk hb) (e.tab.on hb) ok.few
  · rw [h2, vdI_at h1, vdA_at h1, show vdH (s.m : Int) = true from decide_eq_true (by omega)]
    exact verdictIn X t v _ _ _ c l s.m h1 _ rfl W (blk_on e.sp.blk hb) (e.tab.on hb) ok.few
theorem results_blks {P : Program} {fn : Func} {tmps : Array Value} {w : World} {t u : Tmp} {ty T ty2 T2 : TypeId} {d d2 : TypeDesc} {B C : Nat} {cs ds : Array Value} {fr fr2 : Nat × Nat} (h : fn.results = #[.cell t ty, .cell u ty2]) (hp : tmps.getD t undef = .pointer (some ⟨B, 0, none⟩)) (hq : tmps.getD u undef = .pointer (some ⟨C, 0, none⟩))
    (hb : w.heap[B]? = some (.cells cs T fr)) (hu : P.underlying ty = some d) (hd : d.isRow = true) (hi : (P.info? ty).map (·.size) = some cs.size)
    (hb2 : w.heap[C]? = some (.cells ds T2 fr2)) (hu2 : P.underlying ty2 = some d2) (hd2 : d2.isRow = true) (hi2 : (P.info? ty2).map (·.size) = some ds.size) : (results fn tmps).run P w = .ok (.tuple #[.agg cs, .agg ds]) w := by
  have hl := run_loadVar_mid (P := P) w B 0 ty cs.toList d (by have := World.rangeAt_of_block hb 0 cs.size; simpa using this) hu hd (by simpa using hi)
  have hl2 := run_loadVar_mid (P := P) w C 0 ty2 ds.toList d2 (by have := World.rangeAt_of_block hb2 0 ds.size; simpa using this) hu2 hd2 (by simpa using hi2)
  have hp2 : tmps[t]?.getD undef = .pointer (some ⟨B, 0, none⟩) := by simpa using hp
  have hq2 : tmps[u]?.getD undef = .pointer (some ⟨C, 0, none⟩) := by simpa using hq
  simp [results, h, hp2, hq2, asAddr, hl, hl2]
theorem below_set {w w1 : World} {b k j : Nat} (h : Below b w w1) (hk : b ≤ k) (u : Value) : Below b w (w1.setCell ⟨k, j, none⟩ u) := ⟨h.os, h.tape, h.output, by simpa using h.size, fun x hx => (heap_setCell_far _ _ _ _ _ (by omega)).trans (h.block x hx)⟩
theorem rngAll {w : World} {B : Nat} {cs : Array Value} {t : TypeId} {fr : Nat × Nat} (h : w.heap[B]? = some (.cells cs t fr)) : w.rangeAt B 0 cs.toList := by
  have := World.rangeAt_of_block h 0 cs.size
  simpa using this
set_option maxHeartbeats 8000000 in
set_option maxRecDepth 20000 in
theorem askE (X : Nat) (c : Cf) (l : List Ru) (L : Tp → List Hx.SlI) (S : Nat → Prop) (h : Hd) (w : World) (hE : Eng w X c l L S) (oh : OkH h) :
    Calls Tryz.prog 14 #[.pointer (some ⟨X, 0, none⟩), .agg #[.int .u32 h.s, .int .u32 h.d, .int .u16 h.p, .int .u16 h.q, .int .u8 h.r]] w fun e w' => e = .returned (.tuple #[vdV c l h, .agg (stC (askR l L h))]) ∧ Below w.heap.size w w' := by
  have HE : Hid (Eng w X c l L S) := hE
  obtain ⟨t, v, B, ad, n, cap, f, ks, Sg, he, _⟩ := hE.at'
  have HF : Hid (EngF w X c l L t v B ad n cap f ks Sg) := he
  have Hoh : Hid (OkH h) := oh
  obtain ⟨ad', cap', hsl, _, _⟩ := he.sp.row.form
  have hn : n = (rkK l l.length).length := by injection hsl with _ e1 _; rw [e1, trnF_len]
  have hn6 : n ≤ 57600 := by
    have h1 := rkK_len l l.length
    have h2 := hE.ok.few
    omega
  clear hsl
  obtain ⟨w0, hw0⟩ : ∃ w0, w0 = ((((w.alloc (.cells #[.int .u32 h.s, .int .u32 h.d, .int .u16 h.p, .int .u16 h.q, .int .u8 h.r] 54)).alloc (.cells #[.bool false, .int .i64 0, .int .i64 0] 62)).alloc (.cells #[.int .i64 0, .int .i64 0, .int .i64 0, .int .i64 0, .int .i64 0] 64)).alloc (.cells #[.int .i64 0, .int .i64 0, .int .i64 0, .int .i64 0, .int .i64 0] 64)) := ⟨_, rfl⟩
  have hb0 : Below w.heap.size w w0 := by rw [hw0]; exact ((((Below.refl _ _).alloc (Nat.le_refl _) _).alloc (by simp) _).alloc (by simp; omega) _).alloc (by simp; omega) _
  have k0 : w0.heap[w.heap.size]? = some (.cells #[.int .u32 h.s, .int .u32 h.d, .int .u16 h.p, .int .u16 h.q, .int .u8 h.r] 54) := by
    rw [hw0]
    exact blk_on (blk_on (blk_on (blk_new w _) ((Below.refl _ _).alloc (Nat.le_refl _) _)) ((Below.refl _ _).alloc (Nat.le_refl _) _)) ((Below.refl _ _).alloc (Nat.le_refl _) _)
  have k1 : w0.heap[w.heap.size + 1]? = some ((.cells #[.bool false, .int .i64 0, .int .i64 0] 62)) := by
    rw [hw0]
    have := blk_new (w.alloc (.cells #[.int .u32 h.s, .int .u32 h.d, .int .u16 h.p, .int .u16 h.q, .int .u8 h.r] 54)) (.cells #[.bool false, .int .i64 0, .int .i64 0] 62)
    exact blk_on (blk_on (by simpa using this) ((Below.refl _ _).alloc (Nat.le_refl _) _)) ((Below.refl _ _).alloc (Nat.le_refl _) _)
  have k2 : w0.heap[w.heap.size + 2]? = some ((.cells #[.int .i64 0, .int .i64 0, .int .i64 0, .int .i64 0, .int .i64 0] 64)) := by
    rw [hw0]
    have := blk_new ((w.alloc (.cells #[.int .u32 h.s, .int .u32 h.d, .int .u16 h.p, .int .u16 h.q, .int .u8 h.r] 54)).alloc (.cells #[.bool false, .int .i64 0, .int .i64 0] 62)) (.cells #[.int .i64 0, .int .i64 0, .int .i64 0, .int .i64 0, .int .i64 0] 64)
    exact blk_on (by simpa using this) ((Below.refl _ _).alloc (Nat.le_refl _) _)
  have k3 : w0.heap[w.heap.size + 3]? = some (.cells (stC ⟨64, 0, 0, 0⟩) 64 (0, 0)) := by
    rw [hw0]
    have := blk_new (((w.alloc (.cells #[.int .u32 h.s, .int .u32 h.d, .int .u16 h.p, .int .u16 h.q, .int .u8 h.r] 54)).alloc (.cells #[.bool false, .int .i64 0, .int .i64 0] 62)).alloc (.cells #[.int .i64 0, .int .i64 0, .int .i64 0, .int .i64 0, .int .i64 0] 64)) (.cells #[.int .i64 0, .int .i64 0, .int .i64 0, .int .i64 0, .int .i64 0] 64)
    simpa [stC] using this
  have HB0 : Hid (Below w.heap.size w w0) := hb0
  have K0 : Hid _ := k0
  have K1 : Hid _ := k1
  have K2 : Hid _ := k2
  have K3 : Hid _ := k3
  have Hw0 : Hid (((((w.alloc (.cells #[.int .u32 h.s, .int .u32 h.d, .int .u16 h.p, .int .u16 h.q, .int .u8 h.r] 54)).alloc (.cells #[.bool false, .int .i64 0, .int .i64 0] 62)).alloc (.cells #[.int .i64 0, .int .i64 0, .int .i64 0, .int .i64 0, .int .i64 0] 64)).alloc (.cells #[.int .i64 0, .int .i64 0, .int .i64 0, .int .i64 0, .int .i64 0] 64)) = w0) := hw0.symm
  have c4 : w0.cell? ⟨X, 4, none⟩ = some (.slice ad n cap) := cell_on1 hb0 (blk_cell he.sp.blk rfl)
  clear hE he oh hw0 hb0 k0 k1 k2 k3
  go_enter Tryz.func14, Tryz.ntmps14
  go_upto_region 5 with (fail)
  rw [Hw0.out]
  clear Hw0
  go_wp2_with (fail)
  go_loopw [7, 22] (fun v7 vi wr => ∃ (k : Nat) (s : As), k ≤ n ∧ vi = .int .i64 k ∧ v7 = .int .i64 s.m ∧ s.m ≤ 64 ∧ Hid (askS (fdK l h) (prK L h) (rkK l l.length) ⟨64, 0, 0, 0⟩ = askS (fdK l h) (prK L h) ((rkK l l.length).drop k) s) ∧ Hid (wr.heap[w.heap.size + 3]? = some (.cells (stC s) 64 (0, 0)) ∧ s.tb ≤ k ∧ s.ru ≤ k ∧ 0 ≤ s.pb) ∧ Hid (wr.heap[w.heap.size]? = some (.cells #[.int .u32 h.s, .int .u32 h.d, .int .u16 h.p, .int .u16 h.q, .int .u8 h.r] 54)) ∧ Hid (wr.heap[w.heap.size + 1]? = some (.cells #[.bool false, .int .i64 0, .int .i64 0] 62)) ∧ Hid (wr.heap[w.heap.size + 2]? = some (.cells #[.int .i64 0, .int .i64 0, .int .i64 0, .int .i64 0, .int .i64 0] 64)) ∧ Hid (Below w.heap.size w wr)) (fun _ vi _ => n - (intOf vi).toNat)
  case atStart => exact ⟨0, ⟨64, 0, 0, 0⟩, Nat.zero_le _, rfl, rfl, Nat.le_refl _, rfl, ⟨K3.out, by simp, by simp, by simp⟩, K0.out, K1.out, K2.out, HB0.out⟩
  case round =>
    clear K0 K1 K2 K3 HB0 c4
    obtain ⟨k, s, hk, rfl, rfl, hm, HA, HS, H0, H1, H2, HB⟩ := hrel
    by_cases hlt : k < n
    · obtain ⟨g1, h1, v1, c1, P, sp, m, hg, bt, hj, hf⟩ := turn_at HF.out (k := k) (by omega)
      obtain ⟨x, hx⟩ : ∃ x, x = (rkK l l.length)[k]'(by omega) := ⟨_, rfl⟩
      rw [← hx] at hg bt hj hf
      have hrow := HF.out.sp.row.on HB.out
      obtain ⟨ad2, cap2, e1, hcp, hc⟩ := hrow.form
      obtain ⟨g, e2, _, hgl, hc⟩ := hc (by rw [trnF_len]; omega)
      have e3 : ad = some ⟨g, 0, none⟩ := by injection e1 with e1 _ _; rw [e1, e2]
      subst e3
      have r0 := hc k (by rw [trnF_len]; omega) 0 (by decide)
      have r1 := hc k (by rw [trnF_len]; omega) 1 (by decide)
      rw [trnF_at (by omega), ← hx, hg] at r0 r1
      simp only [encV, Nat.add_zero, Option.getD_some, List.getElem?_cons_zero, List.getElem?_cons_succ] at r0 r1
      have hdrop : (rkK l l.length).drop k = x :: (rkK l l.length).drop (k + 1) := by rw [hx]; exact List.drop_eq_getElem_cons (by omega)
      have Hdrop : Hid _ := hdrop
      have Hbt : Hid (BdT x.2) := bt
      have Hj : Hid (x.1 < l.length) := hj
      have Hf : Hid (GrpF w g1 x.2 (con (allS l) x.2) (ent (allS l) x.2) (L x.2) h1 v1 c1 P sp m) := hf
      have hlt3 : (k : Int) < (n : Int) := by omega
      have hk0 : (0 : Int) ≤ (k : Int) := by omega
      have hbb : Below wr.heap.size wr (wr.alloc (.cells #[.int .i64 x.1, .pointer (some ⟨g1, 0, none⟩)] 95)) := (Below.refl _ _).alloc (Nat.le_refl _) _
      have hbn := blk_new wr (.cells #[.int .i64 x.1, .pointer (some ⟨g1, 0, none⟩)] 95)
      clear hdrop bt hj hf hg hc hrow e1 e2 hcp hx
      go_upto_region 8 with (fail)
      obtain ⟨wb, hwb⟩ : ∃ wb, wb = wr.alloc (.cells #[.int .i64 x.1, .pointer (some ⟨g1, 0, none⟩)] 95) := ⟨_, rfl⟩
      rw [← hwb] at hbb hbn ⊢
      clear hwb r0 r1
      have y0 := blk_cell (j := 0) hbn rfl
      have y1 := blk_cell (j := 1) hbn rfl
      have HB2 : Hid (Below w.heap.size w wb) := HB.out.trans (hbb.mono HB.out.size)
      have H02 : Hid (wb.heap[w.heap.size]? = some (.cells #[.int .u32 h.s, .int .u32 h.d, .int .u16 h.p, .int .u16 h.q, .int .u8 h.r] 54)) := blk_on H0.out hbb
      have H12 : Hid (wb.heap[w.heap.size + 1]? = some (.cells #[.bool false, .int .i64 0, .int .i64 0] 62)) := blk_on H1.out hbb
      have H22 : Hid (wb.heap[w.heap.size + 2]? = some (.cells #[.int .i64 0, .int .i64 0, .int .i64 0, .int .i64 0, .int .i64 0] 64)) := blk_on H2.out hbb
      obtain ⟨q3, q4, q5, q6⟩ := HS.out
      have HS2 : Hid (wb.heap[w.heap.size + 3]? = some (.cells (stC s) 64 (0, 0)) ∧ s.tb ≤ k ∧ s.ru ≤ k ∧ 0 ≤ s.pb) := ⟨blk_on q3 hbb, q4, q5, q6⟩
      clear q3 q4 q5 q6 HS H0 H1 H2 HB hbb hbn
      obtain ⟨bT, hbT⟩ : ∃ bT, bT = wr.heap.size := ⟨_, rfl⟩
      rw [← hbT] at y0 y1 ⊢
      clear hbT
      by_cases hle : s.m ≤ x.1
      · have Hs : Hid (askR l L h = s) := by
          have h1 := HA.out
          rw [Hdrop.out, askS, if_pos hle] at h1
          exact h1
        have hle2 : (s.m : Int) ≤ (x.1 : Int) := by omega
        clear HA
        have HS : Hid _ := HS2.out
        have H1 : Hid _ := H12.out
        have H2 : Hid _ := H22.out
        have HB : Hid _ := HB2.out
        have hV := fun W hb => verdictS HF.out HE.out.ok Hoh.out Hs.out W hb
        have HV : Hid _ := hV
        obtain ⟨h3, _, _, _⟩ := HS.out
        go_upto_region 16 with (fail)
        refine wp_region_held_drew (S := fun w' => w'.heap[w.heap.size + 3]? = some (.cells #[.int .i64 0, .int .i64 s.ru, .int .i64 0, .int .i64 s.tb, .int .i64 s.pb] 64 (0, 0)) ∧ Below w.heap.size w w') (by kernel_rfl) ⟨h3, HB.out.drew⟩ (fun hS0 => ?_)
        show wpAnyH _ _ _ _ _ 6 _ _ _
        clear hV h3
        obtain ⟨wd, hwd⟩ : ∃ x, x = wb.drew := ⟨_, rfl⟩
        have hd1 : wd.heap[w.heap.size + 1]? = some (.cells #[.bool false, .int .i64 0, .int .i64 0] 62) := by rw [hwd]; exact H1.out
        have hd2 : wd.heap[w.heap.size + 2]? = some (.cells #[.int .i64 0, .int .i64 0, .int .i64 0, .int .i64 0, .int .i64 0] 64) := by rw [hwd]; exact H2.out
        rw [← hwd] at hS0 ⊢
        clear hwd
        refine wpTk (i := 0) (v := .pointer (some ⟨X, 0, none⟩)) hS0 ?_
        simp only [nrm]
        refine wpTk (i := 1) (v := .int .i64 s.m) hS0 ?_
        simp only [nrm]
        refine wpLd (i := 3) rfl (yieldsIf_load_mid rfl 64 (.tmp 6) rfl (w.heap.size + 3) 0 rfl [.int .i64 0, .int .i64 s.ru, .int .i64 0, .int .i64 s.tb, .int .i64 s.pb] _ (fun w' hw' => rngAll hw'.1) Tryz.underlying64 rfl (by kernel_rfl)) hS0 ?_
        try simp only [nrm]
        refine wpO 2 (fun K' hK' => ?_)
        go_wp2_with (go_at_call 35; refine (HV.out _ hS0.2).mono ?_; rintro e w5 ⟨rfl, hb5⟩)
        have hS5 : w5.heap[w.heap.size + 3]? = some (.cells #[.int .i64 0, .int .i64 s.ru, .int .i64 0, .int .i64 s.tb, .int .i64 s.pb] 64 (0, 0)) ∧ Below w.heap.size w w5 := ⟨blk_on hS0.1 hb5, hS0.2.trans (hb5.mono hS0.2.size)⟩
        have hd51 := blk_on hd1 hb5
        have hd52 := blk_on hd2 hb5
        refine ⟨hS5, ?_⟩
        refine wpO 4 (fun K' hK' => ?_)
        refine wpSt 62 (.tmp 4) (.tmp 66) rfl (w.heap.size + 1) 0 #[.bool (vdH (mat l h)), .int .i64 (vdI l (mat l h)), .int .i64 (vdA c.a l (mat l h))] #[.bool (vdH (mat l h)), .int .i64 (vdI l (mat l h)), .int .i64 (vdA c.a l (mat l h))] rfl rfl 62 _ hd51 (fun w6 h6 ho6 => hK' _ _ ⟨⟨(ho6.block _ (by omega)).trans hS5.1, hS5.2.trans (ho6.below (by omega))⟩, ?_⟩)
        have hd62 := (ho6.block (w.heap.size + 2) (by omega)).trans hd52
        have hB6 : Below w.heap.size w w6 := hS5.2.trans (ho6.below (by omega))
        have hS63 := (ho6.block (w.heap.size + 3) (by omega)).trans hS5.1
        refine wpO 5 (fun K' hK' => ?_)
        refine wpSt 64 (.tmp 5) (.tmp 67) rfl (w.heap.size + 2) 0 #[.int .i64 0, .int .i64 s.ru, .int .i64 0, .int .i64 s.tb, .int .i64 s.pb] #[.int .i64 0, .int .i64 s.ru, .int .i64 0, .int .i64 s.tb, .int .i64 s.pb] rfl rfl 64 _ hd62 (fun w7 h7 ho7 => hK' _ _ ⟨⟨(ho7.block _ (by omega)).trans hS63, hB6.trans (ho7.below (by omega))⟩, ?_⟩)
        have hv7 := (ho7.block (w.heap.size + 1) (by omega)).trans h6
        have hB7 : Below w.heap.size w w7 := hB6.trans (ho7.below (by omega))
        refine wpAnyH_done (by kernel_rfl) ?_ _
        try simp only [nrm]
        clear hS0 hd1 hd2 hS5 hd51 hd52 ho6 h6 hd62 hB6 hS63 ho7 hb5 HV
        have HB7 : Hid _ := hB7
        clear hB7
        go_wp2_with (fail)
        exact bodyPost_ret (results_blks Tryz.results14 rfl rfl hv7 Tryz.underlying62 rfl (by kernel_rfl) h7 Tryz.underlying64 rfl (by kernel_rfl)) rfl ⟨by rw [Hs.out]; rfl, HB7.out⟩
      · have hle2 : ¬ (s.m : Int) ≤ (x.1 : Int) := by omega
        have hE6 : ent (allS l) x.2 ≤ 65536 := by
          have h1 := ent_le (allS l) x.2
          have h2 := allS_le l
          have h3 := HE.out.ok.few
          omega
        have hfd := findG (Hf.out.on HB2.out) h Hoh.out Hbt.out hE6
        obtain ⟨z0, z1, z2, z3, z4⟩ := blk5 H02.out
        go_wp2_with (go_at_call 33; fail)
        refine hfd.mono ?_
        rintro e w2 ⟨rfl, hb2⟩
        have HB3 : Hid (Below w.heap.size w w2) := HB2.out.trans (hb2.mono HB2.out.size)
        have H03 : Hid (w2.heap[w.heap.size]? = some (.cells #[.int .u32 h.s, .int .u32 h.d, .int .u16 h.p, .int .u16 h.q, .int .u8 h.r] 54)) := blk_on H02.out hb2
        have H13 : Hid (w2.heap[w.heap.size + 1]? = some (.cells #[.bool false, .int .i64 0, .int .i64 0] 62)) := blk_on H12.out hb2
        have H23 : Hid (w2.heap[w.heap.size + 2]? = some (.cells #[.int .i64 0, .int .i64 0, .int .i64 0, .int .i64 0, .int .i64 0] 64)) := blk_on H22.out hb2
        have HS3 : Hid (w2.heap[w.heap.size + 1 + 1 + 1]? = some (.cells #[.int .i64 0, .int .i64 s.ru, .int .i64 0, .int .i64 s.tb, .int .i64 s.pb] 64 (0, 0))) := blk_on HS2.out.1 hb2
        have t1 := blk_cell (j := 1) HS3.out rfl
        have t3 := blk_cell (j := 3) HS3.out rfl
        have t4 := blk_cell (j := 4) HS3.out rfl
        have f1 := blk_free HS3.out 1
        have f3 := blk_free HS3.out 3
        have f4 := blk_free HS3.out 4
        have b1 : (s.tb : Int) ≤ 57600 := by have := HS2.out.2.1; omega
        have b2 : (s.ru : Int) ≤ 57600 := by have := HS2.out.2.2.1; omega
        have hp : (0 : Nat) = 0 := rfl
        obtain ⟨p, hpp⟩ : ∃ p, p = prbN (L x.2) (cutH x.2 h) := ⟨_, rfl⟩
        rw [← hpp]
        obtain ⟨o, ho⟩ : ∃ o, o = m (cutH x.2 h) := ⟨_, rfl⟩
        rw [← ho]
        have Hp : Hid (p = prbN (L x.2) (cutH x.2 h)) := hpp
        have Ho : Hid (o = m (cutH x.2 h)) := ho
        clear hpp ho hb2 hfd z0 z1 z2 z3 z4 y0 y1
        cases o with
        | none =>
          simp only [Option.getD_none, svV, Hx.svZ]
          have hfd0 : fdK l h x.2 = none := by unfold fdK; rw [Hf.out.no _ Ho.out.symm]
          have HA2 : Hid (askS (fdK l h) (prK L h) (rkK l l.length) ⟨64, 0, 0, 0⟩ = askS (fdK l h) (prK L h) ((rkK l l.length).drop (k + 1)) ⟨s.m, s.tb + 1, max s.pb p, s.ru⟩) := by
            have h1 := HA.out
            rw [Hdrop.out, askS, if_neg hle, asStp, hfd0, show prK L h x.2 = p from Hp.out.symm] at h1
            exact h1
          clear hfd0 HA
          go_wp2_with (fail)
          have hmx : ((max s.pb p : Nat) : Int) = max (s.pb : Int) (p : Int) := by omega
          have e1 := blk_set (j := 3) HS3.out (.int .i64 ((s.tb : Int) + 1))
          have e2 := blk_set (j := 4) e1 (.int .i64 (max (s.pb : Int) (p : Int)))
          have hfar : ∀ b, b < w.heap.size + 3 → ((w2.setCell ⟨w.heap.size + 1 + 1 + 1, 3, none⟩ (.int .i64 ((s.tb : Int) + 1))).setCell ⟨w.heap.size + 1 + 1 + 1, 4, none⟩ (.int .i64 (max (s.pb : Int) (p : Int)))).heap[b]? = w2.heap[b]? := fun b hb => by rw [heap_setCell_far _ _ _ _ _ (by omega), heap_setCell_far _ _ _ _ _ (by omega)]
          refine ⟨⟨k + 1, ⟨s.m, s.tb + 1, max s.pb p, s.ru⟩, by omega, by simp, rfl, hm, HA2.out, ⟨?_, ?_, ?_, Nat.zero_le _⟩, (hfar _ (by omega)).trans H03.out, (hfar _ (by omega)).trans H13.out, (hfar _ (by omega)).trans H23.out, below_set (below_set HB3.out (by omega) _) (by omega) _⟩, by simp [intOf]; omega⟩
          · unfold stC
            rw [hmx]
            simpa using e2
          · have := HS2.out.2.1; show s.tb + 1 ≤ k + 1; omega
          · have := HS2.out.2.2.1; show s.ru ≤ k + 1; omega
        | some q =>
          obtain ⟨hne, hri, _⟩ := Hf.out.row _ q Ho.out.symm
          obtain ⟨i, rest, hc⟩ := List.exists_cons_of_ne_nil hne
          have hri2 := hri.on HB3.out
          rw [hc] at hri2
          obtain ⟨j, hj2, hji, hjr, hjs⟩ := con_head hc
          have hfj : fnd l i = (j : Int) := by rw [← hji]; exact fnd_atN HE.out.ok hj2
          have hfd1 : fdK l h x.2 = some j := by unfold fdK; rw [hc]; simp [hfj]
          have HA2 : Hid (askS (fdK l h) (prK L h) (rkK l l.length) ⟨64, 0, 0, 0⟩ = askS (fdK l h) (prK L h) ((rkK l l.length).drop (k + 1)) ⟨min s.m j, s.tb + 1, max s.pb p, s.ru + 1⟩) := by
            have h1 := HA.out
            rw [Hdrop.out, askS, if_neg hle, asStp, hfd1, show prK L h x.2 = p from Hp.out.symm] at h1
            exact h1
          have hgl2 := (hc ▸ hri).lt
          clear hfd1 HA hne hri hc hji hjr hjs hj2
          obtain ⟨ad9, cap9, e9, h9⟩ := hri2.form
          obtain ⟨g9, e8, _, _, h8⟩ := h9 (by simp)
          subst e8
          have hg9 : g9 < w.heap.size := (hgl2 g9 (by rw [e9]; rfl)).2
          have x9 := (h8 0 (by simp)).1
          have hN0 : (0 : Int) < ((i :: rest).length : Int) := by simp
          simp only [Option.getD_some]
          rw [e9]
          obtain ⟨N, hN⟩ : ∃ N, N = (i :: rest).length := ⟨_, rfl⟩
          rw [← hN] at hN0 ⊢
          have hN1 : N ≠ 0 := by omega
          simp only [List.getElem_cons_zero] at x9
          clear e9 h8 h9 hN hri2 hgl2
          go_upto_region 14 with (fail)
          obtain ⟨w3, hw3⟩ : ∃ w3, w3 = ((w2.setCell ⟨w.heap.size + 1 + 1 + 1, 3, none⟩ (.int .i64 ((s.tb : Int) + 1))).setCell ⟨w.heap.size + 1 + 1 + 1, 4, none⟩ (.int .i64 (max (s.pb : Int) (p : Int)))).setCell ⟨w.heap.size + 1 + 1 + 1, 1, none⟩ (.int .i64 ((s.ru : Int) + 1)) := ⟨_, rfl⟩
          have e1 := blk_set (j := 3) HS3.out (.int .i64 ((s.tb : Int) + 1))
          have e2 := blk_set (j := 4) e1 (.int .i64 (max (s.pb : Int) (p : Int)))
          have e3 := blk_set (j := 1) e2 (.int .i64 ((s.ru : Int) + 1))
          rw [← hw3] at e3
          have hfar : ∀ b, b < w.heap.size + 3 → w3.heap[b]? = w2.heap[b]? := fun b hb => by rw [hw3, heap_setCell_far _ _ _ _ _ (by omega), heap_setCell_far _ _ _ _ _ (by omega), heap_setCell_far _ _ _ _ _ (by omega)]
          have HB4 : Hid (Below w.heap.size w w3) := by show Below _ _ _; rw [hw3]; exact below_set (below_set (below_set HB3.out (by omega) _) (by omega) _) (by omega) _
          have E3 : Hid (w3.heap[w.heap.size + 3]? = some (.cells (stC ⟨min s.m j, s.tb + 1, max s.pb p, s.ru + 1⟩) 64 (0, 0))) := by
            show _ = _
            have hmx : ((max s.pb p : Nat) : Int) = max (s.pb : Int) (p : Int) := by omega
            unfold stC
            rw [hmx]
            simpa using e3
          have H04 : Hid _ := (hfar _ (by omega)).trans H03.out
          have H14 : Hid _ := (hfar _ (by omega)).trans H13.out
          have H24 : Hid _ := (hfar _ (by omega)).trans H23.out
          have x8 : w3.cell? ⟨g9, 0, none⟩ = some (.int .i64 i) := by rw [World.cell?_of_block (w := w2) (a := ⟨g9, 0, none⟩) (hfar g9 (by omega))]; exact x9
          have x0 : w3.cell? ⟨X, 0, none⟩ = some (.pointer (some ⟨t, 0, none⟩)) := cell_on1 HB4.out (blk_cell HF.out.sp.blk rfl)
          have HFi : Hid (∀ W, Below w3.heap.size w3 W → Calls Tryz.prog 34 #[.pointer (some ⟨t, 0, none⟩), .int .i64 i] W fun e w' => e = .returned (.int .i64 j) ∧ Below W.heap.size W w') := fun W hb => by
            have h1 := findC t v c.m c.a l i W ((HF.out.tab.on HB4.out).on hb) (Nat.le_trans HE.out.ok.few (by decide))
            rw [hfj] at h1
            exact h1
          rw [← hw3]
          clear hw3 e1 e2 e3 hfar x9 t1 t3 t4 f1 f3 f4
          refine wp_region_held_drew (S := fun w' => Below w3.heap.size w3 w') (by kernel_rfl) (Below.drew (Below.refl _ _)) (fun hS0 => ?_)
          show wpAnyH _ _ _ _ _ 11 _ _ _
          obtain ⟨wd, hwd⟩ : ∃ x, x = w3.drew := ⟨_, rfl⟩
          rw [← hwd] at hS0 ⊢
          clear hwd
          refine wpTk (i := 0) (v := .int .i64 s.m) hS0 ?_
          simp only [nrm]
          refine wpTk (i := 1) (v := .pointer (some ⟨X, 0, none⟩)) hS0 ?_
          simp only [nrm]
          refine wpTk (i := 2) (v := .pointer (some ⟨X, 0, none⟩)) hS0 ?_
          simp only [nrm]
          refine wpTk (i := 3) (v := .pointer (some ⟨X, 0, none⟩)) hS0 ?_
          simp only [nrm]
          refine wpAnyH_take (i := 4) (v := .pointer (some ⟨t, 0, none⟩)) rfl (by kernel_rfl) (by kernel_rfl) (by kernel_rfl) (fun _ _ _ h => h) (.inl ⟨rfl, fun w' hw' => by have hcc := cell_on1 hw' x0; simp [execOp, go_sem, hcc]⟩) hS0 ?_
          simp only [nrm]
          refine wpTk (i := 5) (v := .slice (some ⟨g9, 0, none⟩) N cap9) hS0 ?_
          simp only [nrm]
          refine wpAnyH_take (i := 6) (v := .pointer (some ⟨g9, 0, none⟩)) rfl (by kernel_rfl) (by kernel_rfl) (by kernel_rfl) (fun _ _ _ h => h) (.inl ⟨rfl, fun _ _ => by simp [execOp, go_sem, hN0, hN1]⟩) hS0 ?_
          simp only [nrm]
          refine wpAnyH_take (i := 7) (v := .int .i64 i) rfl (by kernel_rfl) (by kernel_rfl) (by kernel_rfl) (fun _ _ _ h => h) (.inl ⟨rfl, fun w' hw' => by have hcc := cell_on1 hw' x8; simp [execOp, go_sem, hcc]⟩) hS0 ?_
          simp only [nrm]
          refine wpO 8 (fun K' hK' => ?_)
          go_wp2_with (go_at_call 34; refine (HFi.out _ hS0).mono ?_; rintro e w5 ⟨rfl, hb5⟩)
          have hS5 := hS0.trans (hb5.mono hS0.size)
          refine ⟨hS5, ?_⟩
          refine wpTk (i := 9) (v := .int .i64 (min (s.m : Int) (j : Int))) hS5 ?_
          simp only [nrm]
          refine wpTk (i := 10) (v := .int .i64 (min (s.m : Int) (j : Int))) hS5 ?_
          simp only [nrm]
          refine wpAnyH_done (by kernel_rfl) ?_ _
          try simp only [nrm]
          have HS5 : Hid (Below w3.heap.size w3 w5) := hS5
          clear hS5 hS0 hb5 x8 x0
          go_wp2_with (fail)
          refine ⟨⟨k + 1, ⟨min s.m j, s.tb + 1, max s.pb p, s.ru + 1⟩, by omega, by simp, ?_, ?_, HA2.out, ⟨blk_on E3.out HS5.out, ?_, ?_, Nat.zero_le _⟩, blk_on H04.out HS5.out, blk_on H14.out HS5.out, blk_on H24.out HS5.out, HB4.out.trans (HS5.out.mono HB4.out.size)⟩, by simp [intOf]; omega⟩
          · rw [show ((min s.m j : Nat) : Int) = min (s.m : Int) (j : Int) by omega]
          · show min s.m j ≤ 64; omega
          · have := HS2.out.2.1; show s.tb + 1 ≤ k + 1; omega
          · have := HS2.out.2.2.1; show s.ru + 1 ≤ k + 1; omega
    · have hkn : k = n := by omega
      have Hs : Hid (askR l L h = s) := by
        have h1 := HA.out
        rw [List.drop_eq_nil_of_le (by omega)] at h1
        exact h1
      have hlt2 : ¬ (k : Int) < (n : Int) := by omega
      have hV := fun W hb => verdictS HF.out HE.out.ok Hoh.out Hs.out W hb
      have HV : Hid _ := hV
      obtain ⟨h3, _, _, _⟩ := HS.out
      go_upto_region 16 with (fail)
      refine wp_region_held_drew (S := fun w' => w'.heap[w.heap.size + 3]? = some (.cells #[.int .i64 0, .int .i64 s.ru, .int .i64 0, .int .i64 s.tb, .int .i64 s.pb] 64 (0, 0)) ∧ Below w.heap.size w w') (by kernel_rfl) ⟨h3, HB.out.drew⟩ (fun hS0 => ?_)
      show wpAnyH _ _ _ _ _ 6 _ _ _
      clear hV h3
      obtain ⟨wd, hwd⟩ : ∃ x, x = wr.drew := ⟨_, rfl⟩
      have hd1 : wd.heap[w.heap.size + 1]? = some (.cells #[.bool false, .int .i64 0, .int .i64 0] 62) := by rw [hwd]; exact H1.out
      have hd2 : wd.heap[w.heap.size + 2]? = some (.cells #[.int .i64 0, .int .i64 0, .int .i64 0, .int .i64 0, .int .i64 0] 64) := by rw [hwd]; exact H2.out
      rw [← hwd] at hS0 ⊢
      clear hwd
      refine wpTk (i := 0) (v := .pointer (some ⟨X, 0, none⟩)) hS0 ?_
      simp only [nrm]
      refine wpTk (i := 1) (v := .int .i64 s.m) hS0 ?_
      simp only [nrm]
      refine wpLd (i := 3) rfl (yieldsIf_load_mid rfl 64 (.tmp 6) rfl (w.heap.size + 3) 0 rfl [.int .i64 0, .int .i64 s.ru, .int .i64 0, .int .i64 s.tb, .int .i64 s.pb] _ (fun w' hw' => rngAll hw'.1) Tryz.underlying64 rfl (by kernel_rfl)) hS0 ?_
      try simp only [nrm]
      refine wpO 2 (fun K' hK' => ?_)
      go_wp2_with (go_at_call 35; refine (HV.out _ hS0.2).mono ?_; rintro e w5 ⟨rfl, hb5⟩)
      have hS5 : w5.heap[w.heap.size + 3]? = some (.cells #[.int .i64 0, .int .i64 s.ru, .int .i64 0, .int .i64 s.tb, .int .i64 s.pb] 64 (0, 0)) ∧ Below w.heap.size w w5 := ⟨blk_on hS0.1 hb5, hS0.2.trans (hb5.mono hS0.2.size)⟩
      have hd51 := blk_on hd1 hb5
      have hd52 := blk_on hd2 hb5
      refine ⟨hS5, ?_⟩
      refine wpO 4 (fun K' hK' => ?_)
      refine wpSt 62 (.tmp 4) (.tmp 66) rfl (w.heap.size + 1) 0 #[.bool (vdH (mat l h)), .int .i64 (vdI l (mat l h)), .int .i64 (vdA c.a l (mat l h))] #[.bool (vdH (mat l h)), .int .i64 (vdI l (mat l h)), .int .i64 (vdA c.a l (mat l h))] rfl rfl 62 _ hd51 (fun w6 h6 ho6 => hK' _ _ ⟨⟨(ho6.block _ (by omega)).trans hS5.1, hS5.2.trans (ho6.below (by omega))⟩, ?_⟩)
      have hd62 := (ho6.block (w.heap.size + 2) (by omega)).trans hd52
      have hB6 : Below w.heap.size w w6 := hS5.2.trans (ho6.below (by omega))
      have hS63 := (ho6.block (w.heap.size + 3) (by omega)).trans hS5.1
      refine wpO 5 (fun K' hK' => ?_)
      refine wpSt 64 (.tmp 5) (.tmp 67) rfl (w.heap.size + 2) 0 #[.int .i64 0, .int .i64 s.ru, .int .i64 0, .int .i64 s.tb, .int .i64 s.pb] #[.int .i64 0, .int .i64 s.ru, .int .i64 0, .int .i64 s.tb, .int .i64 s.pb] rfl rfl 64 _ hd62 (fun w7 h7 ho7 => hK' _ _ ⟨⟨(ho7.block _ (by omega)).trans hS63, hB6.trans (ho7.below (by omega))⟩, ?_⟩)
      have hv7 := (ho7.block (w.heap.size + 1) (by omega)).trans h6
      have hB7 : Below w.heap.size w w7 := hB6.trans (ho7.below (by omega))
      refine wpAnyH_done (by kernel_rfl) ?_ _
      try simp only [nrm]
      clear hS0 hd1 hd2 hS5 hd51 hd52 ho6 h6 hd62 hB6 hS63 ho7 hb5 HV
      have HB7 : Hid _ := hB7
      clear hB7
      go_wp2_with (fail)
      exact bodyPost_ret (results_blks Tryz.results14 rfl rfl hv7 Tryz.underlying62 rfl (by kernel_rfl) h7 Tryz.underlying64 rfl (by kernel_rfl)) rfl ⟨by rw [Hs.out]; rfl, HB7.out⟩
  all_goals trace_state
  all_goals sorry
end Go.Proofs.YtfpmljgmfapoiaaGreat
