/-
  PkAP: NsI CtB CtL, one behind the other (tools/pack.py).
-/
import Derived.Lib.MinMax
import Derived.Test.YtgokmkholjfhbaaGreatPkAO
import Derived.Test.YtgokmkholjfhbaaGreatPkAE
import Derived.Test.YtgokmkholjfhbaaGreatPkAM
import Derived.Test.YtgokmkholjfhbaaGreatPkAN
import Derived.Deep.QuietTactic
import Derived.BigQuiet
import Derived.Test.YtgokmkholjfhbaaGreatPkAC
import Derived.Test.YtgokmkholjfhbaaGreatPkAD
import Derived.Deep.DeepCutAuto
import Derived.RegionTactic
import Derived.BigRegion
set_option linter.unusedVariables false
set_option linter.unusedSimpArgs false
namespace Go.Proofs.YtgokmkholjfhbaaGreat
open Go.RowKit
def eI (l : List Int) : List Value := l.map (Value.int .i64)
theorem eI_at {l : List Int} {k : Nat} (h : k < l.length) : (eI l)[k]? = some (.int .i64 l[k]) := by simp [eI, h]
theorem eI_set (l : List Int) (j : Nat) (x : Int) : (eI l).set j (.int .i64 x) = eI (l.set j x) := by simp [eI, List.map_set]
theorem infoI : (Tryz.prog.info? 3).map (fun i => (i.zero, i.size, i.bytes)) = some (some (.int .i64 0), 1, 8) := by kernel_rfl
def RowI (w : World) (b : Nat) (v : Value) (l : List Int) : Prop := w.ownsRow b 3 1 v l.length (eI l)
def SrcI (w : World) (v : Value) (l : List Int) : Prop :=
 ∃ (ad : Option Addr) (cap : Nat), v = .slice ad l.length cap ∧ (0 < l.length → ∃ g off, ad = some ⟨g, off, none⟩ ∧ ∀ k (hk : k < l.length), w.cell? ⟨g, off + k, none⟩ = some (.int .i64 (l[k]'hk)))
theorem RowI.on {w w1 : World} {b : Nat} {v : Value} {l : List Int} (h : RowI w b v l) (hb : Below w.heap.size w w1) : RowI w1 b v l := by
 refine ⟨h.1, ?_⟩
 rcases h.2 with h2 | ⟨g, cap, cur, hv, hg, hh, r⟩
 ·exact .inl h2
 ·exact .inr ⟨g, cap, cur, hv, hg, by rw [hb.block g (Array.getElem?_eq_some_iff.1 hh).1]; exact hh, r⟩
theorem RowI.base {w : World} {b b' : Nat} {v : Value} {l : List Int} (h : RowI w b v l) (hb : b' ≤ b) : RowI w b' v l := by
 refine ⟨h.1, ?_⟩
 rcases h.2 with h2 | ⟨g, cap, cur, hv, hg, r⟩
 ·exact .inl h2
 ·exact .inr ⟨g, cap, cur, hv, by omega, r⟩
theorem RowI.nil (w : World) (b : Nat) : RowI w b (.slice none 0 0) [] := World.ownsRow_nil w b _ _
theorem RowI.lt {w : World} {b : Nat} {v : Value} {l : List Int} (h : RowI w b v l) : ∀ k, v.ownBlock = some k → b ≤ k ∧ k < w.heap.size := World.ownsRow.lt h
theorem RowI.form {w : World} {b : Nat} {v : Value} {l : List Int} (h : RowI w b v l) : ∃ (ad : Option Addr) (cap : Nat), v = .slice ad l.length cap ∧
  (0 < l.length → ∃ g, ad = some ⟨g, 0, none⟩ ∧ b ≤ g ∧ g < w.heap.size ∧ ∀ k (hk : k < l.length), w.cell? ⟨g, k, none⟩ = some (.int .i64 (l[k]'hk)) ∧ w.frozen? ⟨g, k, none⟩ = false) := by
 rcases h.2 with ⟨hv, hn⟩ | ⟨g, cap, cur, hv, hb, hg, r⟩
 ·exact ⟨none, 0, by rw [hv, hn], fun h0 => by omega⟩
 ·subst hv
  refine ⟨_, cap, rfl, fun _ => ⟨g, rfl, hb, blk_lt hg, fun k hk => ⟨?_, World.ownsRow.frozenAt h k⟩⟩⟩
  rw [World.ownsRow.cellAt h k (by omega), eI_at hk]
theorem RowI.src {w : World} {b : Nat} {v : Value} {l : List Int} (h : RowI w b v l) : SrcI w v l := by
 obtain ⟨ad, cap, hv, h2⟩ := h.form
 refine ⟨ad, cap, hv, fun h0 => ?_⟩
 obtain ⟨g, e, _, _, h3⟩ := h2 h0
 exact ⟨g, 0, e, fun k hk => by rw [Nat.zero_add]; exact (h3 k hk).1⟩
theorem RowI.cell {w : World} {b g n cap : Nat} {l : List Int} (h : RowI w b (.slice (some ⟨g, 0, none⟩) n cap) l) {k : Nat} (hk : k < l.length) : w.cell? ⟨g, k, none⟩ = some (.int .i64 (l[k]'hk)) ∧ w.frozen? ⟨g, k, none⟩ = false := by
 obtain ⟨ad, c, e, h2⟩ := h.form
 cases e
 obtain ⟨g', e', _, _, h3⟩ := h2 (by omega)
 cases e'
 exact h3 k hk
theorem RowI.set {w : World} {b g n cap : Nat} {l : List Int} (h : RowI w b (.slice (some ⟨g, 0, none⟩) n cap) l) (j : Nat) (x : Int) : RowI (w.setCell ⟨g, j, none⟩ (.int .i64 x)) b (.slice (some ⟨g, 0, none⟩) n cap) (l.set j x) ∧ w.grownBy (w.setCell ⟨g, j, none⟩ (.int .i64 x)) (some g) := by
 have hn : n = l.length := by obtain ⟨ad, c, e, _⟩ := h.form; injection e
 subst hn
 obtain ⟨a, b⟩ := World.ownsRow.stored h j (.int .i64 x)
 rw [eI_set] at a
 exact ⟨by unfold RowI; simpa using a, b⟩
theorem SrcI.keep {w w1 : World} {v : Value} {l : List Int} (h : SrcI w v l) (hb : Below w.heap.size w w1) : SrcI w1 v l := by
 obtain ⟨ad, cap, rfl, h2⟩ := h
 refine ⟨ad, cap, rfl, fun h0 => ?_⟩
 obtain ⟨g, off, rfl, h3⟩ := h2 h0
 exact ⟨g, off, rfl, fun k hk => cell_on1 hb (h3 k hk)⟩
theorem SrcI.at {w : World} {ad : Option Addr} {n cap : Nat} {l : List Int} (h : SrcI w (.slice ad n cap) l) {k : Nat} (hk : k < l.length) : ∃ g off, ad = some ⟨g, off, none⟩ ∧ w.cell? ⟨g, off + k, none⟩ = some (.int .i64 (l[k]'hk)) := by
 obtain ⟨ad', c, e, h2⟩ := h
 cases e
 obtain ⟨g, off, e', h3⟩ := h2 (by omega)
 exact ⟨g, off, e', h3 k hk⟩
theorem SrcI.len {w : World} {v : Value} {l : List Int} (h : SrcI w v l) : ∃ (ad : Option Addr) (cap : Nat), v = .slice ad l.length cap := by
 obtain ⟨ad, cap, e, _⟩ := h
 exact ⟨ad, cap, e⟩
def ofN (ns : List Nat) : List Int := ns.map Int.ofNat
theorem ofN_len (ns : List Nat) : (ofN ns).length = ns.length := by simp [ofN]
theorem ofN_at {ns : List Nat} {k : Nat} (h : k < (ofN ns).length) : (ofN ns)[k] = ((ns[k]'(by rwa [ofN_len] at h) : Nat) : Int) := by simp [ofN]
def RowA (w : World) (g n cap : Nat) (d : Array Int) : Prop := RowI w 0 (.slice (some ⟨g, 0, none⟩) n cap) d.toList
theorem RowA.size {w : World} {g n cap : Nat} {d : Array Int} (h : RowA w g n cap d) : n = d.size := by
 have h' : RowI w 0 (.slice (some ⟨g, 0, none⟩) n cap) d.toList := h
 obtain ⟨ad, c, e, _⟩ := h'.form
 simpa using (Value.slice.inj e).2.1
theorem RowA.cell {w : World} {g n cap : Nat} {d : Array Int} (h : RowA w g n cap d) {k : Nat} (hk : k < n) : w.cell? ⟨g, k, none⟩ = some (.int .i64 d[k]!) ∧ w.frozen? ⟨g, k, none⟩ = false := by
 have hs := h.size
 have h' : RowI w 0 (.slice (some ⟨g, 0, none⟩) n cap) d.toList := h
 have := h'.cell (k := k) (by simp; omega)
 rw [Array.getElem_toList] at this
 rw [getElem!_pos d k (by omega)]
 exact this
theorem RowA.set {w : World} {g n cap : Nat} {d : Array Int} (h : RowA w g n cap d) (j : Nat) (x : Int) : RowA (w.setCell ⟨g, j, none⟩ (.int .i64 x)) g n cap (d.setIfInBounds j x) ∧ w.grownBy (w.setCell ⟨g, j, none⟩ (.int .i64 x)) (some g) := by
 have h' : RowI w 0 (.slice (some ⟨g, 0, none⟩) n cap) d.toList := h
 have := h'.set j x
 unfold RowA
 rw [Array.toList_setIfInBounds]
 exact this
theorem RowA.drew {w : World} {g n cap : Nat} {d : Array Int} (h : RowA w g n cap d) (q : Nat) : RowA (w.drewN q) g n cap d := h
theorem RowA.on {w w1 : World} {g n cap : Nat} {d : Array Int} (h : RowA w g n cap d) (hb : Below w.heap.size w w1) : RowA w1 g n cap d := RowI.on h hb
theorem ct_load {P : Program} {ops : Array Oper} {C : World → Prop} {Q : Act → Prop} {rest : List Oper} {op : Oper} {a : Act} (hw : Region.wanted op (yielded ops a.tmps) = true) (ty : TypeId) (x : Operand) (ho : op.op = .load ty x)
  (B o : Nat) (cs : Array Value) (hx : a.eval x = .pointer (some ⟨B, o, none⟩)) (h : ∀ w, C w → w.rangeAt B o cs.toList) {d : TypeDesc} (hu : P.underlying ty = some d) (hd : d.isRow = true) (hi : (P.info? ty).map (·.size) = some cs.size)
  (hk : wpQuiet P ops C Q rest (a.put op.dst (.agg cs))) : wpQuiet P ops C Q (op :: rest) a := by
 unfold wpQuiet
 rw [if_pos hw]
 refine ⟨_, fun w hw => ?_, hk⟩
 have hl := run_loadVar_mid (P := P) w B o ty cs.toList d (h w hw) hu hd (by simpa using hi)
 unfold Oper.quietAt execOp
 simp only [ho, hx, Instr.loadAt, Instr.sureAddr, Sem.run_bind, Sem.run_pure, Result.andThen_ok, hl]
 exact ⟨rfl, rfl⟩
theorem rng_on {w w1 : World} (hb : Below w.heap.size w w1) {B o : Nat} {cs : List Value} (h : w.rangeAt B o cs) : w1.rangeAt B o cs := fun j v hv => cell_on1 hb (h j v hv)
theorem rng_kin {W : World} {B o : Nat} {cs : List Value} (h : W.rangeAt B o cs) : ∀ w', (∃ x : Kin W, w' = x.val) → w'.rangeAt B o cs := fun w' ⟨x, hx⟩ => by rw [hx]; exact rng_on x.is h
theorem SrcZ.rng {w : World} {ad : Option Addr} {n cap : Nat} {l : List CtE} (h : SrcZ w (.slice ad n cap) l) : n = l.length ∧ n ≤ cap ∧ (∀ k (hk : k < l.length), ∃ g off, ad = some ⟨g, off, none⟩ ∧ g < w.heap.size ∧ w.rangeAt g (off + k * 11) (encZ (l[k]'hk)) ∧ w.rangeAt g (off + k * 11 + 1) (Xb.encX (l[k]'hk).2)) := by
 obtain ⟨ad', cap', e, hc, h2⟩ := h
 obtain ⟨rfl, e2, rfl⟩ : ad = ad' ∧ n = l.length ∧ cap = cap' := by cases e; exact ⟨rfl, rfl, rfl⟩
 refine ⟨e2, by rw [e2]; exact hc.1, fun k hk => ?_⟩
 obtain ⟨g, off, e, h3⟩ := h2 (by omega)
 have key : w.rangeAt g (off + k * 11) (encZ (l[k]'hk)) := fun j u hu => by
  have hj : j < 11 := by
   have := (List.getElem?_eq_some_iff.1 hu).1
   simpa [encZ] using this
  have := h3 k hk j hj
  rw [show off + k * 11 + j = off + (k * 11 + j) by omega]
  exact this.trans hu
 refine ⟨g, off, e, World.block_lt_of_cell? w _ (key 0 _ rfl), key, fun j u hu => ?_⟩
 rw [show off + k * 11 + 1 + j = off + k * 11 + (j + 1) by omega]
 refine key (j + 1) u ?_
 rw [← hu]
 unfold encZ Xb.encX
 rw [List.getElem?_cons_succ]
theorem infoXB : (Tryz.prog.info? 74).map (·.size) = some 10 := by kernel_rfl
def lastZ (L : List CtE) (X : Xb.Bx) : Bool := match L.getLast? with
 | none => false
 | some e => decide (e.2 = X)
theorem lastZ_snoc (L : List CtE) (e : CtE) (X : Xb.Bx) : lastZ (L ++ [e]) X = decide (e.2 = X) := by unfold lastZ; simp
theorem part_rng {w : World} {B : Nat} {p : Pt} (h : w.heap[B]? = some (.cells #[.int .u32 p.x.a.1, .int .u32 p.x.a.2, .int .u32 p.x.b.1, .int .u32 p.x.b.2, .int .u16 p.x.c.1, .int .u16 p.x.c.2, .int .u16 p.x.d.1, .int .u16 p.x.d.2, .int .u8 p.x.m.1, .int .u8 p.x.m.2, .slice p.ad p.n p.cap] 135 (0, 0))) : w.rangeAt B 0 (Xb.encX p.x) ∧ w.cell? ⟨B, 10, none⟩ = some (.slice p.ad p.n p.cap) := by
 refine ⟨fun j u hu => ?_, blk_cell h rfl⟩
 have hj : j < 10 := by
  have := (List.getElem?_eq_some_iff.1 hu).1
  simpa [Xb.encX] using this
 rw [Nat.zero_add]
 have h1 : (Xb.encX p.x ++ [Value.slice p.ad p.n p.cap])[j]? = some u := by
  rw [List.getElem?_append_left (by simpa [Xb.encX] using hj)]; exact hu
 refine blk_cell h ?_
 show ((Xb.encX p.x ++ [Value.slice p.ad p.n p.cap]).toArray)[j]? = some u
 rw [List.getElem?_toArray]
 exact h1
set_option maxRecDepth 20000 in
set_option maxHeartbeats 4000000 in
theorem settledC (B : Nat) (p : Pt) (L : List CtE) (w : World) (hB : w.heap[B]? = some (.cells #[.int .u32 p.x.a.1, .int .u32 p.x.a.2, .int .u32 p.x.b.1, .int .u32 p.x.b.2, .int .u16 p.x.c.1, .int .u16 p.x.c.2, .int .u16 p.x.d.1, .int .u16 p.x.d.2, .int .u8 p.x.m.1, .int .u8 p.x.m.2, .slice p.ad p.n p.cap] 135 (0, 0))) (hs : SrcZ w (.slice p.ad p.n p.cap) L) (hl : L.length ≤ 4096) :
  Calls Tryz.prog 82 #[.pointer (some ⟨B, 0, none⟩)] w fun e w' => e = .returned (.bool (lastZ L p.x)) ∧ Below w.heap.size w w' := by
 obtain ⟨hX, hc⟩ := part_rng hB
 obtain ⟨hn, hcap, hr⟩ := hs.rng
 obtain ⟨X, ad, n, cap⟩ := p
 simp only at hn hcap hc hX hr hs ⊢
 have hBl := blk_lt hB
 clear hB
 by_cases h0 : L.length = 0
 ·have eL : L = [] := List.eq_nil_of_length_eq_zero h0
  subst eL
  have hn0 : n = 0 := hn
  subst hn0
  show Calls _ _ _ _ fun e w' => e = .returned (.bool false) ∧ _
  clear hs hr hX hn
  go_enter Tryz.func82, Tryz.ntmps82
  go_upto_region 2 with (fail)
  go_quiet (fail)
  go_wp2
  go_ret
  exact ⟨rfl, belA⟩
 ·obtain ⟨m, hm⟩ : ∃ m, L.length = m + 1 := ⟨L.length - 1, by omega⟩
  obtain ⟨g, off, rfl, hg, h11, hE⟩ := hr m (by omega)
  clear h11
  have hlast : lastZ L X = decide ((L[m]'(by omega)).2 = X) := by
   unfold lastZ
   have e1 : L.length - 1 = m := by omega
   rw [List.getLast?_eq_getElem?, e1, List.getElem?_eq_getElem (by omega)]
  rw [hlast]
  generalize (L[m]'(by omega)).2 = Y at *
  have hq : ∀ W : World, Sem.run Tryz.prog (binOp .eql 74 (.agg (Xb.encX Y).toArray) (.agg (Xb.encX X).toArray)) W = .ok (.bool (decide (Y = X))) W := fun W => Xb.eqX_any Y X W
  have i1 : (Tryz.prog.info? 74).map (·.size) = some (Xb.encX Y).toArray.size := infoXB
  have i2 : (Tryz.prog.info? 74).map (·.size) = some (Xb.encX X).toArray.size := infoXB
  have r1 : w.rangeAt g (off + m * 11 + 1) (Xb.encX Y).toArray.toList := hE
  have r2 : w.rangeAt B 0 (Xb.encX X).toArray.toList := hX
  generalize (Xb.encX Y).toArray = A1 at *
  generalize (Xb.encX X).toArray = A2 at *
  generalize decide (Y = X) = b at *
  have HQ0 : Hid _ := hq
  have R1 : Hid _ := r1
  have R2 : Hid _ := r2
  have I1 : Hid _ := i1
  have I2 : Hid _ := i2
  have hn1 : n = m + 1 := by omega
  subst hn1
  have hw : IntKind.i64.wrap (((m + 1 : Nat) : Int) - 1) = (m : Int) := by rw [IntKind.wrap_i64]; omega
  have hm0 : (0 : Int) ≤ (m : Int) := by omega
  have hmn : (m : Int) < ((m + 1 : Nat) : Int) := by omega
  have hge : decide ((0 : Int) ≤ (m : Int)) = true := decide_eq_true hm0
  clear hs hr hX hE r1 r2 i1 i2 hlast hq hn hm h0
  have hq := HQ0.out
  clear HQ0
  generalize hN : m + 1 = N at *
  clear hN
  go_enter Tryz.func82, Tryz.ntmps82
  go_upto_region 2 with (fail)
  have kne : Nonempty (Kin w) := ⟨⟨_, Below.refl _ _⟩⟩
  have kc0 : ∀ y : Kin w, y.val.cell? ⟨B, 10, none⟩ = some (.slice (some ⟨g, off, none⟩) N cap) := fun y => by rw [kin_cell hBl]; exact hc
  refine wp_region_kin w (Below.refl _ _) (by kernel_rfl) (by kernel_rfl) ?_
  trace_state
  iterate 10 (go_big_quiet_step (fail))
  refine ct_load (by rfl) 74 (.tmp 19) rfl g (off + m * 11 + 1) A1 rfl (rng_kin R1.out) Tryz.underlying74 rfl I1.out ?_
  simp only [nrm]
  iterate 3 (go_big_quiet_step (fail))
  refine ct_load (by rfl) 74 (.tmp 23) rfl B 0 A2 rfl (rng_kin R2.out) Tryz.underlying74 rfl I2.out ?_
  simp only [nrm]
  iterate 3 (go_big_quiet_step (fail))
  refine wpQuiet_nil ?_
  rintro wq ⟨⟨xq, hxq⟩, hyq⟩
  have HQ : Hid (Below w.heap.size w wq) := by show Below _ _ _; rw [hyq]; exact hxq
  clear hyq hxq xq kne kc0 hq R1 R2 I1 I2
  go_wp2
  go_ret
  exact ⟨rfl, HQ.out⟩
def moreQ (c : Ct2) : Nat := max c.1.n c.2.n
def bothQ (c : Ct2) : Nat := c.1.n + c.2.n
def cmpN (a b : Nat) : Int := if a < b then -1 else if b < a then 1 else 0
def cmpQ (a b : Ct2) : Int := if cmpN (moreQ a) (moreQ b) = 0 then cmpN (bothQ a) (bothQ b) else cmpN (moreQ a) (moreQ b)
theorem moreQC (c : Ct2) (w : World) : Calls Tryz.prog 110 #[.agg #[.int .u32 c.1.x.a.1, .int .u32 c.1.x.a.2, .int .u32 c.1.x.b.1, .int .u32 c.1.x.b.2, .int .u16 c.1.x.c.1, .int .u16 c.1.x.c.2, .int .u16 c.1.x.d.1, .int .u16 c.1.x.d.2, .int .u8 c.1.x.m.1, .int .u8 c.1.x.m.2, .slice c.1.ad c.1.n c.1.cap, .int .u32 c.2.x.a.1, .int .u32 c.2.x.a.2, .int .u32 c.2.x.b.1, .int .u32 c.2.x.b.2, .int .u16 c.2.x.c.1, .int .u16 c.2.x.c.2, .int .u16 c.2.x.d.1, .int .u16 c.2.x.d.2, .int .u8 c.2.x.m.1, .int .u8 c.2.x.m.2, .slice c.2.ad c.2.n c.2.cap]] w fun e w' => e = .returned (.int .i64 (moreQ c : Nat)) ∧ Below w.heap.size w w' := by
 obtain ⟨⟨⟨a1, a2, a3, a4, a5⟩, ad, n, cap⟩, ⟨⟨b1, b2, b3, b4, b5⟩, ad', n', cap'⟩⟩ := c
 have e : moreQ (⟨⟨⟨a1, a2, a3, a4, a5⟩, ad, n, cap⟩, ⟨⟨b1, b2, b3, b4, b5⟩, ad', n', cap'⟩⟩ : Ct2) = max n n' := rfl
 rw [e]
 clear e
 rcases Nat.lt_trichotomy n n' with h | h | h
 ·rw [Nat.max_eq_right (by omega)]
  have h1 : (n : Int) < (n' : Int) := by omega
  clear h
  go_enter Tryz.func110, Tryz.ntmps110
  go_wp2
  go_ret
  exact ⟨by simp <;> omega, belA⟩
 ·subst h
  rw [Nat.max_self]
  go_enter Tryz.func110, Tryz.ntmps110
  go_wp2
  go_ret
  exact ⟨by simp <;> omega, belA⟩
 ·rw [Nat.max_eq_left (by omega)]
  have h1 : (n' : Int) < (n : Int) := by omega
  clear h
  go_enter Tryz.func110, Tryz.ntmps110
  go_wp2
  go_ret
  exact ⟨by simp <;> omega, belA⟩
theorem bothQC (c : Ct2) (w : World) (h1 : c.1.n ≤ 4096) (h2 : c.2.n ≤ 4096) : Calls Tryz.prog 111 #[.agg #[.int .u32 c.1.x.a.1, .int .u32 c.1.x.a.2, .int .u32 c.1.x.b.1, .int .u32 c.1.x.b.2, .int .u16 c.1.x.c.1, .int .u16 c.1.x.c.2, .int .u16 c.1.x.d.1, .int .u16 c.1.x.d.2, .int .u8 c.1.x.m.1, .int .u8 c.1.x.m.2, .slice c.1.ad c.1.n c.1.cap, .int .u32 c.2.x.a.1, .int .u32 c.2.x.a.2, .int .u32 c.2.x.b.1, .int .u32 c.2.x.b.2, .int .u16 c.2.x.c.1, .int .u16 c.2.x.c.2, .int .u16 c.2.x.d.1, .int .u16 c.2.x.d.2, .int .u8 c.2.x.m.1, .int .u8 c.2.x.m.2, .slice c.2.ad c.2.n c.2.cap]] w fun e w' => e = .returned (.int .i64 (bothQ c : Nat)) ∧ Below w.heap.size w w' := by
 obtain ⟨⟨⟨a1, a2, a3, a4, a5⟩, ad, n, cap⟩, ⟨⟨b1, b2, b3, b4, b5⟩, ad', n', cap'⟩⟩ := c
 have e : bothQ (⟨⟨⟨a1, a2, a3, a4, a5⟩, ad, n, cap⟩, ⟨⟨b1, b2, b3, b4, b5⟩, ad', n', cap'⟩⟩ : Ct2) = n + n' := rfl
 rw [e]
 simp only at h1 h2
 have hw : IntKind.i64.wrap ((n : Int) + (n' : Int)) = (n : Int) + (n' : Int) := by rw [IntKind.wrap_i64]; omega
 clear e h1 h2
 go_enter Tryz.func111, Tryz.ntmps111
 go_wp2
 go_ret
 exact ⟨by simp [hw], belA⟩
theorem compareC (a b : Nat) (w : World) : Calls Tryz.prog 109 #[.int .i64 a, .int .i64 b] w fun e w' => e = .returned (.int .i64 (cmpN a b)) ∧ w' = w := by
 rcases Nat.lt_trichotomy a b with h | h | h
 ·have e : cmpN a b = -1 := by unfold cmpN; rw [if_pos h]
  have h1 : (a : Int) < (b : Int) := by omega
  rw [e]
  clear h e
  go_enter Tryz.func109, Tryz.ntmps109
  go_wp2
  go_ret
  exact ⟨rfl, rfl⟩
 ·subst h
  have e : cmpN a a = 0 := by unfold cmpN; rw [if_neg (Nat.lt_irrefl _), if_neg (Nat.lt_irrefl _)]
  rw [e]
  clear e
  go_enter Tryz.func109, Tryz.ntmps109
  go_wp2
  go_ret
  exact ⟨rfl, rfl⟩
 ·have e : cmpN a b = 1 := by unfold cmpN; rw [if_neg (by omega), if_pos h]
  have h1 : (b : Int) < (a : Int) := by omega
  have h2 : ¬ (a : Int) < (b : Int) := by omega
  rw [e]
  clear h e
  go_enter Tryz.func109, Tryz.ntmps109
  go_wp2
  go_ret
  exact ⟨rfl, rfl⟩
theorem orC (x y : Int) (g : Nat) (w : World) (h0 : w.cell? ⟨g, 0, none⟩ = some (.int .i64 x)) (h1 : w.cell? ⟨g, 1, none⟩ = some (.int .i64 y)) : Calls Tryz.prog 108 #[.slice (some ⟨g, 0, none⟩) 2 2] w fun e w' => e = .returned (.int .i64 (if x = 0 then y else x)) ∧ w' = w := by
 by_cases hx : x = 0
 ·subst hx
  rw [if_pos rfl]
  by_cases hy : y = 0
  ·subst hy
   go_enter Tryz.func108, Tryz.ntmps108
   go_wp2
   go_loopw [8] (fun i wr => ∃ k : Nat, k ≤ 2 ∧ i = .int .i64 k ∧ wr = w) (fun i _ => 2 - (intOf i).toNat)
   case atStart => exact ⟨0, by omega, rfl, rfl⟩
   case round =>
    obtain ⟨k, hk, rfl, rfl⟩ := hrel
    match k, hk with
    | 0, _ =>
     go_wp2
     go_roundw
     case rel => exact ⟨1, by omega, by go_num, trivial⟩
     case measure => simp [intOf]
    | 1, _ =>
     go_wp2
     go_roundw
     case rel => exact ⟨2, by omega, by go_num, trivial⟩
     case measure => simp [intOf]
    | 2, _ =>
     go_wp2
     go_ret
     exact ⟨rfl, rfl⟩
  ·go_enter Tryz.func108, Tryz.ntmps108
   go_wp2
   go_loopw [8] (fun i wr => ∃ k : Nat, k ≤ 1 ∧ i = .int .i64 k ∧ wr = w) (fun i _ => 2 - (intOf i).toNat)
   case atStart => exact ⟨0, by omega, rfl, rfl⟩
   case round =>
    obtain ⟨k, hk, rfl, rfl⟩ := hrel
    match k, hk with
    | 0, _ =>
     go_wp2
     go_roundw
     case rel => exact ⟨1, by omega, by go_num, trivial⟩
     case measure => simp [intOf]
    | 1, _ =>
     go_wp2
     go_ret
     exact ⟨rfl, rfl⟩
 ·rw [if_neg hx]
  go_enter Tryz.func108, Tryz.ntmps108
  go_wp2
  go_loopw [8] (fun i wr => i = .int .i64 0 ∧ wr = w) (fun i _ => 2 - (intOf i).toNat)
  case atStart => exact ⟨rfl, rfl⟩
  case round =>
   obtain ⟨rfl, rfl⟩ := hrel
   go_wp2
   go_ret
   exact ⟨rfl, rfl⟩
def len8 (x : Nat) : Nat := if x = 0 then 0 else Nat.log2 x + 1
theorem len8_le {x : Nat} (hx : x < 256) : len8 x ≤ 8 := by
 unfold len8
 split
 ·omega
 ·have : Nat.log2 x < 8 := (Nat.log2_lt (by omega)).2 hx
  omega
set_option maxRecDepth 100000 in
set_option maxHeartbeats 1000000 in
theorem lenT (x : Nat) (w : World) (hx : x < 256) : Calls Tryz.prog 121 #[.int .u8 x] w fun e w' => e = .returned (.int .i64 (len8 x : Int)) ∧ w' = w := by
 go_enter Tryz.func121, Tryz.ntmps121
 have hx' : (x : Int) < 256 := by omega
 generalize hS : ByteArray.mk _ = S
 have hs : S.size = 256 := by rw [← hS]; decide +kernel
 have hT : S.data.toList.map UInt8.toNat = (List.range 256).map len8 := by rw [← hS]; decide +kernel
 have hV : ∀ h : x < S.size, S[x].toNat = len8 x := fun h => by
  have h1 := congrArg (fun l => l[x]?) hT
  simp only [List.getElem?_map, List.getElem?_range hx, Option.map_some] at h1
  have h2 : S.data.toList[x]? = some S[x] := by
   rw [Array.getElem?_toList, Array.getElem?_eq_getElem h]
   rfl
  rw [h2] at h1
  simpa using h1
 clear hS hT
 go_wp2
 go_ret
 refine ⟨ret_int ?_, rfl⟩
 have := len8_le hx
 simp [wrap64]
 omega
theorem not_bits {c : Nat} (hc : c < 256) : bits .xor .u8 (IntKind.max .u8) (c : Int) = ((255 - c : Nat) : Int) := by
 have e := u8_xor_nat 255 c (by decide) hc
 have e2 : 255 ^^^ c = 255 - c := by
  apply Nat.eq_of_testBit_eq
  intro i
  rw [Nat.testBit_xor, not8 hc, show (255 : Nat) = 2 ^ 8 - 1 from rfl, Nat.testBit_two_pow_sub_one]
  by_cases h8 : i < 8
  ·simp [h8]
  ·simp [h8, test_ge hc (show 8 ≤ i by omega)]
 rw [e2] at e
 exact e
set_option maxHeartbeats 2000000 in
theorem halveMaskC (v c : Nat) (hv : v < 256) (hc : c < 256) : ∃ p q : Nat × Nat, (halM (v, c) = some (p, q) ∨ halM (v, c) = none) ∧ p.1 < 256 ∧ p.2 < 256 ∧ q.1 < 256 ∧ q.2 < 256 ∧ ∀ w : World, Calls Tryz.prog 95 #[.agg #[.int .u8 v, .int .u8 c]] w fun e w' => e = .returned (.tuple #[.agg #[.int .u8 p.1, .int .u8 p.2], .agg #[.int .u8 q.1, .int .u8 q.2], .bool (halM (v, c)).isSome]) ∧ Below w.heap.size w w' := by
 have hx := not_bits hc
 by_cases hz : 255 - c = 0
 ·have e : halM (v, c) = none := by unfold halM; rw [if_pos hz]
  rw [e]
  refine ⟨(0, 0), (0, 0), .inr rfl, by decide, by decide, by decide, by decide, fun w => ?_⟩
  rw [hz] at hx
  have hx' : Hid (bits .xor .u8 (IntKind.max .u8) (c : Int) = 0) := hx
  clear hx hz e
  go_enter Tryz.func95, Tryz.ntmps95
  go_upto_region 2 with (fail)
  simp only [IntKind.signed, Bool.false_eq_true, if_false, hx'.out]
  go_wp2
  exact bodyPost_ret (v := .tuple #[.agg #[.int .u8 0, .int .u8 0], .agg #[.int .u8 0, .int .u8 0], .bool false]) (by simp [results, Tryz.results95, go_sem]) rfl ⟨rfl, belA⟩
 ·obtain ⟨f1, f2, f3⟩ := hiB_free hc hz
  have e : halM (v, c) = some ((v, c ||| hiB (255 - c)), (v ||| hiB (255 - c), c ||| hiB (255 - c))) := by unfold halM; rw [if_neg hz]
  rw [e]
  have hb0 : hiB (255 - c) = 2 ^ Nat.log2 (255 - c) := rfl
  have hl : len8 (255 - c) = Nat.log2 (255 - c) + 1 := by unfold len8; rw [if_neg hz]
  have hlog := log_lt hz (by omega)
  have kL := fun W => lenT (255 - c) W (by omega)
  rw [hl] at kL
  have hf : 255 - c < 256 := by omega
  have hf0 : ¬ ((255 - c : Nat) : Int) = 0 := by omega
  refine ⟨_, _, .inl rfl, hv, or_lt hc f2, or_lt hv f2, or_lt hc f2, fun w => ?_⟩
  have o1 := u8_or_nat c (hiB (255 - c)) hc f2
  have o2 := u8_or_nat v (hiB (255 - c)) hv f2
  simp only [Option.isSome_some]
  rw [← o1, ← o2]
  have hsh : ((hiB (255 - c) : Nat) : Int) = (2 : Int) ^ Nat.log2 (255 - c) := by rw [hb0]; simp
  generalize hiB (255 - c) = b at *
  generalize Nat.log2 (255 - c) = k at *
  generalize 255 - c = f at *
  have hx' : Hid (bits .xor .u8 (IntKind.max .u8) (c : Int) = (f : Int)) := hx
  have hsh' : Hid ((b : Int) = (2 : Int) ^ k) := hsh
  have hb8 : (2 : Int) ^ k % 256 = (2 : Int) ^ k := by rw [← hsh]; omega
  have hk8 : (k : Int) < 8 := by omega
  clear hx hz e hb0 hl f1 f3 o1 o2 hsh
  go_enter Tryz.func95, Tryz.ntmps95
  go_upto_region 2 with (fail)
  simp only [IntKind.signed, Bool.false_eq_true, if_false, hx'.out]
  go_wp2_with (go_at_call 121; refine (kL _).mono ?_; rintro e w' ⟨rfl, hw⟩; obtain rfl := hw.symm; clear hw)
  go_region
  all_goals go_wp2
  all_goals (refine bodyPost_ret (v := .tuple #[.agg #[.int .u8 v, .int .u8 (bits .or .u8 (c : Int) (b : Int))], .agg #[.int .u8 (bits .or .u8 (v : Int) (b : Int)), .int .u8 (bits .or .u8 (c : Int) (b : Int))], .bool true]) (by simp [results, Tryz.results95, go_sem, IntKind.wrap, IntKind.signed, hb8, hsh'.out]) rfl ⟨rfl, ?_⟩; (repeat (first | assumption | exact Below.refl _ _ | refine Below.drew ?_ | refine bel_drewN ?_ _ | refine Below.setCell ?_ (by first | omega | (simp; done) | (simp; omega)) _ | refine Below.alloc ?_ (by first | omega | (simp; done) | (simp; omega)) _ | refine bel_of ?_ (by assumption))))
end Go.Proofs.YtgokmkholjfhbaaGreat

