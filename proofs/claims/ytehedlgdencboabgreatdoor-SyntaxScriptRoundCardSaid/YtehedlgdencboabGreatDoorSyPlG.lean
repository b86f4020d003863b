/-
  Stage 10 ahead: the lines of rules and commands that may be are lines of pieces; their lengths; a list that is printed is read as itself, out of its text alone. No program is named here.
-/
import Derived.Test.YtehedlgdencboabGreatDoorSyPlF
namespace Go.Proofs.YtehedlgdencboabGreatDoor
set_option linter.unusedVariables false
set_option linter.unusedSimpArgs false

theorem dec_len : ∀ (k u : Nat), u < 10 ^ (k + 1) → (Lib.decDigits u).length ≤ k + 1
  | 0, u, h => by rw [dec_small (by simpa using h)]; exact Nat.le_refl _
  | k + 1, u, h => by
    by_cases hu : u < 10
    · rw [dec_small hu]; simp
    · rw [dec_great hu, List.length_append]
      have := dec_len k (u / 10) (by rw [Nat.div_lt_iff_lt_mul (by decide)]; rw [Nat.pow_succ] at h; exact h)
      simp only [List.length_cons, List.length_nil]
      omega
theorem dec3 {u : Nat} (h : u ≤ 255) : (Lib.decDigits u).length ≤ 3 := dec_len 2 u (by omega)
theorem dec2 {u : Nat} (h : u ≤ 32) : (Lib.decDigits u).length ≤ 2 := dec_len 1 u (by omega)
theorem dec5 {u : Nat} (h : u ≤ 65535) : (Lib.decDigits u).length ≤ 5 := dec_len 4 u (by omega)
theorem dec10 {u : Nat} (h : u ≤ 4294967295) : (Lib.decDigits u).length ≤ 10 := dec_len 9 u (by omega)
/-- A part of a line: pieces that may be, no two of a kind side by side, so long at most. -/
structure Part (n : Nat) (l : List Pc) : Prop where
  ok : ∀ p ∈ l, OkP p
  al : alt (l.map (·.k)) = true
  len : (textP l).length ≤ n
theorem text_app (l m : List Pc) : textP (l ++ m) = textP l ++ textP m := List.flatMap_append ..
theorem text_cons (p : Pc) (l : List Pc) : textP (p :: l) = p.t ++ textP l := rfl
theorem Part.sep {n m : Nat} {l r : List Pc} (h : Part n l) (g : Part m r) : Part (n + 1 + m) (l ++ bP :: r) := {
  ok := fun p hp => by
    rcases List.mem_append.1 hp with hp | hp
    · exact h.ok p hp
    · rcases List.mem_cons.1 hp with rfl | hp
      · exact ok_bP
      · exact g.ok p hp
  al := by
    rw [List.map_append, List.map_cons]
    show alt (l.map (·.k) ++ 0 :: r.map (·.k)) = true
    rw [alt_sep, h.al, g.al]
    rfl
  len := by
    rw [text_app, text_cons, List.length_append, List.length_append]
    have h1 := h.len
    have h2 := g.len
    show _ + (1 + _) ≤ _
    omega }
theorem Part.more {n m : Nat} {l : List Pc} (h : Part n l) (hm : n ≤ m) : Part m l := ⟨h.ok, h.al, Nat.le_trans h.len hm⟩
theorem part_n {n k : Nat} (h : n ≤ 4294967295) (hk : (Lib.decDigits n).length ≤ k) : Part k [nP n] := {
  ok := fun p hp => by rw [List.mem_singleton.1 hp]; exact ok_nP h
  al := rfl
  len := by rw [text_cons]; show (Lib.decDigits n ++ []).length ≤ k; rw [List.append_nil]; exact hk }
theorem ok_s42 : OkP (sP 42) := ok_sP (by decide)
theorem ok_s46 : OkP (sP 46) := ok_sP (by decide)
theorem ok_s47 : OkP (sP 47) := ok_sP (by decide)
theorem ok_s58 : OkP (sP 58) := ok_sP (by decide)
theorem part_all : Part 1 [sP 42] := {
  ok := fun p hp => by rw [List.mem_singleton.1 hp]; exact ok_s42
  al := rfl
  len := Nat.le_refl 1 }
/-- Two numbers with a sign between. -/
theorem part_two {a b c n m : Nat} (ha : a ≤ 4294967295) (hb : b ≤ 4294967295) (hc : OkP (sP c)) (hn : (Lib.decDigits a).length ≤ n) (hm : (Lib.decDigits b).length ≤ m) : Part (n + 1 + m) [nP a, sP c, nP b] := {
  ok := fun p hp => by
    simp only [List.mem_cons, List.not_mem_nil, or_false] at hp
    rcases hp with rfl | rfl | rfl
    · exact ok_nP ha
    · exact hc
    · exact ok_nP hb
  al := rfl
  len := by
    simp only [text_cons, List.length_append]
    show (Lib.decDigits a).length + (1 + ((Lib.decDigits b).length + 0)) ≤ _
    omega }
theorem part_addr {x : Nat} (h : x < 4294967296) : Part 15 (addrP x) := {
  ok := fun p hp => by
    unfold addrP at hp
    simp only [List.mem_cons, List.not_mem_nil, or_false] at hp
    rcases hp with rfl | rfl | rfl | rfl | rfl | rfl | rfl
    · exact ok_nP (by omega)
    · exact ok_s46
    · exact ok_nP (by omega)
    · exact ok_s46
    · exact ok_nP (by omega)
    · exact ok_s46
    · exact ok_nP (by omega)
  al := rfl
  len := by
    unfold addrP
    simp only [text_cons, List.length_append]
    have h1 := dec3 (show x / 16777216 ≤ 255 by omega)
    have h2 := dec3 (show x / 65536 % 256 ≤ 255 by omega)
    have h3 := dec3 (show x / 256 % 256 ≤ 255 by omega)
    have h4 := dec3 (show x % 256 ≤ 255 by omega)
    show (Lib.decDigits (x / 16777216)).length + (1 + ((Lib.decDigits (x / 65536 % 256)).length + (1 + ((Lib.decDigits (x / 256 % 256)).length + (1 + ((Lib.decDigits (x % 256)).length + 0)))))) ≤ _
    omega }
theorem part_addrN {x n : Nat} (h : x < 4294967296) (hn : n ≤ 32) : Part 18 (addrP x ++ [sP 47, nP n]) := {
  ok := fun p hp => by
    rcases List.mem_append.1 hp with hp | hp
    · exact (part_addr h).ok p hp
    · simp only [List.mem_cons, List.not_mem_nil, or_false] at hp
      rcases hp with rfl | rfl
      · exact ok_s47
      · exact ok_nP (by omega)
  al := rfl
  len := by
    rw [text_app, List.length_append]
    have h1 := (part_addr h).len
    have h2 := dec2 hn
    simp only [text_cons, List.length_append]
    show _ + (1 + ((Lib.decDigits n).length + 0)) ≤ _
    omega }
theorem part_pref {x n : Nat} (h : x < 4294967296) (hn : n ≤ 32) : Part 18 (prefP x n) := by
  unfold prefP
  split
  · exact part_all.more (by decide)
  · split
    · exact (part_addr h).more (by decide)
    · exact part_addrN h hn
theorem part_span {a b : Nat} (ha : a ≤ 65535) (hb : b ≤ 65535) : Part 11 (spanP a b) := by
  unfold spanP
  split
  · exact part_all.more (by decide)
  · split
    · exact (part_n (by omega) (dec5 ha)).more (by decide)
    · exact part_two (by omega) (by omega) ok_s58 (dec5 ha) (dec5 hb)
theorem part_mask {a b : Nat} (ha : a ≤ 255) (hb : b ≤ 255) : Part 7 (maskP a b) := by
  unfold maskP
  split
  · exact part_all.more (by decide)
  · split
    · exact (part_n (by omega) (dec3 ha)).more (by decide)
    · exact part_two (by omega) (by omega) ok_s47 (dec3 ha) (dec3 hb)
theorem word_kd {w : List UInt8} (h : (w.all fun c => decide (kd c.toNat = 3)) = true) (hn : 0 < w.length) (h16 : w.length ≤ 16) : OkP (wP w) := {
  k := by show 1 ≤ 3; decide
  ne := hn
  kd := fun c hc => by
    have := List.all_eq_true.1 h c hc
    rw [of_decide_eq_true this]
    rfl
  one := fun h => by rcases h with h | h <;> cases h
  word := fun _ => h16
  num := fun h => by cases h
  val := fun _ => rfl }
theorem part_w {n : Nat} {w : List UInt8} (h : (w.all fun c => decide (kd c.toNat = 3)) = true) (hn : 0 < w.length) (h16 : w.length ≤ 16) (hl : w.length ≤ n) : Part n [wP w] := {
  ok := fun p hp => by rw [List.mem_singleton.1 hp]; exact word_kd h hn h16
  al := rfl
  len := by rw [text_cons]; show (w ++ []).length ≤ n; rw [List.append_nil]; exact hl }
theorem part_act {t : Nat} (h : 1 ≤ t ∧ t ≤ 4) : Part 6 [wP (actW t)] := by
  have : t = 1 ∨ t = 2 ∨ t = 3 ∨ t = 4 := by omega
  rcases this with rfl | rfl | rfl | rfl <;> exact part_w (by decide) (by decide) (by decide) (by decide)
theorem part_cmd {k : Nat} (h : 1 ≤ k ∧ k ≤ 10) : Part 7 [wP (cmdW k)] := by
  have : k = 1 ∨ k = 2 ∨ k = 3 ∨ k = 4 ∨ k = 5 ∨ k = 6 ∨ k = 7 ∨ k = 8 ∨ k = 9 ∨ k = 10 := by omega
  rcases this with rfl | rfl | rfl | rfl | rfl | rfl | rfl | rfl | rfl | rfl <;> exact part_w (by decide) (by decide) (by decide) (by decide)
theorem part_rule {R : Rp} (h : OkRp R) : Part 87 (ruleP R) := by
  have h1 := (part_span h.q.1 h.q.2).sep (part_mask h.m.1 h.m.2.1)
  have h2 := (part_span h.p.1 h.p.2).sep h1
  have h3 := (part_pref h.d.1 h.d.2.1).sep h2
  have h4 := (part_pref h.s.1 h.s.2.1).sep h3
  have h5 := (part_act h.t).sep h4
  exact ((part_n h.i (dec10 h.i)).sep h5).more (by decide)
theorem part_head {h : Nat × Nat × Nat × Nat × Nat} (hh : OkHd h) : Part 47 (headP h) := by
  have h1 := (part_n (show h.2.2.2.1 ≤ 4294967295 by have := hh.q; omega) (dec5 hh.q)).sep (part_n (show h.2.2.2.2 ≤ 4294967295 by have := hh.m; omega) (dec3 hh.m))
  have h2 := (part_n (show h.2.2.1 ≤ 4294967295 by have := hh.p; omega) (dec5 hh.p)).sep h1
  have h3 := (part_addr hh.d).sep h2
  exact ((part_addr hh.s).sep h3).more (by decide)
theorem part_cm {C : Cm} (h : OkCm C) : Part 106 (cmdP C) := by
  unfold cmdP
  by_cases e1 : C.k = 1
  · rw [if_pos e1]
    exact ((part_cmd (k := 1) (by decide)).sep ((part_n h.n (dec10 h.n)).sep (part_rule (h.r1 e1)))).more (by decide)
  · rw [if_neg e1]
    by_cases e2 : C.k = 2
    · rw [if_pos e2]
      exact ((part_cmd (k := 2) (by decide)).sep (part_n h.i (dec10 h.i))).more (by decide)
    · rw [if_neg e2]
      by_cases e3 : C.k = 3
      · rw [if_pos e3]
        exact ((part_cmd (k := 3) (by decide)).sep ((part_n h.i (dec10 h.i)).sep (part_n h.n (dec10 h.n)))).more (by decide)
      · rw [if_neg e3]
        by_cases e4 : C.k = 4
        · rw [if_pos e4]
          exact ((part_cmd (k := 4) (by decide)).sep (part_head h.h1)).more (by decide)
        · rw [if_neg e4]
          exact (part_cmd h.k).more (by decide)
theorem textL_len {n : Nat} : ∀ (ls : List (List Pc)), (∀ l ∈ ls, Part n l) → (textL ls).length ≤ (n + 1) * ls.length
  | [], _ => Nat.zero_le _
  | l :: ls, h => by
    have ih := textL_len ls (fun m hm => h m (List.mem_cons_of_mem _ hm))
    have h1 := (h l (List.mem_cons_self ..)).len
    have e : textL (l :: ls) = lineB l ++ textL ls := by simp [textL]
    have e2 : (lineB l).length = (textP l).length + 1 := by simp [lineB]
    rw [e, List.length_append, e2, List.length_cons, Nat.mul_succ]
    omega
theorem parts_lex {n : Nat} (hn : n ≤ 200) (ls : List (List Pc)) (h : ∀ l ∈ ls, Part n l) (hs : (textL ls).length ≤ 65536) : lexT ⟨(textL ls).toArray⟩ = (linesT 1 ls, ⟨0, 0, 0⟩) := by
  unfold lexT
  rw [if_neg (by rw [mk_size]; omega)]
  exact lines_lex ls (fun l hl => ⟨okL_of l (h l hl).ok (h l hl).al, (h l hl).ok, Nat.le_trans (h l hl).len hn⟩)
/-- The text of a list of rules, of a script. -/
def rulesB (l : List Rp) : List UInt8 := textL (l.map ruleP)
def scrB (l : List Cm) : List UInt8 := textL (l.map cmdP)
theorem rulesB_len (l : List Rp) (hl : ∀ R ∈ l, OkRp R) : (rulesB l).length ≤ 88 * l.length := by
  have := textL_len (n := 87) (l.map ruleP) (fun x hx => by obtain ⟨R, hR, rfl⟩ := List.mem_map.1 hx; exact part_rule (hl R hR))
  rwa [List.length_map] at this
theorem scrB_len (l : List Cm) (hl : ∀ C ∈ l, OkCm C) : (scrB l).length ≤ 107 * l.length := by
  have := textL_len (n := 106) (l.map cmdP) (fun x hx => by obtain ⟨C, hC, rfl⟩ := List.mem_map.1 hx; exact part_cm (hl C hC))
  rwa [List.length_map] at this
/-- A list that may be is printed, and read as itself. -/
theorem rules_round (chk : Rp → Nat × Nat) (l : List Rp) (hl : ∀ R ∈ l, OkRp R ∧ (chk R).1 = 0) (h64 : l.length ≤ 64) (hd : (l.map (·.i)).Nodup) : rulesT chk ⟨(rulesB l).toArray⟩ = (l, ⟨0, 0, 0⟩) :=
  print_read chk l _ (parts_lex (n := 87) (by decide) _ (fun x hx => by obtain ⟨R, hR, rfl⟩ := List.mem_map.1 hx; exact part_rule (hl R hR).1) (by have := rulesB_len l (fun R hR => (hl R hR).1); unfold rulesB at this; omega)) hl h64 hd
theorem scr_round (chk : Rp → Nat × Nat) (l : List Cm) (hl : ∀ C ∈ l, OkCm C ∧ (C.k = 1 → (chk C.r).1 = 0)) (hm : l.length ≤ 1000) (hs : (scrB l).length ≤ 65536) : scrT chk ⟨(scrB l).toArray⟩ = (l, ⟨0, 0, 0⟩) :=
  print_readC chk l _ (parts_lex (n := 106) (by decide) _ (fun x hx => by obtain ⟨C, hC, rfl⟩ := List.mem_map.1 hx; exact part_cm (hl C hC).1) hs) hl hm
end Go.Proofs.YtehedlgdencboabGreatDoor
