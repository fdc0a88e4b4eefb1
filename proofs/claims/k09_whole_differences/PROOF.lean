import PyProof.Rows.All
import Wide.All
import OpenK.AllK
import Wide.FinOn
import HandS.ForMost
import HandS.Exc
import HandS.ExcInit
import HandS.ExcField
import HandS.ExcIs
import KE.KExcIs
import HandS.IsInst
import HandS.CallSlots
import HandS.WordsExc
import HandS.Wide
import HandS.Gcd
import HandS.Style
import HandS.Evl
import HandS.Property
import HandS.ClsMeth
import HandS.Deep
import HandS.IterVal
import HandS.OwnIter
import HandS.Conv
import KE.KOwnIter
import HandS.SortInts
import KE.KOpsOwn
import HandS.OwnEq
import HandS.SlotsOwn
import KE.DataCmp
import KE.SortData
import HandS.Walk
import HandS.ClsMeth
import HandS.IterVal
import KE.KCallOwn
import PyProof.InstNe
import PyProof.Conv_bool
import KE.KOpsOwn
import HandS.SlotsOwn
import PySem.Challenge.RW_watchbeats_k09_whole_differences
set_option Elab.async false
set_option linter.all false
set_option maxRecDepth 100000
set_option maxHeartbeats 4000000
/-! differences of moved, joined, copied and folded lots, def by def -/
namespace Pf
open PySem L2 Evl

def topS (i : Nat) : Stmt := PySem.Challenge.pw_watchbeats_k09_whole_differences.main.body.getD i (.Pass ⟨0, 0, 0, 0⟩)
abbrev s_BadNumber_init : Stmt := inClass (topS 3) 0
abbrev N_BadNumber_init : List Str := ["self", "name", "value"]
abbrev s_RepeatedHour_init : Stmt := inClass (topS 4) 0
abbrev N_RepeatedHour_init : List Str := ["self", "hour"]
abbrev s_Meets_init : Stmt := inClass (topS 5) 0
abbrev N_Meets_init : List Str := ["self", "hour"]
abbrev s_NotADivisor_init : Stmt := inClass (topS 7) 0
abbrev N_NotADivisor_init : List Str := ["self", "number"]
abbrev s_Lot_init : Stmt := inClass (topS 12) 1
abbrev N_Lot_init : List Str := ["self", "hours", "members", "taken", "member", "hour"]
abbrev s_Lot_members : Stmt := inClass (topS 12) 3
abbrev N_Lot_members : List Str := ["self"]
abbrev s_Lot_len : Stmt := inClass (topS 12) 6
abbrev N_Lot_len : List Str := ["self"]
abbrev s_Lot_iter : Stmt := inClass (topS 12) 7
abbrev N_Lot_iter : List Str := ["self"]
abbrev s_Lot_lshift : Stmt := inClass (topS 12) 10
abbrev N_Lot_lshift : List Str := ["self", "other", "member"]
abbrev s_Lot_rshift : Stmt := inClass (topS 12) 11
abbrev N_Lot_rshift : List Str := ["self", "other", "member"]
abbrev s_Lot_neg : Stmt := inClass (topS 12) 12
abbrev N_Lot_neg : List Str := ["self", "member"]
abbrev s_Lot_invert : Stmt := inClass (topS 12) 13
abbrev N_Lot_invert : List Str := ["self", "hour"]
abbrev s_u_check_hours : Stmt := topS 13
abbrev N_u_check_hours : List Str := ["one", "other"]
abbrev s_u_lot_of_each : Stmt := topS 14
abbrev N_u_lot_of_each : List Str := ["hours", "numbers", "times", "number", "hour"]
abbrev s_Lot_mul : Stmt := inClass (topS 12) 16
abbrev N_Lot_mul : List Str := ["self", "other", "member"]
abbrev s_Lot_rmul : Stmt := inClass (topS 12) 17
abbrev N_Lot_rmul : List Str := ["self", "other"]
abbrev s_Lot_add : Stmt := inClass (topS 12) 18
abbrev N_Lot_add : List Str := ["self", "other", "one", "two"]
abbrev s_Lot_mod : Stmt := inClass (topS 12) 19
abbrev N_Lot_mod : List Str := ["self", "other"]
abbrev s_Lot_pow : Stmt := inClass (topS 12) 20
abbrev N_Lot_pow : List Str := ["self", "other", "hours", "at", "member"]
abbrev s_meetings : Stmt := topS 9
abbrev N_meetings : List Str := ["one", "other", "counts", "x", "y", "by"]
abbrev s_differences : Stmt := topS 10
abbrev N_differences : List Str := ["lot"]
abbrev s_u_law_cell : Stmt := topS 16
abbrev N_u_law_cell : List Str := ["script", "k"]
abbrev s_u_law_draws : Stmt := topS 17
abbrev N_u_law_draws : List Str := ["cell", "salt", "menu", "found", "rest", "mixed", "k"]
abbrev s_u_law_is_int : Stmt := topS 18
abbrev N_u_law_is_int : List Str := ["x"]
abbrev s_u_law_same : Stmt := topS 19
abbrev N_u_law_same : List Str := ["got", "due", "k"]
abbrev s_u_law_bits : Stmt := topS 20
abbrev N_u_law_bits : List Str := ["n", "number", "found", "h"]
abbrev s_u_law_subset : Stmt := topS 21
abbrev N_u_law_subset : List Str := ["cell", "salt", "n", "found", "pieces", "k", "h"]
abbrev s_u_law_gcd : Stmt := topS 22
abbrev N_u_law_gcd : List Str := ["a", "b"]
abbrev s_u_law_parts : Stmt := topS 23
abbrev N_u_law_parts : List Str := ["n", "part"]
abbrev s_u_law_lots : Stmt := topS 24
abbrev N_u_law_lots : List Str := ["script", "n", "index", "fitting", "first", "second", "parts", "part", "h"]
abbrev s_u_law_counts : Stmt := topS 25
abbrev N_u_law_counts : List Str := ["members", "n", "marks", "h", "counts", "d"]
abbrev s_u_law_met : Stmt := topS 26
abbrev N_u_law_met : List Str := ["residues", "n", "counts", "residue"]
abbrev s_u_law_fold : Stmt := topS 27
abbrev N_u_law_fold : List Str := ["one", "two", "n", "d", "e"]
abbrev s_u_law_is_lot : Stmt := topS 28
abbrev N_u_law_is_lot : List Str := ["lot", "n", "due"]
abbrev s_u_law_factor : Stmt := topS 29
abbrev N_u_law_factor : List Str := ["n", "number", "units_here", "t"]
abbrev s_u_law_shift : Stmt := topS 30
abbrev N_u_law_shift : List Str := ["number"]
abbrev s_u_law_part : Stmt := topS 31
abbrev N_u_law_part : List Str := ["n", "number", "parts"]
abbrev s_u_law_kind : Stmt := topS 32
abbrev N_u_law_kind : List Str := ["n", "kind", "number"]
abbrev s_u_law_done : Stmt := topS 33
abbrev N_u_law_done : List Str := ["lot", "n", "kind", "number"]
abbrev s_u_law_sum : Stmt := topS 34
abbrev N_u_law_sum : List Str := ["one", "two", "told", "e"]
abbrev s_u_law_told : Stmt := topS 35
abbrev N_u_law_told : List Str := ["lot", "n", "kind", "number", "told", "e"]
abbrev s_u_law_copied_due : Stmt := topS 36
abbrev N_u_law_copied_due : List Str := ["members", "counts", "n", "times", "found", "lap", "h", "d"]
abbrev s_u_law_residues_due : Stmt := topS 37
abbrev N_u_law_residues_due : List Str := ["members", "counts", "n", "part", "met", "h", "twice", "found", "d", "e"]
abbrev s_u_law_due : Stmt := topS 38
abbrev N_u_law_due : List Str := ["members", "counts", "n", "kind", "number", "h", "count", "moved", "found", "d", "residues"]
abbrev s_law : Stmt := topS 39
abbrev N_law : List Str := ["script", "ways", "n", "first", "second", "ring", "one", "two", "counts", "others", "sums", "h", "other", "met", "twice", "told", "lot", "members", "deeds", "k", "kind", "due"]

theorem some_int {ns : List Int} {i : Nat} {y : V} (h : (ns.map V.int)[i]? = some y) : ∃ u, y = V.int u ∧ ns[i]? = some u := by
  rw [List.getElem?_map] at h
  cases e : ns[i]? with
  | none => rw [e] at h; cases h
  | some u => rw [e] at h; exact ⟨u, (Option.some.inj h).symm, rfl⟩
theorem wayT {c A B : Prop} [Decidable c] (h : c) (a : A) : if decide c = true then A else B := by rw [decide_eq_true h]; exact iteT a
theorem wayF {c A B : Prop} [Decidable c] (h : ¬ c) (b : B) : if decide c = true then A else B := by rw [decide_eq_false h]; exact iteF b
theorem way {c A B : Prop} [Decidable c] (a : c → A) (b : ¬ c → B) : if decide c = true then A else B := by
  by_cases h : c
  · exact wayT h (a h)
  · exact wayF h (b h)
theorem wayNT {c A B : Prop} [Decidable c] (h : c) (b : B) : if (!decide c) = true then A else B := by rw [decide_eq_true h]; exact iteF b
theorem wayNF {c A B : Prop} [Decidable c] (h : ¬ c) (a : A) : if (!decide c) = true then A else B := by rw [decide_eq_false h]; exact iteT a
theorem dec_ii {a b : Int} : decide (V.int a = V.int b) = decide (a = b) := by simp
theorem dec_bb {a b : Bool} : decide (V.bl a = V.bl b) = decide (a = b) := by simp
/-- the names of a comprehension's block within another scope -/
def relS (scope outer : Scope) : Scope := { scope with names := scope.names.map fun (n, k) => if (k == .free && outer.kind == .function && outer.names.lookup n == some .cell) then (n, .cell) else (n, k) }
/-- the ints that a comprehension over a range gives -/
def pick (n : Nat) (f : Nat → Bool) (g : Nat → Int) : List Int := ((List.range n).filter f).map g
theorem given_pick (n : Nat) (f : Nat → Bool) (g : Nat → Int) : given n f (fun i => V.int (g i)) = (pick n f g).map V.int := by
  unfold given pick
  rw [List.map_map]
  rfl
theorem pick_len (n : Nat) (f : Nat → Bool) (g : Nat → Int) : (pick n f g).length ≤ n := by
  unfold pick
  rw [List.length_map]
  have := List.length_filter_le f (List.range n)
  rwa [List.length_range] at this
theorem pick_congr {n : Nat} {f f' : Nat → Bool} {g : Nat → Int} (h : ∀ i, i < n → f i = f' i) : pick n f g = pick n f' g := by
  unfold pick
  rw [List.filter_congr fun i hi => h i (List.mem_range.mp hi)]
theorem el_rng2 {σ : L2.St} {H : Hp} {te : TE} {tt : TT} {ta : TA} {j : Nat} {vs : List Nat} {lo hi : Int} (f : Nat → Bool) (v : Nat → V) (h : EvA ta σ H [.int lo, .int hi]) (hn : 0 ≤ lo ∧ lo ≤ 40000 ∧ -40000 ≤ hi ∧ hi ≤ 40000)
    (hw : ∀ x, wipe ((wipe σ vs).set j (some x)) vs = wipe σ vs)
    (ht : ∀ (i : Nat) H1, Ex H H1 → lo + (i : Int) < hi → EvT tt ((wipe σ vs).set j (some (.int (lo + (i : Int))))) H1 (f i))
    (he : ∀ (i : Nat) H1, Ex H H1 → lo + (i : Int) < hi → f i = true → Ev te ((wipe σ vs).set j (some (.int (lo + (i : Int))))) H1 (v i)) :
    EvL (tLc (iRng2 ta) (gName j) tt te vs) σ H (given (hi - lo).toNat f v) := by
  intro H0 e Q q
  refine h H0 e _ fun H1 e1 => ⟨lo, hi, rfl, ⟨by omega, by omega, by omega, by omega⟩, fun D hD => ?_⟩
  exact lc_range (lo := lo) (n := (hi - lo).toNat) (Cw H1 f v D) ⟨hD, Ex.new hD, upd_same⟩
    (fun i H' hi' p => ⟨hw _, cw_turn p (by omega) (ht i H1 (e.trans e1) (by omega)) (fun hf => he i H1 (e.trans e1) (by omega) hf)⟩)
    (fun H' p => q D H' (fresh_back e1 p.1) (e1.trans p.2.1) p.2.2)
theorem given_list (xs : List Int) (p : Int → Bool) : given (xs.map V.int).length (fun i => p (xs.getD i 0)) (fun i => V.int (xs.getD i 0)) = (xs.filter p).map V.int := by
  rw [List.length_map]
  induction xs with
  | nil => rfl
  | cons x xs ih =>
    unfold given at ih ⊢
    rw [List.length_cons, List.range_succ_eq_map, List.filter_cons, List.filter_map]
    have e : ∀ (z : List Nat), (z.filter ((fun i => p ((x :: xs).getD i 0)) ∘ Nat.succ)) = z.filter fun i => p (xs.getD i 0) := fun z => List.filter_congr fun i _ => by simp
    rw [e]
    by_cases hp : p x = true
    · rw [if_pos (by simpa using hp), List.filter_cons, if_pos hp, List.map_cons, List.map_cons, ← ih, List.map_map]
      simp
    · rw [if_neg (by simpa using hp), List.filter_cons, if_neg hp, ← ih, List.map_map]
      simp
theorem el_lst1 {K : PySem.W.Frag} {σ : L2.St} {H : Hp} {te tl : TE} {tt : TT} {j : Nat} {vs : List Nat} {a : Addr} (xs : List Int) (p : Int → Bool) (h : Ev tl σ H (.ref a)) (hx : SqL K H a (xs.map V.int)) (hz : xs.length ≤ 40000)
    (hw : ∀ x, wipe ((wipe σ vs).set j (some x)) vs = wipe σ vs)
    (ht : ∀ (x : Int) H1, Ex H H1 → x ∈ xs → EvT tt ((wipe σ vs).set j (some (.int x))) H1 (p x))
    (he : ∀ (x : Int) H1, Ex H H1 → x ∈ xs → Ev te ((wipe σ vs).set j (some (.int x))) H1 (.int x)) :
    EvL (tLc (iList K tl) (gName j) tt te vs) σ H ((xs.filter p).map V.int) := by
  rw [← given_list]
  have get : ∀ (i : Nat) (x : V), (xs.map V.int)[i]? = some x → x = .int (xs.getD i 0) ∧ xs.getD i 0 ∈ xs := fun i x hi => by
    obtain ⟨u, e, hu⟩ := some_int hi
    rw [List.getD_eq_getElem?_getD, hu]
    exact ⟨e, List.mem_of_getElem? hu⟩
  refine el_lcL _ _ h hx (by rw [List.length_map]; exact hz) hw (fun i x H1 e1 hi => ?_) (fun i x H1 e1 hi _ => ?_)
  · obtain ⟨rfl, hm⟩ := get i x hi
    exact ht _ H1 e1 hm
  · obtain ⟨rfl, hm⟩ := get i x hi
    exact he _ H1 e1 hm
theorem given_gen {α : Type} (d : α) (ps : List α) (p : α → Bool) (v : α → V) : given ps.length (fun i => p (ps.getD i d)) (fun i => v (ps.getD i d)) = (ps.filter p).map v := by
  induction ps with
  | nil => rfl
  | cons x xs ih =>
    unfold given at ih ⊢
    rw [List.length_cons, List.range_succ_eq_map, List.filter_cons, List.filter_map]
    have e : ∀ (z : List Nat), (z.filter ((fun i => p ((x :: xs).getD i d)) ∘ Nat.succ)) = z.filter fun i => p (xs.getD i d) := fun z => List.filter_congr fun i _ => by simp
    rw [e]
    by_cases hp : p x = true
    · rw [if_pos (by simpa using hp), List.filter_cons, if_pos hp, List.map_cons, List.map_cons, ← ih, List.map_map]
      simp
    · rw [if_neg (by simpa using hp), List.filter_cons, if_neg hp, ← ih, List.map_map]
      simp
/-- a comprehension over a list whose items stand for the things of ps, the target of any form -/
theorem el_lstG {α : Type} (d : α) {K : PySem.W.Frag} {σ : L2.St} {H : Hp} {te tl : TE} {tt : TT} {g : TG} {vs : List Nat} {a : Addr} (xs : List V) (ps : List α) (p : α → Bool) (v : α → V) (τ : α → L2.St)
    (h : Ev tl σ H (.ref a)) (hx : SqL K H a xs) (hl : xs.length = ps.length) (hz : ps.length ≤ 40000)
    (hg : ∀ (i : Nat) x y H1 (k : L2.St → Hp → Prop), Ex H H1 → xs[i]? = some x → ps[i]? = some y → k (τ y) H1 → g x (wipe σ vs) H1 k)
    (hw : ∀ y, wipe (τ y) vs = wipe σ vs) (ht : ∀ y H1, Ex H H1 → y ∈ ps → EvT tt (τ y) H1 (p y)) (he : ∀ y H1, Ex H H1 → y ∈ ps → p y = true → Ev te (τ y) H1 (v y)) :
    EvL (tLc (iList K tl) g tt te vs) σ H ((ps.filter p).map v) := by
  rw [← given_gen d ps p v]
  intro H0 e0 Q q
  refine h H0 e0 _ fun H1 e1 => ⟨a, rfl, ⟨xs, ex_l (e0.trans e1) hx⟩, fun D hD => ?_⟩
  refine lc_list (xs := xs) (Cw H1 (fun i => p (ps.getD i d)) (fun i => v (ps.getD i d)) D) ⟨hD, Ex.new hD, upd_same⟩ (fun i H' _ c => ex_l ((e0.trans e1).trans c.2.1) hx) (fun i x H' hi c => ?_)
    (fun H' c => by rw [hl] at c; exact q D H' (fresh_back e1 c.1) (e1.trans c.2.1) c.2.2)
  have hil : i < ps.length := by
    have := (List.getElem?_eq_some_iff.mp hi).1
    omega
  have hy : ps[i]? = some (ps.getD i d) := by rw [List.getD_eq_getElem?_getD, List.getElem?_eq_getElem hil]; rfl
  refine hg i x _ H' _ ((e0.trans e1).trans c.2.1) hi hy ⟨hw _, ?_⟩
  exact cw_turn c (by omega) (ht _ H1 (e0.trans e1) (List.mem_of_getElem? hy)) (fun hf => he _ H1 (e0.trans e1) (List.mem_of_getElem? hy) hf)
/-- an if without else, then what follows where M holds -/
theorem q_alt {b : Bool} {t : TT} {tu tz : TS} {D : Ends} {σ : L2.St} {H : Hp} (M : L2.St → Hp → Prop) (h : EvT t σ H b) (h1 : b = true → ∀ H1, Ex H H1 → ∀ W : L2.St → Hp → Prop, (∀ σ' H', M σ' H' → W σ' H') → tu { D with nx := W } σ H1)
    (h2 : b = false → ∀ H1, Ex H H1 → M σ H1) (k : ∀ σ' H', M σ' H' → tz D σ' H') : tSeq (tIfS t tu tNext) tz D σ H :=
  q_when h (fun hb H1 e1 => h1 hb H1 e1 _ k) (fun hb H1 e1 => k _ _ (h2 hb H1 e1))
theorem q_two {b : Bool} {t : TT} {tu tw tz : TS} {D : Ends} {σ : L2.St} {H : Hp} (M : L2.St → Hp → Prop) (h : EvT t σ H b) (h1 : b = true → ∀ H1, Ex H H1 → ∀ W : L2.St → Hp → Prop, (∀ σ' H', M σ' H' → W σ' H') → tu { D with nx := W } σ H1)
    (h2 : b = false → ∀ H1, Ex H H1 → ∀ W : L2.St → Hp → Prop, (∀ σ' H', M σ' H' → W σ' H') → tw { D with nx := W } σ H1) (k : ∀ σ' H', M σ' H' → tz D σ' H') : tSeq (tIfS t tu tw) tz D σ H :=
  q_if h (fun hb H1 e1 => h1 hb H1 e1 _ k) (fun hb H1 e1 => h2 hb H1 e1 _ k)
/-- .. over a list that was just made -/
theorem el_lstN {α : Type} (d : α) {K : PySem.W.Frag} {σ : L2.St} {H : Hp} {te tl : TE} {tt : TT} {g : TG} {vs : List Nat} (xs : List V) (ps : List α) (p : α → Bool) (v : α → V) (τ : α → L2.St)
    (h : EvL tl σ H xs) (hl : xs.length = ps.length) (hz : ps.length ≤ 40000) (hg : ∀ (i : Nat) x y H1 (k : L2.St → Hp → Prop), Ex H H1 → xs[i]? = some x → ps[i]? = some y → k (τ y) H1 → g x (wipe σ vs) H1 k)
    (hw : ∀ y, wipe (τ y) vs = wipe σ vs) (ht : ∀ y H1, Ex H H1 → y ∈ ps → EvT tt (τ y) H1 (p y)) (he : ∀ y H1, Ex H H1 → y ∈ ps → p y = true → Ev te (τ y) H1 (v y)) :
    EvL (tLc (iList K tl) g tt te vs) σ H ((ps.filter p).map v) := by
  intro H0 e0 Q q
  refine h H0 e0 _ fun a H1 ha e1 h1 => ?_
  refine el_lstG (K := K) (te := te) (tl := tC (.ref a)) (tt := tt) (g := g) (vs := vs) (σ := σ) (H := H1) d xs ps p v τ ev_c (sq_of h1) hl hz (fun i x y H2 k e2 => hg i x y H2 k ((e0.trans e1).trans e2)) hw (fun y H2 e2 => ht y H2 ((e0.trans e1).trans e2)) (fun y H2 e2 => he y H2 ((e0.trans e1).trans e2)) H1 (Ex.refl _) Q fun b H2 hb e2 h2 => q b H2 (fresh_back e1 hb) (e1.trans e2) h2
theorem pick_succ {n : Nat} {f : Nat → Bool} {g : Nat → Int} : pick (n + 1) f g = pick n f g ++ (if f n = true then [g n] else []) := by
  unfold pick
  rw [List.range_succ, List.filter_append, List.map_append, List.filter_cons]
  by_cases h : f n = true
  · rw [if_pos h, if_pos h]; rfl
  · rw [if_neg h, if_neg h]; rfl
theorem ev_gcd {σ : L2.St} {H : Hp} {ta : TA} {a b : Int} (h : EvA ta σ H [.int a, .int b]) : Ev (tCB rGcd ta) σ H (.int ((Nat.gcd a.natAbs b.natAbs : Nat) : Int)) :=
  ev_cb h fun H1 _ _ q => ⟨a, b, rfl, q H1 (Ex.refl H1)⟩
/-! ### rules whose reading says K by its own letter (within a comprehension's block too) -/
theorem ix_lK {X : Cx} {K : PySem.W.Frag} (h : X.K = K := by rfl) : IxR X (rIxL K) := by subst h; exact ix_list
theorem ix_tK {X : Cx} {K : PySem.W.Frag} (h : X.K = K := by rfl) : IxR X (rIxT K) := by subst h; exact ix_tup
theorem ix_sK {X : Cx} {K : PySem.W.Frag} (h : X.K = K := by rfl) : IxR X (rIx K) := by subst h; exact ix_seq
def rLenK (K : PySem.W.Frag) : List V → Hp → VK → Prop := fun xs H Q => ∃ x n, xs = [x] ∧ LenV K x H n ∧ Q (.int (n : Nat)) H
theorem len_K {X : Cx} {K : PySem.W.Frag} (h : X.K = K := by rfl) : CallR X (.builtin "len") (rLenK K) := by subst h; exact call_len
def rListK (K : PySem.W.Frag) : List V → Hp → VK → Prop := fun zs H Q => ∃ p ys, zs = [.ref p] ∧ (SqL K H p ys ∨ SqT K H p ys) ∧
  ∀ l, H l = none → Q (.ref l) (upd H l (.lst ys))
theorem list_K {X : Cx} {K : PySem.W.Frag} (h : X.K = K := by rfl) : CallR X (.type "list") (rListK K) := by subst h; exact call_list_of
theorem in_K {X : Cx} {K : PySem.W.Frag} (h : X.K = K := by rfl) : OpR X (compareOp .In) (rIn K false) := by subst h; exact op_in_seq
theorem notin_K {X : Cx} {K : PySem.W.Frag} (h : X.K = K := by rfl) : OpR X (compareOp .NotIn) (rIn K true) := by subst h; exact op_notIn_seq
theorem pg_tupK {X : Cx} {K : PySem.W.Frag} {pos : Pos} {es : List Expr} {k : Nat} {t : TGs} {n : Nat} (hk : X.K = K) (hc : X.calm = true) (h : PGs X es t)
    (hn : (assignEach es X.env).length = n := by rfl) (hst : (assignEach es X.env).findIdx? (·.1) = none := by rfl) : PG X (.Tuple es k pos) (gTup K n t) := by subst hk; exact pg_tup hc h hn hst
theorem pe_fldK {X : Cx} {K : PySem.W.Frag} {e : Expr} {f : Str} {pos : Pos} {ta : TE} (he : PE X e ta) (hb : attributeBase e f X.env (eval e X.env) = eval e X.env) (hk : X.K = K := by rfl) : PE X (.Attribute e f pos) (tFld K ta f) := by subst hk; exact pe_fld he hb
theorem eqD_K {X : Cx} {K : PySem.W.Frag} (hu : X.A.units + 64 < cLine) (hk : X.K = K := by rfl) : OpR X (compareOp .Eq) (rEqD K) := by subst hk; exact op_eqD hu
theorem neD_K {X : Cx} {K : PySem.W.Frag} (hu : X.A.units + 64 < cLine) (hk : X.K = K := by rfl) : OpR X (compareOp .NotEq) (rNeD K) := by subst hk; exact op_neD hu
theorem isi_K {X : Cx} {K : PySem.W.Frag} (h : X.K = K := by rfl) : CallR X (.builtin "isinstance") (rIsi K) := by subst h; exact call_isi
/-! ### data -/
/-- data of a depth below n, of lists and tuples that are not too long -/
def Flat : Nat → PyData → Prop
  | 0, _ => False
  | n + 1, .list ds => ds.length ≤ 40000 ∧ ∀ d ∈ ds, Flat n d
  | n + 1, .tuple ds => ds.length ≤ 40000 ∧ ∀ d ∈ ds, Flat n d
  | _ + 1, .dict _ => False
  | _ + 1, _ => True
theorem dp_get {K : PySem.W.Frag} {H : Hp} : ∀ {xs : List V} {ds : List PyData}, DpAll K H xs ds → xs.length = ds.length ∧ ∀ (i : Nat) (d : PyData), ds[i]? = some d → ∃ x, xs[i]? = some x ∧ Dp K H x d
  | _, _, .nil => ⟨rfl, fun i d h => by simp at h⟩
  | _, _, .cons a r => by
    obtain ⟨l, g⟩ := dp_get r
    refine ⟨by simp [l], fun i d h => ?_⟩
    cases i with
    | zero => exact ⟨_, rfl, by simp at h; subst h; exact a⟩
    | succ i => simpa using g i d (by simpa using h)
theorem flatI {ns : List Int} (h : ns.length ≤ 360) : Flat 4 (.list (ns.map .int)) :=
  ⟨by rw [List.length_map]; omega, fun d hd => by
    obtain ⟨i, _, rfl⟩ := List.mem_map.mp hd
    exact True.intro⟩
theorem dp_ints {K : PySem.W.Frag} {H : Hp} : ∀ ns : List Int, DpAll K H (ns.map V.int) (ns.map PyData.int)
  | [] => .nil
  | n :: ns => .cons (.int n) (dp_ints ns)
mutual
theorem dp_ex {K : PySem.W.Frag} {H H' : Hp} (e : Ex H H') : ∀ {v : V} {d : PyData}, Dp K H v d → Dp K H' v d
  | _, _, .non => .non
  | _, _, .bl b => .bl b
  | _, _, .int i => .int i
  | _, _, .str x => .str x
  | _, _, .lst s a => .lst (ex_l e s) (dpa_ex e a)
  | _, _, .tup s a => .tup (ex_t e s) (dpa_ex e a)
theorem dpa_ex {K : PySem.W.Frag} {H H' : Hp} (e : Ex H H') : ∀ {vs : List V} {ds : List PyData}, DpAll K H vs ds → DpAll K H' vs ds
  | _, _, .nil => .nil
  | _, _, .cons a r => .cons (dp_ex e a) (dpa_ex e r)
end
theorem tyx_l {K : PySem.W.Frag} {H : Hp} {a : Addr} {xs : List V} (h : SqL K H a xs) : TyX K H (.ref a) (.type "list") := by
  rcases h with (h | ⟨o, h⟩) | ⟨o, its, n, h, c, _⟩
  · exact .base (.lst h)
  · exact .base (.frz h)
  · exact .kList h c
theorem tyx_t {K : PySem.W.Frag} {H : Hp} {a : Addr} {xs : List V} (h : SqT K H a xs) : TyX K H (.ref a) (.type "tuple") := by
  rcases h with (h | ⟨o, h⟩) | ⟨o, its, n, h, c, _⟩
  · exact .base (.tup h)
  · exact .fTuple h
  · exact .kTuple h c
/-- x is True, x is False, whatever x is -/
def rIsK : R2 := fun x y H Q => ∃ b : Bool, y = .bl b ∧ Q (.bl (decide (x = .bl b))) H
theorem op_isK {X : Cx} : OpR X (compareOp .Is) rIsK := by
  intro pins s σ H x y v u Q I rx ry h
  obtain ⟨b, hy, q⟩ := h
  subst hy
  cases (show u = Value.bool b from ry)
  have fin : ∀ k : Bool, k = decide (x = V.bl b) → EP X pins σ Q (.bool k) s := fun k e => ⟨.bl k, H, I, rfl, by rw [e]; exact q⟩
  cases x with
  | non => cases (show v = Value.none from rx); exact wpAny_is_other rfl (fun z => by cases z) (fin _ (by simp))
  | bl a =>
    cases (show v = Value.bool a from rx)
    by_cases e : a = b
    · subst e; exact wpAny_is_self rfl (fin _ (by simp))
    · exact wpAny_is_other rfl (fun z => e (Value.bool.inj z)) (fin _ (by simp [e]))
  | int i => obtain ⟨t, ev⟩ := rx; subst ev; exact wpAny_is_other rfl (fun z => by cases z) (fin _ (by simp))
  | str i => obtain ⟨t, ev⟩ := rx; subst ev; exact wpAny_is_other rfl (fun z => by cases z) (fin _ (by simp))
  | byt i => obtain ⟨t, ev⟩ := rx; subst ev; exact wpAny_is_other rfl (fun z => by cases z) (fin _ (by simp))
  | flt i => obtain ⟨t, ev⟩ := rx; subst ev; exact wpAny_is_other rfl (fun z => by cases z) (fin _ (by simp))
  | ref a => cases (show v = Value.ref a from rx); exact wpAny_is_other rfl (fun z => by cases z) (fin _ (by simp))
  | ty n => cases (show v = Value.type n from rx); exact wpAny_is_other rfl (fun z => by cases z) (fin _ (by simp))
theorem atI_ints {ns : List Int} {i : Int} (h0 : 0 ≤ i) (h1 : i < (ns.length : Int)) : atI (ns.map V.int) i = some (.int (ns.getD i.toNat 0)) := by
  obtain ⟨j, rfl⟩ : ∃ j : Nat, i = (j : Int) := ⟨i.toNat, by omega⟩
  refine atI_nat ?_
  have hj : j < ns.length := by omega
  rw [List.getElem?_map, Int.toNat_natCast, List.getD_eq_getElem?_getD, List.getElem?_eq_getElem hj]
  rfl
/-! ### a caught error with fields -/
def rIsX (K : PySem.W.Frag) (D a : Addr) (cls : Value) (d : Option Addr) : List V → Hp → VK → Prop := fun xs H Q => cls = .ref D ∧ ∃ (dd : Addr) (fs : List (Str × V)) (c : V) (cv : Value) (b : Bool),
  d = some dd ∧ H dd = some (.xd fs) ∧ xs = [.ref a, c] ∧ (∀ u, RelV c u → u = cv) ∧ PySem.W.kitOne K (.ref D) cv = some b ∧ Q (.bl b) H
theorem call_isX {X : Cx} {a D : Addr} {oe : Obj} {cls : Value} {d : Option Addr} {pn : List (Addr × Obj)} (C : ExcC X.K D) (hz : Zc cls d oe) (hf : ∃ vs, oe.data = .fields vs) : CallR (X.suite a ((a, oe) :: pn)) (.builtin "isinstance") (rIsX X.K D a cls d) := by
  intro pins sh σ H zs us Q I rr hq
  obtain ⟨ec, dd, fs, c, cv, b, ed, hx, ez, hcv, hk, q⟩ := hq
  subst ez
  obtain ⟨u1, u2, eu, r1, r2⟩ := vals2 rr
  subst eu
  cases (show u1 = Value.ref a from r1)
  have e2 := hcv _ r2
  subst e2
  obtain ⟨hget, _⟩ := I.pin (a, oe) (List.mem_append.mpr (.inl List.mem_cons_self))
  obtain ⟨vs, hv⟩ := hf
  have ho : ObjOk X.prog X.w H sh.heap dd (.xd fs) := I.hok dd _ hx
  obtain ⟨mA, hns, _⟩ := ho
  obtain ⟨od, hod, _⟩ := lookIn_ns hns
  obtain ⟨cd, hcd, _⟩ := PySem.W.any_some C.hd
  have hcl : (PySem.W.clsIn X.K D).isSome = true := by rw [hcd]; rfl
  have J : PySem.W.InstAt sh.heap a oe D (some od) := ⟨hget, hz.1.trans ec, by unfold PySem.W.notCls; rw [hv], by rw [hz.2, ed]; exact hod⟩
  exact PySem.W.kia_one (PySem.W.kitx_exc hcl C.hg C.hk C.hs C.ha C.hn C.ht C.hm) I.kIn J hk (fun z => nomatch z) fun tk => ⟨.bl b, H, I.tok tk, rfl, q⟩
def rIsN (K : PySem.W.Frag) (D a : Addr) (cls : Value) (d : Option Addr) : List V → Hp → VK → Prop := fun xs H Q => cls = .ref D ∧ d = none ∧ rIsE K D a xs H Q
theorem call_isN {X : Cx} {a D : Addr} {oe : Obj} {cls : Value} {d : Option Addr} {pn : List (Addr × Obj)} (C : ExcC X.K D) (hz : Zc cls d oe) (hf : ∃ vs, oe.data = .fields vs) : CallR (X.suite a ((a, oe) :: pn)) (.builtin "isinstance") (rIsN X.K D a cls d) := by
  intro pins s σ H xs us Q I r h
  obtain ⟨e1, e2, h⟩ := h
  subst e1 e2
  exact call_isE C hz hf pins s σ H xs us Q I r h
/-- X(), X an error class without __init__ -/
theorem pmk_none {X : Cx} {C : Addr} {bmB : List Value} {B newId initId : String} {x : Str} {p pos : Pos} (F : PySem.ExcBaseFacts B newId initId bmB) (q : PySem.W.excIn X.K C bmB newId = true) (gC : X.mg x = some (.ref C)) (kC : PySem.W.keepIn X.K (.ref C) = true)
    (r : Raises X (.ref C)) (hg : Gl X x) (hdb : (x == ("__debug__" : Str)) = false := by decide) : PMk X (.Call (.Name x p) [] [] pos) (fun _ H Q => Q (.ref C) none H) := by
  intro pins s σ H Q I h
  refine wpAny_Call_Name_kw (ld_glob I hg gC ?_ hdb)
  refine PySem.W.callWith_K0 I.kIn kC ?_
  obtain ⟨bm, N, nm, qn, bs, hdct, sn, sub, ab, col, dd, k0, k1, k2, k3, k5, mN, hC, hN, hni, T⟩ := exc_obj I.kIn q
  refine wpAny_call_exc_subT F T hC hN hni (fun h' e hm => ?_) (Nat.zero_le _)
  exact mk_of I hm r h (I.hok.gone hm.new)
/-- a list drawn by a menu -/
def Drawn (ms ds : List Int) : Prop := ds.length = ms.length ∧ ∀ (i : Nat) (m : Int), ms[i]? = some m → ∃ d : Int, ds[i]? = some d ∧ 0 ≤ d ∧ d < m
theorem kitCls_own {K : PySem.W.Frag} {t : Value} {C : Addr} (hd : PySem.W.hasDictIn K C = true) (ty : PySem.W.typeIn K (.ref C) = some (.type "type")) : PySem.W.kitCls K t (.ref C) = PySem.W.subIn K t (.ref C) := by
  obtain ⟨cd, hc, _⟩ := PySem.W.any_some hd
  unfold PySem.W.kitCls
  simp [hc, ty]
theorem kit_self {K : PySem.W.Frag} {t : Value} : PySem.W.kitOne K t t = some true := by
  unfold PySem.W.kitOne
  rw [if_pos (beq_self_eq_true t)]
theorem kit_yes {K : PySem.W.Frag} {t : Value} {C : Addr} (hd : PySem.W.hasDictIn K C = true) (ty : PySem.W.typeIn K (.ref C) = some (.type "type")) (s : PySem.W.subIn K t (.ref C) = some true) : PySem.W.kitOne K t (.ref C) = some true := by
  unfold PySem.W.kitOne
  split
  · rfl
  · rw [kitCls_own hd ty]; exact s
theorem kit_no {K : PySem.W.Frag} {t : Value} {C : Addr} (hd : PySem.W.hasDictIn K C = true) (ty : PySem.W.typeIn K (.ref C) = some (.type "type")) (me : PySem.W.subIn K (.ref C) (.ref C) = some true) (s : PySem.W.subIn K t (.ref C) = some false) : PySem.W.kitOne K t (.ref C) = some false := by
  unfold PySem.W.kitOne
  split
  · rename_i e
    rw [beq_iff_eq] at e
    rw [e, me] at s
    cases s
  · rw [kitCls_own hd ty]; exact s
theorem kit_bi {K : PySem.W.Frag} {C : Addr} {n : String} {b : Bool} (hm : PySem.W.kitMeta n = true) (s : PySem.W.subIn K (.ref C) (.type n) = some b) : PySem.W.kitOne K (.ref C) (.type n) = some b := by
  unfold PySem.W.kitOne PySem.W.kitCls
  rw [if_neg (by simp)]
  show (if PySem.W.kitMeta n = true then PySem.W.subIn K (.ref C) (.type n) else none) = some b
  rw [if_pos hm]
  exact s
theorem drawn4 {a b c d : Int} {ds : List Int} (h : Drawn [a, b, c, d] ds) : ∃ w x y z, ds = [w, x, y, z] ∧ (0 ≤ w ∧ w < a) ∧ (0 ≤ x ∧ x < b) ∧ (0 ≤ y ∧ y < c) ∧ (0 ≤ z ∧ z < d) := by
  obtain ⟨hl, g⟩ := h
  match ds, hl with
  | [w, x, y, z], _ =>
    obtain ⟨w', e0, h0⟩ := g 0 a rfl
    obtain ⟨x', e1, h1⟩ := g 1 b rfl
    obtain ⟨y', e2, h2⟩ := g 2 c rfl
    obtain ⟨z', e3, h3⟩ := g 3 d rfl
    cases e0; cases e1; cases e2; cases e3
    exact ⟨_, _, _, _, rfl, h0, h1, h2, h3⟩
/-! ### own errors with one field and with two -/
def spErr1 (K : PySem.W.Frag) (C : Addr) (f : Str) : Sp := fun vs H Q _ => ∃ (a : Addr) (x : V), vs = [.ref a, x] ∧ OexC K C ∧ H a = some (exo a C none) ∧ ∀ d, H d = none → d ≠ a → Q .non (upd (upd H d (exd d [(f, x)])) a (exo a C (some d)))
def spErr2 (K : PySem.W.Frag) (C : Addr) (f g : Str) : Sp := fun vs H Q _ => ∃ (a : Addr) (x y : V), vs = [.ref a, x, y] ∧ OexC K C ∧ H a = some (exo a C none) ∧
  ∀ d, H d = none → d ≠ a → Q .non (upd (upd (upd H d (exd d [(f, x)])) a (exo a C (some d))) d (exd d [(g, y), (f, x)]))
theorem raise1 {K : PySem.W.Frag} {C : Addr} {f : Str} {H : Hp} {E : XK} {σ : L2.St} {ta : TA} {x : V} (hC : OexC K C) (hta : ∀ Q : List V → Hp → Prop, Q [x] H → ta σ H Q)
    (k : ∀ d H', Ex H H' → H' d = some (.xd [(f, x)]) → E (.ref C) (some d) H') : tMkO C (spErr1 K C f) [] ta σ H E := by
  refine hta _ ⟨by show (1 : Nat) ≤ 1000; decide, fun a ha => ⟨a, x, rfl, hC, upd_same, fun d hd hne => ?_⟩⟩
  have hd' : H d = none := by rw [upd_ne hne] at hd; exact hd
  have han : a ≠ d := fun e => hne e.symm
  refine ⟨rfl, d, _, upd_same, ?_, hd', k d _ (fun b o hb => ?_) upd_same⟩
  · rw [upd_ne hne, upd_same]
  · have h1 : b ≠ a := ne_of_none hb ha
    have h2 : b ≠ d := ne_of_none hb hd'
    rw [upd_ne h2, del_ne h1, upd_ne h1, upd_ne h2, upd_ne h1]
    exact hb
theorem raise2 {K : PySem.W.Frag} {C : Addr} {f g : Str} {H : Hp} {E : XK} {σ : L2.St} {ta : TA} {x y : V} (hC : OexC K C) (hta : ∀ Q : List V → Hp → Prop, Q [x, y] H → ta σ H Q)
    (k : ∀ d H', Ex H H' → H' d = some (.xd [(g, y), (f, x)]) → E (.ref C) (some d) H') : tMkO C (spErr2 K C f g) [] ta σ H E := by
  refine hta _ ⟨by show (2 : Nat) ≤ 1000; decide, fun a ha => ⟨a, x, y, rfl, hC, upd_same, fun d hd hne => ?_⟩⟩
  have hd' : H d = none := by rw [upd_ne hne] at hd; exact hd
  have han : a ≠ d := fun e => hne e.symm
  refine ⟨rfl, d, _, ?_, upd_same, hd', k d _ (fun b o hb => ?_) upd_same⟩
  · rw [upd_ne han, upd_same]
  · have h1 : b ≠ a := ne_of_none hb ha
    have h2 : b ≠ d := ne_of_none hb hd'
    rw [upd_ne h2, del_ne h1, upd_ne h2, upd_ne h1, upd_ne h2, upd_ne h1]
    exact hb
/-- what a cell of the script is worth -/
def cellA (ns : List Int) (k : Nat) : Int := if k < ns.length then (if ns.getD k 0 < 0 then - ns.getD k 0 else ns.getD k 0) else 0
theorem cellA_nn (ns : List Int) (k : Nat) : 0 ≤ cellA ns k := by
  unfold cellA
  split
  · split <;> omega
  · omega
/-! ### evaluation with a property; loops over what a call gives -/
def EvR (te : TE) (σ : L2.St) (H : Hp) (P : V → Hp → Prop) : Prop := ∀ H1, Ex H H1 → ∀ Q : VK, (∀ v H2, Ex H1 H2 → P v H2 → Q v H2) → te σ H1 Q
theorem er_ev {te : TE} {σ : L2.St} {H : Hp} {v : V} {P : V → Hp → Prop} (h : Ev te σ H v) (hp : ∀ H1, Ex H H1 → P v H1) : EvR te σ H P := fun H1 e Q q => h H1 e Q fun H2 e2 => q v H2 e2 (hp H2 (e.trans e2))
theorem EvR.mono {te : TE} {σ : L2.St} {H H' : Hp} {P : V → Hp → Prop} (e : Ex H H') (h : EvR te σ H P) : EvR te σ H' P := fun H1 a Q q => h H1 (e.trans a) Q q
theorem EvR.imp {te : TE} {σ : L2.St} {H : Hp} {P P' : V → Hp → Prop} (h : EvR te σ H P) (i : ∀ v H1, P v H1 → P' v H1) : EvR te σ H P' := fun H1 a Q q => h H1 a Q fun v H2 e p => q v H2 e (i v H2 p)
theorem er_L {te : TE} {σ : L2.St} {H : Hp} {xs : List V} (h : EvL te σ H xs) : EvR te σ H fun v H1 => ∃ p, v = .ref p ∧ H1 p = some (.lst xs) := fun H1 e Q q => h H1 e Q fun p H2 _ e2 hp => q _ H2 e2 ⟨p, rfl, hp⟩
theorem s_asgR {te : TE} {D : Ends} {σ : L2.St} {H : Hp} {i : Nat} {P : V → Hp → Prop} (h : EvR te σ H P) (k : ∀ v H1, Ex H H1 → P v H1 → D.nx (σ.set i (some v)) H1) : tAsg te (gName i) D σ H := h H (Ex.refl H) _ fun v H1 e p => k v H1 e p
theorem q_asgR {te : TE} {tz : TS} {D : Ends} {σ : L2.St} {H : Hp} {i : Nat} {P : V → Hp → Prop} (h : EvR te σ H P) (k : ∀ v H1, Ex H H1 → P v H1 → tz D (σ.set i (some v)) H1) : tSeq (tAsg te (gName i)) tz D σ H := s_asgR (D := { D with nx := tz D }) h k
theorem s_retR {te : TE} {D : Ends} {σ : L2.St} {H : Hp} {P : V → Hp → Prop} (h : EvR te σ H P) (k : ∀ v H1, Ex H H1 → P v H1 → D.rt v H1) : tRet te D σ H := h H (Ex.refl H) _ fun v H1 e p => k v H1 e p
theorem for_via {K : PySem.W.Frag} {tl : TE} {g : TG} {tu : TS} {D : Ends} {σ : L2.St} {H : Hp} {P : V → Hp → Prop} (h : EvR tl σ H P) (k : ∀ v H1, Ex H H1 → P v H1 → tFor (iList K (tC v)) g tu D σ H1) : tFor (iList K tl) g tu D σ H :=
  h H (Ex.refl H) _ fun v H1 e p => k v H1 e p
theorem q_forVia {K : PySem.W.Frag} {tl : TE} {g : TG} {tu tz : TS} {D : Ends} {σ : L2.St} {H : Hp} {P : V → Hp → Prop} (h : EvR tl σ H P) (k : ∀ v H1, Ex H H1 → P v H1 → tSeq (tFor (iList K (tC v)) g tu) tz D σ H1) : tSeq (tFor (iList K tl) g tu) tz D σ H :=
  h H (Ex.refl H) _ fun v H1 e p => k v H1 e p
theorem ev_int {σ : L2.St} {H : Hp} {te : TE} {z : Int} (h : Ev te σ H (.int z)) : Ev (tCB (fun xs H Q => (∃ i, xs = [V.int i] ∧ Q (V.int i) H) ∨ ∃ k, xs = [V.bl k] ∧ Q (V.int (if k = true then 1 else 0)) H) (tCons te tNil)) σ H (.int z) :=
  ev_cb (ea_cons h ea_nil) fun H1 _ _ q => .inl ⟨_, rfl, q H1 (Ex.refl H1)⟩
theorem el_rep {σ : L2.St} {H : Hp} {te tn : TE} {z k : Int} (h : Ev te σ H (.int z)) (hn : Ev tn σ H (.int k)) (hk : 0 ≤ k ∧ k ≤ 100000) : EvL (tOp rRep (tLst (tCons te tNil)) tn) σ H ((List.replicate k.toNat z).map V.int) := fun H1 e Q q =>
  el_lst (ea_cons h ea_nil) (by show 1 ≤ 100000; decide) H1 e _ fun p H2 hp e2 h2 => hn H2 (e.trans e2) _ fun H3 e3 => ⟨p, k, [.int z], rfl, rfl, e3 _ _ h2, by omega, by omega, by
    show 1 * k.toNat ≤ sizeLine
    exact Nat.le_trans (show 1 * k.toNat ≤ 100000 by omega) (by decide), fun l hl => q l _ (fresh_back (e2.trans e3) hl) ((e2.trans e3).trans (Ex.new hl)) (by
    rw [upd_same]
    have rp : ∀ m : Nat, (List.replicate m [V.int z]).flatten = (List.replicate m z).map V.int := fun m => by
      induction m with
      | zero => rfl
      | succ m ih => rw [List.replicate_succ, List.flatten_cons, ih, List.replicate_succ, List.map_cons]; rfl
    rw [rp])⟩
theorem er_call {sp : Sp} {dvs vs : List V} {E : XK} {ta : TA} {σ : L2.St} {H : Hp} {P : V → Hp → Prop} (h : EvA ta σ H vs) (hs : ∀ H1, Ex H H1 → ∀ Q : VK, (∀ v H2, Ex H1 H2 → P v H2 → Q v H2) → sp (vs ++ dvs) H1 Q E) : EvR (tCall sp dvs E ta) σ H P :=
  fun H1 e Q q => h H1 e _ fun H2 e2 => hs H2 (e.trans e2) Q fun v H3 e3 p => q v H3 (e2.trans e3) p
theorem el_cat {σ : L2.St} {H : Hp} {ta tb : TE} {xs ys : List V} (h1 : EvL ta σ H xs) (h2 : EvL tb σ H ys) (hz : xs.length + ys.length ≤ 100000) : EvL (tOp rCat ta tb) σ H (xs ++ ys) := fun H1 e Q q =>
  h1 H1 e _ fun a H2 ha e2 g2 => h2 H2 (e.trans e2) _ fun b H3 hb e3 g3 => ⟨a, b, xs, ys, rfl, rfl, e3 _ _ g2, g3, sz_of hz, fun p hp => q p _ (fresh_back (e2.trans e3) hp) ((e2.trans e3).trans (Ex.new hp)) upd_same⟩
theorem atI_last {α : Type} {xs : List α} {z : α} (h : xs.getLast? = some z) : atI xs (-1) = some z := by
  cases xs with
  | nil => cases h
  | cons x r =>
    rw [List.getLast?_eq_getElem?] at h
    unfold atI ixN
    rw [if_neg (by omega), if_pos (by rw [List.length_cons]; omega)]
    show (x :: r)[((-1 : Int) + ((x :: r).length : Int)).toNat]? = some z
    rw [← h]
    congr 1
    rw [List.length_cons]
    omega
/-- an if whose test fails -/
theorem q_skip {t : TT} {tu tz : TS} {D : Ends} {σ : L2.St} {H : Hp} (h : EvT t σ H false) (k : ∀ H1, Ex H H1 → tz D σ H1) : tSeq (tIfS t tu tNext) tz D σ H := q_when h (fun z => Bool.noConfusion z) fun _ H1 e => k H1 e
/-- .. whose test holds and that returns -/
theorem q_take {t : TT} {tu tz : TS} {D : Ends} {σ : L2.St} {H : Hp} (h : EvT t σ H true) (k : ∀ H1, Ex H H1 → tu { D with nx := tz D } σ H1) : tSeq (tIfS t tu tNext) tz D σ H := q_when h (fun _ H1 e => k H1 e) fun z => Bool.noConfusion z
theorem et_notT {t : TT} {σ : L2.St} {H : Hp} (h : EvT t σ H true) : EvT (tNot t) σ H false := et_not h
theorem et_orF {t u : TT} {σ : L2.St} {H : Hp} (h : EvT t σ H false) (h2 : EvT u σ H false) : EvT (tOr t u) σ H false := et_or h fun _ => h2
theorem et_andF {t u : TT} {σ : L2.St} {H : Hp} (h : EvT t σ H false) : EvT (tAnd t u) σ H false := et_and (b := true) h fun z => Bool.noConfusion z
theorem et_andT {t u : TT} {σ : L2.St} {H : Hp} {b : Bool} (h : EvT t σ H true) (h2 : EvT u σ H b) : EvT (tAnd t u) σ H b := et_and h fun _ => h2
theorem ev_ix {K : PySem.W.Frag} {σ : L2.St} {H : Hp} {ta tb : TE} {p : Addr} {xs : List V} {i : Int} {v : V} (ha : Ev ta σ H (.ref p)) (hb : Ev tb σ H (.int i)) (h : SqL K H p xs) (hv : atI xs i = some v) : Ev (tOp (rIxL K) ta tb) σ H v := ev_op ha hb (rv_ixL h hv)
theorem rv_isK {x : V} {H : Hp} {b : Bool} : RV rIsK x (.bl b) H (.bl (decide (x = .bl b))) := fun H1 _ _ q => ⟨b, rfl, q H1 (Ex.refl H1)⟩
def rIsNotK : R2 := fun x y H Q => ∃ b : Bool, y = .bl b ∧ Q (.bl (!decide (x = .bl b))) H
theorem op_isNotK {X : Cx} : OpR X (compareOp .IsNot) rIsNotK := by
  intro pins s σ H x y v u Q I rx ry h
  obtain ⟨b, hy, q⟩ := h
  subst hy
  cases (show u = Value.bool b from ry)
  have fin : ∀ k : Bool, k = (!decide (x = V.bl b)) → EP X pins σ Q (.bool k) s := fun k e => ⟨.bl k, H, I, rfl, by rw [e]; exact q⟩
  cases x with
  | non => cases (show v = Value.none from rx); exact wpAny_isNot_other rfl (fun z => by cases z) (fin _ (by simp))
  | bl a =>
    cases (show v = Value.bool a from rx)
    by_cases e : a = b
    · subst e; exact wpAny_isNot_self rfl (fin _ (by simp))
    · exact wpAny_isNot_other rfl (fun z => e (Value.bool.inj z)) (fin _ (by simp [e]))
  | int i => obtain ⟨t, ev⟩ := rx; subst ev; exact wpAny_isNot_other rfl (fun z => by cases z) (fin _ (by simp))
  | str i => obtain ⟨t, ev⟩ := rx; subst ev; exact wpAny_isNot_other rfl (fun z => by cases z) (fin _ (by simp))
  | byt i => obtain ⟨t, ev⟩ := rx; subst ev; exact wpAny_isNot_other rfl (fun z => by cases z) (fin _ (by simp))
  | flt i => obtain ⟨t, ev⟩ := rx; subst ev; exact wpAny_isNot_other rfl (fun z => by cases z) (fin _ (by simp))
  | ref a => cases (show v = Value.ref a from rx); exact wpAny_isNot_other rfl (fun z => by cases z) (fin _ (by simp))
  | ty n => cases (show v = Value.type n from rx); exact wpAny_isNot_other rfl (fun z => by cases z) (fin _ (by simp))
theorem rv_isNotK {x : V} {H : Hp} {b : Bool} : RV rIsNotK x (.bl b) H (.bl (!decide (x = .bl b))) := fun H1 _ _ q => ⟨b, rfl, q H1 (Ex.refl H1)⟩
theorem drawn_cons {m : Int} {ms ds : List Int} (h : Drawn (m :: ms) ds) : ∃ d r, ds = d :: r ∧ (0 ≤ d ∧ d < m) ∧ Drawn ms r := by
  obtain ⟨hl, g⟩ := h
  cases ds with
  | nil => cases hl
  | cons d r =>
    obtain ⟨d', e, h0, h1⟩ := g 0 m rfl
    cases e
    exact ⟨d, r, rfl, ⟨h0, h1⟩, by simpa using hl, fun i x hx => g (i + 1) x hx⟩
theorem drawn_nil {ds : List Int} (h : Drawn [] ds) : ds = [] := List.length_eq_zero_iff.mp h.1
/-! ### new things: what holds of them in each heap that has what is new -/
def NewP (P : Hp → Prop) (H H' : Hp) : Prop := ∀ G : Hp, (∀ b o, H b = none → H' b = some o → G b = some o) → P G
def EvNew (te : TE) (σ : L2.St) (H : Hp) (P : V → Hp → Prop) : Prop := ∀ H1, Ex H H1 → ∀ Q : VK, (∀ v H2, Ex H1 H2 → NewP (P v) H1 H2 → Q v H2) → te σ H1 Q
theorem NewP.self {P : Hp → Prop} {H H' : Hp} (h : NewP P H H') : P H' := h H' fun _ _ _ e => e
theorem NewP.out {P : Hp → Prop} {H H1 H2 H3 : Hp} (h : NewP P H1 H2) (e : Ex H H1) (e' : Ex H2 H3) : NewP P H H3 := fun G g => h G fun b o h1 h2 => g b o (fresh_back e h1) (e' _ _ h2)
theorem EvNew.er {te : TE} {σ : L2.St} {H : Hp} {P : V → Hp → Prop} (h : EvNew te σ H P) : EvR te σ H P := fun H1 e Q q => h H1 e Q fun v H2 e2 n => q v H2 e2 n.self
theorem EvNew.imp {te : TE} {σ : L2.St} {H : Hp} {P P' : V → Hp → Prop} (h : EvNew te σ H P) (i : ∀ v G, P v G → P' v G) : EvNew te σ H P' := fun H1 e Q q => h H1 e Q fun v H2 e2 n => q v H2 e2 fun G g => i v G (n G g)
theorem en_L {te : TE} {σ : L2.St} {H : Hp} {xs : List V} (h : EvL te σ H xs) : EvNew te σ H fun v G => ∃ p, v = .ref p ∧ G p = some (.lst xs) := fun H1 e Q q => h H1 e Q fun p H2 hp e2 h2 => q _ H2 e2 fun G g => ⟨p, rfl, g p _ hp h2⟩
theorem en_ev {te : TE} {σ : L2.St} {H : Hp} {v : V} {P : V → Prop} (h : Ev te σ H v) (p : P v) : EvNew te σ H fun v _ => P v := fun H1 e Q q => h H1 e Q fun H2 e2 => q v H2 e2 fun _ _ => p
/-- what a comprehension keeps: its list at D, each item with its property whatever D holds -/
def Kept (P : Nat → V → Hp → Prop) (H1 : Hp) (D : Addr) (i : Nat) (H : Hp) : Prop := H1 D = none ∧ Ex H1 H ∧ ∃ vs : List V, H D = some (.lst vs) ∧ vs.length = i ∧ ∀ (k : Nat) x, vs[k]? = some x → ∀ G : Hp, (∀ b o, b ≠ D → H1 b = none → H b = some o → G b = some o) → P k x G
theorem kept_turn {P : Nat → V → Hp → Prop} {H1 H : Hp} {D : Addr} {i : Nat} {te : TE} {σ2 : L2.St} (p : Kept P H1 D i H) (hi : i < 50000) (he : EvNew te σ2 H1 (P i)) :
    tYes σ2 H fun b H3 => if b = true then te σ2 H3 fun y H4 => ∃ acc, H4 D = some (.lst acc) ∧ acc.length < sizeLine ∧ Kept P H1 D (i + 1) (upd H4 D (.lst (acc ++ [y]))) else Kept P H1 D (i + 1) H3 := by
  obtain ⟨p1, p2, vs, p3, p4, p5⟩ := p
  show te σ2 H fun y H4 => ∃ acc, H4 D = some (.lst acc) ∧ acc.length < sizeLine ∧ Kept P H1 D (i + 1) (upd H4 D (.lst (acc ++ [y])))
  refine he H p2 _ fun y H4 e4 hy => ⟨vs, e4 _ _ p3, sz_lt (by omega), p1, Ex.mut (p2.trans e4) p1, vs ++ [y], upd_same, by simp [p4], fun k x hk G g => ?_⟩
  by_cases hki : k < vs.length
  · rw [List.getElem?_append_left hki] at hk
    exact p5 k x hk G fun b o hb h1 h2 => g b o hb h1 (by rw [upd_ne hb]; exact e4 _ _ h2)
  · have hlt := (List.getElem?_eq_some_iff.mp hk).1
    rw [List.length_append] at hlt
    have hlt' : k < vs.length + 1 := hlt
    have e : k = i := by omega
    subst e
    rw [List.getElem?_append_right (by omega), ← p4, Nat.sub_self] at hk
    cases hk
    refine hy G fun b o h1 h2 => ?_
    have hb : b ≠ D := fun e => by rw [e, p3] at h1; cases h1
    exact g b o hb (fresh_back p2 h1) (by rw [upd_ne hb]; exact h2)
theorem kept_end {P : Nat → V → Hp → Prop} {H1 H : Hp} {D : Addr} {n : Nat} (p : Kept P H1 D n H) : NewP (fun G => ∃ vs : List V, G D = some (.lst vs) ∧ vs.length = n ∧ ∀ (k : Nat) x, vs[k]? = some x → P k x G) H1 H := fun G g => by
  obtain ⟨p1, p2, vs, p3, p4, p5⟩ := p
  exact ⟨vs, g D _ p1 p3, p4, fun k x hk => p5 k x hk G fun b o _ h1 h2 => g b o h1 h2⟩
/-- a list whose items have a property -/
def ListP (n : Nat) (P : Nat → V → Hp → Prop) (v : V) (G : Hp) : Prop := ∃ (p : Addr) (vs : List V), v = .ref p ∧ G p = some (.lst vs) ∧ vs.length = n ∧ ∀ (k : Nat) x, vs[k]? = some x → P k x G
theorem en_lcR1 {σ : L2.St} {H : Hp} {te : TE} {ta : TA} {j : Nat} {vs : List Nat} {n : Int} (P : Nat → V → Hp → Prop) (h : EvA ta σ H [.int n]) (hn : 0 ≤ n ∧ n ≤ 40000) (hw : ∀ x, wipe ((wipe σ vs).set j (some x)) vs = wipe σ vs)
    (he : ∀ (i : Nat) H1, Ex H H1 → (i : Int) < n → EvNew te ((wipe σ vs).set j (some (.int (i : Int)))) H1 (P i)) : EvNew (tLc (iRng1 ta) (gName j) tYes te vs) σ H (ListP n.toNat P) := fun H0 e Q q => h H0 e _ fun H1 e1 => ⟨n, rfl, by omega, by omega, fun Dl hD =>
  lc_range (lo := 0) (n := n.toNat) (Kept P H1 Dl) ⟨hD, Ex.new hD, [], upd_same, rfl, fun k x hk => by cases hk⟩ (fun i H' hi p => by
    have e0 : (0 : Int) + (i : Int) = (i : Int) := Int.zero_add _
    show wipe ((wipe σ vs).set j (some (.int ((0 : Int) + (i : Int))))) vs = wipe σ vs ∧ tYes ((wipe σ vs).set j (some (.int ((0 : Int) + (i : Int))))) H' fun b H3 => if b = true then te ((wipe σ vs).set j (some (.int ((0 : Int) + (i : Int))))) H3 fun y H4 => ∃ acc, H4 Dl = some (.lst acc) ∧ acc.length < sizeLine ∧ Kept P H1 Dl (i + 1) (upd H4 Dl (.lst (acc ++ [y]))) else Kept P H1 Dl (i + 1) H3
    rw [e0]
    exact ⟨hw _, kept_turn p (by omega) (he i H1 (e.trans e1) (by omega))⟩)
    (fun H' p => q _ H' (e1.trans p.2.1) fun G g => by
      obtain ⟨ws, h1, h2, h3⟩ := (kept_end p).out e1 (Ex.refl _) G g
      exact ⟨Dl, ws, rfl, h1, h2, h3⟩)⟩
theorem en_lcL {K : PySem.W.Frag} {σ : L2.St} {H : Hp} {te tl : TE} {j : Nat} {vs : List Nat} {xs : List V} (P : Nat → V → Hp → Prop) (h : EvR tl σ H fun v H1 => ∃ a, v = .ref a ∧ SqL K H1 a xs) (hz : xs.length ≤ 40000) (hw : ∀ x, wipe ((wipe σ vs).set j (some x)) vs = wipe σ vs)
    (he : ∀ (i : Nat) (x : V) H1, Ex H H1 → xs[i]? = some x → EvNew te ((wipe σ vs).set j (some x)) H1 (P i)) : EvNew (tLc (iList K tl) (gName j) tYes te vs) σ H (ListP xs.length P) := fun H0 e Q q => h H0 e _ fun v H1 e1 hv => by
  obtain ⟨a, rfl, hx⟩ := hv
  exact ⟨a, rfl, ⟨xs, hx⟩, fun Dl hD =>
    lc_list (xs := xs) (Kept P H1 Dl) ⟨hD, Ex.new hD, [], upd_same, rfl, fun k x hk => by cases hk⟩ (fun i H' _ p => ex_l p.2.1 hx) (fun i x H' hi p => ⟨hw x, kept_turn p (by have := (List.getElem?_eq_some_iff.mp hi).1; omega) (he i x H1 (e.trans e1) hi)⟩)
    (fun H' p => q _ H' (e1.trans p.2.1) fun G g => by
      obtain ⟨ws, h1, h2, h3⟩ := (kept_end p).out e1 (Ex.refl _) G g
      exact ⟨Dl, ws, rfl, h1, h2, h3⟩)⟩

/-! ### order of data -/
def rLtD (K : PySem.W.Frag) : R2 := fun x y H Q => ∃ d e, Dp K H x d ∧ Dp K H y e ∧ PySem.W.alike d e = true ∧ d ≠ .none ∧ d.depth ≤ 64 ∧ Q (.bl (PySem.W.dataLt d e)) H
def rLeD (K : PySem.W.Frag) : R2 := fun x y H Q => ∃ d e, Dp K H x d ∧ Dp K H y e ∧ PySem.W.alike d e = true ∧ d ≠ .none ∧ d.depth ≤ 64 ∧ Q (.bl (!PySem.W.dataLt e d)) H
theorem op_ltD {X : Cx} {K : PySem.W.Frag} (hu : X.A.units + 64 < cLine) (hk : X.K = K := by rfl) : OpR X (compareOp .Lt) (rLtD K) := by
  subst hk
  intro pins s σ H x y v u Q I rx ry h
  obtain ⟨d, e, hd, he, al, dn, dp, q⟩ := h
  obtain ⟨as, r1⟩ := Dp.reads I d x v hd rx
  obtain ⟨bs, r2⟩ := Dp.reads I e y u he ry
  exact PySem.W.rcLt_alike d e X.A s v u as bs r1 r2 al dn (by have := Nat.min_le_left d.depth e.depth; omega) X.prog X.w X.xe (EP X pins σ Q) ⟨.bl _, H, I, rfl, q⟩
theorem op_leD {X : Cx} {K : PySem.W.Frag} (hu : X.A.units + 64 < cLine) (hk : X.K = K := by rfl) : OpR X (compareOp .LtE) (rLeD K) := by
  subst hk
  intro pins s σ H x y v u Q I rx ry h
  obtain ⟨d, e, hd, he, al, dn, dp, q⟩ := h
  obtain ⟨as, r1⟩ := Dp.reads I d x v hd rx
  obtain ⟨bs, r2⟩ := Dp.reads I e y u he ry
  exact PySem.W.rcLe_alike d e X.A s v u as bs r1 r2 al dn (by have := Nat.min_le_left d.depth e.depth; omega) X.prog X.w X.xe (EP X pins σ Q) ⟨.bl _, H, I, rfl, q⟩
theorem alike_ints : ∀ xs ys : List Int, PySem.W.alikeAll (xs.map PyData.int) (ys.map PyData.int) = true
  | [], [] => by simp [PySem.W.alikeAll]
  | [], y :: ys => by simp [PySem.W.alikeAll]
  | x :: xs, [] => by simp [PySem.W.alikeAll]
  | x :: xs, y :: ys => by simp [PySem.W.alikeAll, PySem.W.alike, alike_ints xs ys]

/-! ### what holds of a value in each heap that has what stood before and what is new -/
def Since (H H' G : Hp) : Prop := ∀ b o, H b = none → H' b = some o → G b = some o
def EvB (te : TE) (σ : L2.St) (H : Hp) (P : V → Hp → Prop) : Prop := ∀ H1, Ex H H1 → ∀ Q : VK, (∀ v H2, Ex H1 H2 → (∀ G, Ex H G → Since H1 H2 G → P v G) → Q v H2) → te σ H1 Q
theorem EvNew.eb {te : TE} {σ : L2.St} {H : Hp} {P : V → Hp → Prop} (h : EvNew te σ H P) : EvB te σ H P := fun H1 e Q q => h H1 e Q fun v H2 e2 n => q v H2 e2 fun G _ g => n G g
theorem EvB.er {te : TE} {σ : L2.St} {H : Hp} {P : V → Hp → Prop} (h : EvB te σ H P) : EvR te σ H P := fun H1 e Q q => h H1 e Q fun v H2 e2 n => q v H2 e2 (n H2 (e.trans e2) fun _ _ _ z => z)
theorem EvB.imp {te : TE} {σ : L2.St} {H : Hp} {P P' : V → Hp → Prop} (h : EvB te σ H P) (i : ∀ v G, Ex H G → P v G → P' v G) : EvB te σ H P' := fun H1 e Q q => h H1 e Q fun v H2 e2 n => q v H2 e2 fun G a g => i v G a (n G a g)
theorem eb_ev {te : TE} {σ : L2.St} {H : Hp} {v : V} {P : V → Hp → Prop} (h : Ev te σ H v) (p : ∀ G, Ex H G → P v G) : EvB te σ H P := fun H1 e Q q => h H1 e Q fun H2 e2 => q v H2 e2 fun G a _ => p G a
theorem eb_L {K : PySem.W.Frag} {te : TE} {σ : L2.St} {H : Hp} {xs : List V} (h : EvL te σ H xs) : EvB te σ H fun v G => ∃ p, v = .ref p ∧ SqL K G p xs := ((en_L h).imp fun v G ⟨p, a, b⟩ => ⟨p, a, sq_of b⟩).eb
theorem eb_held {K : PySem.W.Frag} {σ : L2.St} {H : Hp} {i : Nat} {p : Addr} {xs : List V} (h : σ[i]? = some (some (.ref p))) (hp : SqL K H p xs) : EvB (tVar i) σ H fun v G => ∃ p, v = .ref p ∧ SqL K G p xs := eb_ev (ev_var h) fun G e => ⟨p, rfl, ex_l e hp⟩
/-! ### what is walked, whatever it is -/
def EvI (wi : TI) (σ : L2.St) (H : Hp) (n : Nat) (Y : Nat → Hp → V → Hp → Prop) : Prop := ∀ H1, Ex H H1 → ∀ R : It → Hp → Prop, (∀ J H2, Ex H1 H2 → Walk J n (fun G => Ex H G ∧ Since H1 H2 G) Y → R J H2) → wi σ H1 R
theorem ei_list {K : PySem.W.Frag} {σ : L2.St} {H : Hp} {tl : TE} {xs : List V} (h : EvB tl σ H fun v G => ∃ p, v = .ref p ∧ SqL K G p xs) : EvI (iList K tl) σ H xs.length (YAt xs) := fun H1 e R r => h H1 e _ fun v H2 e2 hv => by
  obtain ⟨a, rfl, hx⟩ := hv H2 (e.trans e2) fun _ _ _ z => z
  exact ⟨a, rfl, ⟨xs, hx⟩, r _ _ e2 (walk_list.mono (fun G g => by
    obtain ⟨b, eb, hb⟩ := hv G g.1 g.2
    cases eb
    exact hb) fun _ _ _ _ _ _ y => y)⟩
theorem ei_tup {K : PySem.W.Frag} {σ : L2.St} {H : Hp} {tl : TE} {xs : List V} (h : EvB tl σ H fun v G => ∃ p, v = .ref p ∧ SqT K G p xs) : EvI (iTup K tl) σ H xs.length (YAt xs) := fun H1 e R r => h H1 e _ fun v H2 e2 hv => by
  obtain ⟨a, rfl, hx⟩ := hv H2 (e.trans e2) fun _ _ _ z => z
  exact ⟨a, rfl, ⟨xs, hx⟩, r _ _ e2 (walk_tup.mono (fun G g => by
    obtain ⟨b, eb, hb⟩ := hv G g.1 g.2
    cases eb
    exact hb) fun _ _ _ _ _ _ y => y)⟩
theorem ei_rng1 {σ : L2.St} {H : Hp} {ta : TA} {n : Int} (h : EvA ta σ H [.int n]) (hn : -100000 ≤ n ∧ n ≤ 100000) : EvI (iRng1 ta) σ H n.toNat (YFn fun i => .int (i : Int)) := fun H1 e R r => h H1 e _ fun H2 e2 =>
  ⟨n, rfl, by omega, by omega, r _ _ e2 (walk_range.mono (fun _ _ => True.intro) fun i G x G' _ _ y => ⟨y.1, by rw [y.2]; simp⟩)⟩
theorem ei_rng2 {σ : L2.St} {H : Hp} {ta : TA} {lo hi : Int} (h : EvA ta σ H [.int lo, .int hi]) (hn : (-100000 ≤ lo ∧ lo ≤ 100000) ∧ -100000 ≤ hi ∧ hi ≤ 100000) : EvI (iRng2 ta) σ H (hi - lo).toNat (YFn fun i => .int (lo + (i : Int))) := fun H1 e R r => h H1 e _ fun H2 e2 =>
  ⟨lo, hi, rfl, by omega, r _ _ e2 (walk_range.mono (fun _ _ => True.intro) fun i G x G' _ _ y => y)⟩
theorem ei_zip {K : PySem.W.Frag} {σ : L2.St} {H : Hp} {ta tb : TE} {xs ys : List V} {n : Nat} (h1 : EvB ta σ H fun v G => ∃ p, v = .ref p ∧ SqL K G p xs) (h2 : EvB tb σ H fun v G => ∃ p, v = .ref p ∧ SqL K G p ys) (hn : n = min xs.length ys.length) :
    EvI (iZip K (tCons ta (tCons tb tNil))) σ H n (YPair (fun i => xs[i]?) fun i => ys[i]?) := fun H1 e R r => h1 H1 e _ fun v H2 e2 hv => h2 H2 (e.trans e2) _ fun w H3 e3 hw => by
  have p1 : ∀ G, Ex H G → Since H1 H3 G → ∃ p, v = .ref p ∧ SqL K G p xs := fun G a g => hv G a fun b o z1 z2 => g b o z1 (e3 _ _ z2)
  have p2 : ∀ G, Ex H G → Since H1 H3 G → ∃ p, w = .ref p ∧ SqL K G p ys := fun G a g => hw G a fun b o z1 z2 => g b o (fresh_back e2 z1) z2
  have e3' := (e.trans e2).trans e3
  obtain ⟨a, rfl, hx⟩ := p1 H3 e3' fun _ _ _ z => z
  obtain ⟨b, rfl, hy⟩ := p2 H3 e3' fun _ _ _ z => z
  exact ⟨a, b, xs, ys, rfl, hx, hy, r _ _ (e2.trans e3) ((walk_zip hn).mono (fun G g => by
    obtain ⟨a', ea, ha⟩ := p1 G g.1 g.2
    obtain ⟨b', eb, hb⟩ := p2 G g.1 g.2
    cases ea
    cases eb
    exact ⟨ha, hb⟩) fun _ _ _ _ _ _ y => y)⟩
theorem ei_enum {K : PySem.W.Frag} {σ : L2.St} {H : Hp} {ta : TE} {xs : List V} (h : EvB ta σ H fun v G => ∃ p, v = .ref p ∧ SqL K G p xs) : EvI (iEnum K (tCons ta tNil)) σ H xs.length (YPair (fun i => some (.int (i : Int))) fun i => xs[i]?) := fun H1 e R r => h H1 e _ fun v H2 e2 hv => by
  obtain ⟨a, rfl, hx⟩ := hv H2 (e.trans e2) fun _ _ _ z => z
  exact ⟨a, xs, rfl, hx, r _ _ e2 (walk_enum.mono (fun G g => by
    obtain ⟨b, eb, hb⟩ := hv G g.1 g.2
    cases eb
    exact hb) fun _ _ _ _ _ _ y => y)⟩
theorem walk_ex {J : It} {n : Nat} {H H1 H2 : Hp} {Y : Nat → Hp → V → Hp → Prop} (e : Ex H H1) (e2 : Ex H1 H2) (w : Walk J n (fun G => Ex H G ∧ Since H1 H2 G) Y) : Walk J n (Ex H2) Y := w.mono (fun G g => ⟨(e.trans e2).trans g, fun b o _ z => g _ _ z⟩) fun _ _ _ _ _ _ y => y
/-- what a target binds at each turn -/
def BdG (g : TG) (σ : L2.St) (n : Nat) (Y : Nat → Hp → V → Hp → Prop) (τ : Nat → L2.St) : Prop := ∀ i H x H' (k : L2.St → Hp → Prop), i < n → Y i H x H' → (Ex H H' → k (τ i) H') → g x σ H' k
theorem bd_at {σ : L2.St} {n j : Nat} {xs : List V} : BdG (gName j) σ n (YAt xs) fun i => σ.set j (xs[i]?) := fun i H x H' k _ y c => by
  obtain ⟨rfl, hx⟩ := y
  show k (σ.set j (some x)) H'
  rw [← hx]
  exact c (Ex.refl _)
theorem bd_fn {σ : L2.St} {n j : Nat} {f : Nat → V} : BdG (gName j) σ n (YFn f) fun i => σ.set j (some (f i)) := fun i H x H' k _ y c => by
  obtain ⟨rfl, rfl⟩ := y
  exact c (Ex.refl _)
theorem bd_pair {K : PySem.W.Frag} {σ : L2.St} {n a b : Nat} {xs ys : Nat → Option V} : BdG (gTup K 2 (gCons (gName a) (gCons (gName b) gNil))) σ n (YPair xs ys) fun i => (σ.set a (xs i)).set b (ys i) := fun i H x H' k _ y c => by
  obtain ⟨T, u, v, rfl, hT, rfl, hu, hv⟩ := y
  refine ⟨T, [u, v], rfl, st_of upd_same, rfl, u, [v], rfl, v, [], rfl, rfl, ?_⟩
  rw [← hu, ← hv]
  exact c (Ex.new hT)
section
variable {wi : TI} {g : TG} {tt : TT} {te : TE} {tu tz : TS} {σ : L2.St} {H : Hp} {D : Ends} {n : Nat} {Y : Nat → Hp → V → Hp → Prop} {vs : List Nat} {τ : Nat → L2.St}
theorem s_forI (h : EvI wi σ H n Y) (k : ∀ H2, Ex H H2 → ∃ Pv : Nat → L2.St → Hp → Prop, Pv 0 σ H2 ∧ (∀ i σ' H', i ≤ n → Pv i σ' H' → Ex H2 H') ∧
    (∀ i x σ' H' H'', i < n → Pv i σ' H' → Y i H' x H'' → g x σ' H'' fun σ2 H3 => tu { D with nx := Pv (i + 1), ct := Pv (i + 1), bk := D.nx } σ2 H3) ∧ ∀ σ' H', Pv n σ' H' → D.nx σ' H') : tFor wi g tu D σ H :=
  h H (Ex.refl H) _ fun J H2 e2 w => by
    obtain ⟨Pv, h0, hG, hs, hd⟩ := k H2 e2
    exact for_it (walk_ex (Ex.refl H) e2 w) Pv h0 hG (fun i x σ' H' H'' hi p y => hs i x σ' H' H'' hi p y) hd
theorem q_forI (h : EvI wi σ H n Y) (k : ∀ H2, Ex H H2 → ∃ Pv : Nat → L2.St → Hp → Prop, Pv 0 σ H2 ∧ (∀ i σ' H', i ≤ n → Pv i σ' H' → Ex H2 H') ∧
    (∀ i x σ' H' H'', i < n → Pv i σ' H' → Y i H' x H'' → g x σ' H'' fun σ2 H3 => tu { D with nx := Pv (i + 1), ct := Pv (i + 1), bk := tz D } σ2 H3) ∧ ∀ σ' H', Pv n σ' H' → tz D σ' H') : tSeq (tFor wi g tu) tz D σ H := s_forI (D := { D with nx := tz D }) h k
/-- a comprehension that tests and tells plain values -/
theorem el_lc (f : Nat → Bool) (v : Nat → V) (h : EvI wi σ H n Y) (hn : n ≤ 40000) (hb : BdG g (wipe σ vs) n Y τ) (hw : ∀ i, i < n → wipe (τ i) vs = wipe σ vs)
    (ht : ∀ i H1, i < n → Ex H H1 → EvT tt (τ i) H1 (f i)) (he : ∀ i H1, i < n → Ex H H1 → f i = true → Ev te (τ i) H1 (v i)) : EvL (tLc wi g tt te vs) σ H (given n f v) := fun H0 e0 Q q =>
  h H0 e0 _ fun J H2 e2 w Dl hD => lc_it (walk_ex e0 e2 w) (Cw H2 f v Dl) ⟨hD, Ex.new hD, upd_same⟩ (fun i H' _ c => c.2.1)
    (fun i x H' H'' hi c y => hb i H' x H'' _ hi y fun e => ⟨hw i hi, by
      have c' : Cw H2 f v Dl i H'' := ⟨c.1, c.2.1.trans e, e _ _ c.2.2⟩
      exact cw_turn c' (by omega) (ht i H2 hi (e0.trans e2)) (fun hf => he i H2 hi (e0.trans e2) hf)⟩)
    (fun H' c => q Dl H' (fresh_back e2 c.1) (e2.trans c.2.1) c.2.2)
/-- .. that tells new things -/
theorem en_lc (P : Nat → V → Hp → Prop) (h : EvI wi σ H n Y) (hn : n ≤ 40000) (hb : BdG g (wipe σ vs) n Y τ) (hw : ∀ i, i < n → wipe (τ i) vs = wipe σ vs)
    (he : ∀ i H1, i < n → Ex H H1 → EvNew te (τ i) H1 (P i)) : EvNew (tLc wi g tYes te vs) σ H (ListP n P) := fun H0 e0 Q q =>
  h H0 e0 _ fun J H2 e2 w Dl hD => lc_it (walk_ex e0 e2 w) (Kept P H2 Dl) ⟨hD, Ex.new hD, [], upd_same, rfl, fun k x hk => by cases hk⟩ (fun i H' _ c => c.2.1)
    (fun i x H' H'' hi c y => hb i H' x H'' _ hi y fun e => ⟨hw i hi, by
      obtain ⟨c1, c2, us, c3, c4, c5⟩ := c
      have c' : Kept P H2 Dl i H'' := ⟨c1, c2.trans e, us, e _ _ c3, c4, fun k z hk G gg => c5 k z hk G fun b o hb h1 h2 => gg b o hb h1 (e _ _ h2)⟩
      exact kept_turn c' (by omega) (he i H2 hi (e0.trans e2))⟩)
    (fun H' c => q _ H' (e2.trans c.2.1) fun G gg => by
      obtain ⟨ws, h1, h2, h3⟩ := (kept_end c).out e2 (Ex.refl _) G gg
      exact ⟨Dl, ws, rfl, h1, h2, h3⟩)
theorem given_all {n : Nat} {v : Nat → V} : given n (fun _ => true) v = (List.range n).map v := by
  unfold given
  rw [List.filter_eq_self.mpr fun _ _ => rfl]
theorem yes_T : EvT tYes σ H true := fun H1 _ Q q => q H1 (Ex.refl H1)
/-- two sources, one within the other: all values in their order -/
theorem el_lc2 {wi1 : TI} {g1 : TG} {vs1 : List Nat} {n1 : Nat → Nat} {Y1 : Nat → Nat → Hp → V → Hp → Prop} {τ1 : Nat → Nat → L2.St} (v : Nat → Nat → V) (N : Nat) (h : EvI wi σ H n Y) (hN : N ≤ 1000000) (hz : ∀ i, i ≤ n → ((List.range i).flatMap fun i => (List.range (n1 i)).map (v i)).length ≤ N) (hb : BdG g (wipe σ vs) n Y τ) (hw : ∀ i, i < n → wipe (τ i) vs = wipe σ vs)
    (h1 : ∀ i H1, i < n → Ex H H1 → EvI wi1 (τ i) H1 (n1 i) (Y1 i)) (hb1 : ∀ i, i < n → BdG g1 (wipe (τ i) vs1) (n1 i) (Y1 i) (τ1 i)) (hw1 : ∀ i j, i < n → j < n1 i → wipe (τ1 i j) vs1 = wipe (τ i) vs1)
    (he : ∀ i j H1, i < n → j < n1 i → Ex H H1 → Ev te (τ1 i j) H1 (v i j)) : EvL (tLc2 wi g tYes wi1 g1 tYes te vs vs1) σ H ((List.range n).flatMap fun i => (List.range (n1 i)).map (v i)) := fun H0 e0 Q q =>
  h H0 e0 _ fun J H2 e2 w Dl hD => by
    let All : Nat → List V := fun i => (List.range i).flatMap fun i => (List.range (n1 i)).map (v i)
    have all_succ : ∀ i, All (i + 1) = All i ++ (List.range (n1 i)).map (v i) := fun i => by
      show List.flatMap _ (List.range (i + 1)) = _
      rw [List.range_succ, List.flatMap_append]
      simp [All]
    let Pv : Nat → Hp → Prop := fun i H' => H2 Dl = none ∧ Ex H2 H' ∧ H' Dl = some (.lst (All i))
    refine ⟨fun i m H' => m = n - i ∧ i ≤ n ∧ Pv i H', ⟨n, by simp, Nat.zero_le _, hD, Ex.new hD, upd_same⟩, ?_⟩
    have w' := walk_ex e0 e2 w
    rintro i m H' ⟨rfl, hi, p⟩
    by_cases hlt : i < n
    · refine .inr ⟨w'.goes i H' hlt p.2.1, Pv (i + 1), fun H'' p' => ⟨n - (i + 1), by omega, rfl, hlt, p'⟩, fun x H'' y => hb i H' x H'' _ hlt (w'.yields i H' x H'' hlt p.2.1 y) fun e => ⟨hw i hlt, ?_⟩⟩
      show wi1 (τ i) H'' _
      refine h1 i H2 hlt (e0.trans e2) H'' (p.2.1.trans e) _ fun J1 H3 e3 w1 => ?_
      let Pw : Nat → Hp → Prop := fun j G => (∀ b o, b ≠ Dl → H3 b = some o → G b = some o) ∧ Ex H2 G ∧ G Dl = some (.lst (All i ++ (List.range j).map (v i)))
      have q3 : Ex H2 H3 := (p.2.1.trans e).trans e3
      have inner : ∀ j G, Pw j G → Ex H2 G ∧ Since H'' H3 G := fun j G pw => ⟨pw.2.1, fun b o z1 z2 => pw.1 b o (fun z => by rw [z, e _ _ p.2.2] at z1; cases z1) z2⟩
      refine ⟨fun j m G => m = n1 i - j ∧ j ≤ n1 i ∧ Pw j G, ⟨n1 i, by simp, Nat.zero_le _, fun b o _ z => z, q3, by rw [(e.trans e3) _ _ p.2.2]; simp⟩, ?_⟩
      rintro j m G ⟨rfl, hj, pw⟩
      by_cases hjl : j < n1 i
      · refine .inr ⟨w1.goes j G hjl (inner j G pw), Pw (j + 1), fun G' pw' => ⟨n1 i - (j + 1), by omega, rfl, hjl, pw'⟩, fun x1 G' y1 => ?_⟩
        refine hb1 i hlt j G x1 G' _ hjl (w1.yields j G x1 G' hjl (inner j G pw) y1) fun eG => ⟨hw1 i j hlt hjl, ?_⟩
        show te (τ1 i j) G' _
        refine he i j H2 hlt hjl (e0.trans e2) G' (pw.2.1.trans eG) _ fun G4 e4 => ⟨_, (eG.trans e4) _ _ pw.2.2, ?_, ?_⟩
        · have s1 := hz (i + 1) (by omega)
          have s2 : (All (i + 1)).length ≤ N := s1
          rw [all_succ] at s2
          simp only [List.length_append, List.length_map, List.length_range] at s2 ⊢
          exact Nat.lt_of_le_of_lt (show _ ≤ 1000000 by omega) (by decide)
        · refine ⟨fun b o hb' z => by rw [upd_ne hb']; exact (eG.trans e4) _ _ (pw.1 b o hb' z), Ex.mut (pw.2.1.trans (eG.trans e4)) hD, ?_⟩
          rw [upd_same, List.range_succ, List.map_append, ← List.append_assoc]
          rfl
      · have ej : j = n1 i := by omega
        subst ej
        refine .inl ⟨w1.stops G (inner _ G pw), p.1, pw.2.1, ?_⟩
        rw [pw.2.2, all_succ]
    · have e : i = n := by omega
      subst e
      exact .inl ⟨w'.stops H' p.2.1, q Dl H' (fresh_back e2 p.1) (e2.trans p.2.1) p.2.2⟩
end

theorem pi_listK {X : Cx} {K : PySem.W.Frag} {tg l : Expr} {tl : TE} (hl : PE X l tl) (hk : X.K = K := by rfl) : PI X tg l (iList K tl) := by subst hk; exact pi_list hl
theorem cr_allK {X : Cx} {K : PySem.W.Frag} (hc : X.calm = true) (hk : X.K = K := by rfl) : CallR X (.builtin "all") (rAll K) := by subst hk; exact cr_all hc
theorem cr_sumK {X : Cx} {K : PySem.W.Frag} (hc : X.calm = true) (hk : X.K = K := by rfl) : CallR X (.builtin "sum") (rSum K) := by subst hk; exact cr_sum hc
theorem ev_sumN {K : PySem.W.Frag} {σ : L2.St} {H : Hp} {te : TE} {ns : List Int} (h : EvL te σ H (ns.map V.int)) : Ev (tCB (rSum K) (tCons te tNil)) σ H (.int ns.sum) := fun H1 e Q q => h H1 e _ fun p H2 _ e2 hp => ⟨p, ns, rfl, sq_of hp, q H2 e2⟩
/-- either of two rules of a call -/
def rOr (r1 r2 : List V → Hp → VK → Prop) : List V → Hp → VK → Prop := fun xs H Q => r1 xs H Q ∨ r2 xs H Q
theorem call_or {X : Cx} {f : Value} {r1 r2 : List V → Hp → VK → Prop} (h1 : CallR X f r1) (h2 : CallR X f r2) : CallR X f (rOr r1 r2) := fun pins s σ H xs us Q I r h => h.elim (h1 pins s σ H xs us Q I r) (h2 pins s σ H xs us Q I r)

/-! ### lots -/
def lotF (n : Int) (l : Addr) : List (Str × V) := [("hours", .int n), ("_members", .ref l)]
/-- v is a lot of n hours with the members ms -/
def LotAt (C : Addr) (H : Hp) (v : V) (n : Int) (ms : List Int) : Prop := ∃ a dx l, v = .ref a ∧ H a = some (.ins C dx (lotF n l)) ∧ H l = some (.lst (ms.map V.int))
theorem LotAt.ex {C : Addr} {H H' : Hp} {v : V} {n : Int} {ms : List Int} (e : Ex H H') (h : LotAt C H v n ms) : LotAt C H' v n ms := by
  obtain ⟨a, dx, l, rfl, h1, h2⟩ := h
  exact ⟨a, dx, l, rfl, e _ _ h1, e _ _ h2⟩
/-- the first residue that was seen before -/
def scanR (n : Int) : List Int → List Int → Option Int
  | _, [] => none
  | seen, m :: r => if m % n ∈ seen then some (m % n) else scanR n (seen ++ [m % n]) r
def resid (n : Int) (S : List Int) : List Int := pick n.toNat (fun h => decide ((h : Int) ∈ S)) fun h => (h : Int)
def flags (N : Nat) (S : List Int) : List V := (List.range N).map fun h : Nat => V.bl (decide ((h : Int) ∈ S))
theorem flags_nil (N : Nat) : (List.replicate N [V.bl false]).flatten = flags N [] := by
  unfold flags
  induction N with
  | zero => rfl
  | succ N ih =>
    rw [List.range_succ, List.map_append, ← ih, List.replicate_succ', List.flatten_append]
    simp
theorem flags_get {N : Nat} {S : List Int} {j : Nat} (h : j < N) : (flags N S)[j]? = some (.bl (decide ((j : Int) ∈ S))) := by
  unfold flags
  rw [List.getElem?_map, List.getElem?_range h]
  rfl
theorem flags_len {N : Nat} {S : List Int} : (flags N S).length = N := by
  unfold flags
  rw [List.length_map, List.length_range]
theorem flags_set {N : Nat} {S : List Int} {j : Nat} (h : j < N) : (flags N S).set j (.bl true) = flags N (S ++ [(j : Int)]) := by
  refine List.ext_getElem? fun i => ?_
  by_cases hi : i < N
  · rw [flags_get hi]
    by_cases e : i = j
    · subst e
      rw [List.getElem?_set_self (by rw [flags_len]; exact hi)]
      simp
    · rw [List.getElem?_set_ne (by omega), flags_get hi]
      have : ¬ (i : Int) = (j : Int) := by omega
      simp [this]
  · rw [List.getElem?_eq_none (by rw [List.length_set, flags_len]; omega), List.getElem?_eq_none (by rw [flags_len]; omega)]
theorem el_rng1 {σ : L2.St} {H : Hp} {te : TE} {tt : TT} {ta : TA} {j : Nat} {vs : List Nat} {n : Int} (f : Nat → Bool) (v : Nat → V) (h : EvA ta σ H [.int n]) (hn : 0 ≤ n ∧ n ≤ 40000)
    (hw : ∀ x, wipe ((wipe σ vs).set j (some x)) vs = wipe σ vs)
    (ht : ∀ (i : Nat) H1, Ex H H1 → (i : Int) < n → EvT tt ((wipe σ vs).set j (some (.int (i : Int)))) H1 (f i))
    (he : ∀ (i : Nat) H1, Ex H H1 → (i : Int) < n → f i = true → Ev te ((wipe σ vs).set j (some (.int (i : Int)))) H1 (v i)) :
    EvL (tLc (iRng1 ta) (gName j) tt te vs) σ H (given n.toNat f v) := el_lcR1 f v h hn hw ht he
theorem putF2 {y z : V} : putF "_members" z (putF "hours" y []) = [(("hours" : Str), y), (("_members" : Str), z)] := by
  have h : ¬ ("hours" : Str) = "_members" := by decide +kernel
  show (if ("hours" : Str) = "_members" then _ else (("hours" : Str), y) :: putF "_members" z []) = _
  rw [if_neg h]
  rfl

/-! ### for x in o, o of a class whose __iter__ tells the iterator of a list that o holds -/
/-- a def whose promise may speak of the number of objects that stand when it is called -/
structure FnS (P : Program) (w : World) (K : PySem.W.Frag) (mg : Str → Option Value) (base : Heap) (k : Nat) (f : Addr) (fd : FuncData) (ps : List Str) (sp : Nat → Sp) : Prop where
  go : ∀ (A : Around) (outer : List Env) (s : Shared) (H : Hp) (args : Args) (us : List Value) (vs : List V) (Q : VK) (E : XK),
    Room k A → Env0 P w K mg base A outer s H → BindsTo s fd args (ps.zip us) → Vals vs us → sp s.heap.objs.size vs H Q E →
    codeAny (model P w) A (.call (.ref f) args) (CR CX0 outer P w H s Q E) s
theorem fnS_mk {P : Program} {w : World} {K : PySem.W.Frag} {mg : Str → Option Value} {base : Heap} {x qual : Str} {st : Stmt} {f : Addr} {fd : FuncData} {N ps : List Str} {k : Nat} {sp : Nat → Sp}
    (F : Fun K x qual st f fd) (S : FnScope N ps (defScope st)) (len : ∀ n vs H Q E, sp n vs H Q E → vs.length = ps.length)
    (bd : ∀ (cdv : Value) (A : Around) (outer : List Env) (s : Shared) (H : Hp) (vs : List V) (Q : VK) (E : XK),
      Room k (A.deeper (PyProof.Rows.envOfC qual (defScope st) s.heap.objs.size f cdv)) → sp s.heap.objs.size vs H Q E →
      ∃ t, PSs (cxOf CX0 P w K mg base N qual (defScope st) f cdv A outer s H E) (defBody st) t ∧ t { nx := fun _ H' => Q .non H', rt := Q } (L2.start N vs) H) : FnS P w K mg base (k + 1) f fd ps sp := by
  obtain ⟨oc, od, kV, doc, pm, an, cdv, ct, osl, rfl, lk, hcd⟩ := F.ex
  constructor
  intro A outer s H args us vs Q E hr e0 hb rv hsp
  have many := len _ _ _ _ _ hsp
  have held : K.In s.heap := e0.mod.kin.keeps fun b o e => (e0.bs b o e).1
  have wide : s.heap.NoLimit := e0.mod.nolimit.keeps fun b o e => (e0.bs b o e).1
  have kinds : ∀ y ∈ ps.zip us, (defScope st).names.lookup y.1 = some .local ∨ ((defScope st).names.lookup y.1 = some .cell ∧ ((cellsFrom (s.heap.objs.size + 1) (defScope st).names []).lookup y.1).isSome = true) := by
    rintro ⟨n, v⟩ hy
    cases S.par n (List.of_mem_zip hy).1 with
    | inl q => exact .inl q
    | inr q => exact .inr ⟨q, PySem.W.cellsFrom_some _ _ _ (.inl q)⟩
  refine codeAny_call_function hr.depth (held _ _ lk) rfl S.co S.gen rfl (PySem.W.codeRec_of held hcd)
    (hb _ _ _ _ ?_)
  refine wpAny_newFunctionEnv_cells S.kind kinds fun env he s1 x1 => ?_
  cases he
  refine ⟨wide.keeps x1.toInCall.keep, codeAny_func ?_⟩
  obtain ⟨t, ht, hq⟩ := bd cdv A outer s H vs Q E (hr.deeper _) hsp
  have I := inv_start (E := E) (CX := CX0) S hr.hd e0 many rv x1
  refine wpAny_mono (ht.run [] s1 (L2.start N vs) H _ I hq) (fun fl s' hs => ?_) (fun e s' hs => hs)
  cases fl with
  | ret u =>
    obtain ⟨v, σ', H', J, r, q⟩ := hs
    exact ⟨v, H', J.os, J.bare, J.base, J.hok, r, q⟩
  | next =>
    obtain ⟨σ', H', J, q⟩ := hs
    exact ⟨V.non, H', J.os, J.bare, J.base, J.hok, rfl, q⟩
  | brk => obtain ⟨_, _, _, q⟩ := hs; exact q.elim
  | cont => obtain ⟨_, _, _, q⟩ := hs; exact q.elim
def spIt (K : PySem.W.Frag) (C : Addr) (fld : Str) (n : Nat) : Sp := fun vs H Q _ => ∃ (a dx l : Addr) (fs : List (Str × V)) (xs : List V), vs = [.ref a] ∧ H a = some (.ins C dx fs) ∧ fs.lookup fld = some (.ref l) ∧ SqL K H l xs ∧
  ∀ it, H it = none → n ≤ it → Q (.ref it) (upd H it (ItO l it 0))
/-- the list that o holds -/
def tOwn (C : Addr) (fld : Str) (te : TE) : TE := fun σ H Q => te σ H fun x H1 => ∃ (a dx l : Addr) (fs : List (Str × V)), x = .ref a ∧ H1 a = some (.ins C dx fs) ∧ fs.lookup fld = some (.ref l) ∧ Q (.ref l) H1
theorem ev_own {σ : L2.St} {H : Hp} {te : TE} {C a dx l : Addr} {fld : Str} {fs : List (Str × V)} (h : Ev te σ H (.ref a)) (hi : H a = some (.ins C dx fs)) (hl : fs.lookup fld = some (.ref l)) : Ev (tOwn C fld te) σ H (.ref l) := fun H1 e Q q =>
  h H1 e _ fun H2 e2 => ⟨a, dx, l, fs, rfl, e2 _ _ (e _ _ hi), hl, q H2 e2⟩
theorem pi_own {X : Cx} {K : PySem.W.Frag} {tg e : Expr} {te : TE} {C f : Addr} {fd : FuncData} {fld : Str} {n : Nat} (hk : X.K = K) (he : PE X e te) (hm : Meth K C "__iter__" f)
    (F : FnS X.prog X.w X.K X.mg X.base n f fd ["self"] (spIt K C fld)) (hr : Room n X.A) (hb : Binds X.K fd ["self"] []) : PI X tg e (iList K (tOwn C fld te)) := by
  subst hk
  refine ⟨fun pins s σ H R I h => ?_⟩
  refine thn (he.run pins s σ H _ I h) fun u s1 ⟨x, H1, I1, rx, a, dx, l, fs, ex, ea, el, l', e2, ⟨xs, hq⟩, q⟩ => ?_
  subst ex
  cases e2
  obtain rfl : u = Value.ref a := rx
  obtain ⟨mA, J0, _⟩ := ins_get I1.hok ea
  obtain ⟨od, J, _⟩ := J0.look
  obtain ⟨m, hF⟩ := I1.fr
  refine PySem.W.owit_iter hF I1.ok.mod.kin J hm.at_ hm.fn ?_
  have h2 := hb s1 [.ref a] I1.kIn rfl
  refine wpAny_call (codeAny_mono (F.go X.A X.stack s1 H1 ⟨[.ref a], []⟩ [.ref a] [.ref a] (fun v H' => ∃ it, v = .ref it ∧ H1 it = none ∧ s1.heap.objs.size ≤ it ∧ H' = upd H1 it (ItO l it 0)) E0 hr I1.env0 (by simpa using h2) (.cons rfl .nil)
    ⟨a, dx, l, fs, xs, rfl, ea, el, hq, fun it hit hn => ⟨it, rfl, hit, hn, rfl⟩⟩) fun r s' hce => ?_)
  cases r with
  | error e => exact False.elim hce
  | ok fl =>
    cases fl with
    | next => exact False.elim hce
    | brk => exact False.elim hce
    | cont => exact False.elim hce
    | ret u =>
      obtain ⟨v, H2, I2, rv, it, ev, hit, hsz, eH⟩ := I1.after hce
      subst ev eH
      cases rv
      have hi : (upd H1 it (ItO l it 0)) it = some (ItO l it 0) := upd_same
      have eo := itO_get I2 hi
      have hT : s'.TypeIs (.ref it) "list_iterator" := ⟨_, eo, rfl⟩
      show PySem.W.OwitIt _ _ _ _ (Value.ref it) s'
      unfold PySem.W.OwitIt
      refine wpAny_specialOf (name := Str.ofString "__next__") hT slot_listiter_next.lookup ?_
      have I3 := ItX.inv_drop I2 hi
      refine ⟨it, [it], _, _, _, rfl, I3, turn_list l it, ⟨_, eo, rfl, rfl⟩, fun b hb => ?_, ?_⟩
      · have e : b = it := by simpa using hb
        rw [e]
        exact ItX.inv_fp I2 hi (Nat.le_trans I1.sz hsz)
      · rw [ItX.dropH_upd hit]
        exact q

/-! ### ascending hours -/
def Asc (lo hi : Int) (xs : List Int) : Prop := xs.Pairwise (· < ·) ∧ ∀ x ∈ xs, lo ≤ x ∧ x < hi
theorem Asc.nil {lo hi : Int} : Asc lo hi [] := ⟨.nil, fun x h => by cases h⟩
theorem Asc.append {lo mid mid' hi : Int} {xs ys : List Int} (h : Asc lo mid xs) (g : Asc mid' hi ys) (h1 : lo ≤ mid') (h2 : mid ≤ mid') (h3 : mid ≤ hi) : Asc lo hi (xs ++ ys) := by
  refine ⟨List.pairwise_append.mpr ⟨h.1, g.1, fun x hx y hy => ?_⟩, fun x hx => ?_⟩
  · have := h.2 x hx
    have := g.2 y hy
    omega
  · rcases List.mem_append.mp hx with hx | hx
    · have := h.2 x hx
      omega
    · have := g.2 x hx
      omega
theorem Asc.mono {lo hi lo' hi' : Int} {xs : List Int} (h : Asc lo hi xs) (h1 : lo' ≤ lo) (h2 : hi ≤ hi') : Asc lo' hi' xs := ⟨h.1, fun x hx => by have := h.2 x hx; omega⟩
theorem Asc.filter {lo hi : Int} {xs : List Int} (p : Int → Bool) (h : Asc lo hi xs) : Asc lo hi (xs.filter p) := ⟨h.1.filter p, fun x hx => h.2 x (List.mem_filter.mp hx).1⟩
theorem asc_range {f : Nat → Bool} : ∀ n : Nat, Asc 0 (n : Int) (pick n f fun i => (i : Int))
  | 0 => by unfold pick; exact .nil
  | n + 1 => by
    rw [pick_succ]
    refine (asc_range n).append (mid' := (n : Int)) ?_ (by omega) (by omega) (by omega)
    by_cases h : f n = true
    · rw [if_pos h]
      exact ⟨List.pairwise_singleton _ _, fun x hx => by cases List.mem_singleton.mp hx; omega⟩
    · rw [if_neg h]
      exact .nil
theorem Asc.len {xs : List Int} : ∀ {lo hi : Int}, Asc lo hi xs → (xs.length : Int) ≤ max 0 (hi - lo) := by
  induction xs with
  | nil => intro lo hi _; simp; omega
  | cons x xs ih =>
    intro lo hi h
    have hx := h.2 x List.mem_cons_self
    have h' : Asc (x + 1) hi xs := ⟨(List.pairwise_cons.mp h.1).2, fun y hy => by
      have a := (List.pairwise_cons.mp h.1).1 y hy
      have b := h.2 y (List.mem_cons_of_mem _ hy)
      omega⟩
    have := ih h'
    simp only [List.length_cons]
    omega
theorem asc_shift {c : Int} {bs : List Int} (p : Int → Bool) (h : Asc 0 25 bs) : Asc c (c + 25) ((bs.filter p).map fun b => c + b) := by
  have hf := h.filter p
  refine ⟨List.pairwise_map.mpr (hf.1.imp fun {a b} hab => by show c + a < c + b; omega), fun x hx => ?_⟩
  obtain ⟨b, hb, rfl⟩ := List.mem_map.mp hx
  have := hf.2 b hb
  omega
theorem rg_pick (n : Int) : rgV 0 n = (pick n.toNat (fun _ => true) fun i => (i : Int)).map V.int := by
  unfold rgV pick
  rw [List.filter_eq_self.mpr fun _ _ => rfl, List.map_map, Int.sub_zero]
  exact List.map_congr_left fun i _ => congrArg V.int (Int.zero_add _)
theorem ev_lenN' {K : PySem.W.Frag} {σ : L2.St} {H : Hp} {ta : TE} {xs : List V} (ha : EvL ta σ H xs) : Ev (tCB (rLenK K) (tCons ta tNil)) σ H (.int (xs.length : Int)) := fun H1 e Q q =>
  ha H1 e _ fun p H2 _ e2 hp => ⟨.ref p, xs.length, rfl, .inl ⟨_, sq_of hp, rfl⟩, q H2 e2⟩
theorem rep_ints (m : Nat) (c : Int) : (List.replicate m [V.int c]).flatten = (List.replicate m c).map V.int := by
  induction m with
  | zero => rfl
  | succ m ih => rw [List.replicate_succ, List.flatten_cons, ih, List.replicate_succ, List.map_cons]; rfl
/-! ### counts of pairs -/
def cntP (n : Int) (P : List (Int × Int)) : List Int := (List.range n.toNat).map fun d : Nat => ((P.filter fun p => decide ((p.1 - p.2) % n = (d : Int))).length : Int)
theorem cntP_nil (n : Int) : (List.replicate n.toNat [V.int 0]).flatten = (cntP n []).map V.int := by
  unfold cntP
  generalize n.toNat = N
  induction N with
  | zero => rfl
  | succ N ih =>
    rw [List.range_succ, List.map_append, List.map_append, List.replicate_succ', List.flatten_append, ih]
    simp
theorem cntP_len {n : Int} {P : List (Int × Int)} : (cntP n P).length = n.toNat := by
  unfold cntP
  rw [List.length_map, List.length_range]
theorem cntP_get {n : Int} {P : List (Int × Int)} {d : Nat} (h : d < n.toNat) : (cntP n P)[d]? = some ((P.filter fun p => decide ((p.1 - p.2) % n = (d : Int))).length : Int) := by
  unfold cntP
  rw [List.getElem?_map, List.getElem?_range h]
  rfl
theorem cntP_set {n x y : Int} {P : List (Int × Int)} {d : Nat} (h : d < n.toNat) (hd : (x - y) % n = (d : Int)) :
    (cntP n P).set d (((P.filter fun p => decide ((p.1 - p.2) % n = (d : Int))).length : Int) + 1) = cntP n (P ++ [(x, y)]) := by
  refine List.ext_getElem? fun i => ?_
  by_cases hi : i < n.toNat
  · rw [cntP_get hi]
    by_cases e : i = d
    · subst e
      rw [List.getElem?_set_self (by rw [cntP_len]; exact hi), List.filter_append]
      simp [hd]
    · rw [List.getElem?_set_ne (by omega), cntP_get hi, List.filter_append]
      have : ¬ (d : Int) = (i : Int) := by omega
      simp [hd, this]
  · rw [List.getElem?_eq_none (by rw [List.length_set, cntP_len]; omega), List.getElem?_eq_none (by rw [cntP_len]; omega)]
def prod (xs ys : List Int) : List (Int × Int) := xs.flatMap fun x => ys.map fun y => (x, y)
theorem prod_take {xs ys : List Int} {i : Nat} {x : Int} (h : xs[i]? = some x) : prod (xs.take (i + 1)) ys = prod (xs.take i) ys ++ ys.map fun y => (x, y) := by
  unfold prod
  rw [List.take_succ, h, List.flatMap_append]
  simp

/-! ### ascending lists of hours as members of a lot -/
theorem asc_unique : ∀ {xs ys : List Int}, xs.Pairwise (· < ·) → ys.Pairwise (· < ·) → (∀ z, z ∈ xs ↔ z ∈ ys) → xs = ys
  | [], [], _, _, _ => rfl
  | [], y :: ys, _, _, h => by have := (h y).mpr List.mem_cons_self; cases this
  | x :: xs, [], _, _, h => by have := (h x).mp List.mem_cons_self; cases this
  | x :: xs, y :: ys, hx, hy, h => by
    have hx' := List.pairwise_cons.mp hx
    have hy' := List.pairwise_cons.mp hy
    have e : x = y := by
      have a : y ≤ x := by
        rcases List.mem_cons.mp ((h x).mp List.mem_cons_self) with z | z
        · omega
        · have := hy'.1 x z; omega
      have b : x ≤ y := by
        rcases List.mem_cons.mp ((h y).mpr List.mem_cons_self) with z | z
        · omega
        · have := hx'.1 y z; omega
      omega
    subst e
    rw [asc_unique hx'.2 hy'.2 fun z => ?_]
    constructor
    · intro hz
      rcases List.mem_cons.mp ((h z).mp (List.mem_cons_of_mem _ hz)) with q | q
      · have := hx'.1 z hz; omega
      · exact q
    · intro hz
      rcases List.mem_cons.mp ((h z).mpr (List.mem_cons_of_mem _ hz)) with q | q
      · have := hy'.1 z hz; omega
      · exact q
theorem asc_mod {n : Int} {xs : List Int} (h : Asc 0 n xs) : (xs.map fun x => x % n) = xs := by
  have e : ∀ x ∈ xs, (fun x => x % n) x = id x := fun x hx => Int.emod_eq_of_lt (h.2 x hx).1 (h.2 x hx).2
  rw [List.map_congr_left e, List.map_id]
theorem asc_resid {n : Int} {xs : List Int} (hn : 0 ≤ n) (h : Asc 0 n xs) : resid n (xs.map fun x => x % n) = xs := by
  rw [asc_mod h]
  unfold resid
  refine asc_unique (asc_range n.toNat).1 h.1 fun z => ?_
  unfold pick
  constructor
  · intro hz
    obtain ⟨i, hi, rfl⟩ := List.mem_map.mp hz
    exact of_decide_eq_true (List.mem_filter.mp hi).2
  · intro hz
    have b := h.2 z hz
    refine List.mem_map.mpr ⟨z.toNat, List.mem_filter.mpr ⟨List.mem_range.mpr (by omega), decide_eq_true ?_⟩, by omega⟩
    rw [show ((z.toNat : Nat) : Int) = z by omega]
    exact hz
theorem asc_scan {n : Int} : ∀ {xs : List Int} (seen : List Int), Asc 0 n xs → (∀ x ∈ xs, x ∉ seen) → scanR n seen xs = none
  | [], _, _, _ => rfl
  | x :: xs, seen, h, hs => by
    have b := h.2 x List.mem_cons_self
    have e : x % n = x := Int.emod_eq_of_lt b.1 b.2
    have hp := List.pairwise_cons.mp h.1
    unfold scanR
    rw [e, if_neg (hs x List.mem_cons_self)]
    refine asc_scan _ ⟨hp.2, fun y hy => h.2 y (List.mem_cons_of_mem _ hy)⟩ fun y hy hm => ?_
    rcases List.mem_append.mp hm with q | q
    · exact hs y (List.mem_cons_of_mem _ hy) q
    · have := hp.1 y hy
      have := List.mem_singleton.mp q
      omega
/-! ### counts two ways -/
def cnt (n : Int) (xs ys : List Int) : List Int := (List.range n.toNat).map fun d : Nat => ((ys.filter fun y => decide ((y + (d : Int)) % n ∈ xs)).length : Int)
theorem mod_turn {n x y d : Int} (hn : 0 < n) (hx : 0 ≤ x ∧ x < n) (hd : 0 ≤ d ∧ d < n) : (x - y) % n = d ↔ (y + d) % n = x := by
  constructor
  · intro h
    have e := Int.emod_add_mul_ediv (x - y) n
    have e2 : y + d = x + n * (-((x - y) / n)) := by rw [Int.mul_neg]; omega
    rw [e2, Int.add_mul_emod_self_left]
    exact Int.emod_eq_of_lt hx.1 hx.2
  · intro h
    have e := Int.emod_add_mul_ediv (y + d) n
    have e2 : x - y = d + n * (-((y + d) / n)) := by rw [Int.mul_neg]; omega
    rw [e2, Int.add_mul_emod_self_left]
    exact Int.emod_eq_of_lt hd.1 hd.2
theorem prod_cons {x : Int} {xs ys : List Int} : prod (x :: xs) ys = (ys.map fun y => (x, y)) ++ prod xs ys := by
  unfold prod
  rw [List.flatMap_cons]
theorem filt_or {ys : List Int} {p q : Int → Bool} (h : ∀ y ∈ ys, ¬ (p y = true ∧ q y = true)) : (ys.filter fun y => p y || q y).length = (ys.filter p).length + (ys.filter q).length := by
  induction ys with
  | nil => rfl
  | cons y ys ih =>
    have := ih fun z hz => h z (List.mem_cons_of_mem _ hz)
    have hy := h y List.mem_cons_self
    simp only [List.filter_cons]
    cases hp : p y <;> cases hq : q y <;> simp [hp, hq] at hy ⊢ <;> omega
theorem pairs_cnt {n : Int} {ys : List Int} (hn : 0 < n) {d : Int} (hd : 0 ≤ d ∧ d < n) : ∀ {xs : List Int}, Asc 0 n xs →
    ((prod xs ys).filter fun p => decide ((p.1 - p.2) % n = d)).length = (ys.filter fun y => decide ((y + d) % n ∈ xs)).length
  | [], _ => by
    have e : (ys.filter fun y => decide ((y + d) % n ∈ ([] : List Int))) = [] := List.filter_eq_nil_iff.mpr fun y _ => by simp
    rw [e]
    rfl
  | x :: xs, h => by
    have hp := List.pairwise_cons.mp h.1
    have hx := h.2 x List.mem_cons_self
    have ih := pairs_cnt (ys := ys) hn hd (xs := xs) ⟨hp.2, fun y hy => h.2 y (List.mem_cons_of_mem _ hy)⟩
    rw [prod_cons, List.filter_append, List.length_append, ih, List.filter_map, List.length_map]
    have e1 : (ys.filter ((fun p : Int × Int => decide ((p.1 - p.2) % n = d)) ∘ fun y => (x, y))) = ys.filter fun y => decide ((y + d) % n = x) :=
      List.filter_congr fun y _ => decide_eq_decide.mpr (mod_turn hn hx hd)
    have e2 : (ys.filter fun y => decide ((y + d) % n ∈ x :: xs)) = ys.filter fun y => decide ((y + d) % n = x) || decide ((y + d) % n ∈ xs) :=
      List.filter_congr fun y _ => by rw [← Bool.decide_or]; exact decide_eq_decide.mpr List.mem_cons
    rw [e1, e2, filt_or]
    rintro y _ ⟨h1, h2⟩
    have h1 := of_decide_eq_true h1
    have h2 := of_decide_eq_true h2
    rw [h1] at h2
    have := hp.1 x h2
    omega
theorem cnt_eq {n : Int} {xs ys : List Int} (hn : 0 < n) (h : Asc 0 n xs) : cntP n (prod xs ys) = cnt n xs ys := by
  unfold cntP cnt
  refine List.map_congr_left fun d hd => ?_
  have := List.mem_range.mp hd
  rw [pairs_cnt hn (by omega) h]
theorem swap_cons {x : Int} {xs : List Int} {r : Int × Int → Bool} : ∀ ys : List Int, ((prod ys (x :: xs)).filter r).length = (ys.filter fun y => r (y, x)).length + ((prod ys xs).filter r).length
  | [] => rfl
  | y :: ys => by
    rw [prod_cons, prod_cons, List.filter_append, List.filter_append, List.length_append, List.length_append, swap_cons ys, List.map_cons, List.filter_cons, List.filter_cons]
    cases r (y, x) <;> simp <;> omega
theorem swap_cnt {ys : List Int} {p : Int × Int → Bool} : ∀ xs : List Int, ((prod xs ys).filter p).length = ((prod ys xs).filter fun q => p (q.2, q.1)).length
  | [] => by
    have e : prod ys [] = [] := by
      unfold prod
      simp
    rw [e]
    rfl
  | x :: xs => by
    rw [prod_cons, List.filter_append, List.length_append, swap_cnt xs, swap_cons, List.filter_map, List.length_map]
    rfl
theorem cnt_back {n : Int} {xs ys : List Int} (hn : 0 < n) (h : Asc 0 n xs) : ((List.range n.toNat).map fun d : Nat => (cnt n xs ys).getD ((0 - (d : Int)) % n).toNat 0) = cntP n (prod ys xs) := by
  rw [← cnt_eq hn h]
  unfold cntP
  refine List.map_congr_left fun d hd => ?_
  have hd' := List.mem_range.mp hd
  have m0 : 0 ≤ (0 - (d : Int)) % n := Int.emod_nonneg _ (by omega)
  have m1 : (0 - (d : Int)) % n < n := Int.emod_lt_of_pos _ hn
  rw [List.getD_eq_getElem?_getD, List.getElem?_map, List.getElem?_range (by omega), Option.map_some, Option.getD_some, swap_cnt]
  have e : (fun q : Int × Int => decide (((q.2, q.1).1 - (q.2, q.1).2) % n = ((((0 - (d : Int)) % n).toNat : Nat) : Int))) = fun q : Int × Int => decide ((q.1 - q.2) % n = (d : Int)) := by
    funext q
    refine decide_eq_decide.mpr ?_
    rw [show ((((0 - (d : Int)) % n).toNat : Nat) : Int) = (0 - (d : Int)) % n by omega]
    show (q.2 - q.1) % n = (0 - (d : Int)) % n ↔ (q.1 - q.2) % n = (d : Int)
    have hd2 : (d : Int) % n = (d : Int) := Int.emod_eq_of_lt (by omega) (by omega)
    constructor
    · intro z
      have := Int.emod_emod_of_dvd (0 - (q.2 - q.1)) (Int.dvd_refl n)
      have z2 : (0 - (q.2 - q.1)) % n = (0 - (0 - (d : Int))) % n := by rw [Int.sub_emod, z, ← Int.sub_emod]
      rw [show q.1 - q.2 = 0 - (q.2 - q.1) by omega, z2, show (0 : Int) - (0 - (d : Int)) = (d : Int) by omega, hd2]
    · intro z
      have z2 : (0 - (q.1 - q.2)) % n = (0 - (d : Int)) % n := by rw [Int.sub_emod, z, ← hd2, ← Int.sub_emod, hd2]
      rw [show q.2 - q.1 = 0 - (q.1 - q.2) by omega, z2]
  rw [e]
theorem inV_ints {i : Int} {xs : List Int} : inV (V.int i) (xs.map V.int) = decide (i ∈ xs) := by
  unfold inV
  induction xs with
  | nil => rfl
  | cons x xs ih =>
    rw [List.map_cons, List.any_cons, ih]
    by_cases h : x = i
    · subst h
      simp [eqV]
    · have h' : ¬ i = x := fun z => h z.symm
      simp [eqV, h, h']

/-! ### operators of own classes -/
section
variable {X : Cx} {CX : CXT} {pins : List (Addr × Obj)} {σ : L2.St} {H : Hp} {s : Shared} {f C : Addr} {fd : FuncData} {ps : List Str} {n : Nat} {sp : Sp}
theorem run_own {E : XK} {Q : VK} {us : List Value} {vs : List V} (F : FnOk X.prog X.w X.K X.mg X.base CX n f fd ps sp) (hr : Room n X.A) (hb : Binds X.K fd ps []) (hx : PassesAt CX X σ E)
    (I : Inv X pins σ H s) (r : Vals vs us) (h : sp vs H Q E) : wpAny (model X.prog X.w) X.A (call (.ref f) us) (PySem.W.CmpBack (EP X pins σ Q)) X.xe s := by
  have hl : us.length = ps.length := by rw [← r.length]; exact F.len _ _ _ _ h
  have b := hb s us I.kIn (by rw [List.append_nil]; exact hl)
  rw [List.append_nil] at b
  refine wpAny_call (codeAny_mono (F.run X.A X.stack s H ⟨us, []⟩ us vs Q E hr I.env0 b r h) fun r s' hq => ?_)
  cases r with
  | error e => exact hx pins H s e s' I hq
  | ok fl =>
    cases fl with
    | ret u =>
      obtain ⟨v, H', I', rv, q⟩ := I.after hq
      exact SlX.cmpback rv ⟨v, H', I', rv, q⟩
    | next => exact False.elim hq
    | brk => exact False.elim hq
    | cont => exact False.elim hq
end
/-- what an own operator asks: x an object of the class at C -/
def rOwn1 (C : Addr) (sp : Sp) (E : L2.St → XK) (σ : L2.St) : V → Hp → VK → Prop := fun x H Q => ∃ a dx fs, x = .ref a ∧ H a = some (.ins C dx fs) ∧ sp [x] H Q (E σ)
/-- .. y an object of the same class -/
def rOwn2 (C : Addr) (sp : Sp) (E : L2.St → XK) (σ : L2.St) : R2 := fun x y H Q => ∃ a dx fs b dy gs, x = .ref a ∧ H a = some (.ins C dx fs) ∧ y = .ref b ∧ H b = some (.ins C dy gs) ∧ sp [x, y] H Q (E σ)
/-- .. y an int -/
def rOwnI (C : Addr) (sp : Sp) (E : L2.St → XK) (σ : L2.St) : R2 := fun x y H Q => ∃ a dx fs i, x = .ref a ∧ H a = some (.ins C dx fs) ∧ y = .int i ∧ sp [x, y] H Q (E σ)
def OpS (X : Cx) (f : Value → Value → Sem Value) (r : L2.St → R2) : Prop :=
  ∀ (pins : List (Addr × Obj)) (s : Shared) (σ : L2.St) (H : Hp) (x y : V) (v u : Value) (Q : VK), Inv X pins σ H s → RelV x v → RelV y u → r σ x y H Q → wpAny (model X.prog X.w) X.A (f v u) (EP X pins σ Q) X.xe s
def UnS (X : Cx) (f : Value → Sem Value) (r : L2.St → V → Hp → VK → Prop) : Prop :=
  ∀ (pins : List (Addr × Obj)) (s : Shared) (σ : L2.St) (H : Hp) (x : V) (v : Value) (Q : VK), Inv X pins σ H s → RelV x v → r σ x H Q → wpAny (model X.prog X.w) X.A (f v) (EP X pins σ Q) X.xe s
def tOpS (r : L2.St → R2) (ta tb : TE) : TE := fun σ H Q => ta σ H fun x H1 => tb σ H1 fun y H2 => r σ x y H2 Q
def tUnS (r : L2.St → V → Hp → VK → Prop) (ta : TE) : TE := fun σ H Q => ta σ H fun x H1 => r σ x H1 Q
section
variable {X : Cx} {CX : CXT} {f C : Addr} {fd : FuncData} {ps : List Str} {n : Nat} {sp : Sp} {E : L2.St → XK} {op : Operator} {a b : Expr} {ta tb : TE} {pos : Pos}
theorem pe_opS {r : L2.St → R2} (ho : OpS X (binaryOp op) r) (ha : PE X a ta) (hb : PE X b tb) : PE X (.BinOp a op b pos) (tOpS r ta tb) := by
  refine ⟨fun pins s σ H Q I h => ?_⟩
  exact wpAny_BinOp (binT ha hb I h fun v u s2 x y H2 I2 rx ry q => ho pins s2 σ H2 x y v u Q I2 rx ry q)
theorem pe_unS {op : UnaryOp} {r : L2.St → V → Hp → VK → Prop} (ho : UnS X (unaryOp op) r) (ha : PE X a ta) : PE X (.UnaryOp op a pos) (tUnS r ta) := by
  refine ⟨fun pins s σ H Q I h => ?_⟩
  exact PyProof.Rows.UnaryOp_ (thn (ha.run pins s σ H _ I h) fun v s1 ⟨x, H1, I1, r1, q1⟩ => ho pins s1 σ H1 x v Q I1 r1 q1)
/-- the facts of a class with operators -/
structure Ops (K : PySem.W.Frag) (C : Addr) : Prop where
  first : PySem.W.selfFirst K C = true
  sub : PySem.W.subIn K (.type "int") (.ref C) = some false
theorem un_negO (m : Meth X.K C "__neg__" f) (F : FnOk X.prog X.w X.K X.mg X.base CX n f fd ps sp) (hr : Room n X.A) (hb : Binds X.K fd ps []) (hx : ∀ σ, PassesAt CX X σ (E σ)) : UnS X (unaryOp .USub) (rOwn1 C sp E) := by
  intro pins s σ H x v Q I rx h
  obtain ⟨a, dx, fs, rfl, ha, h⟩ := h
  cases rx
  obtain ⟨mA, J, _⟩ := ins_get I.hok ha
  obtain ⟨od, J, _⟩ := J.look
  obtain ⟨m', hF⟩ := I.fr
  refine PySem.W.ksp_neg hF I.ok.mod.kin J m.at_ m.fn (wpAny_mono (run_own (vs := [V.ref a]) F hr hb (hx σ) I (.cons rfl .nil) h) (fun v s' hv => ?_) fun _ _ e => e)
  cases v <;> first | exact hv.elim | exact hv
theorem un_invO (m : Meth X.K C "__invert__" f) (F : FnOk X.prog X.w X.K X.mg X.base CX n f fd ps sp) (hr : Room n X.A) (hb : Binds X.K fd ps []) (hx : ∀ σ, PassesAt CX X σ (E σ)) : UnS X (unaryOp .Invert) (rOwn1 C sp E) := by
  intro pins s σ H x v Q I rx h
  obtain ⟨a, dx, fs, rfl, ha, h⟩ := h
  cases rx
  obtain ⟨mA, J, _⟩ := ins_get I.hok ha
  obtain ⟨od, J, _⟩ := J.look
  obtain ⟨m', hF⟩ := I.fr
  refine PySem.W.ksp_inv hF I.ok.mod.kin J m.at_ m.fn (wpAny_mono (run_own (vs := [V.ref a]) F hr hb (hx σ) I (.cons rfl .nil) h) (fun v s' hv => ?_) fun _ _ e => e)
  cases v <;> first | exact hv.elim | exact hv
theorem op_own2 (o : Ops X.K C) (m : Meth X.K C (PySem.dunder op.info.2) f) (F : FnOk X.prog X.w X.K X.mg X.base CX n f fd ps sp) (hr : Room n X.A) (hb : Binds X.K fd ps []) (hx : ∀ σ, PassesAt CX X σ (E σ)) : OpS X (binaryOp op) (rOwn2 C sp E) := by
  intro pins s σ H x y v u Q I rx ry h
  obtain ⟨a, dx, fs, b, dy, gs, rfl, ha, rfl, hb', h⟩ := h
  cases rx
  cases ry
  obtain ⟨mA, J, _⟩ := ins_get I.hok ha
  obtain ⟨od, J, _⟩ := J.look
  obtain ⟨mB, J', _⟩ := ins_get I.hok hb'
  obtain ⟨od', J', _⟩ := J'.look
  obtain ⟨m', hF⟩ := I.fr
  exact PySem.W.binop_K hF I.ok.mod.kin J J'.type o.first m.at_ m.fn (run_own (vs := [V.ref a, V.ref b]) F hr hb (hx σ) I (.cons rfl (.cons rfl .nil)) h)
theorem op_ownI {rc : Option Value} {fo ro : Option Value} (o : Ops X.K C) (m : Meth X.K C (PySem.dunder op.info.2) f) (hrc : PySem.W.findIn X.K (.ref C) (dunderR op.info.2) = some rc) (hp : rc = none ∨ ∃ g : Addr, rc = some (.ref g))
    (h1 : PySem.W.findIn X.K (.type "int") (PySem.dunder op.info.2) = some fo) (h2 : PySem.W.findIn X.K (.type "int") (dunderR op.info.2) = some ro)
    (F : FnOk X.prog X.w X.K X.mg X.base CX n f fd ps sp) (hr : Room n X.A) (hb : Binds X.K fd ps []) (hx : ∀ σ, PassesAt CX X σ (E σ)) : OpS X (binaryOp op) (rOwnI C sp E) := by
  intro pins s σ H x y v u Q I rx ry h
  obtain ⟨a, dx, fs, i, rfl, ha, rfl, h⟩ := h
  cases rx
  obtain ⟨t, rfl⟩ := (show ∃ t, u = Value.int i t from ry)
  obtain ⟨mA, J, _⟩ := ins_get I.hok ha
  obtain ⟨od, J, _⟩ := J.look
  obtain ⟨m', hF⟩ := I.fr
  exact PySem.W.ksp_binT hF I.ok.mod.kin J rfl o.first m.at_ m.fn hrc hp h1 h2 o.sub (run_own (vs := [V.ref a, V.int i]) F hr hb (hx σ) I (.cons rfl (.cons ⟨t, rfl⟩ .nil)) h)
end
section
variable {X : Cx} {CX : CXT} {pins : List (Addr × Obj)} {σ : L2.St} {H : Hp} {s : Shared} {f C : Addr} {fd : FuncData} {ps : List Str} {n : Nat} {sp : Sp}
/-- .. called from a place A below the running body -/
theorem run_ownA {A : Around} {E : XK} {Q : VK} {us : List Value} {vs : List V} (F : FnOk X.prog X.w X.K X.mg X.base CX n f fd ps sp) (hr : Room n A) (hf : A.frames = X.A.frames) (hb : Binds X.K fd ps []) (hx : PassesAt CX X σ E)
    (I : Inv X pins σ H s) (r : Vals vs us) (h : sp vs H Q E) : wpAny (model X.prog X.w) A (call (.ref f) us) (EP X pins σ Q) X.xe s := by
  have hl : us.length = ps.length := by rw [← r.length]; exact F.len _ _ _ _ h
  have b := hb s us I.kIn (by rw [List.append_nil]; exact hl)
  rw [List.append_nil] at b
  have e0 : Env0 X.prog X.w X.K X.mg X.base A X.stack s H := by
    have e := I.env0
    exact ⟨by rw [hf]; exact e.frames, e.mod, e.bs, e.bsz, e.funs, e.frf, e.hok, e.bare⟩
  refine wpAny_call (codeAny_mono (F.run A X.stack s H ⟨us, []⟩ us vs Q E hr e0 b r h) fun r s' hq => ?_)
  cases r with
  | error e => exact hx pins H s e s' I hq
  | ok fl =>
    cases fl with
    | ret u => exact I.after hq
    | next => exact False.elim hq
    | brk => exact False.elim hq
    | cont => exact False.elim hq
theorem ty_looks {x : V} {u t : Value} (I : Inv X pins σ H s) (rx : RelV x u) (ty : TyX X.K H x t) : PySem.W.Looks (model X.prog X.w) s.heap (typeOf u) t := by
  obtain ⟨P, kx, hp, _⟩ := kit_of I rx ty
  exact kx.ty _ _ I.kIn hp
end
/-- x an object of the class at C, y of any known type -/
def rOwnC (K : PySem.W.Frag) (C : Addr) (sp : Sp) (E : L2.St → XK) (σ : L2.St) : R2 := fun x y H Q => ∃ a dx fs tb, x = .ref a ∧ H a = some (.ins C dx fs) ∧ TyX K H y tb ∧ PySem.W.notFirst K C tb = true ∧ sp [x, y] H Q (E σ)
/-- not ==: the other answer -/
def rOwnN (K : PySem.W.Frag) (C : Addr) (sp : Sp) (E : L2.St → XK) (σ : L2.St) : R2 := fun x y H Q => ∃ a dx fs tb, x = .ref a ∧ H a = some (.ins C dx fs) ∧ TyX K H y tb ∧ PySem.W.notFirst K C tb = true ∧ sp [x, y] H (fun v H' => ∃ b, v = .bl b ∧ Q (.bl (!b)) H') (E σ)
/-- y in x, x an object of the class at C -/
def rOwnIn (C : Addr) (sp : Sp) (E : L2.St → XK) (σ : L2.St) : R2 := fun y x H Q => ∃ a dx fs, x = .ref a ∧ H a = some (.ins C dx fs) ∧ sp [x, y] H (fun v H' => ∃ b, v = .bl b ∧ Q (.bl b) H') (E σ)
section
variable {X : Cx} {CX : CXT} {f C : Addr} {fd : FuncData} {ps : List Str} {n : Nat} {sp : Sp} {E : L2.St → XK} {a b : Expr} {ta tb : TE} {pos : Pos}
theorem pe_cmpS {op : CmpOp} {r : L2.St → R2} (ho : OpS X (compareOp op) r) (ha : PE X a ta) (hb : PE X b tb) (hm : behindInMarks op b = false) : PE X (.Compare a [op] [b] pos) (tOpS r ta tb) := by
  refine ⟨fun pins s σ H Q I h => ?_⟩
  exact wpAny_Compare1 (binT ha hb I h fun v u s2 x y H2 I2 rx ry q => ho pins s2 σ H2 x y v u Q I2 rx ry q) hm
theorem pt_cmpS {op : CmpOp} {r : L2.St → R2} (ho : OpS X (compareOp op) r) (ha : PE X a ta) (hb : PE X b tb) (hm : behindInMarks op b = false) : PT X (.Compare a [op] [b] pos) (tTest (tOpS r ta tb)) := by
  refine ⟨fun pins s σ H Q I h => ?_⟩
  refine wpAny_isTrue_Compare1 (thn (ha.run pins s σ H _ I h) fun v s1 ⟨x, H1, I1, r1, q1⟩ => thn (hb.run pins s1 σ H1 _ I1 q1) fun u s2 ⟨y, H2, I2, r2, q2⟩ =>
    thn (ho pins s2 σ H2 x y v u _ I2 r1 r2 q2) fun c s3 ⟨z, H3, I3, r3, k, e, q3⟩ => ?_) hm
  subst e
  cases r3
  exact wpAny_truthy_bool ⟨H3, I3, q3⟩
theorem op_ownC {K : PySem.W.Frag} {op : CmpOp} (hop : ∀ v u, compareOp op v u = richCompare op v u) (m : Meth X.K C (cmpInfo op).2.1 f) (F : FnOk X.prog X.w X.K X.mg X.base CX n f fd ps sp) (hr : Room n X.A) (hb : Binds X.K fd ps []) (hx : ∀ σ, PassesAt CX X σ (E σ))
    (hk : X.K = K := by rfl) : OpS X (compareOp op) (rOwnC K C sp E) := by
  subst hk
  intro pins s σ H x y v u Q I rx ry h
  obtain ⟨a, dx, fs, tb, rfl, ha, ty, nf, h⟩ := h
  cases rx
  obtain ⟨mA, J, _⟩ := ins_get I.hok ha
  obtain ⟨od, J, _⟩ := J.look
  obtain ⟨m', hF⟩ := I.fr
  rw [hop]
  exact PySem.W.cmp_K hr.units0 hF I.ok.mod.kin J (ty_looks I ry ty) nf m.at_ m.fn (run_own (vs := [V.ref a, y]) F hr hb (hx σ) I (.cons rfl (.cons ry .nil)) h)
/-- len of an object with an own __len__ -/
def rOwnLen (C : Addr) (sp : Sp) (E : XK) : List V → Hp → VK → Prop := fun xs H Q => ∃ a dx fs, xs = [.ref a] ∧ H a = some (.ins C dx fs) ∧ sp [.ref a] H (fun v H' => ∃ i : Int, v = .int i ∧ (0 ≤ i ∧ i < 2 ^ 63) ∧ Q (.int i) H') E
theorem call_lenO {E : XK} (m : Meth X.K C "__len__" f) (F : FnOk X.prog X.w X.K X.mg X.base CX n f fd ps sp) (hr : Room (n + 1) X.A) (hb : Binds X.K fd ps []) (hx : ∀ σ, PassesAt CX X σ E) : CallR X (.builtin "len") (rOwnLen C sp E) := by
  intro pins s σ H xs us Q I r h
  obtain ⟨a, dx, fs, rfl, ha, h⟩ := h
  obtain ⟨u, rfl, rx⟩ := vals1 r
  cases rx
  obtain ⟨mA, J, _⟩ := ins_get I.hok ha
  obtain ⟨od, J, _⟩ := J.look
  obtain ⟨m', hF⟩ := I.fr
  refine PySem.W.len_K hF I.ok.mod.kin J m.at_ m.fn (wpAny_mono (run_ownA (vs := [V.ref a]) F hr.in1 rfl hb (hx σ) I (.cons rfl .nil) h) (fun v s' hv => ?_) fun _ _ e => e)
  obtain ⟨z, H', I', rv, i, rfl, hi, q⟩ := hv
  obtain ⟨t, rfl⟩ := (show ∃ t, v = Value.int i t from rv)
  exact ⟨hi, ⟨.int i, H', I'.tok _, ⟨_, rfl⟩, q⟩⟩
theorem op_ownIn (m : Meth X.K C "__contains__" f) (F : FnOk X.prog X.w X.K X.mg X.base CX n f fd ps sp) (hr : Room n X.A) (hb : Binds X.K fd ps []) (hx : ∀ σ, PassesAt CX X σ (E σ)) : OpS X (compareOp .In) (rOwnIn C sp E) := by
  intro pins s σ H y x u v Q I ry rx h
  obtain ⟨a, dx, fs, rfl, ha, h⟩ := h
  cases rx
  obtain ⟨mA, J, _⟩ := ins_get I.hok ha
  obtain ⟨od, J, _⟩ := J.look
  have hX := I.kIn
  have one := run_own (vs := [V.ref a, y]) F hr hb (hx σ) I (.cons rfl (.cons ry .nil)) h
  show wpAny _ _ (do return Value.bool (← contains (.ref a) u)) _ X.xe s
  refine wpAny_bind ?_
  unfold contains
  refine wpAny_holding ?_
  refine wpAny_bind (wpAny_bind (J.type.here ((PySem.W.looks_findIn hX m.at_).here ?_)))
  show wpAny _ _ (if (some (Value.ref f) == some Value.none) = true then _ else _) _ X.xe s
  rw [if_neg (by simp)]
  unfold callSpecialUnlessNone?
  refine wpAny_bind (wpAny_bind (wpAny_bind (J.type.here ((PySem.W.looks_findIn hX m.at_).here ?_))))
  refine wpAny_holding (wpAny_bind ((PySem.W.bind_fn hX _ (beq_iff_eq.mp m.fn)).here ?_))
  show wpAny _ _ (if (Value.ref f == Value.none) = true then _ else _) _ X.xe s
  rw [if_neg (by simp)]
  refine wpAny_bind (wpAny_mono one (fun z s' hz => ?_) fun _ _ e => e)
  have hz' : (EP X pins σ fun v H' => ∃ b, v = .bl b ∧ Q (.bl b) H') z s' := by
    cases z <;> first | exact hz.elim | exact hz
  obtain ⟨v, H', I', rv, b, rfl, q⟩ := hz'
  cases (show z = Value.bool b from rv)
  refine wpAny_pure ?_
  exact wpAny_truthy_bool (wpAny_pure ⟨.bl b, H', I', rfl, q⟩)
end
/-! ### x op= y for classes without the in-place method -/
section
variable {prog : Program} {w : World} {A : Around} {R : Value → Shared → Prop} {s : Shared} {K : PySem.W.Frag} {x C f : Addr} {ox : Obj} {od : Option Obj} {y : Value} {nm : String}
/-- the first class of a class at C is the class itself -/
theorem mro_first (hc : PySem.W.selfFirst K C = true) : ∃ (d : ClassData) (r : List Value), PySem.W.clsIn K C = some d ∧ d.mro = .ref C :: r := by
  obtain ⟨d, hd, e⟩ := PySem.W.any_some hc
  cases q : d.mro with
  | nil => rw [q] at e; cases e
  | cons u r =>
    rw [q] at e
    cases (beq_iff_eq.mp e)
    exact ⟨d, r, hd, q⟩
theorem bin1_own {Q : Option Value → Shared → Prop} (X : K.In s.heap) (I : PySem.W.InstAt s.heap x ox C od) (hy : PySem.W.Looks (model prog w) s.heap (typeOf y) (.ref C)) (hc : PySem.W.selfFirst K C = true)
    (hs : PySem.W.findIn K (.ref C) (PySem.dunder nm) = some (some (.ref f))) (hf : PySem.W.isFn K (.ref f) = true) (h : wpAny (model prog w) A (call (.ref f) [.ref x, y]) (PySem.W.CmpBack fun v => Q (some v)) R s) :
    wpAny (model prog w) A (binaryOp1 nm (.ref x) y) Q R s := by
  obtain ⟨d, r, hd, hm⟩ := mro_first hc
  have fl := PySem.W.fills_K (M := model prog w) X hd hm hs
  unfold binaryOp1
  refine wpAny_bind (I.type.here ?_)
  refine wpAny_bind (hy.here ?_)
  refine wpAny_bind (fl.here ?_)
  simp only [beq_self_eq_true, if_true]
  refine wpAny_bind (wpAny_pure ?_)
  simp only [Bool.and_false, Bool.false_and, Bool.false_eq_true, if_false]
  refine wpAny_bind (wpAny_pure ?_)
  simp only [Bool.false_eq_true, if_false]
  refine wpAny_bind (m := tryMethod (.ref x) _ y) ?_
  unfold tryMethod
  refine wpAny_bind ?_
  refine PySem.W.special_fn X I hs (beq_iff_eq.mp hf) (wpAny_mono h (fun v t hv => ?_) fun _ _ z => z)
  cases v <;> first | exact hv.elim | exact wpAny_pure (wpAny_pure hv)
theorem no_inplace {M : Model} {h : Heap} {add : Bool} (X : K.In h) {d : ClassData} (hd : PySem.W.clsIn K C = some d) (hm : d.mro = [.ref C, .type "object"]) (hc : PySem.W.findIn K (.ref C) (dunderI nm) = some none)
    (ho : PySem.W.findIn K (.type "object") (dunderI nm) = some none) : PySem.W.Looks M h (fillsInplaceSlot (.ref C) nm add) false := by
  intro A Q E s k q
  have Lm : PySem.W.Looks M h (mroOf (.ref C)) d.mro := (PySem.W.looks_clsIn X hd).andThen (f := fun d => pure d.mro) .now
  have X' : K.In s.heap := X.keeps k
  have L1 : PySem.W.Looks M s.heap (typeLookup (.ref C) (dunderI nm)) none := PySem.W.looks_findIn X' hc
  have L2 : PySem.W.Looks M s.heap (typeLookup (.type "object") (dunderI nm)) none := PySem.W.looks_findIn X' ho
  unfold fillsInplaceSlot
  refine wpAny_bind ((Lm.keeps k).here ?_)
  rw [hm, List.anyM_cons]
  refine wpAny_bind (wpAny_bind (L1.here (wpAny_pure ?_)))
  simp only [Bool.false_eq_true, if_false]
  rw [List.anyM_cons]
  refine wpAny_bind (wpAny_bind (L2.here (wpAny_pure ?_)))
  simp only [Bool.false_eq_true, if_false]
  exact wpAny_pure q
theorem inplace_by {op : Operator} {Q : Value → Shared → Prop} (I : PySem.W.InstAt s.heap x ox C od) (L : PySem.W.Looks (model prog w) s.heap (fillsInplaceSlot (.ref C) op.info.2 (op == .Add)) false)
    (h : wpAny (model prog w) A (binaryOp1 op.info.2 (.ref x) y) (fun r t => ∃ v, r = some v ∧ Q v t) R s) : wpAny (model prog w) A (inplaceOp op (.ref x) y) Q R s := by
  unfold inplaceOp
  refine wpAny_holding ?_
  refine wpAny_bind (I.type.here ?_)
  refine wpAny_bind (L.here ?_)
  simp only [Bool.false_eq_true, if_false]
  refine wpAny_bind (wpAny_mono h (fun r t hr => ?_) fun _ _ z => z)
  obtain ⟨v, rfl, q⟩ := hr
  exact wpAny_pure q
theorem bin1_int {i : Int} {t : Tok} {Q : Option Value → Shared → Prop} {rc fo ro : Option Value} (X : K.In s.heap) (I : PySem.W.InstAt s.heap x ox C od) (hc : PySem.W.selfFirst K C = true)
    (hs : PySem.W.findIn K (.ref C) (PySem.dunder nm) = some (some (.ref f))) (hf : PySem.W.isFn K (.ref f) = true) (hr : PySem.W.findIn K (.ref C) (dunderR nm) = some rc) (hp : rc = none ∨ ∃ g : Addr, rc = some (.ref g))
    (h1 : PySem.W.findIn K (.type "int") (PySem.dunder nm) = some fo) (h2 : PySem.W.findIn K (.type "int") (dunderR nm) = some ro) (hsub : PySem.W.subIn K (.type "int") (.ref C) = some false)
    (h : wpAny (model prog w) A (call (.ref f) [.ref x, .int i t]) (PySem.W.CmpBack fun v => Q (some v)) R s) : wpAny (model prog w) A (binaryOp1 nm (.ref x) (.int i t)) Q R s := by
  obtain ⟨d, r, hd, hm⟩ := mro_first hc
  have la : PySem.W.Looks (model prog w) s.heap (fillsNumberSlot (.ref C) nm) true := PySem.W.fills_K X hd hm hs
  have lb : PySem.W.Looks (model prog w) s.heap (fillsNumberSlot (.type "int") nm) ((fo.isSome && !isSeqSlot fo) || (ro.isSome && !isSeqSlot ro)) := PySem.W.ksp_fillsT X h1 h2
  have ls : PySem.W.Looks (model prog w) s.heap (isSubtype (.type "int") (.ref C)) false := PySem.W.looks_subIn X hsub
  have lp : PySem.W.Looks (model prog w) s.heap (numberSlotInPython (.ref C) nm) true := PySem.W.ksp_inPy X hs hr hp
  have lq : PySem.W.Looks (model prog w) s.heap (numberSlotInPython (.type "int") nm) false := PySem.W.Looks.of_pure rfl
  have lt : PySem.W.Looks (model prog w) s.heap (typeLookup (.type "int") (dunderR nm)) ro := PySem.W.looks_findIn X h2
  have ly : PySem.W.Looks (model prog w) s.heap (typeOf (.int i t)) (.type "int") := PySem.W.Looks.of_pure rfl
  generalize ((fo.isSome && !isSeqSlot fo) || (ro.isSome && !isSeqSlot ro)) = right at lb
  have ne : (Value.ref C == Value.type "int") = false := by simp
  have one : wpAny (model prog w) A (tryMethod (.ref x) (PySem.dunder nm) (.int i t)) (fun r s' => ∃ v, r = some v ∧ Q (some v) s') R s := by
    unfold tryMethod
    refine wpAny_bind (PySem.W.special_fn X I hs (beq_iff_eq.mp hf) (wpAny_mono h (fun v s' hv => ?_) fun _ _ z => z))
    cases v <;> first | exact hv.elim | exact wpAny_pure ⟨_, rfl, hv⟩
  unfold binaryOp1
  refine wpAny_bind (I.type.here ?_)
  refine wpAny_bind (ly.here ?_)
  refine wpAny_bind (la.here ?_)
  simp only [ne, Bool.false_eq_true, if_false]
  refine wpAny_bind (lb.here ?_)
  cases right with
  | false =>
    simp only [Bool.and_false, Bool.false_and, Bool.false_eq_true, if_false, if_true]
    refine wpAny_bind (wpAny_pure ?_)
    simp only [Bool.false_eq_true, if_false]
    refine wpAny_bind (wpAny_mono one (fun r s' hr' => ?_) fun _ _ z => z)
    obtain ⟨v, rfl, q⟩ := hr'
    exact wpAny_pure q
  | true =>
    simp only [Bool.and_true, Bool.not_false, if_true]
    refine wpAny_bind (ls.here ?_)
    simp only [Bool.false_eq_true, if_false]
    refine wpAny_bind (lp.here ?_)
    simp only [if_true]
    refine wpAny_bind (lq.here ?_)
    simp only [Bool.not_false, if_true]
    refine wpAny_bind (lt.here ?_)
    refine wpAny_bind (wpAny_mono one (fun r s' hr' => ?_) fun _ _ z => z)
    obtain ⟨v, rfl, q⟩ := hr'
    exact wpAny_pure q
end
/-- what a class without in-place methods has -/
structure NoIn (K : PySem.W.Frag) (C : Addr) (d : ClassData) : Prop where
  at_ : PySem.W.clsIn K C = some d
  mro : d.mro = [.ref C, .type "object"]
section
variable {X : Cx} {CX : CXT} {f C : Addr} {fd : FuncData} {ps : List Str} {n : Nat} {sp : Sp} {E : XK} {op : Operator} {d : ClassData}
theorem ip_own2 (o : Ops X.K C) (ni : NoIn X.K C d) (m : Meth X.K C (PySem.dunder op.info.2) f) (h1 : PySem.W.findIn X.K (.ref C) (dunderI op.info.2) = some none) (h2 : PySem.W.findIn X.K (.type "object") (dunderI op.info.2) = some none)
    (F : FnOk X.prog X.w X.K X.mg X.base CX n f fd ps sp) (hr : Room n X.A) (hb : Binds X.K fd ps []) (hx : ∀ σ, PassesAt CX X σ E) : OpR X (inplaceOp op) (rOwn2 C sp (fun _ => E) []) := by
  intro pins s σ H x y v u Q I rx ry h
  obtain ⟨a, dx, fs, b, dy, gs, rfl, ha, rfl, hb', h⟩ := h
  cases rx
  cases ry
  obtain ⟨mA, J, _⟩ := ins_get I.hok ha
  obtain ⟨od, J, _⟩ := J.look
  obtain ⟨mB, J', _⟩ := ins_get I.hok hb'
  obtain ⟨od', J', _⟩ := J'.look
  refine inplace_by J (no_inplace I.kIn ni.at_ ni.mro h1 h2) (bin1_own I.kIn J J'.type o.first m.at_ m.fn (wpAny_mono (run_own (vs := [V.ref a, V.ref b]) F hr hb (hx σ) I (.cons rfl (.cons rfl .nil)) h) (fun v s' hv => ?_) fun _ _ e => e))
  cases v <;> first | exact hv.elim | exact ⟨_, rfl, hv⟩
theorem ip_ownI {rc fo ro : Option Value} (o : Ops X.K C) (ni : NoIn X.K C d) (m : Meth X.K C (PySem.dunder op.info.2) f) (hi1 : PySem.W.findIn X.K (.ref C) (dunderI op.info.2) = some none) (hi2 : PySem.W.findIn X.K (.type "object") (dunderI op.info.2) = some none)
    (hrc : PySem.W.findIn X.K (.ref C) (dunderR op.info.2) = some rc) (hp : rc = none ∨ ∃ g : Addr, rc = some (.ref g)) (h1 : PySem.W.findIn X.K (.type "int") (PySem.dunder op.info.2) = some fo) (h2 : PySem.W.findIn X.K (.type "int") (dunderR op.info.2) = some ro)
    (F : FnOk X.prog X.w X.K X.mg X.base CX n f fd ps sp) (hr : Room n X.A) (hb : Binds X.K fd ps []) (hx : ∀ σ, PassesAt CX X σ E) : OpR X (inplaceOp op) (rOwnI C sp (fun _ => E) []) := by
  intro pins s σ H x y v u Q I rx ry h
  obtain ⟨a, dx, fs, i, rfl, ha, rfl, h⟩ := h
  cases rx
  obtain ⟨t, rfl⟩ := (show ∃ t, u = Value.int i t from ry)
  obtain ⟨mA, J, _⟩ := ins_get I.hok ha
  obtain ⟨od, J, _⟩ := J.look
  refine inplace_by J (no_inplace I.kIn ni.at_ ni.mro hi1 hi2) (bin1_int I.kIn J o.first m.at_ m.fn hrc hp h1 h2 o.sub (wpAny_mono (run_own (vs := [V.ref a, V.int i]) F hr hb (hx σ) I (.cons rfl (.cons ⟨t, rfl⟩ .nil)) h) (fun v s' hv => ?_) fun _ _ e => e))
  cases v <;> first | exact hv.elim | exact ⟨_, rfl, hv⟩
end
theorem pAt {X : Cx} {CX : CXT} {E : XK} (h : Passes CX X E) : ∀ σ : L2.St, PassesAt CX X σ E := fun σ pins H s e s' I c => h pins σ H s e s' I c
/-- what a binary operator with an int on the right asks of the class at C -/
structure IntOp (K : PySem.W.Frag) (C : Addr) (nm : String) : Prop where
  rc : ∃ rc, PySem.W.findIn K (.ref C) (dunderR nm) = some rc ∧ (rc = none ∨ ∃ g : Addr, rc = some (.ref g))
  lo : ∃ fo, PySem.W.findIn K (.type "int") (PySem.dunder nm) = some fo
  ro : ∃ ro, PySem.W.findIn K (.type "int") (dunderR nm) = some ro
section
variable {X : Cx} {CX : CXT} {f C : Addr} {fd : FuncData} {ps : List Str} {n : Nat} {sp : Sp} {op : Operator}
theorem op_ownJ {E : L2.St → XK} (o : Ops X.K C) (m : Meth X.K C (PySem.dunder op.info.2) f) (j : IntOp X.K C op.info.2) (F : FnOk X.prog X.w X.K X.mg X.base CX n f fd ps sp) (hr : Room n X.A) (hb : Binds X.K fd ps []) (hx : ∀ σ, PassesAt CX X σ (E σ)) :
    OpS X (binaryOp op) (rOwnI C sp E) := by
  obtain ⟨⟨rc, h1, h2⟩, ⟨fo, h3⟩, ⟨ro, h4⟩⟩ := j
  exact op_ownI o m h1 h2 h3 h4 F hr hb hx
theorem ip_ownK {E : XK} (o : Ops X.K C) (ni : ∃ d, NoIn X.K C d) (m : Meth X.K C (PySem.dunder op.info.2) f) (h : PySem.W.findIn X.K (.ref C) (dunderI op.info.2) = some none ∧ PySem.W.findIn X.K (.type "object") (dunderI op.info.2) = some none)
    (F : FnOk X.prog X.w X.K X.mg X.base CX n f fd ps sp) (hr : Room n X.A) (hb : Binds X.K fd ps []) (hx : ∀ σ, PassesAt CX X σ E) : OpR X (inplaceOp op) (rOwn2 C sp (fun _ => E) []) := by
  obtain ⟨d, ni⟩ := ni
  exact ip_own2 o ni m h.1 h.2 F hr hb hx
theorem ip_ownJ {E : XK} (o : Ops X.K C) (ni : ∃ d, NoIn X.K C d) (m : Meth X.K C (PySem.dunder op.info.2) f) (j : IntOp X.K C op.info.2) (h : PySem.W.findIn X.K (.ref C) (dunderI op.info.2) = some none ∧ PySem.W.findIn X.K (.type "object") (dunderI op.info.2) = some none)
    (F : FnOk X.prog X.w X.K X.mg X.base CX n f fd ps sp) (hr : Room n X.A) (hb : Binds X.K fd ps []) (hx : ∀ σ, PassesAt CX X σ E) : OpR X (inplaceOp op) (rOwnI C sp (fun _ => E) []) := by
  obtain ⟨d, ni⟩ := ni
  obtain ⟨⟨rc, h1, h2⟩, ⟨fo, h3⟩, ⟨ro, h4⟩⟩ := j
  exact ip_ownI o ni m h.1 h.2 h1 h2 h3 h4 F hr hb hx
end

/-! ### try with several except clauses, each with a name or without -/
def endsA (D : Ends) : Option Nat → Ends
  | none => D
  | some i => { nx := fun σ H => D.nx (σ.set i none) H, rt := D.rt, bk := fun σ H => D.bk (σ.set i none) H, ct := fun σ H => D.ct (σ.set i none) H }
def putA (σ : L2.St) (a : Addr) : Option Nat → L2.St
  | none => σ
  | some i => σ.set i (some (.ref a))
abbrev Clause := Value × Option Nat × (Addr → Value → Option Addr → TS)
/-- what the clauses wish of what the body raises, one behind another -/
def wMas (K : PySem.W.Frag) (Wo : WX) (D : Ends) : List Clause → WX
  | [] => Wo
  | q :: r => fun cls d σ H => ∃ b, PySem.W.exmOne K cls q.1 = some b ∧ (b = true → ∀ a, H a = none → q.2.2 a cls d (endsA D q.2.1) (putA σ a q.2.1) H) ∧ (b = false → wMas K Wo D r cls d σ H)
inductive Clauses (X : Cx) : List ExceptHandler → List Clause → Prop
  | nil : Clauses X [] []
  | bare {x : Str} {c : Value} {ts : Addr → Value → Option Addr → TS} {s0 : Stmt} {sr : List Stmt} {p p' : Pos} {hs : List ExceptHandler} {l : List Clause} (hc : Names X x c)
      (hb : ∀ (a : Addr) (oe : Obj) (cls : Value) (d : Option Addr) (pn : List (Addr × Obj)), Zc cls d oe → (∃ vs, oe.data = .fields vs) → PSs (X.suite a ((a, oe) :: pn)) (s0 :: sr) (ts a cls d)) (r : Clauses X hs l) :
      Clauses X (.ExceptHandler (some (.Name x p)) none (s0 :: sr) p' :: hs) ((c, none, ts) :: l)
  | named {x n : Str} {i : Nat} {c : Value} {ts : Addr → Value → Option Addr → TS} {s0 : Stmt} {sr : List Stmt} {p p' : Pos} {hs : List ExceptHandler} {l : List Clause} (hi : X.N[i]? = some n) (hl : X.env.kindOf n = some .local) (hc : Names X x c)
      (hb : ∀ (a : Addr) (oe : Obj) (cls : Value) (d : Option Addr) (pn : List (Addr × Obj)), Zc cls d oe → (∃ vs, oe.data = .fields vs) → PSs (X.suite a ((a, oe) :: pn)) (s0 :: sr) (ts a cls d)) (r : Clauses X hs l) :
      Clauses X (.ExceptHandler (some (.Name x p)) (some n) (s0 :: sr) p' :: hs) ((c, some i, ts) :: l)
section
open PySem.Spec PyProof.Rows
variable {X : Cx} {body : List Stmt} {h0 : ExceptHandler} {hs : List ExceptHandler} {l : List Clause} {pos : Pos} {tb : WX → TS} {Wo : WX}
theorem ps_try_mas (hst : X.stack = X.env :: X.outer) (hfm : X.env.frame = some X.env.locals) (hND : X.N.Nodup) (tk : Takes X Wo)
    (hbody : ∀ (W : WX) (pn : List (Addr × Obj)) (xe : Value → Shared → Prop), Takes (X.tr pn xe) W → PassesOwn (model X.prog X.w) X.A X.env xe → PSs (X.tr pn xe) body (tb W))
    (hcl : Clauses X (h0 :: hs) l) : PS X (.Try body (h0 :: hs) [] [] pos) (fun D σ H => tb (wMas X.K Wo D l) D σ H) := by
  refine ⟨fun pins s σ H D I hq => ?_⟩
  have okX := I.ok
  have frX : X.A.frames = some (X.env :: X.outer) := by rw [okX.frames, hst]
  let fly : Value → Shared → Prop := fun e s1 => wpAny (model X.prog X.w) X.A (noteFrame e X.env) (fun _ s2 => wpAny (model X.prog X.w) X.A (setFlight e none) (fun _ s3 => wpAny (model X.prog X.w) X.A (handleBy e X.env (h0 :: hs)) (SP X pins D) X.xe s3) X.xe s2) X.xe s1
  refine wpAny_Try_except (wpAny_mono ((hbody (wMas X.K Wo D l) (X.pn ++ pins) fly (fun u t flown => ?_) PassesOwn.looking).run [] s σ H D (I.toTry _) hq) (fun f t done => ?_) fun e t z => z)
  · obtain ⟨a, B, sI, pins', σ1, G, cls, d, rfl, J0, nb, up, sky, na, os, ag, wish⟩ := flown
    have J : Inv X pins σ1 G sI := J0.ofTry okX
    show wpAny (model X.prog X.w) X.A (noteFrame (.ref a) X.env) _ _ _
    refine Sky.land Zc.steady frX hfm (show Sky B (X.env :: X.outer) a (Zc cls d) X.env.locals t.heap by rw [← hst]; exact sky) fun g fl upg => ?_
    have Jg : Inv X pins σ1 G { t with heap := g } := J.landed nb fl.1 (up.trans upg) os ag
    obtain ⟨ob, vb, at_b, zc_b, da_b⟩ := fl.there
    have apart : ∀ {g' : Heap} {o : Obj} {us : Array Value}, g'.FunFrames B (X.env :: X.outer) → g'.get? a = some o → o.data = .fields us → a ∉ frs (X.env :: X.outer) := fun {g' o us} ff ea da hm => by
      obtain ⟨_, o2, e2, nf⟩ := ff.mem hm
      rw [ea] at e2
      cases e2
      exact nf _ da
    have out1 := apart fl.2.2.1 at_b da_b
    have out2 : a ≠ X.env.locals := fun z => out1 (List.mem_filterMap.mpr ⟨X.env, List.mem_cons_self, by rw [hfm, z]⟩)
    have out3 : a ∉ X.fs := fun hm => by
      obtain ⟨e, he, q⟩ := List.mem_filterMap.mp hm
      exact out1 (List.mem_filterMap.mpr ⟨e, List.mem_cons_of_mem _ he, q⟩)
    have Sb := Jg.suite at_b da_b na out2 out3
    have look : ∀ {x : Str} {c : Value} {p : Pos} {R : Value → Shared → Prop} {R' : Value → Shared → Prop}, Names X x c → R c { t with heap := g } → wpAny (model X.prog X.w) (X.A.mark (some (.ref a))) (eval (.Name x p) X.env) R R' { t with heap := g } := fun {x c p R R'} hc q => by
      obtain ⟨hg, hdb, hm | ⟨hm, hv, hn⟩⟩ := hc
      · exact ld_glob (X := X.suite a ((a, ob) :: (X.pn ++ pins))) Sb hg hm q hdb
      · exact ld_blt (X := X.suite a ((a, ob) :: (X.pn ++ pins))) Sb hg hm hv q hn hdb
    have kind : PySem.W.Looks (model X.prog X.w) g (typeOf (.ref a)) cls := fun A Q E s k q => wpAny_typeOf_ref (k _ _ at_b) (by rw [zc_b.1]; exact q)
    have each : ∀ {hs' : List ExceptHandler} {l' : List Clause}, Clauses X hs' l' → wMas X.K Wo D l' cls d σ1 G → wpAny (model X.prog X.w) X.A (handleBy (.ref a) X.env hs') (SP X pins D) X.xe { t with heap := g } := by
      intro hs' l' hk
      induction hk with
      | nil =>
        intro wi
        refine wpAny_handleBy_nil ?_
        obtain ⟨_, _, _, oe, ue, TB, oT, te, g1, g2, g3, g4, g5⟩ := id fl
        unfold PySem.passOn
        refine wpAny_bind (wpAny_field g1 g3 g4 ?_)
        rw [if_neg (show ¬ ((Value.ref TB == Value.none) = true) from by simp)]
        have away : wpAny (model X.prog X.w) X.A (setFlight (.ref a) X.env.frame) (fun _ s4 => wpAny (model X.prog X.w) X.A (throw (.ref a) : Sem Flow) (SP X pins D) X.xe s4) X.xe { t with heap := g } := by
          rw [hfm]
          refine HandSPX.setFlight_upZ fl fun k hk up4 => wpAny_throw (tk _ _ ?_)
          exact ⟨a, B, sI, pins, σ1, G, cls, d, rfl, J, nb, (up.trans upg).trans up4, .inr (.inr (by rw [hst]; exact hk)), na, os, ag, wi⟩
        first
          | exact wpAny_bind (wpAny_pure (wpAny_bind away))
          | exact wpAny_bind away
      | @bare x c ts s0 sr p p' hs2 l2 hc hb r ih =>
        intro wi
        obtain ⟨b, hb1, yes, no⟩ := wi
        refine wpAny_handleBy_cons (codeAny_handlers_test ?_) (by intro q; cases q)
        refine look hc ((PySem.W.exm_one (M := model X.prog X.w) Jg.kIn kind hb1).here ?_)
        cases b with
        | false => exact ih (no rfl)
        | true =>
          refine codeAny_handlers_suite (HandSPX.lands_againZ fl fun k fl4 up4 => ?_)
          have J4 : Inv X pins σ1 G { t with heap := k } := J.landed nb fl4.1 ((up.trans upg).trans up4) os ag
          obtain ⟨o4, v4, e4, z4, d4⟩ := fl4.there
          refine wpAny_mono ((hb a o4 cls d (X.pn ++ pins) z4 ⟨_, d4⟩).run [] _ _ G _ (J4.suite e4 d4 na out2 out3) (yes rfl a na)) (fun f s6 r6 => ?_) (fun _ _ z => False.elim z)
          cases f with
          | ret u => obtain ⟨v6, σ6, H6, S6, rv, q6⟩ := r6; exact ⟨_, _, _, S6.unsuite okX, rv, q6⟩
          | next => obtain ⟨σ6, H6, S6, q6⟩ := r6; exact ⟨_, _, S6.unsuite okX, q6⟩
          | brk => obtain ⟨σ6, H6, S6, q6⟩ := r6; exact ⟨_, _, S6.unsuite okX, q6⟩
          | cont => obtain ⟨σ6, H6, S6, q6⟩ := r6; exact ⟨_, _, S6.unsuite okX, q6⟩
      | @named x n i c ts s0 sr p p' hs2 l2 hi hl hc hb r ih =>
        intro wi
        obtain ⟨b, hb1, yes, no⟩ := wi
        refine wpAny_handleBy_cons (codeAny_handlers_test ?_) (by intro q; cases q)
        refine look hc ((PySem.W.exm_one (M := model X.prog X.w) Jg.kIn kind hb1).here ?_)
        cases b with
        | false => exact ih (no rfl)
        | true =>
          refine codeAny_handlers_suite_as (HandSPX.lands_againZ fl fun k fl4 up4 => ?_)
          have J4 : Inv X pins σ1 G { t with heap := k } := J.landed nb fl4.1 ((up.trans upg).trans up4) os ag
          obtain ⟨o4, v4, e4, z4, d4⟩ := fl4.there
          refine store_ok (X := X.suite a ((a, o4) :: (X.pn ++ pins))) (v := .ref a) (J4.suite e4 d4 na out2 out3) hND hi (.inl hl) rfl (fun s5 S5 => ?_) (.inr hl)
          refine wpAny_mono ((hb a o4 cls d (X.pn ++ pins) z4 ⟨_, d4⟩).run [] s5 _ G _ S5 (yes rfl a na)) (fun f s6 r6 => ?_) (fun _ _ z => False.elim z)
          have leave : ∀ {σ6 : L2.St} {H6 : Hp} {R : Shared → Prop}, Inv (X.suite a ((a, o4) :: (X.pn ++ pins))) [] σ6 H6 s6 → (∀ s7, Inv X pins (σ6.set i none) H6 s7 → R s7) → wpAny (model X.prog X.w) X.A (do bindName X.env n .none; unbindBehindTheSuite X.env n p') (fun _ s7 => R s7) X.xe s6 :=
            fun {σ6 H6 R} S6 hr => gone_ok (S6.unsuite okX) hND hi hl hr
          cases f with
          | ret u => obtain ⟨v6, σ6, H6, S6, rv, q6⟩ := r6; exact leave S6 fun s7 J7 => ⟨_, _, _, J7, rv, q6⟩
          | next => obtain ⟨σ6, H6, S6, q6⟩ := r6; exact leave S6 fun s7 J7 => ⟨_, _, J7, q6⟩
          | brk => obtain ⟨σ6, H6, S6, q6⟩ := r6; exact leave S6 fun s7 J7 => ⟨_, _, J7, q6⟩
          | cont => obtain ⟨σ6, H6, S6, q6⟩ := r6; exact leave S6 fun s7 J7 => ⟨_, _, J7, q6⟩
    exact each hcl wish
  · cases f with
    | ret u => obtain ⟨v, σ', G', J', rv, q⟩ := done; exact ⟨v, σ', G', J'.ofTry okX, rv, q⟩
    | next => obtain ⟨σ', G', J', q⟩ := done; exact wpAny_execs_nil ⟨σ', G', J'.ofTry okX, q⟩
    | brk => obtain ⟨σ', G', J', q⟩ := done; exact ⟨σ', G', J'.ofTry okX, q⟩
    | cont => obtain ⟨σ', G', J', q⟩ := done; exact ⟨σ', G', J'.ofTry okX, q⟩
end

/-! ### an int on the left, an own object on the right -/
section
open PySem.Spec PyProof.Rows
variable {prog : Program} {w : World} {A : Around} {E : Value → Shared → Prop} {s : Shared} {K : PySem.W.Frag}
theorem no_int {i : Int} {t : Tok} {a C dx : Addr} {f : Int → Int → Sem Fin} {nm : String} {Q : Fin → Shared → Prop} (hg : s.heap.get? a = some (PySem.W.instObj C dx)) (q : Q (.done (.ret .notImplemented)) s) :
    wpAny (model prog w) A (Builtin.Int.intBinary nm f false ⟨[.int i t, .ref a], []⟩) Q E s := by
  unfold Builtin.Int.intBinary
  refine wpAny_bind (wpAny_pure (wpAny_bind (wpAny_pure (wpAny_bind ?_))))
  unfold asInt?
  exact wpAny_bind (wpAny_load hg (wpAny_pure (wpAny_bind (wpAny_rule (wpAny_pure q)))))
theorem call_no {i : Int} {t : Tok} {a C dx : Addr} {f : Int → Int → Sem Fin} {nm id : String} {name : Str} {Q : Value → Shared → Prop} (slot : Slot "int" name id) (entry : entryFor table id = some (Builtin.Int.intBinary nm f false))
    (ha : argsOk id ⟨[.int i t, .ref a], []⟩) (hg : s.heap.get? a = some (PySem.W.instObj C dx)) (q : Q .notImplemented s) : wpAny (model prog w) A (call (.builtin id) [.int i t, .ref a]) Q E s :=
  wpAny_call_entry slot (typeIs_int s i t) entry (no_int hg ⟨_, rfl, q⟩) ha
open PySem.W in
/-- i op o: what int gives up, the class's reflected method tells -/
theorem binop_refl {op : Operator} {o C fr fl dx : Addr} {ox : Obj} {od : Option Obj} {i : Int} {t : Tok} {hb : Heap} {L : Addr} {m : Str → Option Value} {f : Int → Int → Sem Fin} {nb id : String} {Q : Value → Shared → Prop} (F : Fr hb L s.heap m) (Xb : K.In hb) (I : InstAt s.heap o ox C od)
    (hg : s.heap.get? o = some (instObj C dx)) (hc : selfFirst K C = true) (hl : findIn K (.ref C) (PySem.dunder op.info.2) = some (some (.ref fl))) (hs : findIn K (.ref C) (dunderR op.info.2) = some (some (.ref fr))) (hf : isFn K (.ref fr) = true)
    (hsub : subIn K (.ref C) (.type "int") = some false) (fills : fillsNumberSlot (.type "int") op.info.2 = pure true) (slot : Slot "int" (PySem.dunder op.info.2) id) (entry : entryFor table id = some (Builtin.Int.intBinary nb f false)) (ha : argsOk id ⟨[.int i t, .ref o], []⟩)
    (h : wpAny (model prog w) A (call (.ref fr) [.ref o, .int i t]) (PySem.W.CmpBack Q) E s) : wpAny (model prog w) A (binaryOp op (.int i t) (.ref o)) Q E s := by
  have X1 := Xb.keeps F.keep
  obtain ⟨kd, more, hkd, hkm⟩ := ksp_first hc
  rcases hi : op.info with ⟨sy, n2⟩
  rw [hi] at hs hl fills slot
  dsimp only at hs hl fills slot
  have two := ksp_try X1 I hs hf h
  have one : wpAny (model prog w) A (tryMethod (.int i t) (PySem.dunder n2) (.ref o)) (fun r s' => r = none ∧ s' = s) E s := wpAny_tryMethod_declines (typeIs_int s i t) slot (call_no slot entry ha hg ⟨rfl, rfl, rfl⟩)
  obtain ⟨h2, g2, d2, t2, o2⟩ := s
  have M1 : Looks (model prog w) h2 (typeOf (.ref o)) (.ref C) := I.type
  have M2 : Looks (model prog w) h2 (typeOf (.int i t)) (.type "int") := Looks.of_pure rfl
  have M3 : Looks (model prog w) h2 (fillsNumberSlot (.ref C) n2) true := fills_K X1 hkd hkm hl
  have M4 : Looks (model prog w) h2 (fillsNumberSlot (.type "int") n2) true := Looks.of_pure fills
  have M5 : Looks (model prog w) h2 (isSubtype (.ref C) (.type "int")) false := looks_subIn X1 hsub
  have M6 : Looks (model prog w) h2 (numberSlotInPython (.type "int") n2) false := Looks.of_pure rfl
  have unlike : (Value.type "int" == Value.ref C) = false := Bool.eq_false_iff.mpr fun z => by cases beq_iff_eq.mp z
  simp only [binaryOp, hi]
  refine wpAny_holding (wpAny_bind ?_)
  unfold binaryOp1
  refine wpAny_bind (M2.at (wpAny_bind (M1.at (wpAny_bind (M4.at ?_)))))
  simp only [unlike, Bool.false_eq_true, if_false]
  ksp_lk
  refine wpAny_mono one (fun r s' z => ?_) fun _ _ e => e
  obtain ⟨rfl, rfl⟩ := z
  ksp_lk
  refine wpAny_mono two (fun r s' z => ?_) fun _ _ e => e
  obtain ⟨v, rfl, q⟩ := z
  ksp_lk
  exact q
open PySem.Calls in
theorem abs_own {o C f : Addr} {ox : Obj} {od : Option Obj} {Q : Value → Shared → Prop} (X1 : K.In s.heap) (I : PySem.W.InstAt s.heap o ox C od) (hs : PySem.W.findIn K (.ref C) "__abs__" = some (some (.ref f))) (hf : PySem.W.isFn K (.ref f) = true)
    (h : wpAny (model prog w) A.in1 (call (.ref f) [.ref o]) Q E s) : wpAny (model prog w) A (call (.builtin "abs") [.ref o]) Q E s := by
  refine call_function_entry kind_abs plain_abs entry_abs (args_abs _) ?_
  unfold Builtin.«abs»
  refine wpAny_bind (m := PySem.oneArg "abs" _) (wpAny_pure ?_)
  exact wpAny_bind (m := callSpecial? (.ref o) (Str.ofString "__abs__")) (PySem.W.special_fn X1 I hs (beq_iff_eq.mp hf) (wpAny_mono h (fun r s' hr => wpAny_pure ⟨_, rfl, hr⟩) fun _ _ y => y))
end
/-- the int's side of an operator: the method that gives up -/
structure IntSide (op : Operator) : Prop where
  fills : fillsNumberSlot (.type "int") op.info.2 = pure true
  gives : ∃ (id nb : String) (f : Int → Int → Sem Fin), Slot "int" (PySem.dunder op.info.2) id ∧ entryFor table id = some (Builtin.Int.intBinary nb f false) ∧ ∀ a b, argsOk id ⟨[a, b], []⟩
theorem side_add : IntSide .Add := ⟨PySem.F.fills_int_add, "int.__add__", "__add__", _, PySem.F.slot_int_add, PySem.F.entry_int_add, PySem.F.args_int_add_2⟩
theorem side_sub : IntSide .Sub := ⟨PySem.F.fills_int_sub, "int.__sub__", "__sub__", _, PySem.F.slot_int_sub, PySem.F.entry_int_sub, PySem.F.args_int_sub_2⟩
theorem side_mul : IntSide .Mult := ⟨PySem.F.fills_int_mul, "int.__mul__", "__mul__", _, PySem.F.slot_int_mul, PySem.F.entry_int_mul, PySem.F.args_int_mul_2⟩
/-- an int, then an object of the class -/
def rOwnR (C : Addr) (sp : Sp) (E : L2.St → XK) (σ : L2.St) : R2 := fun x y H Q => ∃ a dx fs i, y = .ref a ∧ H a = some (.ins C dx fs) ∧ x = .int i ∧ sp [y, x] H Q (E σ)
def rAlt (r1 r2 : L2.St → R2) (σ : L2.St) : R2 := fun x y H Q => r1 σ x y H Q ∨ r2 σ x y H Q
def uOr (r1 r2 : L2.St → V → Hp → VK → Prop) (σ : L2.St) : V → Hp → VK → Prop := fun x H Q => r1 σ x H Q ∨ r2 σ x H Q
def rNegI (_ : L2.St) : V → Hp → VK → Prop := fun x H Q => ∃ i, x = .int i ∧ Q (.int (-i)) H
section
open PySem.Spec PyProof.Rows
variable {X : Cx} {CX : CXT} {f fl C : Addr} {fd : FuncData} {ps : List Str} {n : Nat} {sp : Sp} {op : Operator} {E : L2.St → XK}
theorem op_ownR (o : Ops X.K C) (li : PySem.W.subIn X.K (.ref C) (.type "int") = some false) (ml : Meth X.K C (PySem.dunder op.info.2) fl) (m : Meth X.K C (dunderR op.info.2) f) (si : IntSide op) (F : FnOk X.prog X.w X.K X.mg X.base CX n f fd ps sp) (hr : Room n X.A) (hb : Binds X.K fd ps []) (hx : ∀ σ, PassesAt CX X σ (E σ)) :
    OpS X (binaryOp op) (rOwnR C sp E) := by
  intro pins s σ H x y v u Q I rx ry h
  obtain ⟨a, dx, fs, i, rfl, ha, rfl, h⟩ := h
  cases ry
  obtain ⟨t, rfl⟩ := (show ∃ t, v = Value.int i t from rx)
  obtain ⟨mA, J0, _⟩ := ins_get I.hok ha
  have hg := J0.1
  obtain ⟨od, J, _⟩ := J0.look
  obtain ⟨m', hF⟩ := I.fr
  obtain ⟨id, nb, g, h1, h2, h3⟩ := si.gives
  exact binop_refl hF I.ok.mod.kin J hg o.first ml.at_ m.at_ m.fn li si.fills h1 h2 (h3 _ _) (run_own (vs := [V.ref a, V.int i]) F hr hb (hx σ) I (.cons rfl (.cons ⟨t, rfl⟩ .nil)) h)
theorem ops_or {g : Value → Value → Sem Value} {r1 r2 : L2.St → R2} (h1 : OpS X g r1) (h2 : OpS X g r2) : OpS X g (rAlt r1 r2) := fun pins s σ H x y v u Q I rx ry h => h.elim (h1 pins s σ H x y v u Q I rx ry) (h2 pins s σ H x y v u Q I rx ry)
theorem uns_or {g : Value → Sem Value} {r1 r2 : L2.St → V → Hp → VK → Prop} (h1 : UnS X g r1) (h2 : UnS X g r2) : UnS X g (uOr r1 r2) := fun pins s σ H x v Q I rx h => h.elim (h1 pins s σ H x v Q I rx) (h2 pins s σ H x v Q I rx)
theorem un_negI : UnS X (unaryOp .USub) rNegI := by
  intro pins s σ H x v Q I rx h
  obtain ⟨i, rfl, q⟩ := h
  obtain ⟨t, rfl⟩ := (show ∃ t, v = Value.int i t from rx)
  exact neg_int ⟨.int (-i), H, I.tok _, ⟨_, rfl⟩, q⟩
def rOwnAbs (C : Addr) (sp : Sp) (E : XK) : List V → Hp → VK → Prop := fun xs H Q => ∃ a dx fs, xs = [.ref a] ∧ H a = some (.ins C dx fs) ∧ sp [.ref a] H Q E
theorem call_absO {E : XK} (m : Meth X.K C "__abs__" f) (F : FnOk X.prog X.w X.K X.mg X.base CX n f fd ps sp) (hr : Room (n + 1) X.A) (hb : Binds X.K fd ps []) (hx : ∀ σ, PassesAt CX X σ E) : CallR X (.builtin "abs") (rOwnAbs C sp E) := by
  intro pins s σ H xs us Q I r h
  obtain ⟨a, dx, fs, rfl, ha, h⟩ := h
  obtain ⟨u, rfl, rx⟩ := vals1 r
  cases rx
  obtain ⟨mA, J, _⟩ := ins_get I.hok ha
  obtain ⟨od, J, _⟩ := J.look
  exact abs_own I.kIn J m.at_ m.fn (run_ownA (vs := [V.ref a]) F hr.in1 rfl hb (hx σ) I (.cons rfl .nil) h)
theorem callr_or {b : Value} {r1 r2 : List V → Hp → VK → Prop} (h1 : CallR X b r1) (h2 : CallR X b r2) : CallR X b (fun xs H Q => r1 xs H Q ∨ r2 xs H Q) := fun pins s σ H xs us Q I r h => h.elim (h1 pins s σ H xs us Q I r) (h2 pins s σ H xs us Q I r)
/-- a term that is never reached -/
theorem pe_never {e : Expr} : PE X e (fun _ _ _ => False) := ⟨fun _ _ _ _ _ _ h => h.elim⟩
end

/-! ### comparisons: an int on the left; != -/
section
open PySem.Spec PyProof.Rows
variable {prog : Program} {w : World} {A : Around} {E : Value → Shared → Prop} {s : Shared} {K : PySem.W.Frag} {o C f dx : Addr} {ox : Obj} {od : Option Obj} {i : Int} {t : Tok} {hb : Heap} {L : Addr} {m : Str → Option Value}
theorem try_no {g : Int → Int → Sem Fin} {nb id : String} {name : Str} (slot : Slot "int" name id) (entry : entryFor table id = some (Builtin.Int.intBinary nb g false)) (ha : argsOk id ⟨[.int i t, .ref o], []⟩) (hg : s.heap.get? o = some (PySem.W.instObj C dx)) :
    wpAny (model prog w) A (tryCompare (.int i t) name (.ref o)) (fun r s' => r = none ∧ s' = s) E s := wpAny_tryCompare_declines (typeIs_int s i t) slot (call_no slot entry ha hg ⟨rfl, rfl, rfl⟩)
open PySem.W in
theorem try_own {name : Str} {b : Value} {Q : Value → Shared → Prop} (X1 : K.In s.heap) (I : InstAt s.heap o ox C od) (hs : findIn K (.ref C) name = some (some (.ref f))) (hf : isFn K (.ref f) = true) (h : wpAny (model prog w) A (call (.ref f) [.ref o, b]) (PySem.W.CmpBack Q) E s) :
    wpAny (model prog w) A (tryCompare (.ref o) name b) (fun r s' => ∃ v, r = some v ∧ Q v s') E s := by
  unfold tryCompare
  refine wpAny_bind (ifBound_K X1 I hs hf (wpAny_mono h (fun v s' z => ?_) fun _ _ e => e))
  cases v <;> first | exact z.elim | exact wpAny_pure ⟨_, rfl, z⟩
open PySem.W in
theorem cmp_refl {op : CmpOp} {g : Int → Int → Sem Fin} {nb id : String} {Q : Value → Shared → Prop} (hu : A.units < cLine) (X1 : K.In s.heap) (I : InstAt s.heap o ox C od) (hg : s.heap.get? o = some (instObj C dx)) (hsub : subIn K (.ref C) (.type "int") = some false)
    (slot : Slot "int" (cmpInfo op).2.1 id) (entry : entryFor table id = some (Builtin.Int.intBinary nb g false)) (ha : argsOk id ⟨[.int i t, .ref o], []⟩) (hot : oneThing? op (.int i t) (.ref o) = none)
    (two : wpAny (model prog w) A (tryCompare (.ref o) (cmpInfo op).2.2 (.int i t)) (fun r s' => ∃ v, r = some v ∧ Q v s') E s) : wpAny (model prog w) A (richCompare op (.int i t) (.ref o)) Q E s := by
  have one := try_no (prog := prog) (w := w) (A := A) (E := E) slot entry ha hg
  unfold richCompare
  simp only [hot]
  refine wpAny_holding (wpAny_bind (wpAny_cRoomFor hu ?_))
  refine wpAny_bind ((Looks.of_pure (show typeOf (.int i t) = pure (.type "int") from rfl)).here (wpAny_bind (I.type.here ?_)))
  have unlike : (Value.type "int" != Value.ref C) = true := by simp
  simp only [unlike, if_true]
  refine wpAny_bind ((looks_subIn X1 hsub).here ?_)
  simp only [Bool.false_eq_true, if_false, Bool.not_false, if_true]
  refine wpAny_bind (wpAny_mono one (fun r s' z => ?_) fun _ _ e => e)
  obtain ⟨rfl, rfl⟩ := z
  refine wpAny_bind (wpAny_mono two (fun r s' z => ?_) fun _ _ e => e)
  obtain ⟨v, rfl, q⟩ := z
  exact wpAny_pure q
open PySem.W in
theorem ifBound_B {name : Str} {id : String} {args : List Value} {Q : Option Value → Shared → Prop} (X1 : K.In s.heap) (I : InstAt s.heap o ox C od) (hs : findIn K (.ref C) name = some (some (.builtin id))) (bd : ∀ self, bindSpecial (.builtin id) self = pure (.builtin id, [self]))
    (h : wpAny (model prog w) A (call (.builtin id) (.ref o :: args)) (fun v => Q (some v)) E s) : wpAny (model prog w) A (callSpecialIfBound? (.ref o) name args) Q E s := by
  simp only [callSpecialIfBound?, bindSpecialIfBound?]
  refine wpAny_holding (wpAny_bind (wpAny_bind (wpAny_bind (I.type.here ((looks_findIn X1 hs).here (wpAny_bind (wpAny_askSetting (wpAny_ite ?_))))))))
  have last : wpAny (model prog w) A (call (.builtin id) ([.ref o] ++ args) >>= fun v => pure (some v)) Q E s := wpAny_bind (wpAny_mono h (fun v s' z => wpAny_pure z) fun _ _ z => z)
  split
  · exact wpAny_bind ((Looks.of_pure (bd _)).here (wpAny_pure (by exact last)))
  · exact wpAny_tryCatch (wpAny_bind ((Looks.of_pure (bd _)).here (wpAny_pure (by exact last))))
open PySem.W in
theorem ne_own {b : Value} {Q : Value → Shared → Prop} (hu : A.units + 1 < cLine) (X1 : K.In s.heap) (I : InstAt s.heap o ox C od) (hm : mroIn K C (.type "object") = some true) (hn : findIn K (.ref C) "__ne__" = some (some (.builtin "object.__ne__"))) (hs : findIn K (.ref C) "__eq__" = some (some (.ref f))) (hf : isFn K (.ref f) = true)
    (h : wpAny (model prog w) A.in1 (call (.ref f) [.ref o, b]) (fun v s' => ∃ k, v = .bool k ∧ Q (.bool (!k)) s') E s) : wpAny (model prog w) A (tryCompare (.ref o) "__ne__" b) (fun r s' => ∃ v, r = some v ∧ Q v s') E s := by
  unfold tryCompare
  refine wpAny_bind (ifBound_B (id := "object.__ne__") X1 I hn (fun _ => rfl) ?_)
  refine wpAny_call (codeAny_call_builtin PySem.F.cmp_object.ne.plain PySem.F.cmpEntry_ne (check_slot (i := "object.__ne__") (owner := "object") (n := "__ne__") PySem.F.cmpKind_ne PySem.F.cmpSplit_ne (I.type.andThen (looks_mroIn X1 hm)) (PySem.F.cmpArgs_ne _ _) ?_))
  unfold Builtin.«object.__ne__»
  refine wpAny_bind (m := slotArgs "__ne__" 1 _) (wpAny_pure ?_)
  refine wpAny_bind (m := cRoomFor _ _) (wpAny_cRoomFor (show A.units + 1 < cLine from hu) ?_)
  refine wpAny_bind (m := callSpecialIfBound? (.ref o) (Str.ofString "__eq__") _) (ifBound_K X1 I hs hf (wpAny_mono h (fun r s' z => ?_) fun _ _ y => y))
  obtain ⟨k, rfl, q⟩ := z
  exact wpAny_bind (wpAny_truthy_bool (wpAny_pure (wpAny_pure ⟨_, rfl, q⟩)))
open PySem.W in
theorem ne_left {b tb : Value} {Q : Value → Shared → Prop} (hu : A.units + 1 < cLine) (X1 : K.In s.heap) (I : InstAt s.heap o ox C od) (lb : Looks (model prog w) s.heap (typeOf b) tb) (nf : notFirst K C tb = true)
    (one : wpAny (model prog w) A (tryCompare (.ref o) "__ne__" b) (fun r s' => ∃ v, r = some v ∧ Q v s') E s) : wpAny (model prog w) A (richCompare .NotEq (.ref o) b) Q E s := by
  unfold richCompare
  simp only [oneThing_ref]
  refine wpAny_holding (wpAny_bind (wpAny_cRoomFor (by omega) (wpAny_bind (I.type.here (wpAny_bind (lb.here ?_))))))
  split
  · rename_i q
    have e : subIn K tb (.ref C) = some false := by
      rcases Bool.or_eq_true_iff.mp nf with e | e
      · rw [beq_iff_eq.mp e] at q
        simp at q
      · exact beq_iff_eq.mp e
    refine wpAny_bind ((looks_subIn X1 e).here ?_)
    simp only [Bool.false_eq_true, if_false]
    refine wpAny_bind (wpAny_mono one (fun r s' z => ?_) fun _ _ e => e)
    obtain ⟨v, rfl, z⟩ := z
    exact wpAny_pure z
  · refine wpAny_bind (wpAny_pure ?_)
    simp only [Bool.false_eq_true, if_false]
    refine wpAny_bind (wpAny_mono one (fun r s' z => ?_) fun _ _ e => e)
    obtain ⟨v, rfl, z⟩ := z
    exact wpAny_pure z
open PySem.W in
theorem bool_own {Q : Value → Shared → Prop} (F : Fr hb L s.heap m) (Xb : K.In hb) (I : InstAt s.heap o ox C od) (hs : findIn K (.ref C) "__bool__" = some (some (.ref f))) (hf : isFn K (.ref f) = true)
    (h : wpAny (model prog w) A.in1.in1 (call (.ref f) [.ref o]) (fun v s' => ∃ k, v = .bool k ∧ Q (.bool k) s') E s) : wpAny (model prog w) A (call (.type "bool") [.ref o]) Q E s := by
  refine callType_codes (T := "bool") (Bi := Builtin.«object.__init__») (Q₁ := fun r s₁ => ∃ k, r = .bool k ∧ Q r s₁) PySem.F.called_bool (PySem.F.typeCall_bool_1 _) PySem.F.entry_object_init ?_ ?_
  · refine codeAny_of_tree ?_
    show wpAny _ A.in1.in1 (do checkBuiltinCall "bool.__new__" ⟨[.type "bool", .ref o], []⟩; again (.builtin "bool.__new__" ⟨[.type "bool", .ref o], []⟩)) _ _ s
    refine wpAny_bind (wpAny_of_eq (PySem.F.newCall_bool_1 _) (wpAny_pure ⟨plainId_quiet (by decide +kernel) _, codeAny_builtin PySem.F.entry_bool_new ?_⟩))
    rw [Around.under_plainId (by decide +kernel) _]
    unfold Builtin.«bool.__new__»
    refine wpAny_bind (wpAny_of_eq (show isType (.type "bool") = pure true from rfl) ?_)
    simp only [Bool.not_true, Bool.false_eq_true, if_false]
    refine wpAny_bind (wpAny_of_eq PySem.F.conv_sub_bool ?_)
    simp only [Bool.not_true, Bool.false_eq_true, if_false]
    refine wpAny_bind (wpAny_pure ?_)
    refine wpAny_bind (truthy_K F Xb I hs hf (wpAny_mono h (fun v s' z => ?_) fun _ _ y => y))
    obtain ⟨k, rfl, q⟩ := z
    exact wpAny_pure ⟨k, rfl, q⟩
  · rintro obj s₁ ⟨k, rfl, q⟩
    exact ⟨PySem.typeIs_bool _ _, PySem.F.args_object_init_2 _ _, object_init_meets PySem.F.called_bool.init.lookup PySem.F.called_bool.made (by decide) prog w A.in1 _ s₁ ⟨PySem.typeIs_bool _ _, rfl, q⟩⟩
end
structure CmpSide (op : CmpOp) : Prop where
  gives : ∃ (id nb : String) (f : Int → Int → Sem Fin), Slot "int" (cmpInfo op).2.1 id ∧ entryFor table id = some (Builtin.Int.intBinary nb f false) ∧ ∀ a b, argsOk id ⟨[a, b], []⟩
  one : ∀ (i : Int) (t : Tok) (a : Addr), oneThing? op (.int i t) (.ref a) = none
theorem side_lt : CmpSide .Lt := ⟨⟨"int.__lt__", "__lt__", _, PySem.F.slot_int_lt, PySem.F.entry_int_lt, PySem.F.args_int_lt_2⟩, fun _ _ _ => rfl⟩
theorem side_le : CmpSide .LtE := ⟨⟨"int.__le__", "__le__", _, PySem.F.slot_int_le, PySem.F.entry_int_le, PySem.F.args_int_le_2⟩, fun _ _ _ => rfl⟩
theorem side_gt : CmpSide .Gt := ⟨⟨"int.__gt__", "__gt__", _, PySem.F.slot_int_gt, PySem.F.entry_int_gt, PySem.F.args_int_gt_2⟩, fun _ _ _ => rfl⟩
theorem side_ge : CmpSide .GtE := ⟨⟨"int.__ge__", "__ge__", _, PySem.F.slot_int_ge, PySem.F.entry_int_ge, PySem.F.args_int_ge_2⟩, fun _ _ _ => rfl⟩
theorem side_eq : CmpSide .Eq := ⟨⟨"int.__eq__", "__eq__", _, PySem.F.slot_int_eq, PySem.F.entry_int_eq, PySem.F.args_int_eq_2⟩, fun _ _ _ => rfl⟩
theorem side_ne : CmpSide .NotEq := ⟨⟨"int.__ne__", "__ne__", _, PySem.F.slot_int_ne, PySem.F.entry_int_ne, PySem.F.args_int_ne_2⟩, fun _ _ _ => rfl⟩
/-- the opposite of what a promise of a truth value tells -/
def notK (Q : VK) : VK := fun v H => ∃ k : Bool, v = .bl k ∧ Q (.bl (!k)) H
def rOwnNe (K : PySem.W.Frag) (C : Addr) (sp : Sp) (E : L2.St → XK) (σ : L2.St) : R2 := fun x y H Q => ∃ a dx fs tb, x = .ref a ∧ H a = some (.ins C dx fs) ∧ TyX K H y tb ∧ PySem.W.notFirst K C tb = true ∧ sp [x, y] H (notK Q) (E σ)
def rOwnNeR (C : Addr) (sp : Sp) (E : L2.St → XK) (σ : L2.St) : R2 := fun x y H Q => ∃ a dx fs i, y = .ref a ∧ H a = some (.ins C dx fs) ∧ x = .int i ∧ sp [y, x] H (notK Q) (E σ)
/-- what != asks of a class with an own __eq__ and no __ne__ -/
structure NeOf (K : PySem.W.Frag) (C : Addr) : Prop where
  ob : PySem.W.mroIn K C (.type "object") = some true
  ne : PySem.W.findIn K (.ref C) "__ne__" = some (some (.builtin "object.__ne__"))
section
open PySem.Spec PyProof.Rows
variable {X : Cx} {CX : CXT} {f C : Addr} {fd : FuncData} {ps : List Str} {n : Nat} {sp : Sp} {op : CmpOp} {E : L2.St → XK}
theorem op_ownCR (hop : ∀ v u, compareOp op v u = richCompare op v u) (li : PySem.W.subIn X.K (.ref C) (.type "int") = some false) (m : Meth X.K C (cmpInfo op).2.2 f) (si : CmpSide op) (F : FnOk X.prog X.w X.K X.mg X.base CX n f fd ps sp) (hr : Room n X.A) (hb : Binds X.K fd ps []) (hx : ∀ σ, PassesAt CX X σ (E σ)) :
    OpS X (compareOp op) (rOwnR C sp E) := by
  intro pins s σ H x y v u Q I rx ry h
  obtain ⟨a, dx, fs, i, rfl, ha, rfl, h⟩ := h
  cases ry
  obtain ⟨t, rfl⟩ := (show ∃ t, v = Value.int i t from rx)
  obtain ⟨mA, J0, _⟩ := ins_get I.hok ha
  have hg := J0.1
  obtain ⟨od, J, _⟩ := J0.look
  obtain ⟨id, nb, g, h1, h2, h3⟩ := si.gives
  rw [hop]
  exact cmp_refl hr.units0 I.kIn J hg li h1 h2 (h3 _ _) (si.one _ _ _) (try_own I.kIn J m.at_ m.fn (run_own (vs := [V.ref a, V.int i]) F hr hb (hx σ) I (.cons rfl (.cons ⟨t, rfl⟩ .nil)) h))
theorem back_not {pins : List (Addr × Obj)} {σ : L2.St} {Q : VK} {v : Value} {s' : Shared} (h : EP X pins σ (notK Q) v s') : ∃ k, v = Value.bool k ∧ EP X pins σ Q (.bool (!k)) s' := by
  obtain ⟨x, H', I', rv, k, rfl, q⟩ := h
  exact ⟨k, rv, .bl (!k), H', I', rfl, q⟩
theorem op_neO {K : PySem.W.Frag} (d : NeOf X.K C) (m : Meth X.K C "__eq__" f) (F : FnOk X.prog X.w X.K X.mg X.base CX n f fd ps sp) (hr : Room (n + 1) X.A) (hb : Binds X.K fd ps []) (hx : ∀ σ, PassesAt CX X σ (E σ)) (hk : X.K = K := by rfl) : OpS X (compareOp .NotEq) (rOwnNe K C sp E) := by
  subst hk
  intro pins s σ H x y v u Q I rx ry h
  obtain ⟨a, dx, fs, tb, rfl, ha, ty, nf, h⟩ := h
  cases rx
  obtain ⟨mA, J, _⟩ := ins_get I.hok ha
  obtain ⟨od, J, _⟩ := J.look
  have hu : X.A.units + 1 < cLine := by have := hr.un; omega
  show wpAny _ _ (richCompare .NotEq (.ref a) u) _ _ _
  exact ne_left hu I.kIn J (ty_looks I ry ty) nf (ne_own hu I.kIn J d.ob d.ne m.at_ m.fn (wpAny_mono (run_ownA (vs := [V.ref a, y]) F hr.in1 rfl hb (hx σ) I (.cons rfl (.cons ry .nil)) h) (fun v s' z => back_not z) fun _ _ e => e))
theorem op_neR (d : NeOf X.K C) (li : PySem.W.subIn X.K (.ref C) (.type "int") = some false) (m : Meth X.K C "__eq__" f) (F : FnOk X.prog X.w X.K X.mg X.base CX n f fd ps sp) (hr : Room (n + 1) X.A) (hb : Binds X.K fd ps []) (hx : ∀ σ, PassesAt CX X σ (E σ)) : OpS X (compareOp .NotEq) (rOwnNeR C sp E) := by
  intro pins s σ H x y v u Q I rx ry h
  obtain ⟨a, dx, fs, i, rfl, ha, rfl, h⟩ := h
  cases ry
  obtain ⟨t, rfl⟩ := (show ∃ t, v = Value.int i t from rx)
  obtain ⟨mA, J0, _⟩ := ins_get I.hok ha
  have hg := J0.1
  obtain ⟨od, J, _⟩ := J0.look
  obtain ⟨id, nb, g, h1, h2, h3⟩ := side_ne.gives
  have hu : X.A.units + 1 < cLine := by have := hr.un; omega
  show wpAny _ _ (richCompare .NotEq (.int i t) (.ref a)) _ _ _
  exact cmp_refl hr.units0 I.kIn J hg li h1 h2 (h3 _ _) rfl (ne_own hu I.kIn J d.ob d.ne m.at_ m.fn (wpAny_mono (run_ownA (vs := [V.ref a, V.int i]) F hr.in1 rfl hb (hx σ) I (.cons rfl (.cons ⟨t, rfl⟩ .nil)) h) (fun v s' z => back_not z) fun _ _ e => e))
def rOwnBool (C : Addr) (sp : Sp) (E : XK) : List V → Hp → VK → Prop := fun xs H Q => ∃ a dx fs, xs = [.ref a] ∧ H a = some (.ins C dx fs) ∧ sp [.ref a] H (fun v H' => ∃ k : Bool, v = .bl k ∧ Q (.bl k) H') E
theorem call_boolO {E : XK} (m : Meth X.K C "__bool__" f) (F : FnOk X.prog X.w X.K X.mg X.base CX n f fd ps sp) (hr : Room (n + 2) X.A) (hb : Binds X.K fd ps []) (hx : ∀ σ, PassesAt CX X σ E) : CallR X (.type "bool") (rOwnBool C sp E) := by
  intro pins s σ H xs us Q I r h
  obtain ⟨a, dx, fs, rfl, ha, h⟩ := h
  obtain ⟨u, rfl, rx⟩ := vals1 r
  cases rx
  obtain ⟨mA, J, _⟩ := ins_get I.hok ha
  obtain ⟨od, J, _⟩ := J.look
  obtain ⟨m', hF⟩ := I.fr
  refine bool_own hF I.ok.mod.kin J m.at_ m.fn (wpAny_mono (run_ownA (vs := [V.ref a]) F hr.in1.in1 rfl hb (hx σ) I (.cons rfl .nil) h) (fun v s' hv => ?_) fun _ _ e => e)
  obtain ⟨z, H', I', rv, k, rfl, q⟩ := hv
  exact ⟨k, rv, .bl k, H', I', rfl, q⟩
end
/-- o.m(e, ..) within a try -/
def tMethS (C : Addr) (m : Str) (sp : Sp) (dvs : List V) (E : L2.St → XK) (ta : TE) (t : TA) : TE := fun σ H Q => ta σ H fun x H1 => ∃ a dx fs, x = .ref a ∧ H1 a = some (.ins C dx fs) ∧ fs.lookup m = none ∧
  t σ H1 fun vs H2 => sp (x :: (vs ++ dvs)) H2 Q (E σ)
section
open PySem.Spec PyProof.Rows
variable {X : Cx} {CX : CXT} {k : Nat} {f C : Addr} {fd : FuncData} {ps : List Str} {sp : Sp} {dvs : List V} {ds : List Value} {E : L2.St → XK} {m : Str} {pos apos : Pos} {e o : Expr} {es : List Expr} {ta : TE} {t : TA}
theorem pe_methS {pl : Sem Bool} (he : PE X o ta) (c : Cls X.K C) (hm : Meth X.K C m f) (F : FnOk X.prog X.w X.K X.mg X.base CX k f fd ps sp) (hr : Room k X.A) (hb : Binds X.K fd ps ds) (hd : Vals dvs ds) (hx : ∀ σ, PassesAt CX X σ (E σ)) (ha : PA X (e :: es) t)
    (hst : starEach (e :: es) X.env = (false, eval e X.env) :: starEach es X.env := by rfl) (hpl : (backTo pos (starEach es X.env)).any (·.1) = false := by rfl)
    (ht : eval (.Call (.Attribute o m apos) (e :: es) [] pos) X.env = (do
      let v0 ← eval o X.env
      standAt apos.atName
      let (g0, first0) ← holding [v0] (getMethod v0 m pl)
      callWith pos g0 first0 (backTo pos (starEach (e :: es) X.env)) (backToKw pos (keywordEach [] X.env))) := by rfl) :
    PE X (.Call (.Attribute o m apos) (e :: es) [] pos) (tMethS C m sp dvs E ta t) := by
  refine ⟨fun pins s σ H Q I h => PySem.W.methodCall_KW (pl := pl) (thn (he.run pins s σ H _ I h) fun u s1 hu => ?_) ht⟩
  obtain ⟨x, H1, I1, rx, a, dx, fs, ex, ea, l, q⟩ := hu
  subst ex
  obtain rfl : u = Value.ref a := rx
  refine getmeth_ok I1 ea c hm l ?_
  refine PySem.W.callWith_K (first := [.ref a]) (h₀ := X.base) I.ok.mod.kin hm.kp (thn (ha.run pos pins s1 σ H1 _ I1 q) fun us s2 hw => ?_) hst hpl
  obtain ⟨vs, H2, I2, r, q2⟩ := hw
  exact ⟨I2.kIn, run_fnSD (us := .ref a :: us) (vs := .ref a :: vs) F hr hb hd (hx σ) I2 (.cons rfl r) q2⟩
end

/-! ### class methods -/
section
open PySem.Spec PyProof.Rows
variable {X : Cx} {CX : CXT} {k i : Nat} {f C p0 g : Addr} {fd : FuncData} {ps : List Str} {sp : Sp} {dvs : List V} {ds : List Value} {E : XK} {x m : Str} {p pos apos : Pos} {e o : Expr} {es : List Expr} {t : TA} {ta : TE} {mc : Value}
def tMakeV (i : Nat) (C : Addr) (sp : Sp) (dvs : List V) (E : XK) (t : TA) : TE := fun σ H Q => σ[i]? = some (some (.ref C)) ∧ tMake C sp dvs E t σ H Q
/-- cls(e, ..) -/
theorem pe_makeV (M : Mk X.K C f) (F : FnOk X.prog X.w X.K X.mg X.base CX k f fd ps sp) (hr : Room (k + 1) X.A) (hN : X.N[i]? = some x) (hv : Vis X.env.scope x) (hb : Binds X.K fd ps ds) (hd : Vals dvs ds) (hx : Passes CX X E) (ha : PA X (e :: es) t)
    (h1 : (x == ("__debug__" : Str)) = false := by decide) (h2 : (x == ("__classdict__" : Str)) = false := by decide) (he : starEach (e :: es) X.env = (false, eval e X.env) :: starEach es X.env := by rfl) (hpl : (backTo pos (starEach es X.env)).any (·.1) = false := by rfl) :
    PE X (.Call (.Name x p) (e :: es) [] pos) (tMakeV i C sp dvs E t) := by
  refine ⟨fun pins s σ H Q I h => ?_⟩
  obtain ⟨hs, h⟩ := h
  refine wpAny_Call_Name_kw (thn ((pe_var (pos := p) (i := i) hN hv h1 h2).run pins s σ H (fun v H1 => v = .ref C ∧ H1 = H) I ⟨.ref C, hs, rfl, rfl⟩) fun u s1 z => ?_)
  obtain ⟨v, H1, I1, r1, ev, eH⟩ := z
  subst ev
  rw [eH] at I1
  cases r1
  refine PySem.W.callWith_K (h₀ := X.base) I.ok.mod.kin M.kp (thn (ha.run pos pins s1 σ H _ I1 h) fun us s2 z => ?_) he hpl
  obtain ⟨vs, H2, I2, r, q⟩ := z
  exact ⟨I2.kIn, run_make M F hr hb hd hx I2 r q⟩
def tCMethS (C : Addr) (sp : Sp) (E : L2.St → XK) (ta : TE) (t : TA) : TE := fun σ H Q => ta σ H fun x H1 => x = .ref C ∧ t σ H1 fun vs H2 => sp (.ref C :: vs) H2 Q (E σ)
/-- C.m(e, ..) within a try -/
theorem pe_cmethS {pl : Sem Bool} {ES : L2.St → XK} (ho : PE X o ta) (r : ClX.CRead X.K C mc) (c : ClX.CMet X.K C mc m p0 g) (F : FnR X.prog X.w X.K X.mg X.base CX k g sp) (hr : Room k X.A) (hx : ∀ σ, PassesAt CX X σ (ES σ)) (ha : PA X (e :: es) t)
    (hst : starEach (e :: es) X.env = (false, eval e X.env) :: starEach es X.env := by rfl) (hpl : (backTo pos (starEach es X.env)).any (·.1) = false := by rfl)
    (ht : eval (.Call (.Attribute o m apos) (e :: es) [] pos) X.env = (do
      let v0 ← eval o X.env
      standAt apos.atName
      let (g0, first0) ← holding [v0] (getMethod v0 m pl)
      callWith pos g0 first0 (backTo pos (starEach (e :: es) X.env)) (backToKw pos (keywordEach [] X.env))) := by rfl) :
    PE X (.Call (.Attribute o m apos) (e :: es) [] pos) (tCMethS C sp ES ta t) := by
  refine ⟨fun pins s σ H Q I h => PySem.W.methodCall_KW (pl := pl) (thn (ho.run pins s σ H _ I h) fun u s1 z => ?_) ht⟩
  obtain ⟨v, H1, I1, rx, ex, q⟩ := z
  subst ex
  obtain rfl : u = Value.ref C := rx
  refine ClX.getmethcm_ok I1 r c fun s2 I2 => ?_
  refine ClX.callwith_cm I2 (ClX.base_none I1 (Nat.le_refl _)) c.fi (thn (ha.run pos _ s2 σ H1 _ I2 q) fun us s3 z => ?_) hst hpl
  obtain ⟨vs, H2, I3, rv, q2⟩ := z
  refine ⟨⟨ClX.pin_at I3, I3.kIn⟩, ?_⟩
  have run : codeAny (model X.prog X.w) X.A (.call (.ref g) ⟨.ref C :: us, []⟩) (fun r s' => match r with | .ok (.ret v) => EP X _ σ Q v s' | .ok _ => False | .error e => X.xe e s') s3 :=
    codeAny_mono (F X.A X.stack s3 H2 (.ref C :: us) (.ref C :: vs) Q (ES σ) hr I3.env0 (.cons rfl rv) q2) fun r4 s4 hq => by
      cases r4 with
      | error e => exact hx σ _ H2 s3 e s4 I3 hq
      | ok fl => cases fl with
        | ret u => exact I3.after hq
        | next => exact hq.elim
        | brk => exact hq.elim
        | cont => exact hq.elim
  exact thn (wpAny_call (PySem.W.method_call (ClX.pin_at I3) run)) fun _ _ y => ClX.unpinE y
end

/-! ### hours with a property -/
def hrs (n : Int) (p : Int → Bool) : List Int := pick n.toNat (fun h => p (h : Int)) fun h => (h : Int)
theorem mem_hrs {n z : Int} {p : Int → Bool} : z ∈ hrs n p ↔ (0 ≤ z ∧ z < n) ∧ p z = true := by
  unfold hrs pick
  constructor
  · intro h
    obtain ⟨i, hi, rfl⟩ := List.mem_map.mp h
    have a := List.mem_filter.mp hi
    have b := List.mem_range.mp a.1
    exact ⟨⟨by omega, by omega⟩, a.2⟩
  · rintro ⟨⟨h0, h1⟩, h2⟩
    have e : ((z.toNat : Nat) : Int) = z := by omega
    exact List.mem_map.mpr ⟨z.toNat, List.mem_filter.mpr ⟨List.mem_range.mpr (by omega), by rw [e]; exact h2⟩, e⟩
theorem asc_hrs {n : Int} {p : Int → Bool} (hn : 0 ≤ n) : Asc 0 n (hrs n p) := by
  have h := asc_range (f := fun h => p (h : Int)) n.toNat
  rw [show ((n.toNat : Nat) : Int) = n by omega] at h
  exact h
theorem hrs_eq {n : Int} {p : Int → Bool} {xs : List Int} (hn : 0 ≤ n) (h : Asc 0 n xs) (hp : ∀ z, 0 ≤ z → z < n → (z ∈ xs ↔ p z = true)) : hrs n p = xs := by
  refine asc_unique (asc_hrs hn).1 h.1 fun z => ?_
  rw [mem_hrs]
  constructor
  · rintro ⟨⟨h0, h1⟩, h2⟩
    exact (hp z h0 h1).mpr h2
  · intro hz
    have b := h.2 z hz
    exact ⟨b, (hp z b.1 b.2).mp hz⟩
theorem hrs_congr {n : Int} {p q : Int → Bool} (h : ∀ z, 0 ≤ z → z < n → p z = q z) : hrs n p = hrs n q := by
  unfold hrs
  exact pick_congr fun i hi => h (i : Int) (by omega) (by omega)
theorem resid_hrs {n : Int} {S : List Int} {p : Int → Bool} (hp : ∀ z, 0 ≤ z → z < n → (z ∈ S ↔ p z = true)) : resid n S = hrs n p := by
  unfold resid hrs
  refine pick_congr fun i hi => ?_
  have := hp (i : Int) (by omega) (by omega)
  rw [Bool.eq_iff_iff, decide_eq_true_iff]
  exact this
theorem scan_nodup {n : Int} : ∀ {ms seen : List Int}, (ms.map (· % n)).Nodup → (∀ x ∈ ms, x % n ∉ seen) → scanR n seen ms = none
  | [], _, _, _ => rfl
  | x :: xs, seen, hd, hs => by
    have h := List.nodup_cons.mp hd
    unfold scanR
    rw [if_neg (hs x List.mem_cons_self)]
    refine scan_nodup h.2 fun y hy hm => ?_
    rcases List.mem_append.mp hm with q | q
    · exact hs y (List.mem_cons_of_mem _ hy) q
    · exact h.1 (List.mem_map.mpr ⟨y, hy, List.mem_singleton.mp q⟩)
theorem nodup_map {xs : List Int} {g : Int → Int} (hd : xs.Nodup) (hi : ∀ x ∈ xs, ∀ y ∈ xs, g x = g y → x = y) : (xs.map g).Nodup := by
  induction xs with
  | nil => exact .nil
  | cons x xs ih =>
    have h := List.nodup_cons.mp hd
    refine List.nodup_cons.mpr ⟨fun hm => ?_, ih h.2 fun a ha b hb => hi a (List.mem_cons_of_mem _ ha) b (List.mem_cons_of_mem _ hb)⟩
    obtain ⟨y, hy, e⟩ := List.mem_map.mp hm
    have := hi y (List.mem_cons_of_mem _ hy) x List.mem_cons_self e
    rw [this] at hy
    exact h.1 hy
theorem Asc.nodup {lo hi : Int} {xs : List Int} (h : Asc lo hi xs) : xs.Nodup := h.1.imp fun {a b} hab => by omega
theorem small_eq {n a b : Int} (hn : 0 < n) (h1 : a - b < n) (h2 : b - a < n) (h : a % n = b % n) : a = b := by
  have ea := Int.mul_ediv_add_emod a n
  have eb := Int.mul_ediv_add_emod b n
  have e : a - b = n * (a / n - b / n) := by rw [Int.mul_sub]; omega
  generalize a / n - b / n = q at e
  rcases Int.lt_trichotomy q 0 with hq | hq | hq
  · have := Int.mul_le_mul_of_nonneg_left (show q ≤ -1 by omega) (show 0 ≤ n by omega)
    omega
  · rw [hq] at e
    omega
  · have := Int.mul_le_mul_of_nonneg_left (show 1 ≤ q by omega) (show 0 ≤ n by omega)
    omega
/-- residues of moved hours -/
theorem mem_plus {n k z : Int} {xs : List Int} (hn : 0 < n) (h : Asc 0 n xs) (h0 : 0 ≤ z) (h1 : z < n) : z ∈ (xs.map fun x => x + k).map (· % n) ↔ (z - k) % n ∈ xs := by
  constructor
  · intro hz
    obtain ⟨y, hy, rfl⟩ := List.mem_map.mp hz
    obtain ⟨x, hx, rfl⟩ := List.mem_map.mp hy
    have b := h.2 x hx
    rw [Int.sub_emod, Int.emod_emod, ← Int.sub_emod, show x + k - k = x by omega, Int.emod_eq_of_lt b.1 b.2]
    exact hx
  · intro hz
    refine List.mem_map.mpr ⟨_, List.mem_map.mpr ⟨_, hz, rfl⟩, ?_⟩
    show ((z - k) % n + k) % n = z
    rw [Int.add_emod, Int.emod_emod, ← Int.add_emod, show z - k + k = z by omega, Int.emod_eq_of_lt h0 h1]
theorem nodup_plus {n k : Int} {xs : List Int} (hn : 0 < n) (h : Asc 0 n xs) : ((xs.map fun x => x + k).map (· % n)).Nodup := by
  rw [List.map_map]
  refine nodup_map h.nodup fun x hx y hy e => ?_
  have a := h.2 x hx
  have b := h.2 y hy
  have := small_eq hn (a := x + k) (b := y + k) (by omega) (by omega) e
  omega
theorem mem_minus {n z : Int} {xs : List Int} (hn : 0 < n) (h : Asc 0 n xs) (h0 : 0 ≤ z) (h1 : z < n) : z ∈ (xs.map fun x => -x).map (· % n) ↔ (0 - z) % n ∈ xs := by
  constructor
  · intro hz
    obtain ⟨y, hy, rfl⟩ := List.mem_map.mp hz
    obtain ⟨x, hx, rfl⟩ := List.mem_map.mp hy
    have b := h.2 x hx
    rw [Int.sub_emod, Int.emod_emod, ← Int.sub_emod, show 0 - -x = x by omega, Int.emod_eq_of_lt b.1 b.2]
    exact hx
  · intro hz
    refine List.mem_map.mpr ⟨_, List.mem_map.mpr ⟨_, hz, rfl⟩, ?_⟩
    show (-((0 - z) % n)) % n = z
    rw [show -((0 - z) % n) = 0 - (0 - z) % n by omega, Int.sub_emod, Int.emod_emod, ← Int.sub_emod, show 0 - (0 - z) = z by omega, Int.emod_eq_of_lt h0 h1]
theorem nodup_minus {n : Int} {xs : List Int} (hn : 0 < n) (h : Asc 0 n xs) : ((xs.map fun x => -x).map (· % n)).Nodup := by
  rw [List.map_map]
  refine nodup_map h.nodup fun x hx y hy e => ?_
  have a := h.2 x hx
  have b := h.2 y hy
  have := small_eq hn (a := -x) (b := -y) (by omega) (by omega) e
  omega
theorem mem_self {n z : Int} {xs : List Int} (h : Asc 0 n xs) : z ∈ xs.map (· % n) ↔ z ∈ xs := by
  have := asc_mod h
  rw [this]
/-- ints told apart -/
theorem eqv_ints : ∀ xs ys : List Int, PyData.eqvAll (xs.map PyData.int) (ys.map PyData.int) = decide (xs = ys)
  | [], [] => by simp [PyData.eqvAll]
  | [], y :: ys => by simp [PyData.eqvAll]
  | x :: xs, [] => by simp [PyData.eqvAll]
  | x :: xs, y :: ys => by
    rw [List.map_cons, List.map_cons, PyData.eqvAll, eqv_ints xs ys, PyData.eqv]
    by_cases e : x = y
    · subst e; simp
    · simp [e]
theorem eqv_intsL {xs ys : List Int} : PyData.eqv (.list (xs.map PyData.int)) (.list (ys.map PyData.int)) = decide (xs = ys) := by
  rw [PyData.eqv, eqv_ints]
theorem lay_ints : ∀ xs : List Int, PyData.canLayAll0 (xs.map PyData.int) = true
  | [] => by simp [PyData.canLayAll0]
  | x :: xs => by
    have := lay_ints xs
    simp [PyData.canLayAll0, PyData.canLay0, this]
theorem depth_ints : ∀ xs : List Int, PyData.depthAll (xs.map PyData.int) ≤ 1
  | [] => by simp [PyData.depthAll]
  | x :: xs => by
    have := depth_ints xs
    simp [PyData.depthAll, PyData.depth]
    omega
theorem shaped_ints (xs : List Int) : SeqAt.shaped (.list (xs.map PyData.int)) = true := by
  have h1 := lay_ints xs
  have h2 := depth_ints xs
  unfold SeqAt.shaped
  simp [PyData.canLay0, PyData.depth, h1]
  omega
/-- v is a lot: its hours and members -/
structure LotIs (C : Addr) (v : V) (H : Hp) (n : Int) (xs : List Int) : Prop where
  at_ : LotAt C H v n xs
  hn : 1 ≤ n ∧ n ≤ 360
  asc : Asc 0 n xs
theorem LotIs.ex {C : Addr} {v : V} {H H' : Hp} {n : Int} {xs : List Int} (e : Ex H H') (h : LotIs C v H n xs) : LotIs C v H' n xs := ⟨h.at_.ex e, h.hn, h.asc⟩
theorem LotIs.len {C : Addr} {v : V} {H : Hp} {n : Int} {xs : List Int} (h : LotIs C v H n xs) : xs.length ≤ 360 := by
  have := h.asc.len
  have := h.hn
  omega

/-! ### turns: their step, the least one -/
def turnL (n k : Int) (xs : List Int) : List Int := hrs n fun z => decide ((z - k) % n ∈ xs)
theorem mem_turnL {n k z : Int} {xs : List Int} : z ∈ turnL n k xs ↔ (0 ≤ z ∧ z < n) ∧ (z - k) % n ∈ xs := by
  unfold turnL
  rw [mem_hrs, decide_eq_true_iff]
theorem turnL_cong {n k j : Int} {xs : List Int} (h : k % n = j % n) : turnL n k xs = turnL n j xs := by
  unfold turnL
  refine hrs_congr fun z _ _ => ?_
  rw [Int.sub_emod z k, h, ← Int.sub_emod]
theorem turnL_turnL {n k j : Int} {xs : List Int} (hn : 0 < n) : turnL n k (turnL n j xs) = turnL n (j + k) xs := by
  unfold turnL
  refine hrs_congr fun z _ _ => ?_
  have m0 := Int.emod_nonneg (z - k) (show n ≠ 0 by omega)
  have m1 := Int.emod_lt_of_pos (z - k) hn
  have e : ((z - k) % n - j) % n = (z - (j + k)) % n := by rw [Int.sub_emod, Int.emod_emod, ← Int.sub_emod, show z - k - j = z - (j + k) by omega]
  rw [decide_eq_decide, mem_hrs, decide_eq_true_iff, e]
  exact ⟨fun q => q.2, fun q => ⟨⟨m0, m1⟩, q⟩⟩
theorem turnL_zero {n : Int} {xs : List Int} (hn : 0 < n) (h : Asc 0 n xs) : turnL n 0 xs = xs := by
  unfold turnL
  refine hrs_eq (by omega) h fun z h0 h1 => ?_
  rw [decide_eq_true_iff, show z - 0 = z by omega, Int.emod_eq_of_lt h0 h1]
theorem asc_turnL {n k : Int} {xs : List Int} (hn : 0 < n) : Asc 0 n (turnL n k xs) := asc_hrs (by omega)
/-- k is a number by which the hours can be turned without a change -/
def Per (n : Int) (xs : List Int) (k : Int) : Prop := turnL n k xs = xs
theorem per_n {n : Int} {xs : List Int} (hn : 0 < n) (h : Asc 0 n xs) : Per n xs n := by
  unfold Per
  rw [turnL_cong (j := 0) (by simp), turnL_zero hn h]
theorem per_sub {n j k : Int} {xs : List Int} (hn : 0 < n) (h : Asc 0 n xs) (h1 : Per n xs j) (h2 : Per n xs k) : Per n xs (j - k) := by
  unfold Per at *
  have e : turnL n (k + (j - k)) xs = turnL n (j - k) (turnL n k xs) := (turnL_turnL hn).symm
  rw [h2, show k + (j - k) = j by omega, h1] at e
  exact e.symm
theorem per_mul {n k : Int} {xs : List Int} (hn : 0 < n) (h : Asc 0 n xs) (h2 : Per n xs k) : ∀ m : Nat, Per n xs (n - k * (m : Int))
  | 0 => by simpa using per_n hn h
  | m + 1 => by
    have := per_sub hn h (per_mul hn h h2 m) h2
    have e : n - k * ((m + 1 : Nat) : Int) = n - k * (m : Int) - k := by
      rw [show ((m + 1 : Nat) : Int) = (m : Int) + 1 by omega, Int.mul_add]
      omega
    rw [e]
    exact this
/-- p is the least such number from 1 on -/
structure IsStep (n : Int) (xs : List Int) (p : Int) : Prop where
  lo : 1 ≤ p
  hi : p ≤ n
  per : Per n xs p
  least : ∀ k, 1 ≤ k → k < p → ¬ Per n xs k
theorem IsStep.uniq {n p q : Int} {xs : List Int} (a : IsStep n xs p) (b : IsStep n xs q) : p = q := by
  rcases Int.lt_trichotomy p q with h | h | h
  · exact absurd a.per (b.least p a.lo h)
  · exact h
  · exact absurd b.per (a.least q b.lo h)
theorem IsStep.dvd {n p : Int} {xs : List Int} (hn : 0 < n) (h : Asc 0 n xs) (s : IsStep n xs p) : n % p = 0 := by
  have r0 := Int.emod_nonneg n (show p ≠ 0 by have := s.lo; omega)
  have r1 := Int.emod_lt_of_pos n (show 0 < p by have := s.lo; omega)
  by_cases e : n % p = 0
  · exact e
  · refine absurd ?_ (s.least (n % p) (by omega) r1)
    have m := per_mul hn h s.per (n / p).toNat
    have q0 : 0 ≤ n / p := Int.ediv_nonneg (by omega) (by have := s.lo; omega)
    rw [show ((n / p).toNat : Int) = n / p by omega] at m
    have d := Int.mul_ediv_add_emod n p
    rwa [show n - p * (n / p) = n % p by omega] at m
theorem step_ex {n : Int} {xs : List Int} (hn : 0 < n) (h : Asc 0 n xs) : ∃ p, IsStep n xs p := by
  have key : ∀ m : Nat, (∃ p, IsStep n xs p) ∨ ∀ k : Int, 1 ≤ k → k ≤ (m : Int) → k ≤ n → ¬ Per n xs k := fun m => by
    induction m with
    | zero => exact .inr fun k h1 h2 => by omega
    | succ m ih =>
      rcases ih with ih | ih
      · exact .inl ih
      · by_cases hm : ((m : Int) + 1 ≤ n) ∧ Per n xs ((m : Int) + 1)
        · exact .inl ⟨(m : Int) + 1, by omega, hm.1, hm.2, fun k h1 h2 => ih k h1 (by omega) (by omega)⟩
        · refine .inr fun k h1 h2 h3 => ?_
          by_cases e : k = (m : Int) + 1
          · subst e
            exact fun z => hm ⟨h3, z⟩
          · exact ih k h1 (by omega) h3
  rcases key n.toNat with k | k
  · exact k
  · exact absurd (per_n hn h) (k n (by omega) (by omega) (by omega))
/-- L is the least of the turned lists -/
structure IsLeast (n : Int) (xs L : List Int) : Prop where
  some_ : ∃ k, L = turnL n k xs
  none_ : ∀ k, ¬ turnL n k xs < L
theorem IsLeast.uniq {n : Int} {xs L M : List Int} (a : IsLeast n xs L) (b : IsLeast n xs M) : L = M := by
  obtain ⟨k, hk⟩ := a.some_
  obtain ⟨j, hj⟩ := b.some_
  exact List.le_antisymm (by have := a.none_ j; rw [← hj] at this; exact this) (by have := b.none_ k; rw [← hk] at this; exact this)
theorem IsLeast.turn {n j : Int} {xs L : List Int} (hn : 0 < n) (a : IsLeast n xs L) : IsLeast n (turnL n j xs) L := by
  obtain ⟨k, hk⟩ := a.some_
  refine ⟨⟨k - j, by rw [turnL_turnL hn, show j + (k - j) = k by omega]; exact hk⟩, fun m => ?_⟩
  rw [turnL_turnL hn]
  exact a.none_ _
theorem IsLeast.self {n : Int} {xs L : List Int} (hn : 0 < n) (a : IsLeast n xs L) : IsLeast n L L := by
  obtain ⟨k, hk⟩ := a.some_
  have := a.turn (j := k) hn
  rwa [← hk] at this
/-- equal least turns: turned into each other -/
theorem least_iff {n : Int} {xs ys L M : List Int} (hn : 0 < n) (hx : Asc 0 n xs) (hy : Asc 0 n ys) (a : IsLeast n xs L) (b : IsLeast n ys M) : L = M ↔ ∃ k : Int, (0 ≤ k ∧ k < n) ∧ turnL n k xs = ys := by
  constructor
  · intro e
    obtain ⟨k, hk⟩ := a.some_
    obtain ⟨j, hj⟩ := b.some_
    have m0 := Int.emod_nonneg (k - j) (show n ≠ 0 by omega)
    have m1 := Int.emod_lt_of_pos (k - j) hn
    refine ⟨(k - j) % n, ⟨m0, m1⟩, ?_⟩
    rw [turnL_cong (j := k - j) (by simp)]
    have e2 : turnL n (k + -j) xs = turnL n (-j) (turnL n k xs) := (turnL_turnL hn).symm
    rw [← hk, e, hj, turnL_turnL hn, show j + -j = 0 by omega, turnL_zero hn hy, show k + -j = k - j by omega] at e2
    exact e2
  · rintro ⟨k, _, rfl⟩
    exact (a.turn hn).uniq b
theorem lt_le_trans {a b c : List Int} (h : a < b) (h2 : ¬ c < b) : a < c := by
  by_cases e : c = b
  · rw [e]; exact h
  · have : b < c := by
      by_cases z : b < c
      · exact z
      · exact absurd (List.le_antisymm (show b ≤ c from h2) (show c ≤ b from z)).symm e
    exact List.lt_trans h this
/-- only a turn that puts a member at 0 can be the least one -/
theorem least_of_members {n : Int} {xs L : List Int} (hn : 0 < n) (hA : Asc 0 n xs) (h1 : ∃ k, L = turnL n k xs) (h2 : ¬ xs < L) (h3 : ∀ m ∈ xs, ¬ turnL n (-m) xs < L) : IsLeast n xs L := by
  refine ⟨h1, fun k hk => ?_⟩
  cases hx : xs with
  | nil =>
    have e : turnL n k xs = xs := by
      rw [hx]
      unfold turnL
      exact hrs_eq (by omega) .nil fun z _ _ => by simp
    rw [e] at hk
    exact h2 hk
  | cons m r =>
    have hm : m ∈ xs := by rw [hx]; exact List.mem_cons_self
    have bm := hA.2 m hm
    by_cases h0 : (0 - k) % n ∈ xs
    · refine h3 _ h0 ?_
      rw [turnL_cong (j := k)]
      · exact hk
      · rw [show -((0 - k) % n) = 0 - (0 - k) % n by omega, Int.sub_emod, Int.emod_emod, ← Int.sub_emod, show 0 - (0 - k) = k by omega]
    · have z0 : (0 : Int) ∈ turnL n (-m) xs := mem_turnL.mpr ⟨⟨by omega, hn⟩, by rw [show 0 - -m = m by omega, Int.emod_eq_of_lt bm.1 bm.2]; exact hm⟩
      have mk : (m + k) % n ∈ turnL n k xs := mem_turnL.mpr ⟨⟨Int.emod_nonneg _ (by omega), Int.emod_lt_of_pos _ hn⟩, by rw [Int.sub_emod, Int.emod_emod, ← Int.sub_emod, show m + k - k = m by omega, Int.emod_eq_of_lt bm.1 bm.2]; exact hm⟩
      have aT := asc_turnL (n := n) (k := -m) (xs := xs) hn
      have aK := asc_turnL (n := n) (k := k) (xs := xs) hn
      cases hT : turnL n (-m) xs with
      | nil => rw [hT] at z0; cases z0
      | cons t ts =>
        cases hK : turnL n k xs with
        | nil => rw [hK] at mk; cases mk
        | cons u us =>
          rw [hT] at z0 aT
          have t0 : t = 0 := by
            have b := aT.2 t List.mem_cons_self
            rcases List.mem_cons.mp z0 with e | e
            · exact e.symm
            · have := (List.pairwise_cons.mp aT.1).1 0 e
              omega
          have u0 : 0 < u := by
            have hu : u ∈ turnL n k xs := by rw [hK]; exact List.mem_cons_self
            have b := mem_turnL.mp hu
            by_cases e : u = 0
            · rw [e] at b; exact absurd b.2 h0
            · omega
          refine h3 m hm ?_
          rw [hT]
          rw [hK] at hk
          exact List.lt_trans (show t :: ts < u :: us from List.cons_lt_cons_iff.mpr (.inl (by omega))) hk
theorem ltI_data {xs ys : List Int} : PySem.W.dataLt (.list (xs.map PyData.int)) (.list (ys.map PyData.int)) = decide (xs < ys) := by
  rw [PySem.W.dataLt_list]
  exact PySem.W.dataLt_ints xs ys
/-- xs < ys, xs == ys of lists of ints -/
theorem rv_ltI {K : PySem.W.Frag} {H : Hp} {a b : Addr} {xs ys : List Int} (h1 : SqL K H a (xs.map V.int)) (h2 : SqL K H b (ys.map V.int)) : RV (rLtD K) (.ref a) (.ref b) H (.bl (decide (xs < ys))) := fun H1 e Q q =>
  ⟨.list (xs.map .int), .list (ys.map .int), .lst (ex_l e h1) (dp_ints _), .lst (ex_l e h2) (dp_ints _), by simp [PySem.W.alike, alike_ints], (fun z => by cases z), (by have := depth_ints xs; simp [PyData.depth]; omega), by rw [ltI_data]; exact q H1 (Ex.refl H1)⟩
theorem rv_eqI {K : PySem.W.Frag} {H : Hp} {a b : Addr} {xs ys : List Int} (h1 : SqL K H a (xs.map V.int)) (h2 : SqL K H b (ys.map V.int)) : RV (rEqD K) (.ref a) (.ref b) H (.bl (decide (xs = ys))) := fun H1 e Q q =>
  ⟨.list (xs.map .int), .list (ys.map .int), .lst (ex_l e h1) (dp_ints _), .lst (ex_l e h2) (dp_ints _), shaped_ints _, shaped_ints _, by rw [eqv_intsL]; exact q H1 (Ex.refl H1)⟩

/-! ### an object made within a try -/
section
open PySem.Spec PyProof.Rows
variable {X : Cx} {CX : CXT} {k : Nat} {f C : Addr} {fd : FuncData} {ps : List Str} {sp : Sp} {dvs : List V} {ds : List Value} {E : L2.St → XK} {x : Str} {p pos : Pos} {e : Expr} {es : List Expr} {t : TA}
def tMakeS (C : Addr) (sp : Sp) (dvs : List V) (E : L2.St → XK) (t : TA) : TE := fun σ H Q => t σ H fun vs H1 => ∀ x dx, H1 x = none → H1 dx = none → dx ≠ x →
  sp (.ref x :: (vs ++ dvs)) (upd (upd H1 dx (.own x)) x (.ins C dx [])) (fun v H2 => v = .non ∧ Q (.ref x) H2) (E σ)
theorem pe_makeS (M : Mk X.K C f) (F : FnOk X.prog X.w X.K X.mg X.base CX k f fd ps sp) (hr : Room (k + 1) X.A) (hg : Gl X x) (hm : X.mg x = some (.ref C)) (hb : Binds X.K fd ps ds) (hd : Vals dvs ds) (hx : ∀ σ, PassesAt CX X σ (E σ))
    (ha : PA X (e :: es) t) (hdb : (x == ("__debug__" : Str)) = false := by decide) (he : starEach (e :: es) X.env = (false, eval e X.env) :: starEach es X.env := by rfl) (hpl : (backTo pos (starEach es X.env)).any (·.1) = false := by rfl) :
    PE X (.Call (.Name x p) (e :: es) [] pos) (tMakeS C sp dvs E t) := by
  refine ⟨fun pins s σ H Q I h => wpAny_Call_Name_kw (ld_glob I hg hm ?_ hdb)⟩
  refine PySem.W.callWith_K (h₀ := X.base) I.ok.mod.kin M.kp (thn (ha.run pos pins s σ H _ I h) fun us s1 hu => ?_) he hpl
  obtain ⟨vs, H1, J, r, q⟩ := hu
  refine ⟨J.kIn, ?_⟩
  have hq := q (s1.heap.objs.size + 1) s1.heap.objs.size (J.hok.fresh (Nat.le_succ _)) (J.hok.fresh (Nat.le_refl _)) (Nat.ne_of_lt (Nat.lt_succ_self _))
  have J2 := Inv.made (C := C) J
  have r2 : Vals (V.ref (s1.heap.objs.size + 1) :: (vs ++ dvs)) (Value.ref (s1.heap.objs.size + 1) :: (us ++ ds)) := .cons rfl (r.append hd)
  have hl : (Value.ref (s1.heap.objs.size + 1) :: us ++ ds).length = ps.length := by
    have e0 := r2.length
    rw [F.len _ _ _ _ hq] at e0
    exact e0.symm
  have go := F.run _ X.stack _ _ ⟨Value.ref (s1.heap.objs.size + 1) :: us, []⟩ (Value.ref (s1.heap.objs.size + 1) :: (us ++ ds)) _ _ (E σ) (hr.make C us []) (J2.env0.make C us []) (hb _ (Value.ref (s1.heap.objs.size + 1) :: us) J2.kIn hl) r2 hq
  refine wpAny_call (make_map (f := f) J.kIn M.makes M.init (beq_iff_eq.mp M.fn) (codeAny_mono go fun r3 s3 hq3 => ?_))
  cases r3 with
  | error e => exact hx σ pins _ _ e s3 J2 hq3
  | ok fl => cases fl with
    | ret u =>
      obtain ⟨v, H3, J3, rv, ev, q3⟩ := J2.after hq3
      subst ev
      exact ⟨rv, ⟨V.ref (s1.heap.objs.size + 1), H3, J3, rfl, q3⟩⟩
    | next => exact hq3.elim
    | brk => exact hq3.elim
    | cont => exact hq3.elim
end

/-! ### residues counted -/
def cntR (n : Int) (rs : List Int) : List Int := (List.range n.toNat).map fun d : Nat => ((rs.filter fun z => decide (z = (d : Int))).length : Int)
theorem cntR_nil (n : Int) : cntR n [] = List.replicate n.toNat 0 := by simp [cntR, List.map_const']
theorem cntR_len {n : Int} {rs : List Int} : (cntR n rs).length = n.toNat := by
  unfold cntR
  rw [List.length_map, List.length_range]
theorem cntR_get {n : Int} {rs : List Int} {d : Nat} (h : d < n.toNat) : (cntR n rs)[d]? = some ((rs.filter fun z => decide (z = (d : Int))).length : Int) := by
  unfold cntR
  rw [List.getElem?_map, List.getElem?_range h]
  rfl
theorem cntR_set {n : Int} {rs : List Int} {d : Nat} (h : d < n.toNat) : (cntR n rs).set d (((rs.filter fun z => decide (z = (d : Int))).length : Int) + 1) = cntR n (rs ++ [(d : Int)]) := by
  refine List.ext_getElem? fun i => ?_
  by_cases hi : i < n.toNat
  · rw [cntR_get hi]
    by_cases e : i = d
    · subst e
      rw [List.getElem?_set_self (by rw [cntR_len]; exact hi), List.filter_append]
      simp
    · rw [List.getElem?_set_ne (by omega), cntR_get hi, List.filter_append]
      have : ¬ (d : Int) = (i : Int) := by omega
      simp [this]
  · rw [List.getElem?_eq_none (by rw [List.length_set, cntR_len]; omega), List.getElem?_eq_none (by rw [cntR_len]; omega)]
/-- how often an hour comes up -/
def many (rs : List Int) (d : Nat) : Nat := (rs.filter fun z => decide (z = (d : Int))).length
/-- the least hour that comes up twice -/
def meetR (n : Int) (rs : List Int) : Option Nat := (List.range n.toNat).find? fun d => decide (1 < many rs d)
theorem meet_some {n : Int} {rs : List Int} {i : Nat} (hi : i < n.toNat) (h : 1 < many rs i) (hb : ∀ j, j < i → ¬ 1 < many rs j) : meetR n rs = some i :=
  List.find?_range_eq_some.mpr ⟨decide_eq_true h, List.mem_range.mpr hi, fun j hj => by simpa using hb j hj⟩
theorem meet_none {n : Int} {rs : List Int} (hb : ∀ j, j < n.toNat → ¬ 1 < many rs j) : meetR n rs = none :=
  List.find?_range_eq_none.mpr fun j hj => by simpa using hb j hj
theorem once_nodup {n : Int} : ∀ {rs : List Int}, (∀ z ∈ rs, 0 ≤ z ∧ z < n) → (∀ j : Nat, j < n.toNat → ¬ 1 < many rs j) → rs.Nodup
  | [], _, _ => .nil
  | z :: rs, h0, hb => by
    have b := h0 z List.mem_cons_self
    refine List.nodup_cons.mpr ⟨fun hm => ?_, once_nodup (fun y hy => h0 y (List.mem_cons_of_mem _ hy)) fun j hj h => hb j hj ?_⟩
    · refine hb z.toNat (by omega) ?_
      unfold many
      have e : ((z.toNat : Nat) : Int) = z := by omega
      rw [e, List.filter_cons, if_pos (by simp), List.length_cons]
      have : 0 < (rs.filter fun y => decide (y = z)).length := List.length_pos_of_mem (List.mem_filter.mpr ⟨hm, by simp⟩)
      omega
    · unfold many at *
      rw [List.filter_cons]
      split
      · rw [List.length_cons]; omega
      · exact h
theorem many_mem {rs : List Int} {d : Nat} (h : ¬ 1 < many rs d) : decide (many rs d = 1) = decide ((d : Int) ∈ rs) := by
  rw [decide_eq_decide]
  unfold many at *
  constructor
  · intro e
    cases hf : rs.filter fun z => decide (z = (d : Int)) with
    | nil => rw [hf] at e; cases e
    | cons y ys =>
      have hy : y ∈ rs.filter fun z => decide (z = (d : Int)) := by rw [hf]; exact List.mem_cons_self
      have := List.mem_filter.mp hy
      have e2 : y = (d : Int) := of_decide_eq_true this.2
      rw [← e2]
      exact this.1
  · intro hm
    have : 0 < (rs.filter fun z => decide (z = (d : Int))).length := List.length_pos_of_mem (List.mem_filter.mpr ⟨hm, by simp⟩)
    omega
theorem mod_in {n : Int} (hn : 0 < n) (ms : List Int) : ∀ z ∈ ms.map (· % n), 0 ≤ z ∧ z < n := fun z hz => by
  obtain ⟨m, _, rfl⟩ := List.mem_map.mp hz
  exact ⟨Int.emod_nonneg _ (by omega), Int.emod_lt_of_pos _ hn⟩
/-! ### what a deed with a lot tells -/
inductive Res where
  | meets (h : Nat)
  | other
  | notdiv (m : Int)
  | bad (nm : Str) (z : Int)
  | lot (n : Int) (xs : List Int)
def once (n : Int) (rs : List Int) : Res := match meetR n rs with
  | some h => .meets h
  | none => .lot n (hrs n fun z => decide (z ∈ rs))
def mulRes (n t : Int) (xs : List Int) : Res := once n ((xs.map fun x => x * t).map (· % n))
def addRes (n m : Int) (xs ys : List Int) : Res := if n = m then once n ((xs.flatMap fun x => ys.map fun y => x + y).map (· % n)) else .other
def modRes (n t : Int) (xs : List Int) : Res := if t < 1 ∨ n % t ≠ 0 then .notdiv t else once t (xs.map (· % t))
def laps (n : Int) (k : Nat) (xs : List Int) : List Int := (List.range k).flatMap fun i : Nat => xs.map fun x => x + (i : Int) * n
def powRes (n t : Int) (xs : List Int) : Res := if t < 1 then .bad "times" t else if 360 < n * t then .bad "hours" (n * t) else .lot (n * t) (laps n t.toNat xs)
theorem once_some {n : Int} {rs : List Int} {h : Nat} (e : meetR n rs = some h) : once n rs = .meets h := by unfold once; rw [e]
theorem once_none {n : Int} {rs : List Int} (e : meetR n rs = none) : once n rs = .lot n (hrs n fun z => decide (z ∈ rs)) := by unfold once; rw [e]
theorem laps_succ {n : Int} {k : Nat} {xs : List Int} : laps n (k + 1) xs = laps n k xs ++ xs.map fun x => x + (k : Int) * n := by
  unfold laps
  rw [List.range_succ, List.flatMap_append]
  simp
theorem asc_plus {n c : Int} {xs : List Int} (h : Asc 0 n xs) : Asc c (c + n) (xs.map fun x => x + c) := by
  refine ⟨List.pairwise_map.mpr (h.1.imp fun {a b} hab => by show a + c < b + c; omega), fun x hx => ?_⟩
  obtain ⟨b, hb, rfl⟩ := List.mem_map.mp hx
  have := h.2 b hb
  omega
theorem asc_laps {n : Int} {xs : List Int} (hn : 0 < n) (h : Asc 0 n xs) : ∀ k : Nat, Asc 0 (n * (k : Int)) (laps n k xs)
  | 0 => by
    unfold laps
    exact .nil
  | k + 1 => by
    have e : n * ((k + 1 : Nat) : Int) = n * (k : Int) + n := by rw [show ((k + 1 : Nat) : Int) = (k : Int) + 1 by omega, Int.mul_add, Int.mul_one]
    have e2 : (k : Int) * n = n * (k : Int) := Int.mul_comm _ _
    have h0 : 0 ≤ n * (k : Int) := Int.mul_nonneg (by omega) (by omega)
    rw [laps_succ, e, e2]
    exact (asc_laps hn h k).append (asc_plus h) h0 (by omega) (by omega)
theorem range_get (zs : List Int) : ((List.range zs.length).map fun i => zs.getD i 0) = zs := by
  refine List.ext_getElem (by simp) fun i h1 h2 => ?_
  simp [List.getD_eq_getElem?_getD, List.getElem?_eq_getElem h2]
theorem lc2_flat {xs ys : List Int} {f : Int → Int → Int} : ((List.range xs.length).flatMap fun i => (List.range ys.length).map fun j => V.int (f (xs.getD i 0) (ys.getD j 0))) = (xs.flatMap fun x => ys.map fun y => f x y).map V.int := by
  conv => rhs; rw [← range_get xs, List.flatMap_map, List.map_flatMap]
  refine congrArg (fun g => List.flatMap g (List.range xs.length)) (funext fun i => ?_)
  conv => rhs; rw [← range_get ys, List.map_map, List.map_map]
  rfl
theorem lc2_laps {n : Int} {xs : List Int} {k : Nat} : ((List.range k).flatMap fun i : Nat => (List.range xs.length).map fun j => V.int (xs.getD j 0 + (i : Int) * n)) = (laps n k xs).map V.int := by
  unfold laps
  rw [List.map_flatMap]
  refine congrArg (fun g => List.flatMap g (List.range k)) (funext fun i => ?_)
  conv => rhs; rw [← range_get xs, List.map_map, List.map_map]
  rfl
theorem flat_len2 {m : Nat} {v : Nat → Nat → V} : ∀ i : Nat, ((List.range i).flatMap fun i => (List.range m).map (v i)).length = i * m
  | 0 => by simp
  | i + 1 => by
    rw [List.range_succ, List.flatMap_append, List.length_append, flat_len2 i, Nat.succ_mul]
    simp

/-! ### sums over lists -/
def S {α : Type} (l : List α) (f : α → Int) : Int := (l.map f).sum
theorem S_nil {α : Type} {f : α → Int} : S [] f = 0 := rfl
theorem S_cons {α : Type} {x : α} {l : List α} {f : α → Int} : S (x :: l) f = f x + S l f := by simp [S]
theorem S_append {α : Type} {l m : List α} {f : α → Int} : S (l ++ m) f = S l f + S m f := by simp [S]
theorem S_congr {α : Type} {l : List α} {f g : α → Int} (h : ∀ x ∈ l, f x = g x) : S l f = S l g := by
  unfold S
  rw [List.map_congr_left h]
theorem S_perm {α : Type} {l m : List α} {f : α → Int} (h : l.Perm m) : S l f = S m f := by
  induction h with
  | nil => rfl
  | cons x _ ih => rw [S_cons, S_cons, ih]
  | swap x y l => rw [S_cons, S_cons, S_cons, S_cons]; omega
  | trans _ _ a b => rw [a, b]
theorem S_map {α β : Type} {l : List α} {φ : α → β} {f : β → Int} : S (l.map φ) f = S l fun x => f (φ x) := by
  unfold S
  rw [List.map_map]
  rfl
theorem S_flat {α β : Type} {l : List α} {g : α → List β} {f : β → Int} : S (l.flatMap g) f = S l fun x => S (g x) f := by
  induction l with
  | nil => rfl
  | cons x l ih => rw [List.flatMap_cons, S_append, S_cons, ih]
theorem S_zero {α : Type} {l : List α} : (S l fun _ => 0) = 0 := by
  induction l with
  | nil => rfl
  | cons x l ih => rw [S_cons, ih]; rfl
theorem S_add {α : Type} {l : List α} {f g : α → Int} : (S l fun x => f x + g x) = S l f + S l g := by
  induction l with
  | nil => rfl
  | cons x l ih => rw [S_cons, S_cons, S_cons, ih]; omega
theorem S_sub {α : Type} {l : List α} {f g : α → Int} : (S l fun x => f x - g x) = S l f - S l g := by
  induction l with
  | nil => rfl
  | cons x l ih => rw [S_cons, S_cons, S_cons, ih]; omega
theorem S_mul {α : Type} {l : List α} {f : α → Int} {c : Int} : (S l fun x => f x * c) = S l f * c := by
  induction l with
  | nil => simp [S_nil]
  | cons x l ih => rw [S_cons, S_cons, ih, Int.add_mul]
theorem S_const {α : Type} {l : List α} {c : Int} : (S l fun _ => c) = (l.length : Int) * c := by
  induction l with
  | nil => simp [S_nil]
  | cons x l ih => rw [S_cons, ih, List.length_cons, show ((l.length + 1 : Nat) : Int) = (l.length : Int) + 1 by omega, Int.add_mul]; omega
theorem S_swap {α β : Type} {l : List α} {m : List β} {f : α → β → Int} : (S l fun x => S m fun y => f x y) = S m fun y => S l fun x => f x y := by
  induction l with
  | nil => rw [S_nil]; exact S_zero.symm
  | cons x l ih =>
    rw [S_cons, ih, ← S_add]
    exact S_congr fun y _ => (S_cons (f := fun x => f x y)).symm
theorem S_filter {α : Type} {l : List α} {p : α → Bool} : ((l.filter p).length : Int) = S l fun x => if p x = true then 1 else 0 := by
  induction l with
  | nil => rfl
  | cons x l ih =>
    rw [List.filter_cons, S_cons, ← ih]
    split
    · rw [List.length_cons]; omega
    · omega
theorem S_one {l : List Int} {c : Int} {g : Int → Int} (hd : l.Nodup) (hc : c ∈ l) : (S l fun e => if c = e then g e else 0) = g c := by
  induction l with
  | nil => cases hc
  | cons x l ih =>
    have h := List.nodup_cons.mp hd
    rw [S_cons]
    by_cases e : c = x
    · subst e
      rw [if_pos rfl, S_congr (g := fun _ => 0) (fun y hy => if_neg (fun z => h.1 (by rw [z]; exact hy))), S_zero]
      omega
    · rw [if_neg e, ih h.2 ((List.mem_cons.mp hc).resolve_left e)]
      omega
theorem S_nn {α : Type} {l : List α} {f : α → Int} {b : Int} (h : ∀ x ∈ l, 0 ≤ f x ∧ f x ≤ b) : 0 ≤ S l f ∧ S l f ≤ (l.length : Int) * b := by
  induction l with
  | nil => simp [S_nil]
  | cons x l ih =>
    have a := h x List.mem_cons_self
    have c := ih fun y hy => h y (List.mem_cons_of_mem _ hy)
    rw [S_cons, List.length_cons, show ((l.length + 1 : Nat) : Int) = (l.length : Int) + 1 by omega, Int.add_mul]
    omega
/-- all hours -/
def U (n : Int) : List Int := (List.range n.toNat).map fun i : Nat => (i : Int)
theorem mem_U {n z : Int} : z ∈ U n ↔ 0 ≤ z ∧ z < n := by
  unfold U
  constructor
  · intro h
    obtain ⟨i, hi, rfl⟩ := List.mem_map.mp h
    have := List.mem_range.mp hi
    omega
  · rintro ⟨h0, h1⟩
    exact List.mem_map.mpr ⟨z.toNat, List.mem_range.mpr (by omega), by omega⟩
theorem U_nodup {n : Int} : (U n).Nodup := by
  unfold U
  exact List.nodup_range.map _ fun a b h e => h (by omega)
theorem U_len {n : Int} (hn : 0 ≤ n) : ((U n).length : Int) = n := by
  unfold U
  rw [List.length_map, List.length_range]
  omega
/-! ### differences -/
def dif (n : Int) (xs : List Int) (d : Int) : Int := S xs fun x => S xs fun y => if (x - y) % n = d then 1 else 0
def difL (n : Int) (xs : List Int) : List Int := (List.range n.toNat).map fun d : Nat => dif n xs (d : Int)
theorem difL_len {n : Int} {xs : List Int} : (difL n xs).length = n.toNat := by
  unfold difL
  rw [List.length_map, List.length_range]
theorem difL_get {n : Int} {xs : List Int} {d : Nat} (h : d < n.toNat) : (difL n xs)[d]? = some (dif n xs (d : Int)) := by
  unfold difL
  rw [List.getElem?_map, List.getElem?_range h]
  rfl
theorem cntP_difL {n : Int} {xs : List Int} : cntP n (prod xs xs) = difL n xs := by
  unfold cntP difL dif prod
  refine List.map_congr_left fun d _ => ?_
  rw [S_filter, S_flat]
  refine S_congr fun x _ => ?_
  rw [S_map]
  refine S_congr fun y _ => ?_
  simp
theorem dif_nn {n d : Int} {xs : List Int} (h : xs.length ≤ 60) : 0 ≤ dif n xs d ∧ dif n xs d ≤ 3600 := by
  have a := S_nn (l := xs) (f := fun x => S xs fun y => if (x - y) % n = d then 1 else 0) (b := 60) fun x _ => by
    have b := S_nn (l := xs) (f := fun y => if (x - y) % n = d then 1 else 0) (b := 1) fun y _ => by split <;> omega
    omega
  unfold dif
  omega
theorem conv_dif {n : Int} {xs : List Int} (hn : 0 < n) (g : Int → Int) : (S xs fun x => S xs fun y => g ((x - y) % n)) = S (U n) fun e => dif n xs e * g e := by
  have e1 : (S (U n) fun e => dif n xs e * g e) = S (U n) fun e => S xs fun x => S xs fun y => if (x - y) % n = e then g e else 0 := S_congr fun e _ => by
    unfold dif
    rw [← S_mul]
    refine S_congr fun x _ => ?_
    rw [← S_mul]
    refine S_congr fun y _ => ?_
    split <;> omega
  rw [e1]
  refine Eq.trans (S_congr fun x _ => ?_) (S_swap (l := xs) (m := U n))
  refine Eq.trans (S_congr fun y _ => ?_) (S_swap (l := xs) (m := U n))
  exact (S_one U_nodup (mem_U.mpr ⟨Int.emod_nonneg _ (by omega), Int.emod_lt_of_pos _ hn⟩)).symm
theorem dif_map {n d : Int} {xs ys : List Int} {φ : Int → Int} (h : ys.Perm (xs.map φ)) : dif n ys d = S xs fun x => S xs fun y => if (φ x - φ y) % n = d then 1 else 0 := by
  unfold dif
  rw [S_perm h, S_map]
  exact S_congr fun x _ => by rw [S_perm h, S_map]
theorem hrs_perm {n : Int} {ms : List Int} {p : Int → Bool} (hn : 0 < n) (hd : (ms.map (· % n)).Nodup) (hp : ∀ z, 0 ≤ z → z < n → (z ∈ ms.map (· % n) ↔ p z = true)) : (hrs n p).Perm (ms.map (· % n)) := by
  refine (List.perm_ext_iff_of_nodup (asc_hrs (by omega)).nodup hd).mpr fun z => ?_
  rw [mem_hrs]
  constructor
  · rintro ⟨⟨h0, h1⟩, h2⟩
    exact (hp z h0 h1).mpr h2
  · intro hz
    have b := mod_in hn ms z hz
    exact ⟨b, (hp z b.1 b.2).mp hz⟩
theorem dif_res {n m d : Int} {xs ms : List Int} {φ : Int → Int} {p : Int → Bool} (hn : 0 < n) (e : ms = xs.map φ) (hd : (ms.map (· % n)).Nodup) (hp : ∀ z, 0 ≤ z → z < n → (z ∈ ms.map (· % n) ↔ p z = true)) :
    dif n (hrs n p) d = S xs fun x => S xs fun y => if (φ x - φ y) % n = d then 1 else 0 := by
  subst e
  have h := hrs_perm hn hd hp
  rw [List.map_map] at h
  rw [dif_map h]
  refine S_congr fun x _ => S_congr fun y _ => ?_
  show (if (φ x % n - φ y % n) % n = d then (1 : Int) else 0) = _
  rw [← Int.sub_emod]
theorem dif_turn {n k d : Int} {xs : List Int} (hn : 0 < n) (hA : Asc 0 n xs) : dif n (hrs n fun z => decide ((z - k) % n ∈ xs)) d = dif n xs d := by
  rw [dif_res (m := 0) (φ := fun x => x + k) hn rfl (nodup_plus hn hA) (fun z z0 z1 => by rw [mem_plus hn hA z0 z1]; simp)]
  exact S_congr fun x _ => S_congr fun y _ => by rw [show x + k - (y + k) = x - y by omega]
theorem dif_neg {n d : Int} {xs : List Int} (hn : 0 < n) (hA : Asc 0 n xs) : dif n (hrs n fun z => decide ((0 - z) % n ∈ xs)) d = dif n xs d := by
  rw [dif_res (m := 0) (φ := fun x => -x) hn rfl (nodup_minus hn hA) (fun z z0 z1 => by rw [mem_minus hn hA z0 z1]; simp), S_swap]
  exact S_congr fun x _ => S_congr fun y _ => by rw [show -y - -x = x - y by omega]
/-- a number without a common divisor -/
def Unit (n t : Int) : Prop := ∃ u v : Int, t * u + n * v = 1
theorem bez : ∀ a b : Nat, ∃ u v : Int, (a : Int) * u + (b : Int) * v = (Nat.gcd a b : Int) := fun a b => by
  induction a, b using Nat.gcd.induction with
  | H0 n => exact ⟨0, 1, by simp⟩
  | H1 m n hm ih =>
    obtain ⟨u, v, h⟩ := ih
    rw [Nat.gcd_rec]
    refine ⟨v - (n / m : Nat) * u, u, ?_⟩
    have e : ((n % m : Nat) : Int) = (n : Int) - (m : Int) * ((n / m : Nat) : Int) := by
      have := Nat.div_add_mod n m
      have h2 : ((m * (n / m) + n % m : Nat) : Int) = (n : Int) := by rw [this]
      rw [Int.natCast_add, Int.natCast_mul] at h2
      omega
    rw [← h, e]
    grind
theorem unit_of {n t c : Int} (hg : Nat.gcd t.natAbs n.natAbs = 1) (ht : 0 ≤ t) (hn : 0 ≤ n) : Unit n (t + n * c) := by
  obtain ⟨u, v, h⟩ := bez t.natAbs n.natAbs
  rw [hg, show ((t.natAbs : Nat) : Int) = t by omega, show ((n.natAbs : Nat) : Int) = n by omega] at h
  exact ⟨u, v - c * u, by have h' : t * u + n * v = 1 := h; grind⟩
theorem unit_mod {n t a b : Int} (hn : 0 < n) (h : Unit n t) : (a * t) % n = (b * t) % n ↔ a % n = b % n := by
  constructor
  · intro e
    obtain ⟨u, v, huv⟩ := h
    have e2 : (a * t * u) % n = (b * t * u) % n := by rw [Int.mul_emod, e, ← Int.mul_emod]
    have f : ∀ c : Int, (c * t * u) % n = c % n := fun c => by
      have : c * t * u = c + n * (-(v * c)) := by
        have : t * u = 1 - n * v := by omega
        rw [Int.mul_assoc, this]
        grind
      rw [this, Int.add_mul_emod_self_left]
    rwa [f, f] at e2
  · intro e
    rw [Int.mul_emod, e, ← Int.mul_emod]
theorem nodup_unit {n t : Int} {xs : List Int} (hn : 0 < n) (h : Unit n t) (hA : Asc 0 n xs) : ((xs.map fun x => x * t).map (· % n)).Nodup := by
  rw [List.map_map]
  refine nodup_map hA.nodup fun x hx y hy e => ?_
  have a := hA.2 x hx
  have b := hA.2 y hy
  have := (unit_mod hn h).mp e
  rwa [Int.emod_eq_of_lt a.1 a.2, Int.emod_eq_of_lt b.1 b.2] at this
theorem dif_unit {n t d : Int} {xs : List Int} (hn : 0 < n) (h : Unit n t) (hA : Asc 0 n xs) (hd : 0 ≤ d ∧ d < n) : dif n (hrs n fun z => decide (z ∈ (xs.map fun x => x * t).map (· % n))) ((d * t) % n) = dif n xs d := by
  rw [dif_res (m := 0) (φ := fun x => x * t) hn rfl (nodup_unit hn h hA) (fun z z0 z1 => by simp)]
  refine S_congr fun x _ => S_congr fun y _ => ?_
  have e : ((x * t - y * t) % n = (d * t) % n) ↔ (x - y) % n = d := by
    rw [← Int.sub_mul, unit_mod hn h, Int.emod_eq_of_lt hd.1 hd.2]
  by_cases c : (x - y) % n = d
  · rw [if_pos c, if_pos (e.mpr c)]
  · rw [if_neg c, if_neg fun z => c (e.mp z)]
theorem unit_onto {n t : Int} (hn : 0 < n) (h : Unit n t) {z : Int} (hz : 0 ≤ z ∧ z < n) : ∃ d : Int, (0 ≤ d ∧ d < n) ∧ (d * t) % n = z := by
  obtain ⟨u, v, huv⟩ := h
  refine ⟨(z * u) % n, ⟨Int.emod_nonneg _ (by omega), Int.emod_lt_of_pos _ hn⟩, ?_⟩
  have : z * u * t = z + n * (-(v * z)) := by
    have : u * t = 1 - n * v := by rw [Int.mul_comm]; omega
    rw [Int.mul_assoc, this]
    grind
  rw [Int.mul_emod, Int.emod_emod, ← Int.mul_emod, this, Int.add_mul_emod_self_left, Int.emod_eq_of_lt hz.1 hz.2]
theorem dif_mod {n m d : Int} {xs : List Int} (hm : 0 < m) (hn : 0 < n) (hd : n % m = 0) (hN : (xs.map (· % m)).Nodup) : dif m (hrs m fun z => decide (z ∈ xs.map (· % m))) d = S (U n) fun e => dif n xs e * (if e % m = d then 1 else 0) := by
  rw [dif_res (m := 0) (ms := xs) (φ := id) hm (List.map_id _).symm hN (fun z z0 z1 => by simp), ← conv_dif hn]
  refine S_congr fun x _ => S_congr fun y _ => ?_
  rw [Int.emod_emod_of_dvd _ (Int.dvd_of_emod_eq_zero hd)]
  rfl
theorem mod_move {n a b d : Int} (hd : 0 ≤ d ∧ d < n) : (a + b) % n = d ↔ b % n = (d - a) % n := by
  constructor
  · intro h
    rw [← h, Int.sub_emod, Int.emod_emod, ← Int.sub_emod, show a + b - a = b by omega]
  · intro h
    rw [Int.add_emod, h, ← Int.add_emod, show a + (d - a) = d by omega, Int.emod_eq_of_lt hd.1 hd.2]
/-- the sums of two lots -/
theorem dif_sum {n d : Int} {xs ys : List Int} (hn : 0 < n) (hd : 0 ≤ d ∧ d < n) (hN : ((xs.flatMap fun x => ys.map fun y => x + y).map (· % n)).Nodup) :
    dif n (hrs n fun z => decide (z ∈ (xs.flatMap fun x => ys.map fun y => x + y).map (· % n))) d = S (U n) fun e => dif n xs e * dif n ys ((d - e) % n) := by
  have h := hrs_perm (p := fun z => decide (z ∈ (xs.flatMap fun x => ys.map fun y => x + y).map (· % n))) hn hN (fun z z0 z1 => by simp)
  unfold dif
  rw [S_perm h, S_map, S_flat]
  have step : ∀ u : Int, (S (hrs n fun z => decide (z ∈ (xs.flatMap fun x => ys.map fun y => x + y).map (· % n))) fun v => if (u - v) % n = d then (1 : Int) else 0) = S xs fun x => S ys fun y => if (u - (x + y) % n) % n = d then 1 else 0 := fun u => by
    rw [S_perm h, S_map, S_flat]
    refine S_congr fun x _ => ?_
    rw [S_map]
  have e1 : (S xs fun x => S (ys.map fun y => x + y) fun u => S (hrs n fun z => decide (z ∈ (xs.flatMap fun x => ys.map fun y => x + y).map (· % n))) fun v => if (u % n - v) % n = d then (1 : Int) else 0) = S xs fun x => S xs fun x' => S ys fun y => S ys fun y' => if (y - y') % n = (d - (x - x') % n) % n then 1 else 0 := by
    refine S_congr fun x _ => ?_
    rw [S_map]
    rw [S_congr (g := fun y => S xs fun x' => S ys fun y' => if ((x + y) % n - (x' + y') % n) % n = d then 1 else 0) (fun y _ => step _), S_swap]
    refine S_congr fun x' _ => S_congr fun y _ => S_congr fun y' _ => ?_
    rw [← Int.sub_emod, show x + y - (x' + y') = (x - x') + (y - y') by omega]
    have e := mod_move (n := n) (a := x - x') (b := y - y') hd
    have e2 : (d - (x - x') % n) % n = (d - (x - x')) % n := by rw [Int.sub_emod, Int.emod_emod, ← Int.sub_emod]
    rw [e2]
    by_cases c : (x - x' + (y - y')) % n = d
    · rw [if_pos c, if_pos (e.mp c)]
    · rw [if_neg c, if_neg fun z => c (e.mpr z)]
  rw [e1]
  exact conv_dif hn fun e => dif n ys ((d - e) % n)
theorem S_U {n : Int} {f : Int → Int} : S (U n) f = S (List.range n.toNat) fun i : Nat => f (i : Int) := by
  unfold U
  rw [S_map]
theorem lap_one {n t w d : Int} (hn : 0 < n) (ht : 0 < t) (hd : 0 ≤ d ∧ d < n * t) : (S (U t) fun j => if (w - j * n) % (n * t) = d then (1 : Int) else 0) = if w % n = d % n then 1 else 0 := by
  have low : ∀ j : Int, (w - j * n) % n = w % n := fun j => by rw [show w - j * n = w + n * (-j) by grind, Int.add_mul_emod_self_left]
  have nt : 0 < n * t := Int.mul_pos hn ht
  by_cases c : w % n = d % n
  · rw [if_pos c]
    have hq : (w - d) % n = 0 := by rw [Int.sub_emod, c]; simp
    have eq : w - d = n * ((w - d) / n) := by have := Int.mul_ediv_add_emod (w - d) n; omega
    generalize (w - d) / n = q at eq
    have e : ∀ j ∈ U t, (if (w - j * n) % (n * t) = d then (1 : Int) else 0) = if q % t = j then 1 else 0 := fun j hj => by
      have hj := mem_U.mp hj
      have i1 : (w - j * n) % (n * t) = d ↔ q % t = j := by
        have e1 : w - j * n = d + n * (q - j) := by rw [Int.mul_sub]; have : j * n = n * j := Int.mul_comm _ _; omega
        rw [e1, mod_move (a := d) (b := n * (q - j)) hd]
        rw [show d - d = 0 by omega, Int.zero_emod, Int.mul_emod_mul_of_pos _ _ hn]
        constructor
        · intro h
          have h2 : (q - j) % t = 0 := by
            rcases Int.mul_eq_zero.mp h with h | h
            · omega
            · exact h
          have h3 : q % t = j % t := Int.emod_eq_emod_iff_emod_sub_eq_zero.mpr h2
          rw [h3, Int.emod_eq_of_lt hj.1 hj.2]
        · intro h
          have h3 : (q - j) % t = 0 := Int.emod_eq_emod_iff_emod_sub_eq_zero.mp (by rw [h, Int.emod_eq_of_lt hj.1 hj.2])
          rw [h3, Int.mul_zero]
      by_cases z : q % t = j
      · rw [if_pos z, if_pos (i1.mpr z)]
      · rw [if_neg z, if_neg fun y => z (i1.mp y)]
    rw [S_congr e]
    exact S_one (g := fun _ => 1) U_nodup (mem_U.mpr ⟨Int.emod_nonneg _ (by omega), Int.emod_lt_of_pos _ ht⟩)
  · rw [if_neg c, S_congr (g := fun _ => 0) (fun j _ => if_neg fun z => c ?_), S_zero]
    rw [← low j, ← z, Int.emod_emod_of_dvd _ (Int.dvd_mul_right n t)]
theorem dif_laps {n d : Int} {t : Nat} {xs : List Int} (hn : 0 < n) (ht : 0 < t) (hd : 0 ≤ d ∧ d < n * (t : Int)) : dif (n * (t : Int)) (laps n t xs) d = (t : Int) * dif n xs (d % n) := by
  have sl : ∀ f : Int → Int, S (laps n t xs) f = S xs fun x => S (U (t : Int)) fun i => f (x + i * n) := fun f => by
    unfold laps
    rw [S_flat]
    refine Eq.trans ?_ (S_swap (l := U (t : Int)) (m := xs))
    rw [S_U, Int.toNat_natCast]
    exact S_congr fun i _ => S_map
  unfold dif
  rw [sl]
  refine Eq.trans ?_ (Int.mul_comm _ _)
  rw [← S_mul]
  refine S_congr fun x _ => ?_
  refine (S_congr (g := fun _ => S xs fun y => if (x - y) % n = d % n then 1 else 0) (fun i _ => ?_)).trans ?_
  · rw [sl]
    refine S_congr fun y _ => ?_
    have := lap_one (n := n) (t := (t : Int)) (w := x - y + i * n) (d := d) hn (by omega) hd
    rw [show (x - y + i * n) % n = (x - y) % n by rw [show x - y + i * n = x - y + n * i by grind, Int.add_mul_emod_self_left]] at this
    rw [← this]
    exact S_congr fun j _ => by rw [show x + i * n - (y + j * n) = x - y + i * n - j * n by omega]
  · rw [S_const, U_len (by omega), Int.mul_comm]
theorem U_split {n : Int} {xs : List Int} {f : Int → Int} (hn : 0 ≤ n) (hA : Asc 0 n xs) : S (U n) f = S xs f + S (hrs n fun z => !decide (z ∈ xs)) f := by
  rw [← S_append]
  refine S_perm ((List.perm_ext_iff_of_nodup U_nodup ?_).mpr fun z => ?_)
  · refine List.nodup_append.mpr ⟨hA.nodup, (asc_hrs hn).nodup, fun a ha b hb e => ?_⟩
    have := (mem_hrs.mp hb).2
    rw [← e] at this
    simp [ha] at this
  · rw [mem_U, List.mem_append, mem_hrs]
    constructor
    · intro h
      by_cases c : z ∈ xs
      · exact .inl c
      · exact .inr ⟨h, by simp [c]⟩
    · rintro (h | h)
      · exact hA.2 z h
      · exact h.1
theorem all_one {n d c s : Int} (hn : 0 < n) (hd : 0 ≤ d ∧ d < n) : ((S (U n) fun y => if (c - y) % n = d then (1 : Int) else 0) = 1) ∧ (S (U n) fun y => if (y - c) % n = d then (1 : Int) else 0) = 1 := by
  constructor
  · rw [S_congr (g := fun y => if (c - d) % n = y then 1 else 0)]
    · exact S_one (g := fun _ => 1) U_nodup (mem_U.mpr ⟨Int.emod_nonneg _ (by omega), Int.emod_lt_of_pos _ hn⟩)
    · intro y hy
      have hy := mem_U.mp hy
      have a : (c - y) % n = d ↔ (c - d) % n = y := by
        constructor
        · intro h
          rw [← h, Int.sub_emod, Int.emod_emod, ← Int.sub_emod, show c - (c - y) = y by omega, Int.emod_eq_of_lt hy.1 hy.2]
        · intro h
          rw [← h, Int.sub_emod, Int.emod_emod, ← Int.sub_emod, show c - (c - d) = d by omega, Int.emod_eq_of_lt hd.1 hd.2]
      by_cases z : (c - d) % n = y
      · rw [if_pos z, if_pos (a.mpr z)]
      · rw [if_neg z, if_neg fun q => z (a.mp q)]
  · rw [S_congr (g := fun y => if (c + d) % n = y then 1 else 0)]
    · exact S_one (g := fun _ => 1) U_nodup (mem_U.mpr ⟨Int.emod_nonneg _ (by omega), Int.emod_lt_of_pos _ hn⟩)
    · intro y hy
      have hy := mem_U.mp hy
      have a : (y - c) % n = d ↔ (c + d) % n = y := by
        constructor
        · intro h
          rw [← h, Int.add_emod, Int.emod_emod, ← Int.add_emod, show c + (y - c) = y by omega, Int.emod_eq_of_lt hy.1 hy.2]
        · intro h
          rw [← h, Int.sub_emod, Int.emod_emod, ← Int.sub_emod, show c + d - c = d by omega, Int.emod_eq_of_lt hd.1 hd.2]
      by_cases z : (c + d) % n = y
      · rw [if_pos z, if_pos (a.mpr z)]
      · rw [if_neg z, if_neg fun q => z (a.mp q)]
theorem dif_inv {n d : Int} {xs : List Int} (hn : 0 < n) (hA : Asc 0 n xs) (hd : 0 ≤ d ∧ d < n) : dif n (hrs n fun z => !decide (z ∈ xs)) d = dif n xs d + n - 2 * (xs.length : Int) := by
  have sp : ∀ f : Int → Int, S (hrs n fun z => !decide (z ∈ xs)) f = S (U n) f - S xs f := fun f => by have := U_split (f := f) (by omega) hA; omega
  have lC : ((hrs n fun z => !decide (z ∈ xs)).length : Int) = n - (xs.length : Int) := by
    have a := sp fun _ => 1
    rw [S_const, S_const, S_const, U_len (by omega)] at a
    omega
  have e1 : dif n (hrs n fun z => !decide (z ∈ xs)) d = S (hrs n fun z => !decide (z ∈ xs)) fun x => 1 - S xs fun y => if (x - y) % n = d then 1 else 0 := by
    unfold dif
    refine S_congr fun x _ => ?_
    rw [sp, (all_one (s := 0) hn hd).1]
  rw [e1, S_sub, S_const, lC, S_swap]
  have e2 : (S xs fun y => S (hrs n fun z => !decide (z ∈ xs)) fun x => if (x - y) % n = d then (1 : Int) else 0) = S xs fun y => 1 - S xs fun x => if (x - y) % n = d then 1 else 0 := S_congr fun y _ => by rw [sp, (all_one (s := 0) hn hd).2]
  rw [e2, S_sub, S_const, S_swap]
  unfold dif
  omega
/-! ### met once -/
theorem many_le {rs : List Int} (h : rs.Nodup) (j : Nat) : ¬ 1 < many rs j := by
  unfold many
  induction rs with
  | nil => simp
  | cons z rs ih =>
    have hh := List.nodup_cons.mp h
    rw [List.filter_cons]
    split
    · rename_i e
      have e := of_decide_eq_true e
      rw [List.filter_eq_nil_iff.mpr fun y hy => by simp; intro q; exact hh.1 (by rw [e, ← q]; exact hy)]
      simp
    · exact ih hh.2
theorem once_lot {n : Int} {rs : List Int} (h : rs.Nodup) : once n rs = .lot n (hrs n fun z => decide (z ∈ rs)) := once_none (meet_none fun j _ => many_le h j)
theorem nodup_once {n : Int} {rs : List Int} (hin : ∀ z ∈ rs, 0 ≤ z ∧ z < n) (h : meetR n rs = none) : rs.Nodup := once_nodup hin fun j hj z => by
  have := List.find?_range_eq_none.mp h j hj
  simp at this
  omega
theorem U_laps {m : Int} (hm : 0 < m) (k : Nat) : U (m * (k : Int)) = laps m k (U m) := by
  have hU : ∀ n : Int, Asc 0 n (U n) := fun n => by
    refine ⟨?_, fun x hx => mem_U.mp hx⟩
    unfold U
    exact List.pairwise_map.mpr (List.pairwise_lt_range.imp fun {a b} h => by omega)
  have h0 : 0 ≤ m * (k : Int) := Int.mul_nonneg (by omega) (by omega)
  refine asc_unique (hU _).1 (asc_laps hm (hU m) k).1 fun z => ⟨fun hz => ?_, fun hz => mem_U.mpr ((asc_laps hm (hU m) k).2 z hz)⟩
  have hz := mem_U.mp hz
  unfold laps
  have e := Int.mul_ediv_add_emod z m
  have r0 := Int.emod_nonneg z (show m ≠ 0 by omega)
  have r1 := Int.emod_lt_of_pos z hm
  have q0 : 0 ≤ z / m := Int.ediv_nonneg hz.1 (by omega)
  have q1 : z / m < (k : Int) := Int.ediv_lt_of_lt_mul hm (by rw [Int.mul_comm]; exact hz.2)
  refine List.mem_flatMap.mpr ⟨(z / m).toNat, List.mem_range.mpr (by omega), List.mem_map.mpr ⟨z % m, mem_U.mpr ⟨r0, r1⟩, ?_⟩⟩
  rw [show (((z / m).toNat : Nat) : Int) = z / m by omega, Int.mul_comm]
  omega
theorem fold_sum {m d : Int} {k : Nat} {g : Int → Int} (hm : 0 < m) (hd : 0 ≤ d ∧ d < m) : (S (U (m * (k : Int))) fun e => g e * (if e % m = d then 1 else 0)) = S (List.range k) fun j : Nat => g (d + (j : Int) * m) := by
  rw [U_laps hm]
  unfold laps
  rw [S_flat]
  refine S_congr fun j _ => ?_
  rw [S_map]
  rw [← S_one (l := U m) (c := d) (g := fun e => g (e + (j : Int) * m)) U_nodup (mem_U.mpr hd)]
  refine S_congr fun r hr => ?_
  have hr := mem_U.mp hr
  rw [show r + (j : Int) * m = r + m * (j : Int) by rw [Int.mul_comm m], Int.add_mul_emod_self_left, Int.emod_eq_of_lt hr.1 hr.2, Int.mul_comm m]
  by_cases c : d = r
  · rw [if_pos c, if_pos c.symm, Int.mul_one]
  · rw [if_neg c, if_neg fun z => c z.symm, Int.mul_zero]
theorem rgc_up {i j c : Int} (hi : 0 ≤ i ∧ i < j) (hj : j ≤ 1000) (hc : 1 ≤ c ∧ c ≤ 1000) : RgC i j c ((j - i - 1) / c + 1).toNat := by
  have q0 : 0 ≤ (j - i - 1) / c := Int.ediv_nonneg (by omega) (by omega)
  have q1 : (j - i - 1) / c ≤ j - i - 1 := Int.ediv_le_self _ (by omega)
  have e : Builtin.Range.rangeSize i j c = (j - i - 1) / c + 1 := by
    unfold Builtin.Range.rangeSize
    rw [if_pos (by omega), if_pos (by omega)]
  refine ⟨by omega, by omega, ?_, by rw [e]; omega⟩
  unfold Builtin.Range.small
  rw [e]
  simp only [Builtin.Range.rangeFitsLong, Bool.and_eq_true, Bool.or_eq_true, decide_eq_true_eq, beq_iff_eq, show c > 0 by omega, if_true]
  omega
theorem ei_rng3 {σ : L2.St} {H : Hp} {ta : TA} {i j c : Int} (h : EvA ta σ H [.int i, .int j, .int c]) (hi : 0 ≤ i ∧ i < j) (hj : j ≤ 1000) (hc : 1 ≤ c ∧ c ≤ 1000) : EvI (iRng3 ta) σ H ((j - i - 1) / c + 1).toNat (YFn fun k => .int (i + (k : Nat) * c)) := fun H1 e R r => h H1 e _ fun H2 e2 =>
  ⟨i, j, c, _, rfl, rgc_up hi hj hc, r _ _ e2 (walk_rangeC.mono (fun _ _ => True.intro) fun i G x G' _ _ y => y)⟩
/-! ### the deeds' numbers -/
def unitsL (n : Int) : List Int := pick n.toNat (fun i => decide (Nat.gcd (1 + (i : Int)).natAbs n.natAbs = 1)) fun i => 1 + (i : Int)
def atR (xs : List Int) (k : Int) : Int := xs.getD (k % (xs.length : Int)).toNat 0
def shF (k : Int) : Int := (k - 180) * 1000000000 + k
def facF (n k : Int) : Int := atR (unitsL n) k + n * (k - 180)
theorem mem_units {n u : Int} : u ∈ unitsL n ↔ (1 ≤ u ∧ u ≤ n) ∧ Nat.gcd u.natAbs n.natAbs = 1 := by
  unfold unitsL pick
  constructor
  · intro h
    obtain ⟨i, hi, rfl⟩ := List.mem_map.mp h
    have a := List.mem_filter.mp hi
    have b := List.mem_range.mp a.1
    exact ⟨⟨by omega, by omega⟩, of_decide_eq_true a.2⟩
  · rintro ⟨⟨h0, h1⟩, h2⟩
    have e : (1 : Int) + (((u - 1).toNat : Nat) : Int) = u := by omega
    exact List.mem_map.mpr ⟨(u - 1).toNat, List.mem_filter.mpr ⟨List.mem_range.mpr (by omega), by rw [e]; exact decide_eq_true h2⟩, e⟩
theorem atR_mem {xs : List Int} {k : Int} (h : 0 < xs.length) : atR xs k ∈ xs := by
  have m0 : 0 ≤ k % (xs.length : Int) := Int.emod_nonneg _ (by omega)
  have m1 : k % (xs.length : Int) < (xs.length : Int) := Int.emod_lt_of_pos _ (by omega)
  unfold atR
  rw [List.getD_eq_getElem?_getD, List.getElem?_eq_getElem (by omega)]
  exact List.getElem_mem _
theorem atR_at {xs : List Int} {k : Int} (h : 0 < xs.length) : atI (xs.map V.int) (k % (xs.length : Int)) = some (.int (atR xs k)) := by
  have m0 : 0 ≤ k % (xs.length : Int) := Int.emod_nonneg _ (by omega)
  have m1 : k % (xs.length : Int) < (xs.length : Int) := Int.emod_lt_of_pos _ (by omega)
  exact atI_ints m0 m1
theorem units_pos {n : Int} (hn : 1 ≤ n) : 0 < (unitsL n).length := List.length_pos_of_mem (mem_units.mpr ⟨⟨by omega, hn⟩, by simp⟩)
theorem unit_fac {n k : Int} (hn : 1 ≤ n) : Unit n (facF n k) := by
  have h := mem_units.mp (atR_mem (k := k) (units_pos hn))
  exact unit_of h.2 (by omega) (by omega)
theorem ev_atR {K : PySem.W.Frag} {σ : L2.St} {H : Hp} {tp tk : TE} {p : Addr} {xs : List Int} {k : Int} (hp : Ev tp σ H (.ref p)) (hk : Ev tk σ H (.int k)) (h : SqL K H p (xs.map V.int)) (h0 : 0 < xs.length) :
    Ev (tOp (rIxL K) tp (tOp (rI (fun _ j => 0 < j) fun i j => .int (i % j)) (tCB (fun xs H Q => (∃ i, xs = [V.int i] ∧ Q (V.int i) H) ∨ ∃ k, xs = [V.bl k] ∧ Q (V.int (if k = true then 1 else 0)) H) (tCons tk tNil)) (tCB (rLenK K) (tCons tp tNil)))) σ H (.int (atR xs k)) :=
  ev_op hp (ev_op (ev_int hk) (ev_cb (r := rLenK K) (z := .int (xs.length : Int)) (ea_cons hp ea_nil) fun H2 e2 Q q => ⟨.ref p, xs.length, rfl, .inl ⟨xs.map V.int, ex_l e2 h, (List.length_map _).symm⟩, q H2 (Ex.refl H2)⟩) (rv_I (show (0 : Int) < (xs.length : Int) by omega))) (rv_ixL h (atR_at h0))
structure Ads where
  f_BadNumber_init : Addr
  d_BadNumber_init : FuncData
  f_RepeatedHour_init : Addr
  d_RepeatedHour_init : FuncData
  f_Meets_init : Addr
  d_Meets_init : FuncData
  f_NotADivisor_init : Addr
  d_NotADivisor_init : FuncData
  f_Lot_init : Addr
  d_Lot_init : FuncData
  f_Lot_members : Addr
  d_Lot_members : FuncData
  f_Lot_len : Addr
  d_Lot_len : FuncData
  f_Lot_iter : Addr
  d_Lot_iter : FuncData
  f_Lot_lshift : Addr
  d_Lot_lshift : FuncData
  f_Lot_rshift : Addr
  d_Lot_rshift : FuncData
  f_Lot_neg : Addr
  d_Lot_neg : FuncData
  f_Lot_invert : Addr
  d_Lot_invert : FuncData
  f_u_check_hours : Addr
  d_u_check_hours : FuncData
  f_u_lot_of_each : Addr
  d_u_lot_of_each : FuncData
  f_Lot_mul : Addr
  d_Lot_mul : FuncData
  f_Lot_rmul : Addr
  d_Lot_rmul : FuncData
  f_Lot_add : Addr
  d_Lot_add : FuncData
  f_Lot_mod : Addr
  d_Lot_mod : FuncData
  f_Lot_pow : Addr
  d_Lot_pow : FuncData
  f_meetings : Addr
  d_meetings : FuncData
  f_differences : Addr
  d_differences : FuncData
  f_u_law_cell : Addr
  d_u_law_cell : FuncData
  f_u_law_draws : Addr
  d_u_law_draws : FuncData
  f_u_law_is_int : Addr
  d_u_law_is_int : FuncData
  f_u_law_same : Addr
  d_u_law_same : FuncData
  f_u_law_bits : Addr
  d_u_law_bits : FuncData
  f_u_law_subset : Addr
  d_u_law_subset : FuncData
  f_u_law_gcd : Addr
  d_u_law_gcd : FuncData
  f_u_law_parts : Addr
  d_u_law_parts : FuncData
  f_u_law_lots : Addr
  d_u_law_lots : FuncData
  f_u_law_counts : Addr
  d_u_law_counts : FuncData
  f_u_law_met : Addr
  d_u_law_met : FuncData
  f_u_law_fold : Addr
  d_u_law_fold : FuncData
  f_u_law_is_lot : Addr
  d_u_law_is_lot : FuncData
  f_u_law_factor : Addr
  d_u_law_factor : FuncData
  f_u_law_shift : Addr
  d_u_law_shift : FuncData
  f_u_law_part : Addr
  d_u_law_part : FuncData
  f_u_law_kind : Addr
  d_u_law_kind : FuncData
  f_u_law_done : Addr
  d_u_law_done : FuncData
  f_u_law_sum : Addr
  d_u_law_sum : FuncData
  f_u_law_told : Addr
  d_u_law_told : FuncData
  f_u_law_copied_due : Addr
  d_u_law_copied_due : FuncData
  f_u_law_residues_due : Addr
  d_u_law_residues_due : FuncData
  f_u_law_due : Addr
  d_u_law_due : FuncData
  f_law : Addr
  d_law : FuncData
  C_BadNumber : Addr
  C_RepeatedHour : Addr
  C_OtherHours : Addr
  C_Meets : Addr
  C_NotADivisor : Addr
  C_Lot : Addr
  p_Lot_members : Addr
structure Txt (K : PySem.W.Frag) (mg : Str → Option Value) (A : Ads) : Prop where
  F_BadNumber_init : Fun K "__init__" "BadNumber.__init__" s_BadNumber_init A.f_BadNumber_init A.d_BadNumber_init
  F_RepeatedHour_init : Fun K "__init__" "RepeatedHour.__init__" s_RepeatedHour_init A.f_RepeatedHour_init A.d_RepeatedHour_init
  F_Meets_init : Fun K "__init__" "Meets.__init__" s_Meets_init A.f_Meets_init A.d_Meets_init
  F_NotADivisor_init : Fun K "__init__" "NotADivisor.__init__" s_NotADivisor_init A.f_NotADivisor_init A.d_NotADivisor_init
  F_Lot_init : Fun K "__init__" "Lot.__init__" s_Lot_init A.f_Lot_init A.d_Lot_init
  F_Lot_members : Fun K "members" "Lot.members" s_Lot_members A.f_Lot_members A.d_Lot_members
  F_Lot_len : Fun K "__len__" "Lot.__len__" s_Lot_len A.f_Lot_len A.d_Lot_len
  F_Lot_iter : Fun K "__iter__" "Lot.__iter__" s_Lot_iter A.f_Lot_iter A.d_Lot_iter
  F_Lot_lshift : Fun K "__lshift__" "Lot.__lshift__" s_Lot_lshift A.f_Lot_lshift A.d_Lot_lshift
  F_Lot_rshift : Fun K "__rshift__" "Lot.__rshift__" s_Lot_rshift A.f_Lot_rshift A.d_Lot_rshift
  F_Lot_neg : Fun K "__neg__" "Lot.__neg__" s_Lot_neg A.f_Lot_neg A.d_Lot_neg
  F_Lot_invert : Fun K "__invert__" "Lot.__invert__" s_Lot_invert A.f_Lot_invert A.d_Lot_invert
  F_u_check_hours : Fun K "_check_hours" "_check_hours" s_u_check_hours A.f_u_check_hours A.d_u_check_hours
  g_u_check_hours : mg "_check_hours" = some (.ref A.f_u_check_hours)
  k_u_check_hours : PySem.W.keepIn K (.ref A.f_u_check_hours) = true
  F_u_lot_of_each : Fun K "_lot_of_each" "_lot_of_each" s_u_lot_of_each A.f_u_lot_of_each A.d_u_lot_of_each
  g_u_lot_of_each : mg "_lot_of_each" = some (.ref A.f_u_lot_of_each)
  k_u_lot_of_each : PySem.W.keepIn K (.ref A.f_u_lot_of_each) = true
  F_Lot_mul : Fun K "__mul__" "Lot.__mul__" s_Lot_mul A.f_Lot_mul A.d_Lot_mul
  F_Lot_rmul : Fun K "__rmul__" "Lot.__rmul__" s_Lot_rmul A.f_Lot_rmul A.d_Lot_rmul
  F_Lot_add : Fun K "__add__" "Lot.__add__" s_Lot_add A.f_Lot_add A.d_Lot_add
  F_Lot_mod : Fun K "__mod__" "Lot.__mod__" s_Lot_mod A.f_Lot_mod A.d_Lot_mod
  F_Lot_pow : Fun K "__pow__" "Lot.__pow__" s_Lot_pow A.f_Lot_pow A.d_Lot_pow
  F_meetings : Fun K "meetings" "meetings" s_meetings A.f_meetings A.d_meetings
  g_meetings : mg "meetings" = some (.ref A.f_meetings)
  k_meetings : PySem.W.keepIn K (.ref A.f_meetings) = true
  F_differences : Fun K "differences" "differences" s_differences A.f_differences A.d_differences
  g_differences : mg "differences" = some (.ref A.f_differences)
  k_differences : PySem.W.keepIn K (.ref A.f_differences) = true
  F_u_law_cell : Fun K "_law_cell" "_law_cell" s_u_law_cell A.f_u_law_cell A.d_u_law_cell
  g_u_law_cell : mg "_law_cell" = some (.ref A.f_u_law_cell)
  k_u_law_cell : PySem.W.keepIn K (.ref A.f_u_law_cell) = true
  F_u_law_draws : Fun K "_law_draws" "_law_draws" s_u_law_draws A.f_u_law_draws A.d_u_law_draws
  g_u_law_draws : mg "_law_draws" = some (.ref A.f_u_law_draws)
  k_u_law_draws : PySem.W.keepIn K (.ref A.f_u_law_draws) = true
  F_u_law_is_int : Fun K "_law_is_int" "_law_is_int" s_u_law_is_int A.f_u_law_is_int A.d_u_law_is_int
  g_u_law_is_int : mg "_law_is_int" = some (.ref A.f_u_law_is_int)
  k_u_law_is_int : PySem.W.keepIn K (.ref A.f_u_law_is_int) = true
  F_u_law_same : Fun K "_law_same" "_law_same" s_u_law_same A.f_u_law_same A.d_u_law_same
  g_u_law_same : mg "_law_same" = some (.ref A.f_u_law_same)
  k_u_law_same : PySem.W.keepIn K (.ref A.f_u_law_same) = true
  F_u_law_bits : Fun K "_law_bits" "_law_bits" s_u_law_bits A.f_u_law_bits A.d_u_law_bits
  g_u_law_bits : mg "_law_bits" = some (.ref A.f_u_law_bits)
  k_u_law_bits : PySem.W.keepIn K (.ref A.f_u_law_bits) = true
  F_u_law_subset : Fun K "_law_subset" "_law_subset" s_u_law_subset A.f_u_law_subset A.d_u_law_subset
  g_u_law_subset : mg "_law_subset" = some (.ref A.f_u_law_subset)
  k_u_law_subset : PySem.W.keepIn K (.ref A.f_u_law_subset) = true
  F_u_law_gcd : Fun K "_law_gcd" "_law_gcd" s_u_law_gcd A.f_u_law_gcd A.d_u_law_gcd
  g_u_law_gcd : mg "_law_gcd" = some (.ref A.f_u_law_gcd)
  k_u_law_gcd : PySem.W.keepIn K (.ref A.f_u_law_gcd) = true
  F_u_law_parts : Fun K "_law_parts" "_law_parts" s_u_law_parts A.f_u_law_parts A.d_u_law_parts
  g_u_law_parts : mg "_law_parts" = some (.ref A.f_u_law_parts)
  k_u_law_parts : PySem.W.keepIn K (.ref A.f_u_law_parts) = true
  F_u_law_lots : Fun K "_law_lots" "_law_lots" s_u_law_lots A.f_u_law_lots A.d_u_law_lots
  g_u_law_lots : mg "_law_lots" = some (.ref A.f_u_law_lots)
  k_u_law_lots : PySem.W.keepIn K (.ref A.f_u_law_lots) = true
  F_u_law_counts : Fun K "_law_counts" "_law_counts" s_u_law_counts A.f_u_law_counts A.d_u_law_counts
  g_u_law_counts : mg "_law_counts" = some (.ref A.f_u_law_counts)
  k_u_law_counts : PySem.W.keepIn K (.ref A.f_u_law_counts) = true
  F_u_law_met : Fun K "_law_met" "_law_met" s_u_law_met A.f_u_law_met A.d_u_law_met
  g_u_law_met : mg "_law_met" = some (.ref A.f_u_law_met)
  k_u_law_met : PySem.W.keepIn K (.ref A.f_u_law_met) = true
  F_u_law_fold : Fun K "_law_fold" "_law_fold" s_u_law_fold A.f_u_law_fold A.d_u_law_fold
  g_u_law_fold : mg "_law_fold" = some (.ref A.f_u_law_fold)
  k_u_law_fold : PySem.W.keepIn K (.ref A.f_u_law_fold) = true
  F_u_law_is_lot : Fun K "_law_is_lot" "_law_is_lot" s_u_law_is_lot A.f_u_law_is_lot A.d_u_law_is_lot
  g_u_law_is_lot : mg "_law_is_lot" = some (.ref A.f_u_law_is_lot)
  k_u_law_is_lot : PySem.W.keepIn K (.ref A.f_u_law_is_lot) = true
  F_u_law_factor : Fun K "_law_factor" "_law_factor" s_u_law_factor A.f_u_law_factor A.d_u_law_factor
  g_u_law_factor : mg "_law_factor" = some (.ref A.f_u_law_factor)
  k_u_law_factor : PySem.W.keepIn K (.ref A.f_u_law_factor) = true
  F_u_law_shift : Fun K "_law_shift" "_law_shift" s_u_law_shift A.f_u_law_shift A.d_u_law_shift
  g_u_law_shift : mg "_law_shift" = some (.ref A.f_u_law_shift)
  k_u_law_shift : PySem.W.keepIn K (.ref A.f_u_law_shift) = true
  F_u_law_part : Fun K "_law_part" "_law_part" s_u_law_part A.f_u_law_part A.d_u_law_part
  g_u_law_part : mg "_law_part" = some (.ref A.f_u_law_part)
  k_u_law_part : PySem.W.keepIn K (.ref A.f_u_law_part) = true
  F_u_law_kind : Fun K "_law_kind" "_law_kind" s_u_law_kind A.f_u_law_kind A.d_u_law_kind
  g_u_law_kind : mg "_law_kind" = some (.ref A.f_u_law_kind)
  k_u_law_kind : PySem.W.keepIn K (.ref A.f_u_law_kind) = true
  F_u_law_done : Fun K "_law_done" "_law_done" s_u_law_done A.f_u_law_done A.d_u_law_done
  g_u_law_done : mg "_law_done" = some (.ref A.f_u_law_done)
  k_u_law_done : PySem.W.keepIn K (.ref A.f_u_law_done) = true
  F_u_law_sum : Fun K "_law_sum" "_law_sum" s_u_law_sum A.f_u_law_sum A.d_u_law_sum
  g_u_law_sum : mg "_law_sum" = some (.ref A.f_u_law_sum)
  k_u_law_sum : PySem.W.keepIn K (.ref A.f_u_law_sum) = true
  F_u_law_told : Fun K "_law_told" "_law_told" s_u_law_told A.f_u_law_told A.d_u_law_told
  g_u_law_told : mg "_law_told" = some (.ref A.f_u_law_told)
  k_u_law_told : PySem.W.keepIn K (.ref A.f_u_law_told) = true
  F_u_law_copied_due : Fun K "_law_copied_due" "_law_copied_due" s_u_law_copied_due A.f_u_law_copied_due A.d_u_law_copied_due
  g_u_law_copied_due : mg "_law_copied_due" = some (.ref A.f_u_law_copied_due)
  k_u_law_copied_due : PySem.W.keepIn K (.ref A.f_u_law_copied_due) = true
  F_u_law_residues_due : Fun K "_law_residues_due" "_law_residues_due" s_u_law_residues_due A.f_u_law_residues_due A.d_u_law_residues_due
  g_u_law_residues_due : mg "_law_residues_due" = some (.ref A.f_u_law_residues_due)
  k_u_law_residues_due : PySem.W.keepIn K (.ref A.f_u_law_residues_due) = true
  F_u_law_due : Fun K "_law_due" "_law_due" s_u_law_due A.f_u_law_due A.d_u_law_due
  g_u_law_due : mg "_law_due" = some (.ref A.f_u_law_due)
  k_u_law_due : PySem.W.keepIn K (.ref A.f_u_law_due) = true
  F_law : Fun K "law" "law" s_law A.f_law A.d_law
  g_law : mg "law" = some (.ref A.f_law)
  k_law : PySem.W.keepIn K (.ref A.f_law) = true
  z_abs : mg "abs" = none
  z_len : mg "len" = none
  z_int : mg "int" = none
  z_bool : mg "bool" = none
  z_str : mg "str" = none
  z_list : mg "list" = none
  z_tuple : mg "tuple" = none
  z_isinstance : mg "isinstance" = none
  z_range : mg "range" = none
  z_ValueError : mg "ValueError" = none
  z_iter : mg "iter" = none
  z_min : mg "min" = none
  z_max : mg "max" = none
  z_sum : mg "sum" = none
  g_BadNumber : mg "BadNumber" = some (.ref A.C_BadNumber)
  g_RepeatedHour : mg "RepeatedHour" = some (.ref A.C_RepeatedHour)
  g_OtherHours : mg "OtherHours" = some (.ref A.C_OtherHours)
  g_Meets : mg "Meets" = some (.ref A.C_Meets)
  g_NotADivisor : mg "NotADivisor" = some (.ref A.C_NotADivisor)
  g_Lot : mg "Lot" = some (.ref A.C_Lot)
  ox_BadNumber : OexC K A.C_BadNumber
  ni_BadNumber : PySem.W.findIn K (.ref A.C_BadNumber) "__init__" = some (some (.ref A.f_BadNumber_init))
  ti_BadNumber : PySem.W.typeIn K (.ref A.f_BadNumber_init) = some (.type "function")
  nf_BadNumber_name : PySem.W.findIn K (.ref A.C_BadNumber) "name" = some none
  nf_BadNumber_value : PySem.W.findIn K (.ref A.C_BadNumber) "value" = some none
  xf_BadNumber : XfC K A.C_BadNumber
  ex_BadNumber : ExcC K A.C_BadNumber
  ox_RepeatedHour : OexC K A.C_RepeatedHour
  ni_RepeatedHour : PySem.W.findIn K (.ref A.C_RepeatedHour) "__init__" = some (some (.ref A.f_RepeatedHour_init))
  ti_RepeatedHour : PySem.W.typeIn K (.ref A.f_RepeatedHour_init) = some (.type "function")
  nf_RepeatedHour_hour : PySem.W.findIn K (.ref A.C_RepeatedHour) "hour" = some none
  xf_RepeatedHour : XfC K A.C_RepeatedHour
  ex_RepeatedHour : ExcC K A.C_RepeatedHour
  ox_Meets : OexC K A.C_Meets
  ni_Meets : PySem.W.findIn K (.ref A.C_Meets) "__init__" = some (some (.ref A.f_Meets_init))
  ti_Meets : PySem.W.typeIn K (.ref A.f_Meets_init) = some (.type "function")
  nf_Meets_hour : PySem.W.findIn K (.ref A.C_Meets) "hour" = some none
  xf_Meets : XfC K A.C_Meets
  ex_Meets : ExcC K A.C_Meets
  ox_NotADivisor : OexC K A.C_NotADivisor
  ni_NotADivisor : PySem.W.findIn K (.ref A.C_NotADivisor) "__init__" = some (some (.ref A.f_NotADivisor_init))
  ti_NotADivisor : PySem.W.typeIn K (.ref A.f_NotADivisor_init) = some (.type "function")
  nf_NotADivisor_number : PySem.W.findIn K (.ref A.C_NotADivisor) "number" = some none
  xf_NotADivisor : XfC K A.C_NotADivisor
  ex_NotADivisor : ExcC K A.C_NotADivisor
  xP_OtherHours : PySem.W.excIn K A.C_OtherHours [.type "ValueError", .type "Exception", .type "BaseException", .type "object"] "ValueError.__new__" = true
  kP_OtherHours : PySem.W.keepIn K (.ref A.C_OtherHours) = true
  bP_OtherHours : PySem.W.subIn K (.ref A.C_OtherHours) (.type "BaseException") = some true
  tP_OtherHours : PySem.W.typeIn K (.ref A.C_OtherHours) = some (.type "type")
  ex_OtherHours : ExcC K A.C_OtherHours
  xm_Meets_Meets : PySem.W.exmOne K (.ref A.C_Meets) (.ref A.C_Meets) = some true
  cl_Lot : Cls K A.C_Lot
  mk_Lot : Mk K A.C_Lot A.f_Lot_init
  na_Lot_hours : NoAttr K A.C_Lot "hours"
  na_Lot_members : NoAttr K A.C_Lot "_members"
  op_Lot : Ops K A.C_Lot
  D_Lot_lshift : Meth K A.C_Lot (PySem.dunder "lshift") A.f_Lot_lshift
  D_Lot_rshift : Meth K A.C_Lot (PySem.dunder "rshift") A.f_Lot_rshift
  D_Lot_mul : Meth K A.C_Lot (PySem.dunder "mul") A.f_Lot_mul
  D_Lot_add : Meth K A.C_Lot (PySem.dunder "add") A.f_Lot_add
  D_Lot_mod : Meth K A.C_Lot (PySem.dunder "mod") A.f_Lot_mod
  D_Lot_pow : Meth K A.C_Lot (PySem.dunder "pow") A.f_Lot_pow
  R_Lot_mul : Meth K A.C_Lot (dunderR "mul") A.f_Lot_rmul
  li_Lot : PySem.W.subIn K (.ref A.C_Lot) (.type "int") = some false
  I_Lot_lshift : IntOp K A.C_Lot "lshift"
  I_Lot_rshift : IntOp K A.C_Lot "rshift"
  I_Lot_mul : IntOp K A.C_Lot "mul"
  I_Lot_mod : IntOp K A.C_Lot "mod"
  I_Lot_pow : IntOp K A.C_Lot "pow"
  ty_Lot : ∀ (H : Hp) (a dx : Addr) (fs : List (Str × V)), H a = some (.ins A.C_Lot dx fs) → TyX K H (.ref a) (.ref A.C_Lot)
  rd_Lot : ∃ mc, ClX.CRead K A.C_Lot mc ∧ (∃ t, ClX.CVal K A.C_Lot mc "MOST" (.int 360) (.int 360 t))
  P_Lot_members : PropOf K A.C_Lot "members" A.p_Lot_members A.f_Lot_members
  M_Lot_len : Meth K A.C_Lot "__len__" A.f_Lot_len
  M_Lot_iter : Meth K A.C_Lot "__iter__" A.f_Lot_iter
  M_Lot_lshift : Meth K A.C_Lot "__lshift__" A.f_Lot_lshift
  M_Lot_rshift : Meth K A.C_Lot "__rshift__" A.f_Lot_rshift
  M_Lot_neg : Meth K A.C_Lot "__neg__" A.f_Lot_neg
  M_Lot_invert : Meth K A.C_Lot "__invert__" A.f_Lot_invert
  M_Lot_mul : Meth K A.C_Lot "__mul__" A.f_Lot_mul
  M_Lot_rmul : Meth K A.C_Lot "__rmul__" A.f_Lot_rmul
  M_Lot_add : Meth K A.C_Lot "__add__" A.f_Lot_add
  M_Lot_mod : Meth K A.C_Lot "__mod__" A.f_Lot_mod
  M_Lot_pow : Meth K A.C_Lot "__pow__" A.f_Lot_pow
section
variable {P : Program} {w : World} {K : PySem.W.Frag} {mg : Str → Option Value} {base : Heap} {A : Ads}
theorem sc_BadNumber_init : FnScope N_BadNumber_init (["self", "name", "value"] : List Str) (defScope s_BadNumber_init) := ⟨rfl, rfl, rfl, by decide +kernel, rfl, by decide +kernel, by decide +kernel⟩
theorem b_BadNumber_init (T : Txt K mg A) : Binds K A.d_BadNumber_init (["self", "name", "value"] : List Str) [] := T.F_BadNumber_init.binds (ps := (["self", "name", "value"] : List Str)) fun _ _ _ _ _ _ us hl => match us, hl with | [_, _, _], _ => rfl
theorem sc_RepeatedHour_init : FnScope N_RepeatedHour_init (["self", "hour"] : List Str) (defScope s_RepeatedHour_init) := ⟨rfl, rfl, rfl, by decide +kernel, rfl, by decide +kernel, by decide +kernel⟩
theorem b_RepeatedHour_init (T : Txt K mg A) : Binds K A.d_RepeatedHour_init (["self", "hour"] : List Str) [] := T.F_RepeatedHour_init.binds (ps := (["self", "hour"] : List Str)) fun _ _ _ _ _ _ us hl => match us, hl with | [_, _], _ => rfl
theorem sc_Meets_init : FnScope N_Meets_init (["self", "hour"] : List Str) (defScope s_Meets_init) := ⟨rfl, rfl, rfl, by decide +kernel, rfl, by decide +kernel, by decide +kernel⟩
theorem b_Meets_init (T : Txt K mg A) : Binds K A.d_Meets_init (["self", "hour"] : List Str) [] := T.F_Meets_init.binds (ps := (["self", "hour"] : List Str)) fun _ _ _ _ _ _ us hl => match us, hl with | [_, _], _ => rfl
theorem sc_NotADivisor_init : FnScope N_NotADivisor_init (["self", "number"] : List Str) (defScope s_NotADivisor_init) := ⟨rfl, rfl, rfl, by decide +kernel, rfl, by decide +kernel, by decide +kernel⟩
theorem b_NotADivisor_init (T : Txt K mg A) : Binds K A.d_NotADivisor_init (["self", "number"] : List Str) [] := T.F_NotADivisor_init.binds (ps := (["self", "number"] : List Str)) fun _ _ _ _ _ _ us hl => match us, hl with | [_, _], _ => rfl
theorem sc_Lot_init : FnScope N_Lot_init (["self", "hours", "members"] : List Str) (defScope s_Lot_init) := ⟨rfl, rfl, rfl, by decide +kernel, rfl, by decide +kernel, by decide +kernel⟩
theorem b_Lot_init (T : Txt K mg A) : Binds K A.d_Lot_init (["self", "hours", "members"] : List Str) [] := T.F_Lot_init.binds (ps := (["self", "hours", "members"] : List Str)) fun _ _ _ _ _ _ us hl => match us, hl with | [_, _, _], _ => rfl
theorem sc_Lot_members : FnScope N_Lot_members (["self"] : List Str) (defScope s_Lot_members) := ⟨rfl, rfl, rfl, by decide +kernel, rfl, by decide +kernel, by decide +kernel⟩
theorem b_Lot_members (T : Txt K mg A) : Binds K A.d_Lot_members (["self"] : List Str) [] := T.F_Lot_members.binds (ps := (["self"] : List Str)) fun _ _ _ _ _ _ us hl => match us, hl with | [_], _ => rfl
theorem sc_Lot_len : FnScope N_Lot_len (["self"] : List Str) (defScope s_Lot_len) := ⟨rfl, rfl, rfl, by decide +kernel, rfl, by decide +kernel, by decide +kernel⟩
theorem b_Lot_len (T : Txt K mg A) : Binds K A.d_Lot_len (["self"] : List Str) [] := T.F_Lot_len.binds (ps := (["self"] : List Str)) fun _ _ _ _ _ _ us hl => match us, hl with | [_], _ => rfl
theorem sc_Lot_iter : FnScope N_Lot_iter (["self"] : List Str) (defScope s_Lot_iter) := ⟨rfl, rfl, rfl, by decide +kernel, rfl, by decide +kernel, by decide +kernel⟩
theorem b_Lot_iter (T : Txt K mg A) : Binds K A.d_Lot_iter (["self"] : List Str) [] := T.F_Lot_iter.binds (ps := (["self"] : List Str)) fun _ _ _ _ _ _ us hl => match us, hl with | [_], _ => rfl
theorem sc_Lot_lshift : FnScope N_Lot_lshift (["self", "other"] : List Str) (defScope s_Lot_lshift) := ⟨rfl, rfl, rfl, by decide +kernel, rfl, by decide +kernel, by decide +kernel⟩
theorem b_Lot_lshift (T : Txt K mg A) : Binds K A.d_Lot_lshift (["self", "other"] : List Str) [] := T.F_Lot_lshift.binds (ps := (["self", "other"] : List Str)) fun _ _ _ _ _ _ us hl => match us, hl with | [_, _], _ => rfl
theorem sc_Lot_rshift : FnScope N_Lot_rshift (["self", "other"] : List Str) (defScope s_Lot_rshift) := ⟨rfl, rfl, rfl, by decide +kernel, rfl, by decide +kernel, by decide +kernel⟩
theorem b_Lot_rshift (T : Txt K mg A) : Binds K A.d_Lot_rshift (["self", "other"] : List Str) [] := T.F_Lot_rshift.binds (ps := (["self", "other"] : List Str)) fun _ _ _ _ _ _ us hl => match us, hl with | [_, _], _ => rfl
theorem sc_Lot_neg : FnScope N_Lot_neg (["self"] : List Str) (defScope s_Lot_neg) := ⟨rfl, rfl, rfl, by decide +kernel, rfl, by decide +kernel, by decide +kernel⟩
theorem b_Lot_neg (T : Txt K mg A) : Binds K A.d_Lot_neg (["self"] : List Str) [] := T.F_Lot_neg.binds (ps := (["self"] : List Str)) fun _ _ _ _ _ _ us hl => match us, hl with | [_], _ => rfl
theorem sc_Lot_invert : FnScope N_Lot_invert (["self"] : List Str) (defScope s_Lot_invert) := ⟨rfl, rfl, rfl, by decide +kernel, rfl, by decide +kernel, by decide +kernel⟩
theorem b_Lot_invert (T : Txt K mg A) : Binds K A.d_Lot_invert (["self"] : List Str) [] := T.F_Lot_invert.binds (ps := (["self"] : List Str)) fun _ _ _ _ _ _ us hl => match us, hl with | [_], _ => rfl
theorem sc_u_check_hours : FnScope N_u_check_hours (["one", "other"] : List Str) (defScope s_u_check_hours) := ⟨rfl, rfl, rfl, by decide +kernel, rfl, by decide +kernel, by decide +kernel⟩
theorem b_u_check_hours (T : Txt K mg A) : Binds K A.d_u_check_hours (["one", "other"] : List Str) [] := T.F_u_check_hours.binds (ps := (["one", "other"] : List Str)) fun _ _ _ _ _ _ us hl => match us, hl with | [_, _], _ => rfl
theorem sc_u_lot_of_each : FnScope N_u_lot_of_each (["hours", "numbers"] : List Str) (defScope s_u_lot_of_each) := ⟨rfl, rfl, rfl, by decide +kernel, rfl, by decide +kernel, by decide +kernel⟩
theorem b_u_lot_of_each (T : Txt K mg A) : Binds K A.d_u_lot_of_each (["hours", "numbers"] : List Str) [] := T.F_u_lot_of_each.binds (ps := (["hours", "numbers"] : List Str)) fun _ _ _ _ _ _ us hl => match us, hl with | [_, _], _ => rfl
theorem sc_Lot_mul : FnScope N_Lot_mul (["self", "other"] : List Str) (defScope s_Lot_mul) := ⟨rfl, rfl, rfl, by decide +kernel, rfl, by decide +kernel, by decide +kernel⟩
theorem b_Lot_mul (T : Txt K mg A) : Binds K A.d_Lot_mul (["self", "other"] : List Str) [] := T.F_Lot_mul.binds (ps := (["self", "other"] : List Str)) fun _ _ _ _ _ _ us hl => match us, hl with | [_, _], _ => rfl
theorem sc_Lot_rmul : FnScope N_Lot_rmul (["self", "other"] : List Str) (defScope s_Lot_rmul) := ⟨rfl, rfl, rfl, by decide +kernel, rfl, by decide +kernel, by decide +kernel⟩
theorem b_Lot_rmul (T : Txt K mg A) : Binds K A.d_Lot_rmul (["self", "other"] : List Str) [] := T.F_Lot_rmul.binds (ps := (["self", "other"] : List Str)) fun _ _ _ _ _ _ us hl => match us, hl with | [_, _], _ => rfl
theorem sc_Lot_add : FnScope N_Lot_add (["self", "other"] : List Str) (defScope s_Lot_add) := ⟨rfl, rfl, rfl, by decide +kernel, rfl, by decide +kernel, by decide +kernel⟩
theorem b_Lot_add (T : Txt K mg A) : Binds K A.d_Lot_add (["self", "other"] : List Str) [] := T.F_Lot_add.binds (ps := (["self", "other"] : List Str)) fun _ _ _ _ _ _ us hl => match us, hl with | [_, _], _ => rfl
theorem sc_Lot_mod : FnScope N_Lot_mod (["self", "other"] : List Str) (defScope s_Lot_mod) := ⟨rfl, rfl, rfl, by decide +kernel, rfl, by decide +kernel, by decide +kernel⟩
theorem b_Lot_mod (T : Txt K mg A) : Binds K A.d_Lot_mod (["self", "other"] : List Str) [] := T.F_Lot_mod.binds (ps := (["self", "other"] : List Str)) fun _ _ _ _ _ _ us hl => match us, hl with | [_, _], _ => rfl
theorem sc_Lot_pow : FnScope N_Lot_pow (["self", "other"] : List Str) (defScope s_Lot_pow) := ⟨rfl, rfl, rfl, by decide +kernel, rfl, by decide +kernel, by decide +kernel⟩
theorem b_Lot_pow (T : Txt K mg A) : Binds K A.d_Lot_pow (["self", "other"] : List Str) [] := T.F_Lot_pow.binds (ps := (["self", "other"] : List Str)) fun _ _ _ _ _ _ us hl => match us, hl with | [_, _], _ => rfl
theorem sc_meetings : FnScope N_meetings (["one", "other"] : List Str) (defScope s_meetings) := ⟨rfl, rfl, rfl, by decide +kernel, rfl, by decide +kernel, by decide +kernel⟩
theorem b_meetings (T : Txt K mg A) : Binds K A.d_meetings (["one", "other"] : List Str) [] := T.F_meetings.binds (ps := (["one", "other"] : List Str)) fun _ _ _ _ _ _ us hl => match us, hl with | [_, _], _ => rfl
theorem sc_differences : FnScope N_differences (["lot"] : List Str) (defScope s_differences) := ⟨rfl, rfl, rfl, by decide +kernel, rfl, by decide +kernel, by decide +kernel⟩
theorem b_differences (T : Txt K mg A) : Binds K A.d_differences (["lot"] : List Str) [] := T.F_differences.binds (ps := (["lot"] : List Str)) fun _ _ _ _ _ _ us hl => match us, hl with | [_], _ => rfl
theorem sc_u_law_cell : FnScope N_u_law_cell (["script", "k"] : List Str) (defScope s_u_law_cell) := ⟨rfl, rfl, rfl, by decide +kernel, rfl, by decide +kernel, by decide +kernel⟩
theorem b_u_law_cell (T : Txt K mg A) : Binds K A.d_u_law_cell (["script", "k"] : List Str) [] := T.F_u_law_cell.binds (ps := (["script", "k"] : List Str)) fun _ _ _ _ _ _ us hl => match us, hl with | [_, _], _ => rfl
theorem sc_u_law_draws : FnScope N_u_law_draws (["cell", "salt", "menu"] : List Str) (defScope s_u_law_draws) := ⟨rfl, rfl, rfl, by decide +kernel, rfl, by decide +kernel, by decide +kernel⟩
theorem b_u_law_draws (T : Txt K mg A) : Binds K A.d_u_law_draws (["cell", "salt", "menu"] : List Str) [] := T.F_u_law_draws.binds (ps := (["cell", "salt", "menu"] : List Str)) fun _ _ _ _ _ _ us hl => match us, hl with | [_, _, _], _ => rfl
theorem sc_u_law_is_int : FnScope N_u_law_is_int (["x"] : List Str) (defScope s_u_law_is_int) := ⟨rfl, rfl, rfl, by decide +kernel, rfl, by decide +kernel, by decide +kernel⟩
theorem b_u_law_is_int (T : Txt K mg A) : Binds K A.d_u_law_is_int (["x"] : List Str) [] := T.F_u_law_is_int.binds (ps := (["x"] : List Str)) fun _ _ _ _ _ _ us hl => match us, hl with | [_], _ => rfl
theorem sc_u_law_same : FnScope N_u_law_same (["got", "due"] : List Str) (defScope s_u_law_same) := ⟨rfl, rfl, rfl, by decide +kernel, rfl, by decide +kernel, by decide +kernel⟩
theorem b_u_law_same (T : Txt K mg A) : Binds K A.d_u_law_same (["got", "due"] : List Str) [] := T.F_u_law_same.binds (ps := (["got", "due"] : List Str)) fun _ _ _ _ _ _ us hl => match us, hl with | [_, _], _ => rfl
theorem sc_u_law_bits : FnScope N_u_law_bits (["n", "number"] : List Str) (defScope s_u_law_bits) := ⟨rfl, rfl, rfl, by decide +kernel, rfl, by decide +kernel, by decide +kernel⟩
theorem b_u_law_bits (T : Txt K mg A) : Binds K A.d_u_law_bits (["n", "number"] : List Str) [] := T.F_u_law_bits.binds (ps := (["n", "number"] : List Str)) fun _ _ _ _ _ _ us hl => match us, hl with | [_, _], _ => rfl
theorem sc_u_law_subset : FnScope N_u_law_subset (["cell", "salt", "n"] : List Str) (defScope s_u_law_subset) := ⟨rfl, rfl, rfl, by decide +kernel, rfl, by decide +kernel, by decide +kernel⟩
theorem b_u_law_subset (T : Txt K mg A) : Binds K A.d_u_law_subset (["cell", "salt", "n"] : List Str) [] := T.F_u_law_subset.binds (ps := (["cell", "salt", "n"] : List Str)) fun _ _ _ _ _ _ us hl => match us, hl with | [_, _, _], _ => rfl
theorem sc_u_law_gcd : FnScope N_u_law_gcd (["a", "b"] : List Str) (defScope s_u_law_gcd) := ⟨rfl, rfl, rfl, by decide +kernel, rfl, by decide +kernel, by decide +kernel⟩
theorem b_u_law_gcd (T : Txt K mg A) : Binds K A.d_u_law_gcd (["a", "b"] : List Str) [] := T.F_u_law_gcd.binds (ps := (["a", "b"] : List Str)) fun _ _ _ _ _ _ us hl => match us, hl with | [_, _], _ => rfl
theorem sc_u_law_parts : FnScope N_u_law_parts (["n"] : List Str) (defScope s_u_law_parts) := ⟨rfl, rfl, rfl, by decide +kernel, rfl, by decide +kernel, by decide +kernel⟩
theorem b_u_law_parts (T : Txt K mg A) : Binds K A.d_u_law_parts (["n"] : List Str) [] := T.F_u_law_parts.binds (ps := (["n"] : List Str)) fun _ _ _ _ _ _ us hl => match us, hl with | [_], _ => rfl
theorem sc_u_law_lots : FnScope N_u_law_lots (["script", "n", "index", "fitting"] : List Str) (defScope s_u_law_lots) := ⟨rfl, rfl, rfl, by decide +kernel, rfl, by decide +kernel, by decide +kernel⟩
theorem b_u_law_lots (T : Txt K mg A) : Binds K A.d_u_law_lots (["script", "n", "index", "fitting"] : List Str) [] := T.F_u_law_lots.binds (ps := (["script", "n", "index", "fitting"] : List Str)) fun _ _ _ _ _ _ us hl => match us, hl with | [_, _, _, _], _ => rfl
theorem sc_u_law_counts : FnScope N_u_law_counts (["members", "n"] : List Str) (defScope s_u_law_counts) := ⟨rfl, rfl, rfl, by decide +kernel, rfl, by decide +kernel, by decide +kernel⟩
theorem b_u_law_counts (T : Txt K mg A) : Binds K A.d_u_law_counts (["members", "n"] : List Str) [] := T.F_u_law_counts.binds (ps := (["members", "n"] : List Str)) fun _ _ _ _ _ _ us hl => match us, hl with | [_, _], _ => rfl
theorem sc_u_law_met : FnScope N_u_law_met (["residues", "n"] : List Str) (defScope s_u_law_met) := ⟨rfl, rfl, rfl, by decide +kernel, rfl, by decide +kernel, by decide +kernel⟩
theorem b_u_law_met (T : Txt K mg A) : Binds K A.d_u_law_met (["residues", "n"] : List Str) [] := T.F_u_law_met.binds (ps := (["residues", "n"] : List Str)) fun _ _ _ _ _ _ us hl => match us, hl with | [_, _], _ => rfl
theorem sc_u_law_fold : FnScope N_u_law_fold (["one", "two", "n"] : List Str) (defScope s_u_law_fold) := ⟨rfl, rfl, rfl, by decide +kernel, rfl, by decide +kernel, by decide +kernel⟩
theorem b_u_law_fold (T : Txt K mg A) : Binds K A.d_u_law_fold (["one", "two", "n"] : List Str) [] := T.F_u_law_fold.binds (ps := (["one", "two", "n"] : List Str)) fun _ _ _ _ _ _ us hl => match us, hl with | [_, _, _], _ => rfl
theorem sc_u_law_is_lot : FnScope N_u_law_is_lot (["lot", "n", "due"] : List Str) (defScope s_u_law_is_lot) := ⟨rfl, rfl, rfl, by decide +kernel, rfl, by decide +kernel, by decide +kernel⟩
theorem b_u_law_is_lot (T : Txt K mg A) : Binds K A.d_u_law_is_lot (["lot", "n", "due"] : List Str) [] := T.F_u_law_is_lot.binds (ps := (["lot", "n", "due"] : List Str)) fun _ _ _ _ _ _ us hl => match us, hl with | [_, _, _], _ => rfl
theorem sc_u_law_factor : FnScope N_u_law_factor (["n", "number"] : List Str) (defScope s_u_law_factor) := ⟨rfl, rfl, rfl, by decide +kernel, rfl, by decide +kernel, by decide +kernel⟩
theorem b_u_law_factor (T : Txt K mg A) : Binds K A.d_u_law_factor (["n", "number"] : List Str) [] := T.F_u_law_factor.binds (ps := (["n", "number"] : List Str)) fun _ _ _ _ _ _ us hl => match us, hl with | [_, _], _ => rfl
theorem sc_u_law_shift : FnScope N_u_law_shift (["number"] : List Str) (defScope s_u_law_shift) := ⟨rfl, rfl, rfl, by decide +kernel, rfl, by decide +kernel, by decide +kernel⟩
theorem b_u_law_shift (T : Txt K mg A) : Binds K A.d_u_law_shift (["number"] : List Str) [] := T.F_u_law_shift.binds (ps := (["number"] : List Str)) fun _ _ _ _ _ _ us hl => match us, hl with | [_], _ => rfl
theorem sc_u_law_part : FnScope N_u_law_part (["n", "number"] : List Str) (defScope s_u_law_part) := ⟨rfl, rfl, rfl, by decide +kernel, rfl, by decide +kernel, by decide +kernel⟩
theorem b_u_law_part (T : Txt K mg A) : Binds K A.d_u_law_part (["n", "number"] : List Str) [] := T.F_u_law_part.binds (ps := (["n", "number"] : List Str)) fun _ _ _ _ _ _ us hl => match us, hl with | [_, _], _ => rfl
theorem sc_u_law_kind : FnScope N_u_law_kind (["n", "kind", "number"] : List Str) (defScope s_u_law_kind) := ⟨rfl, rfl, rfl, by decide +kernel, rfl, by decide +kernel, by decide +kernel⟩
theorem b_u_law_kind (T : Txt K mg A) : Binds K A.d_u_law_kind (["n", "kind", "number"] : List Str) [] := T.F_u_law_kind.binds (ps := (["n", "kind", "number"] : List Str)) fun _ _ _ _ _ _ us hl => match us, hl with | [_, _, _], _ => rfl
theorem sc_u_law_done : FnScope N_u_law_done (["lot", "n", "kind", "number"] : List Str) (defScope s_u_law_done) := ⟨rfl, rfl, rfl, by decide +kernel, rfl, by decide +kernel, by decide +kernel⟩
theorem b_u_law_done (T : Txt K mg A) : Binds K A.d_u_law_done (["lot", "n", "kind", "number"] : List Str) [] := T.F_u_law_done.binds (ps := (["lot", "n", "kind", "number"] : List Str)) fun _ _ _ _ _ _ us hl => match us, hl with | [_, _, _, _], _ => rfl
theorem sc_u_law_sum : FnScope N_u_law_sum (["one", "two"] : List Str) (defScope s_u_law_sum) := ⟨rfl, rfl, rfl, by decide +kernel, rfl, by decide +kernel, by decide +kernel⟩
theorem b_u_law_sum (T : Txt K mg A) : Binds K A.d_u_law_sum (["one", "two"] : List Str) [] := T.F_u_law_sum.binds (ps := (["one", "two"] : List Str)) fun _ _ _ _ _ _ us hl => match us, hl with | [_, _], _ => rfl
theorem sc_u_law_told : FnScope N_u_law_told (["lot", "n", "kind", "number"] : List Str) (defScope s_u_law_told) := ⟨rfl, rfl, rfl, by decide +kernel, rfl, by decide +kernel, by decide +kernel⟩
theorem b_u_law_told (T : Txt K mg A) : Binds K A.d_u_law_told (["lot", "n", "kind", "number"] : List Str) [] := T.F_u_law_told.binds (ps := (["lot", "n", "kind", "number"] : List Str)) fun _ _ _ _ _ _ us hl => match us, hl with | [_, _, _, _], _ => rfl
theorem sc_u_law_copied_due : FnScope N_u_law_copied_due (["members", "counts", "n", "times"] : List Str) (defScope s_u_law_copied_due) := ⟨rfl, rfl, rfl, by decide +kernel, rfl, by decide +kernel, by decide +kernel⟩
theorem b_u_law_copied_due (T : Txt K mg A) : Binds K A.d_u_law_copied_due (["members", "counts", "n", "times"] : List Str) [] := T.F_u_law_copied_due.binds (ps := (["members", "counts", "n", "times"] : List Str)) fun _ _ _ _ _ _ us hl => match us, hl with | [_, _, _, _], _ => rfl
theorem sc_u_law_residues_due : FnScope N_u_law_residues_due (["members", "counts", "n", "part"] : List Str) (defScope s_u_law_residues_due) := ⟨rfl, rfl, rfl, by decide +kernel, rfl, by decide +kernel, by decide +kernel⟩
theorem b_u_law_residues_due (T : Txt K mg A) : Binds K A.d_u_law_residues_due (["members", "counts", "n", "part"] : List Str) [] := T.F_u_law_residues_due.binds (ps := (["members", "counts", "n", "part"] : List Str)) fun _ _ _ _ _ _ us hl => match us, hl with | [_, _, _, _], _ => rfl
theorem sc_u_law_due : FnScope N_u_law_due (["members", "counts", "n", "kind", "number"] : List Str) (defScope s_u_law_due) := ⟨rfl, rfl, rfl, by decide +kernel, rfl, by decide +kernel, by decide +kernel⟩
theorem b_u_law_due (T : Txt K mg A) : Binds K A.d_u_law_due (["members", "counts", "n", "kind", "number"] : List Str) [] := T.F_u_law_due.binds (ps := (["members", "counts", "n", "kind", "number"] : List Str)) fun _ _ _ _ _ _ us hl => match us, hl with | [_, _, _, _, _], _ => rfl
theorem sc_law : FnScope N_law (["script"] : List Str) (defScope s_law) := ⟨rfl, rfl, rfl, by decide +kernel, rfl, by decide +kernel, by decide +kernel⟩
theorem b_law (T : Txt K mg A) : Binds K A.d_law (["script"] : List Str) [] := T.F_law.binds (ps := (["script"] : List Str)) fun _ _ _ _ _ _ us hl => match us, hl with | [_], _ => rfl
theorem ok_BadNumber_init (T : Txt K mg A) : FnOk P w K mg base CX0 1 A.f_BadNumber_init A.d_BadNumber_init (["self", "name", "value"] : List Str) (spErr2 K A.C_BadNumber "name" "value") := by
  refine T.F_BadNumber_init.ok sc_BadNumber_init (fun vs H Q E h => ?_) (fun cdv Ar outer s H vs Q E hr h => ?_)
  · obtain ⟨a, x, y, rfl, _⟩ := h
    rfl
  · obtain ⟨a, x, y, rfl, hC, ha, k⟩ := h
    refine ⟨_, (pss_cons (ps_ost (pv 0) (pv 1))
        (pss_one (ps_ost (pv 0) (pv 2)))), ?_⟩
    refine ⟨_, rfl, _, rfl, a, _, rfl, hC, T.nf_BadNumber_name, .inl ⟨ha, fun d hd hne => ?_⟩⟩
    refine ⟨_, rfl, _, rfl, a, _, rfl, hC, T.nf_BadNumber_value, .inr ⟨d, _, upd_same, ?_, by show (1 : Nat) ≤ 900; decide, k d hd hne⟩⟩
    rw [upd_ne hne, upd_same]
theorem ok_RepeatedHour_init (T : Txt K mg A) : FnOk P w K mg base CX0 1 A.f_RepeatedHour_init A.d_RepeatedHour_init (["self", "hour"] : List Str) (spErr1 K A.C_RepeatedHour "hour") := by
  refine T.F_RepeatedHour_init.ok sc_RepeatedHour_init (fun vs H Q E h => ?_) (fun cdv Ar outer s H vs Q E hr h => ?_)
  · obtain ⟨a, x, rfl, _⟩ := h
    rfl
  · obtain ⟨a, x, rfl, hC, ha, k⟩ := h
    refine ⟨_, (pss_one (ps_ost (pv 0) (pv 1))), ?_⟩
    exact ⟨_, rfl, _, rfl, a, _, rfl, hC, T.nf_RepeatedHour_hour, .inl ⟨ha, fun d hd hne => k d hd hne⟩⟩
theorem ok_Meets_init (T : Txt K mg A) : FnOk P w K mg base CX0 1 A.f_Meets_init A.d_Meets_init (["self", "hour"] : List Str) (spErr1 K A.C_Meets "hour") := by
  refine T.F_Meets_init.ok sc_Meets_init (fun vs H Q E h => ?_) (fun cdv Ar outer s H vs Q E hr h => ?_)
  · obtain ⟨a, x, rfl, _⟩ := h
    rfl
  · obtain ⟨a, x, rfl, hC, ha, k⟩ := h
    refine ⟨_, (pss_one (ps_ost (pv 0) (pv 1))), ?_⟩
    exact ⟨_, rfl, _, rfl, a, _, rfl, hC, T.nf_Meets_hour, .inl ⟨ha, fun d hd hne => k d hd hne⟩⟩
theorem ok_NotADivisor_init (T : Txt K mg A) : FnOk P w K mg base CX0 1 A.f_NotADivisor_init A.d_NotADivisor_init (["self", "number"] : List Str) (spErr1 K A.C_NotADivisor "number") := by
  refine T.F_NotADivisor_init.ok sc_NotADivisor_init (fun vs H Q E h => ?_) (fun cdv Ar outer s H vs Q E hr h => ?_)
  · obtain ⟨a, x, rfl, _⟩ := h
    rfl
  · obtain ⟨a, x, rfl, hC, ha, k⟩ := h
    refine ⟨_, (pss_one (ps_ost (pv 0) (pv 1))), ?_⟩
    exact ⟨_, rfl, _, rfl, a, _, rfl, hC, T.nf_NotADivisor_number, .inl ⟨ha, fun d hd hne => k d hd hne⟩⟩

def spLotInit (K : PySem.W.Frag) (A : Ads) : Sp := fun vs H Q E => ∃ (x dx a : Addr) (n : Int) (ms : List Int), vs = [.ref x, .int n, .ref a] ∧ H x = some (.ins A.C_Lot dx []) ∧ SqL K H a (ms.map V.int) ∧
  (¬ (1 ≤ n ∧ n ≤ 360) → ∀ d H', Ex H H' → H' d = some (.xd [("value", .int n), ("name", .str "hours")]) → E (.ref A.C_BadNumber) (some d) H') ∧
  (1 ≤ n ∧ n ≤ 360 → ∀ r, scanR n [] ms = some r → ∀ d H', Ex H H' → H' d = some (.xd [("hour", .int r)]) → E (.ref A.C_RepeatedHour) (some d) H') ∧
  (1 ≤ n ∧ n ≤ 360 → scanR n [] ms = none → ∀ l H', (∀ b o, b ≠ x → H b = some o → H' b = some o) → H l = none → H' x = some (.ins A.C_Lot dx (lotF n l)) → H' l = some (.lst ((resid n (ms.map (· % n))).map V.int)) → Q .non H')
theorem ok_Lot_init (T : Txt K mg A) : FnOk P w K mg base (L2.CX P w) 4 A.f_Lot_init A.d_Lot_init (["self", "hours", "members"] : List Str) (spLotInit K A) := by
  refine T.F_Lot_init.okX sc_Lot_init (fun vs H Q E h => ?_) (fun cdv Ar outer s H vs Q E hr h => ?_)
  · obtain ⟨x, dx, a, n, ms, rfl, _⟩ := h
    rfl
  · obtain ⟨x, dx, a, n, ms, rfl, hx, hS, k1, k2, k3⟩ := h
    refine ⟨_, (pss_cons (ps_if (PW.pt (pw_or (pt_cmpR op_lt (pv 1) pe_int (nomark _)) (pw_or1 (pt_cmpR op_gt (pv 1) (ClX.pe_cval (pe_glob (v := .ref A.C_Lot) rfl T.g_Lot rfl)) (nomark _))))) (pss_one (ps_raise rfl (takes_of rfl rfl rfl rfl) (pmk_oex T.ox_BadNumber T.ni_BadNumber T.ti_BadNumber (ok_BadNumber_init T) (hr.mono (by omega)) (b_BadNumber_init T) .nil pass0 rfl T.g_BadNumber (pa_cons pe_str (pa_cons (pv 1) pa_nil))))) pss_nil)
        (pss_cons (ps_set (i := 3) sc_Lot_init.nd rfl (Or.inr rfl) (pe_op op_rep (pe_lst (pa_cons pe_bl pa_nil)) (pv 1)))
        (pss_cons (ps_for (passes_of rfl) rfl (pi_listK (pv 2)) (pg_name (i := 4) sc_Lot_init.nd rfl (Or.inl rfl)) (pss_cons (ps_if (pt_val (pe_ix ix_lK (pv 3) (pe_op op_mod (pv 4) (pv 1)) (fun _ _ => rfl))) (pss_one (ps_raise rfl (takes_of rfl rfl rfl rfl) (pmk_oex T.ox_RepeatedHour T.ni_RepeatedHour T.ti_RepeatedHour (ok_RepeatedHour_init T) (hr.mono (by omega)) (b_RepeatedHour_init T) .nil pass0 rfl T.g_RepeatedHour (pa_cons (pe_op op_mod (pv 4) (pv 1)) pa_nil)))) pss_nil)
        (pss_one (ps_asg pe_bl (pg_sub (pv 3) (pe_op op_mod (pv 4) (pv 1)) set_list)))))
        (pss_cons (ps_fld (pv 0) (pv 1) rfl)
        (pss_one (ps_fld (pv 0) (pe_lc (own := [("hour", 5)]) (g := gName 5) rfl sc_Lot_init.nd (pi_range1 rfl T.z_range (pa_cons (pv 1) pa_nil)) (blkOk_by (own := [("hour", 5)]) (N := N_Lot_init) (sc := defScope s_Lot_init) (by decide +kernel)) (fun _ _ _ _ _ => (pg_name (i := 5) sc_Lot_init.nd rfl (Or.inl rfl))) (fun _ _ _ _ _ => (pts_one (pt_val (pe_ix ix_lK (pv 3) (pv 5) (fun _ _ => rfl))))) (fun _ _ _ _ _ => (pv 5))) rfl)))))), ?_⟩
    obtain ⟨mc, rdL, tL, cvL⟩ := T.rd_Lot
    refine ⟨_, rfl, n, 1, rfl, rfl, _, rfl, ?_⟩
    by_cases hn : 1 ≤ n ∧ n ≤ 360
    case neg =>
      have fin := raise2 (C := A.C_BadNumber) (f := "name") (g := "value") (σ := L2.start N_Lot_init [V.ref x, V.int n, V.ref a]) (ta := tCons (tC (.str "hours")) (tCons (tVar 1) tNil)) (x := .str "hours") (y := .int n) T.ox_BadNumber (fun Q q => ⟨_, rfl, q⟩) (k1 hn)
      by_cases c1 : n < 1
      · exact wayT c1 (iteT fin)
      · exact wayF c1 ⟨_, rfl, A.C_Lot, mc, _, _, rfl, rdL, cvL, n, 360, rfl, rfl, _, rfl, wayT (show 360 < n by omega) fin⟩
    refine wayF (by omega) ⟨_, rfl, A.C_Lot, mc, _, _, rfl, rdL, cvL, n, 360, rfl, rfl, _, rfl, wayF (by omega) ?_⟩
    refine ⟨by show 1 ≤ sizeLine; decide, fun q hq => ⟨_, rfl, q, n, _, rfl, rfl, upd_same, by omega, by omega, ?_, fun tk htk => ?_⟩⟩
    · show 1 * n.toNat ≤ sizeLine
      exact Nat.le_trans (show 1 * n.toNat ≤ 360 by omega) (by decide)
    have htk0 : H tk = none := fresh_back (Ex.new hq) htk
    have ex0 : ∀ o, Ex H (upd (upd H q (.lst [.bl false])) tk o) := fun o => (Ex.new hq).trans (Ex.new htk)
    rw [flags_nil]
    dsimp only
    refine q_forLn (K := K) (a := a) (xs := ms.map V.int) (ev_var rfl) (ex_l (ex0 _) hS)
      (fun i σ' H' => ∃ mv : Option V, σ' = [some (.ref x), some (.int n), some (.ref a), some (.ref tk), mv, none] ∧ Ex H H' ∧ H' tk = some (.lst (flags n.toNat ((ms.take i).map (· % n)))) ∧
        scanR n [] ms = scanR n ((ms.take i).map (· % n)) (ms.drop i))
      (fun H2 e2 => ⟨none, rfl, (ex0 _).trans e2, e2 _ _ upd_same, rfl⟩) (fun i σ' H' _ ⟨_, _, e, _⟩ => ex_l e hS) ?_ ?_
    · rintro i y σ' H' hi ⟨mv, rfl, ex, ht, hsc⟩
      obtain ⟨m, rfl, hm⟩ := some_int hi
      have m0 : 0 ≤ m % n := Int.emod_nonneg _ (by omega)
      have m1 : m % n < n := Int.emod_lt_of_pos _ (by omega)
      obtain ⟨j, hj⟩ : ∃ j : Nat, m % n = (j : Int) := ⟨(m % n).toNat, by omega⟩
      have hjn : j < n.toNat := by omega
      have hil : i < ms.length := (List.getElem?_eq_some_iff.mp hm).1
      have hd : ms.drop i = m :: ms.drop (i + 1) := by
        rw [List.drop_eq_getElem_cons hil]
        rw [List.getElem?_eq_getElem hil] at hm
        rw [Option.some.inj hm]
      have htake : (ms.take (i + 1)).map (· % n) = (ms.take i).map (· % n) ++ [(j : Int)] := by
        rw [List.take_succ, hm, List.map_append]
        show _ ++ [m % n] = _
        rw [hj]
      have hat : ∀ S : List Int, atI (flags n.toNat S) (m % n) = some (.bl (decide ((j : Int) ∈ S))) := fun S => by
        rw [hj]
        exact atI_nat (flags_get hjn)
      refine ⟨_, rfl, _, rfl, _, rfl, _, _, rfl, rfl, (by show (0 : Int) < n; omega), tk, _, _, _, rfl, rfl, SqL.of ht, hat _, _, rfl, ?_⟩
      rw [hd] at hsc
      refine way (fun hc => ?_) (fun hc => ?_)
      · refine raise1 (C := A.C_RepeatedHour) (f := "hour") (x := .int (m % n)) T.ox_RepeatedHour (fun Q q => ⟨_, rfl, _, rfl, _, _, rfl, rfl, (by show (0 : Int) < n; omega), q⟩) (fun d H2 e2 h2 => k2 hn (m % n) ?_ d H2 (ex.trans e2) h2)
        rw [hsc]
        unfold scanR
        rw [if_pos (by rw [hj]; exact hc)]
      · refine ⟨_, rfl, _, rfl, _, rfl, _, _, rfl, rfl, (by show (0 : Int) < n; omega), tk, _, _, j, rfl, rfl, ht, ?_, ?_⟩
        · show ixN (flags n.toNat _).length (m % n) = some j
          rw [hj]
          exact ixN_nat (by rw [flags_len]; exact hjn)
        · refine ⟨_, rfl, Ex.mut ex htk0, ?_, ?_⟩
          · rw [upd_same, flags_set hjn, htake]
          · rw [hsc, htake]
            conv => lhs; unfold scanR
            rw [if_neg (by rw [hj]; exact hc), hj]
    · rintro σ' H' ⟨mv, rfl, ex, ht, hsc⟩
      rw [List.length_map, List.take_length] at ht hsc
      rw [List.drop_length] at hsc
      have hx' := ex _ _ hx
      refine ⟨_, rfl, _, rfl, x, _, dx, [], rfl, hx', T.cl_Lot, T.na_Lot_hours, by decide, ?_⟩
      have xtk : tk ≠ x := fun e => by rw [e, hx] at htk0; cases htk0
      have ev : EvL _ [some (V.ref x), some (V.int n), some (V.ref a), some (V.ref tk), mv, none] (upd H' x (.ins A.C_Lot dx (putF "hours" (.int n) []))) (given n.toNat (fun h => decide ((h : Int) ∈ ms.map (· % n))) fun h => .int (h : Int)) :=
        el_rng1 (tt := tB (tOp (rIxL K) (tVar 3) (tVar 5))) (te := tVar 5) (ta := tCons (tVar 1) tNil) (j := 5) (vs := [5]) _ _ (ea_cons (ev_var rfl) ea_nil) (by omega) (fun x => rfl)
          (fun i H1 e1 hi => et_B (ev_op (ev_var rfl) (ev_var rfl) (rv_ixL (sq_of (e1 _ _ (by rw [upd_ne xtk]; exact ht))) (atI_nat (flags_get (by omega))))))
          (fun i H1 _ hi _ => ev_var rfl)
      dsimp only [sFld]
      refine ev _ (Ex.refl _) _ fun l H4 hl e4 h4 => ?_
      have hl0 : H' l = none := by
        by_cases e : l = x
        · rw [e, upd_same] at hl; cases hl
        · rw [upd_ne e] at hl; exact hl
      refine ⟨_, rfl, x, _, dx, _, rfl, e4 _ _ upd_same, T.cl_Lot, T.na_Lot_members, (by show 1 < 1000; decide), ?_⟩
      have lx : l ≠ x := fun e => by rw [e, upd_same] at hl; cases hl
      refine k3 hn (by rw [hsc]; rfl) l _ (fun b o hb ho => ?_) (fresh_back ex hl0) ?_ ?_
      · rw [upd_ne hb]
        exact e4 _ _ (by rw [upd_ne hb]; exact ex _ _ ho)
      · rw [upd_same, putF2]
        rfl
      · rw [upd_ne lx, h4, given_pick]
        rfl
/-- a lot is made: what spLotInit asks is answered by what is wished of the lot and of the errors -/
theorem mk_lot {K : PySem.W.Frag} {A : Ads} {H : Hp} {Q : VK} {E : XK} {l : Addr} {n : Int} {ms : List Int} (hS : SqL K H l (ms.map V.int))
    (k1 : ¬ (1 ≤ n ∧ n ≤ 360) → ∀ d H', Ex H H' → H' d = some (.xd [("value", .int n), ("name", .str "hours")]) → E (.ref A.C_BadNumber) (some d) H')
    (k2 : 1 ≤ n ∧ n ≤ 360 → ∀ r, scanR n [] ms = some r → ∀ d H', Ex H H' → H' d = some (.xd [("hour", .int r)]) → E (.ref A.C_RepeatedHour) (some d) H')
    (k3 : 1 ≤ n ∧ n ≤ 360 → scanR n [] ms = none → ∀ a dx m H', H a = none → H m = none → Ex H H' → H' a = some (.ins A.C_Lot dx (lotF n m)) → H' m = some (.lst ((resid n (ms.map (· % n))).map V.int)) → Q (.ref a) H') :
    ∀ x dx, H x = none → H dx = none → dx ≠ x → spLotInit K A (.ref x :: ([.int n, .ref l] ++ [])) (upd (upd H dx (.own x)) x (.ins A.C_Lot dx [])) (fun v H2 => v = .non ∧ Q (.ref x) H2) E := by
  intro x dx hx hdx hne
  have e0 : Ex H (upd (upd H dx (.own x)) x (.ins A.C_Lot dx [])) := fun b o hb => by rw [upd_ne (ne_of_none hb hx), upd_ne (ne_of_none hb hdx)]; exact hb
  refine ⟨x, dx, l, n, ms, rfl, upd_same, ex_l e0 hS, fun hn d H' e hd => k1 hn d H' (e0.trans e) hd, fun hn r hr d H' e hd => k2 hn r hr d H' (e0.trans e) hd, fun hn hs m H' hk hm h1 h2 => ⟨rfl, k3 hn hs x dx m H' hx (fresh_back e0 hm) (fun b o hb => ?_) h1 h2⟩⟩
  exact hk b o (ne_of_none hb hx) (e0 b o hb)
/-- .. what is wished told of the address -/
theorem mk_lotP {K : PySem.W.Frag} {A : Ads} {H : Hp} {P : Addr → Hp → Prop} {E : XK} {l : Addr} {n : Int} {ms : List Int} (hS : SqL K H l (ms.map V.int)) (hn : 1 ≤ n ∧ n ≤ 360) (hs : scanR n [] ms = none)
    (k : ∀ a dx m H', H a = none → H m = none → Ex H H' → H' a = some (.ins A.C_Lot dx (lotF n m)) → H' m = some (.lst ((resid n (ms.map (· % n))).map V.int)) → P a H') :
    ∀ x dx, H x = none → H dx = none → dx ≠ x → spLotInit K A (.ref x :: ([.int n, .ref l] ++ [])) (upd (upd H dx (.own x)) x (.ins A.C_Lot dx [])) (fun v H2 => v = .non ∧ P x H2) E := by
  intro x dx hx hdx hne
  have h := mk_lot (K := K) (A := A) (H := H) (Q := fun v H2 => ∃ y, v = .ref y ∧ P y H2) (E := E) (l := l) (n := n) (ms := ms) hS (fun z => absurd hn z) (fun _ r hr => by rw [hs] at hr; cases hr) (fun _ _ a dx m H' ha hm e g1 g2 => ⟨a, rfl, k a dx m H' ha hm e g1 g2⟩) x dx hx hdx hne
  obtain ⟨x1, dx1, a1, n1, ms1, e1, h1, h2, h3, h4, h5⟩ := h
  refine ⟨x1, dx1, a1, n1, ms1, e1, h1, h2, h3, h4, fun z1 z2 l H' a b c d => ?_⟩
  obtain ⟨r1, y, r2, r3⟩ := h5 z1 z2 l H' a b c d
  cases r2
  exact ⟨r1, r3⟩
def spLotMembers (A : Ads) : Sp := fun vs H Q _ => ∃ (a dx l : Addr) (n : Int) (ms : List Int), vs = [.ref a] ∧ H a = some (.ins A.C_Lot dx (lotF n l)) ∧ H l = some (.lst (ms.map V.int)) ∧
  ∀ p H', H p = none → Ex H H' → H' p = some (.lst (ms.map V.int)) → Q (.ref p) H' 
theorem ok_Lot_members (T : Txt K mg A) : FnOk P w K mg base CX0 1 A.f_Lot_members A.d_Lot_members (["self"] : List Str) (spLotMembers A) := by
  refine T.F_Lot_members.ok sc_Lot_members (fun vs H Q E h => ?_) (fun cdv Ar outer s H vs Q E hr h => ?_)
  · obtain ⟨a, dx, l, n, ms, rfl, _⟩ := h
    rfl
  · obtain ⟨a, dx, l, n, ms, rfl, h1, h2, k⟩ := h
    refine ⟨_, (pss_one (ps_ret (pe_callTy list_K (by rfl) T.z_list (by decide +kernel) (pa_cons (pe_fldK (pv 0) rfl) pa_nil)))), ?_⟩
    exact ⟨_, rfl, a, _, dx, _, _, rfl, h1, T.cl_Lot, T.na_Lot_members, rfl, l, _, rfl, .inl (SqL.of h2), fun p hp => k p _ hp (Ex.new hp) upd_same⟩

/-- a lot is made of numbers with different residues -/
theorem mk_lotS {K : PySem.W.Frag} {A : Ads} {H : Hp} {Q : VK} {E : XK} {l : Addr} {n : Int} {ms : List Int} {p : Int → Bool} (hS : SqL K H l (ms.map V.int)) (hn : 1 ≤ n ∧ n ≤ 360) (hd : (ms.map (· % n)).Nodup)
    (hp : ∀ z, 0 ≤ z → z < n → (z ∈ ms.map (· % n) ↔ p z = true)) (k : ∀ v H', Ex H H' → NewP (fun G => LotIs A.C_Lot v G n (hrs n p)) H H' → Q v H') :
    ∀ x dx, H x = none → H dx = none → dx ≠ x → spLotInit K A (.ref x :: ([.int n, .ref l] ++ [])) (upd (upd H dx (.own x)) x (.ins A.C_Lot dx [])) (fun v H2 => v = .non ∧ Q (.ref x) H2) E := by
  have h := mk_lotP (A := A) (H := H) (P := fun a H2 => Q (.ref a) H2) (E := E) hS hn (scan_nodup hd fun x _ z => by cases z) fun a dx m H' ha hm e g1 g2 => k (.ref a) H' e fun G g => ⟨⟨a, dx, m, rfl, g _ _ ha g1, by rw [g _ _ hm g2, resid_hrs hp]⟩, hn, asc_hrs (by omega)⟩
  exact h
theorem en_mkLot {K : PySem.W.Frag} {A : Ads} {E : XK} {σ : L2.St} {H : Hp} {tn tl : TE} {n : Int} {ms : List Int} {p : Int → Bool} (hs : Ev tn σ H (.int n)) (hl : EvR tl σ H fun v H1 => ∃ p, v = .ref p ∧ SqL K H1 p (ms.map V.int)) (hn : 1 ≤ n ∧ n ≤ 360) (hd : (ms.map (· % n)).Nodup)
    (hp : ∀ z, 0 ≤ z → z < n → (z ∈ ms.map (· % n) ↔ p z = true)) : EvNew (tMake A.C_Lot (spLotInit K A) [] E (tCons tn (tCons tl tNil))) σ H fun v H1 => LotIs A.C_Lot v H1 n (hrs n p) := fun H1 e Q q =>
  hs H1 e _ fun H2 e2 => hl H2 (e.trans e2) _ fun v H3 e3 hv => by
    obtain ⟨l, rfl, hS⟩ := hv
    exact mk_lotS hS hn hd hp fun w H' e' hw => q w H' ((e2.trans e3).trans e') (hw.out (e2.trans e3) (Ex.refl _))
/-- .. of ascending hours -/
theorem en_mkAsc {K : PySem.W.Frag} {A : Ads} {E : XK} {σ : L2.St} {H : Hp} {tn tl : TE} {n : Int} {xs : List Int} (hs : Ev tn σ H (.int n)) (hl : EvR tl σ H fun v H1 => ∃ p, v = .ref p ∧ SqL K H1 p (xs.map V.int)) (hn : 1 ≤ n ∧ n ≤ 360) (hA : Asc 0 n xs) :
    EvNew (tMake A.C_Lot (spLotInit K A) [] E (tCons tn (tCons tl tNil))) σ H fun v H1 => LotIs A.C_Lot v H1 n xs := by
  have h := en_mkLot (K := K) (A := A) (E := E) (p := fun z => decide (z ∈ xs)) hs hl hn (by rw [asc_mod hA]; exact hA.nodup) (fun z z0 z1 => by rw [mem_self hA]; simp)
  rw [hrs_eq (by omega) hA fun z _ _ => by simp] at h
  exact h
theorem er_mkAsc {K : PySem.W.Frag} {A : Ads} {E : XK} {σ : L2.St} {H : Hp} {tn tl : TE} {n : Int} {xs : List Int} (hs : Ev tn σ H (.int n)) (hl : EvR tl σ H fun v H1 => ∃ p, v = .ref p ∧ SqL K H1 p (xs.map V.int)) (hn : 1 ≤ n ∧ n ≤ 360) (hA : Asc 0 n xs) :
    EvR (tMake A.C_Lot (spLotInit K A) [] E (tCons tn (tCons tl tNil))) σ H fun v H1 => LotIs A.C_Lot v H1 n xs := (en_mkAsc hs hl hn hA).er
theorem er_listK {K : PySem.W.Frag} {σ : L2.St} {H : Hp} {te : TE} {xs : List V} (h : EvR te σ H fun v H1 => ∃ p, v = .ref p ∧ SqL K H1 p xs) : EvR (tCB (rListK K) (tCons te tNil)) σ H fun v H1 => ∃ p, v = .ref p ∧ SqL K H1 p xs := fun H1 e Q q =>
  h H1 e _ fun v H2 e2 hv => by
    obtain ⟨p, rfl, hp⟩ := hv
    exact ⟨p, xs, rfl, .inl hp, fun l hl => q _ _ (e2.trans (Ex.new hl)) ⟨l, rfl, SqL.of upd_same⟩⟩
theorem er_list {K : PySem.W.Frag} {σ : L2.St} {H : Hp} {te : TE} {xs : List V} (h : EvL te σ H xs) : EvR te σ H fun v H1 => ∃ p, v = .ref p ∧ SqL K H1 p xs := fun H1 e Q q => h H1 e Q fun p H2 _ e2 h2 => q _ H2 e2 ⟨p, rfl, sq_of h2⟩
theorem er_held {K : PySem.W.Frag} {σ : L2.St} {H : Hp} {i : Nat} {p : Addr} {xs : List V} (h : σ[i]? = some (some (.ref p))) (hp : SqL K H p xs) : EvR (tVar i) σ H fun v H1 => ∃ p, v = .ref p ∧ SqL K H1 p xs := er_ev (ev_var h) fun H1 e => ⟨p, rfl, ex_l e hp⟩
/-- what an operator of a lot promises -/
def spLot1 (A : Ads) (g : Int → List Int → List Int) : Sp := fun vs H Q _ => ∃ (v : V) (n : Int) (xs : List Int), vs = [v] ∧ LotIs A.C_Lot v H n xs ∧ ∀ w H', Ex H H' → NewP (fun G => LotIs A.C_Lot w G n (g n xs)) H H' → Q w H'
def spLotI (A : Ads) (g : Int → Int → List Int → List Int) : Sp := fun vs H Q _ => ∃ (v : V) (n k : Int) (xs : List Int), vs = [v, .int k] ∧ LotIs A.C_Lot v H n xs ∧ ∀ w H', Ex H H' → NewP (fun G => LotIs A.C_Lot w G n (g n k xs)) H H' → Q w H'
def spLot2 (A : Ads) (g : Int → List Int → List Int → List Int) : Sp := fun vs H Q E => ∃ (v w : V) (n m : Int) (xs ys : List Int), vs = [v, w] ∧ LotIs A.C_Lot v H n xs ∧ LotIs A.C_Lot w H m ys ∧
  (n ≠ m → ∀ H', Ex H H' → E (.ref A.C_OtherHours) none H') ∧ (n = m → ∀ z H', Ex H H' → NewP (fun G => LotIs A.C_Lot z G n (g n xs ys)) H H' → Q z H')
def spLotLen (A : Ads) : Sp := fun vs H Q _ => ∃ (v : V) (n : Int) (xs : List Int), vs = [v] ∧ LotIs A.C_Lot v H n xs ∧ ∀ H', Ex H H' → Q (.int (xs.length : Int)) H'
def spLotEq (A : Ads) : Sp := fun vs H Q _ => ∃ (v w : V) (n m : Int) (xs ys : List Int), vs = [v, w] ∧ LotIs A.C_Lot v H n xs ∧ LotIs A.C_Lot w H m ys ∧ ∀ H', Ex H H' → Q (.bl (decide (n = m ∧ xs = ys))) H'
def spMems (A : Ads) : Sp := fun vs H Q _ => ∃ (v : V) (n : Int) (xs : List Int), vs = [v] ∧ LotIs A.C_Lot v H n xs ∧ ∀ p H', H p = none → Ex H H' → H' p = some (.lst (xs.map V.int)) → Q (.ref p) H'
theorem mems_of {A : Ads} {vs : List V} {H : Hp} {Q : VK} {E : XK} (h : spMems A vs H Q E) : spLotMembers A vs H Q E := by
  obtain ⟨v, n, xs, rfl, ⟨⟨a, dx, l, rfl, h1, h2⟩, _, _⟩, k⟩ := h
  exact ⟨a, dx, l, n, xs, rfl, h1, h2, k⟩
/-- the members that a lot holds -/
theorem ev_mems {K : PySem.W.Frag} {A : Ads} {te : TE} {σ : L2.St} {H : Hp} {a dx l : Addr} {n : Int} (h : Ev te σ H (.ref a)) (hi : H a = some (.ins A.C_Lot dx (lotF n l))) (c : Cls K A.C_Lot) (na : NoAttr K A.C_Lot "_members") : Ev (tFld K te "_members") σ H (.ref l) := fun H1 e Q q =>
  h H1 e _ fun H2 e2 => ⟨a, _, dx, _, _, rfl, e2 _ _ (e _ _ hi), c, na, rfl, q H2 e2⟩
theorem ev_hours {K : PySem.W.Frag} {A : Ads} {te : TE} {σ : L2.St} {H : Hp} {a dx l : Addr} {n : Int} (h : Ev te σ H (.ref a)) (hi : H a = some (.ins A.C_Lot dx (lotF n l))) (c : Cls K A.C_Lot) (na : NoAttr K A.C_Lot "hours") : Ev (tFld K te "hours") σ H (.int n) := fun H1 e Q q =>
  h H1 e _ fun H2 e2 => ⟨a, _, dx, _, _, rfl, e2 _ _ (e _ _ hi), c, na, rfl, q H2 e2⟩
/-- a comprehension over a list of ints, each put through g -/
theorem el_map {K : PySem.W.Frag} {σ : L2.St} {H : Hp} {te tl : TE} {tt : TT} {j : Nat} {vs : List Nat} {a : Addr} (xs : List Int) (p : Int → Bool) (g : Int → Int) (h : Ev tl σ H (.ref a)) (hx : SqL K H a (xs.map V.int)) (hz : xs.length ≤ 40000)
    (hw : ∀ x, wipe ((wipe σ vs).set j (some x)) vs = wipe σ vs) (ht : ∀ (x : Int) H1, Ex H H1 → x ∈ xs → EvT tt ((wipe σ vs).set j (some (.int x))) H1 (p x))
    (he : ∀ (x : Int) H1, Ex H H1 → x ∈ xs → p x = true → Ev te ((wipe σ vs).set j (some (.int x))) H1 (.int (g x))) : EvL (tLc (iList K tl) (gName j) tt te vs) σ H (((xs.filter p).map g).map V.int) := by
  have e := el_lstG (K := K) (te := te) (tl := tl) (tt := tt) (g := gName j) (vs := vs) (σ := σ) (H := H) 0 (xs.map V.int) xs p (fun x => V.int (g x)) (fun x => (wipe σ vs).set j (some (.int x))) h hx (List.length_map _) hz
    (fun i x y H1 kk _ h1 h2 hk => by
      obtain ⟨u, rfl, hu⟩ := some_int h1
      rw [hu] at h2
      cases h2
      exact hk) (fun y => hw _) ht he
  rw [List.map_map]
  exact e
theorem el_mapA {K : PySem.W.Frag} {σ : L2.St} {H : Hp} {te tl : TE} {j : Nat} {vs : List Nat} {a : Addr} (xs : List Int) (g : Int → Int) (h : Ev tl σ H (.ref a)) (hx : SqL K H a (xs.map V.int)) (hz : xs.length ≤ 40000)
    (hw : ∀ x, wipe ((wipe σ vs).set j (some x)) vs = wipe σ vs)
    (he : ∀ (x : Int) H1, Ex H H1 → x ∈ xs → Ev te ((wipe σ vs).set j (some (.int x))) H1 (.int (g x))) : EvL (tLc (iList K tl) (gName j) tYes te vs) σ H ((xs.map g).map V.int) := by
  have e := el_map (K := K) (te := te) (tl := tl) (tt := tYes) (j := j) (vs := vs) (σ := σ) (H := H) xs (fun _ => true) g h hx hz hw (fun x H1 _ _ => fun H2 _ Q q => q H2 (Ex.refl H2)) (fun x H1 e1 hx _ => he x H1 e1 hx)
  rw [List.filter_eq_self.mpr fun _ _ => rfl] at e
  exact e
/-- the hours that a list of marks tells -/
theorem el_marks {K : PySem.W.Frag} {σ : L2.St} {H : Hp} {te : TE} {tt : TT} {ta : TA} {j : Nat} {vs : List Nat} {n : Int} (p : Int → Bool) (h : EvA ta σ H [.int n]) (hn : 1 ≤ n ∧ n ≤ 360) (hw : ∀ x, wipe ((wipe σ vs).set j (some x)) vs = wipe σ vs)
    (ht : ∀ (z : Int) H1, Ex H H1 → 0 ≤ z → z < n → EvT tt ((wipe σ vs).set j (some (.int z))) H1 (p z)) (he : ∀ (z : Int) H1, Ev te ((wipe σ vs).set j (some (.int z))) H1 (.int z)) : EvL (tLc (iRng1 ta) (gName j) tt te vs) σ H ((hrs n p).map V.int) := by
  have e := el_rng1 (te := te) (tt := tt) (ta := ta) (j := j) (vs := vs) (fun i => p (i : Int)) (fun i => V.int (i : Int)) h (by omega) hw (fun i H1 e hi => ht _ H1 e (by omega) hi) (fun i H1 e hi _ => he _ H1)
  rw [given_pick] at e
  exact e
theorem int_flat (xs : List Int) : (xs.map V.int).all flatV = true := by
  rw [List.all_map, List.all_eq_true]
  exact fun _ _ => rfl
theorem rv_inI {K : PySem.W.Frag} {H : Hp} {a : Addr} {x : Int} {xs : List Int} (h : SqL K H a (xs.map V.int)) : RV (rIn K false) (.int x) (.ref a) H (.bl (decide (x ∈ xs))) := by
  have := rv_inL (neg := false) (x := .int x) h rfl (int_flat xs)
  rw [inV_ints] at this
  exact this
theorem rv_niI {K : PySem.W.Frag} {H : Hp} {a : Addr} {x : Int} {xs : List Int} (h : SqL K H a (xs.map V.int)) : RV (rIn K true) (.int x) (.ref a) H (.bl (!decide (x ∈ xs))) := by
  have := rv_inL (neg := true) (x := .int x) h rfl (int_flat xs)
  rw [inV_ints] at this
  exact this
/-- sorted(..) of different ints -/
theorem sorted_hrs {n : Int} {zs ys : List Int} {p : Int → Bool} (hn : 0 ≤ n) (hp : ys.Perm zs) (ho : ys.Pairwise (· ≤ ·)) (hd : zs.Nodup) (hm : ∀ z, z ∈ zs ↔ z ∈ hrs n p) : ys = hrs n p := by
  have nd : ys.Nodup := hp.nodup_iff.mpr hd
  refine asc_unique ?_ (asc_hrs hn).1 fun z => by rw [hp.mem_iff]; exact hm z
  exact (ho.and nd).imp fun {a b} h => by
    have h1 : a ≤ b := h.1
    have h2 : a ≠ b := h.2
    omega
theorem asc_of_sorted {n : Int} {zs ys : List Int} (hp : ys.Perm zs) (ho : ys.Pairwise (· ≤ ·)) (hd : zs.Nodup) (hm : ∀ z ∈ zs, 0 ≤ z ∧ z < n) : Asc 0 n ys := by
  have nd : ys.Nodup := hp.nodup_iff.mpr hd
  refine ⟨(ho.and nd).imp fun {a b} h => ?_, fun z hz => hm z (hp.mem_iff.mp hz)⟩
  have h1 : a ≤ b := h.1
  have h2 : a ≠ b := h.2
  omega
theorem cr_sortedK {X : Cx} {K : PySem.W.Frag} (h : X.K = K := by rfl) : CallR X (.builtin "sorted") (rSortedI K) := by subst h; exact cr_sortedI
theorem er_sorted {K : PySem.W.Frag} {σ : L2.St} {H : Hp} {tl : TE} {zs : List Int} (h : EvL tl σ H (zs.map V.int)) : EvR (tCB (rSortedI K) (tCons tl tNil)) σ H fun v H1 => ∃ (p : Addr) (ys : List Int), v = .ref p ∧ H1 p = some (.lst (ys.map V.int)) ∧ H p = none ∧ ys.Perm zs ∧ ys.Pairwise (· ≤ ·) := fun H1 e Q q =>
  h H1 e _ fun a H2 _ e2 h2 => ⟨a, zs, rfl, sq_of h2, fun ys p hp ho hq => q _ _ (e2.trans (Ex.new hq)) ⟨p, ys, rfl, upd_same, fresh_back (e.trans e2) hq, hp, ho⟩⟩
theorem er_var {C : Addr} {σ : L2.St} {H : Hp} {i : Nat} {v : V} {n : Int} {xs : List Int} (h : σ[i]? = some (some v)) (hv : LotIs C v H n xs) : EvR (tVar i) σ H fun v H1 => LotIs C v H1 n xs := er_ev (ev_var h) fun H1 e => hv.ex e
theorem en_lotI {A : Ads} {g : Int → Int → List Int → List Int} {E : L2.St → XK} {ta tb : TE} {σ : L2.St} {H : Hp} {n k : Int} {xs : List Int} (ha : EvR ta σ H fun v H1 => LotIs A.C_Lot v H1 n xs) (hb : Ev tb σ H (.int k)) :
    EvNew (tOpS (rOwnI A.C_Lot (spLotI A g) E) ta tb) σ H fun v H1 => LotIs A.C_Lot v H1 n (g n k xs) := fun H1 e Q q =>
  ha H1 e _ fun v H2 e2 hv => hb H2 (e.trans e2) _ fun H3 e3 => by
    have h3 := hv.ex e3
    obtain ⟨a, dx, l, rfl, h1, _⟩ := id h3.at_
    exact ⟨a, dx, _, k, rfl, h1, rfl, .ref a, n, k, xs, rfl, h3, fun w H' e' hw => q w H' ((e2.trans e3).trans e') (hw.out (e2.trans e3) (Ex.refl _))⟩
theorem en_lot1 {A : Ads} {g : Int → List Int → List Int} {E : L2.St → XK} {ta : TE} {σ : L2.St} {H : Hp} {n : Int} {xs : List Int} (ha : EvR ta σ H fun v H1 => LotIs A.C_Lot v H1 n xs) :
    EvNew (tUnS (rOwn1 A.C_Lot (spLot1 A g) E) ta) σ H fun v H1 => LotIs A.C_Lot v H1 n (g n xs) := fun H1 e Q q =>
  ha H1 e _ fun v H2 e2 hv => by
    obtain ⟨a, dx, l, rfl, h1, _⟩ := id hv.at_
    exact ⟨a, dx, _, rfl, h1, .ref a, n, xs, rfl, hv, fun w H' e' hw => q w H' (e2.trans e') (hw.out e2 (Ex.refl _))⟩
theorem en_lot2 {A : Ads} {g : Int → List Int → List Int → List Int} {E : L2.St → XK} {ta tb : TE} {σ : L2.St} {H : Hp} {n : Int} {xs ys : List Int} (ha : EvR ta σ H fun v H1 => LotIs A.C_Lot v H1 n xs) (hb : EvR tb σ H fun v H1 => LotIs A.C_Lot v H1 n ys) :
    EvNew (tOpS (rOwn2 A.C_Lot (spLot2 A g) E) ta tb) σ H fun v H1 => LotIs A.C_Lot v H1 n (g n xs ys) := fun H1 e Q q =>
  ha H1 e _ fun v H2 e2 hv => hb H2 (e.trans e2) _ fun w H3 e3 hw => by
    have h3 := hv.ex e3
    obtain ⟨a, dx, l, rfl, h1, _⟩ := id h3.at_
    obtain ⟨b, dy, m, rfl, g1, _⟩ := id hw.at_
    exact ⟨a, dx, _, b, dy, _, rfl, h1, rfl, g1, .ref a, .ref b, n, n, xs, ys, rfl, h3, hw, fun z => absurd rfl z, fun _ z H' e' hz => q z H' ((e2.trans e3).trans e') (hz.out (e2.trans e3) (Ex.refl _))⟩
theorem er_lotI {A : Ads} {g : Int → Int → List Int → List Int} {E : L2.St → XK} {ta tb : TE} {σ : L2.St} {H : Hp} {n k : Int} {xs : List Int} (ha : EvR ta σ H fun v H1 => LotIs A.C_Lot v H1 n xs) (hb : Ev tb σ H (.int k)) :
    EvR (tOpS (rOwnI A.C_Lot (spLotI A g) E) ta tb) σ H fun v H1 => LotIs A.C_Lot v H1 n (g n k xs) := (en_lotI ha hb).er
theorem er_lot1 {A : Ads} {g : Int → List Int → List Int} {E : L2.St → XK} {ta : TE} {σ : L2.St} {H : Hp} {n : Int} {xs : List Int} (ha : EvR ta σ H fun v H1 => LotIs A.C_Lot v H1 n xs) :
    EvR (tUnS (rOwn1 A.C_Lot (spLot1 A g) E) ta) σ H fun v H1 => LotIs A.C_Lot v H1 n (g n xs) := (en_lot1 ha).er
theorem er_lot2 {A : Ads} {g : Int → List Int → List Int → List Int} {E : L2.St → XK} {ta tb : TE} {σ : L2.St} {H : Hp} {n : Int} {xs ys : List Int} (ha : EvR ta σ H fun v H1 => LotIs A.C_Lot v H1 n xs) (hb : EvR tb σ H fun v H1 => LotIs A.C_Lot v H1 n ys) :
    EvR (tOpS (rOwn2 A.C_Lot (spLot2 A g) E) ta tb) σ H fun v H1 => LotIs A.C_Lot v H1 n (g n xs ys) := (en_lot2 ha hb).er
theorem q_augI {A : Ads} {g : Int → Int → List Int → List Int} {E : XK} {te : TE} {tz : TS} {D : Ends} {σ : L2.St} {H : Hp} {i : Nat} {v : V} {n k : Int} {xs : List Int} (hi : σ[i]? = some (some v)) (hv : LotIs A.C_Lot v H n xs) (he : Ev te σ H (.int k))
    (c : ∀ w H1, Ex H H1 → LotIs A.C_Lot w H1 n (g n k xs) → tz D (σ.set i (some w)) H1) : tSeq (tAug i te (rOwnI A.C_Lot (spLotI A g) (fun _ => E) [])) tz D σ H :=
  ⟨v, hi, he H (Ex.refl H) _ fun H2 e2 => by
    have h2 := hv.ex e2
    obtain ⟨a, dx, l, rfl, h1, _⟩ := id h2.at_
    exact ⟨a, dx, _, k, rfl, h1, rfl, .ref a, n, k, xs, rfl, h2, fun w H' e' hw => c w H' (e2.trans e') hw.self⟩⟩
theorem q_aug2 {A : Ads} {g : Int → List Int → List Int → List Int} {E : XK} {te : TE} {tz : TS} {D : Ends} {σ : L2.St} {H : Hp} {i : Nat} {v : V} {n : Int} {xs ys : List Int} (hi : σ[i]? = some (some v)) (hv : LotIs A.C_Lot v H n xs) (he : EvR te σ H fun v H1 => LotIs A.C_Lot v H1 n ys)
    (c : ∀ w H1, Ex H H1 → LotIs A.C_Lot w H1 n (g n xs ys) → tz D (σ.set i (some w)) H1) : tSeq (tAug i te (rOwn2 A.C_Lot (spLot2 A g) (fun _ => E) [])) tz D σ H :=
  ⟨v, hi, he H (Ex.refl H) _ fun w H2 e2 hw => by
    have h2 := hv.ex e2
    obtain ⟨a, dx, l, rfl, h1, _⟩ := id h2.at_
    obtain ⟨b, dy, m, rfl, g1, _⟩ := id hw.at_
    exact ⟨a, dx, _, b, dy, _, rfl, h1, rfl, g1, .ref a, .ref b, n, n, xs, ys, rfl, h2, hw, fun z => absurd rfl z, fun _ z H' e' hz => c z H' (e2.trans e') hz.self⟩⟩
theorem ev_lotEq {K : PySem.W.Frag} {A : Ads} {E : L2.St → XK} {ta tb : TE} {σ : L2.St} {H : Hp} {n m : Int} {xs ys : List Int} (ha : EvR ta σ H fun v H1 => LotIs A.C_Lot v H1 n xs) (hb : EvR tb σ H fun v H1 => LotIs A.C_Lot v H1 m ys)
    (ty : ∀ (H : Hp) (a dx : Addr) (fs : List (Str × V)), H a = some (.ins A.C_Lot dx fs) → TyX K H (.ref a) (.ref A.C_Lot)) : Ev (tOpS (rOwnC K A.C_Lot (spLotEq A) E) ta tb) σ H (.bl (decide (n = m ∧ xs = ys))) := fun H1 e Q q =>
  ha H1 e _ fun v H2 e2 hv => hb H2 (e.trans e2) _ fun w H3 e3 hw => by
    have h3 := hv.ex e3
    obtain ⟨a, dx, l, rfl, h1, _⟩ := id h3.at_
    obtain ⟨b, dy, m', rfl, g1, _⟩ := id hw.at_
    refine ⟨a, dx, _, .ref A.C_Lot, rfl, h1, ty _ _ _ _ g1, ?_, .ref a, .ref b, n, m, xs, ys, rfl, h3, hw, fun H' e' => q H' ((e2.trans e3).trans e')⟩
    simp [PySem.W.notFirst]
theorem ev_lotLen {A : Ads} {E : XK} {ta : TE} {σ : L2.St} {H : Hp} {n : Int} {xs : List Int} (ha : EvR ta σ H fun v H1 => LotIs A.C_Lot v H1 n xs) : Ev (tCB (rOwnLen A.C_Lot (spLotLen A) E) (tCons ta tNil)) σ H (.int (xs.length : Int)) := fun H1 e Q q =>
  ha H1 e _ fun v H2 e2 hv => by
    have hl := hv.len
    obtain ⟨a, dx, l, rfl, h1, _⟩ := id hv.at_
    exact ⟨a, dx, _, rfl, h1, .ref a, n, xs, rfl, hv, fun H' e' => ⟨_, rfl, ⟨by omega, by omega⟩, q H' (e2.trans e')⟩⟩
theorem el_mems {A : Ads} {E : XK} {ta : TE} {σ : L2.St} {H : Hp} {n : Int} {xs : List Int} (ha : EvR ta σ H fun v H1 => LotIs A.C_Lot v H1 n xs)  : EvL (tProp A.C_Lot (spLotMembers A) [] E ta) σ H (xs.map V.int) := fun H1 e Q q => by
  refine ha H1 e _ fun v H2 e2 hv => ?_
  obtain ⟨a, dx, l, rfl, h1, h2⟩ := id hv.at_
  exact ⟨a, dx, _, rfl, h1, a, dx, l, n, xs, rfl, h1, h2, fun p H' hp e' h' => q p H' (fresh_back e2 hp) (e2.trans e') h'⟩
theorem ok_Lot_len (T : Txt K mg A) : FnOk P w K mg base CX0 1 A.f_Lot_len A.d_Lot_len (["self"] : List Str) (spLotLen A) := by
  refine T.F_Lot_len.ok sc_Lot_len (fun vs H Q E h => ?_) (fun cdv Ar outer s H vs Q E hr h => ?_)
  · obtain ⟨v, n, xs, rfl, _⟩ := h
    rfl
  · obtain ⟨v, n, xs, rfl, ⟨⟨a, dx, l, rfl, h1, h2⟩, _, _⟩, k⟩ := h
    refine ⟨_, (pss_one (ps_ret (pe_callB len_K (by rfl) T.z_len (by decide +kernel) (pa_cons (pe_fldK (pv 0) rfl) pa_nil)))), ?_⟩
    refine ⟨_, rfl, a, _, dx, _, _, rfl, h1, T.cl_Lot, T.na_Lot_members, rfl, .ref l, xs.length, rfl, .inl ⟨_, SqL.of h2, (List.length_map _).symm⟩, k _ (Ex.refl _)⟩
theorem ok_Lot_iter (T : Txt K mg A) : FnS P w K mg base 1 A.f_Lot_iter A.d_Lot_iter (["self"] : List Str) (spIt K A.C_Lot "_members") := by
  refine fnS_mk T.F_Lot_iter sc_Lot_iter (fun n vs H Q E h => ?_) (fun cdv Ar outer s H vs Q E hr h => ?_)
  · obtain ⟨a, dx, l, fs, xs, rfl, _⟩ := h
    rfl
  · obtain ⟨a, dx, l, fs, xs, rfl, ea, el, hq, k⟩ := h
    refine ⟨_, (pss_one (ps_ret (pe_callB ItX.call_iterN (by rfl) T.z_iter (by decide +kernel) (pa_cons (pe_fld (pv 0) rfl) pa_nil)))), ?_⟩
    exact ⟨_, rfl, a, _, dx, fs, _, rfl, ea, T.cl_Lot, T.na_Lot_members, el, l, xs, rfl, hq, k⟩
theorem ok_Lot_lshift (T : Txt K mg A) : FnOk P w K mg base CX0 6 A.f_Lot_lshift A.d_Lot_lshift (["self", "other"] : List Str) (spLotI A fun n k xs => hrs n fun z => decide ((z - k) % n ∈ xs)) := by
  refine T.F_Lot_lshift.ok sc_Lot_lshift (fun vs H Q E h => ?_) (fun cdv Ar outer s H vs Q E hr h => ?_)
  · obtain ⟨v, n, kk, xs, rfl, _⟩ := h
    rfl
  · obtain ⟨v, n, kk, xs, rfl, hL, k⟩ := h
    refine ⟨_, (pss_one (ps_ret (pe_make T.mk_Lot (ok_Lot_init T) (hr.mono (by omega)) rfl T.g_Lot (b_Lot_init T) .nil passL (pa_cons (pe_fldK (pv 0) rfl) (pa_cons (pe_lc (own := [("member", 2)]) (g := gName 2) (tt := tYes) rfl sc_Lot_lshift.nd (pi_listK (pe_fldK (pv 0) rfl)) (blkOk_by (own := [("member", 2)]) (N := N_Lot_lshift) (sc := defScope s_Lot_lshift) (by decide +kernel)) (fun _ _ _ _ _ => (pg_name (i := 2) sc_Lot_lshift.nd rfl (Or.inl rfl))) (fun _ _ _ _ _ => pts_nil) (fun _ _ _ _ _ => (pe_op op_add (pv 2) (pv 1)))) pa_nil))))), ?_⟩
    obtain ⟨⟨a, dx, l, rfl, h1, h2⟩, hn, hA⟩ := id hL
    refine ⟨_, rfl, a, _, dx, _, _, rfl, h1, T.cl_Lot, T.na_Lot_hours, rfl, ?_⟩
    try dsimp only
    refine el_mapA (K := K) xs (fun x => x + kk) (ev_mems (ev_var (i := 0) rfl) h1 T.cl_Lot T.na_Lot_members) (sq_of h2) (by have := hL.len; omega) (fun x => rfl) (fun x H1 e1 hx => ev_op (ev_var (i := 2) rfl) (ev_var (i := 1) rfl) rv_I0) _ (Ex.refl _) _ fun p H1 hp e1 h3 => ?_
    exact mk_lotS (ms := xs.map fun x => x + kk) (SqL.of h3) hn (nodup_plus (k := kk) (by omega) hA) (fun z z0 z1 => by rw [mem_plus (by omega) hA z0 z1]; simp) fun w H' e' hw => k w H' (e1.trans e') (hw.out e1 (Ex.refl _))
theorem ok_Lot_rshift (T : Txt K mg A) : FnOk P w K mg base CX0 6 A.f_Lot_rshift A.d_Lot_rshift (["self", "other"] : List Str) (spLotI A fun n k xs => hrs n fun z => decide ((z + k) % n ∈ xs)) := by
  refine T.F_Lot_rshift.ok sc_Lot_rshift (fun vs H Q E h => ?_) (fun cdv Ar outer s H vs Q E hr h => ?_)
  · obtain ⟨v, n, kk, xs, rfl, _⟩ := h
    rfl
  · obtain ⟨v, n, kk, xs, rfl, hL, k⟩ := h
    refine ⟨_, (pss_one (ps_ret (pe_make T.mk_Lot (ok_Lot_init T) (hr.mono (by omega)) rfl T.g_Lot (b_Lot_init T) .nil passL (pa_cons (pe_fldK (pv 0) rfl) (pa_cons (pe_lc (own := [("member", 2)]) (g := gName 2) (tt := tYes) rfl sc_Lot_rshift.nd (pi_listK (pe_fldK (pv 0) rfl)) (blkOk_by (own := [("member", 2)]) (N := N_Lot_rshift) (sc := defScope s_Lot_rshift) (by decide +kernel)) (fun _ _ _ _ _ => (pg_name (i := 2) sc_Lot_rshift.nd rfl (Or.inl rfl))) (fun _ _ _ _ _ => pts_nil) (fun _ _ _ _ _ => (pe_op op_sub (pv 2) (pv 1)))) pa_nil))))), ?_⟩
    obtain ⟨⟨a, dx, l, rfl, h1, h2⟩, hn, hA⟩ := id hL
    refine ⟨_, rfl, a, _, dx, _, _, rfl, h1, T.cl_Lot, T.na_Lot_hours, rfl, ?_⟩
    try dsimp only
    refine el_mapA (K := K) xs (fun x => x - kk) (ev_mems (ev_var (i := 0) rfl) h1 T.cl_Lot T.na_Lot_members) (sq_of h2) (by have := hL.len; omega) (fun x => rfl) (fun x H1 e1 hx => ev_op (ev_var (i := 2) rfl) (ev_var (i := 1) rfl) rv_I0) _ (Ex.refl _) _ fun p H1 hp e1 h3 => ?_
    exact mk_lotS (ms := xs.map fun x => x - kk) (SqL.of h3) hn (by have := nodup_plus (k := -kk) (n := n) (by omega) hA; simpa [Int.sub_eq_add_neg] using this) (fun z z0 z1 => by have := mem_plus (k := -kk) (n := n) (by omega) hA z0 z1; rw [show z - -kk = z + kk by omega] at this; simpa [Int.sub_eq_add_neg] using this) fun w H' e' hw => k w H' (e1.trans e') (hw.out e1 (Ex.refl _))
theorem ok_Lot_neg (T : Txt K mg A) : FnOk P w K mg base CX0 6 A.f_Lot_neg A.d_Lot_neg (["self"] : List Str) (spLot1 A fun n xs => hrs n fun z => decide ((0 - z) % n ∈ xs)) := by
  refine T.F_Lot_neg.ok sc_Lot_neg (fun vs H Q E h => ?_) (fun cdv Ar outer s H vs Q E hr h => ?_)
  · obtain ⟨v, n, xs, rfl, _⟩ := h
    rfl
  · obtain ⟨v, n, xs, rfl, hL, k⟩ := h
    refine ⟨_, (pss_one (ps_ret (pe_make T.mk_Lot (ok_Lot_init T) (hr.mono (by omega)) rfl T.g_Lot (b_Lot_init T) .nil passL (pa_cons (pe_fldK (pv 0) rfl) (pa_cons (pe_lc (own := [("member", 1)]) (g := gName 1) (tt := tYes) rfl sc_Lot_neg.nd (pi_listK (pe_fldK (pv 0) rfl)) (blkOk_by (own := [("member", 1)]) (N := N_Lot_neg) (sc := defScope s_Lot_neg) (by decide +kernel)) (fun _ _ _ _ _ => (pg_name (i := 1) sc_Lot_neg.nd rfl (Or.inl rfl))) (fun _ _ _ _ _ => pts_nil) (fun _ _ _ _ _ => (pe_un un_neg (pv 1)))) pa_nil))))), ?_⟩
    obtain ⟨⟨a, dx, l, rfl, h1, h2⟩, hn, hA⟩ := id hL
    refine ⟨_, rfl, a, _, dx, _, _, rfl, h1, T.cl_Lot, T.na_Lot_hours, rfl, ?_⟩
    try dsimp only
    refine el_mapA (K := K) xs (fun x => -x) (ev_mems (ev_var (i := 0) rfl) h1 T.cl_Lot T.na_Lot_members) (sq_of h2) (by have := hL.len; omega) (fun x => rfl) (fun x H1 e1 hx => ev_un (ev_var (i := 1) rfl) ru_neg) _ (Ex.refl _) _ fun p H1 hp e1 h3 => ?_
    exact mk_lotS (ms := xs.map fun x => -x) (SqL.of h3) hn (nodup_minus (by omega) hA) (fun z z0 z1 => by rw [mem_minus (by omega) hA z0 z1]; simp) fun w H' e' hw => k w H' (e1.trans e') (hw.out e1 (Ex.refl _))
theorem ok_Lot_invert (T : Txt K mg A) : FnOk P w K mg base CX0 6 A.f_Lot_invert A.d_Lot_invert (["self"] : List Str) (spLot1 A fun n xs => hrs n fun z => !decide (z ∈ xs)) := by
  refine T.F_Lot_invert.ok sc_Lot_invert (fun vs H Q E h => ?_) (fun cdv Ar outer s H vs Q E hr h => ?_)
  · obtain ⟨v, n, xs, rfl, _⟩ := h
    rfl
  · obtain ⟨v, n, xs, rfl, hL, k⟩ := h
    refine ⟨_, (pss_one (ps_ret (pe_make T.mk_Lot (ok_Lot_init T) (hr.mono (by omega)) rfl T.g_Lot (b_Lot_init T) .nil passL (pa_cons (pe_fldK (pv 0) rfl) (pa_cons (pe_lc (own := [("hour", 1)]) (g := gName 1) rfl sc_Lot_invert.nd (pi_range1 rfl T.z_range (pa_cons (pe_fldK (pv 0) rfl) pa_nil)) (blkOk_by (own := [("hour", 1)]) (N := N_Lot_invert) (sc := defScope s_Lot_invert) (by decide +kernel)) (fun _ _ _ _ _ => (pg_name (i := 1) sc_Lot_invert.nd rfl (Or.inl rfl))) (fun _ _ _ _ _ => (pts_one (pt_cmpR notin_K (pv 1) (pe_fldK (pv 0) rfl) (by with_unfolding_all rfl)))) (fun _ _ _ _ _ => (pv 1))) pa_nil))))), ?_⟩
    obtain ⟨⟨a, dx, l, rfl, h1, h2⟩, hn, hA⟩ := id hL
    refine ⟨_, rfl, a, _, dx, _, _, rfl, h1, T.cl_Lot, T.na_Lot_hours, rfl, ?_⟩
    try dsimp only
    have lc := el_rng1 (σ := [some (V.ref a), none]) (H := H) (te := tVar 1) (tt := tTest (tOp (rIn K true) (tVar 1) (tFld K (tVar 0) "_members"))) (ta := tCons (tFld K (tVar 0) "hours") tNil) (j := 1) (vs := [1]) (fun i => !decide ((i : Int) ∈ xs)) (fun i => V.int (i : Int))
      (ea_cons (ev_hours (ev_var (i := 0) rfl) h1 T.cl_Lot T.na_Lot_hours) ea_nil) (by omega) (fun x => rfl)
      (fun i H1 e1 hi => et_test (ev_op (ev_var (i := 1) rfl) (ev_mems (ev_var (i := 0) rfl) (e1 _ _ h1) T.cl_Lot T.na_Lot_members) (rv_niI (sq_of (e1 _ _ h2))))) (fun i H1 e1 hi _ => ev_var (i := 1) rfl)
    rw [given_pick] at lc
    have hAs := asc_hrs (n := n) (p := fun z => !decide (z ∈ xs)) (by omega)
    refine lc _ (Ex.refl _) _ fun p H1 hp e1 h3 => ?_
    refine mk_lotS (ms := hrs n fun z => !decide (z ∈ xs)) (SqL.of h3) hn ?_ (fun z z0 z1 => ?_) fun w H' e' hw => k w H' (e1.trans e') (hw.out e1 (Ex.refl _))
    · rw [asc_mod hAs]
      exact hAs.nodup
    · rw [mem_self hAs, mem_hrs]
      simp [z0, z1]

def spCheck (A : Ads) : Sp := fun vs H Q E => ∃ (v w : V) (n m : Int) (xs ys : List Int), vs = [v, w] ∧ LotIs A.C_Lot v H n xs ∧ LotIs A.C_Lot w H m ys ∧ (n ≠ m → E (.ref A.C_OtherHours) none H) ∧ (n = m → Q .non H)
theorem ok_u_check_hours (T : Txt K mg A) : FnOk P w K mg base (L2.CX P w) 1 A.f_u_check_hours A.d_u_check_hours (["one", "other"] : List Str) (spCheck A) := by
  refine T.F_u_check_hours.okX sc_u_check_hours (fun vs H Q E h => ?_) (fun cdv Ar outer s H vs Q E hr h => ?_)
  · obtain ⟨v, w, n, m, xs, ys, rfl, _⟩ := h
    rfl
  · obtain ⟨v, w, n, m, xs, ys, rfl, ⟨⟨a, dx, l, rfl, h1, h2⟩, _, _⟩, ⟨⟨b, dy, l', rfl, g1, g2⟩, _, _⟩, k1, k2⟩ := h
    refine ⟨_, (pss_one (ps_if (pt_cmpR op_ne (pe_fldK (pv 0) rfl) (pe_fldK (pv 1) rfl) (nomark _)) (pss_one (ps_raise rfl (takes_of rfl rfl rfl rfl) (pmk_none PySem.F.excBase_ValueError T.xP_OtherHours T.g_OtherHours T.kP_OtherHours (raises_own T.bP_OtherHours T.tP_OtherHours) rfl))) pss_nil)), ?_⟩
    refine ⟨_, rfl, a, _, dx, _, _, rfl, h1, T.cl_Lot, T.na_Lot_hours, rfl, _, rfl, b, _, dy, _, _, rfl, g1, T.cl_Lot, T.na_Lot_hours, rfl, rfl, _, rfl, ?_⟩
    by_cases hnm : n = m
    · subst hnm
      exact wayNT rfl (k2 rfl)
    · exact wayNF (fun z => hnm (V.int.inj z)) (k1 hnm)

/-- what is wished of what a deed tells -/
def Out (A : Ads) (H : Hp) (Q : VK) (E : XK) : Res → Prop
  | .meets h => ∀ d H', Ex H H' → H' d = some (.xd [("hour", .int (h : Int))]) → E (.ref A.C_Meets) (some d) H'
  | .other => ∀ H', Ex H H' → E (.ref A.C_OtherHours) none H'
  | .notdiv m => ∀ d H', Ex H H' → H' d = some (.xd [("number", .int m)]) → E (.ref A.C_NotADivisor) (some d) H'
  | .bad nm z => ∀ d H', Ex H H' → H' d = some (.xd [("value", .int z), ("name", .str nm)]) → E (.ref A.C_BadNumber) (some d) H'
  | .lot n xs => ∀ v H', Ex H H' → NewP (fun G => LotIs A.C_Lot v G n xs) H H' → Q v H'
theorem Out.mono {A : Ads} {H H' : Hp} {Q : VK} {E : XK} {r : Res} (e : Ex H H') (h : Out A H Q E r) : Out A H' Q E r := by
  cases r with
  | meets h0 => exact fun d H2 e2 hd => h d H2 (e.trans e2) hd
  | other => exact fun H2 e2 => h H2 (e.trans e2)
  | notdiv m => exact fun d H2 e2 hd => h d H2 (e.trans e2) hd
  | bad nm z => exact fun d H2 e2 hd => h d H2 (e.trans e2) hd
  | lot n xs => exact fun v H2 e2 hv => h v H2 (e.trans e2) (hv.out e (Ex.refl _))
def spEach (K : PySem.W.Frag) (A : Ads) : Sp := fun vs H Q E => ∃ (n : Int) (a : Addr) (ms : List Int), vs = [.int n, .ref a] ∧ SqL K H a (ms.map V.int) ∧ (1 ≤ n ∧ n ≤ 360) ∧ Out A H Q E (once n (ms.map (· % n)))
theorem c_each {K : PySem.W.Frag} {A : Ads} {Q : VK} {E : XK} {σ : L2.St} {H : Hp} {tn tl : TE} {n : Int} {ms : List Int} (h1 : Ev tn σ H (.int n)) (h2 : EvR tl σ H fun v H1 => ∃ p, v = .ref p ∧ SqL K H1 p (ms.map V.int)) (hn : 1 ≤ n ∧ n ≤ 360) (k : Out A H Q E (once n (ms.map (· % n)))) :
    tCall (spEach K A) [] E (tCons tn (tCons tl tNil)) σ H Q := h1 H (Ex.refl H) _ fun H1 e1 => h2 H1 e1 _ fun v H2 e2 hv => by
  obtain ⟨p, rfl, hp⟩ := hv
  exact ⟨n, p, ms, rfl, hp, hn, k.mono (e1.trans e2)⟩
def spOpI (A : Ads) (f : Int → Int → List Int → Res) : Sp := fun vs H Q E => ∃ (v : V) (n t : Int) (xs : List Int), vs = [v, .int t] ∧ LotIs A.C_Lot v H n xs ∧ Out A H Q E (f n t xs)
def spOpL (A : Ads) : Sp := fun vs H Q E => ∃ (v w : V) (n m : Int) (xs ys : List Int), vs = [v, w] ∧ LotIs A.C_Lot v H n xs ∧ LotIs A.C_Lot w H m ys ∧ Out A H Q E (addRes n m xs ys)
theorem c_opI {A : Ads} {f : Int → Int → List Int → Res} {Q : VK} {E : L2.St → XK} {σ : L2.St} {H : Hp} {i : Nat} {tb : TE} {v : V} {n t : Int} {xs : List Int} (hv : σ[i]? = some (some v)) (hL : LotIs A.C_Lot v H n xs) (hj : Ev tb σ H (.int t)) (k : Out A H Q (E σ) (f n t xs)) :
    tOpS (rOwnI A.C_Lot (spOpI A f) E) (tVar i) tb σ H Q := ⟨v, hv, hj H (Ex.refl _) _ fun H1 e1 => by
  have h1 := hL.ex e1
  obtain ⟨a, dx, l, rfl, g1, _⟩ := id h1.at_
  exact ⟨a, dx, _, t, rfl, g1, rfl, .ref a, n, t, xs, rfl, h1, k.mono e1⟩⟩
theorem c_opL {A : Ads} {Q : VK} {E : L2.St → XK} {σ : L2.St} {H : Hp} {i j : Nat} {v w : V} {n m : Int} {xs ys : List Int} (hv : σ[i]? = some (some v)) (hw : σ[j]? = some (some w)) (hL : LotIs A.C_Lot v H n xs) (hM : LotIs A.C_Lot w H m ys) (k : Out A H Q (E σ) (addRes n m xs ys)) :
    tOpS (rOwn2 A.C_Lot (spOpL A) E) (tVar i) (tVar j) σ H Q := ⟨v, hv, w, hw, by
  obtain ⟨a, dx, l, rfl, g1, _⟩ := id hL.at_
  obtain ⟨b, dy, l', rfl, g2, _⟩ := id hM.at_
  exact ⟨a, dx, _, b, dy, _, rfl, g1, rfl, g2, .ref a, .ref b, n, m, xs, ys, rfl, hL, hM, k⟩⟩
theorem c_num {A : Ads} {f : Int → Int → List Int → Res} {Q : VK} {E1 E2 E3 : L2.St → XK} {σ : L2.St} {H : Hp} {i j : Nat} {v w : V} {n t : Int} {xs : List Int} (hv : σ[i]? = some (some v)) (hw : σ[j]? = some (some w))
    (h : (LotIs A.C_Lot v H n xs ∧ w = .int t ∧ Out A H Q (E2 σ) (f n t xs)) ∨ (v = .int t ∧ LotIs A.C_Lot w H n xs ∧ Out A H Q (E3 σ) (f n t xs))) :
    tOpS (rAlt (rOwn2 A.C_Lot (spOpI A f) E1) (rAlt (rOwnI A.C_Lot (spOpI A f) E2) (rOwnR A.C_Lot (spOpI A f) E3))) (tVar i) (tVar j) σ H Q := ⟨v, hv, w, hw, by
  rcases h with ⟨hL, rfl, k⟩ | ⟨rfl, hL, k⟩
  · obtain ⟨a, dx, l, rfl, g1, _⟩ := id hL.at_
    exact .inr (.inl ⟨a, dx, _, t, rfl, g1, rfl, .ref a, n, t, xs, rfl, hL, k⟩)
  · obtain ⟨a, dx, l, rfl, g1, _⟩ := id hL.at_
    exact .inr (.inr ⟨a, dx, _, t, rfl, g1, rfl, .ref a, n, t, xs, rfl, hL, k⟩)⟩
theorem ok_u_lot_of_each (T : Txt K mg A) : FnOk P w K mg base (L2.CX P w) 7 A.f_u_lot_of_each A.d_u_lot_of_each (["hours", "numbers"] : List Str) (spEach K A) := by
  refine T.F_u_lot_of_each.okX sc_u_lot_of_each (fun vs H Q E h => ?_) (fun cdv Ar outer s H vs Q E hr h => ?_)
  · obtain ⟨n, a, ms, rfl, _⟩ := h
    rfl
  · obtain ⟨n, a, ms, rfl, hS, hn, k⟩ := h
    refine ⟨_, (pss_cons (ps_set (i := 2) sc_u_lot_of_each.nd rfl (Or.inl rfl) (pe_op op_rep (pe_lst (pa_cons pe_int pa_nil)) (pv 0)))
        (pss_cons (ps_for (passes_of rfl) rfl (pi_listK (pv 1)) (pg_name (i := 3) sc_u_lot_of_each.nd rfl (Or.inl rfl)) (pss_one (ps_asg (pe_op op_add (pe_ix ix_lK (pv 2) (pe_op op_mod (pv 3) (pv 0)) (fun _ _ => rfl)) pe_int) (pg_sub (pv 2) (pe_op op_mod (pv 3) (pv 0)) set_list))))
        (pss_cons (ps_for (passes_of rfl) rfl (pi_range1 rfl T.z_range (pa_cons (pv 0) pa_nil)) (pg_name (i := 4) sc_u_lot_of_each.nd rfl (Or.inl rfl)) (pss_one (ps_if (pt_cmpR op_gt (pe_ix ix_lK (pv 2) (pv 4) (fun _ _ => rfl)) pe_int (nomark _)) (pss_one (ps_raise rfl (takes_of rfl rfl rfl rfl) (pmk_oex T.ox_Meets T.ni_Meets T.ti_Meets (ok_Meets_init T) (hr.mono (by omega)) (b_Meets_init T) .nil pass0 rfl T.g_Meets (pa_cons (pv 4) pa_nil)))) pss_nil)))
        (pss_one (ps_ret (pe_make T.mk_Lot (ok_Lot_init T) (hr.mono (by omega)) rfl T.g_Lot (b_Lot_init T) .nil (passes_call (takes_of rfl rfl rfl rfl) (fun _ _ _ _ h => h)) (pa_cons (pv 0) (pa_cons (pv 1) pa_nil)))))))), ?_⟩
    try dsimp only
    refine q_asgL (el_rep (z := 0) (k := n) ev_c (ev_var (i := 0) rfl) (by omega)) fun t H1 ht e1 h1 => ?_
    rw [← cntR_nil] at h1
    try dsimp only
    refine q_forLn (K := K) (a := a) (xs := ms.map V.int) (j := 3) (ev_var (i := 1) rfl) (ex_l e1 hS)
      (fun i σ' H' => ∃ mv : Option V, σ' = [some (.int n), some (.ref a), some (.ref t), mv, none] ∧ Ex H H' ∧ H' t = some (.lst ((cntR n ((ms.take i).map (· % n))).map V.int)))
      (fun H2 e2 => ⟨none, rfl, e1.trans e2, by rw [e2 _ _ h1]; rfl⟩) (fun i σ' H' _ ⟨_, _, e, _⟩ => ex_l e hS) ?_ ?_
    · rintro i y σ' H' hi ⟨mv, rfl, ex, hc⟩
      obtain ⟨m, rfl, hm⟩ := some_int hi
      have m0 : 0 ≤ m % n := Int.emod_nonneg _ (by omega)
      have m1 : m % n < n := Int.emod_lt_of_pos _ (by omega)
      obtain ⟨j, hj⟩ : ∃ j : Nat, m % n = (j : Int) := ⟨(m % n).toNat, by omega⟩
      have hjn : j < n.toNat := by omega
      have hmod : ∀ {G : Hp}, Ev (tOp (rI (fun _ j => 0 < j) fun i j => V.int (i % j)) (tVar 3) (tVar 0)) [some (.int n), some (.ref a), some (.ref t), some (.int m), none] G (.int (j : Int)) := ev_is (ev_op (ev_var (i := 3) rfl) (ev_var (i := 0) rfl) (rv_I (show (0 : Int) < n by omega))) (by rw [hj])
      try dsimp only
      refine s_setL (j := j) (v := .int (((((ms.take i).map (· % n)).filter fun z => decide (z = (j : Int))).length : Int) + 1)) hc (ev_op (ev_op (ev_var (i := 2) rfl) hmod (rv_ixL (sq_of hc) (atI_nat (by rw [List.getElem?_map, cntR_get hjn]; rfl)))) ev_c rv_I0) (ev_var (i := 2) rfl) hmod (by rw [List.length_map, cntR_len]; exact hjn) fun H3 e3 => ?_
      refine ⟨_, rfl, Ex.mut (ex.trans e3) ht, ?_⟩
      rw [upd_same, List.take_succ, hm, List.map_append]
      show some (HO.lst _) = some (HO.lst ((cntR n (_ ++ [m % n])).map V.int))
      rw [hj, ← cntR_set hjn, List.map_set]
    rintro σ' H' ⟨mv, rfl, ex, hc⟩
    rw [List.length_map, List.take_length] at hc
    generalize hrs0 : ms.map (· % n) = rs at *
    have hin : ∀ z ∈ rs, 0 ≤ z ∧ z < n := by rw [← hrs0]; exact mod_in (by omega) ms
    try dsimp only
    refine q_forR1 (j := 4) (n := n) (ea_cons (ev_var (i := 0) rfl) ea_nil) (by omega)
      (fun i σ' H2 => (∃ hv : Option V, σ' = [some (.int n), some (.ref a), some (.ref t), mv, hv]) ∧ Ex H' H2 ∧ ∀ j, j < i → ¬ 1 < many rs j) (fun H3 e3 => ⟨⟨_, rfl⟩, e3, fun j hj => absurd hj (Nat.not_lt_zero _)⟩) ?_ ?_
    · rintro i σ2 H2 hi ⟨⟨hv, rfl⟩, e2, hb⟩
      have hin' : i < n.toNat := by omega
      try dsimp only
      refine s_when (b := decide (1 < many rs i)) (et_is (et_test (ev_op (ev_op (ev_var (i := 2) rfl) (ev_var (i := 4) rfl) (rv_ixL (sq_of (e2 _ _ hc)) (atI_nat (by rw [List.getElem?_map, cntR_get hin']; rfl)))) ev_c rv_I0)) (by unfold many; rw [decide_eq_decide]; omega)) (fun h H3 e3 => ?_) (fun h H3 e3 => ⟨⟨_, rfl⟩, e2.trans e3, fun j hj => ?_⟩)
      · rw [once_some (meet_some hin' (of_decide_eq_true h) hb)] at k
        exact raise1 (C := A.C_Meets) (f := "hour") (x := .int (i : Int)) T.ox_Meets (fun Q q => ⟨_, rfl, q⟩) (fun d H4 e4 h4 => k d H4 (ex.trans (e2.trans (e3.trans e4))) h4)
      · by_cases c : j < i
        · exact hb j c
        · have : j = i := by omega
          subst this
          exact of_decide_eq_false h
    rintro σ2 H2 ⟨⟨hv, rfl⟩, e2, hb⟩
    rw [once_none (meet_none hb)] at k
    have e02 := ex.trans e2
    refine en_mkLot (K := K) (A := A) (p := fun z => decide (z ∈ rs)) (ms := ms) (ev_var (i := 0) rfl) (er_held (i := 1) rfl (ex_l e02 hS)) hn (by rw [hrs0]; exact once_nodup hin hb) (fun z _ _ => by rw [hrs0]; simp) H2 (Ex.refl _) _ fun v H3 e3 hv => ?_
    exact k v H3 (e02.trans e3) (hv.out e02 (Ex.refl _))
theorem ok_Lot_mul (T : Txt K mg A) : FnOk P w K mg base (L2.CX P w) 9 A.f_Lot_mul A.d_Lot_mul (["self", "other"] : List Str) (spOpI A mulRes) := by
  refine T.F_Lot_mul.okX sc_Lot_mul (fun vs H Q E h => ?_) (fun cdv Ar outer s H vs Q E hr h => ?_)
  · obtain ⟨v, n, t, xs, rfl, _⟩ := h
    rfl
  · obtain ⟨v, n, t, xs, rfl, hL, k⟩ := h
    refine ⟨_, (pss_one (ps_ret (pe_call (ok_u_lot_of_each T) (hr.mono (by omega)) rfl T.g_u_lot_of_each T.k_u_lot_of_each (b_u_lot_of_each T) .nil (passes_call (takes_of rfl rfl rfl rfl) (fun _ _ _ _ h => h)) (pa_cons (pe_fldK (pv 0) rfl) (pa_cons (pe_lc (own := [("member", 2)]) (g := gName 2) (tt := tYes) rfl sc_Lot_mul.nd (pi_listK (pe_fldK (pv 0) rfl)) (blkOk_by (own := [("member", 2)]) (N := N_Lot_mul) (sc := defScope s_Lot_mul) (by decide +kernel)) (fun _ _ _ _ _ => (pg_name (i := 2) sc_Lot_mul.nd rfl (Or.inl rfl))) (fun _ _ _ _ _ => pts_nil) (fun _ _ _ _ _ => (pe_op op_mul (pv 2) (pv 1)))) pa_nil))))), ?_⟩
    obtain ⟨⟨a, dx, l, rfl, h1, h2⟩, hn, hA⟩ := id hL
    try dsimp only
    exact c_each (K := K) (A := A) (ms := xs.map fun x => x * t) (ev_hours (ev_var (i := 0) rfl) h1 T.cl_Lot T.na_Lot_hours) (er_list (el_mapA (K := K) xs (fun x => x * t) (ev_mems (ev_var (i := 0) rfl) h1 T.cl_Lot T.na_Lot_members) (sq_of h2) (by have := hL.len; omega) (fun x => rfl) (fun x H1 e1 hx => ev_op (ev_var (i := 2) rfl) (ev_var (i := 1) rfl) (rv_I (show CMul x t from .inl ⟨by have := hA.2 x hx; omega, by have := hA.2 x hx; omega⟩))))) hn k
theorem ok_Lot_rmul (T : Txt K mg A) : FnOk P w K mg base (L2.CX P w) 10 A.f_Lot_rmul A.d_Lot_rmul (["self", "other"] : List Str) (spOpI A mulRes) := by
  refine T.F_Lot_rmul.okX sc_Lot_rmul (fun vs H Q E h => ?_) (fun cdv Ar outer s H vs Q E hr h => ?_)
  · obtain ⟨v, n, t, xs, rfl, _⟩ := h
    rfl
  · obtain ⟨v, n, t, xs, rfl, hL, k⟩ := h
    refine ⟨_, (pss_one (ps_ret (pe_opS (op_ownJ (op := .Mult) (E := fun _ => E) T.op_Lot T.D_Lot_mul T.I_Lot_mul (ok_Lot_mul T) (hr.mono (by omega)) (b_Lot_mul T) (pAt (passes_call (takes_of rfl rfl rfl rfl) (fun _ _ _ _ h => h)))) (pv 0) (pv 1)))), ?_⟩
    try dsimp only
    exact c_opI (i := 0) rfl hL (ev_var (i := 1) rfl) k
theorem ok_Lot_add (T : Txt K mg A) : FnOk P w K mg base (L2.CX P w) 9 A.f_Lot_add A.d_Lot_add (["self", "other"] : List Str) (spOpL A) := by
  refine T.F_Lot_add.okX sc_Lot_add (fun vs H Q E h => ?_) (fun cdv Ar outer s H vs Q E hr h => ?_)
  · obtain ⟨v, w, n, m, xs, ys, rfl, _⟩ := h
    rfl
  · obtain ⟨v, w, n, m, xs, ys, rfl, hL, hM, k⟩ := h
    refine ⟨_, (pss_cons (ps_expr (pe_call (ok_u_check_hours T) (hr.mono (by omega)) rfl T.g_u_check_hours T.k_u_check_hours (b_u_check_hours T) .nil (passes_call (takes_of rfl rfl rfl rfl) (fun _ _ _ _ h => h)) (pa_cons (pv 0) (pa_cons (pv 1) pa_nil))))
        (pss_one (ps_ret (pe_call (ok_u_lot_of_each T) (hr.mono (by omega)) rfl T.g_u_lot_of_each T.k_u_lot_of_each (b_u_lot_of_each T) .nil (passes_call (takes_of rfl rfl rfl rfl) (fun _ _ _ _ h => h)) (pa_cons (pe_fldK (pv 0) rfl) (pa_cons (pe_lc2 (own := [("one", 2), ("two", 3)]) (g := gName 2) (g1 := gName 3) (tt := tYes) (tt1 := tYes) (vs1 := [3]) rfl sc_Lot_add.nd (pi_listK (pe_fldK (pv 0) rfl)) (blkOk_by (own := [("one", 2), ("two", 3)]) (N := N_Lot_add) (sc := defScope s_Lot_add) (by decide +kernel)) (by decide) (fun _ _ _ _ _ => (pg_name (i := 2) sc_Lot_add.nd rfl (Or.inl rfl))) (fun _ _ _ _ _ => pts_nil) (fun _ _ _ _ _ => (pi_listK (pe_fldK (pv 1) rfl))) (fun _ _ _ _ _ => (pg_name (i := 3) sc_Lot_add.nd rfl (Or.inl rfl))) (fun _ _ _ _ _ => pts_nil) (fun _ _ _ _ _ => (pe_op op_add (pv 2) (pv 3)))) pa_nil)))))), ?_⟩
    obtain ⟨⟨a, dx, l, rfl, h1, h2⟩, hn, hA⟩ := id hL
    obtain ⟨⟨b, dy, l', rfl, g1, g2⟩, _, hB⟩ := id hM
    have hxl := hL.len
    have hyl := hM.len
    unfold addRes at k
    refine ⟨_, rfl, _, rfl, .ref a, .ref b, n, m, xs, ys, rfl, hL, hM, fun z => ?_, fun z => ?_⟩
    · rw [if_neg z] at k
      exact k H (Ex.refl H)
    rw [if_pos z] at k
    have lc := el_lc2 (σ := [some (.ref a), some (.ref b), none, none]) (H := H) (n := xs.length) (n1 := fun _ => ys.length) (fun i j => V.int (xs.getD i 0 + ys.getD j 0)) 129600 (te := tOp (rI0 fun i j => V.int (i + j)) (tVar 2) (tVar 3)) (wi := iList K (tFld K (tVar 0) "_members")) (wi1 := iList K (tFld K (tVar 1) "_members"))
      (Y := YAt (xs.map V.int)) (by have e := ei_list (K := K) (σ := [some (.ref a), some (.ref b), none, none]) (H := H) (xs := xs.map V.int) (eb_ev (ev_mems (ev_var (i := 0) rfl) h1 T.cl_Lot T.na_Lot_members) fun G e => ⟨l, rfl, sq_of (e _ _ h2)⟩); rw [List.length_map] at e; exact e) (by decide)
      (fun i hi => by
        rw [flat_len2]
        exact Nat.le_trans (Nat.mul_le_mul (show i ≤ 360 by omega) hyl) (by decide)) (vs := [2, 3]) (g := gName 2) bd_at (fun i _ => rfl)
      (vs1 := [3]) (g1 := gName 3) (Y1 := fun _ => YAt (ys.map V.int))
      (fun i H3 hi e3 => by have e := ei_list (K := K) (σ := ([some (.ref a), some (.ref b), none, none] : L2.St).set 2 ((xs.map V.int)[i]?)) (H := H3) (xs := ys.map V.int) (eb_ev (ev_mems (ev_var (i := 1) rfl) (e3 _ _ g1) T.cl_Lot T.na_Lot_members) fun G e => ⟨l', rfl, sq_of ((e3.trans e) _ _ g2)⟩); rw [List.length_map] at e; exact e)
      (fun i hi => bd_at) (fun i j _ _ => rfl)
      (fun i j H3 hi hj e3 => by
        have x1 : (xs.map V.int)[i]? = some (.int (xs.getD i 0)) := by rw [List.getElem?_map, List.getD_eq_getElem?_getD, List.getElem?_eq_getElem hi]; rfl
        have x2 : (ys.map V.int)[j]? = some (.int (ys.getD j 0)) := by rw [List.getElem?_map, List.getD_eq_getElem?_getD, List.getElem?_eq_getElem hj]; rfl
        exact ev_op (ev_var (i := 2) (by rw [← x1]; rfl)) (ev_var (i := 3) (by rw [← x2]; rfl)) rv_I0)
    rw [lc2_flat (f := fun x y => x + y)] at lc
    try dsimp only
    exact c_each (K := K) (A := A) (ev_hours (ev_var (i := 0) rfl) h1 T.cl_Lot T.na_Lot_hours) (er_list lc) hn k
theorem ok_Lot_mod (T : Txt K mg A) : FnOk P w K mg base (L2.CX P w) 9 A.f_Lot_mod A.d_Lot_mod (["self", "other"] : List Str) (spOpI A modRes) := by
  refine T.F_Lot_mod.okX sc_Lot_mod (fun vs H Q E h => ?_) (fun cdv Ar outer s H vs Q E hr h => ?_)
  · obtain ⟨v, n, t, xs, rfl, _⟩ := h
    rfl
  · obtain ⟨v, n, t, xs, rfl, hL, k⟩ := h
    refine ⟨_, (pss_cons (ps_if (PW.pt (pw_or (pt_cmpR op_lt (pv 1) pe_int (nomark _)) (pw_or1 (pt_cmpR op_ne (pe_op op_mod (pe_fldK (pv 0) rfl) (pv 1)) pe_int (nomark _))))) (pss_one (ps_raise rfl (takes_of rfl rfl rfl rfl) (pmk_oex T.ox_NotADivisor T.ni_NotADivisor T.ti_NotADivisor (ok_NotADivisor_init T) (hr.mono (by omega)) (b_NotADivisor_init T) .nil pass0 rfl T.g_NotADivisor (pa_cons (pv 1) pa_nil)))) pss_nil)
        (pss_one (ps_ret (pe_call (ok_u_lot_of_each T) (hr.mono (by omega)) rfl T.g_u_lot_of_each T.k_u_lot_of_each (b_u_lot_of_each T) .nil (passes_call (takes_of rfl rfl rfl rfl) (fun _ _ _ _ h => h)) (pa_cons (pv 1) (pa_cons (pe_fldK (pv 0) rfl) pa_nil)))))), ?_⟩
    obtain ⟨⟨a, dx, l, rfl, h1, h2⟩, hn, hA⟩ := id hL
    unfold modRes at k
    have hh : ∀ G : Hp, Ex H G → Ev (tFld K (tVar 0) "hours") [some (.ref a), some (.int t)] G (.int n) := fun G e => ev_hours (ev_var (i := 0) rfl) (e _ _ h1) T.cl_Lot T.na_Lot_hours
    try dsimp only
    refine q_when (b := decide (t < 1 ∨ n % t ≠ 0)) (et_is (et_or (a := decide (t < 1)) (b := !decide (n % t = 0)) (et_test (ev_op (ev_var (i := 1) rfl) ev_c rv_I0)) fun h => et_test (ev_is (ev_op (ev_op (hh H (Ex.refl H)) (ev_var (i := 1) rfl) (rv_I (show 0 < t by have := of_decide_eq_false h; omega))) ev_c (rv_ne rfl)) (by rw [dec_ii]))) (by simp)) (fun h H1 e1 => ?_) (fun h H1 e1 => ?_)
    · rw [if_pos (of_decide_eq_true h)] at k
      exact raise1 (C := A.C_NotADivisor) (f := "number") (x := .int t) T.ox_NotADivisor (fun Q q => ⟨_, rfl, q⟩) (fun d H4 e4 h4 => k d H4 (e1.trans e4) h4)
    have h := of_decide_eq_false h
    rw [if_neg h] at k
    have t1 : 1 ≤ t := by omega
    have t2 : t ≤ n := by
      have hd : n % t = 0 := by omega
      exact Int.le_of_dvd (by omega) (Int.dvd_of_emod_eq_zero hd)
    try dsimp only
    exact c_each (K := K) (A := A) (ms := xs) (ev_var (i := 1) rfl) (er_ev (ev_mems (ev_var (i := 0) rfl) (e1 _ _ h1) T.cl_Lot T.na_Lot_members) fun G e => ⟨l, rfl, sq_of ((e1.trans e) _ _ h2)⟩) (by omega) (k.mono e1)
theorem ok_Lot_pow (T : Txt K mg A) : FnOk P w K mg base (L2.CX P w) 9 A.f_Lot_pow A.d_Lot_pow (["self", "other"] : List Str) (spOpI A powRes) := by
  refine T.F_Lot_pow.okX sc_Lot_pow (fun vs H Q E h => ?_) (fun cdv Ar outer s H vs Q E hr h => ?_)
  · obtain ⟨v, n, t, xs, rfl, _⟩ := h
    rfl
  · obtain ⟨v, n, t, xs, rfl, hL, k⟩ := h
    refine ⟨_, (pss_cons (ps_if (pt_cmpR op_lt (pv 1) pe_int (nomark _)) (pss_one (ps_raise rfl (takes_of rfl rfl rfl rfl) (pmk_oex T.ox_BadNumber T.ni_BadNumber T.ti_BadNumber (ok_BadNumber_init T) (hr.mono (by omega)) (b_BadNumber_init T) .nil pass0 rfl T.g_BadNumber (pa_cons pe_str (pa_cons (pv 1) pa_nil))))) pss_nil)
        (pss_cons (ps_set (i := 2) sc_Lot_pow.nd rfl (Or.inl rfl) (pe_op op_mul (pe_fldK (pv 0) rfl) (pv 1)))
        (pss_cons (ps_if (pt_cmpR op_gt (pv 2) (ClX.pe_cval (pe_glob (v := .ref A.C_Lot) rfl T.g_Lot rfl)) (nomark _)) (pss_one (ps_raise rfl (takes_of rfl rfl rfl rfl) (pmk_oex T.ox_BadNumber T.ni_BadNumber T.ti_BadNumber (ok_BadNumber_init T) (hr.mono (by omega)) (b_BadNumber_init T) .nil pass0 rfl T.g_BadNumber (pa_cons pe_str (pa_cons (pv 2) pa_nil))))) pss_nil)
        (pss_one (ps_ret (pe_make T.mk_Lot (ok_Lot_init T) (hr.mono (by omega)) rfl T.g_Lot (b_Lot_init T) .nil (passes_call (takes_of rfl rfl rfl rfl) (fun _ _ _ _ h => h)) (pa_cons (pv 2) (pa_cons (pe_lc2 (own := [("at", 3), ("member", 4)]) (g := gName 3) (g1 := gName 4) (tt := tYes) (tt1 := tYes) (vs1 := [4]) rfl sc_Lot_pow.nd (pi_range1 rfl T.z_range (pa_cons (pv 1) pa_nil)) (blkOk_by (own := [("at", 3), ("member", 4)]) (N := N_Lot_pow) (sc := defScope s_Lot_pow) (by decide +kernel)) (by decide) (fun _ _ _ _ _ => (pg_name (i := 3) sc_Lot_pow.nd rfl (Or.inl rfl))) (fun _ _ _ _ _ => pts_nil) (fun _ _ _ _ _ => (pi_listK (pe_fldK (pv 0) rfl))) (fun _ _ _ _ _ => (pg_name (i := 4) sc_Lot_pow.nd rfl (Or.inl rfl))) (fun _ _ _ _ _ => pts_nil) (fun _ _ _ _ _ => (pe_op op_add (pv 4) (pe_op op_mul (pv 3) (pe_fldK (pv 0) rfl))))) pa_nil)))))))), ?_⟩
    obtain ⟨⟨a, dx, l, rfl, h1, h2⟩, hn, hA⟩ := id hL
    have hxl := hL.len
    obtain ⟨mc, rdL, tL, cvL⟩ := T.rd_Lot
    unfold powRes at k
    try dsimp only
    refine q_when (b := decide (t < 1)) (et_test (ev_op (ev_var (i := 1) rfl) ev_c rv_I0)) (fun h H1 e1 => ?_) (fun h H1 e1 => ?_)
    · rw [if_pos (of_decide_eq_true h)] at k
      exact raise2 (C := A.C_BadNumber) (f := "name") (g := "value") (x := .str "times") (y := .int t) T.ox_BadNumber (fun Q q => ⟨_, rfl, q⟩) (fun d H4 e4 h4 => k d H4 (e1.trans e4) h4)
    have h := of_decide_eq_false h
    rw [if_neg h] at k
    try dsimp only
    refine q_asg (v := .int (n * t)) (ev_op (ev_hours (ev_var (i := 0) rfl) (e1 _ _ h1) T.cl_Lot T.na_Lot_hours) (ev_var (i := 1) rfl) (rv_I (show CMul n t from .inl ⟨by omega, by omega⟩))) fun H2 e2 => ?_
    try dsimp only
    refine q_when (b := decide (360 < n * t)) (et_test (ev_op (ev_var (i := 2) rfl) (fun H1 e Q q => ⟨A.C_Lot, mc, _, _, rfl, rdL, cvL, q H1 (Ex.refl H1)⟩) rv_I0)) (fun h H3 e3 => ?_) (fun h H3 e3 => ?_)
    · rw [if_pos (of_decide_eq_true h)] at k
      exact raise2 (C := A.C_BadNumber) (f := "name") (g := "value") (x := .str "hours") (y := .int (n * t)) T.ox_BadNumber (fun Q q => ⟨_, rfl, q⟩) (fun d H4 e4 h4 => k d H4 ((e1.trans e2).trans (e3.trans e4)) h4)
    have h' := of_decide_eq_false h
    rw [if_neg h'] at k
    have e03 := (e1.trans e2).trans e3
    have t1 : 1 ≤ t := by omega
    have tn : t ≤ n * t := by have := Int.mul_le_mul_of_nonneg_right (show 1 ≤ n by omega) (show 0 ≤ t by omega); omega
    have hA2 := asc_laps (n := n) (by omega) hA t.toNat
    rw [show ((t.toNat : Nat) : Int) = t by omega] at hA2
    have lc := el_lc2 (σ := [some (.ref a), some (.int t), some (.int (n * t)), none, none]) (H := H3) (n := t.toNat) (n1 := fun _ => xs.length) (fun i j => V.int (xs.getD j 0 + (i : Int) * n)) 129600 (te := tOp (rI0 fun i j => V.int (i + j)) (tVar 4) (tOp (rI CMul fun i j => V.int (i * j)) (tVar 3) (tFld K (tVar 0) "hours"))) (wi := iRng1 (tCons (tVar 1) tNil)) (wi1 := iList K (tFld K (tVar 0) "_members"))
      (ei_rng1 (ea_cons (ev_var (i := 1) rfl) ea_nil) (by omega)) (by decide)
      (fun i hi => by
        rw [flat_len2]
        exact Nat.le_trans (Nat.mul_le_mul (show i ≤ 360 by omega) hxl) (by decide)) (vs := [3, 4]) (g := gName 3) bd_fn (fun i _ => rfl)
      (vs1 := [4]) (g1 := gName 4) (Y1 := fun _ => YAt (xs.map V.int))
      (fun i H4 hi e4 => by have e := ei_list (K := K) (σ := ([some (.ref a), some (.int t), some (.int (n * t)), some (.int (i : Int)), none] : L2.St)) (H := H4) (xs := xs.map V.int) (eb_ev (ev_mems (ev_var (i := 0) rfl) ((e03.trans e4) _ _ h1) T.cl_Lot T.na_Lot_members) fun G e => ⟨l, rfl, sq_of (((e03.trans e4).trans e) _ _ h2)⟩); rw [List.length_map] at e; exact e)
      (fun i hi => bd_at) (fun i j _ _ => rfl)
      (fun i j H4 hi hj e4 => by
        have x2 : (xs.map V.int)[j]? = some (.int (xs.getD j 0)) := by rw [List.getElem?_map, List.getD_eq_getElem?_getD, List.getElem?_eq_getElem hj]; rfl
        exact ev_op (ev_var (i := 4) (by rw [← x2]; rfl)) (ev_op (ev_var (i := 3) rfl) (ev_hours (ev_var (i := 0) rfl) ((e03.trans e4) _ _ h1) T.cl_Lot T.na_Lot_hours) (rv_I (show CMul (i : Int) n from .inl ⟨by omega, by omega⟩))) rv_I0)
    rw [lc2_laps] at lc
    try dsimp only
    refine en_mkAsc (K := K) (A := A) (ev_var (i := 2) rfl) (er_list lc) (by omega) hA2 H3 (Ex.refl _) _ fun v H4 e4 hv => ?_
    exact k v H4 (e03.trans e4) (hv.out e03 (Ex.refl _))

def spMeet (A : Ads) : Sp := fun vs H Q E => ∃ (v w : V) (n m : Int) (xs ys : List Int), vs = [v, w] ∧ LotAt A.C_Lot H v n xs ∧ LotAt A.C_Lot H w m ys ∧ (1 ≤ n ∧ n ≤ 360) ∧ xs.length ≤ 360 ∧ ys.length ≤ 360 ∧
  (n ≠ m → E (.ref A.C_OtherHours) none H) ∧ (n = m → ∀ p H', H p = none → Ex H H' → H' p = some (.lst ((cntP n (prod xs ys)).map V.int)) → Q (.ref p) H')
theorem ok_meetings (T : Txt K mg A) : FnOk P w K mg base (L2.CX P w) 4 A.f_meetings A.d_meetings (["one", "other"] : List Str) (spMeet A) := by
  refine T.F_meetings.okX sc_meetings (fun vs H Q E h => ?_) (fun cdv Ar outer s H vs Q E hr h => ?_)
  · obtain ⟨v, w, n, m, xs, ys, rfl, _⟩ := h
    rfl
  · obtain ⟨v, w, n, m, xs, ys, rfl, ⟨a, dx, l, rfl, hi, hL⟩, ⟨b, dy, k, rfl, hj, hK⟩, hn, hx, hy, k1, k2⟩ := h
    refine ⟨_, (pss_cons (ps_if (pt_cmpR op_ne (pe_fldK (pv 0) rfl) (pe_fldK (pv 1) rfl) (nomark _)) (pss_one (ps_raise rfl (takes_of rfl rfl rfl rfl) (pmk_none PySem.F.excBase_ValueError T.xP_OtherHours T.g_OtherHours T.kP_OtherHours (raises_own T.bP_OtherHours T.tP_OtherHours) rfl))) pss_nil)
        (pss_cons (ps_set (i := 2) sc_meetings.nd rfl (Or.inl rfl) (pe_op op_rep (pe_lst (pa_cons pe_int pa_nil)) (pe_fldK (pv 0) rfl)))
        (pss_cons (ps_for (passes_of rfl) rfl (pi_own rfl (pv 0) T.M_Lot_iter (ok_Lot_iter T) (hr.mono (by omega)) (b_Lot_iter T)) (pg_name (i := 3) sc_meetings.nd rfl (Or.inl rfl)) (pss_one (ps_for (passes_of rfl) rfl (pi_own rfl (pv 1) T.M_Lot_iter (ok_Lot_iter T) (hr.mono (by omega)) (b_Lot_iter T)) (pg_name (i := 4) sc_meetings.nd rfl (Or.inl rfl)) (pss_cons (ps_set (i := 5) sc_meetings.nd rfl (Or.inl rfl) (pe_op op_mod (pe_op op_sub (pv 3) (pv 4)) (pe_fldK (pv 0) rfl)))
        (pss_one (ps_asg (pe_op op_add (pe_ix ix_lK (pv 2) (pv 5) (fun _ _ => rfl)) pe_int) (pg_sub (pv 2) (pv 5) set_list)))))))
        (pss_one (ps_ret (pv 2)))))), ?_⟩
    refine ⟨_, rfl, a, _, dx, _, _, rfl, hi, T.cl_Lot, T.na_Lot_hours, rfl, _, rfl, b, _, dy, _, _, rfl, hj, T.cl_Lot, T.na_Lot_hours, rfl, rfl, _, rfl, ?_⟩
    by_cases hnm : n = m
    case neg =>
      refine wayNF (fun z => hnm (V.int.inj z)) ?_
      exact k1 hnm
    subst hnm
    refine wayNT rfl ?_
    refine ⟨by show 1 ≤ sizeLine; decide, fun q hq => ⟨_, rfl, a, _, dx, _, _, rfl, Ex.new hq _ _ hi, T.cl_Lot, T.na_Lot_hours, rfl, q, n, _, rfl, rfl, upd_same, by omega, by omega, ?_, fun tk htk => ?_⟩⟩
    · show 1 * n.toNat ≤ sizeLine
      exact Nat.le_trans (show 1 * n.toNat ≤ 360 by omega) (by decide)
    have htk0 : H tk = none := fresh_back (Ex.new hq) htk
    have ex0 : ∀ o, Ex H (upd (upd H q (.lst [.int 0])) tk o) := fun o => (Ex.new hq).trans (Ex.new htk)
    rw [cntP_nil]
    try dsimp only
    refine q_forLn (K := K) (a := l) (xs := xs.map V.int) (j := 3) (ev_own (ev_var (i := 0) rfl) (ex0 _ _ _ hi) rfl) (sq_of (ex0 _ _ _ hL))
      (fun i σ' H' => ∃ xv yv bv : Option V, σ' = [some (.ref a), some (.ref b), some (.ref tk), xv, yv, bv] ∧ Ex H H' ∧ H' tk = some (.lst ((cntP n (prod (xs.take i) ys)).map V.int)))
      (fun H2 e2 => ⟨none, none, none, rfl, (ex0 _).trans e2, e2 _ _ upd_same⟩) (fun i σ' H' _ ⟨_, _, _, _, e, _⟩ => sq_of (e _ _ hL)) ?_ ?_
    · rintro i x' σ' H' hix ⟨xv, yv, bv, rfl, ex, ht⟩
      obtain ⟨x, rfl, hxi⟩ := some_int hix
      try dsimp only
      refine s_forLn (K := K) (a := k) (xs := ys.map V.int) (j := 4) (ev_own (ev_var (i := 1) rfl) (ex _ _ hj) rfl) (sq_of (ex _ _ hK))
        (fun j σ' H' => ∃ yv bv : Option V, σ' = [some (.ref a), some (.ref b), some (.ref tk), some (.int x), yv, bv] ∧ Ex H H' ∧ H' tk = some (.lst ((cntP n (prod (xs.take i) ys ++ (ys.take j).map fun y => (x, y))).map V.int)))
        (fun H2 e2 => ⟨yv, bv, rfl, ex.trans e2, by rw [e2 _ _ ht]; simp⟩) (fun i σ' H' _ ⟨_, _, _, e, _⟩ => sq_of (e _ _ hK)) ?_ ?_
      · rintro j y' σ' H' hjy ⟨yv, bv, rfl, ex, ht⟩
        obtain ⟨y, rfl, hyj⟩ := some_int hjy
        have m0 : 0 ≤ (x - y) % n := Int.emod_nonneg _ (by omega)
        have m1 : (x - y) % n < n := Int.emod_lt_of_pos _ (by omega)
        obtain ⟨d, hd⟩ : ∃ d : Nat, (x - y) % n = (d : Int) := ⟨((x - y) % n).toNat, by omega⟩
        have hdn : d < n.toNat := by omega
        refine ⟨_, rfl, _, rfl, _, _, rfl, rfl, _, rfl, a, _, dx, _, _, rfl, ex _ _ hi, T.cl_Lot, T.na_Lot_hours, rfl, _, _, rfl, rfl, (show (0 : Int) < n by omega), ?_⟩
        try dsimp only
        refine s_setL (j := d) (v := .int (((((prod (xs.take i) ys ++ (ys.take j).map fun y => (x, y))).filter fun p => decide ((p.1 - p.2) % n = (d : Int))).length : Int) + 1)) ht (ev_op (ev_op (ev_var (i := 2) rfl) (ev_var (i := 5) rfl) (rv_ixL (sq_of ht) (by rw [hd]; exact atI_nat (by rw [List.getElem?_map, cntP_get hdn]; rfl)))) ev_c rv_I0) (ev_var (i := 2) rfl) (by rw [← hd]; exact ev_var (i := 5) rfl) (by rw [List.length_map, cntP_len]; exact hdn) fun H3 e3 => ?_
        refine ⟨_, _, rfl, Ex.mut (ex.trans e3) htk0, ?_⟩
        rw [upd_same, List.take_succ, hyj, List.map_append, ← List.append_assoc]
        show some (HO.lst _) = some (HO.lst ((cntP n (_ ++ [(x, y)])).map V.int))
        rw [← cntP_set hdn hd, List.map_set]
      · rintro σ' H' ⟨yv, bv, rfl, ex, ht⟩
        refine ⟨_, _, _, rfl, ex, ?_⟩
        rw [ht, prod_take hxi, List.length_map, List.take_length]
    rintro σ' H' ⟨xv, yv, bv, rfl, ex, ht⟩
    rw [List.length_map, List.take_length] at ht
    exact ⟨_, rfl, k2 rfl tk H' htk0 ex ht⟩

def spDiff (A : Ads) : Sp := fun vs H Q E => ∃ (v : V) (n : Int) (xs : List Int), vs = [v] ∧ LotAt A.C_Lot H v n xs ∧ (1 ≤ n ∧ n ≤ 360) ∧ xs.length ≤ 360 ∧
  ∀ p H', H p = none → Ex H H' → H' p = some (.lst ((cntP n (prod xs xs)).map V.int)) → Q (.ref p) H' 
theorem ok_differences (T : Txt K mg A) : FnOk P w K mg base (L2.CX P w) 5 A.f_differences A.d_differences (["lot"] : List Str) (spDiff A) := by
  refine T.F_differences.okX sc_differences (fun vs H Q E h => ?_) (fun cdv Ar outer s H vs Q E hr h => ?_)
  · obtain ⟨v, n, xs, rfl, _⟩ := h
    rfl
  · obtain ⟨v, n, xs, rfl, hi, hn, hx, k⟩ := h
    refine ⟨_, (pss_one (ps_ret (pe_call (ok_meetings T) (hr.mono (by omega)) rfl T.g_meetings T.k_meetings (b_meetings T) .nil (passes_call (takes_of rfl rfl rfl rfl) (fun _ _ _ _ h => h)) (pa_cons (pv 0) (pa_cons (pv 0) pa_nil))))), ?_⟩
    exact ⟨_, rfl, _, rfl, v, v, n, n, xs, xs, rfl, hi, hi, hn, hx, hx, fun z => absurd rfl z, fun _ p H' hp e hp' => k p H' hp e hp'⟩

def sp_cell (K : PySem.W.Frag) : Sp := fun vs H Q _ => ∃ (a : Addr) (ns : List Int) (k : Nat), vs = [.ref a, .int (k : Int)] ∧ SqL K H a (ns.map V.int) ∧ Q (.int (cellA ns k)) H
theorem ev_cell {K : PySem.W.Frag} {E : XK} {σ : L2.St} {H : Hp} {ta tk : TE} {a : Addr} {ns : List Int} {k : Nat} {z : Int} (ha : Ev ta σ H (.ref a)) (hk : Ev tk σ H (.int z)) (hS : SqL K H a (ns.map V.int)) (hz : z = (k : Int) := by rfl) : Ev (tCall (sp_cell K) [] E (tCons ta (tCons tk tNil))) σ H (.int (cellA ns k)) := fun H1 e Q q =>
  ha H1 e _ fun H2 e2 => hk H2 (e.trans e2) _ fun H3 e3 => by subst hz; exact ⟨a, ns, k, rfl, ex_l ((e.trans e2).trans e3) hS, q H3 (e2.trans e3)⟩
theorem ok_u_law_cell (T : Txt K mg A) : FnOk P w K mg base CX0 1 A.f_u_law_cell A.d_u_law_cell (["script", "k"] : List Str) (sp_cell K) := by
  refine T.F_u_law_cell.ok sc_u_law_cell (fun vs H Q E h => ?_) (fun cdv Ar outer s H vs Q E hr h => ?_)
  · obtain ⟨a, ns, k, rfl, _⟩ := h
    rfl
  · obtain ⟨a, ns, k, rfl, hS, q⟩ := h
    refine ⟨_, (pss_cons (ps_if (pt_cmpR op_lt (pv 1) (pe_callB len_K (by rfl) T.z_len (by decide +kernel) (pa_cons (pv 0) pa_nil)) (nomark _)) (pss_one (ps_ret (pe_callB call_abs (by rfl) T.z_abs (by decide +kernel) (pa_cons (pe_ix ix_lK (pv 0) (pv 1) (fun _ _ => rfl)) pa_nil)))) pss_nil)
        (pss_one (ps_ret pe_int))), ?_⟩
    refine ⟨_, rfl, _, rfl, .ref a, _, rfl, .inl ⟨_, hS, rfl⟩, _, _, rfl, rfl, _, rfl, ?_⟩
    unfold cellA at q
    rw [List.length_map]
    by_cases hk : k < ns.length
    · refine wayT (show (k : Int) < (ns.length : Int) by omega) ?_
      rw [if_pos hk] at q
      refine ⟨_, rfl, _, rfl, a, _, _, .int (ns.getD k 0), rfl, rfl, hS, atI_nat ?_, _, rfl, q⟩
      rw [List.getElem?_map, List.getD_eq_getElem?_getD, List.getElem?_eq_getElem hk]
      rfl
    · refine wayF (show ¬ (k : Int) < (ns.length : Int) by omega) ?_
      rw [if_neg hk] at q
      exact q

def sp_draws (K : PySem.W.Frag) : Sp := fun vs H Q _ => ∃ (c s : Int) (m : Addr) (ms : List Int), vs = [.int c, .int s, .ref m] ∧ SqL K H m (ms.map V.int) ∧ 0 ≤ c ∧ (-1000000 ≤ s ∧ s ≤ 1000000) ∧ ms.length ≤ 64 ∧
  (∀ x ∈ ms, 1 ≤ x ∧ x.natAbs < 2 ^ 1000) ∧ ∀ p H' ds, H p = none → Ex H H' → H' p = some (.lst (ds.map V.int)) → Drawn ms ds → Q (.ref p) H'
theorem er_draws {K : PySem.W.Frag} {E : XK} {σ : L2.St} {H : Hp} {tc ts tm : TE} {c z : Int} {ms : List Int} (hc : Ev tc σ H (.int c)) (hs : Ev ts σ H (.int z)) (hm : EvL tm σ H (ms.map V.int)) (h0 : 0 ≤ c) (hz : -1000000 ≤ z ∧ z ≤ 1000000) (hl : ms.length ≤ 64)
    (hb : ∀ x ∈ ms, 1 ≤ x ∧ x.natAbs < 2 ^ 1000) : EvR (tCall (sp_draws K) [] E (tCons tc (tCons ts (tCons tm tNil)))) σ H fun v H1 => ∃ p ds, v = .ref p ∧ H1 p = some (.lst (ds.map V.int)) ∧ Drawn ms ds := fun H1 e Q q =>
  hc H1 e _ fun H2 e2 => hs H2 (e.trans e2) _ fun H3 e3 => hm H3 ((e.trans e2).trans e3) _ fun m H4 _ e4 h4 =>
    ⟨c, z, m, ms, rfl, sq_of h4, h0, hz, hl, hb, fun p H' ds hp e' h' hD => q _ H' ((e2.trans e3).trans (e4.trans e')) ⟨p, ds, rfl, h', hD⟩⟩
theorem drawn_more {ms ds : List Int} {i : Nat} {m d : Int} (h : Drawn (ms.take i) ds) (hm : ms[i]? = some m) (h0 : 0 ≤ d) (h1 : d < m) : Drawn (ms.take (i + 1)) (ds ++ [d]) := by
  have hi : i < ms.length := (List.getElem?_eq_some_iff.mp hm).1
  obtain ⟨hl, hd⟩ := h
  have hl' : ds.length = i := by rw [hl, List.length_take]; omega
  refine ⟨by rw [List.length_append, hl', List.length_take]; simp; omega, fun j x hj => ?_⟩
  by_cases hji : j < i
  · have hx : (ms.take i)[j]? = some x := by
      rw [List.getElem?_take_of_lt hji]
      rw [List.getElem?_take_of_lt (by omega)] at hj
      exact hj
    obtain ⟨d', e, z⟩ := hd j x hx
    exact ⟨d', by rw [List.getElem?_append_left (by omega)]; exact e, z⟩
  · have hlt : j < i + 1 := by
      have := (List.getElem?_eq_some_iff.mp hj).1
      rw [List.length_take] at this
      omega
    have ej : j = i := by omega
    subst ej
    rw [List.getElem?_take_of_lt hlt, hm] at hj
    cases hj
    exact ⟨d, by rw [List.getElem?_append_right (by omega), hl', Nat.sub_self]; rfl, h0, h1⟩
theorem ok_u_law_draws (T : Txt K mg A) : FnOk P w K mg base CX0 1 A.f_u_law_draws A.d_u_law_draws (["cell", "salt", "menu"] : List Str) (sp_draws K) := by
  refine T.F_u_law_draws.ok sc_u_law_draws (fun vs H Q E h => ?_) (fun cdv Ar outer s H vs Q E hr h => ?_)
  · obtain ⟨c, s, m, ms, rfl, _⟩ := h
    rfl
  · obtain ⟨c, sa, m, ms, rfl, hS, hc, hs, hl, hm, k⟩ := h
    refine ⟨_, (pss_cons (ps_set (i := 3) sc_u_law_draws.nd rfl (Or.inl rfl) (pe_lst pa_nil))
        (pss_cons (ps_set (i := 4) sc_u_law_draws.nd rfl (Or.inl rfl) (pe_op op_sub (pv 0) (pe_op op_pow pe_int pe_int)))
        (pss_cons (ps_set (i := 5) sc_u_law_draws.nd rfl (Or.inl rfl) (pe_op op_add (pv 0) (pe_op op_mul pe_int (pv 1))))
        (pss_cons (ps_for PassesOwn.never rfl (pi_range1 rfl T.z_range (pa_cons (pe_callB len_K (by rfl) T.z_len (by decide +kernel) (pa_cons (pv 2) pa_nil)) pa_nil)) (pg_name (i := 6) sc_u_law_draws.nd rfl (Or.inl rfl)) (pss_one (ps_if (pt_cmpR op_ge (pv 4) pe_int (nomark _)) (pss_cons (ps_expr (pe_bm PySem.F.plainAttrs_list PySem.F.slot_list_append PySem.F.type_list_append mt_append (pv 3) (pa_cons (pe_op op_mod (pe_callTy call_int1 (by rfl) T.z_int (by decide +kernel) (pa_cons (pv 4) pa_nil)) (pe_ix ix_lK (pv 2) (pv 6) (fun _ _ => rfl))) pa_nil)))
        (pss_one (ps_set (i := 4) sc_u_law_draws.nd rfl (Or.inl rfl) (pe_op op_fdivW (pv 4) (pe_ix ix_lK (pv 2) (pv 6) (fun _ _ => rfl)))))) (pss_cons (ps_set (i := 5) sc_u_law_draws.nd rfl (Or.inl rfl) (pe_op op_mod (pe_callTy call_int1 (by rfl) T.z_int (by decide +kernel) (pa_cons (pe_op op_add (pe_op op_add (pe_op op_mul (pv 5) (pv 5)) (pe_op op_mul pe_int (pe_op op_add (pv 6) pe_int))) pe_int) pa_nil)) pe_int))
        (pss_cons (ps_set (i := 5) sc_u_law_draws.nd rfl (Or.inl rfl) (pe_op op_mod (pe_callTy call_int1 (by rfl) T.z_int (by decide +kernel) (pa_cons (pe_op op_add (pe_op op_mul (pv 5) (pv 5)) (pe_op op_fdiv (pv 5) pe_int)) pa_nil)) pe_int))
        (pss_one (ps_expr (pe_bm PySem.F.plainAttrs_list PySem.F.slot_list_append PySem.F.type_list_append mt_append (pv 3) (pa_cons (pe_op op_mod (pe_callTy call_int1 (by rfl) T.z_int (by decide +kernel) (pa_cons (pe_op op_fdiv (pv 5) pe_int) pa_nil)) (pe_ix ix_lK (pv 2) (pv 6) (fun _ _ => rfl))) pa_nil)))))))))
        (pss_one (ps_ret (pv 3))))))), ?_⟩
    refine ⟨Nat.zero_le _, fun p hp => ?_⟩
    refine ⟨_, rfl, _, _, rfl, rfl, ⟨by decide, by decide, by decide⟩, _, _, rfl, rfl, ?_⟩
    refine ⟨_, rfl, _, rfl, _, _, rfl, rfl, .inl ⟨by decide, by decide⟩, _, _, rfl, rfl, ?_⟩
    have e10 : ((10 : Int) ^ (18 : Int).toNat) = 1000000000000000000 := by decide
    have hS1 : SqL K (upd H p (.lst [])) m (ms.map V.int) := ex_l (Ex.new hp) hS
    refine ⟨_, rfl, .ref m, _, rfl, .inl ⟨_, hS1, rfl⟩, _, rfl, by omega, by rw [List.length_map]; omega, ?_⟩
    refine for_range (lo := 0) (n := ((ms.map V.int).length : Int).toNat) (fun i σ H' => ∃ (ds : List Int) (rest mixed : Int) (kv : Option V), σ = [some (.int c), some (.int sa), some (.ref m), some (.ref p), some (.int rest), some (.int mixed), kv] ∧ Ex H H' ∧
        H' p = some (.lst (ds.map V.int)) ∧ Drawn (ms.take i) ds ∧ (0 ≤ rest ∨ (-18446744073709551616 < mixed ∧ mixed < 18446744073709551616))) ?_ ?_ ?_
    · refine ⟨[], _, _, none, rfl, Ex.new hp, upd_same, ⟨by simp, fun i x h => by simp at h⟩, ?_⟩
      rw [e10]
      omega
    · rintro i σ H' hi ⟨ds, rest, mixed, kv, rfl, ex, hH, hD, hr0⟩
      have hi' : i < ms.length := by simpa using hi
      obtain ⟨mi, hmi⟩ : ∃ mi, ms[i]? = some mi := ⟨ms[i], List.getElem?_eq_getElem hi'⟩
      have hmm := hm mi (List.mem_of_getElem? hmi)
      have hSi : SqL K H' m (ms.map V.int) := ex_l ex hS
      have hat : atI (ms.map V.int) (0 + (i : Int)) = some (.int mi) := by
        rw [Int.zero_add]
        refine atI_nat ?_
        rw [List.getElem?_map, hmi]
        rfl
      have hdl : ds.length ≤ 64 := by
        have := hD.1
        rw [List.length_take] at this
        omega
      have hsz : (ds.map V.int).length < sizeLine := by
        rw [List.length_map]
        exact Nat.lt_of_le_of_lt hdl (by decide)
      have e0 : (0 : Int) + (i : Int) = (i : Int) := Int.zero_add _
      refine ⟨_, rfl, _, _, rfl, rfl, _, rfl, way (fun hr => ?_) (fun hr => ?_)⟩
      · refine ⟨_, rfl, .inl ⟨rfl, _, SqL.of hH⟩, _, rfl, .inl ⟨rest, rfl, _, rfl, _, rfl, m, _, _, .int mi, rfl, rfl, hSi, hat, _, _, rfl, rfl, (by show (0 : Int) < mi; omega), p, _, _, rfl, rfl, hH, hsz, ?_⟩⟩
        have ex2 : Ex H (upd H' p (.lst (ds.map V.int ++ [.int (rest % mi)]))) := Ex.mut ex hp
        refine ⟨_, rfl, _, rfl, _, rfl, m, _, _, .int mi, rfl, rfl, ex_l ex2 hS, hat, _, _, rfl, rfl, wide_div (by omega) hmm.2 (by decide) (by decide), ?_⟩
        refine ⟨ds ++ [rest % mi], rest / mi, mixed, _, rfl, ex2, ?_, drawn_more hD hmi (Int.emod_nonneg _ (by omega)) (Int.emod_lt_of_pos _ (by omega)), .inl (Int.ediv_nonneg hr (by omega))⟩
        rw [upd_same, List.map_append]
        rfl
      · have hx : -18446744073709551616 < mixed ∧ mixed < 18446744073709551616 := by omega
        refine ⟨_, rfl, _, rfl, _, _, rfl, rfl, .inl ⟨hx.1, hx.2⟩, _, rfl, _, _, rfl, rfl, _, _, rfl, rfl, .inl ⟨by decide, by decide⟩, _, _, rfl, rfl, _, _, rfl, rfl, .inl ⟨_, rfl, _, _, rfl, rfl, (by show (0 : Int) < 2147483399; decide), ?_⟩⟩
        have b1 : ∀ z : Int, 0 ≤ z % 2147483399 ∧ z % 2147483399 < 2147483399 := fun z => ⟨Int.emod_nonneg _ (by decide), Int.emod_lt_of_pos _ (by decide)⟩
        have b2 : ∀ z : Int, 0 ≤ z % 2147483629 ∧ z % 2147483629 < 2147483629 := fun z => ⟨Int.emod_nonneg _ (by decide), Int.emod_lt_of_pos _ (by decide)⟩
        refine ⟨_, rfl, _, rfl, _, _, rfl, rfl, .inl ⟨Int.lt_of_lt_of_le (by decide) (b1 _).1, Int.lt_trans (b1 _).2 (by decide)⟩, _, rfl, _, _, rfl, rfl, ⟨by decide, by decide⟩, _, _, rfl, rfl, .inl ⟨_, rfl, _, _, rfl, rfl, (by show (0 : Int) < 2147483629; decide), ?_⟩⟩
        refine ⟨_, rfl, .inl ⟨rfl, _, SqL.of hH⟩, _, rfl, _, _, rfl, rfl, ⟨by decide, by decide⟩, .inl ⟨_, rfl, _, rfl, _, rfl, m, _, _, .int mi, rfl, rfl, hSi, hat, _, _, rfl, rfl, (by show (0 : Int) < mi; omega), p, _, _, rfl, rfl, hH, hsz, ?_⟩⟩
        refine ⟨ds ++ [((((mixed * mixed + 3571 * (0 + (i : Int) + 1) + 40692) % 2147483399) * ((mixed * mixed + 3571 * (0 + (i : Int) + 1) + 40692) % 2147483399) + ((mixed * mixed + 3571 * (0 + (i : Int) + 1) + 40692) % 2147483399) / 97) % 2147483629) / 8 % mi], rest, _, _, rfl, Ex.mut ex hp, ?_, drawn_more hD hmi (Int.emod_nonneg _ (by omega)) (Int.emod_lt_of_pos _ (by omega)), .inr ⟨Int.lt_of_lt_of_le (by decide) (b2 _).1, Int.lt_trans (b2 _).2 (by decide)⟩⟩
        rw [upd_same, List.map_append]
        rfl
    · rintro σ H' ⟨ds, rest, mixed, kv, rfl, ex, hH, hD, _⟩
      refine ⟨_, rfl, k p H' ds hp ex hH ?_⟩
      have e : ((ms.map V.int).length : Int).toNat = ms.length := by simp
      rw [e, List.take_length] at hD
      exact hD

theorem isi {K : PySem.W.Frag} {H : Hp} {x : V} {t n : String} {b : Bool} {Q : VK} (ty : TyX K H x (.type t)) (h : kitB t n = some b) (q : Q (.bl b) H) : rIsi K [x, .ty n] H Q := ⟨x, .ty n, _, _, b, rfl, .ty n, ty, kit_ty h, q⟩
def sp_is_int (K : PySem.W.Frag) : Sp := fun vs H Q _ => ∃ i : Int, vs = [.int i] ∧ Q (.bl true) H
theorem ok_u_law_is_int (T : Txt K mg A) : FnOk P w K mg base CX0 1 A.f_u_law_is_int A.d_u_law_is_int (["x"] : List Str) (sp_is_int K) := by
  refine T.F_u_law_is_int.ok sc_u_law_is_int (fun vs H Q E h => ?_) (fun cdv Ar outer s H vs Q E hr h => ?_)
  · obtain ⟨i, rfl, _⟩ := h
    rfl
  · obtain ⟨i, rfl, q⟩ := h
    refine ⟨_, (pss_one (ps_ret (pe_and (pe_callB isi_K (by rfl) T.z_isinstance (by decide +kernel) (pa_cons (pv 0) (pa_cons (pe_bltn (v := .ty "int") (by rfl) T.z_int (by decide +kernel) rfl) pa_nil))) (pe_one (pe_not (pe_callB isi_K (by rfl) T.z_isinstance (by decide +kernel) (pa_cons (pv 0) (pa_cons (pe_bltn (v := .ty "bool") (by rfl) T.z_bool (by decide +kernel) rfl) pa_nil)))))))), ?_⟩
    refine ⟨_, rfl, _, _, _, _, true, rfl, .ty _, .base (.int i), kit_ty (by decide +kernel), ⟨_, rfl, iteT ?_⟩⟩
    exact ⟨_, rfl, _, _, _, _, false, rfl, .ty _, .base (.int i), kit_ty (by decide +kernel), ⟨_, rfl, q⟩⟩
/-- like data are told alike -/
def sp_same (K : PySem.W.Frag) (n : Nat) : Sp := fun vs H Q _ => ∃ (x y : V) (d : PyData), vs = [x, y] ∧ Dp K H x d ∧ Dp K H y d ∧ Flat n d ∧ Q (.bl true) H
theorem same_loop {K : PySem.W.Frag} {H : Hp} {n k : Nat} {xs ys : List V} {ds : List PyData} {x y : V} {kv : Option V} {Q : VK} {N : L2.St → Hp → Prop} {tb : TS} (hk : k = ds.length) (hx : DpAll K H xs ds) (hy : DpAll K H ys ds) (hf : ∀ d ∈ ds, Flat n d) (hl : ds.length ≤ 40000)
    (hb : ∀ (i : Nat) (u v : V) (d : PyData) (kv : Option V) (D : Ends), i < ds.length → xs[i]? = some u → ys[i]? = some v → Dp K H u d → Dp K H v d → Flat n d → D.nx [some x, some y, some (.int (i : Int))] H → tb D ([some x, some y, kv].set 2 (some (.int (i : Int)))) H)
    (hq : ∀ kv, N [some x, some y, kv] H) :
    ∃ W : Nat → Nat → L2.St → Hp → Prop, (∃ m, W 0 m [some x, some y, kv] H) ∧ ∀ i m σ H, W i m σ H →
      ((Itr 0 k).stop i H ∧ N σ H) ∨ ((Itr 0 k).go i H ∧ ∃ N' : L2.St → Hp → Prop, (∀ σ' H', N' σ' H' → ∃ m', m' < m ∧ W (i + 1) m' σ' H') ∧ ∀ z H', (Itr 0 k).yld i H z H' → gName 2 z σ H' fun σ2 H2 => tb { nx := N', ct := N', bk := N, rt := Q } σ2 H2) := by
  subst hk
  refine for_range (D := { nx := N, rt := Q }) (fun i σ H' => H' = H ∧ ∃ kv, σ = [some x, some y, kv]) ⟨rfl, _, rfl⟩ ?_ ?_
  · rintro i σ H' hi ⟨rfl, kv, rfl⟩
    obtain ⟨_, gx⟩ := dp_get hx
    obtain ⟨_, gy⟩ := dp_get hy
    have ed := List.getElem?_eq_getElem hi
    obtain ⟨u, eu, du⟩ := gx i _ ed
    obtain ⟨v, ev, dv⟩ := gy i _ ed
    show tb _ ([some x, some y, kv].set 2 (some (.int (0 + (i : Int))))) H'
    rw [Int.zero_add]
    exact hb i u v _ kv _ hi eu ev du dv (hf _ (List.getElem_mem hi)) ⟨rfl, _, rfl⟩
  · rintro σ H' ⟨rfl, kv, rfl⟩
    exact hq kv
theorem ok_u_law_same_n (T : Txt K mg A) : ∀ n, FnOk P w K mg base CX0 (n + 2) A.f_u_law_same A.d_u_law_same (["got", "due"] : List Str) (sp_same K n) := by
  intro n
  induction n with
  | zero => exact ⟨fun vs H Q E h => by obtain ⟨x, y, d, rfl, _⟩ := h; rfl, fun Ar outer s H args us vs Q E _ _ _ _ h => by obtain ⟨x, y, d, _, _, _, hf, _⟩ := h; exact hf.elim⟩
  | succ n ih =>
    refine T.F_u_law_same.ok sc_u_law_same (fun vs H Q E h => ?_) (fun cdv Ar outer s H vs Q E hr h => ?_)
    · obtain ⟨x, y, d, rfl, _⟩ := h
      rfl
    · obtain ⟨x, y, d, rfl, hx, hy, hf, q⟩ := h
      have ihx := ih
      refine ⟨_, (pss_cons (ps_if (pt_cmpR op_isN (pv 1) pe_non (nomark _)) (pss_one (ps_ret (pe_cmpR op_isN (pv 0) pe_non (nomark _)))) pss_nil)
        (pss_cons (ps_if (pt_cmpR op_isK (pv 1) pe_bl (nomark _)) (pss_one (ps_ret (pe_cmpR op_isK (pv 0) pe_bl (nomark _)))) pss_nil)
        (pss_cons (ps_if (pt_cmpR op_isK (pv 1) pe_bl (nomark _)) (pss_one (ps_ret (pe_cmpR op_isK (pv 0) pe_bl (nomark _)))) pss_nil)
        (pss_cons (ps_if (pt_val (pe_callB isi_K (by rfl) T.z_isinstance (by decide +kernel) (pa_cons (pv 1) (pa_cons (pe_bltn (v := .ty "int") (by rfl) T.z_int (by decide +kernel) rfl) pa_nil)))) (pss_one (ps_ret (pe_and (pe_call (ok_u_law_is_int T) (hr.mono (by omega)) rfl T.g_u_law_is_int T.k_u_law_is_int (b_u_law_is_int T) .nil pass0 (pa_cons (pv 0) pa_nil)) (pe_one (pe_cmpR op_eq (pv 0) (pv 1) (nomark _)))))) pss_nil)
        (pss_cons (ps_if (pt_val (pe_callB isi_K (by rfl) T.z_isinstance (by decide +kernel) (pa_cons (pv 1) (pa_cons (pe_bltn (v := .ty "str") (by rfl) T.z_str (by decide +kernel) rfl) pa_nil)))) (pss_one (ps_ret (pe_and (pe_callB isi_K (by rfl) T.z_isinstance (by decide +kernel) (pa_cons (pv 0) (pa_cons (pe_bltn (v := .ty "str") (by rfl) T.z_str (by decide +kernel) rfl) pa_nil))) (pe_one (pe_cmpR op_eq (pv 0) (pv 1) (nomark _)))))) pss_nil)
        (pss_cons (ps_if (pt_val (pe_callB isi_K (by rfl) T.z_isinstance (by decide +kernel) (pa_cons (pv 1) (pa_cons (pe_bltn (v := .ty "tuple") (by rfl) T.z_tuple (by decide +kernel) rfl) pa_nil)))) (pss_one (ps_if (PW.pt (pw_or (pt_not (pt_val (pe_callB isi_K (by rfl) T.z_isinstance (by decide +kernel) (pa_cons (pv 0) (pa_cons (pe_bltn (v := .ty "tuple") (by rfl) T.z_tuple (by decide +kernel) rfl) pa_nil))))) (pw_or1 (pt_cmpR op_ne (pe_callB len_K (by rfl) T.z_len (by decide +kernel) (pa_cons (pv 0) pa_nil)) (pe_callB len_K (by rfl) T.z_len (by decide +kernel) (pa_cons (pv 1) pa_nil)) (nomark _))))) (pss_one (ps_ret pe_bl)) pss_nil)) (pss_one (ps_if (PW.pt (pw_or (pt_not (pt_val (pe_callB isi_K (by rfl) T.z_isinstance (by decide +kernel) (pa_cons (pv 0) (pa_cons (pe_bltn (v := .ty "list") (by rfl) T.z_list (by decide +kernel) rfl) pa_nil))))) (pw_or1 (pt_cmpR op_ne (pe_callB len_K (by rfl) T.z_len (by decide +kernel) (pa_cons (pv 0) pa_nil)) (pe_callB len_K (by rfl) T.z_len (by decide +kernel) (pa_cons (pv 1) pa_nil)) (nomark _))))) (pss_one (ps_ret pe_bl)) pss_nil)))
        (pss_cons (ps_for PassesOwn.never rfl (pi_range1 rfl T.z_range (pa_cons (pe_callB len_K (by rfl) T.z_len (by decide +kernel) (pa_cons (pv 1) pa_nil)) pa_nil)) (pg_name (i := 2) sc_u_law_same.nd rfl (Or.inl rfl)) (pss_one (ps_if (pt_not (pt_val (pe_call ih (hr.mono (by omega)) rfl T.g_u_law_same T.k_u_law_same (b_u_law_same T) .nil pass0 (pa_cons (pe_ix ix_sK (pv 0) (pv 2) (fun _ _ => rfl)) (pa_cons (pe_ix ix_sK (pv 1) (pv 2) (fun _ _ => rfl)) pa_nil))))) (pss_one (ps_ret pe_bl)) pss_nil)))
        (pss_one (ps_ret pe_bl))))))))), ?_⟩
      cases hx with
      | non => cases hy; exact ⟨_, rfl, rfl, _, rfl, wayT rfl ⟨_, rfl, rfl, q⟩⟩
      | bl b =>
        cases hy
        refine ⟨_, rfl, rfl, _, rfl, wayF (fun z => by cases z) ?_⟩
        cases b with
        | true => exact ⟨_, rfl, _, rfl, _, rfl, wayT rfl ⟨_, rfl, _, rfl, q⟩⟩
        | false => exact ⟨_, rfl, _, rfl, _, rfl, wayF (fun z => by cases z) ⟨_, rfl, _, rfl, _, rfl, wayT rfl ⟨_, rfl, _, rfl, q⟩⟩⟩
      | int i =>
        cases hy
        refine ⟨_, rfl, rfl, _, rfl, wayF (fun z => by cases z) ⟨_, rfl, _, rfl, _, rfl, wayF (fun z => by cases z) ⟨_, rfl, _, rfl, _, rfl, wayF (fun z => by cases z) ?_⟩⟩⟩
        refine ⟨_, rfl, _, _, _, _, true, rfl, .ty _, .base (.int i), kit_ty (by decide +kernel), ⟨_, rfl, iteT ?_⟩⟩
        refine ⟨_, rfl, i, rfl, _, rfl, iteT ?_⟩
        refine ⟨_, rfl, _, rfl, rfl, ?_⟩
        rw [decide_eq_true rfl]
        exact q
      | str z =>
        cases hy
        refine ⟨_, rfl, rfl, _, rfl, wayF (fun z => by cases z) ⟨_, rfl, _, rfl, _, rfl, wayF (fun z => by cases z) ⟨_, rfl, _, rfl, _, rfl, wayF (fun z => by cases z) ?_⟩⟩⟩
        refine ⟨_, rfl, _, _, _, _, false, rfl, .ty _, .base (.str z), kit_ty (by decide +kernel), ⟨_, rfl, iteF ?_⟩⟩
        refine ⟨_, rfl, _, _, _, _, true, rfl, .ty _, .base (.str z), kit_ty (by decide +kernel), ⟨_, rfl, iteT ?_⟩⟩
        refine ⟨_, rfl, _, _, _, _, true, rfl, .ty _, .base (.str z), kit_ty (by decide +kernel), ⟨_, rfl, iteT ?_⟩⟩
        refine ⟨_, rfl, _, rfl, rfl, ?_⟩
        rw [decide_eq_true rfl]
        exact q
      | lst sx ax =>
        cases hy with
        | lst sy ay =>
          refine ⟨_, rfl, rfl, _, rfl, wayF (fun z => by cases z) ⟨_, rfl, _, rfl, _, rfl, wayF (fun z => by cases z) ⟨_, rfl, _, rfl, _, rfl, wayF (fun z => by cases z) ?_⟩⟩⟩
          refine ⟨_, rfl, _, _, _, _, false, rfl, .ty _, tyx_l sy, kit_ty (by decide +kernel), ⟨_, rfl, iteF ?_⟩⟩
          refine ⟨_, rfl, _, _, _, _, false, rfl, .ty _, tyx_l sy, kit_ty (by decide +kernel), ⟨_, rfl, iteF ?_⟩⟩
          refine ⟨_, rfl, _, _, _, _, false, rfl, .ty _, tyx_l sy, kit_ty (by decide +kernel), ⟨_, rfl, iteF ?_⟩⟩
          refine ⟨_, rfl, _, _, _, _, true, rfl, .ty _, tyx_l sx, kit_ty (by decide +kernel), ⟨_, rfl, iteF ?_⟩⟩
          have lx := (dp_get ax).1
          have ly := (dp_get ay).1
          refine ⟨_, rfl, _, _, rfl, .inl ⟨_, sx, rfl⟩, _, rfl, _, _, rfl, .inl ⟨_, sy, rfl⟩, rfl, _, rfl, wayNT (by rw [lx, ly]) ?_⟩
          have h40 := hf.1
          refine ⟨_, rfl, _, _, rfl, .inl ⟨_, sy, rfl⟩, _, rfl, by omega, by omega, same_loop (by omega) ax ay hf.2 hf.1 (fun i u v d kv D hi eu ev du dv fd hn => ?_) (fun kv => q)⟩
          refine ⟨_, rfl, _, rfl, .inl ⟨_, _, _, u, rfl, rfl, sx, atI_nat eu, ?_⟩⟩
          refine ⟨_, rfl, _, rfl, .inl ⟨_, _, _, v, rfl, rfl, sy, atI_nat ev, ?_⟩⟩
          exact ⟨u, v, d, rfl, du, dv, fd, _, rfl, iteF hn⟩
      | tup sx ax =>
        cases hy with
        | tup sy ay =>
          refine ⟨_, rfl, rfl, _, rfl, wayF (fun z => by cases z) ⟨_, rfl, _, rfl, _, rfl, wayF (fun z => by cases z) ⟨_, rfl, _, rfl, _, rfl, wayF (fun z => by cases z) ?_⟩⟩⟩
          refine ⟨_, rfl, _, _, _, _, false, rfl, .ty _, tyx_t sy, kit_ty (by decide +kernel), ⟨_, rfl, iteF ?_⟩⟩
          refine ⟨_, rfl, _, _, _, _, false, rfl, .ty _, tyx_t sy, kit_ty (by decide +kernel), ⟨_, rfl, iteF ?_⟩⟩
          refine ⟨_, rfl, _, _, _, _, true, rfl, .ty _, tyx_t sy, kit_ty (by decide +kernel), ⟨_, rfl, iteT ?_⟩⟩
          refine ⟨_, rfl, _, _, _, _, true, rfl, .ty _, tyx_t sx, kit_ty (by decide +kernel), ⟨_, rfl, iteF ?_⟩⟩
          have lx := (dp_get ax).1
          have ly := (dp_get ay).1
          refine ⟨_, rfl, _, _, rfl, .inr ⟨_, sx, rfl⟩, _, rfl, _, _, rfl, .inr ⟨_, sy, rfl⟩, rfl, _, rfl, wayNT (by rw [lx, ly]) ?_⟩
          have h40 := hf.1
          refine ⟨_, rfl, _, _, rfl, .inr ⟨_, sy, rfl⟩, _, rfl, by omega, by omega, same_loop (by omega) ax ay hf.2 hf.1 (fun i u v d kv D hi eu ev du dv fd hn => ?_) (fun kv => q)⟩
          refine ⟨_, rfl, _, rfl, .inr (.inl ⟨_, _, _, u, rfl, rfl, sx, atI_nat eu, ?_⟩)⟩
          refine ⟨_, rfl, _, rfl, .inr (.inl ⟨_, _, _, v, rfl, rfl, sy, atI_nat ev, ?_⟩)⟩
          exact ⟨u, v, d, rfl, du, dv, fd, _, rfl, iteF hn⟩
theorem ok_u_law_same (T : Txt K mg A) : FnOk P w K mg base CX0 6 A.f_u_law_same A.d_u_law_same (["got", "due"] : List Str) (sp_same K 4) := ok_u_law_same_n T 4

def spBits : Sp := fun vs H Q _ => ∃ n z : Int, vs = [.int n, .int z] ∧ (0 ≤ n ∧ n ≤ 25) ∧ ∀ p H' xs, H p = none → Ex H H' → H' p = some (.lst (xs.map V.int)) → Asc 0 n xs → Q (.ref p) H' 
theorem ok_u_law_bits (T : Txt K mg A) : FnOk P w K mg base CX0 1 A.f_u_law_bits A.d_u_law_bits (["n", "number"] : List Str) spBits := by
  refine T.F_u_law_bits.ok sc_u_law_bits (fun vs H Q E h => ?_) (fun cdv Ar outer s H vs Q E hr h => ?_)
  · obtain ⟨n, z, rfl, _⟩ := h
    rfl
  · obtain ⟨n, z, rfl, hn, k⟩ := h
    refine ⟨_, (pss_cons (ps_set (i := 2) sc_u_law_bits.nd rfl (Or.inl rfl) (pe_lst pa_nil))
        (pss_cons (ps_for PassesOwn.never rfl (pi_range1 rfl T.z_range (pa_cons (pv 0) pa_nil)) (pg_name (i := 3) sc_u_law_bits.nd rfl (Or.inl rfl)) (pss_cons (ps_if (pt_cmpR op_eq (pe_op op_mod (pe_callTy call_int1 (by rfl) T.z_int (by decide +kernel) (pa_cons (pv 1) pa_nil)) pe_int) pe_int (nomark _)) (pss_one (ps_expr (pe_bm PySem.F.plainAttrs_list PySem.F.slot_list_append PySem.F.type_list_append mt_append (pv 2) (pa_cons (pv 3) pa_nil)))) pss_nil)
        (pss_one (ps_set (i := 1) sc_u_law_bits.nd rfl (Or.inl rfl) (pe_op op_fdiv (pv 1) pe_int)))))
        (pss_one (ps_ret (pv 2))))), ?_⟩
    try dsimp only
    refine q_asgL (xs := []) (el_lst ea_nil (by decide)) fun fp H1 hfp e1 h1 => ?_
    refine q_forR1 (j := 3) (n := n) (ea_cons (ev_var rfl) ea_nil) (by omega)
      (fun i σ' H' => ∃ (z : Int) (hv : Option V) (xs : List Int), σ' = [some (.int n), some (.int z), some (.ref fp), hv] ∧ Ex H H' ∧ H' fp = some (.lst (xs.map V.int)) ∧ Asc 0 (i : Int) xs)
      (fun H2 e2 => ⟨z, none, [], rfl, e1.trans e2, e2 _ _ h1, .nil⟩) ?_ ?_
    · rintro i σ' H' hi ⟨z, hv, xs, rfl, ex, hf, hA⟩
      have hl := hA.len
      have hsz : (xs.map V.int).length < 100000 := by rw [List.length_map]; omega
      try dsimp only
      have tail : ∀ (H2 : Hp) (ys : List Int) (D : Ends), Ex H H2 → H2 fp = some (.lst (ys.map V.int)) → Asc 0 ((i : Int) + 1) ys →
          (∀ σ' H', (∃ (z : Int) (hv : Option V) (xs : List Int), σ' = [some (.int n), some (.int z), some (.ref fp), hv] ∧ Ex H H' ∧ H' fp = some (.lst (xs.map V.int)) ∧ Asc 0 ((i + 1 : Nat) : Int) xs) → D.nx σ' H') →
          tAsg (tOp (rI CDiv fun i j => V.int (i / j)) (tVar 1) (tC (V.int 2))) (gName 1) D [some (.int n), some (.int z), some (.ref fp), some (.int (i : Int))] H2 := fun H2 ys D e2 h2 hA2 hD =>
        s_asg (v := .int (z / 2)) (ev_op (ev_var (i := 1) rfl) ev_c (rv_I (show CDiv z 2 from ⟨by decide, by decide⟩))) fun H3 e3 => hD _ _ ⟨z / 2, _, ys, rfl, e2.trans e3, e3 _ _ h2, by simpa using hA2⟩
      refine q_when (b := decide (z % 2 = 1)) (et_test (ev_is (ev_op (ev_op (ev_cb (ea_cons (ev_var (i := 1) rfl) ea_nil) (fun H1 _ _ q => .inl ⟨_, rfl, q H1 (Ex.refl H1)⟩)) ev_c (rv_I (show (0 : Int) < 2 by decide))) ev_c (rv_eq rfl)) (by rw [dec_ii]))) (fun _ H2 e2 => ?_) (fun _ H2 e2 => ?_)
      · refine s_app (e2 _ _ hf) (ev_var (i := 2) rfl) (ev_var (i := 3) rfl) hsz fun H3 e3 => ?_
        refine tail _ (xs ++ [(i : Int)]) _ (Ex.mut ((ex.trans e2).trans e3) hfp) (by rw [upd_same, List.map_append]; rfl) ?_ (fun _ _ h => h)
        exact hA.append (mid' := (i : Int)) ⟨List.pairwise_singleton _ _, fun x hx => by cases List.mem_singleton.mp hx; omega⟩ (by omega) (by omega) (by omega)
      · exact tail _ xs _ (ex.trans e2) (e2 _ _ hf) (hA.mono (by omega) (by omega)) (fun _ _ h => h)
    rintro σ' H' ⟨z, hv, xs, rfl, ex, hf, hA⟩
    exact ⟨_, rfl, k fp H' xs hfp ex hf (hA.mono (by omega) (by omega))⟩

def spSubset (K : PySem.W.Frag) : Sp := fun vs H Q _ => ∃ c s n : Int, vs = [.int c, .int s, .int n] ∧ 0 ≤ c ∧ (-1000000 ≤ s ∧ s ≤ 1000000) ∧ (1 ≤ n ∧ n ≤ 360) ∧ ∀ p H' xs, H p = none → Ex H H' → H' p = some (.lst (xs.map V.int)) → Asc 0 n xs → Q (.ref p) H' 
theorem ok_u_law_subset (T : Txt K mg A) : FnOk P w K mg base CX0 3 A.f_u_law_subset A.d_u_law_subset (["cell", "salt", "n"] : List Str) (spSubset K) := by
  refine T.F_u_law_subset.ok sc_u_law_subset (fun vs H Q E h => ?_) (fun cdv Ar outer s H vs Q E hr h => ?_)
  · obtain ⟨c, s, n, rfl, _⟩ := h
    rfl
  · obtain ⟨c, sa, n, rfl, hc, hs, hn, k⟩ := h
    refine ⟨_, (pss_cons (ps_set (i := 3) sc_u_law_subset.nd rfl (Or.inl rfl) (pe_lst pa_nil))
        (pss_cons (ps_set (i := 4) sc_u_law_subset.nd rfl (Or.inl rfl) (pe_call (ok_u_law_draws T) (hr.mono (by omega)) rfl T.g_u_law_draws T.k_u_law_draws (b_u_law_draws T) .nil pass0 (pa_cons (pv 0) (pa_cons (pv 1) (pa_cons (pe_op op_rep (pe_lst (pa_cons (pe_op op_pow pe_int pe_int) pa_nil)) (pe_op op_add pe_int (pe_op op_fdiv (pe_op op_sub (pv 2) pe_int) pe_int))) pa_nil)))))
        (pss_cons (ps_for PassesOwn.never rfl (pi_range1 rfl T.z_range (pa_cons (pe_callB len_K (by rfl) T.z_len (by decide +kernel) (pa_cons (pv 4) pa_nil)) pa_nil)) (pg_name (i := 5) sc_u_law_subset.nd rfl (Or.inr rfl)) (pss_one (ps_set (i := 3) sc_u_law_subset.nd rfl (Or.inl rfl) (pe_op op_cat (pv 3) (pe_lc (own := [("h", 6)]) (g := gName 6) rfl sc_u_law_subset.nd (pi_listK (pe_call (ok_u_law_bits T) (hr.mono (by omega)) rfl T.g_u_law_bits T.k_u_law_bits (b_u_law_bits T) .nil pass0 (pa_cons pe_int (pa_cons (pe_ix ix_lK (pv 4) (pv 5) (fun _ _ => rfl)) pa_nil)))) (blkOk_by (own := [("h", 6)]) (N := N_u_law_subset) (sc := defScope s_u_law_subset) (by decide +kernel)) (fun _ _ _ _ _ => (pg_name (i := 6) sc_u_law_subset.nd rfl (Or.inl rfl))) (fun _ _ _ _ _ => (pts_one (pt_cmpR op_lt (pe_op op_add (pe_op op_mul pe_int (pv 5)) (pv 6)) (pv 2) (nomark _)))) (fun _ _ _ _ _ => (pe_op op_add (pe_op op_mul pe_int (pv 5)) (pv 6))))))))
        (pss_one (ps_ret (pv 3)))))), ?_⟩
    try dsimp only
    refine q_asgL (xs := []) (el_lst ea_nil (by decide)) fun f0 H1 hf0 e1 h1 => ?_
    have hm : 0 ≤ (n - 1) / 25 ∧ (n - 1) / 25 ≤ 14 := by omega
    refine ⟨_, rfl, _, rfl, _, _, rfl, rfl, ⟨by decide, by decide, by decide⟩, by show 1 ≤ sizeLine; decide, fun q hq => ?_⟩
    refine ⟨_, rfl, _, _, rfl, rfl, _, _, rfl, rfl, ⟨by decide, by decide⟩, _, _, rfl, rfl, q, 1 + (n - 1) / 25, _, rfl, rfl, upd_same, by omega, by omega, ?_, fun l hl => ?_⟩
    · show 1 * (1 + (n - 1) / 25).toNat ≤ sizeLine
      exact Nat.le_trans (show 1 * (1 + (n - 1) / 25).toNat ≤ 15 by omega) (by decide)
    have h25 : ((2 : Int) ^ (25 : Int).toNat) = 33554432 := by decide
    have em : (List.replicate (1 + (n - 1) / 25).toNat [V.int ((2 : Int) ^ (25 : Int).toNat)]).flatten = (List.replicate (1 + (n - 1) / 25).toNat (33554432 : Int)).map V.int := by rw [h25, rep_ints]
    have e2 : Ex H1 (upd (upd H1 q (.lst [V.int ((2 : Int) ^ (25 : Int).toNat)])) l (.lst (List.replicate (1 + (n - 1) / 25).toNat [V.int ((2 : Int) ^ (25 : Int).toNat)]).flatten)) := (Ex.new hq).trans (Ex.new hl)
    have hl' : (upd (upd H1 q (.lst [V.int ((2 : Int) ^ (25 : Int).toNat)])) l (.lst (List.replicate (1 + (n - 1) / 25).toNat [V.int ((2 : Int) ^ (25 : Int).toNat)]).flatten)) l = some (.lst ((List.replicate (1 + (n - 1) / 25).toNat (33554432 : Int)).map V.int)) := by rw [upd_same, em]
    refine ⟨c, sa, l, List.replicate (1 + (n - 1) / 25).toNat 33554432, rfl, SqL.of hl', hc, hs, by rw [List.length_replicate]; omega, fun x hx => ?_, fun dp H3 ds hdp e3 hds hD => ?_⟩
    · rw [(List.mem_replicate.mp hx).2]
      exact ⟨by decide, by decide +kernel⟩
    have hdl : (ds.length : Int) = 1 + (n - 1) / 25 := by
      have := hD.1
      rw [List.length_replicate] at this
      omega
    have e13 := (e1.trans e2).trans e3
    try dsimp only
    let Pv : Nat → L2.St → Hp → Prop := fun i σ' H' => ∃ (fp : Addr) (kv : Option V) (xs : List Int), σ' = [some (.int c), some (.int sa), some (.int n), some (.ref fp), some (.ref dp), kv, none] ∧ Ex H3 H' ∧ H fp = none ∧ H' fp = some (.lst (xs.map V.int)) ∧ Asc 0 (25 * (i : Int)) xs ∧ Asc 0 n xs
    refine q_forR1 (j := 5) (n := (ds.length : Int)) (ea_cons (ev_cb (ea_cons (ev_var (i := 4) rfl) ea_nil) (fun H4 e Q q => ⟨.ref dp, ds.length, rfl, .inl ⟨ds.map V.int, sq_of (e _ _ hds), (List.length_map _).symm⟩, q H4 (Ex.refl H4)⟩)) ea_nil) (by omega)
      Pv
      (fun H4 e4 => ⟨f0, none, [], rfl, e4, hf0, e4 _ _ (e3 _ _ (e2 _ _ h1)), .nil, .nil⟩) ?_ ?_
    · rintro i σ' H' hi ⟨fp, kv, xs, rfl, ex, hfp, hf, hA, hB⟩
      have hil : i < ds.length := by omega
      refine ⟨_, rfl, _, rfl, _, rfl, dp, _, _, .int ds[i], rfl, rfl, sq_of (ex _ _ hds), atI_nat (by rw [List.getElem?_map, List.getElem?_eq_getElem hil]; rfl), 25, ds[i], rfl, by decide, fun bp H4 bs hbp e4 hb hbA => ?_⟩
      have hbl := hbA.len
      have mul : CMul 25 (i : Int) := .inl ⟨by decide, by decide⟩
      have add : ∀ (b : Int) H5, Ev (tOp (rI0 fun i j => V.int (i + j)) (tOp (rI CMul fun i j => V.int (i * j)) (tC (V.int 25)) (tVar 5)) (tVar 6)) [some (.int c), some (.int sa), some (.int n), some (.ref fp), some (.ref dp), some (.int (i : Int)), some (.int b)] H5 (.int (25 * (i : Int) + b)) := fun b H5 =>
        ev_op (ev_op ev_c (ev_var (i := 5) rfl) (rv_I mul)) (ev_var (i := 6) rfl) rv_I0
      have lc : EvL (tLc (iList K (tC (V.ref bp))) (gName 6) (tTest (tOp (rI0 fun i j => V.bl (decide (i < j))) (tOp (rI0 fun i j => V.int (i + j)) (tOp (rI CMul fun i j => V.int (i * j)) (tC (V.int 25)) (tVar 5)) (tVar 6)) (tVar 2)))
          (tOp (rI0 fun i j => V.int (i + j)) (tOp (rI CMul fun i j => V.int (i * j)) (tC (V.int 25)) (tVar 5)) (tVar 6)) [6]) [some (.int c), some (.int sa), some (.int n), some (.ref fp), some (.ref dp), some (.int (i : Int)), none] H4 ((bs.filter fun b => decide (25 * (i : Int) + b < n)).map fun b => V.int (25 * (i : Int) + b)) :=
        el_lstG (K := K) 0 (bs.map V.int) bs (fun b => decide (25 * (i : Int) + b < n)) (fun b => V.int (25 * (i : Int) + b)) (fun b => [some (.int c), some (.int sa), some (.int n), some (.ref fp), some (.ref dp), some (.int (i : Int)), some (.int b)])
          ev_c (sq_of hb) (List.length_map _) (by omega)
          (fun j x y H1 kk _ hx hy hk => by
            obtain ⟨u, rfl, hu⟩ := some_int hx
            rw [hu] at hy
            cases hy
            exact hk)
          (fun y => rfl)
          (fun y H1 _ _ => et_test (ev_op (add y H1) (ev_var (i := 2) rfl) rv_I0))
          (fun y H1 _ _ _ => add y H1)
      refine lc _ (Ex.refl _) (fun y H2 => rCat (V.ref fp) y H2 fun x H1 => Pv (i + 1) [some (.int c), some (.int sa), some (.int n), some x, some (.ref dp), some (.int (i : Int)), none] H1) fun l H5 hl5 e5 h5 => ?_
      have hS := asc_shift (c := 25 * (i : Int)) (fun b => decide (25 * (i : Int) + b < n)) hbA
      have e45 := e4.trans e5
      have hAl := hA.len
      have hSl := hS.len
      have esz : (((bs.filter fun b => decide (25 * (i : Int) + b < n)).map fun b => V.int (25 * (i : Int) + b))) = (((bs.filter fun b => decide (25 * (i : Int) + b < n)).map fun b => 25 * (i : Int) + b)).map V.int := by
        rw [List.map_map]
        rfl
      rw [esz] at h5
      refine ⟨fp, l, _, _, rfl, rfl, e45 _ _ hf, h5, ?_, fun p hp => ⟨p, _, xs ++ ((bs.filter fun b => decide (25 * (i : Int) + b < n)).map fun b => 25 * (i : Int) + b), rfl, (ex.trans e45).trans (Ex.new hp), ?_, ?_, ?_, ?_⟩⟩
      · rw [List.length_map, List.length_map]
        exact Nat.le_trans (show _ ≤ 1000 by omega) (by decide)
      · exact fresh_back (e13.trans (ex.trans e45)) hp
      · rw [upd_same, List.map_append]
      · exact (hA.append hS (by omega) (by omega) (by omega)).mono (by omega) (by omega)
      · refine ⟨(hA.append hS (by omega) (by omega) (by omega)).1, fun x hx => ?_⟩
        rcases List.mem_append.mp hx with hx | hx
        · exact hB.2 x hx
        · obtain ⟨b, hb', rfl⟩ := List.mem_map.mp hx
          have h1 := (List.mem_filter.mp hb')
          have h2 := hbA.2 b h1.1
          have h3 := of_decide_eq_true h1.2
          omega
    rintro σ' H' ⟨fp, kv, xs, rfl, ex, hfp, hf, hA, hB⟩
    exact ⟨_, rfl, k fp H' xs hfp (e13.trans ex) hf hB⟩

def spGcd : Sp := fun vs H Q _ => ∃ a b : Int, vs = [.int a, .int b] ∧ 0 ≤ a ∧ 0 ≤ b ∧ ∀ H', Ex H H' → Q (.int ((Nat.gcd a.natAbs b.natAbs : Nat) : Int)) H'
theorem ev_lawGcd {E : XK} {σ : L2.St} {H : Hp} {ta tb : TE} {a b : Int} (ha : Ev ta σ H (.int a)) (hb : Ev tb σ H (.int b)) (h0 : 0 ≤ a) (h1 : 0 ≤ b) : Ev (tCall spGcd [] E (tCons ta (tCons tb tNil))) σ H (.int ((Nat.gcd a.natAbs b.natAbs : Nat) : Int)) :=
  ev_call (ea_cons ha (ea_cons hb ea_nil)) fun H1 e Q q E => ⟨a, b, rfl, h0, h1, fun H' e' => q H' e'⟩
theorem ok_u_law_gcd (T : Txt K mg A) : FnOk P w K mg base CX0 1 A.f_u_law_gcd A.d_u_law_gcd (["a", "b"] : List Str) spGcd := by
  refine T.F_u_law_gcd.ok sc_u_law_gcd (fun vs H Q E h => ?_) (fun cdv Ar outer s H vs Q E hr h => ?_)
  · obtain ⟨a, b, rfl, _⟩ := h
    rfl
  · obtain ⟨a, b, rfl, ha, hb, k⟩ := h
    refine ⟨_, (pss_cons (ps_while PassesOwn.never (pt_cmpR op_gt (pv 1) pe_int (nomark _)) (pss_one (ps_par (i := 0) (j := 1) (by rfl) sc_u_law_gcd.nd rfl rfl (by decide) rfl rfl (pa_cons (pv 1) (pa_cons (pe_op op_mod (pe_callTy call_int1 (by rfl) T.z_int (by decide +kernel) (pa_cons (pv 0) pa_nil)) (pv 1)) pa_nil)) (by rfl))))
        (pss_one (ps_ret (pv 0)))), ?_⟩
    obtain ⟨x0, rfl⟩ : ∃ x : Nat, a = (x : Int) := ⟨a.toNat, by omega⟩
    obtain ⟨y0, rfl⟩ : ∃ x : Nat, b = (x : Int) := ⟨b.toNat, by omega⟩
    try dsimp only
    refine q_while (fun m σ' H' => ∃ x y : Nat, σ' = [some (.int (x : Int)), some (.int (y : Int))] ∧ Ex H H' ∧ Nat.gcd x y = Nat.gcd (x0 : Int).natAbs (y0 : Int).natAbs ∧ m = y) y0 ⟨x0, y0, rfl, Ex.refl H, by simp, rfl⟩ ?_
    rintro m σ' H' ⟨x, y, rfl, e, hg, rfl⟩
    refine ⟨decide ((0 : Int) < (m : Int)), et_test (ev_op (ev_var (i := 1) rfl) ev_c rv_I0), fun hb H3 e3 => ?_, fun hb H3 e3 => ?_⟩
    · have hm : 0 < m := by have := of_decide_eq_true hb; omega
      refine ⟨fun σ2 H4 => σ2 = [some (.int (m : Int)), some (.int ((x % m : Nat) : Int))] ∧ Ex H H4, fun σ2 H4 h => ⟨x % m, Nat.mod_lt _ hm, m, x % m, h.1, h.2, ?_, rfl⟩, ?_⟩
      · rw [← hg, Nat.gcd_comm, ← Nat.gcd_rec, Nat.gcd_comm]
      · refine ea_cons (ev_var (i := 1) rfl) (ea_cons (ev_op (ev_int (ev_var (i := 0) rfl)) (ev_var (i := 1) rfl) (rv_I (by omega))) ea_nil) H3 (Ex.refl _) _ fun H4 e4 => ⟨_, _, rfl, ?_, e.trans (e3.trans e4)⟩
        rw [Int.natCast_emod]
        rfl
    · have hm : m = 0 := by have := of_decide_eq_false hb; omega
      subst hm
      rw [Nat.gcd_zero_right] at hg
      refine s_ret (v := .int (x : Int)) (ev_var (i := 0) rfl) fun H4 e4 => ?_
      rw [hg]
      exact k H4 (e.trans (e3.trans e4))


def divs (n : Int) : List Int := pick n.toNat (fun i => decide (n % (1 + (i : Int)) = 0)) fun i => 1 + (i : Int)
theorem mem_divs {n d : Int} : d ∈ divs n ↔ (1 ≤ d ∧ d ≤ n) ∧ n % d = 0 := by
  unfold divs pick
  constructor
  · intro h
    obtain ⟨i, hi, rfl⟩ := List.mem_map.mp h
    have a := List.mem_filter.mp hi
    have b := List.mem_range.mp a.1
    exact ⟨⟨by omega, by omega⟩, of_decide_eq_true a.2⟩
  · rintro ⟨⟨h0, h1⟩, h2⟩
    have e : (1 : Int) + (((d - 1).toNat : Nat) : Int) = d := by omega
    exact List.mem_map.mpr ⟨(d - 1).toNat, List.mem_filter.mpr ⟨List.mem_range.mpr (by omega), by rw [e]; exact decide_eq_true h2⟩, e⟩
theorem divs_asc (n : Int) : (divs n).Pairwise (· < ·) := by
  unfold divs pick
  refine List.pairwise_map.mpr ((List.pairwise_lt_range).filter _ |>.imp fun {a b} h => ?_)
  show 1 + (a : Int) < 1 + (b : Int)
  omega
theorem divs_len (n : Int) : (divs n).length ≤ n.toNat := pick_len _ _ _

def spLDivs : Sp := fun vs H Q _ => ∃ n : Int, vs = [.int n] ∧ (1 ≤ n ∧ n ≤ 360) ∧ ∀ p H', Ex H H' → H' p = some (.lst ((divs n).map V.int)) → Q (.ref p) H'
theorem er_ldivs {E : XK} {σ : L2.St} {H : Hp} {t1 : TE} {n : Int} (h1 : Ev t1 σ H (.int n)) (hn : 1 ≤ n ∧ n ≤ 360) : EvR (tCall spLDivs [] E (tCons t1 tNil)) σ H fun v H1 => ∃ p, v = .ref p ∧ H1 p = some (.lst ((divs n).map V.int)) :=
  er_call (ea_cons h1 ea_nil) fun H1 e Q q => ⟨n, rfl, hn, fun p H' e' h' => q _ H' e' ⟨p, rfl, h'⟩⟩
theorem divs_pos {n : Int} (hn : 1 ≤ n) : 0 < (divs n).length := List.length_pos_of_mem (mem_divs.mpr ⟨⟨by omega, Int.le_refl n⟩, Int.emod_self⟩)
theorem ok_u_law_parts (T : Txt K mg A) : FnOk P w K mg base CX0 1 A.f_u_law_parts A.d_u_law_parts (["n"] : List Str) spLDivs := by
  refine T.F_u_law_parts.ok sc_u_law_parts (fun vs H Q E h => ?_) (fun cdv Ar outer s H vs Q E hr h => ?_)
  · obtain ⟨n, rfl, _⟩ := h
    rfl
  · obtain ⟨n, rfl, hn, k⟩ := h
    refine ⟨_, (pss_one (ps_ret (pe_lc (own := [("part", 1)]) (g := gName 1) rfl sc_u_law_parts.nd (pi_range2 rfl T.z_range (pa_cons pe_int (pa_cons (pe_op op_add (pv 0) pe_int) pa_nil))) (blkOk_by (own := [("part", 1)]) (N := N_u_law_parts) (sc := defScope s_u_law_parts) (by decide +kernel)) (fun _ _ _ _ _ => (pg_name (i := 1) sc_u_law_parts.nd rfl (Or.inl rfl))) (fun _ _ _ _ _ => (pts_one (pt_cmpR op_eq (pe_op op_mod (pe_callTy call_int1 (by rfl) T.z_int (by decide +kernel) (pa_cons (pv 0) pa_nil)) (pv 1)) pe_int (nomark _)))) (fun _ _ _ _ _ => (pv 1))))), ?_⟩
    try dsimp only
    refine s_retL (xs := given ((n + 1) - 1).toNat (fun i => decide (n % (1 + (i : Int)) = 0)) (fun i => .int (1 + (i : Int)))) ?_ fun p H1 hp e h1 => k p H1 e ?_
    · exact el_rng2 (σ := [some (V.int n), none]) (j := 1) (vs := [1]) _ _ (ea_cons ev_c (ea_cons (ev_op (ev_var rfl) ev_c rv_I0) ea_nil)) (by omega) (fun x => rfl)
        (fun i H1 _ hi => et_is (et_test (ev_op (ev_op (ev_int (ev_var (i := 0) rfl)) (ev_var (i := 1) rfl) (rv_I (by show (0 : Int) < 1 + (i : Int); omega))) ev_c (rv_eq rfl))) dec_ii)
        (fun i H1 _ hi _ => ev_var (i := 1) rfl)
    · rw [h1, given_pick, show (n + 1 - 1) = n by omega]
      rfl

/-! ### data told twice -/
theorem ed_ev {K : PySem.W.Frag} {σ : L2.St} {H : Hp} {te : TE} {v : V} {d : PyData} (h : Ev te σ H v) (hd : ∀ H1, Ex H H1 → Dp K H1 v d) : EvR te σ H fun v H1 => Dp K H1 v d := er_ev h hd
theorem ed_int {K : PySem.W.Frag} {σ : L2.St} {H : Hp} {te : TE} {z : Int} (h : Ev te σ H (.int z)) : EvR te σ H fun v H1 => Dp K H1 v (.int z) := er_ev h fun _ _ => .int z
theorem ed_bl {K : PySem.W.Frag} {σ : L2.St} {H : Hp} {te : TE} {z : Bool} (h : Ev te σ H (.bl z)) : EvR te σ H fun v H1 => Dp K H1 v (.bool z) := er_ev h fun _ _ => .bl z
theorem ed_str {K : PySem.W.Frag} {σ : L2.St} {H : Hp} {te : TE} {z : Str} (h : Ev te σ H (.str z)) : EvR te σ H fun v H1 => Dp K H1 v (.str z) := er_ev h fun _ _ => .str z
theorem ed_L {K : PySem.W.Frag} {σ : L2.St} {H : Hp} {te : TE} {xs : List Int} (h : EvL te σ H (xs.map V.int)) : EvR te σ H fun v H1 => Dp K H1 v (.list (xs.map .int)) := (er_L h).imp fun v H1 q => by
  obtain ⟨p, rfl, hp⟩ := q
  exact .lst (sq_of hp) (dp_ints _)
theorem ed_held {K : PySem.W.Frag} {σ : L2.St} {H : Hp} {i : Nat} {p : Addr} {xs : List Int} (h : σ[i]? = some (some (.ref p))) (hp : SqL K H p (xs.map V.int)) : EvR (tVar i) σ H fun v H1 => Dp K H1 v (.list (xs.map .int)) := er_ev (ev_var h) fun H1 e => .lst (ex_l e hp) (dp_ints _)
def EvDs (K : PySem.W.Frag) (ta : TA) (σ : L2.St) (H : Hp) (ds : List PyData) : Prop := ∀ H1, Ex H H1 → ∀ Q : List V → Hp → Prop, (∀ vs H2, Ex H1 H2 → DpAll K H2 vs ds → Q vs H2) → ta σ H1 Q
theorem eds_nil {K : PySem.W.Frag} {σ : L2.St} {H : Hp} : EvDs K tNil σ H [] := fun H1 _ Q q => q [] H1 (Ex.refl H1) .nil
theorem eds_cons {K : PySem.W.Frag} {σ : L2.St} {H : Hp} {te : TE} {ta : TA} {d : PyData} {ds : List PyData} (h : EvR te σ H fun v H1 => Dp K H1 v d) (r : EvDs K ta σ H ds) : EvDs K (tCons te ta) σ H (d :: ds) := fun H1 e Q q =>
  h H1 e _ fun v H2 e2 hv => r H2 (e.trans e2) _ fun vs H3 e3 hs => q (v :: vs) H3 (e2.trans e3) (.cons (dp_ex e3 hv) hs)
theorem ed_tup {K : PySem.W.Frag} {σ : L2.St} {H : Hp} {ta : TA} {ds : List PyData} (h : EvDs K ta σ H ds) (hl : ds.length ≤ 1000) : EvR (tTup ta) σ H fun v H1 => Dp K H1 v (.tuple ds) := fun H1 e Q q =>
  h H1 e _ fun vs H2 e2 hs => by
    have l := (dp_get hs).1
    exact ⟨by rw [l]; exact Nat.le_trans hl (by decide), fun p hp => q _ _ (e2.trans (Ex.new hp)) (.tup (st_of upd_same) (dpa_ex (Ex.new hp) hs))⟩
theorem ed_lst {K : PySem.W.Frag} {σ : L2.St} {H : Hp} {ta : TA} {ds : List PyData} (h : EvDs K ta σ H ds) (hl : ds.length ≤ 1000) : EvR (tLst ta) σ H fun v H1 => Dp K H1 v (.list ds) := fun H1 e Q q =>
  h H1 e _ fun vs H2 e2 hs => by
    have l := (dp_get hs).1
    exact ⟨by rw [l]; exact Nat.le_trans hl (by decide), fun p hp => q _ _ (e2.trans (Ex.new hp)) (.lst (sq_of upd_same) (dpa_ex (Ex.new hp) hs))⟩
theorem ev_same {K : PySem.W.Frag} {E : XK} {σ : L2.St} {H : Hp} {ta tb : TE} {d : PyData} (ha : EvR ta σ H fun v H1 => Dp K H1 v d) (hb : EvR tb σ H fun v H1 => Dp K H1 v d) (hf : Flat 4 d) : Ev (tCall (sp_same K 4) [] E (tCons ta (tCons tb tNil))) σ H (.bl true) := fun H1 e Q q =>
  ha H1 e _ fun v H2 e2 hv => hb H2 (e.trans e2) _ fun w H3 e3 hw => ⟨v, w, d, rfl, dp_ex e3 hv, hw, hf, q H3 (e2.trans e3)⟩
theorem dp_rows {K : PySem.W.Frag} {H : Hp} : ∀ (vs : List V) (xss : List (List Int)), vs.length = xss.length → (∀ (i : Nat) v, vs[i]? = some v → ∃ p, v = .ref p ∧ SqL K H p ((xss.getD i []).map V.int)) → DpAll K H vs (xss.map fun xs => .list (xs.map .int))
  | [], [], _, _ => .nil
  | v :: vs, xs :: xss, hl, h => by
    obtain ⟨p, rfl, hp⟩ := h 0 v rfl
    exact .cons (.lst hp (dp_ints _)) (dp_rows vs xss (by simpa using hl) fun i u hu => h (i + 1) u hu)
theorem flat_rows {xss : List (List Int)} (h : xss.length ≤ 400) (hx : ∀ xs ∈ xss, xs.length ≤ 360) : Flat 4 (.list (xss.map fun xs => .list (xs.map .int))) :=
  ⟨by rw [List.length_map]; omega, fun d hd => by
    obtain ⟨xs, hm, rfl⟩ := List.mem_map.mp hd
    exact ⟨by rw [List.length_map]; have := hx xs hm; omega, fun d hd => by
      obtain ⟨i, _, rfl⟩ := List.mem_map.mp hd
      exact True.intro⟩⟩
/-- lists of ints within a list -/
structure Rows (K : PySem.W.Frag) (H : Hp) (a : Addr) (xss : List (List Int)) : Prop where
  all : ∃ vs : List V, SqL K H a vs ∧ vs.length = xss.length ∧ ∀ (i : Nat) v, vs[i]? = some v → ∃ p, v = .ref p ∧ SqL K H p ((xss.getD i []).map V.int)
theorem Rows.ex {K : PySem.W.Frag} {H H' : Hp} {a : Addr} {xss : List (List Int)} (e : Ex H H') (h : Rows K H a xss) : Rows K H' a xss := by
  obtain ⟨vs, h1, h2, h3⟩ := h.all
  exact ⟨vs, ex_l e h1, h2, fun i v hv => (h3 i v hv).imp fun p h => ⟨h.1, ex_l e h.2⟩⟩
theorem Rows.dp {K : PySem.W.Frag} {H : Hp} {a : Addr} {xss : List (List Int)} (h : Rows K H a xss) : Dp K H (.ref a) (.list (xss.map fun xs => .list (xs.map .int))) := by
  obtain ⟨vs, h1, h2, h3⟩ := h.all
  exact .lst h1 (dp_rows vs xss h2 h3)
theorem ed_rows {K : PySem.W.Frag} {σ : L2.St} {H : Hp} {i : Nat} {p : Addr} {xss : List (List Int)} (h : σ[i]? = some (some (.ref p))) (hp : Rows K H p xss) : EvR (tVar i) σ H fun v H1 => Dp K H1 v (.list (xss.map fun xs => .list (xs.map .int))) := er_ev (ev_var h) fun H1 e => (hp.ex e).dp
theorem getD_mem {α : Type} {xs : List α} {i : Nat} {d : α} (h : i < xs.length) : xs.getD i d ∈ xs := by
  rw [List.getD_eq_getElem?_getD, List.getElem?_eq_getElem h]
  exact List.getElem_mem _

theorem er_part {K : PySem.W.Frag} {σ : L2.St} {H : Hp} {tp td : TE} {p : Addr} {n d : Int} (hn : 1 ≤ n ∧ n ≤ 360) (hp : Ev tp σ H (.ref p)) (hd : Ev td σ H (.int d)) (h : SqL K H p ((divs n).map V.int)) :
    EvR (tOp (rIxL K) tp (tOp (rI (fun _ j => 0 < j) fun i j => .int (i % j)) (tCB (fun xs H Q => (∃ i, xs = [V.int i] ∧ Q (V.int i) H) ∨ ∃ k, xs = [V.bl k] ∧ Q (V.int (if k = true then 1 else 0)) H) (tCons td tNil)) (tCB (rLenK K) (tCons tp tNil)))) σ H fun v _ => ∃ z : Int, v = .int z ∧ (1 ≤ z ∧ z ≤ n) ∧ n % z = 0 := fun H1 e Q q => by
  have l0 := divs_pos hn.1
  have m0 : 0 ≤ d % ((divs n).length : Int) := Int.emod_nonneg _ (by omega)
  have m1 : d % ((divs n).length : Int) < ((divs n).length : Int) := Int.emod_lt_of_pos _ (by omega)
  have hx : (divs n)[(d % ((divs n).length : Int)).toNat]? = some (divs n)[(d % ((divs n).length : Int)).toNat] := List.getElem?_eq_getElem (by omega)
  have hat : atI ((divs n).map V.int) (d % ((divs n).length : Int)) = some (.int (divs n)[(d % ((divs n).length : Int)).toNat]) := by
    have h := atI_nat (xs := (divs n).map V.int) (j := (d % ((divs n).length : Int)).toNat) (v := .int (divs n)[(d % ((divs n).length : Int)).toNat]) (by rw [List.getElem?_map, hx]; rfl)
    rwa [Int.toNat_of_nonneg m0] at h
  have hm := mem_divs.mp (List.mem_of_getElem? hx)
  exact ev_op hp (ev_op (ev_int hd) (ev_cb (r := rLenK K) (z := .int ((divs n).length : Int)) (ea_cons hp ea_nil) fun H2 e2 Q q => ⟨.ref p, (divs n).length, rfl, .inl ⟨(divs n).map V.int, ex_l e2 h, (List.length_map _).symm⟩, q H2 (Ex.refl H2)⟩) (rv_I (show (0 : Int) < ((divs n).length : Int) by omega))) (rv_ixL h hat) H1 e Q fun H2 e2 => q _ H2 e2 ⟨_, rfl, hm⟩

theorem q_asgT2 {K : PySem.W.Frag} {te : TE} {tz : TS} {D : Ends} {σ : L2.St} {H : Hp} {i j : Nat} {P : V → V → Hp → Prop} (h : EvR te σ H fun v H1 => ∃ (p : Addr) (x y : V), v = .ref p ∧ H1 p = some (.tup [x, y]) ∧ P x y H1)
    (c : ∀ x y H1, Ex H H1 → P x y H1 → tz D ((σ.set i (some x)).set j (some y)) H1) : tSeq (tAsg te (gTup K 2 (gCons (gName i) (gCons (gName j) gNil)))) tz D σ H := h H (Ex.refl H) _ fun v H1 e ⟨p, x, y, hv, hp, hP⟩ => by
  subst hv
  exact ⟨p, _, rfl, st_of hp, rfl, x, _, rfl, y, _, rfl, rfl, c x y H1 e hP⟩
theorem EvL.mono {te : TE} {σ : L2.St} {H H' : Hp} {xs : List V} (e : Ex H H') (h : EvL te σ H xs) : EvL te σ H' xs := fun H1 e1 Q q => h H1 (e.trans e1) Q q
theorem s_retLL {te tf : TE} {D : Ends} {σ : L2.St} {H : Hp} {xs ys : List V} (h1 : EvL te σ H xs) (h2 : ∀ H1, Ex H H1 → EvL tf σ H1 ys) (k : ∀ p a b H', Ex H H' → H' p = some (.tup [.ref a, .ref b]) → H' a = some (.lst xs) → H' b = some (.lst ys) → D.rt (.ref p) H') : tRet (tTup (tCons te (tCons tf tNil))) D σ H :=
  h1 H (Ex.refl H) _ fun a H1 ha e1 g1 => h2 H1 e1 H1 (Ex.refl _) _ fun b H2 hb e2 g2 => ⟨by show 2 ≤ sizeLine; decide, fun p hp => k p a b _ ((e1.trans e2).trans (Ex.new hp)) upd_same ((e2.trans (Ex.new hp)) _ _ g1) (Ex.new hp _ _ g2)⟩
theorem s_retILL {tn te tf : TE} {D : Ends} {σ : L2.St} {H : Hp} {n : Int} {xs ys : List V} (h0 : Ev tn σ H (.int n)) (h1 : EvL te σ H xs) (h2 : EvL tf σ H ys) (k : ∀ p a b H', Ex H H' → H' p = some (.tup [.int n, .ref a, .ref b]) → H' a = some (.lst xs) → H' b = some (.lst ys) → D.rt (.ref p) H') : tRet (tTup (tCons tn (tCons te (tCons tf tNil)))) D σ H :=
  h0 H (Ex.refl H) _ fun H0 e0 => h1 H0 e0 _ fun a H1 ha e1 g1 => h2 H1 (e0.trans e1) _ fun b H2 hb e2 g2 => ⟨by show 3 ≤ sizeLine; decide, fun p hp => k p a b _ (((e0.trans e1).trans e2).trans (Ex.new hp)) upd_same ((e2.trans (Ex.new hp)) _ _ g1) (Ex.new hp _ _ g2)⟩
theorem s_retIVL {tn te tf : TE} {D : Ends} {σ : L2.St} {H : Hp} {n : Int} {a : Addr} {xs ys : List V} (h0 : Ev tn σ H (.int n)) (h1 : Ev te σ H (.ref a)) (hx : H a = some (.lst xs)) (h2 : EvL tf σ H ys) (k : ∀ p a b H', Ex H H' → H' p = some (.tup [.int n, .ref a, .ref b]) → H' a = some (.lst xs) → H' b = some (.lst ys) → D.rt (.ref p) H') : tRet (tTup (tCons tn (tCons te (tCons tf tNil)))) D σ H :=
  h0 H (Ex.refl H) _ fun H0 e0 => h1 H0 e0 _ fun H1 e1 => h2 H1 (e0.trans e1) _ fun b H2 hb e2 g2 => ⟨by show 3 ≤ sizeLine; decide, fun p hp => k p a b _ (((e0.trans e1).trans e2).trans (Ex.new hp)) upd_same ((((e0.trans e1).trans e2).trans (Ex.new hp)) _ _ hx) (Ex.new hp _ _ g2)⟩
theorem s_retILV {tn te tf : TE} {D : Ends} {σ : L2.St} {H : Hp} {n : Int} {b : Addr} {xs ys : List V} (h0 : Ev tn σ H (.int n)) (h1 : EvL te σ H xs) (h2 : Ev tf σ H (.ref b)) (hy : H b = some (.lst ys)) (k : ∀ p a b H', Ex H H' → H' p = some (.tup [.int n, .ref a, .ref b]) → H' a = some (.lst xs) → H' b = some (.lst ys) → D.rt (.ref p) H') : tRet (tTup (tCons tn (tCons te (tCons tf tNil)))) D σ H :=
  h0 H (Ex.refl H) _ fun H0 e0 => h1 H0 e0 _ fun a H1 ha e1 g1 => h2 H1 (e0.trans e1) _ fun H2 e2 => ⟨by show 3 ≤ sizeLine; decide, fun p hp => k p a b _ (((e0.trans e1).trans e2).trans (Ex.new hp)) upd_same ((e2.trans (Ex.new hp)) _ _ g1) ((((e0.trans e1).trans e2).trans (Ex.new hp)) _ _ hy)⟩
def spLots (K : PySem.W.Frag) : Sp := fun vs H Q _ => ∃ (a : Addr) (ns : List Int) (n i f : Int), vs = [.ref a, .int n, .int i, .int f] ∧ SqL K H a (ns.map V.int) ∧ (1 ≤ n ∧ n ≤ 60) ∧ ∀ p a b H' (xs ys : List Int), Ex H H' → H' p = some (.tup [.ref a, .ref b]) → H' a = some (.lst (xs.map V.int)) → H' b = some (.lst (ys.map V.int)) → Asc 0 n xs → Asc 0 n ys → Q (.ref p) H'
theorem er_lots {K : PySem.W.Frag} {E : XK} {σ : L2.St} {H : Hp} {t1 t2 t3 t4 : TE} {a : Addr} {ns : List Int} {n i f : Int} (h1 : Ev t1 σ H (.ref a)) (h2 : Ev t2 σ H (.int n)) (h3 : Ev t3 σ H (.int i)) (h4 : Ev t4 σ H (.int f)) (hS : SqL K H a (ns.map V.int)) (hn : 1 ≤ n ∧ n ≤ 60) :
    EvR (tCall (spLots K) [] E (tCons t1 (tCons t2 (tCons t3 (tCons t4 tNil))))) σ H fun v H1 => ∃ (p : Addr) (x y : V), v = .ref p ∧ H1 p = some (.tup [x, y]) ∧ ∃ (a b : Addr) (xs ys : List Int), x = .ref a ∧ y = .ref b ∧ H1 a = some (.lst (xs.map V.int)) ∧ H1 b = some (.lst (ys.map V.int)) ∧ Asc 0 n xs ∧ Asc 0 n ys :=
  er_call (ea_cons h1 (ea_cons h2 (ea_cons h3 (ea_cons h4 ea_nil)))) fun H1 e Q q => ⟨a, ns, n, i, f, rfl, ex_l e hS, hn, fun p a b H' xs ys e' h' ha hb hA hB => q _ H' e' ⟨p, _, _, rfl, h', a, b, xs, ys, rfl, rfl, ha, hb, hA, hB⟩⟩
theorem ok_u_law_lots (T : Txt K mg A) : FnOk P w K mg base CX0 4 A.f_u_law_lots A.d_u_law_lots (["script", "n", "index", "fitting"] : List Str) (spLots K) := by
  refine T.F_u_law_lots.ok sc_u_law_lots (fun vs H Q E h => ?_) (fun cdv Ar outer s H vs Q E hr h => ?_)
  · obtain ⟨a, ns, n, i, f, rfl, _⟩ := h
    rfl
  · obtain ⟨sa, ns, n, i, f, rfl, hS, hn, k⟩ := h
    refine ⟨_, (pss_cons (ps_set (i := 4) sc_u_law_lots.nd rfl (Or.inl rfl) (pe_call (ok_u_law_subset T) (hr.mono (by omega)) rfl T.g_u_law_subset T.k_u_law_subset (b_u_law_subset T) .nil pass0 (pa_cons (pe_call (ok_u_law_cell T) (hr.mono (by omega)) rfl T.g_u_law_cell T.k_u_law_cell (b_u_law_cell T) .nil pass0 (pa_cons (pv 0) (pa_cons pe_int pa_nil))) (pa_cons pe_int (pa_cons (pv 1) pa_nil)))))
        (pss_cons (ps_set (i := 5) sc_u_law_lots.nd rfl (Or.inl rfl) (pe_call (ok_u_law_subset T) (hr.mono (by omega)) rfl T.g_u_law_subset T.k_u_law_subset (b_u_law_subset T) .nil pass0 (pa_cons (pe_call (ok_u_law_cell T) (hr.mono (by omega)) rfl T.g_u_law_cell T.k_u_law_cell (b_u_law_cell T) .nil pass0 (pa_cons (pv 0) (pa_cons pe_int pa_nil))) (pa_cons pe_int (pa_cons (pv 1) pa_nil)))))
        (pss_cons (ps_if (pt_cmpR op_eq (pv 3) pe_int (nomark _)) (pss_one (ps_ret (pe_tup (pa_cons (pv 4) (pa_cons (pv 5) pa_nil))))) pss_nil)
        (pss_cons (ps_set (i := 6) sc_u_law_lots.nd rfl (Or.inl rfl) (pe_call (ok_u_law_parts T) (hr.mono (by omega)) rfl T.g_u_law_parts T.k_u_law_parts (b_u_law_parts T) .nil pass0 (pa_cons (pv 1) pa_nil)))
        (pss_cons (ps_set (i := 7) sc_u_law_lots.nd rfl (Or.inr rfl) (pe_ix ix_lK (pv 6) (pe_op op_mod (pe_callTy call_int1 (by rfl) T.z_int (by decide +kernel) (pa_cons (pv 2) pa_nil)) (pe_callB len_K (by rfl) T.z_len (by decide +kernel) (pa_cons (pv 6) pa_nil))) (fun _ _ => rfl)))
        (pss_one (ps_ret (pe_tup (pa_cons (pe_lc (own := [("h", 8)]) (g := gName 8) rfl sc_u_law_lots.nd (pi_listK (pv 4)) (blkOk_by (own := [("h", 8)]) (N := N_u_law_lots) (sc := defScope s_u_law_lots) (by decide +kernel)) (fun _ _ _ _ _ => (pg_name (i := 8) sc_u_law_lots.nd rfl (Or.inl rfl))) (fun _ _ _ _ _ => (pts_one (pt_cmpR op_lt (pv 8) (pv 7) (nomark _)))) (fun _ _ _ _ _ => (pv 8))) (pa_cons (pe_lc (own := [("h", 8)]) (g := gName 8) rfl sc_u_law_lots.nd (pi_listK (pv 5)) (blkOk_by (own := [("h", 8)]) (N := N_u_law_lots) (sc := defScope s_u_law_lots) (by decide +kernel)) (fun _ _ _ _ _ => (pg_name (i := 8) sc_u_law_lots.nd rfl (Or.inl rfl))) (fun _ _ _ _ _ => (pts_one (pt_cmpR op_eq (pe_op op_mod (pe_callTy call_int1 (by rfl) T.z_int (by decide +kernel) (pa_cons (pv 8) pa_nil)) (pv 7)) pe_int (nomark _)))) (fun _ _ _ _ _ => (pv 8))) pa_nil)))))))))), ?_⟩
    have sub : ∀ {G : Hp} {c s : Int} {σ : L2.St} {t1 t2 t3 : TE}, Ev t1 σ G (.int c) → Ev t2 σ G (.int s) → Ev t3 σ G (.int n) → 0 ≤ c → (-1000000 ≤ s ∧ s ≤ 1000000) → EvR (tCall (spSubset K) [] E0 (tCons t1 (tCons t2 (tCons t3 tNil)))) σ G fun v H1 => ∃ (p : Addr) (xs : List Int), v = .ref p ∧ H1 p = some (.lst (xs.map V.int)) ∧ Asc 0 n xs := fun h1 h2 h3 hc hs =>
      er_call (ea_cons h1 (ea_cons h2 (ea_cons h3 ea_nil))) fun H' e' Q q => ⟨_, _, n, rfl, hc, hs, by omega, fun p H'' xs _ e hp hA => q _ _ e ⟨p, xs, rfl, hp, hA⟩⟩
    try dsimp only
    refine q_asgR (sub (ev_cell (k := 1) (ev_var (i := 0) rfl) ev_c hS) ev_c (ev_var (i := 1) rfl) (cellA_nn _ _) (by decide)) fun v H1 e1 hp => ?_
    obtain ⟨fp, xs, rfl, hx, hA⟩ := hp
    replace hS := ex_l e1 hS
    try dsimp only
    refine q_asgR (sub (ev_cell (k := 2) (ev_var (i := 0) rfl) ev_c hS) ev_c (ev_var (i := 1) rfl) (cellA_nn _ _) (by decide)) fun v H2 e2 hp => ?_
    obtain ⟨sp, ys, rfl, hy, hB⟩ := hp
    have e02 := e1.trans e2
    replace hx := e2 _ _ hx
    try dsimp only
    refine q_when (b := decide (f = 0)) (et_test (ev_is (by repeat' first | exact ev_c | exact ev_var rfl | exact ea_nil | apply ea_cons | apply ev_int | apply ev_op | apply ev_un | exact ru_neg | exact rv_I0 | exact rv_eq rfl | exact rv_ne rfl | exact rv_I (by decide) | exact rv_I (.inl ⟨by decide, by decide⟩) | exact rv_I (.inr ⟨by decide, by decide⟩) | exact rv_I (by omega) | exact rv_I (.inl ⟨by omega, by omega⟩) | exact rv_I (.inr ⟨by omega, by omega⟩)) (by rw [dec_ii]))) (fun _ H3 e3 => ?_) (fun _ H3 e3 => ?_)
    · exact s_retU (eu_tup (ea_cons (ev_var (i := 4) rfl) (ea_cons (ev_var (i := 5) rfl) ea_nil)) (by show 2 ≤ 100000; decide)) fun p H4 _ e4 h4 => k p fp sp H4 xs ys (e02.trans (e3.trans e4)) h4 ((e3.trans e4) _ _ hx) ((e3.trans e4) _ _ hy) hA hB
    try dsimp only
    refine q_asgR (er_ldivs (ev_var (i := 1) rfl) (by omega)) fun v H4 e4 hp => ?_
    obtain ⟨pp, rfl, hpp⟩ := hp
    try dsimp only
    refine q_asgR (er_part (K := K) (n := n) (d := i) (by omega) (ev_var (i := 6) rfl) (ev_var (i := 2) rfl) (sq_of hpp)) fun v H5 e5 hp => ?_
    obtain ⟨z, rfl, hz, _⟩ := hp
    have e25 := (e3.trans e4).trans e5
    have hAl := hA.len
    have hBl := hB.len
    have l1 := el_map (K := K) (te := tVar 8) (tl := tVar 4) (tt := tTest (tOp (rI0 fun i j => V.bl (decide (i < j))) (tVar 8) (tVar 7))) (σ := [some (.ref sa), some (.int n), some (.int i), some (.int f), some (.ref fp), some (.ref sp), some (.ref pp), some (.int z), none]) (H := H5) (j := 8) (vs := [8]) xs (fun h => decide (h < z)) id (ev_var (i := 4) rfl) (sq_of (e25 _ _ hx)) (by omega) (fun x => rfl) (fun h G e _ => et_test (ev_op (ev_var (i := 8) rfl) (ev_var (i := 7) rfl) rv_I0)) (fun h G e _ _ => ev_var (i := 8) rfl)
    have l2 := el_map (K := K) (te := tVar 8) (tl := tVar 5) (tt := tTest (tOp rEq (tOp (rI (fun _ j => 0 < j) fun i j => .int (i % j)) (tCB (fun xs H Q => (∃ i, xs = [V.int i] ∧ Q (V.int i) H) ∨ ∃ k, xs = [V.bl k] ∧ Q (V.int (if k = true then 1 else 0)) H) (tCons (tVar 8) tNil)) (tVar 7)) (tC (.int 0)))) (σ := [some (.ref sa), some (.int n), some (.int i), some (.int f), some (.ref fp), some (.ref sp), some (.ref pp), some (.int z), none]) (H := H5) (j := 8) (vs := [8]) ys (fun h => decide (h % z = 0)) id (ev_var (i := 5) rfl) (sq_of (e25 _ _ hy)) (by omega) (fun x => rfl) (fun h G e _ => et_test (ev_is (ev_op (ev_op (ev_int (ev_var (i := 8) rfl)) (ev_var (i := 7) rfl) (rv_I (show (0 : Int) < z by omega))) ev_c (rv_eq rfl)) (by rw [dec_ii]))) (fun h G e _ _ => ev_var (i := 8) rfl)
    rw [List.map_id] at l1 l2
    exact s_retLL l1 (fun H6 e6 => l2.mono e6) fun t p q H6 e6 ht h1 h2 => k t p q H6 _ _ ((e02.trans e25).trans e6) ht h1 h2 (hA.filter _) (hB.filter _)

def spCounts (K : PySem.W.Frag) : Sp := fun vs H Q _ => ∃ (a : Addr) (n : Int) (xs : List Int), vs = [.ref a, .int n] ∧ SqL K H a (xs.map V.int) ∧ (1 ≤ n ∧ n ≤ 60) ∧ Asc 0 n xs ∧ ∀ p H', Ex H H' → H' p = some (.lst ((difL n xs).map V.int)) → Q (.ref p) H'
theorem er_counts {K : PySem.W.Frag} {E : XK} {σ : L2.St} {H : Hp} {t1 t2 : TE} {a : Addr} {n : Int} {xs : List Int} (h1 : Ev t1 σ H (.ref a)) (h2 : Ev t2 σ H (.int n)) (hx : SqL K H a (xs.map V.int)) (hn : 1 ≤ n ∧ n ≤ 60) (hA : Asc 0 n xs) :
    EvR (tCall (spCounts K) [] E (tCons t1 (tCons t2 tNil))) σ H fun v H1 => ∃ p, v = .ref p ∧ H1 p = some (.lst ((difL n xs).map V.int)) :=
  er_call (ea_cons h1 (ea_cons h2 ea_nil)) fun H1 e Q q => ⟨a, n, xs, rfl, ex_l e hx, hn, hA, fun p H' e' h' => q _ H' e' ⟨p, rfl, h'⟩⟩
theorem ok_u_law_counts (T : Txt K mg A) : FnOk P w K mg base CX0 1 A.f_u_law_counts A.d_u_law_counts (["members", "n"] : List Str) (spCounts K) := by
  refine T.F_u_law_counts.ok sc_u_law_counts (fun vs H Q E h => ?_) (fun cdv Ar outer s H vs Q E hr h => ?_)
  · obtain ⟨a, n, xs, rfl, _⟩ := h
    rfl
  · obtain ⟨a, n, xs, rfl, hS, hn, hA, k⟩ := h
    refine ⟨_, (pss_cons (ps_set (i := 2) sc_u_law_counts.nd rfl (Or.inr rfl) (pe_lc (own := [("h", 3)]) (g := gName 3) (tt := tYes) rfl sc_u_law_counts.nd (pi_range1 rfl T.z_range (pa_cons (pv 1) pa_nil)) (blkOk_by (own := [("h", 3)]) (N := N_u_law_counts) (sc := defScope s_u_law_counts) (by decide +kernel)) (fun _ _ _ _ _ => (pg_name (i := 3) sc_u_law_counts.nd rfl (Or.inl rfl))) (fun _ _ _ _ _ => pts_nil) (fun _ _ _ _ _ => (pe_cmpR in_K (pv 3) (pv 0) (by with_unfolding_all rfl)))))
        (pss_cons (ps_set (i := 4) sc_u_law_counts.nd rfl (Or.inl rfl) (pe_lst pa_nil))
        (pss_cons (ps_for PassesOwn.never rfl (pi_range1 rfl T.z_range (pa_cons (pv 1) pa_nil)) (pg_name (i := 5) sc_u_law_counts.nd rfl (Or.inr rfl)) (pss_one (ps_expr (pe_bm PySem.F.plainAttrs_list PySem.F.slot_list_append PySem.F.type_list_append mt_append (pv 4) (pa_cons (pe_callB len_K (by rfl) T.z_len (by decide +kernel) (pa_cons (pe_lc (own := [("h", 3)]) (g := gName 3) rfl sc_u_law_counts.nd (pi_listK (pv 0)) (blkOk_by (own := [("h", 3)]) (N := N_u_law_counts) (sc := defScope s_u_law_counts) (by decide +kernel)) (fun _ _ _ _ _ => (pg_name (i := 3) sc_u_law_counts.nd rfl (Or.inl rfl))) (fun _ _ _ _ _ => (pts_one (pt_val (pe_ix ix_lK (pv 2) (pe_op op_mod (pe_callTy call_int1 (by rfl) T.z_int (by decide +kernel) (pa_cons (pe_op op_add (pv 3) (pv 5)) pa_nil)) (pv 1)) (fun _ _ => rfl))))) (fun _ _ _ _ _ => (pv 3))) pa_nil)) pa_nil)))))
        (pss_one (ps_ret (pv 4)))))), ?_⟩
    have hx := hA.len
    try dsimp only
    have evm := el_rng1 (σ := [some (.ref a), some (.int n), none, none, none, none]) (H := H) (te := tOp (rIn K false) (tVar 3) (tVar 0)) (tt := tYes) (ta := tCons (tVar 1) tNil) (j := 3) (vs := [3]) (fun _ => true) (fun h => .bl (decide ((h : Int) ∈ xs))) (ea_cons (ev_var rfl) ea_nil) (by omega) (fun x => rfl)
      (fun j H1 _ _ => fun H2 e Q q => q H2 (Ex.refl H2)) (fun j H1 e1 _ _ => ev_op (ev_var (i := 3) rfl) (ev_var (i := 0) rfl) (rv_inI (ex_l e1 hS)))
    refine q_asgL evm fun mk H1 hmk e1 h1 => ?_
    try dsimp only
    refine q_asgL (xs := []) (el_lst ea_nil (by decide)) fun cp H2 hcp e2 h2 => ?_
    try dsimp only
    refine q_forR1 (j := 5) (n := n) (ea_cons (ev_var (i := 1) rfl) ea_nil) (by omega)
      (fun i σ' H' => ∃ dv : Option V, σ' = [some (.ref a), some (.int n), some (.ref mk), none, some (.ref cp), dv] ∧ Ex H1 H' ∧ H' cp = some (.lst (((List.range i).map fun d : Nat => ((xs.filter fun y => decide ((y + (d : Int)) % n ∈ xs)).length : Int)).map V.int)))
      (fun H3 e3 => ⟨none, rfl, e2.trans e3, e3 _ _ h2⟩) ?_ ?_
    · rintro i σ' H' hi ⟨dv, rfl, ex, hc⟩
      try dsimp only
      refine s_app (xs := ((List.range i).map fun d : Nat => ((xs.filter fun y => decide ((y + (d : Int)) % n ∈ xs)).length : Int)).map V.int) (v := .int (((xs.filter fun y => decide ((y + (i : Int)) % n ∈ xs)).map V.int).length : Int)) hc (ev_var (i := 4) rfl)
        (ev_lenN' (el_lst1 (σ := [some (.ref a), some (.int n), some (.ref mk), none, some (.ref cp), some (.int (i : Int))]) (j := 3) (vs := [3]) xs (fun y => decide ((y + (i : Int)) % n ∈ xs)) (ev_var (i := 0) rfl) (ex_l (e1.trans ex) hS) (by omega) (fun x => rfl)
          (fun y H3 e3 hy' => ?_) (fun y H3 e3 hy' => ev_var (i := 3) rfl))) (by rw [List.length_map, List.length_map, List.length_range]; omega) fun H3 e3 => ?_
      · have m0 : 0 ≤ (y + (i : Int)) % n := Int.emod_nonneg _ (by omega)
        have m1 : (y + (i : Int)) % n < n := Int.emod_lt_of_pos _ (by omega)
        obtain ⟨d, hd⟩ : ∃ d : Nat, (y + (i : Int)) % n = (d : Int) := ⟨((y + (i : Int)) % n).toNat, by omega⟩
        have hat : atI (given n.toNat (fun _ => true) fun h => V.bl (decide ((h : Int) ∈ xs))) ((y + (i : Int)) % n) = some (.bl (decide ((y + (i : Int)) % n ∈ xs))) := by
          rw [hd]
          refine atI_nat ?_
          unfold given
          rw [List.filter_eq_self.mpr fun _ _ => rfl, List.getElem?_map, List.getElem?_range (by omega), Option.map_some]
        exact et_B (ev_op (ev_var (i := 2) rfl) (ev_op (ev_int (ev_op (ev_var (i := 3) rfl) (ev_var (i := 5) rfl) rv_I0)) (ev_var (i := 1) rfl) (rv_I (show (0 : Int) < n by omega))) (rv_ixL (sq_of ((ex.trans e3) _ _ h1)) hat))
      · refine ⟨_, rfl, Ex.mut (ex.trans e3) hcp, ?_⟩
        rw [upd_same, List.range_succ, List.map_append, List.map_append, List.length_map]
        rfl
    rintro σ' H' ⟨dv, rfl, ex, hc⟩
    have ec : ((List.range n.toNat).map fun d : Nat => ((xs.filter fun y => decide ((y + (d : Int)) % n ∈ xs)).length : Int)) = difL n xs := by
      rw [← cntP_difL, cnt_eq (by omega) hA]
      rfl
    rw [ec] at hc
    exact ⟨_, rfl, k cp H' (e1.trans ex) hc⟩

def spMet (K : PySem.W.Frag) : Sp := fun vs H Q _ => ∃ (a : Addr) (n : Int) (rs : List Int), vs = [.ref a, .int n] ∧ SqL K H a (rs.map V.int) ∧ (1 ≤ n ∧ n ≤ 360) ∧ (∀ z ∈ rs, 0 ≤ z ∧ z < n) ∧ ∀ p H', Ex H H' → H' p = some (.lst ((cntR n rs).map V.int)) → Q (.ref p) H'
theorem er_met {K : PySem.W.Frag} {E : XK} {σ : L2.St} {H : Hp} {tl tn : TE} {n : Int} {rs : List Int} (hl : EvR tl σ H fun v H1 => ∃ p, v = .ref p ∧ SqL K H1 p (rs.map V.int)) (h2 : Ev tn σ H (.int n)) (hn : 1 ≤ n ∧ n ≤ 360) (hr : ∀ z ∈ rs, 0 ≤ z ∧ z < n) : EvR (tCall (spMet K) [] E (tCons tl (tCons tn tNil))) σ H fun v H1 => ∃ p, v = .ref p ∧ H1 p = some (.lst ((cntR n rs).map V.int)) := fun H1 e Q q =>
  hl H1 e _ fun v H2 e2 hv => h2 H2 (e.trans e2) _ fun H3 e3 => by
    obtain ⟨p, rfl, hp⟩ := hv
    exact ⟨p, n, rs, rfl, ex_l e3 hp, hn, hr, fun p H' e' hd => q _ H' ((e2.trans e3).trans e') ⟨p, rfl, hd⟩⟩
theorem ok_u_law_met (T : Txt K mg A) : FnOk P w K mg base CX0 1 A.f_u_law_met A.d_u_law_met (["residues", "n"] : List Str) (spMet K) := by
  refine T.F_u_law_met.ok sc_u_law_met (fun vs H Q E h => ?_) (fun cdv Ar outer s H vs Q E hr h => ?_)
  · obtain ⟨a, n, rs, rfl, _⟩ := h
    rfl
  · obtain ⟨a, n, rs, rfl, hS, hn, hin, k⟩ := h
    refine ⟨_, (pss_cons (ps_set (i := 2) sc_u_law_met.nd rfl (Or.inl rfl) (pe_op op_rep (pe_lst (pa_cons pe_int pa_nil)) (pv 1)))
        (pss_cons (ps_for PassesOwn.never rfl (pi_listK (pv 0)) (pg_name (i := 3) sc_u_law_met.nd rfl (Or.inl rfl)) (pss_one (ps_asg (pe_op op_add (pe_ix ix_lK (pv 2) (pv 3) (fun _ _ => rfl)) pe_int) (pg_sub (pv 2) (pv 3) set_list))))
        (pss_one (ps_ret (pv 2))))), ?_⟩
    try dsimp only
    refine q_asgL (el_rep (z := 0) (k := n) ev_c (ev_var (i := 1) rfl) (by omega)) fun t H1 ht e1 h1 => ?_
    rw [← cntR_nil] at h1
    try dsimp only
    refine q_forLn (K := K) (a := a) (xs := rs.map V.int) (j := 3) (ev_var (i := 0) rfl) (ex_l e1 hS)
      (fun i σ' H' => ∃ mv : Option V, σ' = [some (.ref a), some (.int n), some (.ref t), mv] ∧ Ex H H' ∧ H' t = some (.lst ((cntR n (rs.take i)).map V.int)))
      (fun H2 e2 => ⟨none, rfl, e1.trans e2, by rw [e2 _ _ h1]; rfl⟩) (fun i σ' H' _ ⟨_, _, e, _⟩ => ex_l e hS) ?_ ?_
    · rintro i y σ' H' hi ⟨mv, rfl, ex, hc⟩
      obtain ⟨m, rfl, hm⟩ := some_int hi
      have m0 := hin m (List.mem_of_getElem? hm)
      obtain ⟨j, rfl⟩ : ∃ j : Nat, m = (j : Int) := ⟨m.toNat, by omega⟩
      have hjn : j < n.toNat := by omega
      try dsimp only
      refine s_setL (j := j) (v := .int ((((rs.take i).filter fun z => decide (z = (j : Int))).length : Int) + 1)) hc (ev_op (ev_op (ev_var (i := 2) rfl) (ev_var (i := 3) rfl) (rv_ixL (sq_of hc) (atI_nat (by rw [List.getElem?_map, cntR_get hjn]; rfl)))) ev_c rv_I0) (ev_var (i := 2) rfl) (ev_var (i := 3) rfl) (by rw [List.length_map, cntR_len]; exact hjn) fun H3 e3 => ?_
      refine ⟨_, rfl, Ex.mut (ex.trans e3) ht, ?_⟩
      rw [upd_same, List.take_succ, hm]
      show some (HO.lst _) = some (HO.lst ((cntR n (_ ++ [(j : Int)])).map V.int))
      rw [← cntR_set hjn, List.map_set]
    rintro σ' H' ⟨mv, rfl, ex, hc⟩
    rw [List.length_map, List.take_length] at hc
    exact ⟨_, rfl, k t H' ex hc⟩

def foldL (n : Int) (xs ys : List Int) : List Int := (List.range n.toNat).map fun d : Nat => S (U n) fun e => dif n xs e * dif n ys (((d : Int) - e) % n)
def spFold (K : PySem.W.Frag) : Sp := fun vs H Q _ => ∃ (a b : Addr) (n : Int) (xs ys : List Int), vs = [.ref a, .ref b, .int n] ∧ SqL K H a ((difL n xs).map V.int) ∧ SqL K H b ((difL n ys).map V.int) ∧ (1 ≤ n ∧ n ≤ 60) ∧ xs.length ≤ 60 ∧ ∀ p H', Ex H H' → H' p = some (.lst ((foldL n xs ys).map V.int)) → Q (.ref p) H'
theorem er_fold {K : PySem.W.Frag} {E : XK} {σ : L2.St} {H : Hp} {t1 t2 t3 : TE} {a b : Addr} {n : Int} {xs ys : List Int} (h1 : Ev t1 σ H (.ref a)) (h2 : Ev t2 σ H (.ref b)) (h3 : Ev t3 σ H (.int n)) (hx : SqL K H a ((difL n xs).map V.int)) (hy : SqL K H b ((difL n ys).map V.int)) (hn : 1 ≤ n ∧ n ≤ 60) (hl : xs.length ≤ 60) :
    EvR (tCall (spFold K) [] E (tCons t1 (tCons t2 (tCons t3 tNil)))) σ H fun v H1 => ∃ p, v = .ref p ∧ H1 p = some (.lst ((foldL n xs ys).map V.int)) :=
  er_call (ea_cons h1 (ea_cons h2 (ea_cons h3 ea_nil))) fun H1 e Q q => ⟨a, b, n, xs, ys, rfl, ex_l e hx, ex_l e hy, hn, hl, fun p H' e' h' => q _ H' e' ⟨p, rfl, h'⟩⟩
theorem ok_u_law_fold (T : Txt K mg A) : FnOk P w K mg base CX0 1 A.f_u_law_fold A.d_u_law_fold (["one", "two", "n"] : List Str) (spFold K) := by
  refine T.F_u_law_fold.ok sc_u_law_fold (fun vs H Q E h => ?_) (fun cdv Ar outer s H vs Q E hr h => ?_)
  · obtain ⟨a, b, n, xs, ys, rfl, _⟩ := h
    rfl
  · obtain ⟨a, b, n, xs, ys, rfl, hx, hy, hn, hl, k⟩ := h
    refine ⟨_, (pss_one (ps_ret (pe_lc (own := [("d", 3)]) (g := gName 3) (tt := tYes) rfl sc_u_law_fold.nd (pi_range1 rfl T.z_range (pa_cons (pv 2) pa_nil)) (blkOk_by (own := [("d", 3)]) (N := N_u_law_fold) (sc := defScope s_u_law_fold) (by decide +kernel)) (fun _ _ _ _ _ => (pg_name (i := 3) sc_u_law_fold.nd rfl (Or.inr rfl))) (fun _ _ _ _ _ => pts_nil) (fun _ _ _ _ _ => (pe_callB (cr_sumK rfl) (by rfl) T.z_sum (by decide +kernel) (pa_cons (pe_lc (own := [("e", 4)]) (g := gName 4) (tt := tYes) rfl sc_u_law_fold.nd (pi_range1 rfl T.z_range (pa_cons (pv 2) pa_nil)) (by dsimp only [cxOf, Cx.nox, Cx.blk, compEnvC]; show BlkOk _ (relS _ (defScope s_u_law_fold)) _ _; exact blkOk_by (own := [("e", 4)]) (N := N_u_law_fold) (by decide +kernel)) (fun _ _ _ _ _ => (pg_name (i := 4) sc_u_law_fold.nd rfl (Or.inl rfl))) (fun _ _ _ _ _ => pts_nil) (fun _ _ _ _ _ => (pe_op op_mul (pe_ix ix_lK (pv 0) (pv 4) (fun _ _ => rfl)) (pe_ix ix_lK (pv 1) (pe_op op_mod (pe_callTy call_int1 (by rfl) T.z_int (by decide +kernel) (pa_cons (pe_op op_sub (pv 3) (pv 4)) pa_nil)) (pv 2)) (fun _ _ => rfl))))) pa_nil)))))), ?_⟩
    have one : ∀ {xs : List Int} {p : Addr} {i : Nat} {te : TE} {σ : L2.St} {G : Hp} {z : Int}, Ex H G → SqL K H p ((difL n xs).map V.int) → σ[i]? = some (some (.ref p)) → Ev te σ G (.int z) → 0 ≤ z → z < n → Ev (tOp (rIxL K) (tVar i) te) σ G (.int (dif n xs z)) := fun {xs p i te σ G z} e hp hi hz h0 h1 => by
      obtain ⟨d, rfl⟩ : ∃ d : Nat, z = (d : Int) := ⟨z.toNat, by omega⟩
      exact ev_op (ev_var hi) hz (rv_ixL (ex_l e hp) (atI_nat (by rw [List.getElem?_map, difL_get (by omega)]; rfl)))
    have inner : ∀ (d : Nat) (G : Hp), Ex H G → d < n.toNat → EvL (tLc (iRng1 (tCons (tVar 2) tNil)) (gName 4) tYes (tOp (rI CMul fun i j => V.int (i * j)) (tOp (rIxL K) (tVar 0) (tVar 4)) (tOp (rIxL K) (tVar 1)
            (tOp (rI (fun x j => 0 < j) fun i j => V.int (i % j)) (tCB (fun xs H Q => (∃ i, xs = [V.int i] ∧ Q (V.int i) H) ∨ ∃ k, xs = [V.bl k] ∧ Q (V.int (if k = true then 1 else 0)) H) (tCons (tOp (rI0 fun i j => V.int (i - j)) (tVar 3) (tVar 4)) tNil)) (tVar 2)))) [4])
          [some (.ref a), some (.ref b), some (.int n), some (.int (d : Int)), none] G (((List.range n.toNat).map fun e : Nat => dif n xs (e : Int) * dif n ys (((d : Int) - (e : Int)) % n)).map V.int) := fun d G eG hd => by
      have e := el_rng1 (σ := [some (.ref a), some (.ref b), some (.int n), some (.int (d : Int)), none]) (H := G) (tt := tYes) (ta := tCons (tVar 2) tNil) (j := 4) (vs := [4]) (te := tOp (rI CMul fun i j => V.int (i * j)) (tOp (rIxL K) (tVar 0) (tVar 4)) (tOp (rIxL K) (tVar 1)
            (tOp (rI (fun x j => 0 < j) fun i j => V.int (i % j)) (tCB (fun xs H Q => (∃ i, xs = [V.int i] ∧ Q (V.int i) H) ∨ ∃ k, xs = [V.bl k] ∧ Q (V.int (if k = true then 1 else 0)) H) (tCons (tOp (rI0 fun i j => V.int (i - j)) (tVar 3) (tVar 4)) tNil)) (tVar 2))))
        (fun _ => true) (fun e => V.int (dif n xs (e : Int) * dif n ys (((d : Int) - (e : Int)) % n))) (ea_cons (ev_var (i := 2) rfl) ea_nil) (by omega) (fun x => rfl) (fun j H1 _ _ => yes_T) (fun j H1 e1 hj _ => by
          have nn := dif_nn (n := n) (d := (j : Int)) hl
          exact ev_op (one (eG.trans e1) hx rfl (ev_var (i := 4) rfl) (by omega) hj) (one (eG.trans e1) hy rfl (ev_op (ev_int (ev_op (ev_var (i := 3) rfl) (ev_var (i := 4) rfl) rv_I0)) (ev_var (i := 2) rfl) (rv_I (show (0 : Int) < n by omega))) (Int.emod_nonneg _ (by omega)) (Int.emod_lt_of_pos _ (by omega))) (rv_I (show CMul _ _ from .inl ⟨by omega, by omega⟩)))
      rw [given_all] at e
      rw [List.map_map]
      exact e
    have outer := el_rng1 (σ := [some (.ref a), some (.ref b), some (.int n), none, none]) (H := H) (tt := tYes) (ta := tCons (tVar 2) tNil) (j := 3) (vs := [3]) (te := tCB (rSum K) (tCons (tLc (iRng1 (tCons (tVar 2) tNil)) (gName 4) tYes (tOp (rI CMul fun i j => V.int (i * j)) (tOp (rIxL K) (tVar 0) (tVar 4)) (tOp (rIxL K) (tVar 1)
            (tOp (rI (fun x j => 0 < j) fun i j => V.int (i % j)) (tCB (fun xs H Q => (∃ i, xs = [V.int i] ∧ Q (V.int i) H) ∨ ∃ k, xs = [V.bl k] ∧ Q (V.int (if k = true then 1 else 0)) H) (tCons (tOp (rI0 fun i j => V.int (i - j)) (tVar 3) (tVar 4)) tNil)) (tVar 2)))) [4]) tNil))
      (fun _ => true) (fun d => V.int (S (U n) fun e => dif n xs e * dif n ys (((d : Int) - e) % n))) (ea_cons (ev_var (i := 2) rfl) ea_nil) (by omega) (fun x => rfl) (fun j H1 _ _ => yes_T) (fun j H1 e1 hj _ => by
        refine ev_is (ev_sumN (inner j H1 e1 (by omega))) ?_
        rw [S_U]
        rfl)
    rw [given_all] at outer
    refine s_retL outer fun p H1 hp e1 h1 => k p H1 e1 ?_
    rw [h1]
    unfold foldL
    rw [List.map_map]
    rfl

def spIsLot (K : PySem.W.Frag) (A : Ads) : Sp := fun vs H Q _ => ∃ (v : V) (p : Addr) (n : Int) (xs : List Int), vs = [v, .int n, .ref p] ∧ LotIs A.C_Lot v H n xs ∧ SqL K H p (xs.map V.int) ∧ ∀ H', Ex H H' → Q (.bl true) H'
theorem ev_isLot {K : PySem.W.Frag} {A : Ads} {E : XK} {σ : L2.St} {H : Hp} {ta tn tl : TE} {n : Int} {xs : List Int} (ha : EvR ta σ H fun v H1 => LotIs A.C_Lot v H1 n xs) (hn : Ev tn σ H (.int n)) (hl : EvR tl σ H fun v H1 => ∃ p, v = .ref p ∧ SqL K H1 p (xs.map V.int)) :
    Ev (tCall (spIsLot K A) [] E (tCons ta (tCons tn (tCons tl tNil)))) σ H (.bl true) := fun H1 e Q q =>
  ha H1 e _ fun v H2 e2 hv => hn H2 (e.trans e2) _ fun H3 e3 => hl H3 ((e.trans e2).trans e3) _ fun w H4 e4 hw => by
    obtain ⟨p, rfl, hp⟩ := hw
    exact ⟨v, p, n, xs, rfl, hv.ex (e3.trans e4), hp, fun H' e' => q H' ((e2.trans e3).trans (e4.trans e'))⟩
theorem ok_u_law_is_lot (T : Txt K mg A) : FnOk P w K mg base CX0 7 A.f_u_law_is_lot A.d_u_law_is_lot (["lot", "n", "due"] : List Str) (spIsLot K A) := by
  refine T.F_u_law_is_lot.ok sc_u_law_is_lot (fun vs H Q E h => ?_) (fun cdv Ar outer s H vs Q E hr h => ?_)
  · obtain ⟨v, p, n, xs, rfl, _⟩ := h
    rfl
  · obtain ⟨v, p, n, xs, rfl, hL, hp, k⟩ := h
    refine ⟨_, (pss_one (ps_ret (pe_and (pe_callB isi_K (by rfl) T.z_isinstance (by decide +kernel) (pa_cons (pv 0) (pa_cons (pe_glob (v := .ref A.C_Lot) rfl T.g_Lot rfl) pa_nil))) (pe_and (pe_call (ok_u_law_same T) (hr.mono (by omega)) rfl T.g_u_law_same T.k_u_law_same (b_u_law_same T) .nil pass0 (pa_cons (pe_fldK (pv 0) rfl) (pa_cons (pv 1) pa_nil))) (pe_one (pe_call (ok_u_law_same T) (hr.mono (by omega)) rfl T.g_u_law_same T.k_u_law_same (b_u_law_same T) .nil pass0 (pa_cons (pe_prop (pv 0) T.cl_Lot T.P_Lot_members (ok_Lot_members T) (hr.mono (by omega)) (b_Lot_members T) .nil pass0 rfl) (pa_cons (pv 2) pa_nil)))))))), ?_⟩
    obtain ⟨⟨a, dx, l, rfl, h1, h2⟩, hn, hA⟩ := id hL
    have hl := hL.len
    try dsimp only
    refine s_ret (v := .bl true) (ev_andV (a := true) (b := true) (fun H1 e1 Q q => ⟨_, rfl, _, _, _, _, true, rfl, .own _, T.ty_Lot H1 a dx _ (e1 _ _ h1), kit_self, q H1 (Ex.refl H1)⟩) fun _ => ev_andV (a := true) (b := true) (fun H1 e1 Q q => ⟨_, rfl, a, _, dx, _, _, rfl, e1 _ _ h1, T.cl_Lot, T.na_Lot_hours, rfl, _, rfl, _, _, .int n, rfl, .int n, .int n, True.intro, q H1 (Ex.refl H1)⟩) fun _ =>
      fun H1 e1 Q q => el_mems (er_var rfl (hL.ex e1)) H1 (Ex.refl H1) _ fun m H2 _ e2 hm => ⟨_, rfl, _, _, .list (xs.map .int), rfl, .lst (sq_of hm) (dp_ints _), .lst (ex_l (e1.trans e2) hp) (dp_ints _), flatI hl, q H2 e2⟩) fun H2 e2 => k H2 e2

def spFac : Sp := fun vs H Q _ => ∃ n k : Int, vs = [.int n, .int k] ∧ (1 ≤ n ∧ n ≤ 60) ∧ ∀ H', Ex H H' → Q (.int (facF n k)) H'
theorem ev_fac {E : XK} {σ : L2.St} {H : Hp} {t1 t2 : TE} {n k : Int} (h1 : Ev t1 σ H (.int n)) (h2 : Ev t2 σ H (.int k)) (hn : 1 ≤ n ∧ n ≤ 60) : Ev (tCall spFac [] E (tCons t1 (tCons t2 tNil))) σ H (.int (facF n k)) :=
  ev_call (ea_cons h1 (ea_cons h2 ea_nil)) fun H1 e Q q E => ⟨n, k, rfl, hn, fun H' e' => q H' e'⟩
theorem ok_u_law_factor (T : Txt K mg A) : FnOk P w K mg base CX0 2 A.f_u_law_factor A.d_u_law_factor (["n", "number"] : List Str) spFac := by
  refine T.F_u_law_factor.ok sc_u_law_factor (fun vs H Q E h => ?_) (fun cdv Ar outer s H vs Q E hr h => ?_)
  · obtain ⟨n, k, rfl, _⟩ := h
    rfl
  · obtain ⟨n, kk, rfl, hn, k⟩ := h
    refine ⟨_, (pss_cons (ps_setLc (i := 2) (own := [("t", 3)]) (g := gName 3) rfl sc_u_law_factor.nd rfl rfl (sw_true rfl rfl rfl (by decide +kernel)) (pi_range2 rfl T.z_range (pa_cons pe_int (pa_cons (pe_op op_add (pv 0) pe_int) pa_nil))) (blkOk_by (own := [("t", 3)]) (N := N_u_law_factor) (sc := defScope s_u_law_factor) (by decide +kernel)) (fun _ _ _ _ _ => (pg_name (i := 3) sc_u_law_factor.nd rfl (Or.inl rfl))) (fun _ _ _ _ _ => (pts_one (pt_cmpR op_eq (pe_call (ok_u_law_gcd T) (hr.mono (by omega)) rfl T.g_u_law_gcd T.k_u_law_gcd (b_u_law_gcd T) .nil pass0 (pa_cons (pv 3) (pa_cons (pv 0) pa_nil))) pe_int (nomark _)))) (fun _ _ _ _ _ => (pv 3)))
        (pss_one (ps_ret (pe_op op_add (pe_ix ix_lK (pv 2) (pe_op op_mod (pe_callTy call_int1 (by rfl) T.z_int (by decide +kernel) (pa_cons (pv 1) pa_nil)) (pe_callB len_K (by rfl) T.z_len (by decide +kernel) (pa_cons (pv 2) pa_nil))) (fun _ _ => rfl)) (pe_op op_mul (pv 0) (pe_op op_sub (pv 1) pe_int)))))), ?_⟩
    try dsimp only
    have lc := el_rng2 (σ := [some (.int n), some (.int kk), none, none]) (H := H) (te := tVar 3) (tt := tTest (tOp rEq (tCall spGcd [] E0 (tCons (tVar 3) (tCons (tVar 0) tNil))) (tC (.int 1)))) (ta := tCons (tC (.int 1)) (tCons (tOp (rI0 fun i j => V.int (i + j)) (tVar 0) (tC (.int 1))) tNil)) (j := 3) (vs := [3]) (lo := 1) (hi := n + 1)
      (fun i => decide (Nat.gcd (1 + (i : Int)).natAbs n.natAbs = 1)) (fun i => .int (1 + (i : Int))) (ea_cons ev_c (ea_cons (ev_op (ev_var (i := 0) rfl) ev_c rv_I0) ea_nil)) (by omega) (fun x => rfl)
      (fun i H1 _ hi => et_test (ev_is (ev_op (ev_lawGcd (ev_var (i := 3) rfl) (ev_var (i := 0) rfl) (by omega) (by omega)) ev_c (rv_eq rfl)) (by rw [dec_ii]; congr 1; rw [decide_eq_decide]; omega)))
      (fun i H1 _ hi _ => ev_var (i := 3) rfl)
    rw [given_pick, show (n + 1 - 1) = n by omega] at lc
    refine q_asgL lc fun p H1 hp e1 h1 => ?_
    try dsimp only
    exact s_ret (v := .int (facF n kk)) (ev_op (ev_atR (K := K) (xs := unitsL n) (ev_var (i := 2) rfl) (ev_var (i := 1) rfl) (sq_of h1) (units_pos hn.1)) (ev_op (ev_var (i := 0) rfl) (ev_op (ev_var (i := 1) rfl) ev_c rv_I0) (rv_I (show CMul n (kk - 180) from .inl ⟨by omega, by omega⟩))) rv_I0) fun H2 e2 => k H2 (e1.trans e2)

theorem ev_pow {σ : L2.St} {H : Hp} {z : Int} {k : Nat} (h : 0 ≤ z ∧ z ≤ 1000000) (hk : z.toNat = k := by rfl) : Ev (tOp (rI CPow fun i j => .int (i ^ j.toNat)) (tC (.int 10)) (tC (.int z))) σ H (.int (10 ^ k)) := hk ▸ ev_op ev_c ev_c (rv_I ⟨h.1, h.2, by decide⟩)

def spShf : Sp := fun vs H Q _ => ∃ k : Int, vs = [.int k] ∧ ∀ H', Ex H H' → Q (.int (shF k)) H'
theorem ev_shf {E : XK} {σ : L2.St} {H : Hp} {t1 : TE} {k : Int} (h1 : Ev t1 σ H (.int k)) : Ev (tCall spShf [] E (tCons t1 tNil)) σ H (.int (shF k)) :=
  ev_call (ea_cons h1 ea_nil) fun H1 e Q q E => ⟨k, rfl, fun H' e' => q H' e'⟩
theorem ok_u_law_shift (T : Txt K mg A) : FnOk P w K mg base CX0 1 A.f_u_law_shift A.d_u_law_shift (["number"] : List Str) spShf := by
  refine T.F_u_law_shift.ok sc_u_law_shift (fun vs H Q E h => ?_) (fun cdv Ar outer s H vs Q E hr h => ?_)
  · obtain ⟨k, rfl, _⟩ := h
    rfl
  · obtain ⟨kk, rfl, k⟩ := h
    refine ⟨_, (pss_one (ps_ret (pe_op op_add (pe_op op_mul (pe_op op_sub (pv 0) pe_int) (pe_op op_pow pe_int pe_int)) (pv 0)))), ?_⟩
    try dsimp only
    exact s_ret (v := .int (shF kk)) (ev_op (ev_op (ev_op (ev_var (i := 0) rfl) ev_c rv_I0) (ev_pow (z := 9) (k := 9) (by decide)) (rv_I (show CMul (kk - 180) (10 ^ 9) from .inr ⟨by decide, by decide⟩))) (ev_var (i := 0) rfl) rv_I0) fun H2 e2 => k H2 e2

def spPart : Sp := fun vs H Q _ => ∃ n k : Int, vs = [.int n, .int k] ∧ (1 ≤ n ∧ n ≤ 60) ∧ ∀ H', Ex H H' → Q (.int (atR (divs n) k)) H'
theorem ev_part {E : XK} {σ : L2.St} {H : Hp} {t1 t2 : TE} {n k : Int} (h1 : Ev t1 σ H (.int n)) (h2 : Ev t2 σ H (.int k)) (hn : 1 ≤ n ∧ n ≤ 60) : Ev (tCall spPart [] E (tCons t1 (tCons t2 tNil))) σ H (.int (atR (divs n) k)) :=
  ev_call (ea_cons h1 (ea_cons h2 ea_nil)) fun H1 e Q q E => ⟨n, k, rfl, hn, fun H' e' => q H' e'⟩
theorem part_in {n k : Int} (hn : 1 ≤ n) : (1 ≤ atR (divs n) k ∧ atR (divs n) k ≤ n) ∧ n % atR (divs n) k = 0 := mem_divs.mp (atR_mem (divs_pos hn))
theorem ok_u_law_part (T : Txt K mg A) : FnOk P w K mg base CX0 2 A.f_u_law_part A.d_u_law_part (["n", "number"] : List Str) spPart := by
  refine T.F_u_law_part.ok sc_u_law_part (fun vs H Q E h => ?_) (fun cdv Ar outer s H vs Q E hr h => ?_)
  · obtain ⟨n, k, rfl, _⟩ := h
    rfl
  · obtain ⟨n, kk, rfl, hn, k⟩ := h
    refine ⟨_, (pss_cons (ps_set (i := 2) sc_u_law_part.nd rfl (Or.inl rfl) (pe_call (ok_u_law_parts T) (hr.mono (by omega)) rfl T.g_u_law_parts T.k_u_law_parts (b_u_law_parts T) .nil pass0 (pa_cons (pv 0) pa_nil)))
        (pss_one (ps_ret (pe_ix ix_lK (pv 2) (pe_op op_mod (pe_callTy call_int1 (by rfl) T.z_int (by decide +kernel) (pa_cons (pv 1) pa_nil)) (pe_callB len_K (by rfl) T.z_len (by decide +kernel) (pa_cons (pv 2) pa_nil))) (fun _ _ => rfl))))), ?_⟩
    try dsimp only
    refine q_asgR (er_ldivs (ev_var (i := 0) rfl) (by omega)) fun v H1 e1 hp => ?_
    obtain ⟨pp, rfl, hpp⟩ := hp
    try dsimp only
    exact s_ret (v := .int (atR (divs n) kk)) (ev_atR (K := K) (xs := divs n) (ev_var (i := 2) rfl) (ev_var (i := 1) rfl) (sq_of hpp) (divs_pos hn.1)) fun H2 e2 => k H2 (e1.trans e2)

def kindF (n kd k : Int) : Int := if kd = 5 ∧ 60 < n * (2 + k % 2) then 2 else kd
def spKind : Sp := fun vs H Q _ => ∃ n kd k : Int, vs = [.int n, .int kd, .int k] ∧ (1 ≤ n ∧ n ≤ 60) ∧ ∀ H', Ex H H' → Q (.int (kindF n kd k)) H'
theorem ev_kind {E : XK} {σ : L2.St} {H : Hp} {t1 t2 t3 : TE} {n kd k : Int} (h1 : Ev t1 σ H (.int n)) (h2 : Ev t2 σ H (.int kd)) (h3 : Ev t3 σ H (.int k)) (hn : 1 ≤ n ∧ n ≤ 60) : Ev (tCall spKind [] E (tCons t1 (tCons t2 (tCons t3 tNil)))) σ H (.int (kindF n kd k)) :=
  ev_call (ea_cons h1 (ea_cons h2 (ea_cons h3 ea_nil))) fun H1 e Q q E => ⟨n, kd, k, rfl, hn, fun H' e' => q H' e'⟩
theorem ok_u_law_kind (T : Txt K mg A) : FnOk P w K mg base CX0 1 A.f_u_law_kind A.d_u_law_kind (["n", "kind", "number"] : List Str) spKind := by
  refine T.F_u_law_kind.ok sc_u_law_kind (fun vs H Q E h => ?_) (fun cdv Ar outer s H vs Q E hr h => ?_)
  · obtain ⟨n, kd, k, rfl, _⟩ := h
    rfl
  · obtain ⟨n, kd, kk, rfl, hn, k⟩ := h
    refine ⟨_, (pss_cons (ps_if (PW.pt (pw_and (pt_cmpR op_eq (pv 1) pe_int (nomark _)) (pw_and1 (pt_cmpR op_gt (pe_op op_mul (pv 0) (pe_op op_add pe_int (pe_op op_mod (pe_callTy call_int1 (by rfl) T.z_int (by decide +kernel) (pa_cons (pv 2) pa_nil)) pe_int))) pe_int (nomark _))))) (pss_one (ps_ret pe_int)) pss_nil)
        (pss_one (ps_ret (pv 1)))), ?_⟩
    try dsimp only
    refine q_when (b := decide (kd = 5 ∧ 60 < n * (2 + kk % 2))) (et_is (et_and (a := decide (kd = 5)) (b := decide (60 < n * (2 + kk % 2))) (et_test (ev_is (by repeat' first | exact ev_c | exact ev_var rfl | exact ea_nil | apply ea_cons | apply ev_int | apply ev_op | apply ev_un | exact ru_neg | exact rv_I0 | exact rv_eq rfl | exact rv_ne rfl | exact rv_I (by decide) | exact rv_I (.inl ⟨by decide, by decide⟩) | exact rv_I (.inr ⟨by decide, by decide⟩) | exact rv_I (by omega) | exact rv_I (.inl ⟨by omega, by omega⟩) | exact rv_I (.inr ⟨by omega, by omega⟩)) (by rw [dec_ii]))) fun _ => et_test (ev_op (ev_op (ev_var (i := 0) rfl) (ev_op ev_c (ev_op (ev_int (ev_var (i := 2) rfl)) ev_c (rv_I (show (0 : Int) < 2 by decide))) rv_I0) (rv_I (show CMul n (2 + kk % 2) from .inl ⟨by omega, by omega⟩))) ev_c rv_I0)) (by rw [← Bool.decide_and])) (fun h H1 e1 => ?_) (fun h H1 e1 => ?_)
    · exact s_ret (v := .int (kindF n kd kk)) (ev_is ev_c (by unfold kindF; rw [if_pos (of_decide_eq_true h)])) fun H2 e2 => k H2 (e1.trans e2)
    · exact s_ret (v := .int (kindF n kd kk)) (ev_var (i := 1) (by unfold kindF; rw [if_neg (of_decide_eq_false h)]; rfl)) fun H2 e2 => k H2 (e1.trans e2)

/-- a deed with a lot, and what it tells -/
inductive Deed (n k : Int) (xs : List Int) : Int → Res → Prop where
  | left : Deed n k xs 0 (.lot n (hrs n fun z => decide ((z - shF k) % n ∈ xs)))
  | right : Deed n k xs 1 (.lot n (hrs n fun z => decide ((z + shF k) % n ∈ xs)))
  | minus : Deed n k xs 2 (.lot n (hrs n fun z => decide ((0 - z) % n ∈ xs)))
  | others : Deed n k xs 3 (.lot n (hrs n fun z => !decide (z ∈ xs)))
  | times : Deed n k xs 4 (.lot n (hrs n fun z => decide (z ∈ (xs.map fun x => x * facF n k).map (· % n))))
  | copies (h : n * (2 + k % 2) ≤ 60) : Deed n k xs 5 (.lot (n * (2 + k % 2)) (laps n (2 + k % 2).toNat xs))
  | part : Deed n k xs 6 (once (atR (divs n) k) (xs.map (· % atR (divs n) k)))
theorem deed_ex {n kd k : Int} (xs : List Int) (h : 0 ≤ kd ∧ kd < 7) : ∃ r, Deed n k xs (kindF n kd k) r := by
  have e : kd = 0 ∨ kd = 1 ∨ kd = 2 ∨ kd = 3 ∨ kd = 4 ∨ kd = 5 ∨ kd = 6 := by omega
  unfold kindF
  rcases e with rfl | rfl | rfl | rfl | rfl | rfl | rfl
  · exact ⟨_, .left⟩
  · exact ⟨_, .right⟩
  · exact ⟨_, .minus⟩
  · exact ⟨_, .others⟩
  · exact ⟨_, .times⟩
  · by_cases c : 60 < n * (2 + k % 2)
    · rw [if_pos ⟨rfl, c⟩]
      exact ⟨_, .minus⟩
    · rw [if_neg fun z => c z.2]
      exact ⟨_, .copies (by omega)⟩
  · exact ⟨_, .part⟩
theorem deed_calm {n kd k : Int} {xs : List Int} {r : Res} (h : Deed n k xs kd r) : (∃ h, r = .meets h) ∨ ∃ m ys, r = .lot m ys := by
  cases h with
  | part =>
    unfold once
    split
    · exact .inl ⟨_, rfl⟩
    · exact .inr ⟨_, _, rfl⟩
  | left => exact .inr ⟨_, _, rfl⟩
  | right => exact .inr ⟨_, _, rfl⟩
  | minus => exact .inr ⟨_, _, rfl⟩
  | others => exact .inr ⟨_, _, rfl⟩
  | times => exact .inr ⟨_, _, rfl⟩
  | copies h => exact .inr ⟨_, _, rfl⟩
def spDone (A : Ads) : Sp := fun vs H Q E => ∃ (v : V) (n kd k : Int) (xs : List Int) (r : Res), vs = [v, .int n, .int kd, .int k] ∧ LotIs A.C_Lot v H n xs ∧ n ≤ 60 ∧ Deed n k xs kd r ∧ Out A H Q E r
theorem c_turn {A : Ads} {g : Int → Int → List Int → List Int} {Q : VK} {E : L2.St → XK} {E' : XK} {σ : L2.St} {H : Hp} {i : Nat} {tb : TE} {v : V} {n t : Int} {xs : List Int} (hv : σ[i]? = some (some v)) (hL : LotIs A.C_Lot v H n xs) (hj : Ev tb σ H (.int t)) (k : Out A H Q E' (.lot n (g n t xs))) :
    tOpS (rOwnI A.C_Lot (spLotI A g) E) (tVar i) tb σ H Q := en_lotI (er_var hv hL) hj H (Ex.refl H) Q fun w H2 e2 hw => k w H2 e2 hw
theorem c_one {A : Ads} {g : Int → List Int → List Int} {Q : VK} {E : L2.St → XK} {E' : XK} {σ : L2.St} {H : Hp} {i : Nat} {v : V} {n : Int} {xs : List Int} (hv : σ[i]? = some (some v)) (hL : LotIs A.C_Lot v H n xs) (k : Out A H Q E' (.lot n (g n xs))) :
    tUnS (rOwn1 A.C_Lot (spLot1 A g) E) (tVar i) σ H Q := en_lot1 (er_var hv hL) H (Ex.refl H) Q fun w H2 e2 hw => k w H2 e2 hw
theorem c_opR {A : Ads} {f : Int → Int → List Int → Res} {Q : VK} {E : L2.St → XK} {σ : L2.St} {H : Hp} {i : Nat} {ta : TE} {v : V} {n t : Int} {xs : List Int} (ha : Ev ta σ H (.int t)) (hv : σ[i]? = some (some v)) (hL : LotIs A.C_Lot v H n xs) (k : Out A H Q (E σ) (f n t xs)) :
    tOpS (rOwnR A.C_Lot (spOpI A f) E) ta (tVar i) σ H Q := ha H (Ex.refl H) _ fun H1 e1 => ⟨v, hv, by
  have h1 := hL.ex e1
  obtain ⟨a, dx, l, rfl, g1, _⟩ := id h1.at_
  exact ⟨a, dx, _, t, rfl, g1, rfl, .ref a, n, t, xs, rfl, h1, k.mono e1⟩⟩
theorem ok_u_law_done (T : Txt K mg A) : FnOk P w K mg base (L2.CX P w) 11 A.f_u_law_done A.d_u_law_done (["lot", "n", "kind", "number"] : List Str) (spDone A) := by
  refine T.F_u_law_done.okX sc_u_law_done (fun vs H Q E h => ?_) (fun cdv Ar outer s H vs Q E hr h => ?_)
  · obtain ⟨v, n, kd, k, xs, r, rfl, _⟩ := h
    rfl
  · obtain ⟨v, n, kd, kk, xs, r, rfl, hL, hn, hd, k⟩ := h
    refine ⟨_, (pss_cons (ps_if (pt_cmpR op_eq (pv 2) pe_int (nomark _)) (pss_one (ps_ret (pe_opS (op_ownJ (op := .LShift) (E := fun _ => E0) T.op_Lot T.D_Lot_lshift T.I_Lot_lshift (ok_Lot_lshift T) (hr.mono (by omega)) (b_Lot_lshift T) (pAt pass0)) (pv 0) (pe_call (ok_u_law_shift T) (hr.mono (by omega)) rfl T.g_u_law_shift T.k_u_law_shift (b_u_law_shift T) .nil pass0 (pa_cons (pv 3) pa_nil))))) pss_nil)
        (pss_cons (ps_if (pt_cmpR op_eq (pv 2) pe_int (nomark _)) (pss_one (ps_ret (pe_opS (op_ownJ (op := .RShift) (E := fun _ => E0) T.op_Lot T.D_Lot_rshift T.I_Lot_rshift (ok_Lot_rshift T) (hr.mono (by omega)) (b_Lot_rshift T) (pAt pass0)) (pv 0) (pe_call (ok_u_law_shift T) (hr.mono (by omega)) rfl T.g_u_law_shift T.k_u_law_shift (b_u_law_shift T) .nil pass0 (pa_cons (pv 3) pa_nil))))) pss_nil)
        (pss_cons (ps_if (pt_cmpR op_eq (pv 2) pe_int (nomark _)) (pss_one (ps_ret (pe_unS (un_negO (E := fun _ => E0) T.M_Lot_neg (ok_Lot_neg T) (hr.mono (by omega)) (b_Lot_neg T) (pAt pass0)) (pv 0)))) pss_nil)
        (pss_cons (ps_if (pt_cmpR op_eq (pv 2) pe_int (nomark _)) (pss_one (ps_ret (pe_unS (un_invO (E := fun _ => E0) T.M_Lot_invert (ok_Lot_invert T) (hr.mono (by omega)) (b_Lot_invert T) (pAt pass0)) (pv 0)))) pss_nil)
        (pss_cons (ps_if (PW.pt (pw_and (pt_cmpR op_eq (pv 2) pe_int (nomark _)) (pw_and1 (pt_cmpR op_eq (pe_op op_mod (pe_callTy call_int1 (by rfl) T.z_int (by decide +kernel) (pa_cons (pv 3) pa_nil)) pe_int) pe_int (nomark _))))) (pss_one (ps_ret (pe_opS (op_ownJ (op := .Mult) (E := fun _ => E) T.op_Lot T.D_Lot_mul T.I_Lot_mul (ok_Lot_mul T) (hr.mono (by omega)) (b_Lot_mul T) (pAt (passes_call (takes_of rfl rfl rfl rfl) (fun _ _ _ _ h => h)))) (pv 0) (pe_call (ok_u_law_factor T) (hr.mono (by omega)) rfl T.g_u_law_factor T.k_u_law_factor (b_u_law_factor T) .nil pass0 (pa_cons (pv 1) (pa_cons (pv 3) pa_nil)))))) pss_nil)
        (pss_cons (ps_if (pt_cmpR op_eq (pv 2) pe_int (nomark _)) (pss_one (ps_ret (pe_opS (op_ownR (op := .Mult) (E := fun _ => E) T.op_Lot T.li_Lot T.D_Lot_mul T.R_Lot_mul side_mul (ok_Lot_rmul T) (hr.mono (by omega)) (b_Lot_rmul T) (pAt (passes_call (takes_of rfl rfl rfl rfl) (fun _ _ _ _ h => h)))) (pe_call (ok_u_law_factor T) (hr.mono (by omega)) rfl T.g_u_law_factor T.k_u_law_factor (b_u_law_factor T) .nil pass0 (pa_cons (pv 1) (pa_cons (pv 3) pa_nil))) (pv 0)))) pss_nil)
        (pss_cons (ps_if (PW.pt (pw_and (pt_cmpR op_eq (pv 2) pe_int (nomark _)) (pw_and1 (pt_cmpR op_eq (pe_op op_mod (pe_callTy call_int1 (by rfl) T.z_int (by decide +kernel) (pa_cons (pv 3) pa_nil)) pe_int) pe_int (nomark _))))) (pss_one (ps_ret (pe_opS (op_ownJ (op := .Pow) (E := fun _ => E) T.op_Lot T.D_Lot_pow T.I_Lot_pow (ok_Lot_pow T) (hr.mono (by omega)) (b_Lot_pow T) (pAt (passes_call (takes_of rfl rfl rfl rfl) (fun _ _ _ _ h => h)))) (pv 0) pe_int))) pss_nil)
        (pss_cons (ps_if (pt_cmpR op_eq (pv 2) pe_int (nomark _)) (pss_one (ps_ret (pe_opS (op_ownJ (op := .Pow) (E := fun _ => E) T.op_Lot T.D_Lot_pow T.I_Lot_pow (ok_Lot_pow T) (hr.mono (by omega)) (b_Lot_pow T) (pAt (passes_call (takes_of rfl rfl rfl rfl) (fun _ _ _ _ h => h)))) (pv 0) pe_int))) pss_nil)
        (pss_one (ps_ret (pe_opS (op_ownJ (op := .Mod) (E := fun _ => E) T.op_Lot T.D_Lot_mod T.I_Lot_mod (ok_Lot_mod T) (hr.mono (by omega)) (b_Lot_mod T) (pAt (passes_call (takes_of rfl rfl rfl rfl) (fun _ _ _ _ h => h)))) (pv 0) (pe_call (ok_u_law_part T) (hr.mono (by omega)) rfl T.g_u_law_part T.k_u_law_part (b_u_law_part T) .nil pass0 (pa_cons (pv 1) (pa_cons (pv 3) pa_nil)))))))))))))), ?_⟩
    have hn1 := hL.hn
    have hA := hL.asc
    have par : kk % 2 = 0 ∨ kk % 2 = 1 := by omega
    have isK : ∀ {c d : Int} {b : Bool} {G : Hp}, kd = c → decide (c = d) = b → EvT (tTest (tOp rEq (tVar 2) (tC (.int d)))) [some v, some (.int n), some (.int kd), some (.int kk)] G b := fun hc hb => et_test (ev_is (ev_op (ev_var (i := 2) rfl) ev_c (rv_eq rfl)) (by rw [dec_ii, hc, hb]))
    have isP : ∀ {b : Bool} {G : Hp}, decide (kk % 2 = 0) = b → EvT (tTest (tOp rEq (tOp (rI (fun _ j => 0 < j) fun i j => V.int (i % j)) (tCB (fun xs H Q => (∃ i, xs = [V.int i] ∧ Q (V.int i) H) ∨ ∃ k, xs = [V.bl k] ∧ Q (V.int (if k = true then 1 else 0)) H) (tCons (tVar 3) tNil)) (tC (.int 2))) (tC (.int 0)))) [some v, some (.int n), some (.int kd), some (.int kk)] G b := fun hb => et_test (ev_is (ev_op (ev_op (ev_int (ev_var (i := 3) rfl)) ev_c (rv_I (show (0 : Int) < 2 by decide))) ev_c (rv_eq rfl)) (by rw [dec_ii, hb]))
    
    cases hd with
    | left =>
      try dsimp only
      exact q_take (isK rfl rfl) fun H1 e1 => c_turn (i := 0) rfl (hL.ex e1) (ev_shf (ev_var (i := 3) rfl)) (k.mono e1)
    | right =>
    
      try dsimp only
      refine q_skip (isK rfl rfl) fun H1 e1 => ?_
      replace hL := hL.ex e1
      replace k := k.mono e1
      try dsimp only
    
      exact q_take (isK rfl rfl) fun H1 e1 => c_turn (i := 0) rfl (hL.ex e1) (ev_shf (ev_var (i := 3) rfl)) (k.mono e1)
    | minus =>
    
      try dsimp only
      refine q_skip (isK rfl rfl) fun H1 e1 => ?_
      replace hL := hL.ex e1
      replace k := k.mono e1
      try dsimp only
    
      try dsimp only
      refine q_skip (isK rfl rfl) fun H1 e1 => ?_
      replace hL := hL.ex e1
      replace k := k.mono e1
      try dsimp only
    
      exact q_take (isK rfl rfl) fun H1 e1 => c_one (i := 0) rfl (hL.ex e1) (k.mono e1)
    | others =>
    
      try dsimp only
      refine q_skip (isK rfl rfl) fun H1 e1 => ?_
      replace hL := hL.ex e1
      replace k := k.mono e1
      try dsimp only
    
      try dsimp only
      refine q_skip (isK rfl rfl) fun H1 e1 => ?_
      replace hL := hL.ex e1
      replace k := k.mono e1
      try dsimp only
    
      try dsimp only
      refine q_skip (isK rfl rfl) fun H1 e1 => ?_
      replace hL := hL.ex e1
      replace k := k.mono e1
      try dsimp only
    
      exact q_take (isK rfl rfl) fun H1 e1 => c_one (i := 0) rfl (hL.ex e1) (k.mono e1)
    | times =>
      have hu := unit_fac (n := n) (k := kk) hn1.1
      rw [← once_lot (nodup_unit (by omega) hu hA)] at k
    
      try dsimp only
      refine q_skip (isK rfl rfl) fun H1 e1 => ?_
      replace hL := hL.ex e1
      replace k := k.mono e1
      try dsimp only
    
      try dsimp only
      refine q_skip (isK rfl rfl) fun H1 e1 => ?_
      replace hL := hL.ex e1
      replace k := k.mono e1
      try dsimp only
    
      try dsimp only
      refine q_skip (isK rfl rfl) fun H1 e1 => ?_
      replace hL := hL.ex e1
      replace k := k.mono e1
      try dsimp only
    
      try dsimp only
      refine q_skip (isK rfl rfl) fun H1 e1 => ?_
      replace hL := hL.ex e1
      replace k := k.mono e1
      try dsimp only
    
      rcases par with hp | hp
      · exact q_take (et_andT (isK rfl rfl) (isP (decide_eq_true hp))) fun H1 e1 => c_opI (f := mulRes) (i := 0) rfl (hL.ex e1) (ev_fac (ev_var (i := 1) rfl) (ev_var (i := 3) rfl) ⟨hn1.1, hn⟩) (k.mono e1)
      · refine q_skip (et_andT (isK rfl rfl) (isP (decide_eq_false (by omega)))) fun H1 e1 => ?_
        replace hL := hL.ex e1
        replace k := k.mono e1
        try dsimp only
        exact q_take (isK rfl rfl) fun H1 e1 => c_opR (f := mulRes) (i := 0) (ev_fac (ev_var (i := 1) rfl) (ev_var (i := 3) rfl) ⟨hn1.1, hn⟩) rfl (hL.ex e1) (k.mono e1)
    | copies hc =>
    
      try dsimp only
      refine q_skip (isK rfl rfl) fun H1 e1 => ?_
      replace hL := hL.ex e1
      replace k := k.mono e1
      try dsimp only
    
      try dsimp only
      refine q_skip (isK rfl rfl) fun H1 e1 => ?_
      replace hL := hL.ex e1
      replace k := k.mono e1
      try dsimp only
    
      try dsimp only
      refine q_skip (isK rfl rfl) fun H1 e1 => ?_
      replace hL := hL.ex e1
      replace k := k.mono e1
      try dsimp only
    
      try dsimp only
      refine q_skip (isK rfl rfl) fun H1 e1 => ?_
      replace hL := hL.ex e1
      replace k := k.mono e1
      try dsimp only
    
      refine q_skip (et_andF (isK rfl rfl)) fun H1 e1 => ?_
      replace hL := hL.ex e1
      replace k := k.mono e1
    
      try dsimp only
      refine q_skip (isK rfl rfl) fun H1 e1 => ?_
      replace hL := hL.ex e1
      replace k := k.mono e1
      try dsimp only
    
      have pw : ∀ t : Int, 1 ≤ t → n * t ≤ 60 → powRes n t xs = .lot (n * t) (laps n t.toNat xs) := fun t h1 h2 => by
        unfold powRes
        rw [if_neg (by omega), if_neg (by omega)]
      rw [← pw _ (by omega) hc] at k
      rcases par with hp | hp
      · rw [hp] at k
        exact q_take (et_andT (isK rfl rfl) (isP (decide_eq_true hp))) fun H1 e1 => c_opI (f := powRes) (i := 0) rfl (hL.ex e1) ev_c (k.mono e1)
      · rw [hp] at k
        refine q_skip (et_andT (isK rfl rfl) (isP (decide_eq_false (by omega)))) fun H1 e1 => ?_
        replace hL := hL.ex e1
        replace k := k.mono e1
        try dsimp only
        exact q_take (isK rfl rfl) fun H1 e1 => c_opI (f := powRes) (i := 0) rfl (hL.ex e1) ev_c (k.mono e1)
    | part =>
      have hp := part_in (n := n) (k := kk) hn1.1
    
      try dsimp only
      refine q_skip (isK rfl rfl) fun H1 e1 => ?_
      replace hL := hL.ex e1
      replace k := k.mono e1
      try dsimp only
    
      try dsimp only
      refine q_skip (isK rfl rfl) fun H1 e1 => ?_
      replace hL := hL.ex e1
      replace k := k.mono e1
      try dsimp only
    
      try dsimp only
      refine q_skip (isK rfl rfl) fun H1 e1 => ?_
      replace hL := hL.ex e1
      replace k := k.mono e1
      try dsimp only
    
      try dsimp only
      refine q_skip (isK rfl rfl) fun H1 e1 => ?_
      replace hL := hL.ex e1
      replace k := k.mono e1
      try dsimp only
    
      refine q_skip (et_andF (isK rfl rfl)) fun H1 e1 => ?_
      replace hL := hL.ex e1
      replace k := k.mono e1
    
      try dsimp only
      refine q_skip (isK rfl rfl) fun H1 e1 => ?_
      replace hL := hL.ex e1
      replace k := k.mono e1
      try dsimp only
    
      refine q_skip (et_andF (isK rfl rfl)) fun H1 e1 => ?_
      replace hL := hL.ex e1
      replace k := k.mono e1
    
      try dsimp only
      refine q_skip (isK rfl rfl) fun H1 e1 => ?_
      replace hL := hL.ex e1
      replace k := k.mono e1
      try dsimp only
    
      have em : modRes n (atR (divs n) kk) xs = once (atR (divs n) kk) (xs.map (· % atR (divs n) kk)) := if_neg (by omega)
      rw [← em] at k
      exact c_opI (f := modRes) (i := 0) rfl hL (ev_part (ev_var (i := 1) rfl) (ev_var (i := 3) rfl) ⟨hn1.1, hn⟩) k

theorem ev_xf {σ : L2.St} {H : Hp} {te : TE} {a C dd : Addr} {f : Str} {fs : List (Str × V)} {v : V} (h : Ev te σ H (.ref a)) (hx : H dd = some (.xd fs)) (hl : fs.lookup f = some v) : Ev (tXf a (.ref C) (some dd) C f te) σ H v := fun H1 e Q q => h H1 e _ fun H2 e2 => ⟨rfl, rfl, dd, fs, v, rfl, (e.trans e2) _ _ hx, hl, q H2 e2⟩
def Res.data : Res → PyData
  | .meets h => .tuple [.str "Meets", .int (h : Int)]
  | .other => .tuple [.str "OtherHours"]
  | .notdiv m => .tuple [.str "NotADivisor", .int m]
  | .bad nm z => .tuple [.str "BadNumber", .str nm, .int z]
  | .lot _ _ => .none
def ToldIs (K : PySem.W.Frag) (A : Ads) (H : Hp) (v : V) : Res → Prop
  | .meets h => Dp K H v (Res.meets h).data
  | .other => Dp K H v Res.other.data
  | .notdiv m => Dp K H v (Res.notdiv m).data
  | .bad nm z => Dp K H v (Res.bad nm z).data
  | .lot n xs => LotIs A.C_Lot v H n xs
theorem ToldIs.ex {K : PySem.W.Frag} {A : Ads} {H H' : Hp} {v : V} {r : Res} (e : Ex H H') (h : ToldIs K A H v r) : ToldIs K A H' v r := by
  cases r with
  | lot n xs => exact LotIs.ex e h
  | meets _ => exact dp_ex e h
  | other => exact dp_ex e h
  | notdiv _ => exact dp_ex e h
  | bad _ _ => exact dp_ex e h

theorem add_calm {n : Int} {xs ys : List Int} : (∃ h, addRes n n xs ys = .meets h) ∨ ∃ m zs, addRes n n xs ys = .lot m zs := by
  unfold addRes once
  rw [if_pos rfl]
  split
  · exact .inl ⟨_, rfl⟩
  · exact .inr ⟨_, _, rfl⟩
def spSum (K : PySem.W.Frag) (A : Ads) : Sp := fun vs H Q _ => ∃ (v w : V) (n : Int) (xs ys : List Int), vs = [v, w] ∧ LotIs A.C_Lot v H n xs ∧ LotIs A.C_Lot w H n ys ∧ ∀ z H', Ex H H' → ToldIs K A H' z (addRes n n xs ys) → Q z H' 
theorem ok_u_law_sum (T : Txt K mg A) : FnOk P w K mg base CX0 10 A.f_u_law_sum A.d_u_law_sum (["one", "two"] : List Str) (spSum K A) := by
  refine T.F_u_law_sum.ok sc_u_law_sum (fun vs H Q E h => ?_) (fun cdv Ar outer s H vs Q E hr h => ?_)
  · obtain ⟨v, w, n, xs, ys, rfl, _⟩ := h
    rfl
  · obtain ⟨v, w, n, xs, ys, rfl, hL, hM, k⟩ := h
    refine ⟨_, (pss_cons (ps_set (i := 2) sc_u_law_sum.nd rfl (Or.inl rfl) pe_non)
        (pss_cons (ps_try_as (i := 3) (Wout := fun _ _ _ _ => False) rfl rfl sc_u_law_sum.nd rfl rfl ⟨rfl, by decide, Or.inl T.g_Meets⟩ takes0 (fun W pn xe tk _ => (pss_one (ps_set (i := 2) sc_u_law_sum.nd rfl (Or.inl rfl) (pe_opS (op_own2 (op := .Add) (E := WE W) T.op_Lot T.D_Lot_add (ok_Lot_add T) (hr.mono (by omega)) (b_Lot_add T) (fun σ => passAt tk σ)) (pv 0) (pv 1))))) (fun a oe cls dd pn hz hf => (pss_one (ps_set (i := 2) sc_u_law_sum.nd rfl (Or.inl rfl) (pe_tup (pa_cons pe_str (pa_cons (pe_xf T.xf_Meets T.nf_Meets_hour hz hf (pv 3)) pa_nil)))))))
        (pss_one (ps_ret (pv 2))))), ?_⟩
    have hc := add_calm (n := n) (xs := xs) (ys := ys)
    try dsimp only
    refine q_asg (v := .non) ev_c fun H1 e1 => ?_
    refine c_opL (i := 0) (j := 1) rfl rfl (hL.ex e1) (hM.ex e1) ?_
    generalize addRes n n xs ys = r at *
    rcases hc with ⟨h, rfl⟩ | ⟨m, zs, rfl⟩
    · intro d H' e hd
      refine ⟨true, T.xm_Meets_Meets, fun _ a ha => ?_, fun z => Bool.noConfusion z⟩
      refine s_asgR (ed_tup (K := K) (ds := [.str "Meets", .int (h : Int)]) (eds_cons (ed_str ev_c) (eds_cons (ed_int (ev_xf (ev_var (i := 3) rfl) hd rfl)) eds_nil)) (by show 2 ≤ 1000; decide)) fun w H5 e5 hw => ?_
      exact ⟨_, rfl, k w H5 (e1.trans (e.trans e5)) hw⟩
    · intro z H' e hz
      exact ⟨_, rfl, k z H' (e1.trans e) hz.self⟩

def spTold (K : PySem.W.Frag) (A : Ads) : Sp := fun vs H Q _ => ∃ (v : V) (n kd k : Int) (xs : List Int) (r : Res), vs = [v, .int n, .int kd, .int k] ∧ LotIs A.C_Lot v H n xs ∧ n ≤ 60 ∧ Deed n k xs kd r ∧ ∀ z H', Ex H H' → ToldIs K A H' z r → Q z H'
theorem er_told {K : PySem.W.Frag} {A : Ads} {E : XK} {σ : L2.St} {H : Hp} {t1 t2 t3 t4 : TE} {v : V} {n kd k : Int} {xs : List Int} {r : Res} (h1 : Ev t1 σ H v) (h2 : Ev t2 σ H (.int n)) (h3 : Ev t3 σ H (.int kd)) (h4 : Ev t4 σ H (.int k)) (hL : LotIs A.C_Lot v H n xs) (hn : n ≤ 60) (hd : Deed n k xs kd r) :
    EvR (tCall (spTold K A) [] E (tCons t1 (tCons t2 (tCons t3 (tCons t4 tNil))))) σ H fun z H1 => ToldIs K A H1 z r :=
  er_call (ea_cons h1 (ea_cons h2 (ea_cons h3 (ea_cons h4 ea_nil)))) fun H1 e Q q => ⟨v, n, kd, k, xs, r, rfl, hL.ex e, hn, hd, fun z H' e' hz => q z H' e' hz⟩
theorem er_sum {K : PySem.W.Frag} {A : Ads} {E : XK} {σ : L2.St} {H : Hp} {t1 t2 : TE} {v w : V} {n : Int} {xs ys : List Int} (h1 : Ev t1 σ H v) (h2 : Ev t2 σ H w) (hL : LotIs A.C_Lot v H n xs) (hM : LotIs A.C_Lot w H n ys) :
    EvR (tCall (spSum K A) [] E (tCons t1 (tCons t2 tNil))) σ H fun z H1 => ToldIs K A H1 z (addRes n n xs ys) :=
  er_call (ea_cons h1 (ea_cons h2 ea_nil)) fun H1 e Q q => ⟨v, w, n, xs, ys, rfl, hL.ex e, hM.ex e, fun z H' e' hz => q z H' e' hz⟩
theorem ok_u_law_told (T : Txt K mg A) : FnOk P w K mg base CX0 12 A.f_u_law_told A.d_u_law_told (["lot", "n", "kind", "number"] : List Str) (spTold K A) := by
  refine T.F_u_law_told.ok sc_u_law_told (fun vs H Q E h => ?_) (fun cdv Ar outer s H vs Q E hr h => ?_)
  · obtain ⟨v, n, kd, k, xs, r, rfl, _⟩ := h
    rfl
  · obtain ⟨v, n, kd, kk, xs, r, rfl, hL, hn, hd, k⟩ := h
    refine ⟨_, (pss_cons (ps_set (i := 4) sc_u_law_told.nd rfl (Or.inl rfl) pe_non)
        (pss_cons (ps_try_as (i := 5) (Wout := fun _ _ _ _ => False) rfl rfl sc_u_law_told.nd rfl rfl ⟨rfl, by decide, Or.inl T.g_Meets⟩ takes0 (fun W pn xe tk _ => (pss_one (ps_set (i := 4) sc_u_law_told.nd rfl (Or.inl rfl) (pe_callS (ok_u_law_done T) (hr.mono (by omega)) rfl T.g_u_law_done T.k_u_law_done (b_u_law_done T) (fun σ => passAt tk σ) (pa_cons (pv 0) (pa_cons (pv 1) (pa_cons (pv 2) (pa_cons (pv 3) pa_nil)))))))) (fun a oe cls dd pn hz hf => (pss_one (ps_set (i := 4) sc_u_law_told.nd rfl (Or.inl rfl) (pe_tup (pa_cons pe_str (pa_cons (pe_xf T.xf_Meets T.nf_Meets_hour hz hf (pv 5)) pa_nil)))))))
        (pss_one (ps_ret (pv 4))))), ?_⟩
    have hc := deed_calm hd
    try dsimp only
    refine q_asg (v := .non) ev_c fun H1 e1 => ?_
    refine ⟨_, rfl, _, rfl, _, rfl, _, rfl, v, n, kd, kk, xs, r, rfl, hL.ex e1, hn, hd, ?_⟩
    rcases hc with ⟨h, rfl⟩ | ⟨m, zs, rfl⟩
    · intro d H' e hd
      refine ⟨true, T.xm_Meets_Meets, fun _ a ha => ?_, fun z => Bool.noConfusion z⟩
      refine s_asgR (ed_tup (K := K) (ds := [.str "Meets", .int (h : Int)]) (eds_cons (ed_str ev_c) (eds_cons (ed_int (ev_xf (ev_var (i := 5) rfl) hd rfl)) eds_nil)) (by show 2 ≤ 1000; decide)) fun w H5 e5 hw => ?_
      exact ⟨_, rfl, k w H5 (e1.trans (e.trans e5)) hw⟩
    · intro z H' e hz
      exact ⟨_, rfl, k z H' (e1.trans e) hz.self⟩

theorem el_catV {ta tb : TE} {σ : L2.St} {H : Hp} {xs ys : List V} {a : Addr} (h1 : Ev ta σ H (.ref a)) (ha : H a = some (.lst xs)) (h2 : EvL tb σ H ys) (hz : xs.length + ys.length ≤ 100000) : EvL (tOp rCat ta tb) σ H (xs ++ ys) := fun H1 e Q q =>
  h1 H1 e _ fun H2 e2 => h2 H2 (e.trans e2) _ fun b H3 hb e3 g3 => ⟨a, b, xs, ys, rfl, rfl, e3 _ _ (e2 _ _ (e _ _ ha)), g3, sz_of hz, fun p hp => q p _ (fresh_back (e2.trans e3) hp) ((e2.trans e3).trans (Ex.new hp)) upd_same⟩

def spCopied (K : PySem.W.Frag) : Sp := fun vs H Q _ => ∃ (a b : Addr) (n t : Int) (xs : List Int), vs = [.ref a, .ref b, .int n, .int t] ∧ SqL K H a (xs.map V.int) ∧ SqL K H b ((difL n xs).map V.int) ∧ (1 ≤ n ∧ n ≤ 60) ∧ Asc 0 n xs ∧ (2 ≤ t ∧ t ≤ 3) ∧ n * t ≤ 60 ∧
  ∀ p a b H', Ex H H' → H' p = some (.tup [.int (n * t), .ref a, .ref b]) → H' a = some (.lst ((laps n t.toNat xs).map V.int)) → H' b = some (.lst ((difL (n * t) (laps n t.toNat xs)).map V.int)) → Q (.ref p) H' 
theorem ok_u_law_copied_due (T : Txt K mg A) : FnOk P w K mg base CX0 1 A.f_u_law_copied_due A.d_u_law_copied_due (["members", "counts", "n", "times"] : List Str) (spCopied K) := by
  refine T.F_u_law_copied_due.ok sc_u_law_copied_due (fun vs H Q E h => ?_) (fun cdv Ar outer s H vs Q E hr h => ?_)
  · obtain ⟨a, b, n, t, xs, rfl, _⟩ := h
    rfl
  · obtain ⟨a, b, n, t, xs, rfl, hx, hc, hn, hA, ht, hnt, k⟩ := h
    refine ⟨_, (pss_cons (ps_set (i := 4) sc_u_law_copied_due.nd rfl (Or.inl rfl) (pe_lst pa_nil))
        (pss_cons (ps_for PassesOwn.never rfl (pi_range1 rfl T.z_range (pa_cons (pv 3) pa_nil)) (pg_name (i := 5) sc_u_law_copied_due.nd rfl (Or.inr rfl)) (pss_one (ps_set (i := 4) sc_u_law_copied_due.nd rfl (Or.inl rfl) (pe_op op_cat (pv 4) (pe_lc (own := [("h", 6)]) (g := gName 6) (tt := tYes) rfl sc_u_law_copied_due.nd (pi_listK (pv 0)) (blkOk_by (own := [("h", 6)]) (N := N_u_law_copied_due) (sc := defScope s_u_law_copied_due) (by decide +kernel)) (fun _ _ _ _ _ => (pg_name (i := 6) sc_u_law_copied_due.nd rfl (Or.inl rfl))) (fun _ _ _ _ _ => pts_nil) (fun _ _ _ _ _ => (pe_op op_add (pv 6) (pe_op op_mul (pv 5) (pv 2)))))))))
        (pss_one (ps_ret (pe_tup (pa_cons (pe_op op_mul (pv 2) (pv 3)) (pa_cons (pv 4) (pa_cons (pe_lc (own := [("d", 7)]) (g := gName 7) (tt := tYes) rfl sc_u_law_copied_due.nd (pi_range1 rfl T.z_range (pa_cons (pe_op op_mul (pv 2) (pv 3)) pa_nil)) (blkOk_by (own := [("d", 7)]) (N := N_u_law_copied_due) (sc := defScope s_u_law_copied_due) (by decide +kernel)) (fun _ _ _ _ _ => (pg_name (i := 7) sc_u_law_copied_due.nd rfl (Or.inl rfl))) (fun _ _ _ _ _ => pts_nil) (fun _ _ _ _ _ => (pe_op op_mul (pv 3) (pe_ix ix_lK (pv 1) (pe_op op_mod (pe_callTy call_int1 (by rfl) T.z_int (by decide +kernel) (pa_cons (pv 7) pa_nil)) (pv 2)) (fun _ _ => rfl))))) pa_nil)))))))), ?_⟩
    have hxl := hA.len
    have cm : CMul n t := .inl ⟨by omega, by omega⟩
    try dsimp only
    refine q_asgL (xs := []) (el_lst ea_nil (by decide)) fun f H3 hf e3 h3 => ?_
    have hl : ∀ i : Nat, (laps n i xs).length = i * xs.length := fun i => by
      induction i with
      | zero => simp [laps]
      | succ i ih => rw [laps_succ, List.length_append, ih, List.length_map, Nat.succ_mul]
    try dsimp only
    refine q_forR1 (j := 5) (n := t) (ea_cons (ev_var (i := 3) rfl) ea_nil) (by omega)
      (fun i σ' H' => ∃ (f : Addr) (ov : Option V), σ' = [some (.ref a), some (.ref b), some (.int n), some (.int t), some (.ref f), ov, none, none] ∧ Ex H H' ∧ H' f = some (.lst ((laps n i xs).map V.int))) (fun H4 e4 => ⟨f, none, rfl, e3.trans e4, by rw [e4 _ _ h3]; rfl⟩) ?_ ?_
    · rintro i σ' H' hi ⟨f, ov, rfl, ex, hf⟩
      have lc := el_mapA (K := K) (j := 6) (vs := [6]) (te := tOp (rI0 fun i j => V.int (i + j)) (tVar 6) (tOp (rI CMul fun i j => V.int (i * j)) (tVar 5) (tVar 2))) (tl := tVar 0)
        (σ := [some (.ref a), some (.ref b), some (.int n), some (.int t), some (.ref f), some (.int (i : Int)), none, none]) (H := H') xs (fun x => x + (i : Int) * n) (ev_var (i := 0) rfl) (ex_l ex hx) (by omega) (fun x => rfl) (fun x H3 _ hx => ev_op (ev_var (i := 6) rfl) (ev_op (ev_var (i := 5) rfl) (ev_var (i := 2) rfl) (rv_I (show CMul (i : Int) n from .inl ⟨by omega, by omega⟩))) rv_I0)
      try dsimp only
      refine s_asgL (el_catV (ev_var (i := 4) rfl) hf lc ?_) fun q H4 hq e4 h4 => ⟨q, _, rfl, ex.trans e4, by rw [h4, laps_succ, List.map_append]⟩
      rw [List.length_map, List.length_map, List.length_map, hl]
      have := Nat.mul_le_mul (show i ≤ 3 by omega) (show xs.length ≤ 60 by omega)
      omega
    rintro σ' H' ⟨f, ov, rfl, ex, hf⟩
    have nt0 : 0 < n * t := Int.mul_pos (by omega) (by omega)
    have lc := el_rng1 (σ := [some (.ref a), some (.ref b), some (.int n), some (.int t), some (.ref f), ov, none, none]) (H := H') (tt := tYes) (ta := tCons (tOp (rI CMul fun i j => V.int (i * j)) (tVar 2) (tVar 3)) tNil) (j := 7) (vs := [7])
      (te := tOp (rI CMul fun i j => V.int (i * j)) (tVar 3) (tOp (rIxL K) (tVar 1) (tOp (rI (fun _ j => 0 < j) fun i j => V.int (i % j)) (tCB (fun xs H Q => (∃ i, xs = [V.int i] ∧ Q (V.int i) H) ∨ ∃ k, xs = [V.bl k] ∧ Q (V.int (if k = true then 1 else 0)) H) (tCons (tVar 7) tNil)) (tVar 2))))
      (fun _ => true) (fun d => V.int (dif (n * t) (laps n t.toNat xs) (d : Int))) (ea_cons (ev_op (ev_var (i := 2) rfl) (ev_var (i := 3) rfl) (rv_I cm)) ea_nil) (by omega) (fun x => rfl) (fun j H1 _ _ => yes_T) (fun j H1 e1 hj _ => by
        have m0 : 0 ≤ (j : Int) % n := Int.emod_nonneg _ (by omega)
        have m1 : (j : Int) % n < n := Int.emod_lt_of_pos _ (by omega)
        obtain ⟨d, hd⟩ : ∃ d : Nat, (j : Int) % n = (d : Int) := ⟨((j : Int) % n).toNat, by omega⟩
        have ed := dif_laps (n := n) (d := (j : Int)) (t := t.toNat) (xs := xs) (by omega) (by omega) (by rw [show ((t.toNat : Nat) : Int) = t by omega]; omega)
        rw [show ((t.toNat : Nat) : Int) = t by omega] at ed
        exact ev_is (ev_op (ev_var (i := 3) rfl) (ev_op (ev_var (i := 1) rfl) (ev_op (ev_int (ev_var (i := 7) rfl)) (ev_var (i := 2) rfl) (rv_I (show (0 : Int) < n by omega))) (rv_ixL (ex_l (ex.trans e1) hc) (by rw [hd]; exact atI_nat (by rw [List.getElem?_map, difL_get (by omega)]; rfl)))) (rv_I (show CMul t _ from .inl ⟨by omega, by omega⟩))) (by rw [ed, hd]))
    rw [given_all] at lc
    have em : ((List.range (n * t).toNat).map fun d : Nat => V.int (dif (n * t) (laps n t.toNat xs) (d : Int))) = (difL (n * t) (laps n t.toNat xs)).map V.int := by
      unfold difL
      rw [List.map_map]
      rfl
    rw [em] at lc
    try dsimp only
    exact s_retIVL (ev_op (ev_var (i := 2) rfl) (ev_var (i := 3) rfl) (rv_I cm)) (ev_var (i := 4) rfl) hf lc fun p a b H4 e4 => k p a b H4 (ex.trans e4)

def DueT (K : PySem.W.Frag) (H : Hp) (v : V) : Res → Prop
  | .meets h => Dp K H v (Res.meets h).data
  | .lot m ys => ∃ (p a b : Addr), v = .ref p ∧ H p = some (.tup [.int m, .ref a, .ref b]) ∧ H a = some (.lst (ys.map V.int)) ∧ H b = some (.lst ((difL m ys).map V.int))
  | _ => False
def twiceL (n : Int) (rs : List Int) : List Int := hrs n fun z => decide (1 < many rs z.toNat)
theorem twice_cases (n : Int) (rs : List Int) : (meetR n rs = none ∧ twiceL n rs = []) ∨ ∃ (h : Nat) (t : List Int), meetR n rs = some h ∧ twiceL n rs = (h : Int) :: t := by
  have e : twiceL n rs = ((List.range n.toNat).filter fun d => decide (1 < many rs d)).map fun h : Nat => (h : Int) := by
    unfold twiceL hrs pick
    congr 1
  have hf : ((List.range n.toNat).filter fun d => decide (1 < many rs d)).head? = meetR n rs := List.head?_filter
  rw [e]
  cases h : (List.range n.toNat).filter fun d => decide (1 < many rs d) with
  | nil => rw [h] at hf; exact .inl ⟨hf.symm, rfl⟩
  | cons x t => rw [h] at hf; exact .inr ⟨x, _, hf.symm, rfl⟩
theorem el_twice {K : PySem.W.Frag} {σ : L2.St} {H : Hp} {ta : TA} {j m : Nat} {p : Addr} {n : Int} {rs : List Int} (h : EvA ta σ H [.int n]) (hn : 1 ≤ n ∧ n ≤ 360) (hw : ∀ x, wipe ((wipe σ [j]).set j (some x)) [j] = wipe σ [j]) (hm : ∀ x, ((wipe σ [j]).set j (some x))[m]? = some (some (.ref p))) (hj : ∀ x, ((wipe σ [j]).set j (some x))[j]? = some (some x)) (hp : SqL K H p ((cntR n rs).map V.int)) :
    EvL (tLc (iRng1 ta) (gName j) (tTest (tOp (rI0 fun i j => V.bl (decide (j < i))) (tOp (rIxL K) (tVar m) (tVar j)) (tC (.int 1)))) (tVar j) [j]) σ H ((twiceL n rs).map V.int) :=
  el_marks (K := K) (j := j) (vs := [j]) (fun z => decide (1 < many rs z.toNat)) h hn hw (fun z G e z0 z1 => by
    obtain ⟨d, rfl⟩ : ∃ d : Nat, z = (d : Int) := ⟨z.toNat, by omega⟩
    have hd : d < n.toNat := by omega
    exact et_is (et_test (ev_op (ev_op (ev_var (hm _)) (ev_var (hj _)) (rv_ixL (ex_l e hp) (atI_nat (by rw [List.getElem?_map, cntR_get hd]; rfl)))) ev_c rv_I0)) (by unfold many; rw [decide_eq_decide, Int.toNat_natCast]; omega)) fun z G => ev_var (hj _)
theorem el_onces {K : PySem.W.Frag} {σ : L2.St} {H : Hp} {ta : TA} {j m : Nat} {p : Addr} {n : Int} {rs : List Int} (h : EvA ta σ H [.int n]) (hn : 1 ≤ n ∧ n ≤ 360) (hw : ∀ x, wipe ((wipe σ [j]).set j (some x)) [j] = wipe σ [j]) (hm : ∀ x, ((wipe σ [j]).set j (some x))[m]? = some (some (.ref p))) (hj : ∀ x, ((wipe σ [j]).set j (some x))[j]? = some (some x)) (hp : SqL K H p ((cntR n rs).map V.int)) (hN : rs.Nodup) :
    EvL (tLc (iRng1 ta) (gName j) (tTest (tOp rEq (tOp (rIxL K) (tVar m) (tVar j)) (tC (.int 1)))) (tVar j) [j]) σ H ((hrs n fun z => decide (z ∈ rs)).map V.int) :=
  el_marks (K := K) (j := j) (vs := [j]) (fun z => decide (z ∈ rs)) h hn hw (fun z G e z0 z1 => by
    obtain ⟨d, rfl⟩ : ∃ d : Nat, z = (d : Int) := ⟨z.toNat, by omega⟩
    have hd : d < n.toNat := by omega
    refine et_test (ev_is (ev_op (ev_op (ev_var (hm _)) (ev_var (hj _)) (rv_ixL (ex_l e hp) (atI_nat (by rw [List.getElem?_map, cntR_get hd]; rfl)))) ev_c (rv_eq rfl)) ?_)
    rw [dec_ii, ← many_mem (many_le hN d)]
    congr 1
    rw [decide_eq_decide]
    unfold many
    omega) fun z G => ev_var (hj _)
theorem ev_lenV {K : PySem.W.Frag} {σ : L2.St} {H : Hp} {i : Nat} {p : Addr} {xs : List Int} (h : σ[i]? = some (some (.ref p))) (hp : SqL K H p (xs.map V.int)) : Ev (tCB (rLenK K) (tCons (tVar i) tNil)) σ H (.int (xs.length : Int)) :=
  ev_cb (r := rLenK K) (ea_cons (ev_var h) ea_nil) fun H2 e2 Q q => ⟨.ref p, xs.length, rfl, .inl ⟨xs.map V.int, ex_l e2 hp, (List.length_map _).symm⟩, q H2 (Ex.refl H2)⟩
def spResid (K : PySem.W.Frag) : Sp := fun vs H Q _ => ∃ (a b : Addr) (n m : Int) (xs : List Int), vs = [.ref a, .ref b, .int n, .int m] ∧ SqL K H a (xs.map V.int) ∧ SqL K H b ((difL n xs).map V.int) ∧ (1 ≤ n ∧ n ≤ 60) ∧ Asc 0 n xs ∧ (1 ≤ m ∧ m ≤ n) ∧ n % m = 0 ∧ ∀ v H', Ex H H' → DueT K H' v (once m (xs.map (· % m))) → Q v H' 
theorem ok_u_law_residues_due (T : Txt K mg A) : FnOk P w K mg base CX0 2 A.f_u_law_residues_due A.d_u_law_residues_due (["members", "counts", "n", "part"] : List Str) (spResid K) := by
  refine T.F_u_law_residues_due.ok sc_u_law_residues_due (fun vs H Q E h => ?_) (fun cdv Ar outer s H vs Q E hr h => ?_)
  · obtain ⟨a, b, n, m, xs, rfl, _⟩ := h
    rfl
  · obtain ⟨a, b, n, m, xs, rfl, hx, hc, hn, hA, hm, hnm, k⟩ := h
    refine ⟨_, (pss_cons (ps_set (i := 4) sc_u_law_residues_due.nd rfl (Or.inr rfl) (pe_call (ok_u_law_met T) (hr.mono (by omega)) rfl T.g_u_law_met T.k_u_law_met (b_u_law_met T) .nil pass0 (pa_cons (pe_lc (own := [("h", 5)]) (g := gName 5) (tt := tYes) rfl sc_u_law_residues_due.nd (pi_listK (pv 0)) (blkOk_by (own := [("h", 5)]) (N := N_u_law_residues_due) (sc := defScope s_u_law_residues_due) (by decide +kernel)) (fun _ _ _ _ _ => (pg_name (i := 5) sc_u_law_residues_due.nd rfl (Or.inl rfl))) (fun _ _ _ _ _ => pts_nil) (fun _ _ _ _ _ => (pe_op op_mod (pe_callTy call_int1 (by rfl) T.z_int (by decide +kernel) (pa_cons (pv 5) pa_nil)) (pv 3)))) (pa_cons (pv 3) pa_nil))))
        (pss_cons (ps_setLc (i := 6) (own := [("h", 5)]) (g := gName 5) rfl sc_u_law_residues_due.nd rfl rfl (sw_true rfl rfl rfl (by decide +kernel)) (pi_range1 rfl T.z_range (pa_cons (pv 3) pa_nil)) (blkOk_by (own := [("h", 5)]) (N := N_u_law_residues_due) (sc := defScope s_u_law_residues_due) (by decide +kernel)) (fun _ _ _ _ _ => (pg_name (i := 5) sc_u_law_residues_due.nd rfl (Or.inl rfl))) (fun _ _ _ _ _ => (pts_one (pt_cmpR op_gt (pe_ix ix_lK (pv 4) (pv 5) (fun _ _ => rfl)) pe_int (nomark _)))) (fun _ _ _ _ _ => (pv 5)))
        (pss_cons (ps_if (pt_cmpR op_gt (pe_callB len_K (by rfl) T.z_len (by decide +kernel) (pa_cons (pv 6) pa_nil)) pe_int (nomark _)) (pss_one (ps_ret (pe_tup (pa_cons pe_str (pa_cons (pe_ix ix_lK (pv 6) pe_int (fun _ _ => rfl)) pa_nil))))) pss_nil)
        (pss_cons (ps_setLc (i := 7) (own := [("d", 8)]) (g := gName 8) (tt := tYes) rfl sc_u_law_residues_due.nd rfl rfl (sw_true rfl rfl rfl (by decide +kernel)) (pi_range1 rfl T.z_range (pa_cons (pv 3) pa_nil)) (blkOk_by (own := [("d", 8)]) (N := N_u_law_residues_due) (sc := defScope s_u_law_residues_due) (by decide +kernel)) (fun _ _ _ _ _ => (pg_name (i := 8) sc_u_law_residues_due.nd rfl (Or.inl rfl))) (fun _ _ _ _ _ => pts_nil) (fun _ _ _ _ _ => (pe_callB (cr_sumK rfl) (by rfl) T.z_sum (by decide +kernel) (pa_cons (pe_lc (own := [("e", 9)]) (g := gName 9) (tt := tYes) rfl sc_u_law_residues_due.nd (pi_range3 rfl T.z_range (pa_cons (pv 8) (pa_cons (pv 2) (pa_cons (pv 3) pa_nil)))) (by dsimp only [cxOf, Cx.nox, Cx.blk, compEnvC]; show BlkOk _ (relS _ (defScope s_u_law_residues_due)) _ _; exact blkOk_by (own := [("e", 9)]) (N := N_u_law_residues_due) (by decide +kernel)) (fun _ _ _ _ _ => (pg_name (i := 9) sc_u_law_residues_due.nd rfl (Or.inl rfl))) (fun _ _ _ _ _ => pts_nil) (fun _ _ _ _ _ => (pe_ix ix_lK (pv 1) (pv 9) (fun _ _ => rfl)))) pa_nil))))
        (pss_one (ps_ret (pe_tup (pa_cons (pv 3) (pa_cons (pe_lc (own := [("h", 5)]) (g := gName 5) rfl sc_u_law_residues_due.nd (pi_range1 rfl T.z_range (pa_cons (pv 3) pa_nil)) (blkOk_by (own := [("h", 5)]) (N := N_u_law_residues_due) (sc := defScope s_u_law_residues_due) (by decide +kernel)) (fun _ _ _ _ _ => (pg_name (i := 5) sc_u_law_residues_due.nd rfl (Or.inl rfl))) (fun _ _ _ _ _ => (pts_one (pt_cmpR op_eq (pe_ix ix_lK (pv 4) (pv 5) (fun _ _ => rfl)) pe_int (nomark _)))) (fun _ _ _ _ _ => (pv 5))) (pa_cons (pv 7) pa_nil)))))))))), ?_⟩
    have hxl := hA.len
    have lc := el_mapA (K := K) (j := 5) (vs := [5]) (te := tOp (rI (fun _ j => 0 < j) fun i j => V.int (i % j)) (tCB (fun xs H Q => (∃ i, xs = [V.int i] ∧ Q (V.int i) H) ∨ ∃ k, xs = [V.bl k] ∧ Q (V.int (if k = true then 1 else 0)) H) (tCons (tVar 5) tNil)) (tVar 3)) (tl := tVar 0)
        (σ := [some (.ref a), some (.ref b), some (.int n), some (.int m), none, none, none, none, none, none]) (H := H) xs (fun x => x % m) (ev_var (i := 0) rfl) hx (by omega) (fun x => rfl) (fun x H3 _ hx => ev_op (ev_int (ev_var (i := 5) rfl)) (ev_var (i := 3) rfl) (rv_I (show (0 : Int) < m by omega)))
    have hin : ∀ z ∈ xs.map (fun x => x % m), 0 ≤ z ∧ z < m := mod_in (by omega) xs
    try dsimp only
    refine q_asgR (er_met (K := K) (er_list lc) (ev_var (i := 3) rfl) (by omega) hin) fun v H1 e1 hv => ?_
    obtain ⟨mp, rfl, hmp⟩ := hv
    try dsimp only
    refine q_asgL (el_twice (K := K) (j := 5) (m := 4) (ea_cons (ev_var (i := 3) rfl) ea_nil) (by omega) (fun x => rfl) (fun x => rfl) (fun x => rfl) (sq_of hmp)) fun tp H2 htp e2 h2 => ?_
    have e02 := e1.trans e2
    replace hmp := e2 _ _ hmp
    rcases twice_cases m (xs.map fun x => x % m) with ⟨hno, ht⟩ | ⟨h, t, hme, ht⟩
    rotate_left
    · rw [ht] at h2
      try dsimp only
      refine q_take (et_is (et_test (ev_op (ev_lenV (K := K) (i := 6) rfl (sq_of h2)) ev_c rv_I0)) (decide_eq_true (by rw [List.length_cons]; omega))) fun H3 e3 => ?_
      refine s_retR (ed_tup (K := K) (ds := [.str "Meets", .int (h : Int)]) (eds_cons (ed_str ev_c) (eds_cons (ed_int (ev_ix (K := K) (ev_var (i := 6) rfl) (ev_c (v := .int 0)) (sq_of (e3 _ _ h2)) (atI_nat (j := 0) rfl))) eds_nil)) (by show 2 ≤ 1000; decide)) fun v H4 e4 hv => k v H4 (e02.trans (e3.trans e4)) ?_
      rw [once_some hme]
      exact hv
    have hN : (xs.map fun x => x % m).Nodup := nodup_once hin hno
    rw [once_none hno] at k
    rw [ht] at h2
    try dsimp only
    refine q_skip (et_is (et_test (ev_op (ev_lenV (K := K) (i := 6) rfl (sq_of h2)) ev_c rv_I0)) (decide_eq_false (by simp))) fun H3 e3 => ?_
    have e03 := e02.trans e3
    obtain ⟨q, hq⟩ : ∃ q : Nat, n = m * (q : Int) := ⟨(n / m).toNat, by have := Int.mul_ediv_add_emod n m; have : 0 ≤ n / m := Int.ediv_nonneg (by omega) (by omega); rw [show (((n / m).toNat : Nat) : Int) = n / m by omega]; omega⟩
    have q60 : q ≤ 60 := by
      have := Int.mul_le_mul_of_nonneg_right (show 1 ≤ m by omega) (show 0 ≤ (q : Int) by omega)
      omega
    have size : ∀ d : Nat, (d : Int) < m → ((n - (d : Int) - 1) / m + 1).toNat = q := fun d hd => by
      have e : n - (d : Int) - 1 = (m - 1 - (d : Int)) + m * ((q : Int) - 1) := by rw [hq, Int.mul_sub]; omega
      rw [e, Int.add_mul_ediv_left _ _ (by omega), Int.ediv_eq_zero_of_lt (by omega) (by omega)]
      omega
    have inner : ∀ (d : Nat) (G : Hp), Ex H3 G → (d : Int) < m → EvL (tLc (iRng3 (tCons (tVar 8) (tCons (tVar 2) (tCons (tVar 3) tNil)))) (gName 9) tYes (tOp (rIxL K) (tVar 1) (tVar 9)) [9])
          [some (.ref a), some (.ref b), some (.int n), some (.int m), some (.ref mp), none, some (.ref tp), none, some (.int (d : Int)), none] G (((List.range q).map fun j : Nat => dif n xs ((d : Int) + (j : Int) * m)).map V.int) := fun d G eG hd => by
      have hi := ei_rng3 (σ := [some (.ref a), some (.ref b), some (.int n), some (.int m), some (.ref mp), none, some (.ref tp), none, some (.int (d : Int)), none]) (H := G) (ta := tCons (tVar 8) (tCons (tVar 2) (tCons (tVar 3) tNil))) (i := (d : Int)) (j := n) (c := m) (ea_cons (ev_var (i := 8) rfl) (ea_cons (ev_var (i := 2) rfl) (ea_cons (ev_var (i := 3) rfl) ea_nil))) (by omega) (by omega) (by omega)
      rw [size d hd] at hi
      have e := el_lc (wi := iRng3 (tCons (tVar 8) (tCons (tVar 2) (tCons (tVar 3) tNil)))) (g := gName 9) (tt := tYes) (te := tOp (rIxL K) (tVar 1) (tVar 9)) (vs := [9]) (fun _ => true) (fun j => V.int (dif n xs ((d : Int) + (j : Int) * m))) hi (by omega) bd_fn (fun j _ => rfl) (fun j H1 _ _ => yes_T) (fun j H1 hj e1 _ => by
        have b : (d : Int) + (j : Int) * m < n := by
          have := Int.mul_le_mul_of_nonneg_right (show (j : Int) + 1 ≤ (q : Int) by omega) (show 0 ≤ m by omega)
          rw [Int.add_mul] at this
          rw [hq, Int.mul_comm m]
          omega
        have b0 : 0 ≤ (j : Int) * m := Int.mul_nonneg (by omega) (by omega)
        obtain ⟨z, hz⟩ : ∃ z : Nat, (d : Int) + (j : Int) * m = (z : Int) := ⟨((d : Int) + (j : Int) * m).toNat, by omega⟩
        rw [hz] at b
        exact ev_ix (K := K) (ev_var (i := 1) rfl) (ev_var (i := 9) rfl) (ex_l ((e03.trans eG).trans e1) hc) (by rw [hz]; exact atI_nat (by rw [List.getElem?_map, difL_get (by omega)]; rfl)))
      rw [given_all] at e
      rw [List.map_map]
      exact e
    have outer := el_rng1 (σ := [some (.ref a), some (.ref b), some (.int n), some (.int m), some (.ref mp), none, some (.ref tp), none, none, none]) (H := H3) (tt := tYes) (ta := tCons (tVar 3) tNil) (j := 8) (vs := [8]) (te := tCB (rSum K) (tCons (tLc (iRng3 (tCons (tVar 8) (tCons (tVar 2) (tCons (tVar 3) tNil)))) (gName 9) tYes (tOp (rIxL K) (tVar 1) (tVar 9)) [9]) tNil))
      (fun _ => true) (fun d => V.int (dif m (hrs m fun z => decide (z ∈ xs.map fun x => x % m)) (d : Int))) (ea_cons (ev_var (i := 3) rfl) ea_nil) (by omega) (fun x => rfl) (fun j H1 _ _ => yes_T) (fun j H1 e1 hj _ => by
        refine ev_is (ev_sumN (inner j H1 e1 hj)) ?_
        rw [dif_mod (n := n) (by omega) (by omega) hnm hN]
        conv => rhs; rw [hq]
        rw [fold_sum (by omega) ⟨by omega, hj⟩, ← hq]
        rfl)
    rw [given_all] at outer
    have em : ((List.range m.toNat).map fun d : Nat => V.int (dif m (hrs m fun z => decide (z ∈ xs.map fun x => x % m)) (d : Int))) = (difL m (hrs m fun z => decide (z ∈ xs.map fun x => x % m))).map V.int := by
      unfold difL
      rw [List.map_map]
      rfl
    rw [em] at outer
    try dsimp only
    refine q_asgL outer fun fp H4 hfp e4 h4 => ?_
    try dsimp only
    exact s_retILV (ev_var (i := 3) rfl) (el_onces (K := K) (j := 5) (m := 4) (ea_cons (ev_var (i := 3) rfl) ea_nil) (by omega) (fun x => rfl) (fun x => rfl) (fun x => rfl) (sq_of ((e3.trans e4) _ _ hmp)) hN) (ev_var (i := 7) rfl) h4 fun p a b H5 e5 hp ha hb => k _ H5 (e03.trans (e4.trans e5)) ⟨p, a, b, rfl, hp, ha, hb⟩

theorem el_listK {K : PySem.W.Frag} {te : TE} {σ : L2.St} {H : Hp} {p : Addr} {ys : List V} (h : Ev te σ H (.ref p)) (hp : SqL K H p ys) : EvL (tCB (rListK K) (tCons te tNil)) σ H ys := fun H1 e Q q =>
  h H1 e _ fun H2 e2 => ⟨p, ys, rfl, .inl (ex_l (e.trans e2) hp), fun l hl => q l _ (fresh_back e2 hl) (e2.trans (Ex.new hl)) upd_same⟩

theorem difL_congr {n : Int} {xs ys : List Int} (h : ∀ d, 0 ≤ d → d < n → dif n xs d = dif n ys d) : difL n xs = difL n ys := by
  unfold difL
  exact List.map_congr_left fun d hd => h d (by omega) (by have := List.mem_range.mp hd; omega)
theorem deed_rest {n k kd : Int} {xs : List Int} {r : Res} (hn : 0 < n) (hA : Asc 0 n xs) (h : Deed n k xs kd r) (h3 : kd ≠ 3) (h5 : kd ≠ 5) (h6 : kd ≠ 6) : ∃ ms : List Int, r = .lot n (hrs n fun z => decide (z ∈ ms.map (· % n))) ∧
    ((kd = 0 → ms = xs.map fun x => x + shF k) ∧ (kd = 1 → ms = xs.map fun x => x - shF k) ∧ (kd = 2 → ms = xs.map fun x => 0 - x) ∧ (kd = 4 → ms = xs.map fun x => x * facF n k)) ∧ (kd ≠ 4 → difL n (hrs n fun z => decide (z ∈ ms.map (· % n))) = difL n xs) ∧ (kd = 0 ∨ kd = 1 ∨ kd = 2 ∨ kd = 4) := by
  have hc : ∀ {p q : Int → Bool}, (∀ z, 0 ≤ z → z < n → p z = q z) → hrs n p = hrs n q := fun h => hrs_congr h
  cases h with
  | others => exact absurd rfl h3
  | copies _ => exact absurd rfl h5
  | part => exact absurd rfl h6
  | left =>
    have e : (hrs n fun z => decide (z ∈ (xs.map fun x => x + shF k).map (· % n))) = hrs n fun z => decide ((z - shF k) % n ∈ xs) := hc fun z z0 z1 => by rw [decide_eq_decide, mem_plus hn hA z0 z1]
    exact ⟨_, by rw [e], ⟨fun _ => rfl, fun z => by omega, fun z => by omega, fun z => by omega⟩, fun _ => by rw [e]; exact difL_congr fun d _ _ => dif_turn hn hA, .inl rfl⟩
  | right =>
    have e : (hrs n fun z => decide (z ∈ (xs.map fun x => x - shF k).map (· % n))) = hrs n fun z => decide ((z - -shF k) % n ∈ xs) := hc fun z z0 z1 => by
      have := mem_plus (k := -shF k) (n := n) hn hA z0 z1
      rw [decide_eq_decide, ← this]
      rfl
    have e2 : (hrs n fun z => decide ((z + shF k) % n ∈ xs)) = hrs n fun z => decide ((z - -shF k) % n ∈ xs) := hc fun z _ _ => by rw [show z - -shF k = z + shF k by omega]
    exact ⟨_, by rw [e, e2], ⟨fun z => by omega, fun _ => rfl, fun z => by omega, fun z => by omega⟩, fun _ => by rw [e]; exact difL_congr fun d _ _ => dif_turn hn hA, .inr (.inl rfl)⟩
  | minus =>
    have e : (hrs n fun z => decide (z ∈ (xs.map fun x => 0 - x).map (· % n))) = hrs n fun z => decide ((0 - z) % n ∈ xs) := hc fun z z0 z1 => by
      rw [decide_eq_decide, ← mem_minus hn hA z0 z1, show (fun x : Int => 0 - x) = fun x => -x from funext fun x => by omega]
    exact ⟨_, by rw [e], ⟨fun z => by omega, fun z => by omega, fun _ => rfl, fun z => by omega⟩, fun _ => by rw [e]; exact difL_congr fun d _ _ => dif_neg hn hA, .inr (.inr (.inl rfl))⟩
  | times => exact ⟨_, rfl, ⟨fun z => by omega, fun z => by omega, fun z => by omega, fun _ => rfl⟩, fun z => absurd rfl z, .inr (.inr (.inr rfl))⟩
def spDue (K : PySem.W.Frag) : Sp := fun vs H Q _ => ∃ (a b : Addr) (n kd k : Int) (xs : List Int) (r : Res), vs = [.ref a, .ref b, .int n, .int kd, .int k] ∧ SqL K H a (xs.map V.int) ∧ SqL K H b ((difL n xs).map V.int) ∧ (1 ≤ n ∧ n ≤ 60) ∧ Asc 0 n xs ∧ Deed n k xs kd r ∧ ∀ v H', Ex H H' → DueT K H' v r → Q v H'
theorem er_due {K : PySem.W.Frag} {E : XK} {σ : L2.St} {H : Hp} {t1 t2 t3 t4 t5 : TE} {a b : Addr} {n kd k : Int} {xs : List Int} {r : Res} (h1 : Ev t1 σ H (.ref a)) (h2 : Ev t2 σ H (.ref b)) (h3 : Ev t3 σ H (.int n)) (h4 : Ev t4 σ H (.int kd)) (h5 : Ev t5 σ H (.int k)) (ha : SqL K H a (xs.map V.int)) (hb : SqL K H b ((difL n xs).map V.int)) (hn : 1 ≤ n ∧ n ≤ 60) (hA : Asc 0 n xs) (hd : Deed n k xs kd r) :
    EvR (tCall (spDue K) [] E (tCons t1 (tCons t2 (tCons t3 (tCons t4 (tCons t5 tNil)))))) σ H fun v H1 => DueT K H1 v r :=
  er_call (ea_cons h1 (ea_cons h2 (ea_cons h3 (ea_cons h4 (ea_cons h5 ea_nil))))) fun H1 e Q q => ⟨a, b, n, kd, k, xs, r, rfl, ex_l e ha, ex_l e hb, hn, hA, hd, fun v H' e' h' => q v H' e' h'⟩
theorem ok_u_law_due (T : Txt K mg A) : FnOk P w K mg base CX0 3 A.f_u_law_due A.d_u_law_due (["members", "counts", "n", "kind", "number"] : List Str) (spDue K) := by
  refine T.F_u_law_due.ok sc_u_law_due (fun vs H Q E h => ?_) (fun cdv Ar outer s H vs Q E hr h => ?_)
  · obtain ⟨a, b, n, kd, k, xs, r, rfl, _⟩ := h
    rfl
  · obtain ⟨a, b, n, kd, kk, xs, r, rfl, hx, hc, hn, hA, hd, k⟩ := h
    refine ⟨_, (pss_cons (ps_if (pt_cmpR op_eq (pv 3) pe_int (nomark _)) (pss_one (ps_ret (pe_call (ok_u_law_copied_due T) (hr.mono (by omega)) rfl T.g_u_law_copied_due T.k_u_law_copied_due (b_u_law_copied_due T) .nil pass0 (pa_cons (pv 0) (pa_cons (pv 1) (pa_cons (pv 2) (pa_cons (pe_op op_add pe_int (pe_op op_mod (pe_callTy call_int1 (by rfl) T.z_int (by decide +kernel) (pa_cons (pv 4) pa_nil)) pe_int)) pa_nil))))))) pss_nil)
        (pss_cons (ps_if (pt_cmpR op_eq (pv 3) pe_int (nomark _)) (pss_one (ps_ret (pe_call (ok_u_law_residues_due T) (hr.mono (by omega)) rfl T.g_u_law_residues_due T.k_u_law_residues_due (b_u_law_residues_due T) .nil pass0 (pa_cons (pv 0) (pa_cons (pv 1) (pa_cons (pv 2) (pa_cons (pe_call (ok_u_law_part T) (hr.mono (by omega)) rfl T.g_u_law_part T.k_u_law_part (b_u_law_part T) .nil pass0 (pa_cons (pv 2) (pa_cons (pv 4) pa_nil))) pa_nil))))))) pss_nil)
        (pss_cons (ps_if (pt_cmpR op_eq (pv 3) pe_int (nomark _)) (pss_one (ps_ret (pe_tup (pa_cons (pv 2) (pa_cons (pe_lc (own := [("h", 5)]) (g := gName 5) rfl sc_u_law_due.nd (pi_range1 rfl T.z_range (pa_cons (pv 2) pa_nil)) (blkOk_by (own := [("h", 5)]) (N := N_u_law_due) (sc := defScope s_u_law_due) (by decide +kernel)) (fun _ _ _ _ _ => (pg_name (i := 5) sc_u_law_due.nd rfl (Or.inl rfl))) (fun _ _ _ _ _ => (pts_one (pt_cmpR notin_K (pv 5) (pv 0) (by with_unfolding_all rfl)))) (fun _ _ _ _ _ => (pv 5))) (pa_cons (pe_lc (own := [("count", 6)]) (g := gName 6) (tt := tYes) rfl sc_u_law_due.nd (pi_listK (pv 1)) (blkOk_by (own := [("count", 6)]) (N := N_u_law_due) (sc := defScope s_u_law_due) (by decide +kernel)) (fun _ _ _ _ _ => (pg_name (i := 6) sc_u_law_due.nd rfl (Or.inl rfl))) (fun _ _ _ _ _ => pts_nil) (fun _ _ _ _ _ => (pe_op op_sub (pe_op op_add (pv 6) (pv 2)) (pe_op op_mul pe_int (pe_callB len_K (by rfl) T.z_len (by decide +kernel) (pa_cons (pv 0) pa_nil)))))) pa_nil)))))) pss_nil)
        (pss_cons (ps_setLc (i := 7) (own := [("h", 5)]) (g := gName 5) (tt := tYes) rfl sc_u_law_due.nd rfl rfl (sw_true rfl rfl rfl (by decide +kernel)) (pi_listK (pv 0)) (blkOk_by (own := [("h", 5)]) (N := N_u_law_due) (sc := defScope s_u_law_due) (by decide +kernel)) (fun _ _ _ _ _ => (pg_name (i := 5) sc_u_law_due.nd rfl (Or.inl rfl))) (fun _ _ _ _ _ => pts_nil) (fun _ _ _ _ _ => (pe_op op_sub pe_int (pv 5))))
        (pss_cons (ps_if (pt_cmpR op_eq (pv 3) pe_int (nomark _)) (pss_one (ps_setLc (i := 7) (own := [("h", 5)]) (g := gName 5) (tt := tYes) rfl sc_u_law_due.nd rfl rfl (sw_true rfl rfl rfl (by decide +kernel)) (pi_listK (pv 0)) (blkOk_by (own := [("h", 5)]) (N := N_u_law_due) (sc := defScope s_u_law_due) (by decide +kernel)) (fun _ _ _ _ _ => (pg_name (i := 5) sc_u_law_due.nd rfl (Or.inl rfl))) (fun _ _ _ _ _ => pts_nil) (fun _ _ _ _ _ => (pe_op op_add (pv 5) (pe_call (ok_u_law_shift T) (hr.mono (by omega)) rfl T.g_u_law_shift T.k_u_law_shift (b_u_law_shift T) .nil pass0 (pa_cons (pv 4) pa_nil)))))) pss_nil)
        (pss_cons (ps_if (pt_cmpR op_eq (pv 3) pe_int (nomark _)) (pss_one (ps_setLc (i := 7) (own := [("h", 5)]) (g := gName 5) (tt := tYes) rfl sc_u_law_due.nd rfl rfl (sw_true rfl rfl rfl (by decide +kernel)) (pi_listK (pv 0)) (blkOk_by (own := [("h", 5)]) (N := N_u_law_due) (sc := defScope s_u_law_due) (by decide +kernel)) (fun _ _ _ _ _ => (pg_name (i := 5) sc_u_law_due.nd rfl (Or.inl rfl))) (fun _ _ _ _ _ => pts_nil) (fun _ _ _ _ _ => (pe_op op_sub (pv 5) (pe_call (ok_u_law_shift T) (hr.mono (by omega)) rfl T.g_u_law_shift T.k_u_law_shift (b_u_law_shift T) .nil pass0 (pa_cons (pv 4) pa_nil)))))) pss_nil)
        (pss_cons (ps_set (i := 8) sc_u_law_due.nd rfl (Or.inl rfl) (pe_callTy list_K (by rfl) T.z_list (by decide +kernel) (pa_cons (pv 1) pa_nil)))
        (pss_cons (ps_if (pt_cmpR op_eq (pv 3) pe_int (nomark _)) (pss_cons (ps_setLc (i := 7) (own := [("h", 5)]) (g := gName 5) (tt := tYes) rfl sc_u_law_due.nd rfl rfl (sw_true rfl rfl rfl (by decide +kernel)) (pi_listK (pv 0)) (blkOk_by (own := [("h", 5)]) (N := N_u_law_due) (sc := defScope s_u_law_due) (by decide +kernel)) (fun _ _ _ _ _ => (pg_name (i := 5) sc_u_law_due.nd rfl (Or.inl rfl))) (fun _ _ _ _ _ => pts_nil) (fun _ _ _ _ _ => (pe_op op_mul (pv 5) (pe_call (ok_u_law_factor T) (hr.mono (by omega)) rfl T.g_u_law_factor T.k_u_law_factor (b_u_law_factor T) .nil pass0 (pa_cons (pv 2) (pa_cons (pv 4) pa_nil))))))
        (pss_one (ps_for PassesOwn.never rfl (pi_range1 rfl T.z_range (pa_cons (pv 2) pa_nil)) (pg_name (i := 9) sc_u_law_due.nd rfl (Or.inl rfl)) (pss_one (ps_asg (pe_ix ix_lK (pv 1) (pv 9) (fun _ _ => rfl)) (pg_sub (pv 8) (pe_op op_mod (pe_callTy call_int1 (by rfl) T.z_int (by decide +kernel) (pa_cons (pe_op op_mul (pv 9) (pe_call (ok_u_law_factor T) (hr.mono (by omega)) rfl T.g_u_law_factor T.k_u_law_factor (b_u_law_factor T) .nil pass0 (pa_cons (pv 2) (pa_cons (pv 4) pa_nil)))) pa_nil)) (pv 2)) set_list)))))) pss_nil)
        (pss_cons (ps_set (i := 10) sc_u_law_due.nd rfl (Or.inr rfl) (pe_lc (own := [("h", 5)]) (g := gName 5) (tt := tYes) rfl sc_u_law_due.nd (pi_listK (pv 7)) (blkOk_by (own := [("h", 5)]) (N := N_u_law_due) (sc := defScope s_u_law_due) (by decide +kernel)) (fun _ _ _ _ _ => (pg_name (i := 5) sc_u_law_due.nd rfl (Or.inl rfl))) (fun _ _ _ _ _ => pts_nil) (fun _ _ _ _ _ => (pe_op op_mod (pe_callTy call_int1 (by rfl) T.z_int (by decide +kernel) (pa_cons (pv 5) pa_nil)) (pv 2)))))
        (pss_one (ps_ret (pe_tup (pa_cons (pv 2) (pa_cons (pe_lc (own := [("h", 5)]) (g := gName 5) rfl sc_u_law_due.nd (pi_range1 rfl T.z_range (pa_cons (pv 2) pa_nil)) (blkOk_by (own := [("h", 5)]) (N := N_u_law_due) (sc := defScope s_u_law_due) (by decide +kernel)) (fun _ _ _ _ _ => (pg_name (i := 5) sc_u_law_due.nd rfl (Or.inl rfl))) (fun _ _ _ _ _ => (pts_one (pt_cmpR in_K (pv 5) (pv 10) (by with_unfolding_all rfl)))) (fun _ _ _ _ _ => (pv 5))) (pa_cons (pv 8) pa_nil))))))))))))))), ?_⟩
    have hxl := hA.len
    have isK : ∀ {c : Int} {G : Hp} {v5 v6 v7 v8 v9 v10 : Option V}, EvT (tTest (tOp rEq (tVar 3) (tC (.int c)))) [some (.ref a), some (.ref b), some (.int n), some (.int kd), some (.int kk), v5, v6, v7, v8, v9, v10] G (decide (kd = c)) := et_test (ev_is (ev_op (ev_var (i := 3) rfl) ev_c (rv_eq rfl)) (by rw [dec_ii]))
    try dsimp only
    refine q_when (b := decide (kd = 5)) isK (fun h H1 e1 => ?_) (fun h5 H1 e1 => ?_)
    · obtain rfl := of_decide_eq_true h
      cases hd with
      | copies hc2 =>
        try dsimp only
        refine s_retR (er_call (P := fun v G => DueT K G v (.lot (n * (2 + kk % 2)) (laps n (2 + kk % 2).toNat xs))) (vs := [.ref a, .ref b, .int n, .int (2 + kk % 2)]) (ea_cons (ev_var (i := 0) rfl) (ea_cons (ev_var (i := 1) rfl) (ea_cons (ev_var (i := 2) rfl) (ea_cons (ev_op ev_c (ev_op (ev_int (ev_var (i := 4) rfl)) ev_c (rv_I (show (0 : Int) < 2 by decide))) rv_I0) ea_nil))))
          (fun H' e' Q q => ⟨a, b, n, _, xs, rfl, ex_l (e1.trans e') hx, ex_l (e1.trans e') hc, hn, hA, by omega, hc2, fun p a b H'' e'' hp ha hb => q _ H'' e'' ⟨p, a, b, rfl, hp, ha, hb⟩⟩)) fun v H2 e2 hv => k v H2 (e1.trans e2) hv
    have h5 := of_decide_eq_false h5
    try dsimp only
    refine q_when (b := decide (kd = 6)) isK (fun h H2 e2 => ?_) (fun h6 H2 e2 => ?_)
    · obtain rfl := of_decide_eq_true h
      have e02 := e1.trans e2
      cases hd with
      | part =>
        have hp := part_in (n := n) (k := kk) hn.1
        try dsimp only
        refine s_retR (er_call (P := fun v G => DueT K G v (once (atR (divs n) kk) (xs.map (· % atR (divs n) kk)))) (vs := [.ref a, .ref b, .int n, .int (atR (divs n) kk)]) (ea_cons (ev_var (i := 0) rfl) (ea_cons (ev_var (i := 1) rfl) (ea_cons (ev_var (i := 2) rfl) (ea_cons (ev_part (ev_var (i := 2) rfl) (ev_var (i := 4) rfl) hn) ea_nil))))
          (fun H' e' Q q => ⟨a, b, n, _, xs, rfl, ex_l (e02.trans e') hx, ex_l (e02.trans e') hc, hn, hA, hp.1, hp.2, fun v H'' e'' hv => q _ H'' e'' hv⟩)) fun v H3 e3 hv => k v H3 (e02.trans e3) hv
    have h6 := of_decide_eq_false h6
    have e02 := e1.trans e2
    try dsimp only
    refine q_when (b := decide (kd = 3)) isK (fun h H3 e3 => ?_) (fun h3 H3 e3 => ?_)
    · obtain rfl := of_decide_eq_true h
      have e03 := e02.trans e3
      cases hd with
      | others =>
        have hl : (difL n xs).length ≤ 60 := by rw [difL_len]; omega
        have m1 := el_marks (K := K) (σ := [some (.ref a), some (.ref b), some (.int n), some (.int 3), some (.int kk), none, none, none, none, none, none]) (H := H3) (te := tVar 5) (tt := tTest (tOp (rIn K true) (tVar 5) (tVar 0))) (ta := tCons (tVar 2) tNil) (j := 5) (vs := [5]) (fun z => !decide (z ∈ xs)) (ea_cons (ev_var (i := 2) rfl) ea_nil) (by omega) (fun x => rfl) (fun z G e _ _ => et_test (ev_op (ev_var (i := 5) rfl) (ev_var (i := 0) rfl) (rv_niI (ex_l (e03.trans e) hx)))) (fun z G => ev_var (i := 5) rfl)
        have m2 := el_mapA (K := K) (σ := [some (.ref a), some (.ref b), some (.int n), some (.int 3), some (.int kk), none, none, none, none, none, none]) (H := H3) (te := tOp (rI0 fun i j => V.int (i - j)) (tOp (rI0 fun i j => V.int (i + j)) (tVar 6) (tVar 2)) (tOp (rI CMul fun i j => V.int (i * j)) (tC (.int 2)) (tCB (rLenK K) (tCons (tVar 0) tNil)))) (tl := tVar 1) (j := 6) (vs := [6]) (difL n xs) (fun c => c + n - 2 * (xs.length : Int)) (ev_var (i := 1) rfl) (ex_l e03 hc) (by omega) (fun x => rfl)
          (fun x G e _ => ev_op (ev_op (ev_var (i := 6) rfl) (ev_var (i := 2) rfl) rv_I0) (ev_op ev_c (ev_lenV (K := K) (i := 0) rfl (ex_l (e03.trans e) hx)) (rv_I (show CMul 2 (xs.length : Int) from .inl ⟨by decide, by decide⟩))) rv_I0)
        have em : (difL n xs).map (fun c => c + n - 2 * (xs.length : Int)) = difL n (hrs n fun z => !decide (z ∈ xs)) := by
          unfold difL
          rw [List.map_map]
          exact List.map_congr_left fun d hd => (dif_inv (by omega) hA ⟨by omega, by have := List.mem_range.mp hd; omega⟩).symm
        rw [em] at m2
        try dsimp only
        exact s_retILL (ev_var (i := 2) rfl) m1 m2 fun p a b H5 e5 hp ha hb => k _ H5 (e03.trans e5) ⟨p, a, b, rfl, hp, ha, hb⟩
    have h3 := of_decide_eq_false h3
    have e03 := e02.trans e3
    obtain ⟨ms, rfl, ⟨c0, c1, c2, c4⟩, hdl, hkd⟩ := deed_rest (by omega) hA hd h3 h5 h6
    have msl : ms.length = xs.length := by
      rcases hkd with h | h | h | h
      · rw [c0 h, List.length_map]
      · rw [c1 h, List.length_map]
      · rw [c2 h, List.length_map]
      · rw [c4 h, List.length_map]
    try dsimp only
    refine q_asgL (el_mapA (K := K) (j := 5) (vs := [5]) xs (fun x => 0 - x) (ev_var (i := 0) rfl) (ex_l e03 hx) (by omega) (fun x => rfl) (fun x G _ _ => ev_op ev_c (ev_var (i := 5) rfl) rv_I0)) fun p4 H4 hp4 e4 h4 => ?_
    let M1 : L2.St → Hp → Prop := fun σ' G => ∃ (p : Addr) (l : List Int), σ' = [some (.ref a), some (.ref b), some (.int n), some (.int kd), some (.int kk), none, none, some (.ref p), none, none, none] ∧ Ex H G ∧ G p = some (.lst (l.map V.int)) ∧ (kd = 0 ∨ kd = 2 → l = ms)
    try dsimp only
    refine q_alt M1 (b := decide (kd = 0)) isK (fun hb H5 e5 W hW => ?_) (fun hb H5 e5 => ⟨p4, _, rfl, e03.trans (e4.trans e5), e5 _ _ h4, fun h => ?_⟩) fun σ5 H5 h5' => ?_
    · refine s_asgL (el_mapA (K := K) (j := 5) (vs := [5]) xs (fun x => x + shF kk) (ev_var (i := 0) rfl) (ex_l ((e03.trans e4).trans e5) hx) (by omega) (fun x => rfl) (fun x G _ _ => ev_op (ev_var (i := 5) rfl) (ev_shf (ev_var (i := 4) rfl)) rv_I0)) fun p6 H6 hp6 e6 h6 => hW _ _ ⟨p6, _, rfl, (e03.trans e4).trans (e5.trans e6), h6, fun _ => (c0 (of_decide_eq_true hb)).symm⟩
    · exact (c2 (h.resolve_left (of_decide_eq_false hb))).symm
    obtain ⟨p5, l5, rfl, ex5, hl5, hm5⟩ := h5'
    let M2 : L2.St → Hp → Prop := fun σ' G => ∃ (p : Addr) (l : List Int), σ' = [some (.ref a), some (.ref b), some (.int n), some (.int kd), some (.int kk), none, none, some (.ref p), none, none, none] ∧ Ex H G ∧ G p = some (.lst (l.map V.int)) ∧ (kd ≠ 4 → l = ms)
    try dsimp only
    refine q_alt M2 (b := decide (kd = 1)) isK (fun hb H6 e6 W hW => ?_) (fun hb H6 e6 => ⟨p5, l5, rfl, ex5.trans e6, e6 _ _ hl5, fun h => hm5 ?_⟩) fun σ6 H6 h6' => ?_
    · refine s_asgL (el_mapA (K := K) (j := 5) (vs := [5]) xs (fun x => x - shF kk) (ev_var (i := 0) rfl) (ex_l (ex5.trans e6) hx) (by omega) (fun x => rfl) (fun x G _ _ => ev_op (ev_var (i := 5) rfl) (ev_shf (ev_var (i := 4) rfl)) rv_I0)) fun p7 H7 hp7 e7 h7 => hW _ _ ⟨p7, _, rfl, ex5.trans (e6.trans e7), h7, fun _ => (c1 (of_decide_eq_true hb)).symm⟩
    · have := of_decide_eq_false hb
      omega
    obtain ⟨p6, l6, rfl, ex6, hl6, hm6⟩ := h6'
    try dsimp only
    refine q_asgL (el_listK (K := K) (ev_var (i := 1) rfl) (ex_l ex6 hc)) fun fp H7 hfp e7 h7 => ?_
    have hfp0 : H fp = none := fresh_back ex6 hfp
    let M3 : L2.St → Hp → Prop := fun σ' G => ∃ (p : Addr) (dv : Option V), σ' = [some (.ref a), some (.ref b), some (.int n), some (.int kd), some (.int kk), none, none, some (.ref p), some (.ref fp), dv, none] ∧ Ex H G ∧ G p = some (.lst (ms.map V.int)) ∧ G fp = some (.lst ((difL n (hrs n fun z => decide (z ∈ ms.map (· % n)))).map V.int))
    try dsimp only
    refine q_alt M3 (b := decide (kd = 4)) isK (fun hb H8 e8 W hW => ?_) (fun hb H8 e8 => ?_) fun σ8 H8 h8' => ?_
    rotate_left
    · have hb := of_decide_eq_false hb
      exact ⟨p6, none, rfl, ex6.trans (e7.trans e8), by rw [← hm6 hb]; exact (e7.trans e8) _ _ hl6, by rw [hdl hb]; exact e8 _ _ h7⟩
    · obtain ⟨p, dv, rfl, ex8, hp8, hf8⟩ := h8'
      have lc := el_mapA (K := K) (j := 5) (vs := [5]) (te := tOp (rI (fun _ j => 0 < j) fun i j => V.int (i % j)) (tCB (fun xs H Q => (∃ i, xs = [V.int i] ∧ Q (V.int i) H) ∨ ∃ k, xs = [V.bl k] ∧ Q (V.int (if k = true then 1 else 0)) H) (tCons (tVar 5) tNil)) (tVar 2)) (tl := tVar 7)
        (σ := [some (.ref a), some (.ref b), some (.int n), some (.int kd), some (.int kk), none, none, some (.ref p), some (.ref fp), dv, none]) (H := H8) ms (fun x => x % n) (ev_var (i := 7) rfl) (sq_of hp8) (by omega) (fun x => rfl) (fun x H3 _ hx => ev_op (ev_int (ev_var (i := 5) rfl)) (ev_var (i := 2) rfl) (rv_I (show (0 : Int) < n by omega)))
      try dsimp only
      refine q_asgL lc fun rp H9 hrp e9 h9 => ?_
      try dsimp only
      exact s_retILV (ev_var (i := 2) rfl) (el_marks (K := K) (j := 5) (vs := [5]) (fun z => decide (z ∈ ms.map fun x => x % n)) (ea_cons (ev_var (i := 2) rfl) ea_nil) (by omega) (fun x => rfl) (fun z G e _ _ => et_test (ev_op (ev_var (i := 5) rfl) (ev_var (i := 10) rfl) (rv_inI (sq_of (e _ _ h9))))) (fun z G => ev_var (i := 5) rfl)) (ev_var (i := 8) rfl) (e9 _ _ hf8) fun p a b H5 e5 hp ha hb => k _ H5 (ex8.trans (e9.trans e5)) ⟨p, a, b, rfl, hp, ha, hb⟩
    obtain rfl := of_decide_eq_true hb
    have em := c4 rfl
    have hu := unit_fac (n := n) (k := kk) hn.1
    have ex8 := ex6.trans (e7.trans e8)
    try dsimp only
    refine q_asgL (el_mapA (K := K) (j := 5) (vs := [5]) xs (fun x => x * facF n kk) (ev_var (i := 0) rfl) (ex_l ex8 hx) (by omega) (fun x => rfl) (fun x G _ hx => ev_op (ev_var (i := 5) rfl) (ev_fac (ev_var (i := 2) rfl) (ev_var (i := 4) rfl) hn) (rv_I (show CMul x (facF n kk) from .inl ⟨by have := hA.2 x hx; omega, by have := hA.2 x hx; omega⟩)))) fun p9 H9 hp9 e9 h9 => ?_
    rw [← em] at h9
    replace ex8 := ex8.trans e9
    have hne : fp ≠ p9 := ne_of_none (e8 _ _ h7) hp9
    try dsimp only
    refine s_forR1 (j := 9) (n := n) (ea_cons (ev_var (i := 2) rfl) ea_nil) (by omega)
      (fun i σ' G => ∃ (dv : Option V) (L : List Int), σ' = [some (.ref a), some (.ref b), some (.int n), some (.int 4), some (.int kk), none, none, some (.ref p9), some (.ref fp), dv, none] ∧ Ex H G ∧ G p9 = some (.lst (ms.map V.int)) ∧ G fp = some (.lst (L.map V.int)) ∧ L.length = n.toNat ∧ ∀ d : Nat, d < i → L[(((d : Int) * facF n kk) % n).toNat]? = some (dif n xs (d : Int)))
      (fun G eG => ⟨none, difL n xs, rfl, ex8.trans eG, eG _ _ h9, (e8.trans (e9.trans eG)) _ _ h7, difL_len, fun d hd => absurd hd (Nat.not_lt_zero _)⟩) ?_ ?_
    · rintro i σ' G hi ⟨dv, L, rfl, eG, g1, g2, hL, hall⟩
      have m0 : 0 ≤ ((i : Int) * facF n kk) % n := Int.emod_nonneg _ (by omega)
      have m1 : ((i : Int) * facF n kk) % n < n := Int.emod_lt_of_pos _ (by omega)
      obtain ⟨j, hj⟩ : ∃ j : Nat, ((i : Int) * facF n kk) % n = (j : Int) := ⟨(((i : Int) * facF n kk) % n).toNat, by omega⟩
      try dsimp only
      refine s_setL (j := j) (v := .int (dif n xs (i : Int))) g2 (ev_ix (K := K) (ev_var (i := 1) rfl) (ev_var (i := 9) rfl) (ex_l eG hc) (atI_nat (by rw [List.getElem?_map, difL_get (by omega)]; rfl))) (ev_var (i := 8) rfl)
        (ev_is (ev_op (ev_int (ev_op (ev_var (i := 9) rfl) (ev_fac (ev_var (i := 2) rfl) (ev_var (i := 4) rfl) hn) (rv_I (show CMul (i : Int) (facF n kk) from .inl ⟨by omega, by omega⟩)))) (ev_var (i := 2) rfl) (rv_I (show (0 : Int) < n by omega))) (by rw [hj])) (by rw [List.length_map]; omega) fun G2 eG2 => ?_
      refine ⟨_, L.set j (dif n xs (i : Int)), rfl, Ex.mut (eG.trans eG2) hfp0, by rw [upd_ne (Ne.symm hne)]; exact eG2 _ _ g1, by rw [upd_same, List.map_set], by rw [List.length_set]; exact hL, fun d hd => ?_⟩
      by_cases c : d = i
      · subst c
        rw [hj, Int.toNat_natCast, List.getElem?_set_self (by omega)]
      · have hdi : d < i := by omega
        rw [List.getElem?_set_ne (fun z => c ?_)]
        · exact hall d hdi
        · have d0 : 0 ≤ ((d : Int) * facF n kk) % n := Int.emod_nonneg _ (by omega)
          have e1 : ((d : Int) * facF n kk) % n = ((i : Int) * facF n kk) % n := by omega
          have e2 := (unit_mod (by omega) hu).mp e1
          rw [Int.emod_eq_of_lt (by omega) (by omega), Int.emod_eq_of_lt (by omega) (by omega)] at e2
          omega
    rintro σ' G ⟨dv, L, rfl, eG, g1, g2, hL, hall⟩
    refine hW _ _ ⟨p9, dv, rfl, eG, g1, ?_⟩
    have eL : L = difL n (hrs n fun z => decide (z ∈ ms.map (· % n))) := by
      refine List.ext_getElem? fun e => ?_
      by_cases he : e < n.toNat
      · obtain ⟨d, hd, hde⟩ := unit_onto (t := facF n kk) (show 0 < n by omega) hu (z := (e : Int)) (by omega)
        have h1 := hall d.toNat (by omega)
        rw [show ((d.toNat : Nat) : Int) = d by omega, hde, Int.toNat_natCast] at h1
        rw [h1, difL_get he, em, ← hde, dif_unit (by omega) hu hA hd]
      · rw [List.getElem?_eq_none (by omega), List.getElem?_eq_none (by rw [difL_len]; omega)]
    rw [← eL]
    exact g2

theorem q_ext {K : PySem.W.Frag} {ta te : TE} {D : Ends} {σ : L2.St} {H : Hp} {l : Addr} {xs ys : List V} (hl : H l = some (.lst xs)) (ha : Ev ta σ H (.ref l)) (h : EvL te σ H ys) (hz : xs.length + ys.length ≤ 1000000)
    (k : ∀ H1, Ex H H1 → D.nx σ (upd H1 l (.lst (xs ++ ys)))) : tDrop (tBM K "list" rExtend ta (tCons te tNil)) D σ H := ha H (Ex.refl H) _ fun H1 e1 =>
  ⟨Or.inl ⟨rfl, xs, sq_of (e1 l _ hl)⟩, h H1 e1 _ fun p H2 hp e2 h2 => ⟨l, p, xs, ys, rfl, rfl, e2 _ _ (e1 _ _ hl), h2, Nat.le_trans hz (by decide), k H2 (e1.trans e2)⟩⟩
theorem q_asgT3 {K : PySem.W.Frag} {te : TE} {tz : TS} {D : Ends} {σ : L2.St} {H : Hp} {i j k : Nat} {P : V → V → V → Prop} (h : EvR te σ H fun v H1 => ∃ (p : Addr) (x y z : V), v = .ref p ∧ H1 p = some (.tup [x, y, z]) ∧ P x y z)
    (c : ∀ x y z H1, Ex H H1 → P x y z → tz D (((σ.set i (some x)).set j (some y)).set k (some z)) H1) : tSeq (tAsg te (gTup K 3 (gCons (gName i) (gCons (gName j) (gCons (gName k) gNil))))) tz D σ H := h H (Ex.refl H) _ fun v H1 e ⟨p, x, y, z, hv, hp, hP⟩ => by
  subst hv
  exact ⟨p, _, rfl, st_of hp, rfl, x, _, rfl, y, _, rfl, z, _, rfl, rfl, c x y z H1 e hP⟩
theorem flat_res (r : Res) : Flat 4 r.data := by
  cases r with
  | lot _ _ => exact True.intro
  | meets _ => exact ⟨by show 2 ≤ 40000; decide, fun d hd => by simp at hd; rcases hd with rfl | rfl <;> exact True.intro⟩
  | other => exact ⟨by show 1 ≤ 40000; decide, fun d hd => by simp at hd; rcases hd with rfl <;> exact True.intro⟩
  | notdiv _ => exact ⟨by show 2 ≤ 40000; decide, fun d hd => by simp at hd; rcases hd with rfl | rfl <;> exact True.intro⟩
  | bad _ _ => exact ⟨by show 3 ≤ 40000; decide, fun d hd => by simp at hd; rcases hd with rfl | rfl | rfl <;> exact True.intro⟩

theorem ev_sameL {K : PySem.W.Frag} {E : XK} {te tb : TE} {σ : L2.St} {H : Hp} {xs : List Int} {p : Addr} (h : EvL te σ H (xs.map V.int)) (hb : Ev tb σ H (.ref p)) (hp : SqL K H p (xs.map V.int)) (hl : xs.length ≤ 360) : Ev (tCall (sp_same K 4) [] E (tCons te (tCons tb tNil))) σ H (.bl true) := fun H1 e Q q =>
  h H1 e _ fun m H2 _ e2 hm => hb H2 (e.trans e2) _ fun H3 e3 => ⟨_, _, .list (xs.map .int), rfl, .lst (sq_of (e3 _ _ hm)) (dp_ints _), .lst (ex_l ((e.trans e2).trans e3) hp) (dp_ints _), flatI hl, q H3 (e2.trans e3)⟩

theorem el_diff {A : Ads} {E : XK} {σ : L2.St} {H : Hp} {ta : TE} {n : Int} {xs : List Int} (ha : EvR ta σ H fun v H1 => LotIs A.C_Lot v H1 n xs) : EvL (tCall (spDiff A) [] E (tCons ta tNil)) σ H ((difL n xs).map V.int) := fun H1 e Q q =>
  ha H1 e _ fun v H2 e2 hv => ⟨v, n, xs, rfl, hv.at_, hv.hn, hv.len, fun p H' hp e' h' => q p H' (fresh_back e2 hp) (e2.trans e') (by rw [← cntP_difL]; exact h')⟩
theorem el_rep2 {σ : L2.St} {H : Hp} {ta tb tn : TE} {y z k : Int} (ha : Ev ta σ H (.int y)) (hb : Ev tb σ H (.int z)) (hn : Ev tn σ H (.int k)) (hk : 0 ≤ k ∧ k ≤ 10000) : EvL (tOp rRep (tLst (tCons ta (tCons tb tNil))) tn) σ H (((List.replicate k.toNat [y, z]).flatten).map V.int) := fun H1 e Q q =>
  el_lst (ea_cons ha (ea_cons hb ea_nil)) (by show 2 ≤ 100000; decide) H1 e _ fun p H2 hp e2 h2 => hn H2 (e.trans e2) _ fun H3 e3 => ⟨p, k, [.int y, .int z], rfl, rfl, e3 _ _ h2, by omega, by omega, Nat.le_trans (show 2 * k.toNat ≤ 100000 by omega) (by decide), fun l hl => q l _ (fresh_back (e2.trans e3) hl) ((e2.trans e3).trans (Ex.new hl)) (by
    rw [upd_same]
    have rp : ∀ m : Nat, (List.replicate m [V.int y, V.int z]).flatten = ((List.replicate m [y, z]).flatten).map V.int := fun m => by
      induction m with
      | zero => rfl
      | succ m ih => rw [List.replicate_succ, List.flatten_cons, ih, List.replicate_succ, List.flatten_cons, List.map_append]; rfl
    rw [rp])⟩
theorem told_lot {K : PySem.W.Frag} {A : Ads} {H : Hp} {v : V} {n : Int} {xs : List Int} (h : ToldIs K A H v (.lot n xs)) : LotIs A.C_Lot v H n xs := h
theorem deed_small {n k kd : Int} {xs ys : List Int} {m : Int} (hn : 1 ≤ n ∧ n ≤ 60) (hA : Asc 0 n xs) (h : Deed n k xs kd (.lot m ys)) : m ≤ 60 := by
  generalize e : Res.lot m ys = r at h
  cases h with
  | part =>
    unfold once at e
    split at e
    · cases e
    · cases e
      have := part_in (n := n) (k := k) hn.1
      omega
  | left => cases e; exact hn.2
  | right => cases e; exact hn.2
  | minus => cases e; exact hn.2
  | others => cases e; exact hn.2
  | times => cases e; exact hn.2
  | copies h => cases e; exact h
def spLaw (K : PySem.W.Frag) : Sp := fun vs H Q _ => ∃ (a : Addr) (ns : List Int), vs = [.ref a] ∧ SqL K H a (ns.map V.int) ∧ ns.length ≤ 63 ∧ ∀ H', Q (.bl true) H' 
theorem ok_law (T : Txt K mg A) : FnOk P w K mg base CX0 14 A.f_law A.d_law (["script"] : List Str) (spLaw K) := by
  refine T.F_law.ok sc_law (fun vs H Q E h => ?_) (fun cdv Ar outer s H vs Q E hr h => ?_)
  · obtain ⟨a, ns, rfl, _⟩ := h
    rfl
  · obtain ⟨sa, ns, rfl, hS, hl, k⟩ := h
    refine ⟨_, (pss_cons (ps_set (i := 1) sc_law.nd rfl (Or.inl rfl) (pe_call (ok_u_law_draws T) (hr.mono (by omega)) rfl T.g_u_law_draws T.k_u_law_draws (b_u_law_draws T) .nil pass0 (pa_cons (pe_call (ok_u_law_cell T) (hr.mono (by omega)) rfl T.g_u_law_cell T.k_u_law_cell (b_u_law_cell T) .nil pass0 (pa_cons (pv 0) (pa_cons pe_int pa_nil))) (pa_cons pe_int (pa_cons (pe_lst (pa_cons pe_int (pa_cons pe_int (pa_cons pe_int (pa_cons pe_int (pa_cons pe_int (pa_cons pe_int pa_nil))))))) pa_nil)))))
        (pss_cons (ps_set (i := 2) sc_law.nd rfl (Or.inr rfl) (pe_op op_add pe_int (pe_ix ix_lK (pv 1) pe_int (fun _ _ => rfl))))
        (pss_cons (ps_if (pt_cmpR op_eq (pe_ix ix_lK (pv 1) pe_int (fun _ _ => rfl)) pe_int (nomark _)) (pss_one (ps_set (i := 2) sc_law.nd rfl (Or.inr rfl) (pe_op op_add pe_int (pe_ix ix_lK (pv 1) pe_int (fun _ _ => rfl))))) pss_nil)
        (pss_cons (ps_asg (pe_call (ok_u_law_lots T) (hr.mono (by omega)) rfl T.g_u_law_lots T.k_u_law_lots (b_u_law_lots T) .nil pass0 (pa_cons (pv 0) (pa_cons (pv 2) (pa_cons (pe_ix ix_lK (pv 1) pe_int (fun _ _ => rfl)) (pa_cons (pe_ix ix_lK (pv 1) pe_int (fun _ _ => rfl)) pa_nil))))) (pg_tup rfl (pgs_cons (pg_name (i := 3) sc_law.nd rfl (Or.inl rfl)) (pgs_cons (pg_name (i := 4) sc_law.nd rfl (Or.inl rfl)) pgs_nil))))
        (pss_cons (ps_set (i := 5) sc_law.nd rfl (Or.inl rfl) (pv 2))
        (pss_cons (ps_set (i := 6) sc_law.nd rfl (Or.inl rfl) (pe_make T.mk_Lot (ok_Lot_init T) (hr.mono (by omega)) rfl T.g_Lot (b_Lot_init T) .nil passL (pa_cons (pv 2) (pa_cons (pe_callTy list_K (by rfl) T.z_list (by decide +kernel) (pa_cons (pv 3) pa_nil)) pa_nil))))
        (pss_cons (ps_set (i := 7) sc_law.nd rfl (Or.inl rfl) (pe_make T.mk_Lot (ok_Lot_init T) (hr.mono (by omega)) rfl T.g_Lot (b_Lot_init T) .nil passL (pa_cons (pv 2) (pa_cons (pe_callTy list_K (by rfl) T.z_list (by decide +kernel) (pa_cons (pv 4) pa_nil)) pa_nil))))
        (pss_cons (ps_set (i := 8) sc_law.nd rfl (Or.inl rfl) (pe_call (ok_u_law_counts T) (hr.mono (by omega)) rfl T.g_u_law_counts T.k_u_law_counts (b_u_law_counts T) .nil pass0 (pa_cons (pv 3) (pa_cons (pv 2) pa_nil))))
        (pss_cons (ps_set (i := 9) sc_law.nd rfl (Or.inl rfl) (pe_call (ok_u_law_counts T) (hr.mono (by omega)) rfl T.g_u_law_counts T.k_u_law_counts (b_u_law_counts T) .nil pass0 (pa_cons (pv 4) (pa_cons (pv 2) pa_nil))))
        (pss_cons (ps_if (PW.pt (pw_or (pt_not (pt_val (pe_call (ok_u_law_same T) (hr.mono (by omega)) rfl T.g_u_law_same T.k_u_law_same (b_u_law_same T) .nil pass0 (pa_cons (pe_call (ok_differences T) (hr.mono (by omega)) rfl T.g_differences T.k_differences (b_differences T) .nil passL (pa_cons (pv 6) pa_nil)) (pa_cons (pv 8) pa_nil))))) (pw_or1 (pt_not (pt_val (pe_call (ok_u_law_same T) (hr.mono (by omega)) rfl T.g_u_law_same T.k_u_law_same (b_u_law_same T) .nil pass0 (pa_cons (pe_call (ok_differences T) (hr.mono (by omega)) rfl T.g_differences T.k_differences (b_differences T) .nil passL (pa_cons (pv 7) pa_nil)) (pa_cons (pv 9) pa_nil)))))))) (pss_one (ps_ret pe_bl)) pss_nil)
        (pss_cons (ps_set (i := 10) sc_law.nd rfl (Or.inl rfl) (pe_lst pa_nil))
        (pss_cons (ps_for PassesOwn.never rfl (pi_listK (pv 3)) (pg_name (i := 11) sc_law.nd rfl (Or.inr rfl)) (pss_one (ps_expr (pe_bm PySem.F.plainAttrs_list PySem.F.slot_list_extend PySem.F.type_list_extend mt_extend (pv 10) (pa_cons (pe_lc (own := [("other", 12)]) (g := gName 12) (tt := tYes) rfl sc_law.nd (pi_listK (pv 4)) (blkOk_by (own := [("other", 12)]) (N := N_law) (sc := defScope s_law) (by decide +kernel)) (fun _ _ _ _ _ => (pg_name (i := 12) sc_law.nd rfl (Or.inl rfl))) (fun _ _ _ _ _ => pts_nil) (fun _ _ _ _ _ => (pe_op op_mod (pe_callTy call_int1 (by rfl) T.z_int (by decide +kernel) (pa_cons (pe_op op_add (pv 11) (pv 12)) pa_nil)) (pv 2)))) pa_nil)))))
        (pss_cons (ps_set (i := 13) sc_law.nd rfl (Or.inr rfl) (pe_call (ok_u_law_met T) (hr.mono (by omega)) rfl T.g_u_law_met T.k_u_law_met (b_u_law_met T) .nil pass0 (pa_cons (pv 10) (pa_cons (pv 2) pa_nil))))
        (pss_cons (ps_setLc (i := 14) (own := [("h", 11)]) (g := gName 11) rfl sc_law.nd rfl rfl (sw_true rfl rfl rfl (by decide +kernel)) (pi_range1 rfl T.z_range (pa_cons (pv 2) pa_nil)) (blkOk_by (own := [("h", 11)]) (N := N_law) (sc := defScope s_law) (by decide +kernel)) (fun _ _ _ _ _ => (pg_name (i := 11) sc_law.nd rfl (Or.inl rfl))) (fun _ _ _ _ _ => (pts_one (pt_cmpR op_gt (pe_ix ix_lK (pv 13) (pv 11) (fun _ _ => rfl)) pe_int (nomark _)))) (fun _ _ _ _ _ => (pv 11)))
        (pss_cons (ps_set (i := 15) sc_law.nd rfl (Or.inl rfl) (pe_call (ok_u_law_sum T) (hr.mono (by omega)) rfl T.g_u_law_sum T.k_u_law_sum (b_u_law_sum T) .nil pass0 (pa_cons (pv 6) (pa_cons (pv 7) pa_nil))))
        (pss_cons (ps_set (i := 16) sc_law.nd rfl (Or.inl rfl) (pv 6))
        (pss_cons (ps_set (i := 17) sc_law.nd rfl (Or.inl rfl) (pv 3))
        (pss_cons (ps_if (pt_cmpR op_gt (pe_callB len_K (by rfl) T.z_len (by decide +kernel) (pa_cons (pv 14) pa_nil)) pe_int (nomark _)) (pss_one (ps_if (pt_not (pt_val (pe_call (ok_u_law_same T) (hr.mono (by omega)) rfl T.g_u_law_same T.k_u_law_same (b_u_law_same T) .nil pass0 (pa_cons (pv 15) (pa_cons (pe_tup (pa_cons pe_str (pa_cons (pe_ix ix_lK (pv 14) pe_int (fun _ _ => rfl)) pa_nil))) pa_nil))))) (pss_one (ps_ret pe_bl)) pss_nil)) (pss_cons (ps_setLc (i := 17) (own := [("h", 11)]) (g := gName 11) rfl sc_law.nd rfl rfl (sw_true rfl rfl rfl (by decide +kernel)) (pi_range1 rfl T.z_range (pa_cons (pv 2) pa_nil)) (blkOk_by (own := [("h", 11)]) (N := N_law) (sc := defScope s_law) (by decide +kernel)) (fun _ _ _ _ _ => (pg_name (i := 11) sc_law.nd rfl (Or.inl rfl))) (fun _ _ _ _ _ => (pts_one (pt_cmpR op_eq (pe_ix ix_lK (pv 13) (pv 11) (fun _ _ => rfl)) pe_int (nomark _)))) (fun _ _ _ _ _ => (pv 11)))
        (pss_cons (ps_set (i := 8) sc_law.nd rfl (Or.inl rfl) (pe_call (ok_u_law_fold T) (hr.mono (by omega)) rfl T.g_u_law_fold T.k_u_law_fold (b_u_law_fold T) .nil pass0 (pa_cons (pv 8) (pa_cons (pv 9) (pa_cons (pv 2) pa_nil)))))
        (pss_cons (ps_if (PW.pt (pw_or (pt_not (pt_val (pe_call (ok_u_law_is_lot T) (hr.mono (by omega)) rfl T.g_u_law_is_lot T.k_u_law_is_lot (b_u_law_is_lot T) .nil pass0 (pa_cons (pv 15) (pa_cons (pv 2) (pa_cons (pv 17) pa_nil)))))) (pw_or1 (pt_not (pt_val (pe_call (ok_u_law_same T) (hr.mono (by omega)) rfl T.g_u_law_same T.k_u_law_same (b_u_law_same T) .nil pass0 (pa_cons (pe_call (ok_differences T) (hr.mono (by omega)) rfl T.g_differences T.k_differences (b_differences T) .nil passL (pa_cons (pv 15) pa_nil)) (pa_cons (pv 8) pa_nil)))))))) (pss_one (ps_ret pe_bl)) pss_nil)
        (pss_one (ps_set (i := 16) sc_law.nd rfl (Or.inl rfl) (pv 15)))))))
        (pss_cons (ps_set (i := 18) sc_law.nd rfl (Or.inl rfl) (pe_call (ok_u_law_draws T) (hr.mono (by omega)) rfl T.g_u_law_draws T.k_u_law_draws (b_u_law_draws T) .nil pass0 (pa_cons (pe_call (ok_u_law_cell T) (hr.mono (by omega)) rfl T.g_u_law_cell T.k_u_law_cell (b_u_law_cell T) .nil pass0 (pa_cons (pv 0) (pa_cons pe_int pa_nil))) (pa_cons pe_int (pa_cons (pe_op op_rep (pe_lst (pa_cons pe_int (pa_cons pe_int pa_nil))) pe_int) pa_nil)))))
        (pss_cons (ps_for PassesOwn.never rfl (pi_range1 rfl T.z_range (pa_cons (pe_ix ix_lK (pv 1) pe_int (fun _ _ => rfl)) pa_nil)) (pg_name (i := 19) sc_law.nd rfl (Or.inl rfl)) (pss_cons (ps_set (i := 20) sc_law.nd rfl (Or.inl rfl) (pe_call (ok_u_law_kind T) (hr.mono (by omega)) rfl T.g_u_law_kind T.k_u_law_kind (b_u_law_kind T) .nil pass0 (pa_cons (pv 2) (pa_cons (pe_ix ix_lK (pv 18) (pe_op op_mul pe_int (pv 19)) (fun _ _ => rfl)) (pa_cons (pe_ix ix_lK (pv 18) (pe_op op_add (pe_op op_mul pe_int (pv 19)) pe_int) (fun _ _ => rfl)) pa_nil)))))
        (pss_cons (ps_set (i := 15) sc_law.nd rfl (Or.inl rfl) (pe_call (ok_u_law_told T) (hr.mono (by omega)) rfl T.g_u_law_told T.k_u_law_told (b_u_law_told T) .nil pass0 (pa_cons (pv 16) (pa_cons (pv 2) (pa_cons (pv 20) (pa_cons (pe_ix ix_lK (pv 18) (pe_op op_add (pe_op op_mul pe_int (pv 19)) pe_int) (fun _ _ => rfl)) pa_nil))))))
        (pss_cons (ps_set (i := 21) sc_law.nd rfl (Or.inl rfl) (pe_call (ok_u_law_due T) (hr.mono (by omega)) rfl T.g_u_law_due T.k_u_law_due (b_u_law_due T) .nil pass0 (pa_cons (pv 17) (pa_cons (pv 8) (pa_cons (pv 2) (pa_cons (pv 20) (pa_cons (pe_ix ix_lK (pv 18) (pe_op op_add (pe_op op_mul pe_int (pv 19)) pe_int) (fun _ _ => rfl)) pa_nil)))))))
        (pss_one (ps_if (pt_cmpR op_eq (pe_callB len_K (by rfl) T.z_len (by decide +kernel) (pa_cons (pv 21) pa_nil)) pe_int (nomark _)) (pss_one (ps_if (PW.pt (pw_or (pt_not (pt_val (pe_call (ok_u_law_same T) (hr.mono (by omega)) rfl T.g_u_law_same T.k_u_law_same (b_u_law_same T) .nil pass0 (pa_cons (pv 15) (pa_cons (pv 21) pa_nil))))) (pw_or1 (pt_not (pt_val (pe_call (ok_u_law_is_lot T) (hr.mono (by omega)) rfl T.g_u_law_is_lot T.k_u_law_is_lot (b_u_law_is_lot T) .nil pass0 (pa_cons (pv 16) (pa_cons (pv 2) (pa_cons (pv 17) pa_nil))))))))) (pss_one (ps_ret pe_bl)) pss_nil)) (pss_cons (ps_asg (pv 21) (pg_tup rfl (pgs_cons (pg_name (i := 2) sc_law.nd rfl (Or.inr rfl)) (pgs_cons (pg_name (i := 17) sc_law.nd rfl (Or.inl rfl)) (pgs_cons (pg_name (i := 8) sc_law.nd rfl (Or.inl rfl)) pgs_nil)))))
        (pss_cons (ps_if (PW.pt (pw_or (pt_not (pt_val (pe_call (ok_u_law_is_lot T) (hr.mono (by omega)) rfl T.g_u_law_is_lot T.k_u_law_is_lot (b_u_law_is_lot T) .nil pass0 (pa_cons (pv 15) (pa_cons (pv 2) (pa_cons (pv 17) pa_nil)))))) (pw_or1 (pt_not (pt_val (pe_call (ok_u_law_same T) (hr.mono (by omega)) rfl T.g_u_law_same T.k_u_law_same (b_u_law_same T) .nil pass0 (pa_cons (pe_call (ok_differences T) (hr.mono (by omega)) rfl T.g_differences T.k_differences (b_differences T) .nil passL (pa_cons (pv 15) pa_nil)) (pa_cons (pv 8) pa_nil)))))))) (pss_one (ps_ret pe_bl)) pss_nil)
        (pss_one (ps_set (i := 16) sc_law.nd rfl (Or.inl rfl) (pv 15)))))))))))
        (pss_one (ps_ret (pe_and (pe_call (ok_u_law_is_lot T) (hr.mono (by omega)) rfl T.g_u_law_is_lot T.k_u_law_is_lot (b_u_law_is_lot T) .nil pass0 (pa_cons (pv 6) (pa_cons (pv 5) (pa_cons (pv 3) pa_nil)))) (pe_one (pe_call (ok_u_law_is_lot T) (hr.mono (by omega)) rfl T.g_u_law_is_lot T.k_u_law_is_lot (b_u_law_is_lot T) .nil pass0 (pa_cons (pv 7) (pa_cons (pv 5) (pa_cons (pv 4) pa_nil)))))))))))))))))))))))))))), ?_⟩
    try dsimp only
    refine q_asgR (er_draws (K := K) (ms := [8, 24, 60, 24, 2, 13]) (ev_cell (k := 0) (ev_var rfl) ev_c hS) ev_c (el_lst (by repeat' first | exact ev_c | exact ev_var rfl | exact ea_nil | apply ea_cons | apply ev_int | apply ev_op | apply ev_un | exact ru_neg | exact rv_I0 | exact rv_eq rfl | exact rv_ne rfl | exact rv_I (by decide) | exact rv_I (.inl ⟨by decide, by decide⟩) | exact rv_I (.inr ⟨by decide, by decide⟩) | exact rv_I (by omega) | exact rv_I (.inl ⟨by omega, by omega⟩) | exact rv_I (.inr ⟨by omega, by omega⟩)) (by decide)) (cellA_nn _ _) (by decide) (by decide) (by decide +kernel)) fun v H1 e1 hp => ?_
    obtain ⟨wp, ds, rfl, hds, hD⟩ := hp
    obtain ⟨d0, ds, rfl, b0, hD⟩ := drawn_cons hD
    obtain ⟨d1, ds, rfl, b1, hD⟩ := drawn_cons hD
    obtain ⟨d2, ds, rfl, b2, hD⟩ := drawn_cons hD
    obtain ⟨d3, ds, rfl, b3, hD⟩ := drawn_cons hD
    obtain ⟨d4, ds, rfl, b4, hD⟩ := drawn_cons hD
    obtain ⟨d5, ds, rfl, b5, hD⟩ := drawn_cons hD
    obtain rfl := drawn_nil hD
    replace hS := ex_l e1 hS
    try dsimp only
    refine q_asg (v := .int (1 + d1)) (by repeat' first | exact ev_c | exact ev_var rfl | exact ea_nil | apply ea_cons | apply ev_int | exact rv_ixL (sq_of (hds)) rfl | apply ev_op | apply ev_un | exact ru_neg | exact rv_I0 | exact rv_eq rfl | exact rv_ne rfl | exact rv_I (by decide) | exact rv_I (.inl ⟨by decide, by decide⟩) | exact rv_I (.inr ⟨by decide, by decide⟩) | exact rv_I (by omega) | exact rv_I (.inl ⟨by omega, by omega⟩) | exact rv_I (.inr ⟨by omega, by omega⟩)) fun H2 e2 => ?_
    replace hS := ex_l e2 hS
    replace hds := e2 _ _ hds
    let M0 : L2.St → Hp → Prop := fun σ' G => (∃ n : Int, (1 ≤ n ∧ n ≤ 60) ∧ σ' = [some (.ref sa), some (.ref wp), some (.int n), none, none, none, none, none, none, none, none, none, none, none, none, none, none, none, none, none, none, none]) ∧ Ex H2 G
    try dsimp only
    refine q_alt M0 (b := decide (d0 = 0)) (et_test (ev_is (by repeat' first | exact ev_c | exact ev_var rfl | exact ea_nil | apply ea_cons | apply ev_int | exact rv_ixL (sq_of (hds)) rfl | apply ev_op | apply ev_un | exact ru_neg | exact rv_I0 | exact rv_eq rfl | exact rv_ne rfl | exact rv_I (by decide) | exact rv_I (.inl ⟨by decide, by decide⟩) | exact rv_I (.inr ⟨by decide, by decide⟩) | exact rv_I (by omega) | exact rv_I (.inl ⟨by omega, by omega⟩) | exact rv_I (.inr ⟨by omega, by omega⟩)) (by rw [dec_ii]))) (fun _ H3 e3 W hW => ?_) (fun _ H3 e3 => ⟨⟨_, by omega, rfl⟩, e3⟩) fun σ3 H3 h3 => ?_
    · exact s_asg (v := .int (1 + d2)) (by repeat' first | exact ev_c | exact ev_var rfl | exact ea_nil | apply ea_cons | apply ev_int | exact rv_ixL (sq_of (e3 _ _ hds)) rfl | apply ev_op | apply ev_un | exact ru_neg | exact rv_I0 | exact rv_eq rfl | exact rv_ne rfl | exact rv_I (by decide) | exact rv_I (.inl ⟨by decide, by decide⟩) | exact rv_I (.inr ⟨by decide, by decide⟩) | exact rv_I (by omega) | exact rv_I (.inl ⟨by omega, by omega⟩) | exact rv_I (.inr ⟨by omega, by omega⟩)) fun H5 e5 => hW _ _ ⟨⟨_, by omega, rfl⟩, e3.trans e5⟩
    obtain ⟨⟨n, hn, rfl⟩, e3⟩ := h3
    replace hS := ex_l e3 hS
    replace hds := e3 _ _ hds
    try dsimp only
    refine q_asgT2 (K := K) (er_lots (K := K) (n := n) (i := d3) (f := d4) (ev_var (i := 0) rfl) (ev_var (i := 2) rfl) (by repeat' first | exact ev_c | exact ev_var rfl | exact ea_nil | apply ea_cons | apply ev_int | exact rv_ixL (sq_of (hds)) rfl | apply ev_op | apply ev_un | exact ru_neg | exact rv_I0 | exact rv_eq rfl | exact rv_ne rfl | exact rv_I (by decide) | exact rv_I (.inl ⟨by decide, by decide⟩) | exact rv_I (.inr ⟨by decide, by decide⟩) | exact rv_I (by omega) | exact rv_I (.inl ⟨by omega, by omega⟩) | exact rv_I (.inr ⟨by omega, by omega⟩)) (by repeat' first | exact ev_c | exact ev_var rfl | exact ea_nil | apply ea_cons | apply ev_int | exact rv_ixL (sq_of (hds)) rfl | apply ev_op | apply ev_un | exact ru_neg | exact rv_I0 | exact rv_eq rfl | exact rv_ne rfl | exact rv_I (by decide) | exact rv_I (.inl ⟨by decide, by decide⟩) | exact rv_I (.inr ⟨by decide, by decide⟩) | exact rv_I (by omega) | exact rv_I (.inl ⟨by omega, by omega⟩) | exact rv_I (.inr ⟨by omega, by omega⟩)) hS hn) fun vx vy H4 e4 hp => ?_
    obtain ⟨fp, sp, xs, ys, rfl, rfl, hx, hy, hA, hB⟩ := hp
    replace hS := ex_l e4 hS
    replace hds := e4 _ _ hds
    have hAl := hA.len
    have hBl := hB.len
    try dsimp only
    refine q_asg (v := .int n) (ev_var (i := 2) rfl) fun H5 e5 => ?_
    replace hS := ex_l e5 hS
    replace hds := e5 _ _ hds
    replace hx := e5 _ _ hx
    replace hy := e5 _ _ hy
    try dsimp only
    refine q_asgR (er_mkAsc (K := K) (A := A) (ev_var (i := 2) rfl) (er_listK (er_held (i := 3) rfl (sq_of hx))) (by omega) hA) fun v H6 e6 hv => ?_
    replace hS := ex_l e6 hS
    replace hds := e6 _ _ hds
    replace hx := e6 _ _ hx
    replace hy := e6 _ _ hy
    try dsimp only
    refine q_asgR (er_mkAsc (K := K) (A := A) (ev_var (i := 2) rfl) (er_listK (er_held (i := 4) rfl (sq_of hy))) (by omega) hB) fun w H7 e7 hw => ?_
    replace hS := ex_l e7 hS
    replace hds := e7 _ _ hds
    replace hx := e7 _ _ hx
    replace hy := e7 _ _ hy
    replace hv := hv.ex e7
    try dsimp only
    refine q_asgR (er_counts (K := K) (ev_var (i := 3) rfl) (ev_var (i := 2) rfl) (sq_of hx) hn hA) fun u H8 e8 hu => ?_
    obtain ⟨cp, rfl, hc⟩ := hu
    replace hS := ex_l e8 hS
    replace hds := e8 _ _ hds
    replace hx := e8 _ _ hx
    replace hy := e8 _ _ hy
    replace hv := hv.ex e8
    replace hw := hw.ex e8
    try dsimp only
    refine q_asgR (er_counts (K := K) (ev_var (i := 4) rfl) (ev_var (i := 2) rfl) (sq_of hy) hn hB) fun u H9 e9 hu => ?_
    obtain ⟨op, rfl, ho⟩ := hu
    replace hS := ex_l e9 hS
    replace hds := e9 _ _ hds
    replace hx := e9 _ _ hx
    replace hy := e9 _ _ hy
    replace hv := hv.ex e9
    replace hw := hw.ex e9
    replace hc := e9 _ _ hc
    have dl : ∀ zs : List Int, (difL n zs).length ≤ 360 := fun zs => by rw [difL_len]; omega
    try dsimp only
    refine q_skip (et_orF (et_notT (et_B (ev_sameL (K := K) (el_diff (er_var (i := 6) rfl hv)) (ev_var (i := 8) rfl) (sq_of hc) (dl _)))) (et_notT (et_B (ev_sameL (K := K) (el_diff (er_var (i := 7) rfl hw)) (ev_var (i := 9) rfl) (sq_of ho) (dl _))))) fun H10 e10 => ?_
    replace hS := ex_l e10 hS
    replace hds := e10 _ _ hds
    replace hx := e10 _ _ hx
    replace hy := e10 _ _ hy
    replace hv := hv.ex e10
    replace hw := hw.ex e10
    replace hc := e10 _ _ hc
    replace ho := e10 _ _ ho
    try dsimp only
    refine q_asgL (xs := []) (el_lst ea_nil (by decide)) fun f H11 hf e11 h11 => ?_
    have emap : ∀ i : Nat, ((xs.take i).flatMap fun x => ys.map fun y => x + y).length = (xs.take i).length * ys.length := fun i => by
      generalize xs.take i = zs
      induction zs with
      | nil => simp
      | cons z zs ih => rw [List.flatMap_cons, List.length_append, ih, List.length_map, List.length_cons, Nat.succ_mul]; omega
    try dsimp only
    refine q_forLn (K := K) (a := fp) (xs := xs.map V.int) (j := 11) (ev_var (i := 3) rfl) (sq_of (e11 _ _ hx))
      (fun i σ' H' => ∃ hv : Option V, σ' = [some (.ref sa), some (.ref wp), some (.int n), some (.ref fp), some (.ref sp), some (.int n), some v, some w, some (.ref cp), some (.ref op), some (.ref f), hv, none, none, none, none, none, none, none, none, none, none] ∧ Ex H10 H' ∧ H' f = some (.lst ((((xs.take i).flatMap fun x => ys.map fun y => x + y).map (· % n)).map V.int)))
      (fun G eG => ⟨none, rfl, e11.trans eG, by rw [eG _ _ h11]; rfl⟩) (fun i σ' H' _ ⟨_, _, e, _⟩ => sq_of (e _ _ hx)) ?_ ?_
    · rintro i y σ' H' hi ⟨ov, rfl, ex, hf'⟩
      obtain ⟨x, rfl, hxi⟩ := some_int hi
      have hil : i < xs.length := (List.getElem?_eq_some_iff.mp hxi).1
      have lc := el_mapA (K := K) (j := 12) (vs := [12]) (te := tOp (rI (fun _ j => 0 < j) fun i j => V.int (i % j)) (tCB (fun xs H Q => (∃ i, xs = [V.int i] ∧ Q (V.int i) H) ∨ ∃ k, xs = [V.bl k] ∧ Q (V.int (if k = true then 1 else 0)) H) (tCons (tOp (rI0 fun i j => V.int (i + j)) (tVar 11) (tVar 12)) tNil)) (tVar 2)) (tl := tVar 4)
        (σ := [some (.ref sa), some (.ref wp), some (.int n), some (.ref fp), some (.ref sp), some (.int n), some v, some w, some (.ref cp), some (.ref op), some (.ref f), some (.int x), none, none, none, none, none, none, none, none, none, none]) (H := H') ys (fun y => (x + y) % n) (ev_var (i := 4) rfl) (sq_of (ex _ _ hy)) (by omega) (fun x => rfl) (fun y H3 _ _ => ev_op (ev_int (ev_op (ev_var (i := 11) rfl) (ev_var (i := 12) rfl) rv_I0)) (ev_var (i := 2) rfl) (rv_I (show (0 : Int) < n by omega)))
      try dsimp only
      refine q_ext hf' (ev_var (i := 10) rfl) lc ?_ fun H3 e3 => ⟨_, rfl, Ex.mut (ex.trans e3) hf, ?_⟩
      · simp only [List.length_map]
        rw [emap]
        have := Nat.mul_le_mul (show (xs.take i).length ≤ 60 by rw [List.length_take]; omega) (show ys.length ≤ 60 by omega)
        omega
      · rw [upd_same, List.take_succ, hxi, List.flatMap_append, List.map_append, List.map_append]
        simp
    rintro σ' H12 ⟨hv', rfl, e12, hsum⟩
    rw [List.length_map, List.take_length] at hsum
    replace hS := ex_l e12 hS
    replace hds := e12 _ _ hds
    replace hx := e12 _ _ hx
    replace hy := e12 _ _ hy
    replace hv := hv.ex e12
    replace hw := hw.ex e12
    replace hc := e12 _ _ hc
    replace ho := e12 _ _ ho
    have hin : ∀ z ∈ (xs.flatMap fun x => ys.map fun y => x + y).map (· % n), 0 ≤ z ∧ z < n := mod_in (by omega) _
    try dsimp only
    refine q_asgR (er_met (K := K) (er_held (i := 10) rfl (sq_of hsum)) (ev_var (i := 2) rfl) (by omega) hin) fun u H13 e13 hu => ?_
    obtain ⟨mt, rfl, hmt⟩ := hu
    try dsimp only
    refine q_asgL (el_twice (K := K) (j := 11) (m := 13) (ea_cons (ev_var (i := 2) rfl) ea_nil) (by omega) (fun x => rfl) (fun x => rfl) (fun x => rfl) (sq_of hmt)) fun tp H14 htp e14 h14 => ?_
    have e24 := e13.trans e14
    try dsimp only
    refine q_asgR (er_sum (K := K) (ev_var (i := 6) rfl) (ev_var (i := 7) rfl) (hv.ex e24) (hw.ex e24)) fun tv H15 e15 htv => ?_
    try dsimp only
    refine q_asg (v := v) (ev_var (i := 6) rfl) fun H16 e16 => ?_
    try dsimp only
    refine q_asg (v := .ref fp) (ev_var (i := 3) rfl) fun H17 e17 => ?_
    have e57 := e16.trans e17
    have e47 := e15.trans e57
    have e27 := e24.trans e47
    replace hS := ex_l e27 hS
    replace hds := e27 _ _ hds
    replace hx := e27 _ _ hx
    replace hy := e27 _ _ hy
    replace hv := hv.ex e27
    replace hw := hw.ex e27
    replace hc := e27 _ _ hc
    replace ho := e27 _ _ ho
    replace hmt := (e14.trans e47) _ _ hmt
    replace h14 := e47 _ _ h14
    replace htv := ToldIs.ex e57 htv
    have eadd : addRes n n xs ys = once n ((xs.flatMap fun x => ys.map fun y => x + y).map (· % n)) := if_pos rfl
    rw [eadd] at htv
    let J : L2.St → Hp → Prop := fun σ' G => ∃ (m : Int) (lv tv' : V) (c' m' : Addr) (zs : List Int) (hh kv kd du : Option V) (dp : Option V), σ' = [some (.ref sa), some (.ref wp), some (.int m), some (.ref fp), some (.ref sp), some (.int n), some v, some w, some (.ref c'), some (.ref op), some (.ref f), hh, none, some (.ref mt), some (.ref tp), some tv', some lv, some (.ref m'), dp, kv, kd, du] ∧ Ex H17 G ∧ m ≤ 60 ∧
      LotIs A.C_Lot lv G m zs ∧ G m' = some (.lst (zs.map V.int)) ∧ G c' = some (.lst ((difL m zs).map V.int))
    have same2 : ∀ {m : Int} {zs : List Int}, m ≤ 60 → (difL m zs).length ≤ 360 := fun h => by rw [difL_len]; omega
    let J0 : L2.St → Hp → Prop := fun σ' G => ∃ (lv : V) (c' m' : Addr) (zs : List Int) (hh : Option V), σ' = [some (.ref sa), some (.ref wp), some (.int n), some (.ref fp), some (.ref sp), some (.int n), some v, some w, some (.ref c'), some (.ref op), some (.ref f), hh, none, some (.ref mt), some (.ref tp), some tv, some lv, some (.ref m'), none, none, none, none] ∧ Ex H17 G ∧
      LotIs A.C_Lot lv G n zs ∧ G m' = some (.lst (zs.map V.int)) ∧ G c' = some (.lst ((difL n zs).map V.int))
    try dsimp only
    refine q_two J0 (b := decide (0 < ((twiceL n ((xs.flatMap fun x => ys.map fun y => x + y).map (· % n))).length : Int))) (et_test (ev_op (ev_lenV (K := K) (i := 14) rfl (sq_of h14)) ev_c rv_I0)) (fun hb H18 e18 W hW => ?_) (fun hb H18 e18 W hW => ?_) fun σ18 H18 h18 => ?_
    · rcases twice_cases n ((xs.flatMap fun x => ys.map fun y => x + y).map (· % n)) with ⟨_, ht⟩ | ⟨h, t, hme, ht⟩
      · rw [ht] at hb; exact absurd hb (by simp)
      rw [once_some hme] at htv
      rw [ht] at h14
      try dsimp only
      refine s_when (b := false) (et_notT (et_B (ev_same (K := K) (d := .tuple [.str "Meets", .int (h : Int)]) (ed_ev (ev_var (i := 15) rfl) fun G e => dp_ex (e18.trans e) htv) (ed_tup (K := K) (eds_cons (ed_str ev_c) (eds_cons (ed_int (ev_ix (K := K) (ev_var (i := 14) rfl) (ev_c (v := .int 0)) (sq_of (e18 _ _ h14)) (atI_nat (j := 0) rfl))) eds_nil)) (by show 2 ≤ 1000; decide)) (flat_res (.meets h))))) (fun z => Bool.noConfusion z) fun _ H19 e19 => hW _ _ ⟨v, cp, fp, xs, _, rfl, e18.trans e19, hv.ex (e18.trans e19), (e18.trans e19) _ _ hx, (e18.trans e19) _ _ hc⟩
    · rcases twice_cases n ((xs.flatMap fun x => ys.map fun y => x + y).map (· % n)) with ⟨hno, _⟩ | ⟨h, t, hme, ht⟩
      rotate_left
      · rw [ht] at hb; exact absurd hb (by rw [decide_eq_true (by rw [List.length_cons]; omega)]; simp)
      have hN := nodup_once hin hno
      rw [once_none hno] at htv
      have htv := told_lot htv
      have efold : foldL n xs ys = difL n (hrs n fun z => decide (z ∈ (xs.flatMap fun x => ys.map fun y => x + y).map (· % n))) := by
        unfold foldL
        exact List.map_congr_left fun d hd => (dif_sum (by omega) ⟨by omega, by have := List.mem_range.mp hd; omega⟩ hN).symm
      generalize hzs : (hrs n fun z => decide (z ∈ (xs.flatMap fun x => ys.map fun y => x + y).map (· % n))) = zs at *
      have mk := el_onces (K := K) (σ := [some (.ref sa), some (.ref wp), some (.int n), some (.ref fp), some (.ref sp), some (.int n), some v, some w, some (.ref cp), some (.ref op), some (.ref f), hv', none, some (.ref mt), some (.ref tp), some tv, some v, some (.ref fp), none, none, none, none]) (H := H18) (ta := tCons (tVar 2) tNil) (j := 11) (m := 13) (ea_cons (ev_var (i := 2) rfl) ea_nil) (by omega) (fun x => rfl) (fun x => rfl) (fun x => rfl) (sq_of (e18 _ _ hmt)) hN
      rw [hzs] at mk
      try dsimp only
      refine q_asgL mk fun mp H19 hmp e19 h19 => ?_
      have e89 := e18.trans e19
      try dsimp only
      refine q_asgR (er_fold (K := K) (n := n) (xs := xs) (ys := ys) (ev_var (i := 8) rfl) (ev_var (i := 9) rfl) (ev_var (i := 2) rfl) (sq_of (e89 _ _ hc)) (sq_of (e89 _ _ ho)) hn (by omega)) fun u H20 e20 hu => ?_
      obtain ⟨c2, rfl, hc2⟩ := hu
      rw [efold] at hc2
      have e80 := e89.trans e20
      try dsimp only
      refine q_skip (et_orF (et_notT (et_B (ev_isLot (er_var (i := 15) rfl (htv.ex e80)) (ev_var (i := 2) rfl) (er_held (i := 17) rfl (sq_of (e20 _ _ h19)))))) (et_notT (et_B (ev_sameL (K := K) (el_diff (er_var (i := 15) rfl (htv.ex e80))) (ev_var (i := 8) rfl) (sq_of hc2) (same2 hn.2))))) fun H21 e21 => ?_
      try dsimp only
      exact s_asg (v := tv) (ev_var (i := 15) rfl) fun H22 e22 => hW _ _ ⟨tv, c2, mp, zs, _, rfl, e80.trans (e21.trans e22), htv.ex (e80.trans (e21.trans e22)), (e20.trans (e21.trans e22)) _ _ h19, (e21.trans e22) _ _ hc2⟩
    obtain ⟨lv, c', m', zs, hh, rfl, e18, hlv, hm', hc'⟩ := h18
    replace hS := ex_l e18 hS
    replace hds := e18 _ _ hds
    have hall : ∀ i : Nat, i < 12 → ((List.replicate (12 : Int).toNat [(7 : Int), 360]).flatten)[2 * i]? = some 7 ∧ ((List.replicate (12 : Int).toNat [(7 : Int), 360]).flatten)[2 * i + 1]? = some 360 := by decide
    try dsimp only
    refine q_asgR (er_draws (K := K) (ms := (List.replicate (12 : Int).toNat [(7 : Int), 360]).flatten) (ev_cell (k := 3) (ev_var (i := 0) rfl) ev_c hS) ev_c (el_rep2 ev_c ev_c ev_c (by decide)) (cellA_nn _ _) (by decide) (by decide) (by decide +kernel)) fun u H19 e19 hp => ?_
    obtain ⟨dp, dd, rfl, hdd, hDD⟩ := hp
    have e79 := e18.trans e19
    try dsimp only
    refine q_forR1 (j := 19) (n := d5) (ea_cons (ev_ix (K := K) (ev_var (i := 1) rfl) (ev_c (v := .int 5)) (sq_of (e19 _ _ hds)) (atI_nat (j := 5) rfl)) ea_nil) (by omega)
      (fun i σ' G => ∃ (m : Int) (lv tv' : V) (c' m' : Addr) (zs : List Int) (hh kv kd du : Option V), σ' = [some (.ref sa), some (.ref wp), some (.int m), some (.ref fp), some (.ref sp), some (.int n), some v, some w, some (.ref c'), some (.ref op), some (.ref f), hh, none, some (.ref mt), some (.ref tp), some tv', some lv, some (.ref m'), some (.ref dp), kv, kd, du] ∧ Ex H17 G ∧ G dp = some (.lst (dd.map V.int)) ∧ m ≤ 60 ∧
        LotIs A.C_Lot lv G m zs ∧ G m' = some (.lst (zs.map V.int)) ∧ G c' = some (.lst ((difL m zs).map V.int)))
      (fun G eG => ⟨n, lv, tv, c', m', zs, hh, none, none, none, rfl, e79.trans eG, eG _ _ hdd, hn.2, hlv.ex (e19.trans eG), (e19.trans eG) _ _ hm', (e19.trans eG) _ _ hc'⟩) ?_ ?_
    · clear hlv hm' hc' hall hh
      rintro i σ' G hi ⟨m, lv, tv', c', m', zs, hh, kv, kd, du, rfl, eG, hdd, hm60, hlv, hm', hc'⟩
      have hall : ∀ i : Nat, i < 12 → ((List.replicate (12 : Int).toNat [(7 : Int), 360]).flatten)[2 * i]? = some 7 ∧ ((List.replicate (12 : Int).toNat [(7 : Int), 360]).flatten)[2 * i + 1]? = some 360 := by decide
      have h12 := hall i (by omega)
      obtain ⟨k0, hk0, k00, k01⟩ := hDD.2 _ _ h12.1
      obtain ⟨k1, hk1, k10, k11⟩ := hDD.2 _ _ h12.2
      have hm1 := hlv.hn
      have hZ := hlv.asc
      have a0 : ∀ {G2 : Hp} {σ : L2.St}, σ[18]? = some (some (.ref dp)) → σ[19]? = some (some (.int (i : Int))) → Ex G G2 → Ev (tOp (rIxL K) (tVar 18) (tOp (rI CMul fun i j => V.int (i * j)) (tC (.int 2)) (tVar 19))) σ G2 (.int k0) := fun h1 h2 e =>
        ev_ix (K := K) (ev_var h1) (ev_op ev_c (ev_var h2) (rv_I (show CMul 2 (i : Int) from .inl ⟨by decide, by decide⟩))) (sq_of (e _ _ hdd)) (by rw [show (2 : Int) * (i : Int) = ((2 * i : Nat) : Int) by omega]; exact atI_nat (by rw [List.getElem?_map, hk0]; rfl))
      have a1 : ∀ {G2 : Hp} {σ : L2.St}, σ[18]? = some (some (.ref dp)) → σ[19]? = some (some (.int (i : Int))) → Ex G G2 → Ev (tOp (rIxL K) (tVar 18) (tOp (rI0 fun i j => V.int (i + j)) (tOp (rI CMul fun i j => V.int (i * j)) (tC (.int 2)) (tVar 19)) (tC (.int 1)))) σ G2 (.int k1) := fun h1 h2 e =>
        ev_ix (K := K) (ev_var h1) (ev_op (ev_op ev_c (ev_var h2) (rv_I (show CMul 2 (i : Int) from .inl ⟨by decide, by decide⟩))) ev_c rv_I0) (sq_of (e _ _ hdd)) (by rw [show (2 : Int) * (i : Int) + 1 = ((2 * i + 1 : Nat) : Int) by omega]; exact atI_nat (by rw [List.getElem?_map, hk1]; rfl))
      obtain ⟨r, hr⟩ := deed_ex (n := m) (kd := k0) (k := k1) zs ⟨k00, k01⟩
      try dsimp only
      refine q_asg (v := .int (kindF m k0 k1)) (ev_kind (ev_var (i := 2) rfl) (a0 rfl rfl (Ex.refl _)) (a1 rfl rfl (Ex.refl _)) ⟨hm1.1, hm60⟩) fun G2 eG2 => ?_
      try dsimp only
      refine q_asgR (er_told (K := K) (ev_var (i := 16) rfl) (ev_var (i := 2) rfl) (ev_var (i := 20) rfl) (a1 rfl rfl eG2) (hlv.ex eG2) hm60 hr) fun tv2 G3 eG3 ht => ?_
      have e23 := eG2.trans eG3
      try dsimp only
      refine q_asgR (er_due (K := K) (ev_var (i := 17) rfl) (ev_var (i := 8) rfl) (ev_var (i := 2) rfl) (ev_var (i := 20) rfl) (a1 rfl rfl e23) (sq_of (e23 _ _ hm')) (sq_of (e23 _ _ hc')) ⟨hm1.1, hm60⟩ hZ hr) fun dv G4 eG4 hdue => ?_
      have e24 := e23.trans eG4
      replace ht := ToldIs.ex eG4 ht
      rcases deed_calm hr with ⟨h, rfl⟩ | ⟨m2, zs2, rfl⟩
      · cases hdue with
        | tup sq al =>
          have hl2 := (dp_get al).1
          try dsimp only
          refine s_if (b := true) (et_test (ev_is (ev_op (ev_cb (r := rLenK K) (z := .int 2) (ea_cons (ev_var (i := 21) rfl) ea_nil) fun G5 e5 Q q => ⟨_, 2, rfl, .inr ⟨_, ex_t e5 sq, by rw [hl2]; rfl⟩, q G5 (Ex.refl _)⟩) ev_c (rv_eq rfl)) (by simp))) (fun _ G5 e5 => ?_) (fun z => Bool.noConfusion z)
          try dsimp only
          refine s_when (b := false) (et_orF (et_notT (et_B (ev_same (K := K) (d := .tuple [.str "Meets", .int (h : Int)]) (ed_ev (ev_var (i := 15) rfl) fun G e => dp_ex (e5.trans e) ht) (ed_ev (ev_var (i := 21) rfl) fun G e => .tup (ex_t (e5.trans e) sq) (dpa_ex (e5.trans e) al)) (flat_res (.meets h))))) (et_notT (et_B (ev_isLot (er_var (i := 16) rfl (hlv.ex (e24.trans e5))) (ev_var (i := 2) rfl) (er_held (i := 17) rfl (sq_of ((e24.trans e5) _ _ hm'))))))) (fun z => Bool.noConfusion z) fun _ G6 e6 => ?_
          have e46 := e24.trans (e5.trans e6)
          exact ⟨m, lv, _, c', m', zs, _, _, _, _, rfl, eG.trans e46, e46 _ _ hdd, hm60, hlv.ex e46, e46 _ _ hm', e46 _ _ hc'⟩
      · obtain ⟨p, a2, b2, rfl, hp, ha2, hb2⟩ := hdue
        have hm2 := deed_small ⟨hm1.1, hm60⟩ hZ hr
        have ht := told_lot ht
        try dsimp only
        refine s_if (b := false) (et_test (ev_is (ev_op (ev_cb (r := rLenK K) (z := .int 3) (ea_cons (ev_var (i := 21) rfl) ea_nil) fun G5 e5 Q q => ⟨_, 3, rfl, .inr ⟨_, st_of (e5 _ _ hp), rfl⟩, q G5 (Ex.refl _)⟩) ev_c (rv_eq rfl)) (by simp))) (fun z => Bool.noConfusion z) (fun _ G5 e5 => ?_)
        try dsimp only
        refine q_asgT3 (K := K) (P := fun x y z => x = .int m2 ∧ y = .ref a2 ∧ z = .ref b2) (er_ev (ev_var (i := 21) rfl) fun G e => ⟨p, _, _, _, rfl, (e5.trans e) _ _ hp, rfl, rfl, rfl⟩) fun x y z G6 e6 hxyz => ?_
        obtain ⟨rfl, rfl, rfl⟩ := hxyz
        have e46 := e5.trans e6
        try dsimp only
        refine q_skip (et_orF (et_notT (et_B (ev_isLot (er_var (i := 15) rfl (ht.ex e46)) (ev_var (i := 2) rfl) (er_held (i := 17) rfl (sq_of (e46 _ _ ha2)))))) (et_notT (et_B (ev_sameL (K := K) (el_diff (er_var (i := 15) rfl (ht.ex e46))) (ev_var (i := 8) rfl) (sq_of (e46 _ _ hb2)) (same2 hm2))))) fun G7 e7 => ?_
        try dsimp only
        refine s_asg (v := tv2) (ev_var (i := 15) rfl) fun G8 e8 => ?_
        have e48 := e46.trans (e7.trans e8)
        exact ⟨m2, tv2, tv2, b2, a2, zs2, _, _, _, _, rfl, eG.trans (e24.trans e48), (e24.trans e48) _ _ hdd, hm2, ht.ex e48, e48 _ _ ha2, e48 _ _ hb2⟩
    rintro σ' G ⟨m, lv, tv', c', m', zs, hh, kv, kd, du, rfl, eG, _, _, _, _, _⟩
    try dsimp only
    exact s_ret (v := .bl true) (ev_andV (a := true) (b := true) (ev_isLot (er_var (i := 6) rfl (hv.ex eG)) (ev_var (i := 5) rfl) (er_held (i := 3) rfl (sq_of (eG _ _ hx)))) fun _ => ev_isLot (er_var (i := 7) rfl (hw.ex eG)) (ev_var (i := 5) rfl) (er_held (i := 4) rfl (sq_of (eG _ _ hy)))) fun H17 e17 => k H17
theorem all_mk {l : PySem.W.OpenLaw} {w : World} {K : PySem.W.Frag} {h : Heap} {mg : Str → Option Value} {fa : Addr} (X : K.In h) (G : h.Ns mainGlobals mg) (hfa : mg "law" = some (.ref fa))
    {od0 an0 : Option Addr} {sl0 : Array (Option Value)} {oc0 kV0 dc0 pm0 cd0 ct0 : Value} {f0 : Addr}
    {od1 an1 : Option Addr} {sl1 : Array (Option Value)} {oc1 kV1 dc1 pm1 cd1 ct1 : Value} {f1 : Addr}
    {od2 an2 : Option Addr} {sl2 : Array (Option Value)} {oc2 kV2 dc2 pm2 cd2 ct2 : Value} {f2 : Addr}
    {od3 an3 : Option Addr} {sl3 : Array (Option Value)} {oc3 kV3 dc3 pm3 cd3 ct3 : Value} {f3 : Addr}
    {od4 an4 : Option Addr} {sl4 : Array (Option Value)} {oc4 kV4 dc4 pm4 cd4 ct4 : Value} {f4 : Addr}
    {od5 an5 : Option Addr} {sl5 : Array (Option Value)} {oc5 kV5 dc5 pm5 cd5 ct5 : Value} {f5 : Addr}
    {od6 an6 : Option Addr} {sl6 : Array (Option Value)} {oc6 kV6 dc6 pm6 cd6 ct6 : Value} {f6 : Addr}
    {od7 an7 : Option Addr} {sl7 : Array (Option Value)} {oc7 kV7 dc7 pm7 cd7 ct7 : Value} {f7 : Addr}
    {od8 an8 : Option Addr} {sl8 : Array (Option Value)} {oc8 kV8 dc8 pm8 cd8 ct8 : Value} {f8 : Addr}
    {od9 an9 : Option Addr} {sl9 : Array (Option Value)} {oc9 kV9 dc9 pm9 cd9 ct9 : Value} {f9 : Addr}
    {od10 an10 : Option Addr} {sl10 : Array (Option Value)} {oc10 kV10 dc10 pm10 cd10 ct10 : Value} {f10 : Addr}
    {od11 an11 : Option Addr} {sl11 : Array (Option Value)} {oc11 kV11 dc11 pm11 cd11 ct11 : Value} {f11 : Addr}
    {od12 an12 : Option Addr} {sl12 : Array (Option Value)} {oc12 kV12 dc12 pm12 cd12 ct12 : Value} {f12 : Addr}
    {od13 an13 : Option Addr} {sl13 : Array (Option Value)} {oc13 kV13 dc13 pm13 cd13 ct13 : Value} {f13 : Addr}
    {od14 an14 : Option Addr} {sl14 : Array (Option Value)} {oc14 kV14 dc14 pm14 cd14 ct14 : Value} {f14 : Addr}
    {od15 an15 : Option Addr} {sl15 : Array (Option Value)} {oc15 kV15 dc15 pm15 cd15 ct15 : Value} {f15 : Addr}
    {od16 an16 : Option Addr} {sl16 : Array (Option Value)} {oc16 kV16 dc16 pm16 cd16 ct16 : Value} {f16 : Addr}
    {od17 an17 : Option Addr} {sl17 : Array (Option Value)} {oc17 kV17 dc17 pm17 cd17 ct17 : Value} {f17 : Addr}
    {od18 an18 : Option Addr} {sl18 : Array (Option Value)} {oc18 kV18 dc18 pm18 cd18 ct18 : Value} {f18 : Addr}
    {od19 an19 : Option Addr} {sl19 : Array (Option Value)} {oc19 kV19 dc19 pm19 cd19 ct19 : Value} {f19 : Addr}
    {od20 an20 : Option Addr} {sl20 : Array (Option Value)} {oc20 kV20 dc20 pm20 cd20 ct20 : Value} {f20 : Addr}
    {od21 an21 : Option Addr} {sl21 : Array (Option Value)} {oc21 kV21 dc21 pm21 cd21 ct21 : Value} {f21 : Addr}
    {od22 an22 : Option Addr} {sl22 : Array (Option Value)} {oc22 kV22 dc22 pm22 cd22 ct22 : Value} {f22 : Addr}
    {od23 an23 : Option Addr} {sl23 : Array (Option Value)} {oc23 kV23 dc23 pm23 cd23 ct23 : Value} {f23 : Addr}
    {od24 an24 : Option Addr} {sl24 : Array (Option Value)} {oc24 kV24 dc24 pm24 cd24 ct24 : Value} {f24 : Addr}
    {od25 an25 : Option Addr} {sl25 : Array (Option Value)} {oc25 kV25 dc25 pm25 cd25 ct25 : Value} {f25 : Addr}
    {od26 an26 : Option Addr} {sl26 : Array (Option Value)} {oc26 kV26 dc26 pm26 cd26 ct26 : Value} {f26 : Addr}
    {od27 an27 : Option Addr} {sl27 : Array (Option Value)} {oc27 kV27 dc27 pm27 cd27 ct27 : Value} {f27 : Addr}
    {od28 an28 : Option Addr} {sl28 : Array (Option Value)} {oc28 kV28 dc28 pm28 cd28 ct28 : Value} {f28 : Addr}
    {od29 an29 : Option Addr} {sl29 : Array (Option Value)} {oc29 kV29 dc29 pm29 cd29 ct29 : Value} {f29 : Addr}
    {od30 an30 : Option Addr} {sl30 : Array (Option Value)} {oc30 kV30 dc30 pm30 cd30 ct30 : Value} {f30 : Addr}
    {od31 an31 : Option Addr} {sl31 : Array (Option Value)} {oc31 kV31 dc31 pm31 cd31 ct31 : Value} {f31 : Addr}
    {od32 an32 : Option Addr} {sl32 : Array (Option Value)} {oc32 kV32 dc32 pm32 cd32 ct32 : Value} {f32 : Addr}
    {od33 an33 : Option Addr} {sl33 : Array (Option Value)} {oc33 kV33 dc33 pm33 cd33 ct33 : Value} {f33 : Addr}
    {od34 an34 : Option Addr} {sl34 : Array (Option Value)} {oc34 kV34 dc34 pm34 cd34 ct34 : Value} {f34 : Addr}
    {od35 an35 : Option Addr} {sl35 : Array (Option Value)} {oc35 kV35 dc35 pm35 cd35 ct35 : Value} {f35 : Addr}
    {od36 an36 : Option Addr} {sl36 : Array (Option Value)} {oc36 kV36 dc36 pm36 cd36 ct36 : Value} {f36 : Addr}
    {od37 an37 : Option Addr} {sl37 : Array (Option Value)} {oc37 kV37 dc37 pm37 cd37 ct37 : Value} {f37 : Addr}
    {od38 an38 : Option Addr} {sl38 : Array (Option Value)} {oc38 kV38 dc38 pm38 cd38 ct38 : Value} {f38 : Addr}
    {od39 an39 : Option Addr} {sl39 : Array (Option Value)} {oc39 kV39 dc39 pm39 cd39 ct39 : Value} {f39 : Addr}
    {od40 an40 : Option Addr} {sl40 : Array (Option Value)} {oc40 kV40 dc40 pm40 cd40 ct40 : Value} {f40 : Addr}
    {od41 an41 : Option Addr} {sl41 : Array (Option Value)} {oc41 kV41 dc41 pm41 cd41 ct41 : Value} {f41 : Addr}
    {od42 an42 : Option Addr} {sl42 : Array (Option Value)} {oc42 kV42 dc42 pm42 cd42 ct42 : Value} {f42 : Addr}
    {od43 an43 : Option Addr} {sl43 : Array (Option Value)} {oc43 kV43 dc43 pm43 cd43 ct43 : Value} {f43 : Addr}
    {od44 an44 : Option Addr} {sl44 : Array (Option Value)} {oc44 kV44 dc44 pm44 cd44 ct44 : Value} {f44 : Addr}
    {C_BadNumber : Addr} {C_RepeatedHour : Addr} {C_OtherHours : Addr} {C_Meets : Addr} {C_NotADivisor : Addr} {C_Lot : Addr}
    {nm_BadNumber q_BadNumber : Str} {N_BadNumber : Addr} {bs_BadNumber : List Value} {sn_BadNumber : List Str} {sub_BadNumber : List Value} {ab_BadNumber : Bool} {col_BadNumber : Option Bool} {dd_BadNumber : Option Addr} {m0_BadNumber m1_BadNumber m2_BadNumber m3_BadNumber m5_BadNumber : Option Value}
    {nm_RepeatedHour q_RepeatedHour : Str} {N_RepeatedHour : Addr} {bs_RepeatedHour : List Value} {sn_RepeatedHour : List Str} {sub_RepeatedHour : List Value} {ab_RepeatedHour : Bool} {col_RepeatedHour : Option Bool} {dd_RepeatedHour : Option Addr} {m0_RepeatedHour m1_RepeatedHour m2_RepeatedHour m3_RepeatedHour m5_RepeatedHour : Option Value}
    {nm_Meets q_Meets : Str} {N_Meets : Addr} {bs_Meets : List Value} {sn_Meets : List Str} {sub_Meets : List Value} {ab_Meets : Bool} {col_Meets : Option Bool} {dd_Meets : Option Addr} {m0_Meets m1_Meets m2_Meets m3_Meets m5_Meets : Option Value}
    {nm_NotADivisor q_NotADivisor : Str} {N_NotADivisor : Addr} {bs_NotADivisor : List Value} {sn_NotADivisor : List Str} {sub_NotADivisor : List Value} {ab_NotADivisor : Bool} {col_NotADivisor : Option Bool} {dd_NotADivisor : Option Addr} {m0_NotADivisor m1_NotADivisor m2_NotADivisor m3_NotADivisor m5_NotADivisor : Option Value}
    {fo_Lot_lshift ro_Lot_lshift : Option Value}
    {fo_Lot_rshift ro_Lot_rshift : Option Value}
    {fo_Lot_mul ro_Lot_mul : Option Value} {rf_Lot_mul : Addr}
    {fo_Lot_mod ro_Lot_mod : Option Value}
    {fo_Lot_pow ro_Lot_pow : Option Value}
    {tk_Lot_MOST : Tok}
    {p5 : Addr} {rest5 : List Value}
    (g_BadNumber : PySem.W.nsIn K mainGlobals "BadNumber" = some (some (.ref C_BadNumber)))
    (g_RepeatedHour : PySem.W.nsIn K mainGlobals "RepeatedHour" = some (some (.ref C_RepeatedHour)))
    (g_OtherHours : PySem.W.nsIn K mainGlobals "OtherHours" = some (some (.ref C_OtherHours)))
    (g_Meets : PySem.W.nsIn K mainGlobals "Meets" = some (some (.ref C_Meets)))
    (g_NotADivisor : PySem.W.nsIn K mainGlobals "NotADivisor" = some (some (.ref C_NotADivisor)))
    (g_Lot : PySem.W.nsIn K mainGlobals "Lot" = some (some (.ref C_Lot)))
    (a0 : PySem.W.findIn K (.ref C_BadNumber) "__init__" = some (some (.ref f0)))
    (l0 : K.lookup f0 = some ⟨oc0, od0, .func (PySem.W.fnOf "__init__" "BadNumber.__init__" (defArgs s_BadNumber_init) (defBody s_BadNumber_init) (defScope s_BadNumber_init) .none kV0 dc0 pm0 an0 cd0 ct0), sl0⟩)
    (c0 : PySem.W.codeIn K cd0 "BadNumber.__init__" = true)
    (k0 : PySem.W.keepIn K (.ref f0) = true)
    (a1 : PySem.W.findIn K (.ref C_RepeatedHour) "__init__" = some (some (.ref f1)))
    (l1 : K.lookup f1 = some ⟨oc1, od1, .func (PySem.W.fnOf "__init__" "RepeatedHour.__init__" (defArgs s_RepeatedHour_init) (defBody s_RepeatedHour_init) (defScope s_RepeatedHour_init) .none kV1 dc1 pm1 an1 cd1 ct1), sl1⟩)
    (c1 : PySem.W.codeIn K cd1 "RepeatedHour.__init__" = true)
    (k1 : PySem.W.keepIn K (.ref f1) = true)
    (a2 : PySem.W.findIn K (.ref C_Meets) "__init__" = some (some (.ref f2)))
    (l2 : K.lookup f2 = some ⟨oc2, od2, .func (PySem.W.fnOf "__init__" "Meets.__init__" (defArgs s_Meets_init) (defBody s_Meets_init) (defScope s_Meets_init) .none kV2 dc2 pm2 an2 cd2 ct2), sl2⟩)
    (c2 : PySem.W.codeIn K cd2 "Meets.__init__" = true)
    (k2 : PySem.W.keepIn K (.ref f2) = true)
    (a3 : PySem.W.findIn K (.ref C_NotADivisor) "__init__" = some (some (.ref f3)))
    (l3 : K.lookup f3 = some ⟨oc3, od3, .func (PySem.W.fnOf "__init__" "NotADivisor.__init__" (defArgs s_NotADivisor_init) (defBody s_NotADivisor_init) (defScope s_NotADivisor_init) .none kV3 dc3 pm3 an3 cd3 ct3), sl3⟩)
    (c3 : PySem.W.codeIn K cd3 "NotADivisor.__init__" = true)
    (k3 : PySem.W.keepIn K (.ref f3) = true)
    (a4 : PySem.W.findIn K (.ref C_Lot) "__init__" = some (some (.ref f4)))
    (l4 : K.lookup f4 = some ⟨oc4, od4, .func (PySem.W.fnOf "__init__" "Lot.__init__" (defArgs s_Lot_init) (defBody s_Lot_init) (defScope s_Lot_init) .none kV4 dc4 pm4 an4 cd4 ct4), sl4⟩)
    (c4 : PySem.W.codeIn K cd4 "Lot.__init__" = true)
    (k4 : PySem.W.keepIn K (.ref f4) = true)
    (pa_5 : PySem.W.findIn K (.ref C_Lot) "members" = some (some (.ref p5)))
    (a5 : PySem.W.recIn K p5 "property" = some (.ref f5 :: rest5))
    (l5 : K.lookup f5 = some ⟨oc5, od5, .func (PySem.W.fnOf "members" "Lot.members" (defArgs s_Lot_members) (defBody s_Lot_members) (defScope s_Lot_members) .none kV5 dc5 pm5 an5 cd5 ct5), sl5⟩)
    (c5 : PySem.W.codeIn K cd5 "Lot.members" = true)
    (k5 : PySem.W.keepIn K (.ref f5) = true)
    (a6 : PySem.W.findIn K (.ref C_Lot) "__len__" = some (some (.ref f6)))
    (l6 : K.lookup f6 = some ⟨oc6, od6, .func (PySem.W.fnOf "__len__" "Lot.__len__" (defArgs s_Lot_len) (defBody s_Lot_len) (defScope s_Lot_len) .none kV6 dc6 pm6 an6 cd6 ct6), sl6⟩)
    (c6 : PySem.W.codeIn K cd6 "Lot.__len__" = true)
    (k6 : PySem.W.keepIn K (.ref f6) = true)
    (a7 : PySem.W.findIn K (.ref C_Lot) "__iter__" = some (some (.ref f7)))
    (l7 : K.lookup f7 = some ⟨oc7, od7, .func (PySem.W.fnOf "__iter__" "Lot.__iter__" (defArgs s_Lot_iter) (defBody s_Lot_iter) (defScope s_Lot_iter) .none kV7 dc7 pm7 an7 cd7 ct7), sl7⟩)
    (c7 : PySem.W.codeIn K cd7 "Lot.__iter__" = true)
    (k7 : PySem.W.keepIn K (.ref f7) = true)
    (a8 : PySem.W.findIn K (.ref C_Lot) "__lshift__" = some (some (.ref f8)))
    (l8 : K.lookup f8 = some ⟨oc8, od8, .func (PySem.W.fnOf "__lshift__" "Lot.__lshift__" (defArgs s_Lot_lshift) (defBody s_Lot_lshift) (defScope s_Lot_lshift) .none kV8 dc8 pm8 an8 cd8 ct8), sl8⟩)
    (c8 : PySem.W.codeIn K cd8 "Lot.__lshift__" = true)
    (k8 : PySem.W.keepIn K (.ref f8) = true)
    (a9 : PySem.W.findIn K (.ref C_Lot) "__rshift__" = some (some (.ref f9)))
    (l9 : K.lookup f9 = some ⟨oc9, od9, .func (PySem.W.fnOf "__rshift__" "Lot.__rshift__" (defArgs s_Lot_rshift) (defBody s_Lot_rshift) (defScope s_Lot_rshift) .none kV9 dc9 pm9 an9 cd9 ct9), sl9⟩)
    (c9 : PySem.W.codeIn K cd9 "Lot.__rshift__" = true)
    (k9 : PySem.W.keepIn K (.ref f9) = true)
    (a10 : PySem.W.findIn K (.ref C_Lot) "__neg__" = some (some (.ref f10)))
    (l10 : K.lookup f10 = some ⟨oc10, od10, .func (PySem.W.fnOf "__neg__" "Lot.__neg__" (defArgs s_Lot_neg) (defBody s_Lot_neg) (defScope s_Lot_neg) .none kV10 dc10 pm10 an10 cd10 ct10), sl10⟩)
    (c10 : PySem.W.codeIn K cd10 "Lot.__neg__" = true)
    (k10 : PySem.W.keepIn K (.ref f10) = true)
    (a11 : PySem.W.findIn K (.ref C_Lot) "__invert__" = some (some (.ref f11)))
    (l11 : K.lookup f11 = some ⟨oc11, od11, .func (PySem.W.fnOf "__invert__" "Lot.__invert__" (defArgs s_Lot_invert) (defBody s_Lot_invert) (defScope s_Lot_invert) .none kV11 dc11 pm11 an11 cd11 ct11), sl11⟩)
    (c11 : PySem.W.codeIn K cd11 "Lot.__invert__" = true)
    (k11 : PySem.W.keepIn K (.ref f11) = true)
    (a12 : PySem.W.nsIn K mainGlobals "_check_hours" = some (some (.ref f12)))
    (l12 : K.lookup f12 = some ⟨oc12, od12, .func (PySem.W.fnOf "_check_hours" "_check_hours" (defArgs s_u_check_hours) (defBody s_u_check_hours) (defScope s_u_check_hours) .none kV12 dc12 pm12 an12 cd12 ct12), sl12⟩)
    (c12 : PySem.W.codeIn K cd12 "_check_hours" = true)
    (k12 : PySem.W.keepIn K (.ref f12) = true)
    (a13 : PySem.W.nsIn K mainGlobals "_lot_of_each" = some (some (.ref f13)))
    (l13 : K.lookup f13 = some ⟨oc13, od13, .func (PySem.W.fnOf "_lot_of_each" "_lot_of_each" (defArgs s_u_lot_of_each) (defBody s_u_lot_of_each) (defScope s_u_lot_of_each) .none kV13 dc13 pm13 an13 cd13 ct13), sl13⟩)
    (c13 : PySem.W.codeIn K cd13 "_lot_of_each" = true)
    (k13 : PySem.W.keepIn K (.ref f13) = true)
    (a14 : PySem.W.findIn K (.ref C_Lot) "__mul__" = some (some (.ref f14)))
    (l14 : K.lookup f14 = some ⟨oc14, od14, .func (PySem.W.fnOf "__mul__" "Lot.__mul__" (defArgs s_Lot_mul) (defBody s_Lot_mul) (defScope s_Lot_mul) .none kV14 dc14 pm14 an14 cd14 ct14), sl14⟩)
    (c14 : PySem.W.codeIn K cd14 "Lot.__mul__" = true)
    (k14 : PySem.W.keepIn K (.ref f14) = true)
    (a15 : PySem.W.findIn K (.ref C_Lot) "__rmul__" = some (some (.ref f15)))
    (l15 : K.lookup f15 = some ⟨oc15, od15, .func (PySem.W.fnOf "__rmul__" "Lot.__rmul__" (defArgs s_Lot_rmul) (defBody s_Lot_rmul) (defScope s_Lot_rmul) .none kV15 dc15 pm15 an15 cd15 ct15), sl15⟩)
    (c15 : PySem.W.codeIn K cd15 "Lot.__rmul__" = true)
    (k15 : PySem.W.keepIn K (.ref f15) = true)
    (a16 : PySem.W.findIn K (.ref C_Lot) "__add__" = some (some (.ref f16)))
    (l16 : K.lookup f16 = some ⟨oc16, od16, .func (PySem.W.fnOf "__add__" "Lot.__add__" (defArgs s_Lot_add) (defBody s_Lot_add) (defScope s_Lot_add) .none kV16 dc16 pm16 an16 cd16 ct16), sl16⟩)
    (c16 : PySem.W.codeIn K cd16 "Lot.__add__" = true)
    (k16 : PySem.W.keepIn K (.ref f16) = true)
    (a17 : PySem.W.findIn K (.ref C_Lot) "__mod__" = some (some (.ref f17)))
    (l17 : K.lookup f17 = some ⟨oc17, od17, .func (PySem.W.fnOf "__mod__" "Lot.__mod__" (defArgs s_Lot_mod) (defBody s_Lot_mod) (defScope s_Lot_mod) .none kV17 dc17 pm17 an17 cd17 ct17), sl17⟩)
    (c17 : PySem.W.codeIn K cd17 "Lot.__mod__" = true)
    (k17 : PySem.W.keepIn K (.ref f17) = true)
    (a18 : PySem.W.findIn K (.ref C_Lot) "__pow__" = some (some (.ref f18)))
    (l18 : K.lookup f18 = some ⟨oc18, od18, .func (PySem.W.fnOf "__pow__" "Lot.__pow__" (defArgs s_Lot_pow) (defBody s_Lot_pow) (defScope s_Lot_pow) .none kV18 dc18 pm18 an18 cd18 ct18), sl18⟩)
    (c18 : PySem.W.codeIn K cd18 "Lot.__pow__" = true)
    (k18 : PySem.W.keepIn K (.ref f18) = true)
    (a19 : PySem.W.nsIn K mainGlobals "meetings" = some (some (.ref f19)))
    (l19 : K.lookup f19 = some ⟨oc19, od19, .func (PySem.W.fnOf "meetings" "meetings" (defArgs s_meetings) (defBody s_meetings) (defScope s_meetings) .none kV19 dc19 pm19 an19 cd19 ct19), sl19⟩)
    (c19 : PySem.W.codeIn K cd19 "meetings" = true)
    (k19 : PySem.W.keepIn K (.ref f19) = true)
    (a20 : PySem.W.nsIn K mainGlobals "differences" = some (some (.ref f20)))
    (l20 : K.lookup f20 = some ⟨oc20, od20, .func (PySem.W.fnOf "differences" "differences" (defArgs s_differences) (defBody s_differences) (defScope s_differences) .none kV20 dc20 pm20 an20 cd20 ct20), sl20⟩)
    (c20 : PySem.W.codeIn K cd20 "differences" = true)
    (k20 : PySem.W.keepIn K (.ref f20) = true)
    (a21 : PySem.W.nsIn K mainGlobals "_law_cell" = some (some (.ref f21)))
    (l21 : K.lookup f21 = some ⟨oc21, od21, .func (PySem.W.fnOf "_law_cell" "_law_cell" (defArgs s_u_law_cell) (defBody s_u_law_cell) (defScope s_u_law_cell) .none kV21 dc21 pm21 an21 cd21 ct21), sl21⟩)
    (c21 : PySem.W.codeIn K cd21 "_law_cell" = true)
    (k21 : PySem.W.keepIn K (.ref f21) = true)
    (a22 : PySem.W.nsIn K mainGlobals "_law_draws" = some (some (.ref f22)))
    (l22 : K.lookup f22 = some ⟨oc22, od22, .func (PySem.W.fnOf "_law_draws" "_law_draws" (defArgs s_u_law_draws) (defBody s_u_law_draws) (defScope s_u_law_draws) .none kV22 dc22 pm22 an22 cd22 ct22), sl22⟩)
    (c22 : PySem.W.codeIn K cd22 "_law_draws" = true)
    (k22 : PySem.W.keepIn K (.ref f22) = true)
    (a23 : PySem.W.nsIn K mainGlobals "_law_is_int" = some (some (.ref f23)))
    (l23 : K.lookup f23 = some ⟨oc23, od23, .func (PySem.W.fnOf "_law_is_int" "_law_is_int" (defArgs s_u_law_is_int) (defBody s_u_law_is_int) (defScope s_u_law_is_int) .none kV23 dc23 pm23 an23 cd23 ct23), sl23⟩)
    (c23 : PySem.W.codeIn K cd23 "_law_is_int" = true)
    (k23 : PySem.W.keepIn K (.ref f23) = true)
    (a24 : PySem.W.nsIn K mainGlobals "_law_same" = some (some (.ref f24)))
    (l24 : K.lookup f24 = some ⟨oc24, od24, .func (PySem.W.fnOf "_law_same" "_law_same" (defArgs s_u_law_same) (defBody s_u_law_same) (defScope s_u_law_same) .none kV24 dc24 pm24 an24 cd24 ct24), sl24⟩)
    (c24 : PySem.W.codeIn K cd24 "_law_same" = true)
    (k24 : PySem.W.keepIn K (.ref f24) = true)
    (a25 : PySem.W.nsIn K mainGlobals "_law_bits" = some (some (.ref f25)))
    (l25 : K.lookup f25 = some ⟨oc25, od25, .func (PySem.W.fnOf "_law_bits" "_law_bits" (defArgs s_u_law_bits) (defBody s_u_law_bits) (defScope s_u_law_bits) .none kV25 dc25 pm25 an25 cd25 ct25), sl25⟩)
    (c25 : PySem.W.codeIn K cd25 "_law_bits" = true)
    (k25 : PySem.W.keepIn K (.ref f25) = true)
    (a26 : PySem.W.nsIn K mainGlobals "_law_subset" = some (some (.ref f26)))
    (l26 : K.lookup f26 = some ⟨oc26, od26, .func (PySem.W.fnOf "_law_subset" "_law_subset" (defArgs s_u_law_subset) (defBody s_u_law_subset) (defScope s_u_law_subset) .none kV26 dc26 pm26 an26 cd26 ct26), sl26⟩)
    (c26 : PySem.W.codeIn K cd26 "_law_subset" = true)
    (k26 : PySem.W.keepIn K (.ref f26) = true)
    (a27 : PySem.W.nsIn K mainGlobals "_law_gcd" = some (some (.ref f27)))
    (l27 : K.lookup f27 = some ⟨oc27, od27, .func (PySem.W.fnOf "_law_gcd" "_law_gcd" (defArgs s_u_law_gcd) (defBody s_u_law_gcd) (defScope s_u_law_gcd) .none kV27 dc27 pm27 an27 cd27 ct27), sl27⟩)
    (c27 : PySem.W.codeIn K cd27 "_law_gcd" = true)
    (k27 : PySem.W.keepIn K (.ref f27) = true)
    (a28 : PySem.W.nsIn K mainGlobals "_law_parts" = some (some (.ref f28)))
    (l28 : K.lookup f28 = some ⟨oc28, od28, .func (PySem.W.fnOf "_law_parts" "_law_parts" (defArgs s_u_law_parts) (defBody s_u_law_parts) (defScope s_u_law_parts) .none kV28 dc28 pm28 an28 cd28 ct28), sl28⟩)
    (c28 : PySem.W.codeIn K cd28 "_law_parts" = true)
    (k28 : PySem.W.keepIn K (.ref f28) = true)
    (a29 : PySem.W.nsIn K mainGlobals "_law_lots" = some (some (.ref f29)))
    (l29 : K.lookup f29 = some ⟨oc29, od29, .func (PySem.W.fnOf "_law_lots" "_law_lots" (defArgs s_u_law_lots) (defBody s_u_law_lots) (defScope s_u_law_lots) .none kV29 dc29 pm29 an29 cd29 ct29), sl29⟩)
    (c29 : PySem.W.codeIn K cd29 "_law_lots" = true)
    (k29 : PySem.W.keepIn K (.ref f29) = true)
    (a30 : PySem.W.nsIn K mainGlobals "_law_counts" = some (some (.ref f30)))
    (l30 : K.lookup f30 = some ⟨oc30, od30, .func (PySem.W.fnOf "_law_counts" "_law_counts" (defArgs s_u_law_counts) (defBody s_u_law_counts) (defScope s_u_law_counts) .none kV30 dc30 pm30 an30 cd30 ct30), sl30⟩)
    (c30 : PySem.W.codeIn K cd30 "_law_counts" = true)
    (k30 : PySem.W.keepIn K (.ref f30) = true)
    (a31 : PySem.W.nsIn K mainGlobals "_law_met" = some (some (.ref f31)))
    (l31 : K.lookup f31 = some ⟨oc31, od31, .func (PySem.W.fnOf "_law_met" "_law_met" (defArgs s_u_law_met) (defBody s_u_law_met) (defScope s_u_law_met) .none kV31 dc31 pm31 an31 cd31 ct31), sl31⟩)
    (c31 : PySem.W.codeIn K cd31 "_law_met" = true)
    (k31 : PySem.W.keepIn K (.ref f31) = true)
    (a32 : PySem.W.nsIn K mainGlobals "_law_fold" = some (some (.ref f32)))
    (l32 : K.lookup f32 = some ⟨oc32, od32, .func (PySem.W.fnOf "_law_fold" "_law_fold" (defArgs s_u_law_fold) (defBody s_u_law_fold) (defScope s_u_law_fold) .none kV32 dc32 pm32 an32 cd32 ct32), sl32⟩)
    (c32 : PySem.W.codeIn K cd32 "_law_fold" = true)
    (k32 : PySem.W.keepIn K (.ref f32) = true)
    (a33 : PySem.W.nsIn K mainGlobals "_law_is_lot" = some (some (.ref f33)))
    (l33 : K.lookup f33 = some ⟨oc33, od33, .func (PySem.W.fnOf "_law_is_lot" "_law_is_lot" (defArgs s_u_law_is_lot) (defBody s_u_law_is_lot) (defScope s_u_law_is_lot) .none kV33 dc33 pm33 an33 cd33 ct33), sl33⟩)
    (c33 : PySem.W.codeIn K cd33 "_law_is_lot" = true)
    (k33 : PySem.W.keepIn K (.ref f33) = true)
    (a34 : PySem.W.nsIn K mainGlobals "_law_factor" = some (some (.ref f34)))
    (l34 : K.lookup f34 = some ⟨oc34, od34, .func (PySem.W.fnOf "_law_factor" "_law_factor" (defArgs s_u_law_factor) (defBody s_u_law_factor) (defScope s_u_law_factor) .none kV34 dc34 pm34 an34 cd34 ct34), sl34⟩)
    (c34 : PySem.W.codeIn K cd34 "_law_factor" = true)
    (k34 : PySem.W.keepIn K (.ref f34) = true)
    (a35 : PySem.W.nsIn K mainGlobals "_law_shift" = some (some (.ref f35)))
    (l35 : K.lookup f35 = some ⟨oc35, od35, .func (PySem.W.fnOf "_law_shift" "_law_shift" (defArgs s_u_law_shift) (defBody s_u_law_shift) (defScope s_u_law_shift) .none kV35 dc35 pm35 an35 cd35 ct35), sl35⟩)
    (c35 : PySem.W.codeIn K cd35 "_law_shift" = true)
    (k35 : PySem.W.keepIn K (.ref f35) = true)
    (a36 : PySem.W.nsIn K mainGlobals "_law_part" = some (some (.ref f36)))
    (l36 : K.lookup f36 = some ⟨oc36, od36, .func (PySem.W.fnOf "_law_part" "_law_part" (defArgs s_u_law_part) (defBody s_u_law_part) (defScope s_u_law_part) .none kV36 dc36 pm36 an36 cd36 ct36), sl36⟩)
    (c36 : PySem.W.codeIn K cd36 "_law_part" = true)
    (k36 : PySem.W.keepIn K (.ref f36) = true)
    (a37 : PySem.W.nsIn K mainGlobals "_law_kind" = some (some (.ref f37)))
    (l37 : K.lookup f37 = some ⟨oc37, od37, .func (PySem.W.fnOf "_law_kind" "_law_kind" (defArgs s_u_law_kind) (defBody s_u_law_kind) (defScope s_u_law_kind) .none kV37 dc37 pm37 an37 cd37 ct37), sl37⟩)
    (c37 : PySem.W.codeIn K cd37 "_law_kind" = true)
    (k37 : PySem.W.keepIn K (.ref f37) = true)
    (a38 : PySem.W.nsIn K mainGlobals "_law_done" = some (some (.ref f38)))
    (l38 : K.lookup f38 = some ⟨oc38, od38, .func (PySem.W.fnOf "_law_done" "_law_done" (defArgs s_u_law_done) (defBody s_u_law_done) (defScope s_u_law_done) .none kV38 dc38 pm38 an38 cd38 ct38), sl38⟩)
    (c38 : PySem.W.codeIn K cd38 "_law_done" = true)
    (k38 : PySem.W.keepIn K (.ref f38) = true)
    (a39 : PySem.W.nsIn K mainGlobals "_law_sum" = some (some (.ref f39)))
    (l39 : K.lookup f39 = some ⟨oc39, od39, .func (PySem.W.fnOf "_law_sum" "_law_sum" (defArgs s_u_law_sum) (defBody s_u_law_sum) (defScope s_u_law_sum) .none kV39 dc39 pm39 an39 cd39 ct39), sl39⟩)
    (c39 : PySem.W.codeIn K cd39 "_law_sum" = true)
    (k39 : PySem.W.keepIn K (.ref f39) = true)
    (a40 : PySem.W.nsIn K mainGlobals "_law_told" = some (some (.ref f40)))
    (l40 : K.lookup f40 = some ⟨oc40, od40, .func (PySem.W.fnOf "_law_told" "_law_told" (defArgs s_u_law_told) (defBody s_u_law_told) (defScope s_u_law_told) .none kV40 dc40 pm40 an40 cd40 ct40), sl40⟩)
    (c40 : PySem.W.codeIn K cd40 "_law_told" = true)
    (k40 : PySem.W.keepIn K (.ref f40) = true)
    (a41 : PySem.W.nsIn K mainGlobals "_law_copied_due" = some (some (.ref f41)))
    (l41 : K.lookup f41 = some ⟨oc41, od41, .func (PySem.W.fnOf "_law_copied_due" "_law_copied_due" (defArgs s_u_law_copied_due) (defBody s_u_law_copied_due) (defScope s_u_law_copied_due) .none kV41 dc41 pm41 an41 cd41 ct41), sl41⟩)
    (c41 : PySem.W.codeIn K cd41 "_law_copied_due" = true)
    (k41 : PySem.W.keepIn K (.ref f41) = true)
    (a42 : PySem.W.nsIn K mainGlobals "_law_residues_due" = some (some (.ref f42)))
    (l42 : K.lookup f42 = some ⟨oc42, od42, .func (PySem.W.fnOf "_law_residues_due" "_law_residues_due" (defArgs s_u_law_residues_due) (defBody s_u_law_residues_due) (defScope s_u_law_residues_due) .none kV42 dc42 pm42 an42 cd42 ct42), sl42⟩)
    (c42 : PySem.W.codeIn K cd42 "_law_residues_due" = true)
    (k42 : PySem.W.keepIn K (.ref f42) = true)
    (a43 : PySem.W.nsIn K mainGlobals "_law_due" = some (some (.ref f43)))
    (l43 : K.lookup f43 = some ⟨oc43, od43, .func (PySem.W.fnOf "_law_due" "_law_due" (defArgs s_u_law_due) (defBody s_u_law_due) (defScope s_u_law_due) .none kV43 dc43 pm43 an43 cd43 ct43), sl43⟩)
    (c43 : PySem.W.codeIn K cd43 "_law_due" = true)
    (k43 : PySem.W.keepIn K (.ref f43) = true)
    (a44 : PySem.W.nsIn K mainGlobals "law" = some (some (.ref f44)))
    (l44 : K.lookup f44 = some ⟨oc44, od44, .func (PySem.W.fnOf "law" "law" (defArgs s_law) (defBody s_law) (defScope s_law) .none kV44 dc44 pm44 an44 cd44 ct44), sl44⟩)
    (c44 : PySem.W.codeIn K cd44 "law" = true)
    (k44 : PySem.W.keepIn K (.ref f44) = true)
    (z_abs : PySem.W.nsIn K mainGlobals "abs" = some none)
    (z_len : PySem.W.nsIn K mainGlobals "len" = some none)
    (z_int : PySem.W.nsIn K mainGlobals "int" = some none)
    (z_bool : PySem.W.nsIn K mainGlobals "bool" = some none)
    (z_str : PySem.W.nsIn K mainGlobals "str" = some none)
    (z_list : PySem.W.nsIn K mainGlobals "list" = some none)
    (z_tuple : PySem.W.nsIn K mainGlobals "tuple" = some none)
    (z_isinstance : PySem.W.nsIn K mainGlobals "isinstance" = some none)
    (z_range : PySem.W.nsIn K mainGlobals "range" = some none)
    (z_ValueError : PySem.W.nsIn K mainGlobals "ValueError" = some none)
    (z_iter : PySem.W.nsIn K mainGlobals "iter" = some none)
    (z_min : PySem.W.nsIn K mainGlobals "min" = some none)
    (z_max : PySem.W.nsIn K mainGlobals "max" = some none)
    (z_sum : PySem.W.nsIn K mainGlobals "sum" = some none)
    (exC_BadNumber : PySem.W.subIn K (.ref C_BadNumber) (.type "BaseException") = some true)
    (hdC_BadNumber : PySem.W.hasDictIn K C_BadNumber = true)
    (tyC_BadNumber : PySem.W.typeIn K (.ref C_BadNumber) = some (.type "type"))
    (meC_BadNumber : PySem.W.subIn K (.ref C_BadNumber) (.ref C_BadNumber) = some true)
    (xL_BadNumber : K.lookup C_BadNumber = some (excClassObj nm_BadNumber q_BadNumber C_BadNumber N_BadNumber bs_BadNumber [.ref C_WatchError, .type "ValueError", .type "Exception", .type "BaseException", .type "object"] true sn_BadNumber sub_BadNumber ab_BadNumber col_BadNumber dd_BadNumber m0_BadNumber m1_BadNumber m2_BadNumber m3_BadNumber m5_BadNumber "ValueError.__new__"))
    (sa_BadNumber : PySem.W.findIn K (.ref C_BadNumber) "__setattr__" = some (some (.builtin "object.__setattr__")))
    (kC_BadNumber : PySem.W.keepIn K (.ref C_BadNumber) = true)
    (ti_BadNumber : PySem.W.typeIn K (.ref f0) = some (.type "function"))
    (ga_BadNumber : PySem.W.findIn K (.ref C_BadNumber) "__getattribute__" = some (some (.builtin "BaseException.__getattribute__")))
    (gg_BadNumber : PySem.W.findIn K (.ref C_BadNumber) "__getattr__" = some none)
    (ha_BadNumber : PySem.W.findIn K (.ref C_BadNumber) "__class__" = some (some (.builtin "object.__class__")))
    (hn_ : PySem.W.specialIn K (.builtin "object.__class__") "__get__" = some (some (.builtin "getset_descriptor.__get__")))
    (ht_ : PySem.W.takesIn K (.builtin "object.__class__") = some true)
    (hm_BadNumber : PySem.W.mroIn K C_BadNumber (.type "object") = some true)
    (nf_BadNumber_name : PySem.W.findIn K (.ref C_BadNumber) "name" = some none)
    (nf_BadNumber_value : PySem.W.findIn K (.ref C_BadNumber) "value" = some none)
    (exC_RepeatedHour : PySem.W.subIn K (.ref C_RepeatedHour) (.type "BaseException") = some true)
    (hdC_RepeatedHour : PySem.W.hasDictIn K C_RepeatedHour = true)
    (tyC_RepeatedHour : PySem.W.typeIn K (.ref C_RepeatedHour) = some (.type "type"))
    (meC_RepeatedHour : PySem.W.subIn K (.ref C_RepeatedHour) (.ref C_RepeatedHour) = some true)
    (xL_RepeatedHour : K.lookup C_RepeatedHour = some (excClassObj nm_RepeatedHour q_RepeatedHour C_RepeatedHour N_RepeatedHour bs_RepeatedHour [.ref C_WatchError, .type "ValueError", .type "Exception", .type "BaseException", .type "object"] true sn_RepeatedHour sub_RepeatedHour ab_RepeatedHour col_RepeatedHour dd_RepeatedHour m0_RepeatedHour m1_RepeatedHour m2_RepeatedHour m3_RepeatedHour m5_RepeatedHour "ValueError.__new__"))
    (sa_RepeatedHour : PySem.W.findIn K (.ref C_RepeatedHour) "__setattr__" = some (some (.builtin "object.__setattr__")))
    (kC_RepeatedHour : PySem.W.keepIn K (.ref C_RepeatedHour) = true)
    (ti_RepeatedHour : PySem.W.typeIn K (.ref f1) = some (.type "function"))
    (ga_RepeatedHour : PySem.W.findIn K (.ref C_RepeatedHour) "__getattribute__" = some (some (.builtin "BaseException.__getattribute__")))
    (gg_RepeatedHour : PySem.W.findIn K (.ref C_RepeatedHour) "__getattr__" = some none)
    (ha_RepeatedHour : PySem.W.findIn K (.ref C_RepeatedHour) "__class__" = some (some (.builtin "object.__class__")))
    (hm_RepeatedHour : PySem.W.mroIn K C_RepeatedHour (.type "object") = some true)
    (nf_RepeatedHour_hour : PySem.W.findIn K (.ref C_RepeatedHour) "hour" = some none)
    (exC_Meets : PySem.W.subIn K (.ref C_Meets) (.type "BaseException") = some true)
    (hdC_Meets : PySem.W.hasDictIn K C_Meets = true)
    (tyC_Meets : PySem.W.typeIn K (.ref C_Meets) = some (.type "type"))
    (meC_Meets : PySem.W.subIn K (.ref C_Meets) (.ref C_Meets) = some true)
    (xL_Meets : K.lookup C_Meets = some (excClassObj nm_Meets q_Meets C_Meets N_Meets bs_Meets [.ref C_WatchError, .type "ValueError", .type "Exception", .type "BaseException", .type "object"] true sn_Meets sub_Meets ab_Meets col_Meets dd_Meets m0_Meets m1_Meets m2_Meets m3_Meets m5_Meets "ValueError.__new__"))
    (sa_Meets : PySem.W.findIn K (.ref C_Meets) "__setattr__" = some (some (.builtin "object.__setattr__")))
    (kC_Meets : PySem.W.keepIn K (.ref C_Meets) = true)
    (ti_Meets : PySem.W.typeIn K (.ref f2) = some (.type "function"))
    (ga_Meets : PySem.W.findIn K (.ref C_Meets) "__getattribute__" = some (some (.builtin "BaseException.__getattribute__")))
    (gg_Meets : PySem.W.findIn K (.ref C_Meets) "__getattr__" = some none)
    (ha_Meets : PySem.W.findIn K (.ref C_Meets) "__class__" = some (some (.builtin "object.__class__")))
    (hm_Meets : PySem.W.mroIn K C_Meets (.type "object") = some true)
    (nf_Meets_hour : PySem.W.findIn K (.ref C_Meets) "hour" = some none)
    (exC_NotADivisor : PySem.W.subIn K (.ref C_NotADivisor) (.type "BaseException") = some true)
    (hdC_NotADivisor : PySem.W.hasDictIn K C_NotADivisor = true)
    (tyC_NotADivisor : PySem.W.typeIn K (.ref C_NotADivisor) = some (.type "type"))
    (meC_NotADivisor : PySem.W.subIn K (.ref C_NotADivisor) (.ref C_NotADivisor) = some true)
    (xL_NotADivisor : K.lookup C_NotADivisor = some (excClassObj nm_NotADivisor q_NotADivisor C_NotADivisor N_NotADivisor bs_NotADivisor [.ref C_WatchError, .type "ValueError", .type "Exception", .type "BaseException", .type "object"] true sn_NotADivisor sub_NotADivisor ab_NotADivisor col_NotADivisor dd_NotADivisor m0_NotADivisor m1_NotADivisor m2_NotADivisor m3_NotADivisor m5_NotADivisor "ValueError.__new__"))
    (sa_NotADivisor : PySem.W.findIn K (.ref C_NotADivisor) "__setattr__" = some (some (.builtin "object.__setattr__")))
    (kC_NotADivisor : PySem.W.keepIn K (.ref C_NotADivisor) = true)
    (ti_NotADivisor : PySem.W.typeIn K (.ref f3) = some (.type "function"))
    (ga_NotADivisor : PySem.W.findIn K (.ref C_NotADivisor) "__getattribute__" = some (some (.builtin "BaseException.__getattribute__")))
    (gg_NotADivisor : PySem.W.findIn K (.ref C_NotADivisor) "__getattr__" = some none)
    (ha_NotADivisor : PySem.W.findIn K (.ref C_NotADivisor) "__class__" = some (some (.builtin "object.__class__")))
    (hm_NotADivisor : PySem.W.mroIn K C_NotADivisor (.type "object") = some true)
    (nf_NotADivisor_number : PySem.W.findIn K (.ref C_NotADivisor) "number" = some none)
    (exC_OtherHours : PySem.W.subIn K (.ref C_OtherHours) (.type "BaseException") = some true)
    (hdC_OtherHours : PySem.W.hasDictIn K C_OtherHours = true)
    (tyC_OtherHours : PySem.W.typeIn K (.ref C_OtherHours) = some (.type "type"))
    (meC_OtherHours : PySem.W.subIn K (.ref C_OtherHours) (.ref C_OtherHours) = some true)
    (xP_OtherHours : PySem.W.excIn K C_OtherHours [.type "ValueError", .type "Exception", .type "BaseException", .type "object"] "ValueError.__new__" = true)
    (kP_OtherHours : PySem.W.keepIn K (.ref C_OtherHours) = true)
    (ga_OtherHours : PySem.W.findIn K (.ref C_OtherHours) "__getattribute__" = some (some (.builtin "BaseException.__getattribute__")))
    (gg_OtherHours : PySem.W.findIn K (.ref C_OtherHours) "__getattr__" = some none)
    (ha_OtherHours : PySem.W.findIn K (.ref C_OtherHours) "__class__" = some (some (.builtin "object.__class__")))
    (hm_OtherHours : PySem.W.mroIn K C_OtherHours (.type "object") = some true)
    (pg_Lot : PySem.W.plainGet K C_Lot Str.empty = true)
    (hd_Lot : PySem.W.hasDictIn K C_Lot = true)
    (po_Lot : PySem.W.plainOver K C_Lot = true)
    (sa_Lot : PySem.W.findIn K (.ref C_Lot) "__setattr__" = some (some (.builtin "object.__setattr__")))
    (mk_Lot : PySem.W.makesIn K C_Lot = true)
    (kc_Lot : PySem.W.keepIn K (.ref C_Lot) = true)
    (if_4 : PySem.W.isFn K (.ref f4) = true)
    (na_Lot_hours : PySem.W.findIn K (.ref C_Lot) "hours" = some none)
    (na_Lot_members : PySem.W.findIn K (.ref C_Lot) "_members" = some none)
    (sf_Lot : PySem.W.selfFirst K C_Lot = true)
    (si_Lot : PySem.W.subIn K (.type "int") (.ref C_Lot) = some false)
    (dn_Lot_lshift : PySem.W.findIn K (.ref C_Lot) (PySem.dunder "lshift") = some (some (.ref f8)))
    (dn_Lot_rshift : PySem.W.findIn K (.ref C_Lot) (PySem.dunder "rshift") = some (some (.ref f9)))
    (dn_Lot_mul : PySem.W.findIn K (.ref C_Lot) (PySem.dunder "mul") = some (some (.ref f14)))
    (dn_Lot_add : PySem.W.findIn K (.ref C_Lot) (PySem.dunder "add") = some (some (.ref f16)))
    (dn_Lot_mod : PySem.W.findIn K (.ref C_Lot) (PySem.dunder "mod") = some (some (.ref f17)))
    (dn_Lot_pow : PySem.W.findIn K (.ref C_Lot) (PySem.dunder "pow") = some (some (.ref f18)))
    (dr_Lot_mul : PySem.W.findIn K (.ref C_Lot) (dunderR "mul") = some (some (.ref f15)))
    (if_15 : PySem.W.isFn K (.ref f15) = true)
    (sub_Lot_int : PySem.W.subIn K (.ref C_Lot) (.type "int") = some false)
    (rc_Lot_lshift : PySem.W.findIn K (.ref C_Lot) (dunderR "lshift") = some none)
    (lo_Lot_lshift : PySem.W.findIn K (.type "int") (PySem.dunder "lshift") = some fo_Lot_lshift)
    (ro_Lot_lshift : PySem.W.findIn K (.type "int") (dunderR "lshift") = some ro_Lot_lshift)
    (rc_Lot_rshift : PySem.W.findIn K (.ref C_Lot) (dunderR "rshift") = some none)
    (lo_Lot_rshift : PySem.W.findIn K (.type "int") (PySem.dunder "rshift") = some fo_Lot_rshift)
    (ro_Lot_rshift : PySem.W.findIn K (.type "int") (dunderR "rshift") = some ro_Lot_rshift)
    (rc_Lot_mul : PySem.W.findIn K (.ref C_Lot) (dunderR "mul") = some (some (.ref rf_Lot_mul)))
    (lo_Lot_mul : PySem.W.findIn K (.type "int") (PySem.dunder "mul") = some fo_Lot_mul)
    (ro_Lot_mul : PySem.W.findIn K (.type "int") (dunderR "mul") = some ro_Lot_mul)
    (rc_Lot_mod : PySem.W.findIn K (.ref C_Lot) (dunderR "mod") = some none)
    (lo_Lot_mod : PySem.W.findIn K (.type "int") (PySem.dunder "mod") = some fo_Lot_mod)
    (ro_Lot_mod : PySem.W.findIn K (.type "int") (dunderR "mod") = some ro_Lot_mod)
    (rc_Lot_pow : PySem.W.findIn K (.ref C_Lot) (dunderR "pow") = some none)
    (lo_Lot_pow : PySem.W.findIn K (.type "int") (PySem.dunder "pow") = some fo_Lot_pow)
    (ro_Lot_pow : PySem.W.findIn K (.type "int") (dunderR "pow") = some ro_Lot_pow)
    (ha_Lot : PySem.W.findIn K (.ref C_Lot) "__class__" = some (some (.builtin "object.__class__")))
    (hm_Lot : PySem.W.mroIn K C_Lot (.type "object") = some true)
    (rd_Lot : PySem.W.readsIn K C_Lot (.type "type") = true)
    (gt_Lot : PySem.W.specialIn K (.ref C_Lot) "__getattribute__" = some (some (.builtin "type.__getattribute__")))
    (cv_Lot_MOST : PySem.W.findCls K (.ref C_Lot) (.type "type") "MOST" = some (.val (.int 360 tk_Lot_MOST)))
    (pg_5 : PySem.W.specialIn K (.ref p5) "__get__" = some (some (.builtin "property.__get__")))
    (pt_5 : PySem.W.takesIn K (.ref p5) = some true)
    (if_6 : PySem.W.isFn K (.ref f6) = true)
    (if_7 : PySem.W.isFn K (.ref f7) = true)
    (if_8 : PySem.W.isFn K (.ref f8) = true)
    (if_9 : PySem.W.isFn K (.ref f9) = true)
    (if_10 : PySem.W.isFn K (.ref f10) = true)
    (if_11 : PySem.W.isFn K (.ref f11) = true)
    (if_14 : PySem.W.isFn K (.ref f14) = true)
    (if_16 : PySem.W.isFn K (.ref f16) = true)
    (if_17 : PySem.W.isFn K (.ref f17) = true)
    (if_18 : PySem.W.isFn K (.ref f18) = true)
    : ∃ fd : FuncData, (∀ (s : Shared) (v : Value), BindsTo s fd ⟨[v], []⟩ [("script", v)]) ∧ ∀ base : Heap, K.In base → base.Ns mainGlobals mg → FnOk l.prog w K mg base CX0 14 fa fd ["script"] ((spLaw K)) := by
  have e := hfa.symm.trans (PySem.W.mg_of X G a44)
  cases e
  let A : Ads := {
    f_BadNumber_init := f0,
    d_BadNumber_init := PySem.W.fnOf "__init__" "BadNumber.__init__" (defArgs s_BadNumber_init) (defBody s_BadNumber_init) (defScope s_BadNumber_init) .none kV0 dc0 pm0 an0 cd0 ct0,
    f_RepeatedHour_init := f1,
    d_RepeatedHour_init := PySem.W.fnOf "__init__" "RepeatedHour.__init__" (defArgs s_RepeatedHour_init) (defBody s_RepeatedHour_init) (defScope s_RepeatedHour_init) .none kV1 dc1 pm1 an1 cd1 ct1,
    f_Meets_init := f2,
    d_Meets_init := PySem.W.fnOf "__init__" "Meets.__init__" (defArgs s_Meets_init) (defBody s_Meets_init) (defScope s_Meets_init) .none kV2 dc2 pm2 an2 cd2 ct2,
    f_NotADivisor_init := f3,
    d_NotADivisor_init := PySem.W.fnOf "__init__" "NotADivisor.__init__" (defArgs s_NotADivisor_init) (defBody s_NotADivisor_init) (defScope s_NotADivisor_init) .none kV3 dc3 pm3 an3 cd3 ct3,
    f_Lot_init := f4,
    d_Lot_init := PySem.W.fnOf "__init__" "Lot.__init__" (defArgs s_Lot_init) (defBody s_Lot_init) (defScope s_Lot_init) .none kV4 dc4 pm4 an4 cd4 ct4,
    f_Lot_members := f5,
    d_Lot_members := PySem.W.fnOf "members" "Lot.members" (defArgs s_Lot_members) (defBody s_Lot_members) (defScope s_Lot_members) .none kV5 dc5 pm5 an5 cd5 ct5,
    f_Lot_len := f6,
    d_Lot_len := PySem.W.fnOf "__len__" "Lot.__len__" (defArgs s_Lot_len) (defBody s_Lot_len) (defScope s_Lot_len) .none kV6 dc6 pm6 an6 cd6 ct6,
    f_Lot_iter := f7,
    d_Lot_iter := PySem.W.fnOf "__iter__" "Lot.__iter__" (defArgs s_Lot_iter) (defBody s_Lot_iter) (defScope s_Lot_iter) .none kV7 dc7 pm7 an7 cd7 ct7,
    f_Lot_lshift := f8,
    d_Lot_lshift := PySem.W.fnOf "__lshift__" "Lot.__lshift__" (defArgs s_Lot_lshift) (defBody s_Lot_lshift) (defScope s_Lot_lshift) .none kV8 dc8 pm8 an8 cd8 ct8,
    f_Lot_rshift := f9,
    d_Lot_rshift := PySem.W.fnOf "__rshift__" "Lot.__rshift__" (defArgs s_Lot_rshift) (defBody s_Lot_rshift) (defScope s_Lot_rshift) .none kV9 dc9 pm9 an9 cd9 ct9,
    f_Lot_neg := f10,
    d_Lot_neg := PySem.W.fnOf "__neg__" "Lot.__neg__" (defArgs s_Lot_neg) (defBody s_Lot_neg) (defScope s_Lot_neg) .none kV10 dc10 pm10 an10 cd10 ct10,
    f_Lot_invert := f11,
    d_Lot_invert := PySem.W.fnOf "__invert__" "Lot.__invert__" (defArgs s_Lot_invert) (defBody s_Lot_invert) (defScope s_Lot_invert) .none kV11 dc11 pm11 an11 cd11 ct11,
    f_u_check_hours := f12,
    d_u_check_hours := PySem.W.fnOf "_check_hours" "_check_hours" (defArgs s_u_check_hours) (defBody s_u_check_hours) (defScope s_u_check_hours) .none kV12 dc12 pm12 an12 cd12 ct12,
    f_u_lot_of_each := f13,
    d_u_lot_of_each := PySem.W.fnOf "_lot_of_each" "_lot_of_each" (defArgs s_u_lot_of_each) (defBody s_u_lot_of_each) (defScope s_u_lot_of_each) .none kV13 dc13 pm13 an13 cd13 ct13,
    f_Lot_mul := f14,
    d_Lot_mul := PySem.W.fnOf "__mul__" "Lot.__mul__" (defArgs s_Lot_mul) (defBody s_Lot_mul) (defScope s_Lot_mul) .none kV14 dc14 pm14 an14 cd14 ct14,
    f_Lot_rmul := f15,
    d_Lot_rmul := PySem.W.fnOf "__rmul__" "Lot.__rmul__" (defArgs s_Lot_rmul) (defBody s_Lot_rmul) (defScope s_Lot_rmul) .none kV15 dc15 pm15 an15 cd15 ct15,
    f_Lot_add := f16,
    d_Lot_add := PySem.W.fnOf "__add__" "Lot.__add__" (defArgs s_Lot_add) (defBody s_Lot_add) (defScope s_Lot_add) .none kV16 dc16 pm16 an16 cd16 ct16,
    f_Lot_mod := f17,
    d_Lot_mod := PySem.W.fnOf "__mod__" "Lot.__mod__" (defArgs s_Lot_mod) (defBody s_Lot_mod) (defScope s_Lot_mod) .none kV17 dc17 pm17 an17 cd17 ct17,
    f_Lot_pow := f18,
    d_Lot_pow := PySem.W.fnOf "__pow__" "Lot.__pow__" (defArgs s_Lot_pow) (defBody s_Lot_pow) (defScope s_Lot_pow) .none kV18 dc18 pm18 an18 cd18 ct18,
    f_meetings := f19,
    d_meetings := PySem.W.fnOf "meetings" "meetings" (defArgs s_meetings) (defBody s_meetings) (defScope s_meetings) .none kV19 dc19 pm19 an19 cd19 ct19,
    f_differences := f20,
    d_differences := PySem.W.fnOf "differences" "differences" (defArgs s_differences) (defBody s_differences) (defScope s_differences) .none kV20 dc20 pm20 an20 cd20 ct20,
    f_u_law_cell := f21,
    d_u_law_cell := PySem.W.fnOf "_law_cell" "_law_cell" (defArgs s_u_law_cell) (defBody s_u_law_cell) (defScope s_u_law_cell) .none kV21 dc21 pm21 an21 cd21 ct21,
    f_u_law_draws := f22,
    d_u_law_draws := PySem.W.fnOf "_law_draws" "_law_draws" (defArgs s_u_law_draws) (defBody s_u_law_draws) (defScope s_u_law_draws) .none kV22 dc22 pm22 an22 cd22 ct22,
    f_u_law_is_int := f23,
    d_u_law_is_int := PySem.W.fnOf "_law_is_int" "_law_is_int" (defArgs s_u_law_is_int) (defBody s_u_law_is_int) (defScope s_u_law_is_int) .none kV23 dc23 pm23 an23 cd23 ct23,
    f_u_law_same := f24,
    d_u_law_same := PySem.W.fnOf "_law_same" "_law_same" (defArgs s_u_law_same) (defBody s_u_law_same) (defScope s_u_law_same) .none kV24 dc24 pm24 an24 cd24 ct24,
    f_u_law_bits := f25,
    d_u_law_bits := PySem.W.fnOf "_law_bits" "_law_bits" (defArgs s_u_law_bits) (defBody s_u_law_bits) (defScope s_u_law_bits) .none kV25 dc25 pm25 an25 cd25 ct25,
    f_u_law_subset := f26,
    d_u_law_subset := PySem.W.fnOf "_law_subset" "_law_subset" (defArgs s_u_law_subset) (defBody s_u_law_subset) (defScope s_u_law_subset) .none kV26 dc26 pm26 an26 cd26 ct26,
    f_u_law_gcd := f27,
    d_u_law_gcd := PySem.W.fnOf "_law_gcd" "_law_gcd" (defArgs s_u_law_gcd) (defBody s_u_law_gcd) (defScope s_u_law_gcd) .none kV27 dc27 pm27 an27 cd27 ct27,
    f_u_law_parts := f28,
    d_u_law_parts := PySem.W.fnOf "_law_parts" "_law_parts" (defArgs s_u_law_parts) (defBody s_u_law_parts) (defScope s_u_law_parts) .none kV28 dc28 pm28 an28 cd28 ct28,
    f_u_law_lots := f29,
    d_u_law_lots := PySem.W.fnOf "_law_lots" "_law_lots" (defArgs s_u_law_lots) (defBody s_u_law_lots) (defScope s_u_law_lots) .none kV29 dc29 pm29 an29 cd29 ct29,
    f_u_law_counts := f30,
    d_u_law_counts := PySem.W.fnOf "_law_counts" "_law_counts" (defArgs s_u_law_counts) (defBody s_u_law_counts) (defScope s_u_law_counts) .none kV30 dc30 pm30 an30 cd30 ct30,
    f_u_law_met := f31,
    d_u_law_met := PySem.W.fnOf "_law_met" "_law_met" (defArgs s_u_law_met) (defBody s_u_law_met) (defScope s_u_law_met) .none kV31 dc31 pm31 an31 cd31 ct31,
    f_u_law_fold := f32,
    d_u_law_fold := PySem.W.fnOf "_law_fold" "_law_fold" (defArgs s_u_law_fold) (defBody s_u_law_fold) (defScope s_u_law_fold) .none kV32 dc32 pm32 an32 cd32 ct32,
    f_u_law_is_lot := f33,
    d_u_law_is_lot := PySem.W.fnOf "_law_is_lot" "_law_is_lot" (defArgs s_u_law_is_lot) (defBody s_u_law_is_lot) (defScope s_u_law_is_lot) .none kV33 dc33 pm33 an33 cd33 ct33,
    f_u_law_factor := f34,
    d_u_law_factor := PySem.W.fnOf "_law_factor" "_law_factor" (defArgs s_u_law_factor) (defBody s_u_law_factor) (defScope s_u_law_factor) .none kV34 dc34 pm34 an34 cd34 ct34,
    f_u_law_shift := f35,
    d_u_law_shift := PySem.W.fnOf "_law_shift" "_law_shift" (defArgs s_u_law_shift) (defBody s_u_law_shift) (defScope s_u_law_shift) .none kV35 dc35 pm35 an35 cd35 ct35,
    f_u_law_part := f36,
    d_u_law_part := PySem.W.fnOf "_law_part" "_law_part" (defArgs s_u_law_part) (defBody s_u_law_part) (defScope s_u_law_part) .none kV36 dc36 pm36 an36 cd36 ct36,
    f_u_law_kind := f37,
    d_u_law_kind := PySem.W.fnOf "_law_kind" "_law_kind" (defArgs s_u_law_kind) (defBody s_u_law_kind) (defScope s_u_law_kind) .none kV37 dc37 pm37 an37 cd37 ct37,
    f_u_law_done := f38,
    d_u_law_done := PySem.W.fnOf "_law_done" "_law_done" (defArgs s_u_law_done) (defBody s_u_law_done) (defScope s_u_law_done) .none kV38 dc38 pm38 an38 cd38 ct38,
    f_u_law_sum := f39,
    d_u_law_sum := PySem.W.fnOf "_law_sum" "_law_sum" (defArgs s_u_law_sum) (defBody s_u_law_sum) (defScope s_u_law_sum) .none kV39 dc39 pm39 an39 cd39 ct39,
    f_u_law_told := f40,
    d_u_law_told := PySem.W.fnOf "_law_told" "_law_told" (defArgs s_u_law_told) (defBody s_u_law_told) (defScope s_u_law_told) .none kV40 dc40 pm40 an40 cd40 ct40,
    f_u_law_copied_due := f41,
    d_u_law_copied_due := PySem.W.fnOf "_law_copied_due" "_law_copied_due" (defArgs s_u_law_copied_due) (defBody s_u_law_copied_due) (defScope s_u_law_copied_due) .none kV41 dc41 pm41 an41 cd41 ct41,
    f_u_law_residues_due := f42,
    d_u_law_residues_due := PySem.W.fnOf "_law_residues_due" "_law_residues_due" (defArgs s_u_law_residues_due) (defBody s_u_law_residues_due) (defScope s_u_law_residues_due) .none kV42 dc42 pm42 an42 cd42 ct42,
    f_u_law_due := f43,
    d_u_law_due := PySem.W.fnOf "_law_due" "_law_due" (defArgs s_u_law_due) (defBody s_u_law_due) (defScope s_u_law_due) .none kV43 dc43 pm43 an43 cd43 ct43,
    f_law := fa,
    d_law := PySem.W.fnOf "law" "law" (defArgs s_law) (defBody s_law) (defScope s_law) .none kV44 dc44 pm44 an44 cd44 ct44,
    C_BadNumber := C_BadNumber,
    C_RepeatedHour := C_RepeatedHour,
    C_OtherHours := C_OtherHours,
    C_Meets := C_Meets,
    C_NotADivisor := C_NotADivisor,
    C_Lot := C_Lot,
    p_Lot_members := p5 }
  have T : Txt K mg A := {
    F_BadNumber_init := fun_mk (st := s_BadNumber_init) l0 c0 k0,
    F_RepeatedHour_init := fun_mk (st := s_RepeatedHour_init) l1 c1 k1,
    F_Meets_init := fun_mk (st := s_Meets_init) l2 c2 k2,
    F_NotADivisor_init := fun_mk (st := s_NotADivisor_init) l3 c3 k3,
    F_Lot_init := fun_mk (st := s_Lot_init) l4 c4 k4,
    F_Lot_members := fun_mk (st := s_Lot_members) l5 c5 k5,
    F_Lot_len := fun_mk (st := s_Lot_len) l6 c6 k6,
    F_Lot_iter := fun_mk (st := s_Lot_iter) l7 c7 k7,
    F_Lot_lshift := fun_mk (st := s_Lot_lshift) l8 c8 k8,
    F_Lot_rshift := fun_mk (st := s_Lot_rshift) l9 c9 k9,
    F_Lot_neg := fun_mk (st := s_Lot_neg) l10 c10 k10,
    F_Lot_invert := fun_mk (st := s_Lot_invert) l11 c11 k11,
    F_u_check_hours := fun_mk (st := s_u_check_hours) l12 c12 k12,
    g_u_check_hours := PySem.W.mg_of X G a12,
    k_u_check_hours := k12,
    F_u_lot_of_each := fun_mk (st := s_u_lot_of_each) l13 c13 k13,
    g_u_lot_of_each := PySem.W.mg_of X G a13,
    k_u_lot_of_each := k13,
    F_Lot_mul := fun_mk (st := s_Lot_mul) l14 c14 k14,
    F_Lot_rmul := fun_mk (st := s_Lot_rmul) l15 c15 k15,
    F_Lot_add := fun_mk (st := s_Lot_add) l16 c16 k16,
    F_Lot_mod := fun_mk (st := s_Lot_mod) l17 c17 k17,
    F_Lot_pow := fun_mk (st := s_Lot_pow) l18 c18 k18,
    F_meetings := fun_mk (st := s_meetings) l19 c19 k19,
    g_meetings := PySem.W.mg_of X G a19,
    k_meetings := k19,
    F_differences := fun_mk (st := s_differences) l20 c20 k20,
    g_differences := PySem.W.mg_of X G a20,
    k_differences := k20,
    F_u_law_cell := fun_mk (st := s_u_law_cell) l21 c21 k21,
    g_u_law_cell := PySem.W.mg_of X G a21,
    k_u_law_cell := k21,
    F_u_law_draws := fun_mk (st := s_u_law_draws) l22 c22 k22,
    g_u_law_draws := PySem.W.mg_of X G a22,
    k_u_law_draws := k22,
    F_u_law_is_int := fun_mk (st := s_u_law_is_int) l23 c23 k23,
    g_u_law_is_int := PySem.W.mg_of X G a23,
    k_u_law_is_int := k23,
    F_u_law_same := fun_mk (st := s_u_law_same) l24 c24 k24,
    g_u_law_same := PySem.W.mg_of X G a24,
    k_u_law_same := k24,
    F_u_law_bits := fun_mk (st := s_u_law_bits) l25 c25 k25,
    g_u_law_bits := PySem.W.mg_of X G a25,
    k_u_law_bits := k25,
    F_u_law_subset := fun_mk (st := s_u_law_subset) l26 c26 k26,
    g_u_law_subset := PySem.W.mg_of X G a26,
    k_u_law_subset := k26,
    F_u_law_gcd := fun_mk (st := s_u_law_gcd) l27 c27 k27,
    g_u_law_gcd := PySem.W.mg_of X G a27,
    k_u_law_gcd := k27,
    F_u_law_parts := fun_mk (st := s_u_law_parts) l28 c28 k28,
    g_u_law_parts := PySem.W.mg_of X G a28,
    k_u_law_parts := k28,
    F_u_law_lots := fun_mk (st := s_u_law_lots) l29 c29 k29,
    g_u_law_lots := PySem.W.mg_of X G a29,
    k_u_law_lots := k29,
    F_u_law_counts := fun_mk (st := s_u_law_counts) l30 c30 k30,
    g_u_law_counts := PySem.W.mg_of X G a30,
    k_u_law_counts := k30,
    F_u_law_met := fun_mk (st := s_u_law_met) l31 c31 k31,
    g_u_law_met := PySem.W.mg_of X G a31,
    k_u_law_met := k31,
    F_u_law_fold := fun_mk (st := s_u_law_fold) l32 c32 k32,
    g_u_law_fold := PySem.W.mg_of X G a32,
    k_u_law_fold := k32,
    F_u_law_is_lot := fun_mk (st := s_u_law_is_lot) l33 c33 k33,
    g_u_law_is_lot := PySem.W.mg_of X G a33,
    k_u_law_is_lot := k33,
    F_u_law_factor := fun_mk (st := s_u_law_factor) l34 c34 k34,
    g_u_law_factor := PySem.W.mg_of X G a34,
    k_u_law_factor := k34,
    F_u_law_shift := fun_mk (st := s_u_law_shift) l35 c35 k35,
    g_u_law_shift := PySem.W.mg_of X G a35,
    k_u_law_shift := k35,
    F_u_law_part := fun_mk (st := s_u_law_part) l36 c36 k36,
    g_u_law_part := PySem.W.mg_of X G a36,
    k_u_law_part := k36,
    F_u_law_kind := fun_mk (st := s_u_law_kind) l37 c37 k37,
    g_u_law_kind := PySem.W.mg_of X G a37,
    k_u_law_kind := k37,
    F_u_law_done := fun_mk (st := s_u_law_done) l38 c38 k38,
    g_u_law_done := PySem.W.mg_of X G a38,
    k_u_law_done := k38,
    F_u_law_sum := fun_mk (st := s_u_law_sum) l39 c39 k39,
    g_u_law_sum := PySem.W.mg_of X G a39,
    k_u_law_sum := k39,
    F_u_law_told := fun_mk (st := s_u_law_told) l40 c40 k40,
    g_u_law_told := PySem.W.mg_of X G a40,
    k_u_law_told := k40,
    F_u_law_copied_due := fun_mk (st := s_u_law_copied_due) l41 c41 k41,
    g_u_law_copied_due := PySem.W.mg_of X G a41,
    k_u_law_copied_due := k41,
    F_u_law_residues_due := fun_mk (st := s_u_law_residues_due) l42 c42 k42,
    g_u_law_residues_due := PySem.W.mg_of X G a42,
    k_u_law_residues_due := k42,
    F_u_law_due := fun_mk (st := s_u_law_due) l43 c43 k43,
    g_u_law_due := PySem.W.mg_of X G a43,
    k_u_law_due := k43,
    F_law := fun_mk (st := s_law) l44 c44 k44,
    g_law := hfa,
    k_law := k44,
    z_abs := PySem.W.mg_none_of X G z_abs,
    z_len := PySem.W.mg_none_of X G z_len,
    z_int := PySem.W.mg_none_of X G z_int,
    z_bool := PySem.W.mg_none_of X G z_bool,
    z_str := PySem.W.mg_none_of X G z_str,
    z_list := PySem.W.mg_none_of X G z_list,
    z_tuple := PySem.W.mg_none_of X G z_tuple,
    z_isinstance := PySem.W.mg_none_of X G z_isinstance,
    z_range := PySem.W.mg_none_of X G z_range,
    z_ValueError := PySem.W.mg_none_of X G z_ValueError,
    z_iter := PySem.W.mg_none_of X G z_iter,
    z_min := PySem.W.mg_none_of X G z_min,
    z_max := PySem.W.mg_none_of X G z_max,
    z_sum := PySem.W.mg_none_of X G z_sum,
    g_BadNumber := PySem.W.mg_of X G g_BadNumber,
    g_RepeatedHour := PySem.W.mg_of X G g_RepeatedHour,
    g_OtherHours := PySem.W.mg_of X G g_OtherHours,
    g_Meets := PySem.W.mg_of X G g_Meets,
    g_NotADivisor := PySem.W.mg_of X G g_NotADivisor,
    g_Lot := PySem.W.mg_of X G g_Lot,
    ox_BadNumber := ⟨⟨nm_BadNumber, q_BadNumber, N_BadNumber, bs_BadNumber, _, sn_BadNumber, sub_BadNumber, ab_BadNumber, col_BadNumber, dd_BadNumber, m0_BadNumber, m1_BadNumber, m2_BadNumber, m3_BadNumber, m5_BadNumber, xL_BadNumber, rfl⟩, sa_BadNumber, exC_BadNumber, tyC_BadNumber, kC_BadNumber⟩,
    ni_BadNumber := a0,
    ti_BadNumber := ti_BadNumber,
    nf_BadNumber_name := nf_BadNumber_name,
    nf_BadNumber_value := nf_BadNumber_value,
    xf_BadNumber := ⟨ga_BadNumber, gg_BadNumber, exC_BadNumber, hdC_BadNumber⟩,
    ex_BadNumber := ⟨ga_BadNumber, gg_BadNumber, exC_BadNumber, hdC_BadNumber, ha_BadNumber, hn_, ht_, hm_BadNumber⟩,
    ox_RepeatedHour := ⟨⟨nm_RepeatedHour, q_RepeatedHour, N_RepeatedHour, bs_RepeatedHour, _, sn_RepeatedHour, sub_RepeatedHour, ab_RepeatedHour, col_RepeatedHour, dd_RepeatedHour, m0_RepeatedHour, m1_RepeatedHour, m2_RepeatedHour, m3_RepeatedHour, m5_RepeatedHour, xL_RepeatedHour, rfl⟩, sa_RepeatedHour, exC_RepeatedHour, tyC_RepeatedHour, kC_RepeatedHour⟩,
    ni_RepeatedHour := a1,
    ti_RepeatedHour := ti_RepeatedHour,
    nf_RepeatedHour_hour := nf_RepeatedHour_hour,
    xf_RepeatedHour := ⟨ga_RepeatedHour, gg_RepeatedHour, exC_RepeatedHour, hdC_RepeatedHour⟩,
    ex_RepeatedHour := ⟨ga_RepeatedHour, gg_RepeatedHour, exC_RepeatedHour, hdC_RepeatedHour, ha_RepeatedHour, hn_, ht_, hm_RepeatedHour⟩,
    ox_Meets := ⟨⟨nm_Meets, q_Meets, N_Meets, bs_Meets, _, sn_Meets, sub_Meets, ab_Meets, col_Meets, dd_Meets, m0_Meets, m1_Meets, m2_Meets, m3_Meets, m5_Meets, xL_Meets, rfl⟩, sa_Meets, exC_Meets, tyC_Meets, kC_Meets⟩,
    ni_Meets := a2,
    ti_Meets := ti_Meets,
    nf_Meets_hour := nf_Meets_hour,
    xf_Meets := ⟨ga_Meets, gg_Meets, exC_Meets, hdC_Meets⟩,
    ex_Meets := ⟨ga_Meets, gg_Meets, exC_Meets, hdC_Meets, ha_Meets, hn_, ht_, hm_Meets⟩,
    ox_NotADivisor := ⟨⟨nm_NotADivisor, q_NotADivisor, N_NotADivisor, bs_NotADivisor, _, sn_NotADivisor, sub_NotADivisor, ab_NotADivisor, col_NotADivisor, dd_NotADivisor, m0_NotADivisor, m1_NotADivisor, m2_NotADivisor, m3_NotADivisor, m5_NotADivisor, xL_NotADivisor, rfl⟩, sa_NotADivisor, exC_NotADivisor, tyC_NotADivisor, kC_NotADivisor⟩,
    ni_NotADivisor := a3,
    ti_NotADivisor := ti_NotADivisor,
    nf_NotADivisor_number := nf_NotADivisor_number,
    xf_NotADivisor := ⟨ga_NotADivisor, gg_NotADivisor, exC_NotADivisor, hdC_NotADivisor⟩,
    ex_NotADivisor := ⟨ga_NotADivisor, gg_NotADivisor, exC_NotADivisor, hdC_NotADivisor, ha_NotADivisor, hn_, ht_, hm_NotADivisor⟩,
    xP_OtherHours := xP_OtherHours,
    kP_OtherHours := kP_OtherHours,
    bP_OtherHours := exC_OtherHours,
    tP_OtherHours := tyC_OtherHours,
    ex_OtherHours := ⟨ga_OtherHours, gg_OtherHours, exC_OtherHours, hdC_OtherHours, ha_OtherHours, hn_, ht_, hm_OtherHours⟩,
    xm_Meets_Meets := PySem.W.exm_ref exC_Meets hdC_Meets tyC_Meets meC_Meets,
    cl_Lot := ⟨pg_Lot, hd_Lot, po_Lot, sa_Lot⟩,
    mk_Lot := ⟨mk_Lot, a4, if_4, kc_Lot⟩,
    na_Lot_hours := na_Lot_hours,
    na_Lot_members := na_Lot_members,
    op_Lot := ⟨sf_Lot, si_Lot⟩,
    D_Lot_lshift := ⟨dn_Lot_lshift, if_8, k8⟩,
    D_Lot_rshift := ⟨dn_Lot_rshift, if_9, k9⟩,
    D_Lot_mul := ⟨dn_Lot_mul, if_14, k14⟩,
    D_Lot_add := ⟨dn_Lot_add, if_16, k16⟩,
    D_Lot_mod := ⟨dn_Lot_mod, if_17, k17⟩,
    D_Lot_pow := ⟨dn_Lot_pow, if_18, k18⟩,
    R_Lot_mul := ⟨dr_Lot_mul, if_15, k15⟩,
    li_Lot := sub_Lot_int,
    I_Lot_lshift := ⟨⟨_, rc_Lot_lshift, .inl rfl⟩, ⟨_, lo_Lot_lshift⟩, ⟨_, ro_Lot_lshift⟩⟩,
    I_Lot_rshift := ⟨⟨_, rc_Lot_rshift, .inl rfl⟩, ⟨_, lo_Lot_rshift⟩, ⟨_, ro_Lot_rshift⟩⟩,
    I_Lot_mul := ⟨⟨_, rc_Lot_mul, .inr ⟨_, rfl⟩⟩, ⟨_, lo_Lot_mul⟩, ⟨_, ro_Lot_mul⟩⟩,
    I_Lot_mod := ⟨⟨_, rc_Lot_mod, .inl rfl⟩, ⟨_, lo_Lot_mod⟩, ⟨_, ro_Lot_mod⟩⟩,
    I_Lot_pow := ⟨⟨_, rc_Lot_pow, .inl rfl⟩, ⟨_, lo_Lot_pow⟩, ⟨_, ro_Lot_pow⟩⟩,
    ty_Lot := fun H a dx fs e => .base (.ins e ⟨pg_Lot, hd_Lot, po_Lot, sa_Lot⟩ ha_Lot hn_ ht_ hm_Lot),
    rd_Lot := ⟨.type "type", ⟨rd_Lot, gt_Lot⟩, ⟨_, cv_Lot_MOST, ⟨_, rfl⟩⟩⟩,
    P_Lot_members := ⟨pa_5, pg_5, pt_5, ⟨_, a5⟩⟩,
    M_Lot_len := ⟨a6, if_6, k6⟩,
    M_Lot_iter := ⟨a7, if_7, k7⟩,
    M_Lot_lshift := ⟨a8, if_8, k8⟩,
    M_Lot_rshift := ⟨a9, if_9, k9⟩,
    M_Lot_neg := ⟨a10, if_10, k10⟩,
    M_Lot_invert := ⟨a11, if_11, k11⟩,
    M_Lot_mul := ⟨a14, if_14, k14⟩,
    M_Lot_rmul := ⟨a15, if_15, k15⟩,
    M_Lot_add := ⟨a16, if_16, k16⟩,
    M_Lot_mod := ⟨a17, if_17, k17⟩,
    M_Lot_pow := ⟨a18, if_18, k18⟩ }
  exact ⟨A.d_law, fun s v => .of_eq rfl, fun base _ _ => ok_law T⟩
end
theorem walk {l : PySem.W.OpenLaw} {q : Program} {loose : List Str} {XP : (Str → Option Value) → Heap → Prop} {YP : World → Heap → Prop} {d : DefRec} {K : Params → PySem.W.Frag} (hn : l.most = some 63) (hdf : d.params.defaults = [])
    (hY : ∀ (w : World) (h : Heap), YP w h → (K w.params).In h)
    (F : ∀ (w : World) (mg : Str → Option Value) (fa : Addr) (h : Heap), (K w.params).In h → h.Ns mainGlobals mg → mg d.name = some (.ref fa) →
      ∃ fd : FuncData, (∀ (s : Shared) (u : Value), BindsTo s fd ⟨[u], []⟩ [("script", u)]) ∧ ∀ base : Heap, (K w.params).In base → base.Ns mainGlobals mg → FnOk l.prog w (K w.params) mg base CX0 14 fa fd ["script"] ((spLaw) (K w.params))) :
    PySem.W.WalkO q loose XP YP l.row.toRowW d [] (fun f vs => PySem.call f vs) :=
  L2.walk_of (n := 63) (k := 14) (x := "script") (CX := fun _ => CX0) (sp := fun w => (spLaw) (K w.params)) hn (by decide) hdf ⟨rfl, by decide, by decide⟩ hY F (fun _ _ a ns hl _ hS => ⟨a, ns, rfl, hS, hl, fun _ => rfl⟩) fun _ _ _ _ _ z => z
end Pf
open PySem PySem.W PyProof.Rows
set_option maxRecDepth 100000 in
set_option maxHeartbeats 0 in
theorem PySem.Challenge.cw_watchbeats_k09_whole_differences_holds : PySem.Challenge.rw_watchbeats_k09_whole_differences.Holds := by
  w_on; o_law; k_head; (case hw => w_witness2)
  k_fill
  refine Pf.walk (l := PySem.Challenge.rw_watchbeats_k09_whole_differences) rfl rfl (fun w h Y => PySem.W.kIn_of Y) ?F
  case F =>
    intro w mg fa h KX G hmg
    refine' Pf.all_mk KX G hmg ?g_BadNumber ?g_RepeatedHour ?g_OtherHours ?g_Meets ?g_NotADivisor ?g_Lot ?a0 ?l0 ?c0 ?k0 ?a1 ?l1 ?c1 ?k1 ?a2 ?l2 ?c2 ?k2 ?a3 ?l3 ?c3 ?k3 ?a4 ?l4 ?c4 ?k4 ?pa_5 ?a5 ?l5 ?c5 ?k5 ?a6 ?l6 ?c6 ?k6 ?a7 ?l7 ?c7 ?k7 ?a8 ?l8 ?c8 ?k8 ?a9 ?l9 ?c9 ?k9 ?a10 ?l10 ?c10 ?k10 ?a11 ?l11 ?c11 ?k11 ?a12 ?l12 ?c12 ?k12 ?a13 ?l13 ?c13 ?k13 ?a14 ?l14 ?c14 ?k14 ?a15 ?l15 ?c15 ?k15 ?a16 ?l16 ?c16 ?k16 ?a17 ?l17 ?c17 ?k17 ?a18 ?l18 ?c18 ?k18 ?a19 ?l19 ?c19 ?k19 ?a20 ?l20 ?c20 ?k20 ?a21 ?l21 ?c21 ?k21 ?a22 ?l22 ?c22 ?k22 ?a23 ?l23 ?c23 ?k23 ?a24 ?l24 ?c24 ?k24 ?a25 ?l25 ?c25 ?k25 ?a26 ?l26 ?c26 ?k26 ?a27 ?l27 ?c27 ?k27 ?a28 ?l28 ?c28 ?k28 ?a29 ?l29 ?c29 ?k29 ?a30 ?l30 ?c30 ?k30 ?a31 ?l31 ?c31 ?k31 ?a32 ?l32 ?c32 ?k32 ?a33 ?l33 ?c33 ?k33 ?a34 ?l34 ?c34 ?k34 ?a35 ?l35 ?c35 ?k35 ?a36 ?l36 ?c36 ?k36 ?a37 ?l37 ?c37 ?k37 ?a38 ?l38 ?c38 ?k38 ?a39 ?l39 ?c39 ?k39 ?a40 ?l40 ?c40 ?k40 ?a41 ?l41 ?c41 ?k41 ?a42 ?l42 ?c42 ?k42 ?a43 ?l43 ?c43 ?k43 ?a44 ?l44 ?c44 ?k44 ?z_abs ?z_len ?z_int ?z_bool ?z_str ?z_list ?z_tuple ?z_isinstance ?z_range ?z_ValueError ?z_iter ?z_min ?z_max ?z_sum ?exC_BadNumber ?hdC_BadNumber ?tyC_BadNumber ?meC_BadNumber ?xL_BadNumber ?sa_BadNumber ?kC_BadNumber ?ti_BadNumber ?ga_BadNumber ?gg_BadNumber ?ha_BadNumber ?hn_ ?ht_ ?hm_BadNumber ?nf_BadNumber_name ?nf_BadNumber_value ?exC_RepeatedHour ?hdC_RepeatedHour ?tyC_RepeatedHour ?meC_RepeatedHour ?xL_RepeatedHour ?sa_RepeatedHour ?kC_RepeatedHour ?ti_RepeatedHour ?ga_RepeatedHour ?gg_RepeatedHour ?ha_RepeatedHour ?hm_RepeatedHour ?nf_RepeatedHour_hour ?exC_Meets ?hdC_Meets ?tyC_Meets ?meC_Meets ?xL_Meets ?sa_Meets ?kC_Meets ?ti_Meets ?ga_Meets ?gg_Meets ?ha_Meets ?hm_Meets ?nf_Meets_hour ?exC_NotADivisor ?hdC_NotADivisor ?tyC_NotADivisor ?meC_NotADivisor ?xL_NotADivisor ?sa_NotADivisor ?kC_NotADivisor ?ti_NotADivisor ?ga_NotADivisor ?gg_NotADivisor ?ha_NotADivisor ?hm_NotADivisor ?nf_NotADivisor_number ?exC_OtherHours ?hdC_OtherHours ?tyC_OtherHours ?meC_OtherHours ?xP_OtherHours ?kP_OtherHours ?ga_OtherHours ?gg_OtherHours ?ha_OtherHours ?hm_OtherHours ?pg_Lot ?hd_Lot ?po_Lot ?sa_Lot ?mk_Lot ?kc_Lot ?if_4 ?na_Lot_hours ?na_Lot_members ?sf_Lot ?si_Lot ?dn_Lot_lshift ?dn_Lot_rshift ?dn_Lot_mul ?dn_Lot_add ?dn_Lot_mod ?dn_Lot_pow ?dr_Lot_mul ?if_15 ?sub_Lot_int ?rc_Lot_lshift ?lo_Lot_lshift ?ro_Lot_lshift ?rc_Lot_rshift ?lo_Lot_rshift ?ro_Lot_rshift ?rc_Lot_mul ?lo_Lot_mul ?ro_Lot_mul ?rc_Lot_mod ?lo_Lot_mod ?ro_Lot_mod ?rc_Lot_pow ?lo_Lot_pow ?ro_Lot_pow ?ha_Lot ?hm_Lot ?rd_Lot ?gt_Lot ?cv_Lot_MOST ?pg_5 ?pt_5 ?if_6 ?if_7 ?if_8 ?if_9 ?if_10 ?if_11 ?if_14 ?if_16 ?if_17 ?if_18
    (case g_BadNumber => k_is)
    (case g_RepeatedHour => k_is)
    (case g_OtherHours => k_is)
    (case g_Meets => k_is)
    (case g_NotADivisor => k_is)
    (case g_Lot => k_is)
    (case a0 => k_is)
    (case l0 => k_is)
    (case c0 => k_is)
    (case k0 => k_is)
    (case a1 => k_is)
    (case l1 => k_is)
    (case c1 => k_is)
    (case k1 => k_is)
    (case a2 => k_is)
    (case l2 => k_is)
    (case c2 => k_is)
    (case k2 => k_is)
    (case a3 => k_is)
    (case l3 => k_is)
    (case c3 => k_is)
    (case k3 => k_is)
    (case a4 => k_is)
    (case l4 => k_is)
    (case c4 => k_is)
    (case k4 => k_is)
    (case pa_5 => k_is)
    (case a5 => k_is)
    (case l5 => k_is)
    (case c5 => k_is)
    (case k5 => k_is)
    (case a6 => k_is)
    (case l6 => k_is)
    (case c6 => k_is)
    (case k6 => k_is)
    (case a7 => k_is)
    (case l7 => k_is)
    (case c7 => k_is)
    (case k7 => k_is)
    (case a8 => k_is)
    (case l8 => k_is)
    (case c8 => k_is)
    (case k8 => k_is)
    (case a9 => k_is)
    (case l9 => k_is)
    (case c9 => k_is)
    (case k9 => k_is)
    (case a10 => k_is)
    (case l10 => k_is)
    (case c10 => k_is)
    (case k10 => k_is)
    (case a11 => k_is)
    (case l11 => k_is)
    (case c11 => k_is)
    (case k11 => k_is)
    (case a12 => k_is)
    (case l12 => k_is)
    (case c12 => k_is)
    (case k12 => k_is)
    (case a13 => k_is)
    (case l13 => k_is)
    (case c13 => k_is)
    (case k13 => k_is)
    (case a14 => k_is)
    (case l14 => k_is)
    (case c14 => k_is)
    (case k14 => k_is)
    (case a15 => k_is)
    (case l15 => k_is)
    (case c15 => k_is)
    (case k15 => k_is)
    (case a16 => k_is)
    (case l16 => k_is)
    (case c16 => k_is)
    (case k16 => k_is)
    (case a17 => k_is)
    (case l17 => k_is)
    (case c17 => k_is)
    (case k17 => k_is)
    (case a18 => k_is)
    (case l18 => k_is)
    (case c18 => k_is)
    (case k18 => k_is)
    (case a19 => k_is)
    (case l19 => k_is)
    (case c19 => k_is)
    (case k19 => k_is)
    (case a20 => k_is)
    (case l20 => k_is)
    (case c20 => k_is)
    (case k20 => k_is)
    (case a21 => k_is)
    (case l21 => k_is)
    (case c21 => k_is)
    (case k21 => k_is)
    (case a22 => k_is)
    (case l22 => k_is)
    (case c22 => k_is)
    (case k22 => k_is)
    (case a23 => k_is)
    (case l23 => k_is)
    (case c23 => k_is)
    (case k23 => k_is)
    (case a24 => k_is)
    (case l24 => k_is)
    (case c24 => k_is)
    (case k24 => k_is)
    (case a25 => k_is)
    (case l25 => k_is)
    (case c25 => k_is)
    (case k25 => k_is)
    (case a26 => k_is)
    (case l26 => k_is)
    (case c26 => k_is)
    (case k26 => k_is)
    (case a27 => k_is)
    (case l27 => k_is)
    (case c27 => k_is)
    (case k27 => k_is)
    (case a28 => k_is)
    (case l28 => k_is)
    (case c28 => k_is)
    (case k28 => k_is)
    (case a29 => k_is)
    (case l29 => k_is)
    (case c29 => k_is)
    (case k29 => k_is)
    (case a30 => k_is)
    (case l30 => k_is)
    (case c30 => k_is)
    (case k30 => k_is)
    (case a31 => k_is)
    (case l31 => k_is)
    (case c31 => k_is)
    (case k31 => k_is)
    (case a32 => k_is)
    (case l32 => k_is)
    (case c32 => k_is)
    (case k32 => k_is)
    (case a33 => k_is)
    (case l33 => k_is)
    (case c33 => k_is)
    (case k33 => k_is)
    (case a34 => k_is)
    (case l34 => k_is)
    (case c34 => k_is)
    (case k34 => k_is)
    (case a35 => k_is)
    (case l35 => k_is)
    (case c35 => k_is)
    (case k35 => k_is)
    (case a36 => k_is)
    (case l36 => k_is)
    (case c36 => k_is)
    (case k36 => k_is)
    (case a37 => k_is)
    (case l37 => k_is)
    (case c37 => k_is)
    (case k37 => k_is)
    (case a38 => k_is)
    (case l38 => k_is)
    (case c38 => k_is)
    (case k38 => k_is)
    (case a39 => k_is)
    (case l39 => k_is)
    (case c39 => k_is)
    (case k39 => k_is)
    (case a40 => k_is)
    (case l40 => k_is)
    (case c40 => k_is)
    (case k40 => k_is)
    (case a41 => k_is)
    (case l41 => k_is)
    (case c41 => k_is)
    (case k41 => k_is)
    (case a42 => k_is)
    (case l42 => k_is)
    (case c42 => k_is)
    (case k42 => k_is)
    (case a43 => k_is)
    (case l43 => k_is)
    (case c43 => k_is)
    (case k43 => k_is)
    (case a44 => k_is)
    (case l44 => k_is)
    (case c44 => k_is)
    (case k44 => k_is)
    (case z_abs => k_is)
    (case z_len => k_is)
    (case z_int => k_is)
    (case z_bool => k_is)
    (case z_str => k_is)
    (case z_list => k_is)
    (case z_tuple => k_is)
    (case z_isinstance => k_is)
    (case z_range => k_is)
    (case z_ValueError => k_is)
    (case z_iter => k_is)
    (case z_min => k_is)
    (case z_max => k_is)
    (case z_sum => k_is)
    (case exC_BadNumber => k_is)
    (case hdC_BadNumber => k_is)
    (case tyC_BadNumber => k_is)
    (case meC_BadNumber => first | rfl | k_is)
    (case xL_BadNumber => k_is)
    (case sa_BadNumber => k_is)
    (case kC_BadNumber => k_is)
    (case ti_BadNumber => k_is)
    (case ga_BadNumber => k_is)
    (case gg_BadNumber => k_is)
    (case ha_BadNumber => k_is)
    (case hn_ => k_is)
    (case ht_ => k_is)
    (case hm_BadNumber => k_is)
    (case nf_BadNumber_name => k_is)
    (case nf_BadNumber_value => k_is)
    (case exC_RepeatedHour => k_is)
    (case hdC_RepeatedHour => k_is)
    (case tyC_RepeatedHour => k_is)
    (case meC_RepeatedHour => first | rfl | k_is)
    (case xL_RepeatedHour => k_is)
    (case sa_RepeatedHour => k_is)
    (case kC_RepeatedHour => k_is)
    (case ti_RepeatedHour => k_is)
    (case ga_RepeatedHour => k_is)
    (case gg_RepeatedHour => k_is)
    (case ha_RepeatedHour => k_is)
    (case hm_RepeatedHour => k_is)
    (case nf_RepeatedHour_hour => k_is)
    (case exC_Meets => k_is)
    (case hdC_Meets => k_is)
    (case tyC_Meets => k_is)
    (case meC_Meets => first | rfl | k_is)
    (case xL_Meets => k_is)
    (case sa_Meets => k_is)
    (case kC_Meets => k_is)
    (case ti_Meets => k_is)
    (case ga_Meets => k_is)
    (case gg_Meets => k_is)
    (case ha_Meets => k_is)
    (case hm_Meets => k_is)
    (case nf_Meets_hour => k_is)
    (case exC_NotADivisor => k_is)
    (case hdC_NotADivisor => k_is)
    (case tyC_NotADivisor => k_is)
    (case meC_NotADivisor => first | rfl | k_is)
    (case xL_NotADivisor => k_is)
    (case sa_NotADivisor => k_is)
    (case kC_NotADivisor => k_is)
    (case ti_NotADivisor => k_is)
    (case ga_NotADivisor => k_is)
    (case gg_NotADivisor => k_is)
    (case ha_NotADivisor => k_is)
    (case hm_NotADivisor => k_is)
    (case nf_NotADivisor_number => k_is)
    (case exC_OtherHours => k_is)
    (case hdC_OtherHours => k_is)
    (case tyC_OtherHours => k_is)
    (case meC_OtherHours => first | rfl | k_is)
    (case xP_OtherHours => k_exc)
    (case kP_OtherHours => k_is)
    (case ga_OtherHours => k_is)
    (case gg_OtherHours => k_is)
    (case ha_OtherHours => k_is)
    (case hm_OtherHours => k_is)
    (case pg_Lot => k_is)
    (case hd_Lot => k_is)
    (case po_Lot => k_is)
    (case sa_Lot => k_is)
    (case mk_Lot => k_is)
    (case kc_Lot => k_is)
    (case if_4 => k_is)
    (case na_Lot_hours => k_is)
    (case na_Lot_members => k_is)
    (case sf_Lot => k_is)
    (case si_Lot => k_is)
    (case dn_Lot_lshift => k_is)
    (case dn_Lot_rshift => k_is)
    (case dn_Lot_mul => k_is)
    (case dn_Lot_add => k_is)
    (case dn_Lot_mod => k_is)
    (case dn_Lot_pow => k_is)
    (case dr_Lot_mul => k_is)
    (case if_15 => k_is)
    (case sub_Lot_int => k_is)
    (case rc_Lot_lshift => k_is)
    (case lo_Lot_lshift => k_is)
    (case ro_Lot_lshift => k_is)
    (case rc_Lot_rshift => k_is)
    (case lo_Lot_rshift => k_is)
    (case ro_Lot_rshift => k_is)
    (case rc_Lot_mul => k_is)
    (case lo_Lot_mul => k_is)
    (case ro_Lot_mul => k_is)
    (case rc_Lot_mod => k_is)
    (case lo_Lot_mod => k_is)
    (case ro_Lot_mod => k_is)
    (case rc_Lot_pow => k_is)
    (case lo_Lot_pow => k_is)
    (case ro_Lot_pow => k_is)
    (case ha_Lot => k_is)
    (case hm_Lot => k_is)
    (case rd_Lot => k_is)
    (case gt_Lot => k_is)
    (case cv_Lot_MOST => k_is)
    (case pg_5 => k_is)
    (case pt_5 => k_is)
    (case if_6 => k_is)
    (case if_7 => k_is)
    (case if_8 => k_is)
    (case if_9 => k_is)
    (case if_10 => k_is)
    (case if_11 => k_is)
    (case if_14 => k_is)
    (case if_16 => k_is)
    (case if_17 => k_is)
    (case if_18 => k_is)
#print axioms PySem.Challenge.cw_watchbeats_k09_whole_differences_holds
