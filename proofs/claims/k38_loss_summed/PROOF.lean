import PyProof.Rows.All
import Wide.All
import OpenK.AllK
import Wide.FinOn
import HandS.ForMost
import HandS.Exc
import HandS.ExcInit
import HandS.ExcField
import HandS.ExcIs
import KE.KExcIs
import HandS.IsInst
import HandS.CallSlots
import HandS.WordsExc
import HandS.Wide
import HandS.Gcd
import HandS.Style
import HandS.Evl
import HandS.Property
import HandS.ClsMeth
import HandS.Deep
import HandS.IterVal
import HandS.OwnIter
import HandS.Conv
import KE.KOwnIter
import HandS.SortInts
import KE.KOpsOwn
import HandS.OwnEq
import HandS.SlotsOwn
import KE.DataCmp
import KE.SortData
import HandS.Walk
import HandS.ClsMeth
import HandS.IterVal
import KE.KCallOwn
import PyProof.InstNe
import PyProof.Conv_bool
import KE.KOpsOwn
import HandS.SlotsOwn
import HandS.Text
import HandS.Replace
import HandS.Strs
import KE.GoesEnum
import HandS.Iter
import HandS.Walk
import PySem.Challenge.RW_watchbeats_k38_loss_summed
set_option Elab.async false
set_option linter.all false
set_option maxRecDepth 100000
set_option maxHeartbeats 4000000
/-! loss that is summed, def by def -/
namespace Pf
open PySem L2 Evl

def topS (i : Nat) : Stmt := PySem.Challenge.pw_watchbeats_k38_loss_summed.main.body.getD i (.Pass ⟨0, 0, 0, 0⟩)
abbrev s_BadNumber_init : Stmt := inClass (topS 4) 0
abbrev N_BadNumber_init : List Str := ["self", "name", "value"]
abbrev s_TooMany_init : Stmt := inClass (topS 5) 0
abbrev N_TooMany_init : List Str := ["self", "name", "most"]
abbrev s_WrongLength_init : Stmt := inClass (topS 8) 0
abbrev N_WrongLength_init : List Str := ["self", "length"]
abbrev s_BadName_init : Stmt := inClass (topS 10) 0
abbrev N_BadName_init : List Str := ["self", "name"]
abbrev s_RepeatedName_init : Stmt := inClass (topS 11) 0
abbrev N_RepeatedName_init : List Str := ["self", "name"]
abbrev s_BadSpread_init : Stmt := inClass (topS 13) 0
abbrev N_BadSpread_init : List Str := ["self", "index"]
abbrev s_check_name : Stmt := topS 18
abbrev N_check_name : List Str := ["name", "letter"]
abbrev s_check_new_name : Stmt := topS 19
abbrev N_check_new_name : List Str := ["name", "names"]
abbrev s_House_init : Stmt := inClass (topS 17) 4
abbrev N_House_init : List Str := ["self", "hours", "gates", "names", "stakes", "name", "stake"]
abbrev s_House_len : Stmt := inClass (topS 17) 7
abbrev N_House_len : List Str := ["self"]
abbrev s_is_gate : Stmt := topS 20
abbrev N_is_gate : List Str := ["house", "gate"]
abbrev s_is_cell : Stmt := topS 21
abbrev N_is_cell : List Str := ["house", "cell", "gate", "hour"]
abbrev s_total_tries : Stmt := topS 24
abbrev N_total_tries : List Str := ["house", "spread", "total", "before", "at", "gate", "hour", "tries", "cell"]
abbrev s_u_check_row : Stmt := topS 29
abbrev N_u_check_row : List Str := ["house", "row", "strength"]
abbrev s_Watch_init : Stmt := inClass (topS 28) 1
abbrev N_Watch_init : List Str := ["self", "house", "rows", "row"]
abbrev s_Watch_rows : Stmt := inClass (topS 28) 4
abbrev N_Watch_rows : List Str := ["self", "row"]
abbrev s_Watch_getitem : Stmt := inClass (topS 28) 9
abbrev N_Watch_getitem : List Str := ["self", "at", "gate", "hour"]
abbrev s_loss : Stmt := topS 26
abbrev N_loss : List Str := ["watch", "spread", "gate", "hour", "tries"]
abbrev s_u_law_cell : Stmt := topS 32
abbrev N_u_law_cell : List Str := ["script", "k"]
abbrev s_u_law_draws : Stmt := topS 33
abbrev N_u_law_draws : List Str := ["cell", "salt", "menu", "found", "rest", "mixed", "k"]
abbrev s_u_law_is_int : Stmt := topS 38
abbrev N_u_law_is_int : List Str := ["x"]
abbrev s_u_law_same : Stmt := topS 39
abbrev N_u_law_same : List Str := ["got", "due", "k"]
abbrev s_u_law_name : Stmt := topS 34
abbrev N_u_law_name : List Str := ["number", "letters", "word", "k"]
abbrev s_u_law_names : Stmt := topS 35
abbrev N_u_law_names : List Str := ["numbers", "letters", "names", "number", "word", "turn"]
abbrev s_u_law_gates : Stmt := topS 36
abbrev N_u_law_gates : List Str := ["numbers", "stakes", "names", "k"]
abbrev s_u_law_rows : Stmt := topS 37
abbrev N_u_law_rows : List Str := ["gates", "n", "numbers", "rows", "at", "g", "row", "h"]
abbrev s_u_law_spread : Stmt := topS 40
abbrev N_u_law_spread : List Str := ["cell", "gates", "n", "drawn", "chosen", "place", "spread", "left", "k", "used"]
abbrev s_u_law_strengths : Stmt := topS 41
abbrev N_u_law_strengths : List Str := ["cell", "other", "salt", "gates", "n", "spread", "near", "menu", "rows", "k", "g", "h", "x"]
abbrev s_u_law_due : Stmt := topS 42
abbrev N_u_law_due : List Str := ["stakes", "rows", "spread", "total", "g", "beaten", "item"]
abbrev s_u_law_fault : Stmt := topS 43
abbrev N_u_law_fault : List Str := ["spread", "kind", "place", "gates", "n", "at", "item", "g", "h", "x"]
abbrev s_u_law_refused : Stmt := topS 44
abbrev N_u_law_refused : List Str := ["watch", "row", "told", "e", "why"]
abbrev s_u_law_loses : Stmt := topS 45
abbrev N_u_law_loses : List Str := ["watches", "stakes", "tables", "spread", "k"]
abbrev s_law : Stmt := topS 46
abbrev N_law : List Str := ["script", "shape", "gates", "n", "numbers", "houses", "at", "spread", "one", "two", "tables", "stakes", "owners", "watches", "k", "row", "item", "due"]

theorem some_int {ns : List Int} {i : Nat} {y : V} (h : (ns.map V.int)[i]? = some y) : ∃ u, y = V.int u ∧ ns[i]? = some u := by
  rw [List.getElem?_map] at h
  cases e : ns[i]? with
  | none => rw [e] at h; cases h
  | some u => rw [e] at h; exact ⟨u, (Option.some.inj h).symm, rfl⟩
theorem wayT {c A B : Prop} [Decidable c] (h : c) (a : A) : if decide c = true then A else B := by rw [decide_eq_true h]; exact iteT a
theorem wayF {c A B : Prop} [Decidable c] (h : ¬ c) (b : B) : if decide c = true then A else B := by rw [decide_eq_false h]; exact iteF b
theorem way {c A B : Prop} [Decidable c] (a : c → A) (b : ¬ c → B) : if decide c = true then A else B := by
  by_cases h : c
  · exact wayT h (a h)
  · exact wayF h (b h)
theorem wayNT {c A B : Prop} [Decidable c] (h : c) (b : B) : if (!decide c) = true then A else B := by rw [decide_eq_true h]; exact iteF b
theorem wayNF {c A B : Prop} [Decidable c] (h : ¬ c) (a : A) : if (!decide c) = true then A else B := by rw [decide_eq_false h]; exact iteT a
theorem dec_ii {a b : Int} : decide (V.int a = V.int b) = decide (a = b) := by simp
theorem dec_bb {a b : Bool} : decide (V.bl a = V.bl b) = decide (a = b) := by simp
/-- the names of a comprehension's block within another scope -/
def relS (scope outer : Scope) : Scope := { scope with names := scope.names.map fun (n, k) => if (k == .free && outer.kind == .function && outer.names.lookup n == some .cell) then (n, .cell) else (n, k) }
/-- the ints that a comprehension over a range gives -/
def pick (n : Nat) (f : Nat → Bool) (g : Nat → Int) : List Int := ((List.range n).filter f).map g
theorem given_pick (n : Nat) (f : Nat → Bool) (g : Nat → Int) : given n f (fun i => V.int (g i)) = (pick n f g).map V.int := by
  unfold given pick
  rw [List.map_map]
  rfl
theorem pick_len (n : Nat) (f : Nat → Bool) (g : Nat → Int) : (pick n f g).length ≤ n := by
  unfold pick
  rw [List.length_map]
  have := List.length_filter_le f (List.range n)
  rwa [List.length_range] at this
theorem pick_congr {n : Nat} {f f' : Nat → Bool} {g : Nat → Int} (h : ∀ i, i < n → f i = f' i) : pick n f g = pick n f' g := by
  unfold pick
  rw [List.filter_congr fun i hi => h i (List.mem_range.mp hi)]
theorem el_rng2 {σ : L2.St} {H : Hp} {te : TE} {tt : TT} {ta : TA} {j : Nat} {vs : List Nat} {lo hi : Int} (f : Nat → Bool) (v : Nat → V) (h : EvA ta σ H [.int lo, .int hi]) (hn : 0 ≤ lo ∧ lo ≤ 40000 ∧ -40000 ≤ hi ∧ hi ≤ 40000)
    (hw : ∀ x, wipe ((wipe σ vs).set j (some x)) vs = wipe σ vs)
    (ht : ∀ (i : Nat) H1, Ex H H1 → lo + (i : Int) < hi → EvT tt ((wipe σ vs).set j (some (.int (lo + (i : Int))))) H1 (f i))
    (he : ∀ (i : Nat) H1, Ex H H1 → lo + (i : Int) < hi → f i = true → Ev te ((wipe σ vs).set j (some (.int (lo + (i : Int))))) H1 (v i)) :
    EvL (tLc (iRng2 ta) (gName j) tt te vs) σ H (given (hi - lo).toNat f v) := by
  intro H0 e Q q
  refine h H0 e _ fun H1 e1 => ⟨lo, hi, rfl, ⟨by omega, by omega, by omega, by omega⟩, fun D hD => ?_⟩
  exact lc_range (lo := lo) (n := (hi - lo).toNat) (Cw H1 f v D) ⟨hD, Ex.new hD, upd_same⟩
    (fun i H' hi' p => ⟨hw _, cw_turn p (by omega) (ht i H1 (e.trans e1) (by omega)) (fun hf => he i H1 (e.trans e1) (by omega) hf)⟩)
    (fun H' p => q D H' (fresh_back e1 p.1) (e1.trans p.2.1) p.2.2)
theorem given_list (xs : List Int) (p : Int → Bool) : given (xs.map V.int).length (fun i => p (xs.getD i 0)) (fun i => V.int (xs.getD i 0)) = (xs.filter p).map V.int := by
  rw [List.length_map]
  induction xs with
  | nil => rfl
  | cons x xs ih =>
    unfold given at ih ⊢
    rw [List.length_cons, List.range_succ_eq_map, List.filter_cons, List.filter_map]
    have e : ∀ (z : List Nat), (z.filter ((fun i => p ((x :: xs).getD i 0)) ∘ Nat.succ)) = z.filter fun i => p (xs.getD i 0) := fun z => List.filter_congr fun i _ => by simp
    rw [e]
    by_cases hp : p x = true
    · rw [if_pos (by simpa using hp), List.filter_cons, if_pos hp, List.map_cons, List.map_cons, ← ih, List.map_map]
      simp
    · rw [if_neg (by simpa using hp), List.filter_cons, if_neg hp, ← ih, List.map_map]
      simp
theorem el_lst1 {K : PySem.W.Frag} {σ : L2.St} {H : Hp} {te tl : TE} {tt : TT} {j : Nat} {vs : List Nat} {a : Addr} (xs : List Int) (p : Int → Bool) (h : Ev tl σ H (.ref a)) (hx : SqL K H a (xs.map V.int)) (hz : xs.length ≤ 40000)
    (hw : ∀ x, wipe ((wipe σ vs).set j (some x)) vs = wipe σ vs)
    (ht : ∀ (x : Int) H1, Ex H H1 → x ∈ xs → EvT tt ((wipe σ vs).set j (some (.int x))) H1 (p x))
    (he : ∀ (x : Int) H1, Ex H H1 → x ∈ xs → Ev te ((wipe σ vs).set j (some (.int x))) H1 (.int x)) :
    EvL (tLc (iList K tl) (gName j) tt te vs) σ H ((xs.filter p).map V.int) := by
  rw [← given_list]
  have get : ∀ (i : Nat) (x : V), (xs.map V.int)[i]? = some x → x = .int (xs.getD i 0) ∧ xs.getD i 0 ∈ xs := fun i x hi => by
    obtain ⟨u, e, hu⟩ := some_int hi
    rw [List.getD_eq_getElem?_getD, hu]
    exact ⟨e, List.mem_of_getElem? hu⟩
  refine el_lcL _ _ h hx (by rw [List.length_map]; exact hz) hw (fun i x H1 e1 hi => ?_) (fun i x H1 e1 hi _ => ?_)
  · obtain ⟨rfl, hm⟩ := get i x hi
    exact ht _ H1 e1 hm
  · obtain ⟨rfl, hm⟩ := get i x hi
    exact he _ H1 e1 hm
theorem given_gen {α : Type} (d : α) (ps : List α) (p : α → Bool) (v : α → V) : given ps.length (fun i => p (ps.getD i d)) (fun i => v (ps.getD i d)) = (ps.filter p).map v := by
  induction ps with
  | nil => rfl
  | cons x xs ih =>
    unfold given at ih ⊢
    rw [List.length_cons, List.range_succ_eq_map, List.filter_cons, List.filter_map]
    have e : ∀ (z : List Nat), (z.filter ((fun i => p ((x :: xs).getD i d)) ∘ Nat.succ)) = z.filter fun i => p (xs.getD i d) := fun z => List.filter_congr fun i _ => by simp
    rw [e]
    by_cases hp : p x = true
    · rw [if_pos (by simpa using hp), List.filter_cons, if_pos hp, List.map_cons, List.map_cons, ← ih, List.map_map]
      simp
    · rw [if_neg (by simpa using hp), List.filter_cons, if_neg hp, ← ih, List.map_map]
      simp
/-- a comprehension over a list whose items stand for the things of ps, the target of any form -/
theorem el_lstG {α : Type} (d : α) {K : PySem.W.Frag} {σ : L2.St} {H : Hp} {te tl : TE} {tt : TT} {g : TG} {vs : List Nat} {a : Addr} (xs : List V) (ps : List α) (p : α → Bool) (v : α → V) (τ : α → L2.St)
    (h : Ev tl σ H (.ref a)) (hx : SqL K H a xs) (hl : xs.length = ps.length) (hz : ps.length ≤ 40000)
    (hg : ∀ (i : Nat) x y H1 (k : L2.St → Hp → Prop), Ex H H1 → xs[i]? = some x → ps[i]? = some y → k (τ y) H1 → g x (wipe σ vs) H1 k)
    (hw : ∀ y, wipe (τ y) vs = wipe σ vs) (ht : ∀ y H1, Ex H H1 → y ∈ ps → EvT tt (τ y) H1 (p y)) (he : ∀ y H1, Ex H H1 → y ∈ ps → p y = true → Ev te (τ y) H1 (v y)) :
    EvL (tLc (iList K tl) g tt te vs) σ H ((ps.filter p).map v) := by
  rw [← given_gen d ps p v]
  intro H0 e0 Q q
  refine h H0 e0 _ fun H1 e1 => ⟨a, rfl, ⟨xs, ex_l (e0.trans e1) hx⟩, fun D hD => ?_⟩
  refine lc_list (xs := xs) (Cw H1 (fun i => p (ps.getD i d)) (fun i => v (ps.getD i d)) D) ⟨hD, Ex.new hD, upd_same⟩ (fun i H' _ c => ex_l ((e0.trans e1).trans c.2.1) hx) (fun i x H' hi c => ?_)
    (fun H' c => by rw [hl] at c; exact q D H' (fresh_back e1 c.1) (e1.trans c.2.1) c.2.2)
  have hil : i < ps.length := by
    have := (List.getElem?_eq_some_iff.mp hi).1
    omega
  have hy : ps[i]? = some (ps.getD i d) := by rw [List.getD_eq_getElem?_getD, List.getElem?_eq_getElem hil]; rfl
  refine hg i x _ H' _ ((e0.trans e1).trans c.2.1) hi hy ⟨hw _, ?_⟩
  exact cw_turn c (by omega) (ht _ H1 (e0.trans e1) (List.mem_of_getElem? hy)) (fun hf => he _ H1 (e0.trans e1) (List.mem_of_getElem? hy) hf)
/-- an if without else, then what follows where M holds -/
theorem q_alt {b : Bool} {t : TT} {tu tz : TS} {D : Ends} {σ : L2.St} {H : Hp} (M : L2.St → Hp → Prop) (h : EvT t σ H b) (h1 : b = true → ∀ H1, Ex H H1 → ∀ W : L2.St → Hp → Prop, (∀ σ' H', M σ' H' → W σ' H') → tu { D with nx := W } σ H1)
    (h2 : b = false → ∀ H1, Ex H H1 → M σ H1) (k : ∀ σ' H', M σ' H' → tz D σ' H') : tSeq (tIfS t tu tNext) tz D σ H :=
  q_when h (fun hb H1 e1 => h1 hb H1 e1 _ k) (fun hb H1 e1 => k _ _ (h2 hb H1 e1))
theorem q_two {b : Bool} {t : TT} {tu tw tz : TS} {D : Ends} {σ : L2.St} {H : Hp} (M : L2.St → Hp → Prop) (h : EvT t σ H b) (h1 : b = true → ∀ H1, Ex H H1 → ∀ W : L2.St → Hp → Prop, (∀ σ' H', M σ' H' → W σ' H') → tu { D with nx := W } σ H1)
    (h2 : b = false → ∀ H1, Ex H H1 → ∀ W : L2.St → Hp → Prop, (∀ σ' H', M σ' H' → W σ' H') → tw { D with nx := W } σ H1) (k : ∀ σ' H', M σ' H' → tz D σ' H') : tSeq (tIfS t tu tw) tz D σ H :=
  q_if h (fun hb H1 e1 => h1 hb H1 e1 _ k) (fun hb H1 e1 => h2 hb H1 e1 _ k)
/-- .. over a list that was just made -/
theorem el_lstN {α : Type} (d : α) {K : PySem.W.Frag} {σ : L2.St} {H : Hp} {te tl : TE} {tt : TT} {g : TG} {vs : List Nat} (xs : List V) (ps : List α) (p : α → Bool) (v : α → V) (τ : α → L2.St)
    (h : EvL tl σ H xs) (hl : xs.length = ps.length) (hz : ps.length ≤ 40000) (hg : ∀ (i : Nat) x y H1 (k : L2.St → Hp → Prop), Ex H H1 → xs[i]? = some x → ps[i]? = some y → k (τ y) H1 → g x (wipe σ vs) H1 k)
    (hw : ∀ y, wipe (τ y) vs = wipe σ vs) (ht : ∀ y H1, Ex H H1 → y ∈ ps → EvT tt (τ y) H1 (p y)) (he : ∀ y H1, Ex H H1 → y ∈ ps → p y = true → Ev te (τ y) H1 (v y)) :
    EvL (tLc (iList K tl) g tt te vs) σ H ((ps.filter p).map v) := by
  intro H0 e0 Q q
  refine h H0 e0 _ fun a H1 ha e1 h1 => ?_
  refine el_lstG (K := K) (te := te) (tl := tC (.ref a)) (tt := tt) (g := g) (vs := vs) (σ := σ) (H := H1) d xs ps p v τ ev_c (sq_of h1) hl hz (fun i x y H2 k e2 => hg i x y H2 k ((e0.trans e1).trans e2)) hw (fun y H2 e2 => ht y H2 ((e0.trans e1).trans e2)) (fun y H2 e2 => he y H2 ((e0.trans e1).trans e2)) H1 (Ex.refl _) Q fun b H2 hb e2 h2 => q b H2 (fresh_back e1 hb) (e1.trans e2) h2
theorem pick_succ {n : Nat} {f : Nat → Bool} {g : Nat → Int} : pick (n + 1) f g = pick n f g ++ (if f n = true then [g n] else []) := by
  unfold pick
  rw [List.range_succ, List.filter_append, List.map_append, List.filter_cons]
  by_cases h : f n = true
  · rw [if_pos h, if_pos h]; rfl
  · rw [if_neg h, if_neg h]; rfl
theorem ev_gcd {σ : L2.St} {H : Hp} {ta : TA} {a b : Int} (h : EvA ta σ H [.int a, .int b]) : Ev (tCB rGcd ta) σ H (.int ((Nat.gcd a.natAbs b.natAbs : Nat) : Int)) :=
  ev_cb h fun H1 _ _ q => ⟨a, b, rfl, q H1 (Ex.refl H1)⟩
/-! ### rules whose reading says K by its own letter (within a comprehension's block too) -/
theorem ix_lK {X : Cx} {K : PySem.W.Frag} (h : X.K = K := by rfl) : IxR X (rIxL K) := by subst h; exact ix_list
theorem ix_tK {X : Cx} {K : PySem.W.Frag} (h : X.K = K := by rfl) : IxR X (rIxT K) := by subst h; exact ix_tup
theorem ix_sK {X : Cx} {K : PySem.W.Frag} (h : X.K = K := by rfl) : IxR X (rIx K) := by subst h; exact ix_seq
def rLenK (K : PySem.W.Frag) : List V → Hp → VK → Prop := fun xs H Q => ∃ x n, xs = [x] ∧ LenV K x H n ∧ Q (.int (n : Nat)) H
theorem len_K {X : Cx} {K : PySem.W.Frag} (h : X.K = K := by rfl) : CallR X (.builtin "len") (rLenK K) := by subst h; exact call_len
def rListK (K : PySem.W.Frag) : List V → Hp → VK → Prop := fun zs H Q => ∃ p ys, zs = [.ref p] ∧ (SqL K H p ys ∨ SqT K H p ys) ∧
  ∀ l, H l = none → Q (.ref l) (upd H l (.lst ys))
theorem list_K {X : Cx} {K : PySem.W.Frag} (h : X.K = K := by rfl) : CallR X (.type "list") (rListK K) := by subst h; exact call_list_of
theorem in_K {X : Cx} {K : PySem.W.Frag} (h : X.K = K := by rfl) : OpR X (compareOp .In) (rIn K false) := by subst h; exact op_in_seq
theorem notin_K {X : Cx} {K : PySem.W.Frag} (h : X.K = K := by rfl) : OpR X (compareOp .NotIn) (rIn K true) := by subst h; exact op_notIn_seq
theorem pg_tupK {X : Cx} {K : PySem.W.Frag} {pos : Pos} {es : List Expr} {k : Nat} {t : TGs} {n : Nat} (hk : X.K = K) (hc : X.calm = true) (h : PGs X es t)
    (hn : (assignEach es X.env).length = n := by rfl) (hst : (assignEach es X.env).findIdx? (·.1) = none := by rfl) : PG X (.Tuple es k pos) (gTup K n t) := by subst hk; exact pg_tup hc h hn hst
theorem pe_fldK {X : Cx} {K : PySem.W.Frag} {e : Expr} {f : Str} {pos : Pos} {ta : TE} (he : PE X e ta) (hb : attributeBase e f X.env (eval e X.env) = eval e X.env) (hk : X.K = K := by rfl) : PE X (.Attribute e f pos) (tFld K ta f) := by subst hk; exact pe_fld he hb
theorem eqD_K {X : Cx} {K : PySem.W.Frag} (hu : X.A.units + 64 < cLine) (hk : X.K = K := by rfl) : OpR X (compareOp .Eq) (rEqD K) := by subst hk; exact op_eqD hu
theorem neD_K {X : Cx} {K : PySem.W.Frag} (hu : X.A.units + 64 < cLine) (hk : X.K = K := by rfl) : OpR X (compareOp .NotEq) (rNeD K) := by subst hk; exact op_neD hu
theorem isi_K {X : Cx} {K : PySem.W.Frag} (h : X.K = K := by rfl) : CallR X (.builtin "isinstance") (rIsi K) := by subst h; exact call_isi
/-! ### data -/
/-- data of a depth below n, of lists and tuples that are not too long -/
def Flat : Nat → PyData → Prop
  | 0, _ => False
  | n + 1, .list ds => ds.length ≤ 40000 ∧ ∀ d ∈ ds, Flat n d
  | n + 1, .tuple ds => ds.length ≤ 40000 ∧ ∀ d ∈ ds, Flat n d
  | _ + 1, .dict _ => False
  | _ + 1, _ => True
theorem dp_get {K : PySem.W.Frag} {H : Hp} : ∀ {xs : List V} {ds : List PyData}, DpAll K H xs ds → xs.length = ds.length ∧ ∀ (i : Nat) (d : PyData), ds[i]? = some d → ∃ x, xs[i]? = some x ∧ Dp K H x d
  | _, _, .nil => ⟨rfl, fun i d h => by simp at h⟩
  | _, _, .cons a r => by
    obtain ⟨l, g⟩ := dp_get r
    refine ⟨by simp [l], fun i d h => ?_⟩
    cases i with
    | zero => exact ⟨_, rfl, by simp at h; subst h; exact a⟩
    | succ i => simpa using g i d (by simpa using h)
theorem flatI {ns : List Int} (h : ns.length ≤ 360) : Flat 4 (.list (ns.map .int)) :=
  ⟨by rw [List.length_map]; omega, fun d hd => by
    obtain ⟨i, _, rfl⟩ := List.mem_map.mp hd
    exact True.intro⟩
theorem dp_ints {K : PySem.W.Frag} {H : Hp} : ∀ ns : List Int, DpAll K H (ns.map V.int) (ns.map PyData.int)
  | [] => .nil
  | n :: ns => .cons (.int n) (dp_ints ns)
mutual
theorem dp_ex {K : PySem.W.Frag} {H H' : Hp} (e : Ex H H') : ∀ {v : V} {d : PyData}, Dp K H v d → Dp K H' v d
  | _, _, .non => .non
  | _, _, .bl b => .bl b
  | _, _, .int i => .int i
  | _, _, .str x => .str x
  | _, _, .lst s a => .lst (ex_l e s) (dpa_ex e a)
  | _, _, .tup s a => .tup (ex_t e s) (dpa_ex e a)
theorem dpa_ex {K : PySem.W.Frag} {H H' : Hp} (e : Ex H H') : ∀ {vs : List V} {ds : List PyData}, DpAll K H vs ds → DpAll K H' vs ds
  | _, _, .nil => .nil
  | _, _, .cons a r => .cons (dp_ex e a) (dpa_ex e r)
end
theorem tyx_l {K : PySem.W.Frag} {H : Hp} {a : Addr} {xs : List V} (h : SqL K H a xs) : TyX K H (.ref a) (.type "list") := by
  rcases h with (h | ⟨o, h⟩) | ⟨o, its, n, h, c, _⟩
  · exact .base (.lst h)
  · exact .base (.frz h)
  · exact .kList h c
theorem tyx_t {K : PySem.W.Frag} {H : Hp} {a : Addr} {xs : List V} (h : SqT K H a xs) : TyX K H (.ref a) (.type "tuple") := by
  rcases h with (h | ⟨o, h⟩) | ⟨o, its, n, h, c, _⟩
  · exact .base (.tup h)
  · exact .fTuple h
  · exact .kTuple h c
/-- x is True, x is False, whatever x is -/
def rIsK : R2 := fun x y H Q => ∃ b : Bool, y = .bl b ∧ Q (.bl (decide (x = .bl b))) H
theorem op_isK {X : Cx} : OpR X (compareOp .Is) rIsK := by
  intro pins s σ H x y v u Q I rx ry h
  obtain ⟨b, hy, q⟩ := h
  subst hy
  cases (show u = Value.bool b from ry)
  have fin : ∀ k : Bool, k = decide (x = V.bl b) → EP X pins σ Q (.bool k) s := fun k e => ⟨.bl k, H, I, rfl, by rw [e]; exact q⟩
  cases x with
  | non => cases (show v = Value.none from rx); exact wpAny_is_other rfl (fun z => by cases z) (fin _ (by simp))
  | bl a =>
    cases (show v = Value.bool a from rx)
    by_cases e : a = b
    · subst e; exact wpAny_is_self rfl (fin _ (by simp))
    · exact wpAny_is_other rfl (fun z => e (Value.bool.inj z)) (fin _ (by simp [e]))
  | int i => obtain ⟨t, ev⟩ := rx; subst ev; exact wpAny_is_other rfl (fun z => by cases z) (fin _ (by simp))
  | str i => obtain ⟨t, ev⟩ := rx; subst ev; exact wpAny_is_other rfl (fun z => by cases z) (fin _ (by simp))
  | byt i => obtain ⟨t, ev⟩ := rx; subst ev; exact wpAny_is_other rfl (fun z => by cases z) (fin _ (by simp))
  | flt i => obtain ⟨t, ev⟩ := rx; subst ev; exact wpAny_is_other rfl (fun z => by cases z) (fin _ (by simp))
  | ref a => cases (show v = Value.ref a from rx); exact wpAny_is_other rfl (fun z => by cases z) (fin _ (by simp))
  | ty n => cases (show v = Value.type n from rx); exact wpAny_is_other rfl (fun z => by cases z) (fin _ (by simp))
theorem atI_ints {ns : List Int} {i : Int} (h0 : 0 ≤ i) (h1 : i < (ns.length : Int)) : atI (ns.map V.int) i = some (.int (ns.getD i.toNat 0)) := by
  obtain ⟨j, rfl⟩ : ∃ j : Nat, i = (j : Int) := ⟨i.toNat, by omega⟩
  refine atI_nat ?_
  have hj : j < ns.length := by omega
  rw [List.getElem?_map, Int.toNat_natCast, List.getD_eq_getElem?_getD, List.getElem?_eq_getElem hj]
  rfl
/-! ### a caught error with fields -/
def rIsX (K : PySem.W.Frag) (D a : Addr) (cls : Value) (d : Option Addr) : List V → Hp → VK → Prop := fun xs H Q => cls = .ref D ∧ ∃ (dd : Addr) (fs : List (Str × V)) (c : V) (cv : Value) (b : Bool),
  d = some dd ∧ H dd = some (.xd fs) ∧ xs = [.ref a, c] ∧ (∀ u, RelV c u → u = cv) ∧ PySem.W.kitOne K (.ref D) cv = some b ∧ Q (.bl b) H
theorem call_isX {X : Cx} {a D : Addr} {oe : Obj} {cls : Value} {d : Option Addr} {pn : List (Addr × Obj)} (C : ExcC X.K D) (hz : Zc cls d oe) (hf : ∃ vs, oe.data = .fields vs) : CallR (X.suite a ((a, oe) :: pn)) (.builtin "isinstance") (rIsX X.K D a cls d) := by
  intro pins sh σ H zs us Q I rr hq
  obtain ⟨ec, dd, fs, c, cv, b, ed, hx, ez, hcv, hk, q⟩ := hq
  subst ez
  obtain ⟨u1, u2, eu, r1, r2⟩ := vals2 rr
  subst eu
  cases (show u1 = Value.ref a from r1)
  have e2 := hcv _ r2
  subst e2
  obtain ⟨hget, _⟩ := I.pin (a, oe) (List.mem_append.mpr (.inl List.mem_cons_self))
  obtain ⟨vs, hv⟩ := hf
  have ho : ObjOk X.prog X.w H sh.heap dd (.xd fs) := I.hok dd _ hx
  obtain ⟨mA, hns, _⟩ := ho
  obtain ⟨od, hod, _⟩ := lookIn_ns hns
  obtain ⟨cd, hcd, _⟩ := PySem.W.any_some C.hd
  have hcl : (PySem.W.clsIn X.K D).isSome = true := by rw [hcd]; rfl
  have J : PySem.W.InstAt sh.heap a oe D (some od) := ⟨hget, hz.1.trans ec, by unfold PySem.W.notCls; rw [hv], by rw [hz.2, ed]; exact hod⟩
  exact PySem.W.kia_one (PySem.W.kitx_exc hcl C.hg C.hk C.hs C.ha C.hn C.ht C.hm) I.kIn J hk (fun z => nomatch z) fun tk => ⟨.bl b, H, I.tok tk, rfl, q⟩
def rIsN (K : PySem.W.Frag) (D a : Addr) (cls : Value) (d : Option Addr) : List V → Hp → VK → Prop := fun xs H Q => cls = .ref D ∧ d = none ∧ rIsE K D a xs H Q
theorem call_isN {X : Cx} {a D : Addr} {oe : Obj} {cls : Value} {d : Option Addr} {pn : List (Addr × Obj)} (C : ExcC X.K D) (hz : Zc cls d oe) (hf : ∃ vs, oe.data = .fields vs) : CallR (X.suite a ((a, oe) :: pn)) (.builtin "isinstance") (rIsN X.K D a cls d) := by
  intro pins s σ H xs us Q I r h
  obtain ⟨e1, e2, h⟩ := h
  subst e1 e2
  exact call_isE C hz hf pins s σ H xs us Q I r h
/-- X(), X an error class without __init__ -/
theorem pmk_none {X : Cx} {C : Addr} {bmB : List Value} {B newId initId : String} {x : Str} {p pos : Pos} (F : PySem.ExcBaseFacts B newId initId bmB) (q : PySem.W.excIn X.K C bmB newId = true) (gC : X.mg x = some (.ref C)) (kC : PySem.W.keepIn X.K (.ref C) = true)
    (r : Raises X (.ref C)) (hg : Gl X x) (hdb : (x == ("__debug__" : Str)) = false := by decide) : PMk X (.Call (.Name x p) [] [] pos) (fun _ H Q => Q (.ref C) none H) := by
  intro pins s σ H Q I h
  refine wpAny_Call_Name_kw (ld_glob I hg gC ?_ hdb)
  refine PySem.W.callWith_K0 I.kIn kC ?_
  obtain ⟨bm, N, nm, qn, bs, hdct, sn, sub, ab, col, dd, k0, k1, k2, k3, k5, mN, hC, hN, hni, T⟩ := exc_obj I.kIn q
  refine wpAny_call_exc_subT F T hC hN hni (fun h' e hm => ?_) (Nat.zero_le _)
  exact mk_of I hm r h (I.hok.gone hm.new)
/-- a list drawn by a menu -/
def Drawn (ms ds : List Int) : Prop := ds.length = ms.length ∧ ∀ (i : Nat) (m : Int), ms[i]? = some m → ∃ d : Int, ds[i]? = some d ∧ 0 ≤ d ∧ d < m
theorem kitCls_own {K : PySem.W.Frag} {t : Value} {C : Addr} (hd : PySem.W.hasDictIn K C = true) (ty : PySem.W.typeIn K (.ref C) = some (.type "type")) : PySem.W.kitCls K t (.ref C) = PySem.W.subIn K t (.ref C) := by
  obtain ⟨cd, hc, _⟩ := PySem.W.any_some hd
  unfold PySem.W.kitCls
  simp [hc, ty]
theorem kit_self {K : PySem.W.Frag} {t : Value} : PySem.W.kitOne K t t = some true := by
  unfold PySem.W.kitOne
  rw [if_pos (beq_self_eq_true t)]
theorem kit_yes {K : PySem.W.Frag} {t : Value} {C : Addr} (hd : PySem.W.hasDictIn K C = true) (ty : PySem.W.typeIn K (.ref C) = some (.type "type")) (s : PySem.W.subIn K t (.ref C) = some true) : PySem.W.kitOne K t (.ref C) = some true := by
  unfold PySem.W.kitOne
  split
  · rfl
  · rw [kitCls_own hd ty]; exact s
theorem kit_no {K : PySem.W.Frag} {t : Value} {C : Addr} (hd : PySem.W.hasDictIn K C = true) (ty : PySem.W.typeIn K (.ref C) = some (.type "type")) (me : PySem.W.subIn K (.ref C) (.ref C) = some true) (s : PySem.W.subIn K t (.ref C) = some false) : PySem.W.kitOne K t (.ref C) = some false := by
  unfold PySem.W.kitOne
  split
  · rename_i e
    rw [beq_iff_eq] at e
    rw [e, me] at s
    cases s
  · rw [kitCls_own hd ty]; exact s
theorem kit_bi {K : PySem.W.Frag} {C : Addr} {n : String} {b : Bool} (hm : PySem.W.kitMeta n = true) (s : PySem.W.subIn K (.ref C) (.type n) = some b) : PySem.W.kitOne K (.ref C) (.type n) = some b := by
  unfold PySem.W.kitOne PySem.W.kitCls
  rw [if_neg (by simp)]
  show (if PySem.W.kitMeta n = true then PySem.W.subIn K (.ref C) (.type n) else none) = some b
  rw [if_pos hm]
  exact s
theorem drawn4 {a b c d : Int} {ds : List Int} (h : Drawn [a, b, c, d] ds) : ∃ w x y z, ds = [w, x, y, z] ∧ (0 ≤ w ∧ w < a) ∧ (0 ≤ x ∧ x < b) ∧ (0 ≤ y ∧ y < c) ∧ (0 ≤ z ∧ z < d) := by
  obtain ⟨hl, g⟩ := h
  match ds, hl with
  | [w, x, y, z], _ =>
    obtain ⟨w', e0, h0⟩ := g 0 a rfl
    obtain ⟨x', e1, h1⟩ := g 1 b rfl
    obtain ⟨y', e2, h2⟩ := g 2 c rfl
    obtain ⟨z', e3, h3⟩ := g 3 d rfl
    cases e0; cases e1; cases e2; cases e3
    exact ⟨_, _, _, _, rfl, h0, h1, h2, h3⟩
/-! ### own errors with one field and with two -/
def spErr1 (K : PySem.W.Frag) (C : Addr) (f : Str) : Sp := fun vs H Q _ => ∃ (a : Addr) (x : V), vs = [.ref a, x] ∧ OexC K C ∧ H a = some (exo a C none) ∧ ∀ d, H d = none → d ≠ a → Q .non (upd (upd H d (exd d [(f, x)])) a (exo a C (some d)))
def spErr2 (K : PySem.W.Frag) (C : Addr) (f g : Str) : Sp := fun vs H Q _ => ∃ (a : Addr) (x y : V), vs = [.ref a, x, y] ∧ OexC K C ∧ H a = some (exo a C none) ∧
  ∀ d, H d = none → d ≠ a → Q .non (upd (upd (upd H d (exd d [(f, x)])) a (exo a C (some d))) d (exd d [(g, y), (f, x)]))
theorem raise1 {K : PySem.W.Frag} {C : Addr} {f : Str} {H : Hp} {E : XK} {σ : L2.St} {ta : TA} {x : V} (hC : OexC K C) (hta : ∀ Q : List V → Hp → Prop, Q [x] H → ta σ H Q)
    (k : ∀ d H', Ex H H' → H' d = some (.xd [(f, x)]) → E (.ref C) (some d) H') : tMkO C (spErr1 K C f) [] ta σ H E := by
  refine hta _ ⟨by show (1 : Nat) ≤ 1000; decide, fun a ha => ⟨a, x, rfl, hC, upd_same, fun d hd hne => ?_⟩⟩
  have hd' : H d = none := by rw [upd_ne hne] at hd; exact hd
  have han : a ≠ d := fun e => hne e.symm
  refine ⟨rfl, d, _, upd_same, ?_, hd', k d _ (fun b o hb => ?_) upd_same⟩
  · rw [upd_ne hne, upd_same]
  · have h1 : b ≠ a := ne_of_none hb ha
    have h2 : b ≠ d := ne_of_none hb hd'
    rw [upd_ne h2, del_ne h1, upd_ne h1, upd_ne h2, upd_ne h1]
    exact hb
theorem raise2 {K : PySem.W.Frag} {C : Addr} {f g : Str} {H : Hp} {E : XK} {σ : L2.St} {ta : TA} {x y : V} (hC : OexC K C) (hta : ∀ Q : List V → Hp → Prop, Q [x, y] H → ta σ H Q)
    (k : ∀ d H', Ex H H' → H' d = some (.xd [(g, y), (f, x)]) → E (.ref C) (some d) H') : tMkO C (spErr2 K C f g) [] ta σ H E := by
  refine hta _ ⟨by show (2 : Nat) ≤ 1000; decide, fun a ha => ⟨a, x, y, rfl, hC, upd_same, fun d hd hne => ?_⟩⟩
  have hd' : H d = none := by rw [upd_ne hne] at hd; exact hd
  have han : a ≠ d := fun e => hne e.symm
  refine ⟨rfl, d, _, ?_, upd_same, hd', k d _ (fun b o hb => ?_) upd_same⟩
  · rw [upd_ne han, upd_same]
  · have h1 : b ≠ a := ne_of_none hb ha
    have h2 : b ≠ d := ne_of_none hb hd'
    rw [upd_ne h2, del_ne h1, upd_ne h2, upd_ne h1, upd_ne h2, upd_ne h1]
    exact hb
/-- what a cell of the script is worth -/
def cellA (ns : List Int) (k : Nat) : Int := if k < ns.length then (if ns.getD k 0 < 0 then - ns.getD k 0 else ns.getD k 0) else 0
theorem cellA_nn (ns : List Int) (k : Nat) : 0 ≤ cellA ns k := by
  unfold cellA
  split
  · split <;> omega
  · omega
/-! ### evaluation with a property; loops over what a call gives -/
def EvR (te : TE) (σ : L2.St) (H : Hp) (P : V → Hp → Prop) : Prop := ∀ H1, Ex H H1 → ∀ Q : VK, (∀ v H2, Ex H1 H2 → P v H2 → Q v H2) → te σ H1 Q
theorem er_ev {te : TE} {σ : L2.St} {H : Hp} {v : V} {P : V → Hp → Prop} (h : Ev te σ H v) (hp : ∀ H1, Ex H H1 → P v H1) : EvR te σ H P := fun H1 e Q q => h H1 e Q fun H2 e2 => q v H2 e2 (hp H2 (e.trans e2))
theorem EvR.mono {te : TE} {σ : L2.St} {H H' : Hp} {P : V → Hp → Prop} (e : Ex H H') (h : EvR te σ H P) : EvR te σ H' P := fun H1 a Q q => h H1 (e.trans a) Q q
theorem EvR.imp {te : TE} {σ : L2.St} {H : Hp} {P P' : V → Hp → Prop} (h : EvR te σ H P) (i : ∀ v H1, P v H1 → P' v H1) : EvR te σ H P' := fun H1 a Q q => h H1 a Q fun v H2 e p => q v H2 e (i v H2 p)
theorem er_L {te : TE} {σ : L2.St} {H : Hp} {xs : List V} (h : EvL te σ H xs) : EvR te σ H fun v H1 => ∃ p, v = .ref p ∧ H1 p = some (.lst xs) := fun H1 e Q q => h H1 e Q fun p H2 _ e2 hp => q _ H2 e2 ⟨p, rfl, hp⟩
theorem s_asgR {te : TE} {D : Ends} {σ : L2.St} {H : Hp} {i : Nat} {P : V → Hp → Prop} (h : EvR te σ H P) (k : ∀ v H1, Ex H H1 → P v H1 → D.nx (σ.set i (some v)) H1) : tAsg te (gName i) D σ H := h H (Ex.refl H) _ fun v H1 e p => k v H1 e p
theorem q_asgR {te : TE} {tz : TS} {D : Ends} {σ : L2.St} {H : Hp} {i : Nat} {P : V → Hp → Prop} (h : EvR te σ H P) (k : ∀ v H1, Ex H H1 → P v H1 → tz D (σ.set i (some v)) H1) : tSeq (tAsg te (gName i)) tz D σ H := s_asgR (D := { D with nx := tz D }) h k
theorem s_retR {te : TE} {D : Ends} {σ : L2.St} {H : Hp} {P : V → Hp → Prop} (h : EvR te σ H P) (k : ∀ v H1, Ex H H1 → P v H1 → D.rt v H1) : tRet te D σ H := h H (Ex.refl H) _ fun v H1 e p => k v H1 e p
theorem for_via {K : PySem.W.Frag} {tl : TE} {g : TG} {tu : TS} {D : Ends} {σ : L2.St} {H : Hp} {P : V → Hp → Prop} (h : EvR tl σ H P) (k : ∀ v H1, Ex H H1 → P v H1 → tFor (iList K (tC v)) g tu D σ H1) : tFor (iList K tl) g tu D σ H :=
  h H (Ex.refl H) _ fun v H1 e p => k v H1 e p
theorem q_forVia {K : PySem.W.Frag} {tl : TE} {g : TG} {tu tz : TS} {D : Ends} {σ : L2.St} {H : Hp} {P : V → Hp → Prop} (h : EvR tl σ H P) (k : ∀ v H1, Ex H H1 → P v H1 → tSeq (tFor (iList K (tC v)) g tu) tz D σ H1) : tSeq (tFor (iList K tl) g tu) tz D σ H :=
  h H (Ex.refl H) _ fun v H1 e p => k v H1 e p
theorem ev_int {σ : L2.St} {H : Hp} {te : TE} {z : Int} (h : Ev te σ H (.int z)) : Ev (tCB (fun xs H Q => (∃ i, xs = [V.int i] ∧ Q (V.int i) H) ∨ ∃ k, xs = [V.bl k] ∧ Q (V.int (if k = true then 1 else 0)) H) (tCons te tNil)) σ H (.int z) :=
  ev_cb (ea_cons h ea_nil) fun H1 _ _ q => .inl ⟨_, rfl, q H1 (Ex.refl H1)⟩
theorem el_rep {σ : L2.St} {H : Hp} {te tn : TE} {z k : Int} (h : Ev te σ H (.int z)) (hn : Ev tn σ H (.int k)) (hk : 0 ≤ k ∧ k ≤ 100000) : EvL (tOp rRep (tLst (tCons te tNil)) tn) σ H ((List.replicate k.toNat z).map V.int) := fun H1 e Q q =>
  el_lst (ea_cons h ea_nil) (by show 1 ≤ 100000; decide) H1 e _ fun p H2 hp e2 h2 => hn H2 (e.trans e2) _ fun H3 e3 => ⟨p, k, [.int z], rfl, rfl, e3 _ _ h2, by omega, by omega, by
    show 1 * k.toNat ≤ sizeLine
    exact Nat.le_trans (show 1 * k.toNat ≤ 100000 by omega) (by decide), fun l hl => q l _ (fresh_back (e2.trans e3) hl) ((e2.trans e3).trans (Ex.new hl)) (by
    rw [upd_same]
    have rp : ∀ m : Nat, (List.replicate m [V.int z]).flatten = (List.replicate m z).map V.int := fun m => by
      induction m with
      | zero => rfl
      | succ m ih => rw [List.replicate_succ, List.flatten_cons, ih, List.replicate_succ, List.map_cons]; rfl
    rw [rp])⟩
theorem er_call {sp : Sp} {dvs vs : List V} {E : XK} {ta : TA} {σ : L2.St} {H : Hp} {P : V → Hp → Prop} (h : EvA ta σ H vs) (hs : ∀ H1, Ex H H1 → ∀ Q : VK, (∀ v H2, Ex H1 H2 → P v H2 → Q v H2) → sp (vs ++ dvs) H1 Q E) : EvR (tCall sp dvs E ta) σ H P :=
  fun H1 e Q q => h H1 e _ fun H2 e2 => hs H2 (e.trans e2) Q fun v H3 e3 p => q v H3 (e2.trans e3) p
theorem el_cat {σ : L2.St} {H : Hp} {ta tb : TE} {xs ys : List V} (h1 : EvL ta σ H xs) (h2 : EvL tb σ H ys) (hz : xs.length + ys.length ≤ 100000) : EvL (tOp rCat ta tb) σ H (xs ++ ys) := fun H1 e Q q =>
  h1 H1 e _ fun a H2 ha e2 g2 => h2 H2 (e.trans e2) _ fun b H3 hb e3 g3 => ⟨a, b, xs, ys, rfl, rfl, e3 _ _ g2, g3, sz_of hz, fun p hp => q p _ (fresh_back (e2.trans e3) hp) ((e2.trans e3).trans (Ex.new hp)) upd_same⟩
theorem atI_last {α : Type} {xs : List α} {z : α} (h : xs.getLast? = some z) : atI xs (-1) = some z := by
  cases xs with
  | nil => cases h
  | cons x r =>
    rw [List.getLast?_eq_getElem?] at h
    unfold atI ixN
    rw [if_neg (by omega), if_pos (by rw [List.length_cons]; omega)]
    show (x :: r)[((-1 : Int) + ((x :: r).length : Int)).toNat]? = some z
    rw [← h]
    congr 1
    rw [List.length_cons]
    omega
/-- an if whose test fails -/
theorem q_skip {t : TT} {tu tz : TS} {D : Ends} {σ : L2.St} {H : Hp} (h : EvT t σ H false) (k : ∀ H1, Ex H H1 → tz D σ H1) : tSeq (tIfS t tu tNext) tz D σ H := q_when h (fun z => Bool.noConfusion z) fun _ H1 e => k H1 e
/-- .. whose test holds and that returns -/
theorem q_take {t : TT} {tu tz : TS} {D : Ends} {σ : L2.St} {H : Hp} (h : EvT t σ H true) (k : ∀ H1, Ex H H1 → tu { D with nx := tz D } σ H1) : tSeq (tIfS t tu tNext) tz D σ H := q_when h (fun _ H1 e => k H1 e) fun z => Bool.noConfusion z
theorem et_notT {t : TT} {σ : L2.St} {H : Hp} (h : EvT t σ H true) : EvT (tNot t) σ H false := et_not h
theorem et_orF {t u : TT} {σ : L2.St} {H : Hp} (h : EvT t σ H false) (h2 : EvT u σ H false) : EvT (tOr t u) σ H false := et_or h fun _ => h2
theorem et_andF {t u : TT} {σ : L2.St} {H : Hp} (h : EvT t σ H false) : EvT (tAnd t u) σ H false := et_and (b := true) h fun z => Bool.noConfusion z
theorem et_andT {t u : TT} {σ : L2.St} {H : Hp} {b : Bool} (h : EvT t σ H true) (h2 : EvT u σ H b) : EvT (tAnd t u) σ H b := et_and h fun _ => h2
theorem ev_ix {K : PySem.W.Frag} {σ : L2.St} {H : Hp} {ta tb : TE} {p : Addr} {xs : List V} {i : Int} {v : V} (ha : Ev ta σ H (.ref p)) (hb : Ev tb σ H (.int i)) (h : SqL K H p xs) (hv : atI xs i = some v) : Ev (tOp (rIxL K) ta tb) σ H v := ev_op ha hb (rv_ixL h hv)
theorem rv_isK {x : V} {H : Hp} {b : Bool} : RV rIsK x (.bl b) H (.bl (decide (x = .bl b))) := fun H1 _ _ q => ⟨b, rfl, q H1 (Ex.refl H1)⟩
def rIsNotK : R2 := fun x y H Q => ∃ b : Bool, y = .bl b ∧ Q (.bl (!decide (x = .bl b))) H
theorem op_isNotK {X : Cx} : OpR X (compareOp .IsNot) rIsNotK := by
  intro pins s σ H x y v u Q I rx ry h
  obtain ⟨b, hy, q⟩ := h
  subst hy
  cases (show u = Value.bool b from ry)
  have fin : ∀ k : Bool, k = (!decide (x = V.bl b)) → EP X pins σ Q (.bool k) s := fun k e => ⟨.bl k, H, I, rfl, by rw [e]; exact q⟩
  cases x with
  | non => cases (show v = Value.none from rx); exact wpAny_isNot_other rfl (fun z => by cases z) (fin _ (by simp))
  | bl a =>
    cases (show v = Value.bool a from rx)
    by_cases e : a = b
    · subst e; exact wpAny_isNot_self rfl (fin _ (by simp))
    · exact wpAny_isNot_other rfl (fun z => e (Value.bool.inj z)) (fin _ (by simp [e]))
  | int i => obtain ⟨t, ev⟩ := rx; subst ev; exact wpAny_isNot_other rfl (fun z => by cases z) (fin _ (by simp))
  | str i => obtain ⟨t, ev⟩ := rx; subst ev; exact wpAny_isNot_other rfl (fun z => by cases z) (fin _ (by simp))
  | byt i => obtain ⟨t, ev⟩ := rx; subst ev; exact wpAny_isNot_other rfl (fun z => by cases z) (fin _ (by simp))
  | flt i => obtain ⟨t, ev⟩ := rx; subst ev; exact wpAny_isNot_other rfl (fun z => by cases z) (fin _ (by simp))
  | ref a => cases (show v = Value.ref a from rx); exact wpAny_isNot_other rfl (fun z => by cases z) (fin _ (by simp))
  | ty n => cases (show v = Value.type n from rx); exact wpAny_isNot_other rfl (fun z => by cases z) (fin _ (by simp))
theorem rv_isNotK {x : V} {H : Hp} {b : Bool} : RV rIsNotK x (.bl b) H (.bl (!decide (x = .bl b))) := fun H1 _ _ q => ⟨b, rfl, q H1 (Ex.refl H1)⟩
theorem drawn_cons {m : Int} {ms ds : List Int} (h : Drawn (m :: ms) ds) : ∃ d r, ds = d :: r ∧ (0 ≤ d ∧ d < m) ∧ Drawn ms r := by
  obtain ⟨hl, g⟩ := h
  cases ds with
  | nil => cases hl
  | cons d r =>
    obtain ⟨d', e, h0, h1⟩ := g 0 m rfl
    cases e
    exact ⟨d, r, rfl, ⟨h0, h1⟩, by simpa using hl, fun i x hx => g (i + 1) x hx⟩
theorem drawn_nil {ds : List Int} (h : Drawn [] ds) : ds = [] := List.length_eq_zero_iff.mp h.1
/-! ### new things: what holds of them in each heap that has what is new -/
def NewP (P : Hp → Prop) (H H' : Hp) : Prop := ∀ G : Hp, (∀ b o, H b = none → H' b = some o → G b = some o) → P G
def EvNew (te : TE) (σ : L2.St) (H : Hp) (P : V → Hp → Prop) : Prop := ∀ H1, Ex H H1 → ∀ Q : VK, (∀ v H2, Ex H1 H2 → NewP (P v) H1 H2 → Q v H2) → te σ H1 Q
theorem NewP.self {P : Hp → Prop} {H H' : Hp} (h : NewP P H H') : P H' := h H' fun _ _ _ e => e
theorem NewP.out {P : Hp → Prop} {H H1 H2 H3 : Hp} (h : NewP P H1 H2) (e : Ex H H1) (e' : Ex H2 H3) : NewP P H H3 := fun G g => h G fun b o h1 h2 => g b o (fresh_back e h1) (e' _ _ h2)
theorem EvNew.er {te : TE} {σ : L2.St} {H : Hp} {P : V → Hp → Prop} (h : EvNew te σ H P) : EvR te σ H P := fun H1 e Q q => h H1 e Q fun v H2 e2 n => q v H2 e2 n.self
theorem EvNew.imp {te : TE} {σ : L2.St} {H : Hp} {P P' : V → Hp → Prop} (h : EvNew te σ H P) (i : ∀ v G, P v G → P' v G) : EvNew te σ H P' := fun H1 e Q q => h H1 e Q fun v H2 e2 n => q v H2 e2 fun G g => i v G (n G g)
theorem en_L {te : TE} {σ : L2.St} {H : Hp} {xs : List V} (h : EvL te σ H xs) : EvNew te σ H fun v G => ∃ p, v = .ref p ∧ G p = some (.lst xs) := fun H1 e Q q => h H1 e Q fun p H2 hp e2 h2 => q _ H2 e2 fun G g => ⟨p, rfl, g p _ hp h2⟩
theorem en_ev {te : TE} {σ : L2.St} {H : Hp} {v : V} {P : V → Prop} (h : Ev te σ H v) (p : P v) : EvNew te σ H fun v _ => P v := fun H1 e Q q => h H1 e Q fun H2 e2 => q v H2 e2 fun _ _ => p
/-- what a comprehension keeps: its list at D, each item with its property whatever D holds -/
def Kept (P : Nat → V → Hp → Prop) (H1 : Hp) (D : Addr) (i : Nat) (H : Hp) : Prop := H1 D = none ∧ Ex H1 H ∧ ∃ vs : List V, H D = some (.lst vs) ∧ vs.length = i ∧ ∀ (k : Nat) x, vs[k]? = some x → ∀ G : Hp, (∀ b o, b ≠ D → H1 b = none → H b = some o → G b = some o) → P k x G
theorem kept_turn {P : Nat → V → Hp → Prop} {H1 H : Hp} {D : Addr} {i : Nat} {te : TE} {σ2 : L2.St} (p : Kept P H1 D i H) (hi : i < 50000) (he : EvNew te σ2 H1 (P i)) :
    tYes σ2 H fun b H3 => if b = true then te σ2 H3 fun y H4 => ∃ acc, H4 D = some (.lst acc) ∧ acc.length < sizeLine ∧ Kept P H1 D (i + 1) (upd H4 D (.lst (acc ++ [y]))) else Kept P H1 D (i + 1) H3 := by
  obtain ⟨p1, p2, vs, p3, p4, p5⟩ := p
  show te σ2 H fun y H4 => ∃ acc, H4 D = some (.lst acc) ∧ acc.length < sizeLine ∧ Kept P H1 D (i + 1) (upd H4 D (.lst (acc ++ [y])))
  refine he H p2 _ fun y H4 e4 hy => ⟨vs, e4 _ _ p3, sz_lt (by omega), p1, Ex.mut (p2.trans e4) p1, vs ++ [y], upd_same, by simp [p4], fun k x hk G g => ?_⟩
  by_cases hki : k < vs.length
  · rw [List.getElem?_append_left hki] at hk
    exact p5 k x hk G fun b o hb h1 h2 => g b o hb h1 (by rw [upd_ne hb]; exact e4 _ _ h2)
  · have hlt := (List.getElem?_eq_some_iff.mp hk).1
    rw [List.length_append] at hlt
    have hlt' : k < vs.length + 1 := hlt
    have e : k = i := by omega
    subst e
    rw [List.getElem?_append_right (by omega), ← p4, Nat.sub_self] at hk
    cases hk
    refine hy G fun b o h1 h2 => ?_
    have hb : b ≠ D := fun e => by rw [e, p3] at h1; cases h1
    exact g b o hb (fresh_back p2 h1) (by rw [upd_ne hb]; exact h2)
theorem kept_end {P : Nat → V → Hp → Prop} {H1 H : Hp} {D : Addr} {n : Nat} (p : Kept P H1 D n H) : NewP (fun G => ∃ vs : List V, G D = some (.lst vs) ∧ vs.length = n ∧ ∀ (k : Nat) x, vs[k]? = some x → P k x G) H1 H := fun G g => by
  obtain ⟨p1, p2, vs, p3, p4, p5⟩ := p
  exact ⟨vs, g D _ p1 p3, p4, fun k x hk => p5 k x hk G fun b o _ h1 h2 => g b o h1 h2⟩
/-- a list whose items have a property -/
def ListP (n : Nat) (P : Nat → V → Hp → Prop) (v : V) (G : Hp) : Prop := ∃ (p : Addr) (vs : List V), v = .ref p ∧ G p = some (.lst vs) ∧ vs.length = n ∧ ∀ (k : Nat) x, vs[k]? = some x → P k x G
theorem en_lcR1 {σ : L2.St} {H : Hp} {te : TE} {ta : TA} {j : Nat} {vs : List Nat} {n : Int} (P : Nat → V → Hp → Prop) (h : EvA ta σ H [.int n]) (hn : 0 ≤ n ∧ n ≤ 40000) (hw : ∀ x, wipe ((wipe σ vs).set j (some x)) vs = wipe σ vs)
    (he : ∀ (i : Nat) H1, Ex H H1 → (i : Int) < n → EvNew te ((wipe σ vs).set j (some (.int (i : Int)))) H1 (P i)) : EvNew (tLc (iRng1 ta) (gName j) tYes te vs) σ H (ListP n.toNat P) := fun H0 e Q q => h H0 e _ fun H1 e1 => ⟨n, rfl, by omega, by omega, fun Dl hD =>
  lc_range (lo := 0) (n := n.toNat) (Kept P H1 Dl) ⟨hD, Ex.new hD, [], upd_same, rfl, fun k x hk => by cases hk⟩ (fun i H' hi p => by
    have e0 : (0 : Int) + (i : Int) = (i : Int) := Int.zero_add _
    show wipe ((wipe σ vs).set j (some (.int ((0 : Int) + (i : Int))))) vs = wipe σ vs ∧ tYes ((wipe σ vs).set j (some (.int ((0 : Int) + (i : Int))))) H' fun b H3 => if b = true then te ((wipe σ vs).set j (some (.int ((0 : Int) + (i : Int))))) H3 fun y H4 => ∃ acc, H4 Dl = some (.lst acc) ∧ acc.length < sizeLine ∧ Kept P H1 Dl (i + 1) (upd H4 Dl (.lst (acc ++ [y]))) else Kept P H1 Dl (i + 1) H3
    rw [e0]
    exact ⟨hw _, kept_turn p (by omega) (he i H1 (e.trans e1) (by omega))⟩)
    (fun H' p => q _ H' (e1.trans p.2.1) fun G g => by
      obtain ⟨ws, h1, h2, h3⟩ := (kept_end p).out e1 (Ex.refl _) G g
      exact ⟨Dl, ws, rfl, h1, h2, h3⟩)⟩
theorem en_lcL {K : PySem.W.Frag} {σ : L2.St} {H : Hp} {te tl : TE} {j : Nat} {vs : List Nat} {xs : List V} (P : Nat → V → Hp → Prop) (h : EvR tl σ H fun v H1 => ∃ a, v = .ref a ∧ SqL K H1 a xs) (hz : xs.length ≤ 40000) (hw : ∀ x, wipe ((wipe σ vs).set j (some x)) vs = wipe σ vs)
    (he : ∀ (i : Nat) (x : V) H1, Ex H H1 → xs[i]? = some x → EvNew te ((wipe σ vs).set j (some x)) H1 (P i)) : EvNew (tLc (iList K tl) (gName j) tYes te vs) σ H (ListP xs.length P) := fun H0 e Q q => h H0 e _ fun v H1 e1 hv => by
  obtain ⟨a, rfl, hx⟩ := hv
  exact ⟨a, rfl, ⟨xs, hx⟩, fun Dl hD =>
    lc_list (xs := xs) (Kept P H1 Dl) ⟨hD, Ex.new hD, [], upd_same, rfl, fun k x hk => by cases hk⟩ (fun i H' _ p => ex_l p.2.1 hx) (fun i x H' hi p => ⟨hw x, kept_turn p (by have := (List.getElem?_eq_some_iff.mp hi).1; omega) (he i x H1 (e.trans e1) hi)⟩)
    (fun H' p => q _ H' (e1.trans p.2.1) fun G g => by
      obtain ⟨ws, h1, h2, h3⟩ := (kept_end p).out e1 (Ex.refl _) G g
      exact ⟨Dl, ws, rfl, h1, h2, h3⟩)⟩

/-! ### order of data -/
def rLtD (K : PySem.W.Frag) : R2 := fun x y H Q => ∃ d e, Dp K H x d ∧ Dp K H y e ∧ PySem.W.alike d e = true ∧ d ≠ .none ∧ d.depth ≤ 64 ∧ Q (.bl (PySem.W.dataLt d e)) H
def rLeD (K : PySem.W.Frag) : R2 := fun x y H Q => ∃ d e, Dp K H x d ∧ Dp K H y e ∧ PySem.W.alike d e = true ∧ d ≠ .none ∧ d.depth ≤ 64 ∧ Q (.bl (!PySem.W.dataLt e d)) H
theorem op_ltD {X : Cx} {K : PySem.W.Frag} (hu : X.A.units + 64 < cLine) (hk : X.K = K := by rfl) : OpR X (compareOp .Lt) (rLtD K) := by
  subst hk
  intro pins s σ H x y v u Q I rx ry h
  obtain ⟨d, e, hd, he, al, dn, dp, q⟩ := h
  obtain ⟨as, r1⟩ := Dp.reads I d x v hd rx
  obtain ⟨bs, r2⟩ := Dp.reads I e y u he ry
  exact PySem.W.rcLt_alike d e X.A s v u as bs r1 r2 al dn (by have := Nat.min_le_left d.depth e.depth; omega) X.prog X.w X.xe (EP X pins σ Q) ⟨.bl _, H, I, rfl, q⟩
theorem op_leD {X : Cx} {K : PySem.W.Frag} (hu : X.A.units + 64 < cLine) (hk : X.K = K := by rfl) : OpR X (compareOp .LtE) (rLeD K) := by
  subst hk
  intro pins s σ H x y v u Q I rx ry h
  obtain ⟨d, e, hd, he, al, dn, dp, q⟩ := h
  obtain ⟨as, r1⟩ := Dp.reads I d x v hd rx
  obtain ⟨bs, r2⟩ := Dp.reads I e y u he ry
  exact PySem.W.rcLe_alike d e X.A s v u as bs r1 r2 al dn (by have := Nat.min_le_left d.depth e.depth; omega) X.prog X.w X.xe (EP X pins σ Q) ⟨.bl _, H, I, rfl, q⟩
theorem alike_ints : ∀ xs ys : List Int, PySem.W.alikeAll (xs.map PyData.int) (ys.map PyData.int) = true
  | [], [] => by simp [PySem.W.alikeAll]
  | [], y :: ys => by simp [PySem.W.alikeAll]
  | x :: xs, [] => by simp [PySem.W.alikeAll]
  | x :: xs, y :: ys => by simp [PySem.W.alikeAll, PySem.W.alike, alike_ints xs ys]

/-! ### what holds of a value in each heap that has what stood before and what is new -/
def Since (H H' G : Hp) : Prop := ∀ b o, H b = none → H' b = some o → G b = some o
def EvB (te : TE) (σ : L2.St) (H : Hp) (P : V → Hp → Prop) : Prop := ∀ H1, Ex H H1 → ∀ Q : VK, (∀ v H2, Ex H1 H2 → (∀ G, Ex H G → Since H1 H2 G → P v G) → Q v H2) → te σ H1 Q
theorem EvNew.eb {te : TE} {σ : L2.St} {H : Hp} {P : V → Hp → Prop} (h : EvNew te σ H P) : EvB te σ H P := fun H1 e Q q => h H1 e Q fun v H2 e2 n => q v H2 e2 fun G _ g => n G g
theorem EvB.er {te : TE} {σ : L2.St} {H : Hp} {P : V → Hp → Prop} (h : EvB te σ H P) : EvR te σ H P := fun H1 e Q q => h H1 e Q fun v H2 e2 n => q v H2 e2 (n H2 (e.trans e2) fun _ _ _ z => z)
theorem EvB.imp {te : TE} {σ : L2.St} {H : Hp} {P P' : V → Hp → Prop} (h : EvB te σ H P) (i : ∀ v G, Ex H G → P v G → P' v G) : EvB te σ H P' := fun H1 e Q q => h H1 e Q fun v H2 e2 n => q v H2 e2 fun G a g => i v G a (n G a g)
theorem eb_ev {te : TE} {σ : L2.St} {H : Hp} {v : V} {P : V → Hp → Prop} (h : Ev te σ H v) (p : ∀ G, Ex H G → P v G) : EvB te σ H P := fun H1 e Q q => h H1 e Q fun H2 e2 => q v H2 e2 fun G a _ => p G a
theorem eb_L {K : PySem.W.Frag} {te : TE} {σ : L2.St} {H : Hp} {xs : List V} (h : EvL te σ H xs) : EvB te σ H fun v G => ∃ p, v = .ref p ∧ SqL K G p xs := ((en_L h).imp fun v G ⟨p, a, b⟩ => ⟨p, a, sq_of b⟩).eb
theorem eb_held {K : PySem.W.Frag} {σ : L2.St} {H : Hp} {i : Nat} {p : Addr} {xs : List V} (h : σ[i]? = some (some (.ref p))) (hp : SqL K H p xs) : EvB (tVar i) σ H fun v G => ∃ p, v = .ref p ∧ SqL K G p xs := eb_ev (ev_var h) fun G e => ⟨p, rfl, ex_l e hp⟩
/-! ### what is walked, whatever it is -/
def EvI (wi : TI) (σ : L2.St) (H : Hp) (n : Nat) (Y : Nat → Hp → V → Hp → Prop) : Prop := ∀ H1, Ex H H1 → ∀ R : It → Hp → Prop, (∀ J H2, Ex H1 H2 → Walk J n (fun G => Ex H G ∧ Since H1 H2 G) Y → R J H2) → wi σ H1 R
theorem ei_list {K : PySem.W.Frag} {σ : L2.St} {H : Hp} {tl : TE} {xs : List V} (h : EvB tl σ H fun v G => ∃ p, v = .ref p ∧ SqL K G p xs) : EvI (iList K tl) σ H xs.length (YAt xs) := fun H1 e R r => h H1 e _ fun v H2 e2 hv => by
  obtain ⟨a, rfl, hx⟩ := hv H2 (e.trans e2) fun _ _ _ z => z
  exact ⟨a, rfl, ⟨xs, hx⟩, r _ _ e2 (walk_list.mono (fun G g => by
    obtain ⟨b, eb, hb⟩ := hv G g.1 g.2
    cases eb
    exact hb) fun _ _ _ _ _ _ y => y)⟩
theorem ei_tup {K : PySem.W.Frag} {σ : L2.St} {H : Hp} {tl : TE} {xs : List V} (h : EvB tl σ H fun v G => ∃ p, v = .ref p ∧ SqT K G p xs) : EvI (iTup K tl) σ H xs.length (YAt xs) := fun H1 e R r => h H1 e _ fun v H2 e2 hv => by
  obtain ⟨a, rfl, hx⟩ := hv H2 (e.trans e2) fun _ _ _ z => z
  exact ⟨a, rfl, ⟨xs, hx⟩, r _ _ e2 (walk_tup.mono (fun G g => by
    obtain ⟨b, eb, hb⟩ := hv G g.1 g.2
    cases eb
    exact hb) fun _ _ _ _ _ _ y => y)⟩
theorem ei_rng1 {σ : L2.St} {H : Hp} {ta : TA} {n : Int} (h : EvA ta σ H [.int n]) (hn : -100000 ≤ n ∧ n ≤ 100000) : EvI (iRng1 ta) σ H n.toNat (YFn fun i => .int (i : Int)) := fun H1 e R r => h H1 e _ fun H2 e2 =>
  ⟨n, rfl, by omega, by omega, r _ _ e2 (walk_range.mono (fun _ _ => True.intro) fun i G x G' _ _ y => ⟨y.1, by rw [y.2]; simp⟩)⟩
theorem ei_rng2 {σ : L2.St} {H : Hp} {ta : TA} {lo hi : Int} (h : EvA ta σ H [.int lo, .int hi]) (hn : (-100000 ≤ lo ∧ lo ≤ 100000) ∧ -100000 ≤ hi ∧ hi ≤ 100000) : EvI (iRng2 ta) σ H (hi - lo).toNat (YFn fun i => .int (lo + (i : Int))) := fun H1 e R r => h H1 e _ fun H2 e2 =>
  ⟨lo, hi, rfl, by omega, r _ _ e2 (walk_range.mono (fun _ _ => True.intro) fun i G x G' _ _ y => y)⟩
theorem ei_zip {K : PySem.W.Frag} {σ : L2.St} {H : Hp} {ta tb : TE} {xs ys : List V} {n : Nat} (h1 : EvB ta σ H fun v G => ∃ p, v = .ref p ∧ SqL K G p xs) (h2 : EvB tb σ H fun v G => ∃ p, v = .ref p ∧ SqL K G p ys) (hn : n = min xs.length ys.length) :
    EvI (iZip K (tCons ta (tCons tb tNil))) σ H n (YPair (fun i => xs[i]?) fun i => ys[i]?) := fun H1 e R r => h1 H1 e _ fun v H2 e2 hv => h2 H2 (e.trans e2) _ fun w H3 e3 hw => by
  have p1 : ∀ G, Ex H G → Since H1 H3 G → ∃ p, v = .ref p ∧ SqL K G p xs := fun G a g => hv G a fun b o z1 z2 => g b o z1 (e3 _ _ z2)
  have p2 : ∀ G, Ex H G → Since H1 H3 G → ∃ p, w = .ref p ∧ SqL K G p ys := fun G a g => hw G a fun b o z1 z2 => g b o (fresh_back e2 z1) z2
  have e3' := (e.trans e2).trans e3
  obtain ⟨a, rfl, hx⟩ := p1 H3 e3' fun _ _ _ z => z
  obtain ⟨b, rfl, hy⟩ := p2 H3 e3' fun _ _ _ z => z
  exact ⟨a, b, xs, ys, rfl, hx, hy, r _ _ (e2.trans e3) ((walk_zip hn).mono (fun G g => by
    obtain ⟨a', ea, ha⟩ := p1 G g.1 g.2
    obtain ⟨b', eb, hb⟩ := p2 G g.1 g.2
    cases ea
    cases eb
    exact ⟨ha, hb⟩) fun _ _ _ _ _ _ y => y)⟩
theorem ei_enum {K : PySem.W.Frag} {σ : L2.St} {H : Hp} {ta : TE} {xs : List V} (h : EvB ta σ H fun v G => ∃ p, v = .ref p ∧ SqL K G p xs) : EvI (iEnum K (tCons ta tNil)) σ H xs.length (YPair (fun i => some (.int (i : Int))) fun i => xs[i]?) := fun H1 e R r => h H1 e _ fun v H2 e2 hv => by
  obtain ⟨a, rfl, hx⟩ := hv H2 (e.trans e2) fun _ _ _ z => z
  exact ⟨a, xs, rfl, hx, r _ _ e2 (walk_enum.mono (fun G g => by
    obtain ⟨b, eb, hb⟩ := hv G g.1 g.2
    cases eb
    exact hb) fun _ _ _ _ _ _ y => y)⟩
theorem walk_ex {J : It} {n : Nat} {H H1 H2 : Hp} {Y : Nat → Hp → V → Hp → Prop} (e : Ex H H1) (e2 : Ex H1 H2) (w : Walk J n (fun G => Ex H G ∧ Since H1 H2 G) Y) : Walk J n (Ex H2) Y := w.mono (fun G g => ⟨(e.trans e2).trans g, fun b o _ z => g _ _ z⟩) fun _ _ _ _ _ _ y => y
/-- what a target binds at each turn -/
def BdG (g : TG) (σ : L2.St) (n : Nat) (Y : Nat → Hp → V → Hp → Prop) (τ : Nat → L2.St) : Prop := ∀ i H x H' (k : L2.St → Hp → Prop), i < n → Y i H x H' → (Ex H H' → k (τ i) H') → g x σ H' k
theorem bd_at {σ : L2.St} {n j : Nat} {xs : List V} : BdG (gName j) σ n (YAt xs) fun i => σ.set j (xs[i]?) := fun i H x H' k _ y c => by
  obtain ⟨rfl, hx⟩ := y
  show k (σ.set j (some x)) H'
  rw [← hx]
  exact c (Ex.refl _)
theorem bd_fn {σ : L2.St} {n j : Nat} {f : Nat → V} : BdG (gName j) σ n (YFn f) fun i => σ.set j (some (f i)) := fun i H x H' k _ y c => by
  obtain ⟨rfl, rfl⟩ := y
  exact c (Ex.refl _)
theorem bd_pair {K : PySem.W.Frag} {σ : L2.St} {n a b : Nat} {xs ys : Nat → Option V} : BdG (gTup K 2 (gCons (gName a) (gCons (gName b) gNil))) σ n (YPair xs ys) fun i => (σ.set a (xs i)).set b (ys i) := fun i H x H' k _ y c => by
  obtain ⟨T, u, v, rfl, hT, rfl, hu, hv⟩ := y
  refine ⟨T, [u, v], rfl, st_of upd_same, rfl, u, [v], rfl, v, [], rfl, rfl, ?_⟩
  rw [← hu, ← hv]
  exact c (Ex.new hT)
section
variable {wi : TI} {g : TG} {tt : TT} {te : TE} {tu tz : TS} {σ : L2.St} {H : Hp} {D : Ends} {n : Nat} {Y : Nat → Hp → V → Hp → Prop} {vs : List Nat} {τ : Nat → L2.St}
theorem s_forI (h : EvI wi σ H n Y) (k : ∀ H2, Ex H H2 → ∃ Pv : Nat → L2.St → Hp → Prop, Pv 0 σ H2 ∧ (∀ i σ' H', i ≤ n → Pv i σ' H' → Ex H2 H') ∧
    (∀ i x σ' H' H'', i < n → Pv i σ' H' → Y i H' x H'' → g x σ' H'' fun σ2 H3 => tu { D with nx := Pv (i + 1), ct := Pv (i + 1), bk := D.nx } σ2 H3) ∧ ∀ σ' H', Pv n σ' H' → D.nx σ' H') : tFor wi g tu D σ H :=
  h H (Ex.refl H) _ fun J H2 e2 w => by
    obtain ⟨Pv, h0, hG, hs, hd⟩ := k H2 e2
    exact for_it (walk_ex (Ex.refl H) e2 w) Pv h0 hG (fun i x σ' H' H'' hi p y => hs i x σ' H' H'' hi p y) hd
theorem q_forI (h : EvI wi σ H n Y) (k : ∀ H2, Ex H H2 → ∃ Pv : Nat → L2.St → Hp → Prop, Pv 0 σ H2 ∧ (∀ i σ' H', i ≤ n → Pv i σ' H' → Ex H2 H') ∧
    (∀ i x σ' H' H'', i < n → Pv i σ' H' → Y i H' x H'' → g x σ' H'' fun σ2 H3 => tu { D with nx := Pv (i + 1), ct := Pv (i + 1), bk := tz D } σ2 H3) ∧ ∀ σ' H', Pv n σ' H' → tz D σ' H') : tSeq (tFor wi g tu) tz D σ H := s_forI (D := { D with nx := tz D }) h k
/-- a comprehension that tests and tells plain values -/
theorem el_lc (f : Nat → Bool) (v : Nat → V) (h : EvI wi σ H n Y) (hn : n ≤ 40000) (hb : BdG g (wipe σ vs) n Y τ) (hw : ∀ i, i < n → wipe (τ i) vs = wipe σ vs)
    (ht : ∀ i H1, i < n → Ex H H1 → EvT tt (τ i) H1 (f i)) (he : ∀ i H1, i < n → Ex H H1 → f i = true → Ev te (τ i) H1 (v i)) : EvL (tLc wi g tt te vs) σ H (given n f v) := fun H0 e0 Q q =>
  h H0 e0 _ fun J H2 e2 w Dl hD => lc_it (walk_ex e0 e2 w) (Cw H2 f v Dl) ⟨hD, Ex.new hD, upd_same⟩ (fun i H' _ c => c.2.1)
    (fun i x H' H'' hi c y => hb i H' x H'' _ hi y fun e => ⟨hw i hi, by
      have c' : Cw H2 f v Dl i H'' := ⟨c.1, c.2.1.trans e, e _ _ c.2.2⟩
      exact cw_turn c' (by omega) (ht i H2 hi (e0.trans e2)) (fun hf => he i H2 hi (e0.trans e2) hf)⟩)
    (fun H' c => q Dl H' (fresh_back e2 c.1) (e2.trans c.2.1) c.2.2)
/-- .. that tells new things -/
theorem en_lc (P : Nat → V → Hp → Prop) (h : EvI wi σ H n Y) (hn : n ≤ 40000) (hb : BdG g (wipe σ vs) n Y τ) (hw : ∀ i, i < n → wipe (τ i) vs = wipe σ vs)
    (he : ∀ i H1, i < n → Ex H H1 → EvNew te (τ i) H1 (P i)) : EvNew (tLc wi g tYes te vs) σ H (ListP n P) := fun H0 e0 Q q =>
  h H0 e0 _ fun J H2 e2 w Dl hD => lc_it (walk_ex e0 e2 w) (Kept P H2 Dl) ⟨hD, Ex.new hD, [], upd_same, rfl, fun k x hk => by cases hk⟩ (fun i H' _ c => c.2.1)
    (fun i x H' H'' hi c y => hb i H' x H'' _ hi y fun e => ⟨hw i hi, by
      obtain ⟨c1, c2, us, c3, c4, c5⟩ := c
      have c' : Kept P H2 Dl i H'' := ⟨c1, c2.trans e, us, e _ _ c3, c4, fun k z hk G gg => c5 k z hk G fun b o hb h1 h2 => gg b o hb h1 (e _ _ h2)⟩
      exact kept_turn c' (by omega) (he i H2 hi (e0.trans e2))⟩)
    (fun H' c => q _ H' (e2.trans c.2.1) fun G gg => by
      obtain ⟨ws, h1, h2, h3⟩ := (kept_end c).out e2 (Ex.refl _) G gg
      exact ⟨Dl, ws, rfl, h1, h2, h3⟩)
theorem given_all {n : Nat} {v : Nat → V} : given n (fun _ => true) v = (List.range n).map v := by
  unfold given
  rw [List.filter_eq_self.mpr fun _ _ => rfl]
theorem yes_T : EvT tYes σ H true := fun H1 _ Q q => q H1 (Ex.refl H1)
/-- two sources, one within the other: all values in their order -/
theorem el_lc2 {wi1 : TI} {g1 : TG} {vs1 : List Nat} {n1 : Nat → Nat} {Y1 : Nat → Nat → Hp → V → Hp → Prop} {τ1 : Nat → Nat → L2.St} (v : Nat → Nat → V) (N : Nat) (h : EvI wi σ H n Y) (hN : N ≤ 1000000) (hz : ∀ i, i ≤ n → ((List.range i).flatMap fun i => (List.range (n1 i)).map (v i)).length ≤ N) (hb : BdG g (wipe σ vs) n Y τ) (hw : ∀ i, i < n → wipe (τ i) vs = wipe σ vs)
    (h1 : ∀ i H1, i < n → Ex H H1 → EvI wi1 (τ i) H1 (n1 i) (Y1 i)) (hb1 : ∀ i, i < n → BdG g1 (wipe (τ i) vs1) (n1 i) (Y1 i) (τ1 i)) (hw1 : ∀ i j, i < n → j < n1 i → wipe (τ1 i j) vs1 = wipe (τ i) vs1)
    (he : ∀ i j H1, i < n → j < n1 i → Ex H H1 → Ev te (τ1 i j) H1 (v i j)) : EvL (tLc2 wi g tYes wi1 g1 tYes te vs vs1) σ H ((List.range n).flatMap fun i => (List.range (n1 i)).map (v i)) := fun H0 e0 Q q =>
  h H0 e0 _ fun J H2 e2 w Dl hD => by
    let All : Nat → List V := fun i => (List.range i).flatMap fun i => (List.range (n1 i)).map (v i)
    have all_succ : ∀ i, All (i + 1) = All i ++ (List.range (n1 i)).map (v i) := fun i => by
      show List.flatMap _ (List.range (i + 1)) = _
      rw [List.range_succ, List.flatMap_append]
      simp [All]
    let Pv : Nat → Hp → Prop := fun i H' => H2 Dl = none ∧ Ex H2 H' ∧ H' Dl = some (.lst (All i))
    refine ⟨fun i m H' => m = n - i ∧ i ≤ n ∧ Pv i H', ⟨n, by simp, Nat.zero_le _, hD, Ex.new hD, upd_same⟩, ?_⟩
    have w' := walk_ex e0 e2 w
    rintro i m H' ⟨rfl, hi, p⟩
    by_cases hlt : i < n
    · refine .inr ⟨w'.goes i H' hlt p.2.1, Pv (i + 1), fun H'' p' => ⟨n - (i + 1), by omega, rfl, hlt, p'⟩, fun x H'' y => hb i H' x H'' _ hlt (w'.yields i H' x H'' hlt p.2.1 y) fun e => ⟨hw i hlt, ?_⟩⟩
      show wi1 (τ i) H'' _
      refine h1 i H2 hlt (e0.trans e2) H'' (p.2.1.trans e) _ fun J1 H3 e3 w1 => ?_
      let Pw : Nat → Hp → Prop := fun j G => (∀ b o, b ≠ Dl → H3 b = some o → G b = some o) ∧ Ex H2 G ∧ G Dl = some (.lst (All i ++ (List.range j).map (v i)))
      have q3 : Ex H2 H3 := (p.2.1.trans e).trans e3
      have inner : ∀ j G, Pw j G → Ex H2 G ∧ Since H'' H3 G := fun j G pw => ⟨pw.2.1, fun b o z1 z2 => pw.1 b o (fun z => by rw [z, e _ _ p.2.2] at z1; cases z1) z2⟩
      refine ⟨fun j m G => m = n1 i - j ∧ j ≤ n1 i ∧ Pw j G, ⟨n1 i, by simp, Nat.zero_le _, fun b o _ z => z, q3, by rw [(e.trans e3) _ _ p.2.2]; simp⟩, ?_⟩
      rintro j m G ⟨rfl, hj, pw⟩
      by_cases hjl : j < n1 i
      · refine .inr ⟨w1.goes j G hjl (inner j G pw), Pw (j + 1), fun G' pw' => ⟨n1 i - (j + 1), by omega, rfl, hjl, pw'⟩, fun x1 G' y1 => ?_⟩
        refine hb1 i hlt j G x1 G' _ hjl (w1.yields j G x1 G' hjl (inner j G pw) y1) fun eG => ⟨hw1 i j hlt hjl, ?_⟩
        show te (τ1 i j) G' _
        refine he i j H2 hlt hjl (e0.trans e2) G' (pw.2.1.trans eG) _ fun G4 e4 => ⟨_, (eG.trans e4) _ _ pw.2.2, ?_, ?_⟩
        · have s1 := hz (i + 1) (by omega)
          have s2 : (All (i + 1)).length ≤ N := s1
          rw [all_succ] at s2
          simp only [List.length_append, List.length_map, List.length_range] at s2 ⊢
          exact Nat.lt_of_le_of_lt (show _ ≤ 1000000 by omega) (by decide)
        · refine ⟨fun b o hb' z => by rw [upd_ne hb']; exact (eG.trans e4) _ _ (pw.1 b o hb' z), Ex.mut (pw.2.1.trans (eG.trans e4)) hD, ?_⟩
          rw [upd_same, List.range_succ, List.map_append, ← List.append_assoc]
          rfl
      · have ej : j = n1 i := by omega
        subst ej
        refine .inl ⟨w1.stops G (inner _ G pw), p.1, pw.2.1, ?_⟩
        rw [pw.2.2, all_succ]
    · have e : i = n := by omega
      subst e
      exact .inl ⟨w'.stops H' p.2.1, q Dl H' (fresh_back e2 p.1) (e2.trans p.2.1) p.2.2⟩
end

theorem pi_listK {X : Cx} {K : PySem.W.Frag} {tg l : Expr} {tl : TE} (hl : PE X l tl) (hk : X.K = K := by rfl) : PI X tg l (iList K tl) := by subst hk; exact pi_list hl
theorem cr_allK {X : Cx} {K : PySem.W.Frag} (hc : X.calm = true) (hk : X.K = K := by rfl) : CallR X (.builtin "all") (rAll K) := by subst hk; exact cr_all hc
theorem cr_sumK {X : Cx} {K : PySem.W.Frag} (hc : X.calm = true) (hk : X.K = K := by rfl) : CallR X (.builtin "sum") (rSum K) := by subst hk; exact cr_sum hc
theorem ev_sumN {K : PySem.W.Frag} {σ : L2.St} {H : Hp} {te : TE} {ns : List Int} (h : EvL te σ H (ns.map V.int)) : Ev (tCB (rSum K) (tCons te tNil)) σ H (.int ns.sum) := fun H1 e Q q => h H1 e _ fun p H2 _ e2 hp => ⟨p, ns, rfl, sq_of hp, q H2 e2⟩
/-- either of two rules of a call -/
def rOr (r1 r2 : List V → Hp → VK → Prop) : List V → Hp → VK → Prop := fun xs H Q => r1 xs H Q ∨ r2 xs H Q
theorem call_or {X : Cx} {f : Value} {r1 r2 : List V → Hp → VK → Prop} (h1 : CallR X f r1) (h2 : CallR X f r2) : CallR X f (rOr r1 r2) := fun pins s σ H xs us Q I r h => h.elim (h1 pins s σ H xs us Q I r) (h2 pins s σ H xs us Q I r)

/-! ### operators of own classes -/
section
variable {X : Cx} {CX : CXT} {pins : List (Addr × Obj)} {σ : L2.St} {H : Hp} {s : Shared} {f C : Addr} {fd : FuncData} {ps : List Str} {n : Nat} {sp : Sp}
theorem run_own {E : XK} {Q : VK} {us : List Value} {vs : List V} (F : FnOk X.prog X.w X.K X.mg X.base CX n f fd ps sp) (hr : Room n X.A) (hb : Binds X.K fd ps []) (hx : PassesAt CX X σ E)
    (I : Inv X pins σ H s) (r : Vals vs us) (h : sp vs H Q E) : wpAny (model X.prog X.w) X.A (call (.ref f) us) (PySem.W.CmpBack (EP X pins σ Q)) X.xe s := by
  have hl : us.length = ps.length := by rw [← r.length]; exact F.len _ _ _ _ h
  have b := hb s us I.kIn (by rw [List.append_nil]; exact hl)
  rw [List.append_nil] at b
  refine wpAny_call (codeAny_mono (F.run X.A X.stack s H ⟨us, []⟩ us vs Q E hr I.env0 b r h) fun r s' hq => ?_)
  cases r with
  | error e => exact hx pins H s e s' I hq
  | ok fl =>
    cases fl with
    | ret u =>
      obtain ⟨v, H', I', rv, q⟩ := I.after hq
      exact SlX.cmpback rv ⟨v, H', I', rv, q⟩
    | next => exact False.elim hq
    | brk => exact False.elim hq
    | cont => exact False.elim hq
end
/-- what an own operator asks: x an object of the class at C -/
def rOwn1 (C : Addr) (sp : Sp) (E : L2.St → XK) (σ : L2.St) : V → Hp → VK → Prop := fun x H Q => ∃ a dx fs, x = .ref a ∧ H a = some (.ins C dx fs) ∧ sp [x] H Q (E σ)
/-- .. y an object of the same class -/
def rOwn2 (C : Addr) (sp : Sp) (E : L2.St → XK) (σ : L2.St) : R2 := fun x y H Q => ∃ a dx fs b dy gs, x = .ref a ∧ H a = some (.ins C dx fs) ∧ y = .ref b ∧ H b = some (.ins C dy gs) ∧ sp [x, y] H Q (E σ)
/-- .. y an int -/
def rOwnI (C : Addr) (sp : Sp) (E : L2.St → XK) (σ : L2.St) : R2 := fun x y H Q => ∃ a dx fs i, x = .ref a ∧ H a = some (.ins C dx fs) ∧ y = .int i ∧ sp [x, y] H Q (E σ)
def OpS (X : Cx) (f : Value → Value → Sem Value) (r : L2.St → R2) : Prop :=
  ∀ (pins : List (Addr × Obj)) (s : Shared) (σ : L2.St) (H : Hp) (x y : V) (v u : Value) (Q : VK), Inv X pins σ H s → RelV x v → RelV y u → r σ x y H Q → wpAny (model X.prog X.w) X.A (f v u) (EP X pins σ Q) X.xe s
def UnS (X : Cx) (f : Value → Sem Value) (r : L2.St → V → Hp → VK → Prop) : Prop :=
  ∀ (pins : List (Addr × Obj)) (s : Shared) (σ : L2.St) (H : Hp) (x : V) (v : Value) (Q : VK), Inv X pins σ H s → RelV x v → r σ x H Q → wpAny (model X.prog X.w) X.A (f v) (EP X pins σ Q) X.xe s
def tOpS (r : L2.St → R2) (ta tb : TE) : TE := fun σ H Q => ta σ H fun x H1 => tb σ H1 fun y H2 => r σ x y H2 Q
def tUnS (r : L2.St → V → Hp → VK → Prop) (ta : TE) : TE := fun σ H Q => ta σ H fun x H1 => r σ x H1 Q
section
variable {X : Cx} {CX : CXT} {f C : Addr} {fd : FuncData} {ps : List Str} {n : Nat} {sp : Sp} {E : L2.St → XK} {op : Operator} {a b : Expr} {ta tb : TE} {pos : Pos}
theorem pe_opS {r : L2.St → R2} (ho : OpS X (binaryOp op) r) (ha : PE X a ta) (hb : PE X b tb) : PE X (.BinOp a op b pos) (tOpS r ta tb) := by
  refine ⟨fun pins s σ H Q I h => ?_⟩
  exact wpAny_BinOp (binT ha hb I h fun v u s2 x y H2 I2 rx ry q => ho pins s2 σ H2 x y v u Q I2 rx ry q)
theorem pe_unS {op : UnaryOp} {r : L2.St → V → Hp → VK → Prop} (ho : UnS X (unaryOp op) r) (ha : PE X a ta) : PE X (.UnaryOp op a pos) (tUnS r ta) := by
  refine ⟨fun pins s σ H Q I h => ?_⟩
  exact PyProof.Rows.UnaryOp_ (thn (ha.run pins s σ H _ I h) fun v s1 ⟨x, H1, I1, r1, q1⟩ => ho pins s1 σ H1 x v Q I1 r1 q1)
/-- the facts of a class with operators -/
structure Ops (K : PySem.W.Frag) (C : Addr) : Prop where
  first : PySem.W.selfFirst K C = true
  sub : PySem.W.subIn K (.type "int") (.ref C) = some false
theorem un_negO (m : Meth X.K C "__neg__" f) (F : FnOk X.prog X.w X.K X.mg X.base CX n f fd ps sp) (hr : Room n X.A) (hb : Binds X.K fd ps []) (hx : ∀ σ, PassesAt CX X σ (E σ)) : UnS X (unaryOp .USub) (rOwn1 C sp E) := by
  intro pins s σ H x v Q I rx h
  obtain ⟨a, dx, fs, rfl, ha, h⟩ := h
  cases rx
  obtain ⟨mA, J, _⟩ := ins_get I.hok ha
  obtain ⟨od, J, _⟩ := J.look
  obtain ⟨m', hF⟩ := I.fr
  refine PySem.W.ksp_neg hF I.ok.mod.kin J m.at_ m.fn (wpAny_mono (run_own (vs := [V.ref a]) F hr hb (hx σ) I (.cons rfl .nil) h) (fun v s' hv => ?_) fun _ _ e => e)
  cases v <;> first | exact hv.elim | exact hv
theorem un_invO (m : Meth X.K C "__invert__" f) (F : FnOk X.prog X.w X.K X.mg X.base CX n f fd ps sp) (hr : Room n X.A) (hb : Binds X.K fd ps []) (hx : ∀ σ, PassesAt CX X σ (E σ)) : UnS X (unaryOp .Invert) (rOwn1 C sp E) := by
  intro pins s σ H x v Q I rx h
  obtain ⟨a, dx, fs, rfl, ha, h⟩ := h
  cases rx
  obtain ⟨mA, J, _⟩ := ins_get I.hok ha
  obtain ⟨od, J, _⟩ := J.look
  obtain ⟨m', hF⟩ := I.fr
  refine PySem.W.ksp_inv hF I.ok.mod.kin J m.at_ m.fn (wpAny_mono (run_own (vs := [V.ref a]) F hr hb (hx σ) I (.cons rfl .nil) h) (fun v s' hv => ?_) fun _ _ e => e)
  cases v <;> first | exact hv.elim | exact hv
theorem op_own2 (o : Ops X.K C) (m : Meth X.K C (PySem.dunder op.info.2) f) (F : FnOk X.prog X.w X.K X.mg X.base CX n f fd ps sp) (hr : Room n X.A) (hb : Binds X.K fd ps []) (hx : ∀ σ, PassesAt CX X σ (E σ)) : OpS X (binaryOp op) (rOwn2 C sp E) := by
  intro pins s σ H x y v u Q I rx ry h
  obtain ⟨a, dx, fs, b, dy, gs, rfl, ha, rfl, hb', h⟩ := h
  cases rx
  cases ry
  obtain ⟨mA, J, _⟩ := ins_get I.hok ha
  obtain ⟨od, J, _⟩ := J.look
  obtain ⟨mB, J', _⟩ := ins_get I.hok hb'
  obtain ⟨od', J', _⟩ := J'.look
  obtain ⟨m', hF⟩ := I.fr
  exact PySem.W.binop_K hF I.ok.mod.kin J J'.type o.first m.at_ m.fn (run_own (vs := [V.ref a, V.ref b]) F hr hb (hx σ) I (.cons rfl (.cons rfl .nil)) h)
theorem op_ownI {rc : Option Value} {fo ro : Option Value} (o : Ops X.K C) (m : Meth X.K C (PySem.dunder op.info.2) f) (hrc : PySem.W.findIn X.K (.ref C) (dunderR op.info.2) = some rc) (hp : rc = none ∨ ∃ g : Addr, rc = some (.ref g))
    (h1 : PySem.W.findIn X.K (.type "int") (PySem.dunder op.info.2) = some fo) (h2 : PySem.W.findIn X.K (.type "int") (dunderR op.info.2) = some ro)
    (F : FnOk X.prog X.w X.K X.mg X.base CX n f fd ps sp) (hr : Room n X.A) (hb : Binds X.K fd ps []) (hx : ∀ σ, PassesAt CX X σ (E σ)) : OpS X (binaryOp op) (rOwnI C sp E) := by
  intro pins s σ H x y v u Q I rx ry h
  obtain ⟨a, dx, fs, i, rfl, ha, rfl, h⟩ := h
  cases rx
  obtain ⟨t, rfl⟩ := (show ∃ t, u = Value.int i t from ry)
  obtain ⟨mA, J, _⟩ := ins_get I.hok ha
  obtain ⟨od, J, _⟩ := J.look
  obtain ⟨m', hF⟩ := I.fr
  exact PySem.W.ksp_binT hF I.ok.mod.kin J rfl o.first m.at_ m.fn hrc hp h1 h2 o.sub (run_own (vs := [V.ref a, V.int i]) F hr hb (hx σ) I (.cons rfl (.cons ⟨t, rfl⟩ .nil)) h)
end
section
variable {X : Cx} {CX : CXT} {pins : List (Addr × Obj)} {σ : L2.St} {H : Hp} {s : Shared} {f C : Addr} {fd : FuncData} {ps : List Str} {n : Nat} {sp : Sp}
/-- .. called from a place A below the running body -/
theorem run_ownA {A : Around} {E : XK} {Q : VK} {us : List Value} {vs : List V} (F : FnOk X.prog X.w X.K X.mg X.base CX n f fd ps sp) (hr : Room n A) (hf : A.frames = X.A.frames) (hb : Binds X.K fd ps []) (hx : PassesAt CX X σ E)
    (I : Inv X pins σ H s) (r : Vals vs us) (h : sp vs H Q E) : wpAny (model X.prog X.w) A (call (.ref f) us) (EP X pins σ Q) X.xe s := by
  have hl : us.length = ps.length := by rw [← r.length]; exact F.len _ _ _ _ h
  have b := hb s us I.kIn (by rw [List.append_nil]; exact hl)
  rw [List.append_nil] at b
  have e0 : Env0 X.prog X.w X.K X.mg X.base A X.stack s H := by
    have e := I.env0
    exact ⟨by rw [hf]; exact e.frames, e.mod, e.bs, e.bsz, e.funs, e.frf, e.hok, e.bare⟩
  refine wpAny_call (codeAny_mono (F.run A X.stack s H ⟨us, []⟩ us vs Q E hr e0 b r h) fun r s' hq => ?_)
  cases r with
  | error e => exact hx pins H s e s' I hq
  | ok fl =>
    cases fl with
    | ret u => exact I.after hq
    | next => exact False.elim hq
    | brk => exact False.elim hq
    | cont => exact False.elim hq
theorem ty_looks {x : V} {u t : Value} (I : Inv X pins σ H s) (rx : RelV x u) (ty : TyX X.K H x t) : PySem.W.Looks (model X.prog X.w) s.heap (typeOf u) t := by
  obtain ⟨P, kx, hp, _⟩ := kit_of I rx ty
  exact kx.ty _ _ I.kIn hp
end
/-- x an object of the class at C, y of any known type -/
def rOwnC (K : PySem.W.Frag) (C : Addr) (sp : Sp) (E : L2.St → XK) (σ : L2.St) : R2 := fun x y H Q => ∃ a dx fs tb, x = .ref a ∧ H a = some (.ins C dx fs) ∧ TyX K H y tb ∧ PySem.W.notFirst K C tb = true ∧ sp [x, y] H Q (E σ)
/-- not ==: the other answer -/
def rOwnN (K : PySem.W.Frag) (C : Addr) (sp : Sp) (E : L2.St → XK) (σ : L2.St) : R2 := fun x y H Q => ∃ a dx fs tb, x = .ref a ∧ H a = some (.ins C dx fs) ∧ TyX K H y tb ∧ PySem.W.notFirst K C tb = true ∧ sp [x, y] H (fun v H' => ∃ b, v = .bl b ∧ Q (.bl (!b)) H') (E σ)
/-- y in x, x an object of the class at C -/
def rOwnIn (C : Addr) (sp : Sp) (E : L2.St → XK) (σ : L2.St) : R2 := fun y x H Q => ∃ a dx fs, x = .ref a ∧ H a = some (.ins C dx fs) ∧ sp [x, y] H (fun v H' => ∃ b, v = .bl b ∧ Q (.bl b) H') (E σ)
section
variable {X : Cx} {CX : CXT} {f C : Addr} {fd : FuncData} {ps : List Str} {n : Nat} {sp : Sp} {E : L2.St → XK} {a b : Expr} {ta tb : TE} {pos : Pos}
theorem pe_cmpS {op : CmpOp} {r : L2.St → R2} (ho : OpS X (compareOp op) r) (ha : PE X a ta) (hb : PE X b tb) (hm : behindInMarks op b = false) : PE X (.Compare a [op] [b] pos) (tOpS r ta tb) := by
  refine ⟨fun pins s σ H Q I h => ?_⟩
  exact wpAny_Compare1 (binT ha hb I h fun v u s2 x y H2 I2 rx ry q => ho pins s2 σ H2 x y v u Q I2 rx ry q) hm
theorem pt_cmpS {op : CmpOp} {r : L2.St → R2} (ho : OpS X (compareOp op) r) (ha : PE X a ta) (hb : PE X b tb) (hm : behindInMarks op b = false) : PT X (.Compare a [op] [b] pos) (tTest (tOpS r ta tb)) := by
  refine ⟨fun pins s σ H Q I h => ?_⟩
  refine wpAny_isTrue_Compare1 (thn (ha.run pins s σ H _ I h) fun v s1 ⟨x, H1, I1, r1, q1⟩ => thn (hb.run pins s1 σ H1 _ I1 q1) fun u s2 ⟨y, H2, I2, r2, q2⟩ =>
    thn (ho pins s2 σ H2 x y v u _ I2 r1 r2 q2) fun c s3 ⟨z, H3, I3, r3, k, e, q3⟩ => ?_) hm
  subst e
  cases r3
  exact wpAny_truthy_bool ⟨H3, I3, q3⟩
theorem op_ownC {K : PySem.W.Frag} {op : CmpOp} (hop : ∀ v u, compareOp op v u = richCompare op v u) (m : Meth X.K C (cmpInfo op).2.1 f) (F : FnOk X.prog X.w X.K X.mg X.base CX n f fd ps sp) (hr : Room n X.A) (hb : Binds X.K fd ps []) (hx : ∀ σ, PassesAt CX X σ (E σ))
    (hk : X.K = K := by rfl) : OpS X (compareOp op) (rOwnC K C sp E) := by
  subst hk
  intro pins s σ H x y v u Q I rx ry h
  obtain ⟨a, dx, fs, tb, rfl, ha, ty, nf, h⟩ := h
  cases rx
  obtain ⟨mA, J, _⟩ := ins_get I.hok ha
  obtain ⟨od, J, _⟩ := J.look
  obtain ⟨m', hF⟩ := I.fr
  rw [hop]
  exact PySem.W.cmp_K hr.units0 hF I.ok.mod.kin J (ty_looks I ry ty) nf m.at_ m.fn (run_own (vs := [V.ref a, y]) F hr hb (hx σ) I (.cons rfl (.cons ry .nil)) h)
/-- len of an object with an own __len__ -/
def rOwnLen (C : Addr) (sp : Sp) (E : XK) : List V → Hp → VK → Prop := fun xs H Q => ∃ a dx fs, xs = [.ref a] ∧ H a = some (.ins C dx fs) ∧ sp [.ref a] H (fun v H' => ∃ i : Int, v = .int i ∧ (0 ≤ i ∧ i < 2 ^ 63) ∧ Q (.int i) H') E
theorem call_lenO {E : XK} (m : Meth X.K C "__len__" f) (F : FnOk X.prog X.w X.K X.mg X.base CX n f fd ps sp) (hr : Room (n + 1) X.A) (hb : Binds X.K fd ps []) (hx : ∀ σ, PassesAt CX X σ E) : CallR X (.builtin "len") (rOwnLen C sp E) := by
  intro pins s σ H xs us Q I r h
  obtain ⟨a, dx, fs, rfl, ha, h⟩ := h
  obtain ⟨u, rfl, rx⟩ := vals1 r
  cases rx
  obtain ⟨mA, J, _⟩ := ins_get I.hok ha
  obtain ⟨od, J, _⟩ := J.look
  obtain ⟨m', hF⟩ := I.fr
  refine PySem.W.len_K hF I.ok.mod.kin J m.at_ m.fn (wpAny_mono (run_ownA (vs := [V.ref a]) F hr.in1 rfl hb (hx σ) I (.cons rfl .nil) h) (fun v s' hv => ?_) fun _ _ e => e)
  obtain ⟨z, H', I', rv, i, rfl, hi, q⟩ := hv
  obtain ⟨t, rfl⟩ := (show ∃ t, v = Value.int i t from rv)
  exact ⟨hi, ⟨.int i, H', I'.tok _, ⟨_, rfl⟩, q⟩⟩
theorem op_ownIn (m : Meth X.K C "__contains__" f) (F : FnOk X.prog X.w X.K X.mg X.base CX n f fd ps sp) (hr : Room n X.A) (hb : Binds X.K fd ps []) (hx : ∀ σ, PassesAt CX X σ (E σ)) : OpS X (compareOp .In) (rOwnIn C sp E) := by
  intro pins s σ H y x u v Q I ry rx h
  obtain ⟨a, dx, fs, rfl, ha, h⟩ := h
  cases rx
  obtain ⟨mA, J, _⟩ := ins_get I.hok ha
  obtain ⟨od, J, _⟩ := J.look
  have hX := I.kIn
  have one := run_own (vs := [V.ref a, y]) F hr hb (hx σ) I (.cons rfl (.cons ry .nil)) h
  show wpAny _ _ (do return Value.bool (← contains (.ref a) u)) _ X.xe s
  refine wpAny_bind ?_
  unfold contains
  refine wpAny_holding ?_
  refine wpAny_bind (wpAny_bind (J.type.here ((PySem.W.looks_findIn hX m.at_).here ?_)))
  show wpAny _ _ (if (some (Value.ref f) == some Value.none) = true then _ else _) _ X.xe s
  rw [if_neg (by simp)]
  unfold callSpecialUnlessNone?
  refine wpAny_bind (wpAny_bind (wpAny_bind (J.type.here ((PySem.W.looks_findIn hX m.at_).here ?_))))
  refine wpAny_holding (wpAny_bind ((PySem.W.bind_fn hX _ (beq_iff_eq.mp m.fn)).here ?_))
  show wpAny _ _ (if (Value.ref f == Value.none) = true then _ else _) _ X.xe s
  rw [if_neg (by simp)]
  refine wpAny_bind (wpAny_mono one (fun z s' hz => ?_) fun _ _ e => e)
  have hz' : (EP X pins σ fun v H' => ∃ b, v = .bl b ∧ Q (.bl b) H') z s' := by
    cases z <;> first | exact hz.elim | exact hz
  obtain ⟨v, H', I', rv, b, rfl, q⟩ := hz'
  cases (show z = Value.bool b from rv)
  refine wpAny_pure ?_
  exact wpAny_truthy_bool (wpAny_pure ⟨.bl b, H', I', rfl, q⟩)
end
/-! ### x op= y for classes without the in-place method -/
section
variable {prog : Program} {w : World} {A : Around} {R : Value → Shared → Prop} {s : Shared} {K : PySem.W.Frag} {x C f : Addr} {ox : Obj} {od : Option Obj} {y : Value} {nm : String}
/-- the first class of a class at C is the class itself -/
theorem mro_first (hc : PySem.W.selfFirst K C = true) : ∃ (d : ClassData) (r : List Value), PySem.W.clsIn K C = some d ∧ d.mro = .ref C :: r := by
  obtain ⟨d, hd, e⟩ := PySem.W.any_some hc
  cases q : d.mro with
  | nil => rw [q] at e; cases e
  | cons u r =>
    rw [q] at e
    cases (beq_iff_eq.mp e)
    exact ⟨d, r, hd, q⟩
theorem bin1_own {Q : Option Value → Shared → Prop} (X : K.In s.heap) (I : PySem.W.InstAt s.heap x ox C od) (hy : PySem.W.Looks (model prog w) s.heap (typeOf y) (.ref C)) (hc : PySem.W.selfFirst K C = true)
    (hs : PySem.W.findIn K (.ref C) (PySem.dunder nm) = some (some (.ref f))) (hf : PySem.W.isFn K (.ref f) = true) (h : wpAny (model prog w) A (call (.ref f) [.ref x, y]) (PySem.W.CmpBack fun v => Q (some v)) R s) :
    wpAny (model prog w) A (binaryOp1 nm (.ref x) y) Q R s := by
  obtain ⟨d, r, hd, hm⟩ := mro_first hc
  have fl := PySem.W.fills_K (M := model prog w) X hd hm hs
  unfold binaryOp1
  refine wpAny_bind (I.type.here ?_)
  refine wpAny_bind (hy.here ?_)
  refine wpAny_bind (fl.here ?_)
  simp only [beq_self_eq_true, if_true]
  refine wpAny_bind (wpAny_pure ?_)
  simp only [Bool.and_false, Bool.false_and, Bool.false_eq_true, if_false]
  refine wpAny_bind (wpAny_pure ?_)
  simp only [Bool.false_eq_true, if_false]
  refine wpAny_bind (m := tryMethod (.ref x) _ y) ?_
  unfold tryMethod
  refine wpAny_bind ?_
  refine PySem.W.special_fn X I hs (beq_iff_eq.mp hf) (wpAny_mono h (fun v t hv => ?_) fun _ _ z => z)
  cases v <;> first | exact hv.elim | exact wpAny_pure (wpAny_pure hv)
theorem no_inplace {M : Model} {h : Heap} {add : Bool} (X : K.In h) {d : ClassData} (hd : PySem.W.clsIn K C = some d) (hm : d.mro = [.ref C, .type "object"]) (hc : PySem.W.findIn K (.ref C) (dunderI nm) = some none)
    (ho : PySem.W.findIn K (.type "object") (dunderI nm) = some none) : PySem.W.Looks M h (fillsInplaceSlot (.ref C) nm add) false := by
  intro A Q E s k q
  have Lm : PySem.W.Looks M h (mroOf (.ref C)) d.mro := (PySem.W.looks_clsIn X hd).andThen (f := fun d => pure d.mro) .now
  have X' : K.In s.heap := X.keeps k
  have L1 : PySem.W.Looks M s.heap (typeLookup (.ref C) (dunderI nm)) none := PySem.W.looks_findIn X' hc
  have L2 : PySem.W.Looks M s.heap (typeLookup (.type "object") (dunderI nm)) none := PySem.W.looks_findIn X' ho
  unfold fillsInplaceSlot
  refine wpAny_bind ((Lm.keeps k).here ?_)
  rw [hm, List.anyM_cons]
  refine wpAny_bind (wpAny_bind (L1.here (wpAny_pure ?_)))
  simp only [Bool.false_eq_true, if_false]
  rw [List.anyM_cons]
  refine wpAny_bind (wpAny_bind (L2.here (wpAny_pure ?_)))
  simp only [Bool.false_eq_true, if_false]
  exact wpAny_pure q
theorem inplace_by {op : Operator} {Q : Value → Shared → Prop} (I : PySem.W.InstAt s.heap x ox C od) (L : PySem.W.Looks (model prog w) s.heap (fillsInplaceSlot (.ref C) op.info.2 (op == .Add)) false)
    (h : wpAny (model prog w) A (binaryOp1 op.info.2 (.ref x) y) (fun r t => ∃ v, r = some v ∧ Q v t) R s) : wpAny (model prog w) A (inplaceOp op (.ref x) y) Q R s := by
  unfold inplaceOp
  refine wpAny_holding ?_
  refine wpAny_bind (I.type.here ?_)
  refine wpAny_bind (L.here ?_)
  simp only [Bool.false_eq_true, if_false]
  refine wpAny_bind (wpAny_mono h (fun r t hr => ?_) fun _ _ z => z)
  obtain ⟨v, rfl, q⟩ := hr
  exact wpAny_pure q
theorem bin1_int {i : Int} {t : Tok} {Q : Option Value → Shared → Prop} {rc fo ro : Option Value} (X : K.In s.heap) (I : PySem.W.InstAt s.heap x ox C od) (hc : PySem.W.selfFirst K C = true)
    (hs : PySem.W.findIn K (.ref C) (PySem.dunder nm) = some (some (.ref f))) (hf : PySem.W.isFn K (.ref f) = true) (hr : PySem.W.findIn K (.ref C) (dunderR nm) = some rc) (hp : rc = none ∨ ∃ g : Addr, rc = some (.ref g))
    (h1 : PySem.W.findIn K (.type "int") (PySem.dunder nm) = some fo) (h2 : PySem.W.findIn K (.type "int") (dunderR nm) = some ro) (hsub : PySem.W.subIn K (.type "int") (.ref C) = some false)
    (h : wpAny (model prog w) A (call (.ref f) [.ref x, .int i t]) (PySem.W.CmpBack fun v => Q (some v)) R s) : wpAny (model prog w) A (binaryOp1 nm (.ref x) (.int i t)) Q R s := by
  obtain ⟨d, r, hd, hm⟩ := mro_first hc
  have la : PySem.W.Looks (model prog w) s.heap (fillsNumberSlot (.ref C) nm) true := PySem.W.fills_K X hd hm hs
  have lb : PySem.W.Looks (model prog w) s.heap (fillsNumberSlot (.type "int") nm) ((fo.isSome && !isSeqSlot fo) || (ro.isSome && !isSeqSlot ro)) := PySem.W.ksp_fillsT X h1 h2
  have ls : PySem.W.Looks (model prog w) s.heap (isSubtype (.type "int") (.ref C)) false := PySem.W.looks_subIn X hsub
  have lp : PySem.W.Looks (model prog w) s.heap (numberSlotInPython (.ref C) nm) true := PySem.W.ksp_inPy X hs hr hp
  have lq : PySem.W.Looks (model prog w) s.heap (numberSlotInPython (.type "int") nm) false := PySem.W.Looks.of_pure rfl
  have lt : PySem.W.Looks (model prog w) s.heap (typeLookup (.type "int") (dunderR nm)) ro := PySem.W.looks_findIn X h2
  have ly : PySem.W.Looks (model prog w) s.heap (typeOf (.int i t)) (.type "int") := PySem.W.Looks.of_pure rfl
  generalize ((fo.isSome && !isSeqSlot fo) || (ro.isSome && !isSeqSlot ro)) = right at lb
  have ne : (Value.ref C == Value.type "int") = false := by simp
  have one : wpAny (model prog w) A (tryMethod (.ref x) (PySem.dunder nm) (.int i t)) (fun r s' => ∃ v, r = some v ∧ Q (some v) s') R s := by
    unfold tryMethod
    refine wpAny_bind (PySem.W.special_fn X I hs (beq_iff_eq.mp hf) (wpAny_mono h (fun v s' hv => ?_) fun _ _ z => z))
    cases v <;> first | exact hv.elim | exact wpAny_pure ⟨_, rfl, hv⟩
  unfold binaryOp1
  refine wpAny_bind (I.type.here ?_)
  refine wpAny_bind (ly.here ?_)
  refine wpAny_bind (la.here ?_)
  simp only [ne, Bool.false_eq_true, if_false]
  refine wpAny_bind (lb.here ?_)
  cases right with
  | false =>
    simp only [Bool.and_false, Bool.false_and, Bool.false_eq_true, if_false, if_true]
    refine wpAny_bind (wpAny_pure ?_)
    simp only [Bool.false_eq_true, if_false]
    refine wpAny_bind (wpAny_mono one (fun r s' hr' => ?_) fun _ _ z => z)
    obtain ⟨v, rfl, q⟩ := hr'
    exact wpAny_pure q
  | true =>
    simp only [Bool.and_true, Bool.not_false, if_true]
    refine wpAny_bind (ls.here ?_)
    simp only [Bool.false_eq_true, if_false]
    refine wpAny_bind (lp.here ?_)
    simp only [if_true]
    refine wpAny_bind (lq.here ?_)
    simp only [Bool.not_false, if_true]
    refine wpAny_bind (lt.here ?_)
    refine wpAny_bind (wpAny_mono one (fun r s' hr' => ?_) fun _ _ z => z)
    obtain ⟨v, rfl, q⟩ := hr'
    exact wpAny_pure q
end
/-- what a class without in-place methods has -/
structure NoIn (K : PySem.W.Frag) (C : Addr) (d : ClassData) : Prop where
  at_ : PySem.W.clsIn K C = some d
  mro : d.mro = [.ref C, .type "object"]
section
variable {X : Cx} {CX : CXT} {f C : Addr} {fd : FuncData} {ps : List Str} {n : Nat} {sp : Sp} {E : XK} {op : Operator} {d : ClassData}
theorem ip_own2 (o : Ops X.K C) (ni : NoIn X.K C d) (m : Meth X.K C (PySem.dunder op.info.2) f) (h1 : PySem.W.findIn X.K (.ref C) (dunderI op.info.2) = some none) (h2 : PySem.W.findIn X.K (.type "object") (dunderI op.info.2) = some none)
    (F : FnOk X.prog X.w X.K X.mg X.base CX n f fd ps sp) (hr : Room n X.A) (hb : Binds X.K fd ps []) (hx : ∀ σ, PassesAt CX X σ E) : OpR X (inplaceOp op) (rOwn2 C sp (fun _ => E) []) := by
  intro pins s σ H x y v u Q I rx ry h
  obtain ⟨a, dx, fs, b, dy, gs, rfl, ha, rfl, hb', h⟩ := h
  cases rx
  cases ry
  obtain ⟨mA, J, _⟩ := ins_get I.hok ha
  obtain ⟨od, J, _⟩ := J.look
  obtain ⟨mB, J', _⟩ := ins_get I.hok hb'
  obtain ⟨od', J', _⟩ := J'.look
  refine inplace_by J (no_inplace I.kIn ni.at_ ni.mro h1 h2) (bin1_own I.kIn J J'.type o.first m.at_ m.fn (wpAny_mono (run_own (vs := [V.ref a, V.ref b]) F hr hb (hx σ) I (.cons rfl (.cons rfl .nil)) h) (fun v s' hv => ?_) fun _ _ e => e))
  cases v <;> first | exact hv.elim | exact ⟨_, rfl, hv⟩
theorem ip_ownI {rc fo ro : Option Value} (o : Ops X.K C) (ni : NoIn X.K C d) (m : Meth X.K C (PySem.dunder op.info.2) f) (hi1 : PySem.W.findIn X.K (.ref C) (dunderI op.info.2) = some none) (hi2 : PySem.W.findIn X.K (.type "object") (dunderI op.info.2) = some none)
    (hrc : PySem.W.findIn X.K (.ref C) (dunderR op.info.2) = some rc) (hp : rc = none ∨ ∃ g : Addr, rc = some (.ref g)) (h1 : PySem.W.findIn X.K (.type "int") (PySem.dunder op.info.2) = some fo) (h2 : PySem.W.findIn X.K (.type "int") (dunderR op.info.2) = some ro)
    (F : FnOk X.prog X.w X.K X.mg X.base CX n f fd ps sp) (hr : Room n X.A) (hb : Binds X.K fd ps []) (hx : ∀ σ, PassesAt CX X σ E) : OpR X (inplaceOp op) (rOwnI C sp (fun _ => E) []) := by
  intro pins s σ H x y v u Q I rx ry h
  obtain ⟨a, dx, fs, i, rfl, ha, rfl, h⟩ := h
  cases rx
  obtain ⟨t, rfl⟩ := (show ∃ t, u = Value.int i t from ry)
  obtain ⟨mA, J, _⟩ := ins_get I.hok ha
  obtain ⟨od, J, _⟩ := J.look
  refine inplace_by J (no_inplace I.kIn ni.at_ ni.mro hi1 hi2) (bin1_int I.kIn J o.first m.at_ m.fn hrc hp h1 h2 o.sub (wpAny_mono (run_own (vs := [V.ref a, V.int i]) F hr hb (hx σ) I (.cons rfl (.cons ⟨t, rfl⟩ .nil)) h) (fun v s' hv => ?_) fun _ _ e => e))
  cases v <;> first | exact hv.elim | exact ⟨_, rfl, hv⟩
end
theorem pAt {X : Cx} {CX : CXT} {E : XK} (h : Passes CX X E) : ∀ σ : L2.St, PassesAt CX X σ E := fun σ pins H s e s' I c => h pins σ H s e s' I c
/-- what a binary operator with an int on the right asks of the class at C -/
structure IntOp (K : PySem.W.Frag) (C : Addr) (nm : String) : Prop where
  rc : ∃ rc, PySem.W.findIn K (.ref C) (dunderR nm) = some rc ∧ (rc = none ∨ ∃ g : Addr, rc = some (.ref g))
  lo : ∃ fo, PySem.W.findIn K (.type "int") (PySem.dunder nm) = some fo
  ro : ∃ ro, PySem.W.findIn K (.type "int") (dunderR nm) = some ro
section
variable {X : Cx} {CX : CXT} {f C : Addr} {fd : FuncData} {ps : List Str} {n : Nat} {sp : Sp} {op : Operator}
theorem op_ownJ {E : L2.St → XK} (o : Ops X.K C) (m : Meth X.K C (PySem.dunder op.info.2) f) (j : IntOp X.K C op.info.2) (F : FnOk X.prog X.w X.K X.mg X.base CX n f fd ps sp) (hr : Room n X.A) (hb : Binds X.K fd ps []) (hx : ∀ σ, PassesAt CX X σ (E σ)) :
    OpS X (binaryOp op) (rOwnI C sp E) := by
  obtain ⟨⟨rc, h1, h2⟩, ⟨fo, h3⟩, ⟨ro, h4⟩⟩ := j
  exact op_ownI o m h1 h2 h3 h4 F hr hb hx
theorem ip_ownK {E : XK} (o : Ops X.K C) (ni : ∃ d, NoIn X.K C d) (m : Meth X.K C (PySem.dunder op.info.2) f) (h : PySem.W.findIn X.K (.ref C) (dunderI op.info.2) = some none ∧ PySem.W.findIn X.K (.type "object") (dunderI op.info.2) = some none)
    (F : FnOk X.prog X.w X.K X.mg X.base CX n f fd ps sp) (hr : Room n X.A) (hb : Binds X.K fd ps []) (hx : ∀ σ, PassesAt CX X σ E) : OpR X (inplaceOp op) (rOwn2 C sp (fun _ => E) []) := by
  obtain ⟨d, ni⟩ := ni
  exact ip_own2 o ni m h.1 h.2 F hr hb hx
theorem ip_ownJ {E : XK} (o : Ops X.K C) (ni : ∃ d, NoIn X.K C d) (m : Meth X.K C (PySem.dunder op.info.2) f) (j : IntOp X.K C op.info.2) (h : PySem.W.findIn X.K (.ref C) (dunderI op.info.2) = some none ∧ PySem.W.findIn X.K (.type "object") (dunderI op.info.2) = some none)
    (F : FnOk X.prog X.w X.K X.mg X.base CX n f fd ps sp) (hr : Room n X.A) (hb : Binds X.K fd ps []) (hx : ∀ σ, PassesAt CX X σ E) : OpR X (inplaceOp op) (rOwnI C sp (fun _ => E) []) := by
  obtain ⟨d, ni⟩ := ni
  obtain ⟨⟨rc, h1, h2⟩, ⟨fo, h3⟩, ⟨ro, h4⟩⟩ := j
  exact ip_ownI o ni m h.1 h.2 h1 h2 h3 h4 F hr hb hx
end

/-! ### try with several except clauses, each with a name or without -/
def endsA (D : Ends) : Option Nat → Ends
  | none => D
  | some i => { nx := fun σ H => D.nx (σ.set i none) H, rt := D.rt, bk := fun σ H => D.bk (σ.set i none) H, ct := fun σ H => D.ct (σ.set i none) H }
def putA (σ : L2.St) (a : Addr) : Option Nat → L2.St
  | none => σ
  | some i => σ.set i (some (.ref a))
abbrev Clause := Value × Option Nat × (Addr → Value → Option Addr → TS)
/-- what the clauses wish of what the body raises, one behind another -/
def wMas (K : PySem.W.Frag) (Wo : WX) (D : Ends) : List Clause → WX
  | [] => Wo
  | q :: r => fun cls d σ H => ∃ b, PySem.W.exmOne K cls q.1 = some b ∧ (b = true → ∀ a, H a = none → q.2.2 a cls d (endsA D q.2.1) (putA σ a q.2.1) H) ∧ (b = false → wMas K Wo D r cls d σ H)
inductive Clauses (X : Cx) : List ExceptHandler → List Clause → Prop
  | nil : Clauses X [] []
  | bare {x : Str} {c : Value} {ts : Addr → Value → Option Addr → TS} {s0 : Stmt} {sr : List Stmt} {p p' : Pos} {hs : List ExceptHandler} {l : List Clause} (hc : Names X x c)
      (hb : ∀ (a : Addr) (oe : Obj) (cls : Value) (d : Option Addr) (pn : List (Addr × Obj)), Zc cls d oe → (∃ vs, oe.data = .fields vs) → PSs (X.suite a ((a, oe) :: pn)) (s0 :: sr) (ts a cls d)) (r : Clauses X hs l) :
      Clauses X (.ExceptHandler (some (.Name x p)) none (s0 :: sr) p' :: hs) ((c, none, ts) :: l)
  | named {x n : Str} {i : Nat} {c : Value} {ts : Addr → Value → Option Addr → TS} {s0 : Stmt} {sr : List Stmt} {p p' : Pos} {hs : List ExceptHandler} {l : List Clause} (hi : X.N[i]? = some n) (hl : X.env.kindOf n = some .local) (hc : Names X x c)
      (hb : ∀ (a : Addr) (oe : Obj) (cls : Value) (d : Option Addr) (pn : List (Addr × Obj)), Zc cls d oe → (∃ vs, oe.data = .fields vs) → PSs (X.suite a ((a, oe) :: pn)) (s0 :: sr) (ts a cls d)) (r : Clauses X hs l) :
      Clauses X (.ExceptHandler (some (.Name x p)) (some n) (s0 :: sr) p' :: hs) ((c, some i, ts) :: l)
section
open PySem.Spec PyProof.Rows
variable {X : Cx} {body : List Stmt} {h0 : ExceptHandler} {hs : List ExceptHandler} {l : List Clause} {pos : Pos} {tb : WX → TS} {Wo : WX}
theorem ps_try_mas (hst : X.stack = X.env :: X.outer) (hfm : X.env.frame = some X.env.locals) (hND : X.N.Nodup) (tk : Takes X Wo)
    (hbody : ∀ (W : WX) (pn : List (Addr × Obj)) (xe : Value → Shared → Prop), Takes (X.tr pn xe) W → PassesOwn (model X.prog X.w) X.A X.env xe → PSs (X.tr pn xe) body (tb W))
    (hcl : Clauses X (h0 :: hs) l) : PS X (.Try body (h0 :: hs) [] [] pos) (fun D σ H => tb (wMas X.K Wo D l) D σ H) := by
  refine ⟨fun pins s σ H D I hq => ?_⟩
  have okX := I.ok
  have frX : X.A.frames = some (X.env :: X.outer) := by rw [okX.frames, hst]
  let fly : Value → Shared → Prop := fun e s1 => wpAny (model X.prog X.w) X.A (noteFrame e X.env) (fun _ s2 => wpAny (model X.prog X.w) X.A (setFlight e none) (fun _ s3 => wpAny (model X.prog X.w) X.A (handleBy e X.env (h0 :: hs)) (SP X pins D) X.xe s3) X.xe s2) X.xe s1
  refine wpAny_Try_except (wpAny_mono ((hbody (wMas X.K Wo D l) (X.pn ++ pins) fly (fun u t flown => ?_) PassesOwn.looking).run [] s σ H D (I.toTry _) hq) (fun f t done => ?_) fun e t z => z)
  · obtain ⟨a, B, sI, pins', σ1, G, cls, d, rfl, J0, nb, up, sky, na, os, ag, wish⟩ := flown
    have J : Inv X pins σ1 G sI := J0.ofTry okX
    show wpAny (model X.prog X.w) X.A (noteFrame (.ref a) X.env) _ _ _
    refine Sky.land Zc.steady frX hfm (show Sky B (X.env :: X.outer) a (Zc cls d) X.env.locals t.heap by rw [← hst]; exact sky) fun g fl upg => ?_
    have Jg : Inv X pins σ1 G { t with heap := g } := J.landed nb fl.1 (up.trans upg) os ag
    obtain ⟨ob, vb, at_b, zc_b, da_b⟩ := fl.there
    have apart : ∀ {g' : Heap} {o : Obj} {us : Array Value}, g'.FunFrames B (X.env :: X.outer) → g'.get? a = some o → o.data = .fields us → a ∉ frs (X.env :: X.outer) := fun {g' o us} ff ea da hm => by
      obtain ⟨_, o2, e2, nf⟩ := ff.mem hm
      rw [ea] at e2
      cases e2
      exact nf _ da
    have out1 := apart fl.2.2.1 at_b da_b
    have out2 : a ≠ X.env.locals := fun z => out1 (List.mem_filterMap.mpr ⟨X.env, List.mem_cons_self, by rw [hfm, z]⟩)
    have out3 : a ∉ X.fs := fun hm => by
      obtain ⟨e, he, q⟩ := List.mem_filterMap.mp hm
      exact out1 (List.mem_filterMap.mpr ⟨e, List.mem_cons_of_mem _ he, q⟩)
    have Sb := Jg.suite at_b da_b na out2 out3
    have look : ∀ {x : Str} {c : Value} {p : Pos} {R : Value → Shared → Prop} {R' : Value → Shared → Prop}, Names X x c → R c { t with heap := g } → wpAny (model X.prog X.w) (X.A.mark (some (.ref a))) (eval (.Name x p) X.env) R R' { t with heap := g } := fun {x c p R R'} hc q => by
      obtain ⟨hg, hdb, hm | ⟨hm, hv, hn⟩⟩ := hc
      · exact ld_glob (X := X.suite a ((a, ob) :: (X.pn ++ pins))) Sb hg hm q hdb
      · exact ld_blt (X := X.suite a ((a, ob) :: (X.pn ++ pins))) Sb hg hm hv q hn hdb
    have kind : PySem.W.Looks (model X.prog X.w) g (typeOf (.ref a)) cls := fun A Q E s k q => wpAny_typeOf_ref (k _ _ at_b) (by rw [zc_b.1]; exact q)
    have each : ∀ {hs' : List ExceptHandler} {l' : List Clause}, Clauses X hs' l' → wMas X.K Wo D l' cls d σ1 G → wpAny (model X.prog X.w) X.A (handleBy (.ref a) X.env hs') (SP X pins D) X.xe { t with heap := g } := by
      intro hs' l' hk
      induction hk with
      | nil =>
        intro wi
        refine wpAny_handleBy_nil ?_
        obtain ⟨_, _, _, oe, ue, TB, oT, te, g1, g2, g3, g4, g5⟩ := id fl
        unfold PySem.passOn
        refine wpAny_bind (wpAny_field g1 g3 g4 ?_)
        rw [if_neg (show ¬ ((Value.ref TB == Value.none) = true) from by simp)]
        have away : wpAny (model X.prog X.w) X.A (setFlight (.ref a) X.env.frame) (fun _ s4 => wpAny (model X.prog X.w) X.A (throw (.ref a) : Sem Flow) (SP X pins D) X.xe s4) X.xe { t with heap := g } := by
          rw [hfm]
          refine HandSPX.setFlight_upZ fl fun k hk up4 => wpAny_throw (tk _ _ ?_)
          exact ⟨a, B, sI, pins, σ1, G, cls, d, rfl, J, nb, (up.trans upg).trans up4, .inr (.inr (by rw [hst]; exact hk)), na, os, ag, wi⟩
        first
          | exact wpAny_bind (wpAny_pure (wpAny_bind away))
          | exact wpAny_bind away
      | @bare x c ts s0 sr p p' hs2 l2 hc hb r ih =>
        intro wi
        obtain ⟨b, hb1, yes, no⟩ := wi
        refine wpAny_handleBy_cons (codeAny_handlers_test ?_) (by intro q; cases q)
        refine look hc ((PySem.W.exm_one (M := model X.prog X.w) Jg.kIn kind hb1).here ?_)
        cases b with
        | false => exact ih (no rfl)
        | true =>
          refine codeAny_handlers_suite (HandSPX.lands_againZ fl fun k fl4 up4 => ?_)
          have J4 : Inv X pins σ1 G { t with heap := k } := J.landed nb fl4.1 ((up.trans upg).trans up4) os ag
          obtain ⟨o4, v4, e4, z4, d4⟩ := fl4.there
          refine wpAny_mono ((hb a o4 cls d (X.pn ++ pins) z4 ⟨_, d4⟩).run [] _ _ G _ (J4.suite e4 d4 na out2 out3) (yes rfl a na)) (fun f s6 r6 => ?_) (fun _ _ z => False.elim z)
          cases f with
          | ret u => obtain ⟨v6, σ6, H6, S6, rv, q6⟩ := r6; exact ⟨_, _, _, S6.unsuite okX, rv, q6⟩
          | next => obtain ⟨σ6, H6, S6, q6⟩ := r6; exact ⟨_, _, S6.unsuite okX, q6⟩
          | brk => obtain ⟨σ6, H6, S6, q6⟩ := r6; exact ⟨_, _, S6.unsuite okX, q6⟩
          | cont => obtain ⟨σ6, H6, S6, q6⟩ := r6; exact ⟨_, _, S6.unsuite okX, q6⟩
      | @named x n i c ts s0 sr p p' hs2 l2 hi hl hc hb r ih =>
        intro wi
        obtain ⟨b, hb1, yes, no⟩ := wi
        refine wpAny_handleBy_cons (codeAny_handlers_test ?_) (by intro q; cases q)
        refine look hc ((PySem.W.exm_one (M := model X.prog X.w) Jg.kIn kind hb1).here ?_)
        cases b with
        | false => exact ih (no rfl)
        | true =>
          refine codeAny_handlers_suite_as (HandSPX.lands_againZ fl fun k fl4 up4 => ?_)
          have J4 : Inv X pins σ1 G { t with heap := k } := J.landed nb fl4.1 ((up.trans upg).trans up4) os ag
          obtain ⟨o4, v4, e4, z4, d4⟩ := fl4.there
          refine store_ok (X := X.suite a ((a, o4) :: (X.pn ++ pins))) (v := .ref a) (J4.suite e4 d4 na out2 out3) hND hi (.inl hl) rfl (fun s5 S5 => ?_) (.inr hl)
          refine wpAny_mono ((hb a o4 cls d (X.pn ++ pins) z4 ⟨_, d4⟩).run [] s5 _ G _ S5 (yes rfl a na)) (fun f s6 r6 => ?_) (fun _ _ z => False.elim z)
          have leave : ∀ {σ6 : L2.St} {H6 : Hp} {R : Shared → Prop}, Inv (X.suite a ((a, o4) :: (X.pn ++ pins))) [] σ6 H6 s6 → (∀ s7, Inv X pins (σ6.set i none) H6 s7 → R s7) → wpAny (model X.prog X.w) X.A (do bindName X.env n .none; unbindBehindTheSuite X.env n p') (fun _ s7 => R s7) X.xe s6 :=
            fun {σ6 H6 R} S6 hr => gone_ok (S6.unsuite okX) hND hi hl hr
          cases f with
          | ret u => obtain ⟨v6, σ6, H6, S6, rv, q6⟩ := r6; exact leave S6 fun s7 J7 => ⟨_, _, _, J7, rv, q6⟩
          | next => obtain ⟨σ6, H6, S6, q6⟩ := r6; exact leave S6 fun s7 J7 => ⟨_, _, J7, q6⟩
          | brk => obtain ⟨σ6, H6, S6, q6⟩ := r6; exact leave S6 fun s7 J7 => ⟨_, _, J7, q6⟩
          | cont => obtain ⟨σ6, H6, S6, q6⟩ := r6; exact leave S6 fun s7 J7 => ⟨_, _, J7, q6⟩
    exact each hcl wish
  · cases f with
    | ret u => obtain ⟨v, σ', G', J', rv, q⟩ := done; exact ⟨v, σ', G', J'.ofTry okX, rv, q⟩
    | next => obtain ⟨σ', G', J', q⟩ := done; exact wpAny_execs_nil ⟨σ', G', J'.ofTry okX, q⟩
    | brk => obtain ⟨σ', G', J', q⟩ := done; exact ⟨σ', G', J'.ofTry okX, q⟩
    | cont => obtain ⟨σ', G', J', q⟩ := done; exact ⟨σ', G', J'.ofTry okX, q⟩
end

/-! ### class methods -/
section
open PySem.Spec PyProof.Rows
variable {X : Cx} {CX : CXT} {k i : Nat} {f C p0 g : Addr} {fd : FuncData} {ps : List Str} {sp : Sp} {dvs : List V} {ds : List Value} {E : XK} {x m : Str} {p pos apos : Pos} {e o : Expr} {es : List Expr} {t : TA} {ta : TE} {mc : Value}
def tMakeV (i : Nat) (C : Addr) (sp : Sp) (dvs : List V) (E : XK) (t : TA) : TE := fun σ H Q => σ[i]? = some (some (.ref C)) ∧ tMake C sp dvs E t σ H Q
/-- cls(e, ..) -/
theorem pe_makeV (M : Mk X.K C f) (F : FnOk X.prog X.w X.K X.mg X.base CX k f fd ps sp) (hr : Room (k + 1) X.A) (hN : X.N[i]? = some x) (hv : Vis X.env.scope x) (hb : Binds X.K fd ps ds) (hd : Vals dvs ds) (hx : Passes CX X E) (ha : PA X (e :: es) t)
    (h1 : (x == ("__debug__" : Str)) = false := by decide) (h2 : (x == ("__classdict__" : Str)) = false := by decide) (he : starEach (e :: es) X.env = (false, eval e X.env) :: starEach es X.env := by rfl) (hpl : (backTo pos (starEach es X.env)).any (·.1) = false := by rfl) :
    PE X (.Call (.Name x p) (e :: es) [] pos) (tMakeV i C sp dvs E t) := by
  refine ⟨fun pins s σ H Q I h => ?_⟩
  obtain ⟨hs, h⟩ := h
  refine wpAny_Call_Name_kw (thn ((pe_var (pos := p) (i := i) hN hv h1 h2).run pins s σ H (fun v H1 => v = .ref C ∧ H1 = H) I ⟨.ref C, hs, rfl, rfl⟩) fun u s1 z => ?_)
  obtain ⟨v, H1, I1, r1, ev, eH⟩ := z
  subst ev
  rw [eH] at I1
  cases r1
  refine PySem.W.callWith_K (h₀ := X.base) I.ok.mod.kin M.kp (thn (ha.run pos pins s1 σ H _ I1 h) fun us s2 z => ?_) he hpl
  obtain ⟨vs, H2, I2, r, q⟩ := z
  exact ⟨I2.kIn, run_make M F hr hb hd hx I2 r q⟩
def tCMethS (C : Addr) (sp : Sp) (E : L2.St → XK) (ta : TE) (t : TA) : TE := fun σ H Q => ta σ H fun x H1 => x = .ref C ∧ t σ H1 fun vs H2 => sp (.ref C :: vs) H2 Q (E σ)
/-- C.m(e, ..) within a try -/
theorem pe_cmethS {pl : Sem Bool} {ES : L2.St → XK} (ho : PE X o ta) (r : ClX.CRead X.K C mc) (c : ClX.CMet X.K C mc m p0 g) (F : FnR X.prog X.w X.K X.mg X.base CX k g sp) (hr : Room k X.A) (hx : ∀ σ, PassesAt CX X σ (ES σ)) (ha : PA X (e :: es) t)
    (hst : starEach (e :: es) X.env = (false, eval e X.env) :: starEach es X.env := by rfl) (hpl : (backTo pos (starEach es X.env)).any (·.1) = false := by rfl)
    (ht : eval (.Call (.Attribute o m apos) (e :: es) [] pos) X.env = (do
      let v0 ← eval o X.env
      standAt apos.atName
      let (g0, first0) ← holding [v0] (getMethod v0 m pl)
      callWith pos g0 first0 (backTo pos (starEach (e :: es) X.env)) (backToKw pos (keywordEach [] X.env))) := by rfl) :
    PE X (.Call (.Attribute o m apos) (e :: es) [] pos) (tCMethS C sp ES ta t) := by
  refine ⟨fun pins s σ H Q I h => PySem.W.methodCall_KW (pl := pl) (thn (ho.run pins s σ H _ I h) fun u s1 z => ?_) ht⟩
  obtain ⟨v, H1, I1, rx, ex, q⟩ := z
  subst ex
  obtain rfl : u = Value.ref C := rx
  refine ClX.getmethcm_ok I1 r c fun s2 I2 => ?_
  refine ClX.callwith_cm I2 (ClX.base_none I1 (Nat.le_refl _)) c.fi (thn (ha.run pos _ s2 σ H1 _ I2 q) fun us s3 z => ?_) hst hpl
  obtain ⟨vs, H2, I3, rv, q2⟩ := z
  refine ⟨⟨ClX.pin_at I3, I3.kIn⟩, ?_⟩
  have run : codeAny (model X.prog X.w) X.A (.call (.ref g) ⟨.ref C :: us, []⟩) (fun r s' => match r with | .ok (.ret v) => EP X _ σ Q v s' | .ok _ => False | .error e => X.xe e s') s3 :=
    codeAny_mono (F X.A X.stack s3 H2 (.ref C :: us) (.ref C :: vs) Q (ES σ) hr I3.env0 (.cons rfl rv) q2) fun r4 s4 hq => by
      cases r4 with
      | error e => exact hx σ _ H2 s3 e s4 I3 hq
      | ok fl => cases fl with
        | ret u => exact I3.after hq
        | next => exact hq.elim
        | brk => exact hq.elim
        | cont => exact hq.elim
  exact thn (wpAny_call (PySem.W.method_call (ClX.pin_at I3) run)) fun _ _ y => ClX.unpinE y
end

/-! ### an object made within a try -/
section
open PySem.Spec PyProof.Rows
variable {X : Cx} {CX : CXT} {k : Nat} {f C : Addr} {fd : FuncData} {ps : List Str} {sp : Sp} {dvs : List V} {ds : List Value} {E : L2.St → XK} {x : Str} {p pos : Pos} {e : Expr} {es : List Expr} {t : TA}
def tMakeS (C : Addr) (sp : Sp) (dvs : List V) (E : L2.St → XK) (t : TA) : TE := fun σ H Q => t σ H fun vs H1 => ∀ x dx, H1 x = none → H1 dx = none → dx ≠ x →
  sp (.ref x :: (vs ++ dvs)) (upd (upd H1 dx (.own x)) x (.ins C dx [])) (fun v H2 => v = .non ∧ Q (.ref x) H2) (E σ)
theorem pe_makeS (M : Mk X.K C f) (F : FnOk X.prog X.w X.K X.mg X.base CX k f fd ps sp) (hr : Room (k + 1) X.A) (hg : Gl X x) (hm : X.mg x = some (.ref C)) (hb : Binds X.K fd ps ds) (hd : Vals dvs ds) (hx : ∀ σ, PassesAt CX X σ (E σ))
    (ha : PA X (e :: es) t) (hdb : (x == ("__debug__" : Str)) = false := by decide) (he : starEach (e :: es) X.env = (false, eval e X.env) :: starEach es X.env := by rfl) (hpl : (backTo pos (starEach es X.env)).any (·.1) = false := by rfl) :
    PE X (.Call (.Name x p) (e :: es) [] pos) (tMakeS C sp dvs E t) := by
  refine ⟨fun pins s σ H Q I h => wpAny_Call_Name_kw (ld_glob I hg hm ?_ hdb)⟩
  refine PySem.W.callWith_K (h₀ := X.base) I.ok.mod.kin M.kp (thn (ha.run pos pins s σ H _ I h) fun us s1 hu => ?_) he hpl
  obtain ⟨vs, H1, J, r, q⟩ := hu
  refine ⟨J.kIn, ?_⟩
  have hq := q (s1.heap.objs.size + 1) s1.heap.objs.size (J.hok.fresh (Nat.le_succ _)) (J.hok.fresh (Nat.le_refl _)) (Nat.ne_of_lt (Nat.lt_succ_self _))
  have J2 := Inv.made (C := C) J
  have r2 : Vals (V.ref (s1.heap.objs.size + 1) :: (vs ++ dvs)) (Value.ref (s1.heap.objs.size + 1) :: (us ++ ds)) := .cons rfl (r.append hd)
  have hl : (Value.ref (s1.heap.objs.size + 1) :: us ++ ds).length = ps.length := by
    have e0 := r2.length
    rw [F.len _ _ _ _ hq] at e0
    exact e0.symm
  have go := F.run _ X.stack _ _ ⟨Value.ref (s1.heap.objs.size + 1) :: us, []⟩ (Value.ref (s1.heap.objs.size + 1) :: (us ++ ds)) _ _ (E σ) (hr.make C us []) (J2.env0.make C us []) (hb _ (Value.ref (s1.heap.objs.size + 1) :: us) J2.kIn hl) r2 hq
  refine wpAny_call (make_map (f := f) J.kIn M.makes M.init (beq_iff_eq.mp M.fn) (codeAny_mono go fun r3 s3 hq3 => ?_))
  cases r3 with
  | error e => exact hx σ pins _ _ e s3 J2 hq3
  | ok fl => cases fl with
    | ret u =>
      obtain ⟨v, H3, J3, rv, ev, q3⟩ := J2.after hq3
      subst ev
      exact ⟨rv, ⟨V.ref (s1.heap.objs.size + 1), H3, J3, rfl, q3⟩⟩
    | next => exact hq3.elim
    | brk => exact hq3.elim
    | cont => exact hq3.elim
end

/-! ### letters and words -/
def LET : Str := "abcdefghijklmnopqrstuvwxyz"
theorem let_list : LET.cps.toList = (List.range 26).map fun c => 97 + c := by decide +kernel
theorem mem_let {c : Nat} : c ∈ LET.cps.toList ↔ 97 ≤ c ∧ c ≤ 122 := by
  rw [let_list]
  constructor
  · intro h
    obtain ⟨i, hi, rfl⟩ := List.mem_map.mp h
    have := List.mem_range.mp hi
    omega
  · rintro ⟨h0, h1⟩
    exact List.mem_map.mpr ⟨c - 97, List.mem_range.mpr (by omega), by omega⟩
theorem let_at {i : Int} (h : 0 ≤ i ∧ i < 26) : atI LET.cps.toList i = some (97 + i.toNat) := by
  have h2 := atI_nat (xs := LET.cps.toList) (j := i.toNat) (v := 97 + i.toNat) (by rw [let_list, List.getElem?_map, List.getElem?_range (by omega)]; rfl)
  rwa [Int.toNat_of_nonneg h.1] at h2
theorem let_occ {c : Nat} (h : 97 ≤ c ∧ c ≤ 122) : Builtin.Str.occurrences LET ⟨#[c]⟩ 0 LET.length 1 = [c - 97] := by
  have e : ∀ i : Nat, i < 26 → Builtin.Str.occurrences LET ⟨#[97 + i]⟩ 0 LET.length 1 = [i] := by decide +kernel
  have := e (c - 97) (by omega)
  rwa [show 97 + (c - 97) = c by omega] at this
/-- a text by its signs -/
def txt (l : List Nat) : Str := ⟨l.toArray⟩
theorem txt_list (l : List Nat) : (txt l).cps.toList = l := rfl
theorem txt_len (l : List Nat) : (txt l).length = l.length := by simp [txt, Str.length]
theorem txt_of (z : Str) : txt z.cps.toList = z := by cases z; simp [txt]
theorem txt_inj {a b : List Nat} (h : txt a = txt b) : a = b := by
  have := congrArg (fun z : Str => z.cps.toList) h
  simpa [txt] using this
theorem txt_add (a b : List Nat) : txt a ++ txt b = txt (a ++ b) := by
  show (⟨_ ++ _⟩ : Str) = _
  simp [txt]
theorem txt_one (c : Nat) : (⟨#[c]⟩ : Str) = txt [c] := rfl
/-- 1 to 8 letters -/
structure Word (z : Str) : Prop where
  len : 1 ≤ z.length ∧ z.length ≤ 8
  all : ∀ c ∈ z.cps.toList, 97 ≤ c ∧ c ≤ 122
theorem cut_last {l : List Nat} : cutS (txt l) none (some (-1)) = txt l.dropLast := by
  unfold cutS
  rw [HT.sIx_none, txt_len, txt_list, List.drop_zero, Nat.sub_zero, List.dropLast_eq_take]
  show txt _ = txt _
  congr 2
  show (if (-1 : Int) < 0 then ((-1 : Int) + (l.length : Int)).toNat else min (-1 : Int).toNat l.length) = _
  rw [if_pos (by decide)]
  omega
/-- one letter on, at the end -/
def bump (p : List Nat) (c i : Nat) : Str := txt (p ++ [97 + (c + i) % 26])
theorem bump_inj {p : List Nat} {c i j : Nat} (hi : i < 26) (hj : j < 26) (h : bump p c i = bump p c j) : i = j := by
  have e := List.append_inj_right' (txt_inj h) rfl
  simp at e
  omega
theorem word_split {z : Str} (h : Word z) : ∃ (p : List Nat) (c : Nat), c < 26 ∧ p.length ≤ 7 ∧ (∀ d ∈ p, 97 ≤ d ∧ d ≤ 122) ∧ z = bump p c 0 := by
  obtain ⟨⟨h1, h2⟩, ha⟩ := h
  have hl : z.cps.toList.length = z.length := by simp [Str.length]
  have hne : z.cps.toList ≠ [] := fun e => by rw [e] at hl; simp at hl; omega
  have hm := ha _ (List.getLast_mem hne)
  have hs := List.dropLast_concat_getLast hne
  refine ⟨z.cps.toList.dropLast, z.cps.toList.getLast hne - 97, by omega, by rw [List.length_dropLast]; omega, fun d hd => ha d (List.dropLast_subset _ hd), ?_⟩
  unfold bump
  rw [show 97 + (z.cps.toList.getLast hne - 97 + 0) % 26 = z.cps.toList.getLast hne by omega, hs, txt_of]
theorem bump_word {p : List Nat} {c i : Nat} (hp : p.length ≤ 7) (ha : ∀ d ∈ p, 97 ≤ d ∧ d ≤ 122) : Word (bump p c i) := by
  refine ⟨?_, fun d hd => ?_⟩
  · unfold bump
    rw [txt_len, List.length_append]
    simp
    omega
  · unfold bump at hd
    rw [txt_list] at hd
    rcases List.mem_append.mp hd with h | h
    · exact ha d h
    · have := List.mem_singleton.mp h
      omega
theorem bump_next {p : List Nat} {c i : Nat} : txt p ++ (⟨#[97 + ((97 + (c + i) % 26) - 97 + 1) % 26]⟩ : Str) = bump p c (i + 1) := by
  rw [txt_one, txt_add]
  unfold bump
  congr 3
  omega
theorem nodup_sub {α : Type} [DecidableEq α] : ∀ {l m : List α}, l.Nodup → (∀ x ∈ l, x ∈ m) → l.length ≤ m.length
  | [], _, _, _ => Nat.zero_le _
  | x :: l, m, hd, hs => by
    have h := List.nodup_cons.mp hd
    have hx := hs x List.mem_cons_self
    have ih := nodup_sub (m := m.erase x) h.2 fun y hy => (List.mem_erase_of_ne fun e => h.1 (by rw [← e]; exact hy)).mpr (hs y (List.mem_cons_of_mem _ hy))
    rw [List.length_erase_of_mem hx] at ih
    have := List.length_pos_of_mem hx
    rw [List.length_cons]
    omega
theorem bumps_out {p : List Nat} {c : Nat} {ns : List Str} (hn : ns.length ≤ 7) (h : ∀ s : Nat, s < 8 → bump p c s ∈ ns) : False := by
  have hd : ((List.range 8).map (bump p c)).Nodup := by
    refine List.pairwise_map.mpr (List.Pairwise.imp_of_mem (fun {i j} hi hj hne e => hne (bump_inj (by have := List.mem_range.mp hi; omega) (by have := List.mem_range.mp hj; omega) e)) List.nodup_range)
  have := nodup_sub hd (m := ns) fun x hx => by
    obtain ⟨i, hi, rfl⟩ := List.mem_map.mp hx
    exact h i (List.mem_range.mp hi)
  rw [List.length_map, List.length_range] at this
  omega
theorem inV_strs {x : Str} {ns : List Str} : inV (V.str x) (ns.map V.str) = decide (x ∈ ns) := by
  unfold inV
  induction ns with
  | nil => rfl
  | cons y ns ih =>
    rw [List.map_cons, List.any_cons, ih]
    by_cases h : y = x
    · subst h
      simp [eqV]
    · have h' : ¬ x = y := fun z => h z.symm
      simp [eqV, h, h']
theorem strs_flat (ns : List Str) : (ns.map V.str).all flatV = true := by
  rw [List.all_map, List.all_eq_true]
  exact fun _ _ => rfl
theorem some_str {ns : List Str} {i : Nat} {y : V} (h : (ns.map V.str)[i]? = some y) : ∃ u, y = V.str u ∧ ns[i]? = some u := by
  rw [List.getElem?_map] at h
  cases e : ns[i]? with
  | none => rw [e] at h; cases h
  | some u => rw [e] at h; exact ⟨u, (Option.some.inj h).symm, rfl⟩
/-! ### terms on texts -/
theorem rv_addS {H : Hp} {x y : Str} (h : x.length + y.length ≤ 100000) : RV (fun x y H Q => ∃ i j, x = .str i ∧ y = .str j ∧ i.length + j.length ≤ sizeLine ∧ Q (.str (i ++ j)) H) (.str x) (.str y) H (.str (x ++ y)) := fun H1 _ Q q => ⟨x, y, rfl, rfl, sz_of h, q H1 (Ex.refl H1)⟩
theorem ev_slS {te : TE} {tl th : TO} {σ : L2.St} {H : Hp} {z : Str} {lo hi : Option Int} (h : Ev te σ H (.str z)) (h1 : EvO tl σ H lo) (h2 : EvO th σ H hi) (hz : z.length ≤ 100000) : Ev (L2.tSl rSlS te tl th) σ H (.str (cutS z lo hi)) := fun H1 e Q q =>
  h H1 e _ fun H2 e2 => h1 H2 (e.trans e2) _ fun H3 e3 => h2 H3 ((e.trans e2).trans e3) _ fun H4 e4 => ⟨z, rfl, sz_of hz, q H4 ((e2.trans e3).trans e4)⟩
theorem ev_letIx {to te : TE} {σ : L2.St} {H : Hp} {c : Nat} (ho : Ev to σ H (.str LET)) (he : Ev te σ H (.str ⟨#[c]⟩)) (hc : 97 ≤ c ∧ c ≤ 122) : Ev (tM1 (fun x xs H Q => ∃ a b i rest, x = .str a ∧ xs = [.str b] ∧ Builtin.Str.occurrences a b 0 a.length 1 = i :: rest ∧ Q (.int (i : Nat)) H) to te) σ H (.int ((c - 97 : Nat) : Int)) := fun H1 e Q q =>
  ho H1 e _ fun H2 e2 => ⟨⟨_, rfl⟩, he H2 (e.trans e2) _ fun H3 e3 => ⟨LET, _, c - 97, [], rfl, rfl, let_occ hc, q H3 (e2.trans e3)⟩⟩
theorem ei_str {σ : L2.St} {H : Hp} {te : TE} {z : Str} (h : Ev te σ H (.str z)) : EvI (iStr te) σ H z.cps.size (fun i G v G' => G' = G ∧ ∃ c, z.cps[i]? = some c ∧ v = .str ⟨#[c]⟩) := fun H1 e R r => h H1 e _ fun H2 e2 =>
  ⟨z, rfl, r _ _ e2 (walk_str.mono (fun _ _ => True.intro) fun _ _ _ _ _ _ y => y)⟩
theorem rv_niS {H : Hp} {c : Nat} {z : Str} : RV (fun x y H Q => ∃ (c : Nat) (z : Str), x = .str ⟨#[c]⟩ ∧ y = .str z ∧ Q (.bl (!decide (c ∈ z.cps.toList))) H) (.str ⟨#[c]⟩) (.str z) H (.bl (!decide (c ∈ z.cps.toList))) := fun H1 _ Q q => ⟨c, z, rfl, rfl, q H1 (Ex.refl H1)⟩
theorem ev_lenS {K : PySem.W.Frag} {te : TE} {σ : L2.St} {H : Hp} {z : Str} (h : Ev te σ H (.str z)) (hz : z.length ≤ 100000) : Ev (tCB (rLenK K) (tCons te tNil)) σ H (.int (z.length : Int)) := ev_cb (ea_cons h ea_nil) fun H2 e2 Q q => ⟨.str z, z.length, rfl, ⟨sz_of hz, rfl⟩, q H2 (Ex.refl H2)⟩

/-! ### houses -/
theorem in_getD {α : Type} {xs : List α} {i : Nat} {d : α} (h : i < xs.length) : xs.getD i d ∈ xs := by
  rw [List.getD_eq_getElem?_getD, List.getElem?_eq_getElem h]
  exact List.getElem_mem _
def houF (n : Int) (p q : Addr) : List (Str × V) := [("hours", .int n), ("names", .ref p), ("stakes", .ref q)]
/-- v is a house of these hours and gates -/
def HouseIs (C : Addr) (v : V) (H : Hp) (n : Int) (gs : List (Str × Int)) : Prop := ∃ a dx p q, v = .ref a ∧ H a = some (.ins C dx (houF n p q)) ∧ H p = some (.tup ((gs.map (·.1)).map V.str)) ∧ H q = some (.tup ((gs.map (·.2)).map V.int))
theorem HouseIs.ex {C : Addr} {v : V} {H H' : Hp} {n : Int} {gs : List (Str × Int)} (e : Ex H H') (h : HouseIs C v H n gs) : HouseIs C v H' n gs := by
  obtain ⟨a, dx, p, q, rfl, h1, h2, h3⟩ := h
  exact ⟨a, dx, p, q, rfl, e _ _ h1, e _ _ h2, e _ _ h3⟩
/-- a list of pairs of a name and a stake -/
structure Gates (K : PySem.W.Frag) (H : Hp) (p : Addr) (gs : List (Str × Int)) : Prop where
  all : ∃ vs : List V, SqL K H p vs ∧ vs.length = gs.length ∧ ∀ (i : Nat) v, vs[i]? = some v → ∃ t, v = .ref t ∧ ∀ g, gs[i]? = some g → SqT K H t [.str g.1, .int g.2]
theorem Gates.ex {K : PySem.W.Frag} {H H' : Hp} {p : Addr} {gs : List (Str × Int)} (e : Ex H H') (h : Gates K H p gs) : Gates K H' p gs := by
  obtain ⟨vs, h1, h2, h3⟩ := h.all
  exact ⟨vs, ex_l e h1, h2, fun i v hv => (h3 i v hv).imp fun t h => ⟨h.1, fun g hg => ex_t e (h.2 g hg)⟩⟩
def goodName (z : Str) : Bool := decide (1 ≤ z.length ∧ z.length ≤ 8) && z.cps.toList.all fun c => decide (c ∈ LET.cps.toList)
theorem word_good {z : Str} (h : Word z) : goodName z = true := by
  unfold goodName
  rw [Bool.and_eq_true, decide_eq_true_iff, List.all_eq_true]
  exact ⟨h.len, fun c hc => decide_eq_true (mem_let.mpr (h.all c hc))⟩
inductive HErr where
  | hours
  | noGates
  | manyGates
  | name (z : Str)
  | again (z : Str)
  | stake (s : Int)
  | cells
/-- the first fault of the gates -/
def scanG : List Str → List (Str × Int) → Option HErr
  | _, [] => none
  | seen, g :: r => if goodName g.1 = false then some (.name g.1) else if g.1 ∈ seen then some (.again g.1) else if g.2 < 0 ∨ 60 < g.2 then some (.stake g.2) else scanG (seen ++ [g.1]) r
def houseErr (n : Int) (gs : List (Str × Int)) : Option HErr := if n < 1 ∨ 24 < n then some .hours else if gs.length = 0 then some .noGates else if 4 < gs.length then some .manyGates else
  match scanG [] gs with
  | some e => some e
  | none => if 48 < n * (gs.length : Int) then some .cells else none
theorem scan_good : ∀ {gs : List (Str × Int)} {seen : List Str}, (∀ g ∈ gs, Word g.1 ∧ 0 ≤ g.2 ∧ g.2 ≤ 60) → (seen ++ gs.map (·.1)).Nodup → scanG seen gs = none
  | [], _, _, _ => rfl
  | g :: gs, seen, h, hd => by
    have hg := h g List.mem_cons_self
    unfold scanG
    rw [List.map_cons] at hd
    have hn : g.1 ∉ seen := fun hm => (List.nodup_append.mp hd).2.2 _ hm _ List.mem_cons_self rfl
    rw [if_neg (by rw [word_good hg.1]; simp), if_neg hn, if_neg (by omega)]
    refine scan_good (fun x hx => h x (List.mem_cons_of_mem _ hx)) ?_
    rw [List.append_assoc]
    exact hd
theorem house_good {n : Int} {gs : List (Str × Int)} (hn : 1 ≤ n ∧ n ≤ 24) (hl : 1 ≤ gs.length ∧ gs.length ≤ 4) (hg : ∀ g ∈ gs, Word g.1 ∧ 0 ≤ g.2 ∧ g.2 ≤ 60) (hd : (gs.map (·.1)).Nodup) (hc : n * (gs.length : Int) ≤ 48) : houseErr n gs = none := by
  unfold houseErr
  rw [if_neg (by omega), if_neg (by omega), if_neg (by omega), scan_good hg (by simpa using hd)]
  exact if_neg (by omega)

/-! ### spreads of tries -/
abbrev T3 := Int × Int × Int
structure TripT (K : PySem.W.Frag) (H : Hp) (p : Addr) (ts : List T3) : Prop where
  all : ∃ vs : List V, SqT K H p vs ∧ vs.length = ts.length ∧ ∀ (i : Nat) v, vs[i]? = some v → ∃ t, v = .ref t ∧ ∀ x, ts[i]? = some x → SqT K H t [.int x.1, .int x.2.1, .int x.2.2]
theorem TripT.ex {K : PySem.W.Frag} {H H' : Hp} {p : Addr} {ts : List T3} (e : Ex H H') (h : TripT K H p ts) : TripT K H' p ts := by
  obtain ⟨vs, h1, h2, h3⟩ := h.all
  exact ⟨vs, ex_t e h1, h2, fun i v hv => (h3 i v hv).imp fun t h => ⟨h.1, fun g hg => ex_t e (h.2 g hg)⟩⟩
def inHouse (n : Int) (m : Nat) (g h : Int) : Bool := decide ((0 ≤ g ∧ g < (m : Int)) ∧ 0 ≤ h ∧ h < n)
def lexLe (a b c d : Int) : Bool := decide (a < c ∨ (a = c ∧ b ≤ d))
/-- the index of the first wrong triple -/
def firstW (n : Int) (m : Nat) : Nat → Int → Int → List T3 → Option Nat
  | _, _, _, [] => none
  | k, b, c, t :: r => if (!inHouse n m t.1 t.2.1 || decide (t.2.2 < 1) || lexLe t.1 t.2.1 b c) = true then some k else firstW n m (k + 1) t.1 t.2.1 r
inductive TRes where
  | wrong (k : Nat)
  | many
  | ok (z : Int)
def triesRes (n : Int) (m : Nat) (ts : List T3) : TRes := match firstW n m 0 (-1) (-1) ts with
  | some k => .wrong k
  | none => if 6 < (ts.map (·.2.2)).sum then .many else .ok (ts.map (·.2.2)).sum
theorem lex_data {a b c d : Int} : (!PySem.W.dataLt (.tuple [.int c, .int d]) (.tuple [.int a, .int b])) = lexLe a b c d := by
  have h : PySem.W.dataLt (.tuple [.int c, .int d]) (.tuple [.int a, .int b]) = decide ([c, d] < [a, b]) := by
    rw [PySem.W.dataLt_tuple]
    exact PySem.W.dataLt_ints [c, d] [a, b]
  rw [h]
  unfold lexLe
  rw [← decide_not, decide_eq_decide, List.cons_lt_cons_iff, List.cons_lt_cons_iff]
  simp
  omega

theorem sl_listK {X : Cx} {K : PySem.W.Frag} (h : X.K = K := by rfl) : SlR X (rSlL K) := by subst h; exact sl_list
/-! ### rows of triples -/
def triV (t : T3) : List V := [.int t.1, .int t.2.1, .int t.2.2]
def RowL (K : PySem.W.Frag) (H : Hp) (p : Addr) (rs : List (Addr × T3)) : Prop := SqL K H p (rs.map fun r => V.ref r.1) ∧ ∀ r ∈ rs, SqT K H r.1 (triV r.2)
def RowT (K : PySem.W.Frag) (H : Hp) (p : Addr) (rs : List (Addr × T3)) : Prop := SqT K H p (rs.map fun r => V.ref r.1) ∧ ∀ r ∈ rs, SqT K H r.1 (triV r.2)
theorem RowL.ex {K : PySem.W.Frag} {H H' : Hp} {p : Addr} {rs : List (Addr × T3)} (e : Ex H H') (h : RowL K H p rs) : RowL K H' p rs := ⟨ex_l e h.1, fun r hr => ex_t e (h.2 r hr)⟩
theorem RowT.ex {K : PySem.W.Frag} {H H' : Hp} {p : Addr} {rs : List (Addr × T3)} (e : Ex H H') (h : RowT K H p rs) : RowT K H' p rs := ⟨ex_t e h.1, fun r hr => ex_t e (h.2 r hr)⟩
theorem RowT.trip {K : PySem.W.Frag} {H : Hp} {p : Addr} {rs : List (Addr × T3)} (h : RowT K H p rs) : TripT K H p (rs.map (·.2)) := by
  refine ⟨_, h.1, by simp, fun i v hv => ?_⟩
  rw [List.getElem?_map] at hv
  cases e : rs[i]? with
  | none => rw [e] at hv; cases hv
  | some r =>
    rw [e] at hv
    cases hv
    refine ⟨r.1, rfl, fun x hx => ?_⟩
    rw [List.getElem?_map, e] at hx
    cases hx
    exact h.2 r (List.mem_of_getElem? e)
theorem row_at {rs : List (Addr × T3)} {i : Nat} {r : Addr × T3} (h : rs[i]? = some r) : atI (rs.map fun r => V.ref r.1) (i : Int) = some (.ref r.1) := atI_nat (by rw [List.getElem?_map, h]; rfl)
def isWrong (m n : Int) (ts : List T3) (k : Nat) : Bool :=
  let t := ts.getD k (0, 0, 0)
  let u := ts.getD (k - 1) (0, 0, 0)
  (decide (t.1 < 0) || (decide (m ≤ t.1) || (decide (t.2.1 < 0) || (decide (n ≤ t.2.1) || decide (t.2.2 < 1))))) || (decide ((0 : Int) < (k : Int)) && decide (t.1 * n + t.2.1 ≤ u.1 * n + u.2.1))
def dueD (n : Int) (m : Nat) (ts : List T3) : PyData := match triesRes n m ts with
  | .wrong k => .tuple [.str "BadSpread", .int (k : Int), .bool true, .bool false]
  | .many => .tuple [.str "TooMany", .str "tries", .int 6, .bool true, .bool false]
  | .ok z => .tuple [.str "number", .int z]
theorem lex_lin {n a b c d : Int} (h1 : 0 ≤ b ∧ b < n) (h2 : 0 ≤ d ∧ d < n) : lexLe a b c d = decide (a * n + b ≤ c * n + d) := by
  unfold lexLe
  rw [decide_eq_decide]
  constructor
  · rintro (h | ⟨rfl, h⟩)
    · have : (a + 1) * n ≤ c * n := Int.mul_le_mul_of_nonneg_right (by omega) (by omega)
      rw [Int.add_mul] at this
      omega
    · omega
  · intro h
    rcases Int.lt_trichotomy a c with h' | rfl | h'
    · exact .inl h'
    · exact .inr ⟨rfl, by omega⟩
    · have : (c + 1) * n ≤ a * n := Int.mul_le_mul_of_nonneg_right (by omega) (by omega)
      rw [Int.add_mul] at this
      omega
theorem first_find {n : Int} {m : Nat} {ts : List T3} : ∀ (j k : Nat) (b c : Int), k + j = ts.length → (k = 0 → b = -1 ∧ c = -1) → (0 < k → ∃ z, ts[k - 1]? = some (b, c, z) ∧ 0 ≤ b ∧ 0 ≤ c ∧ c < n) →
    firstW n m k b c (ts.drop k) = (List.range' k j).find? (isWrong m n ts)
  | 0, k, b, c, hk, _, _ => by rw [List.drop_of_length_le (by omega)]; rfl
  | j + 1, k, b, c, hk, h0, h1 => by
    have hi : k < ts.length := by omega
    have e1 : ts[k]? = some ts[k] := List.getElem?_eq_getElem hi
    rw [List.drop_eq_getElem_cons hi, List.range'_succ, List.find?_cons]
    generalize ts[k] = t at *
    obtain ⟨g, h, z⟩ := t
    have gd : ts.getD k (0, 0, 0) = (g, h, z) := by rw [List.getD_eq_getElem?_getD, e1]; rfl
    have key : (!inHouse n m g h || decide (z < 1) || lexLe g h b c) = isWrong m n ts k := by
      unfold isWrong
      rw [gd]
      dsimp only
      by_cases hv : inHouse n m g h = true
      · have hv' : (0 ≤ g ∧ g < (m : Int)) ∧ 0 ≤ h ∧ h < n := of_decide_eq_true hv
        rw [hv, decide_eq_false (by omega : ¬ g < 0), decide_eq_false (by omega : ¬ (m : Int) ≤ g), decide_eq_false (by omega : ¬ h < 0), decide_eq_false (by omega : ¬ n ≤ h)]
        by_cases hk0 : k = 0
        · obtain ⟨rfl, rfl⟩ := h0 hk0
          subst hk0
          have : lexLe g h (-1) (-1) = false := by
            unfold lexLe
            exact decide_eq_false (by omega)
          rw [this]
          simp
        · obtain ⟨z', hz', hb⟩ := h1 (by omega)
          have gd' : ts.getD (k - 1) (0, 0, 0) = (b, c, z') := by rw [List.getD_eq_getElem?_getD, hz']; rfl
          rw [gd', lex_lin hv'.2 hb.2, decide_eq_true (by omega : (0 : Int) < (k : Int))]
          simp
      · have hv' : ¬ ((0 ≤ g ∧ g < (m : Int)) ∧ 0 ≤ h ∧ h < n) := fun z => hv (decide_eq_true z)
        have : (decide (g < 0) || (decide ((m : Int) ≤ g) || (decide (h < 0) || (decide (n ≤ h) || decide (z < 1))))) = true := by
          simp only [Bool.or_eq_true, decide_eq_true_iff]
          omega
        rw [this, Bool.eq_false_iff.mpr hv]
        simp
    cases hw : isWrong m n ts k with
    | true => exact if_pos (by rw [key, hw])
    | false =>
      refine (if_neg (by rw [key, hw]; simp)).trans ?_
      have hv : inHouse n m g h = true := by
        rw [hw] at key
        cases hh : inHouse n m g h with
        | true => rfl
        | false => rw [hh] at key; simp at key
      have hv' : (0 ≤ g ∧ g < (m : Int)) ∧ 0 ≤ h ∧ h < n := of_decide_eq_true hv
      exact first_find j (k + 1) g h (by omega) (by omega) fun _ => ⟨z, by rw [Nat.add_sub_cancel]; exact e1, hv'.1.1, hv'.2.1, hv'.2.2⟩
theorem first_eq {n : Int} {m : Nat} {ts : List T3} : firstW n m 0 (-1) (-1) ts = (List.range ts.length).find? (isWrong m n ts) := by
  rw [List.range_eq_range']
  exact first_find ts.length 0 (-1) (-1) (by omega) (fun _ => ⟨rfl, rfl⟩) (fun h => absurd h (by omega))
theorem pick_head {n : Nat} {f : Nat → Bool} : (pick n f fun i => (i : Int)).head? = ((List.range n).find? f).map (fun i : Nat => (i : Int)) := by
  unfold pick
  rw [List.head?_map, List.head?_filter]

theorem sqT_mut {K : PySem.W.Frag} {H : Hp} {l t : Addr} {o : HO} {xs ys : List V} (hl : H l = some (.lst ys)) (h : SqT K H t xs) : SqT K (upd H l o) t xs := by
  have ne : ∀ {z : HO}, H t = some z → (∀ ys, z ≠ .lst ys) → t ≠ l := fun hz hn e => by
    rw [e, hl] at hz
    exact hn _ (Option.some.inj hz).symm
  rcases h with (h | ⟨o', h⟩) | h
  · exact .inl (.inl (by rw [upd_ne (ne h fun _ z => by cases z)]; exact h))
  · exact .inl (.inr ⟨o', by rw [upd_ne (ne h fun _ z => by cases z)]; exact h⟩)
  · exact .inr h
theorem inV_ints' {i : Int} {xs : List Int} : inV (V.int i) (xs.map V.int) = decide (i ∈ xs) := by
  unfold inV
  induction xs with
  | nil => rfl
  | cons y ns ih =>
    rw [List.map_cons, List.any_cons, ih]
    by_cases h : y = i
    · subst h
      simp [eqV]
    · have h' : ¬ i = y := fun z => h z.symm
      simp [eqV, h, h']
theorem ints_flat' (ns : List Int) : (ns.map V.int).all flatV = true := by
  rw [List.all_map, List.all_eq_true]
  exact fun _ _ => rfl
theorem cut_map {α : Type} (f : α → V) (l : List α) (lo hi : Option Int) : ∃ l' : List α, cutV (l.map f) lo hi = l'.map f ∧ (∀ x ∈ l', x ∈ l) ∧ l'.length ≤ l.length := by
  refine ⟨(l.drop (HT.sIx l.length 0 lo)).take (HT.sIx l.length l.length hi - HT.sIx l.length 0 lo), ?_, fun x hx => List.mem_of_mem_drop (List.mem_of_mem_take hx), ?_⟩
  · unfold cutV
    rw [List.length_map, List.map_take, List.map_drop]
  · rw [List.length_take, List.length_drop]
    omega
theorem cut_mapN {α : Type} (f : α → V) (l : List α) {lo hi : Int} (h0 : 0 ≤ lo) (h1 : 0 ≤ hi) : ∃ l' : List α, cutV (l.map f) (some lo) (some hi) = l'.map f ∧ (∀ x ∈ l', x ∈ l) ∧ (l'.length : Int) ≤ max 0 (hi - lo) := by
  refine ⟨(l.drop (HT.sIx l.length 0 (some lo))).take (HT.sIx l.length l.length (some hi) - HT.sIx l.length 0 (some lo)), ?_, fun x hx => List.mem_of_mem_drop (List.mem_of_mem_take hx), ?_⟩
  · unfold cutV
    rw [List.length_map, List.map_take, List.map_drop]
  · obtain ⟨a, rfl⟩ := Int.eq_ofNat_of_zero_le h0
    obtain ⟨b, rfl⟩ := Int.eq_ofNat_of_zero_le h1
    rw [List.length_take, List.length_drop, HT.sIx_nat, HT.sIx_nat]
    omega
theorem q_unp3 {K : PySem.W.Frag} {te : TE} {tz : TS} {D : Ends} {σ : L2.St} {H : Hp} {i j l n : Nat} {t : Addr} {x y z : V} (h : Ev te σ H (.ref t)) (ht : SqT K H t [x, y, z]) (k : ∀ H1, Ex H H1 → tz D (((σ.set i (some x)).set j (some y)).set l (some z)) H1) (hn : n = 3 := by rfl) :
    tSeq (tAsg te (gTup K n (gCons (gName i) (gCons (gName j) (gCons (gName l) gNil))))) tz D σ H := by
  subst hn
  exact h H (Ex.refl H) _ fun H1 e => ⟨t, _, rfl, ex_t e ht, rfl, x, _, rfl, y, _, rfl, z, _, rfl, rfl, k H1 e⟩
theorem s_setU {te ta tb : TE} {D : Ends} {σ : L2.St} {H : Hp} {l : Addr} {xs ys : List V} {k : Int} {j : Nat} (hl : H l = some (.lst xs)) (h : EvU te σ H ys) (ho : Ev ta σ H (.ref l)) (hi : Ev tb σ H (.int k)) (hj : ixN xs.length k = some j)
    (kk : ∀ p H1, H p = none → Ex H H1 → H1 p = some (.tup ys) → D.nx σ (upd H1 l (.lst (xs.set j (.ref p))))) : tAsg te (gSub ta tb rSetL) D σ H := h H (Ex.refl H) _ fun p H1 hp e1 h1 => ho H1 e1 _ fun H2 e2 => hi H2 (e1.trans e2) _ fun H3 e3 =>
  ⟨l, xs, k, j, rfl, rfl, ((e1.trans e2).trans e3) l _ hl, hj, kk p H3 hp ((e1.trans e2).trans e3) ((e2.trans e3) _ _ h1)⟩
theorem ixN_last {n : Nat} (h : 0 < n) : ixN n (-1) = some (n - 1) := by
  unfold ixN
  rw [if_neg (by omega), if_pos (by omega)]
  congr 1
  omega
theorem el_copy {K : PySem.W.Frag} {te : TE} {σ : L2.St} {H : Hp} {p : Addr} {xs : List V} (h : Ev te σ H (.ref p)) (hp : SqL K H p xs) : EvL (tCB (rListK K) (tCons te tNil)) σ H xs := fun H1 e Q q =>
  h H1 e _ fun H2 e2 => ⟨p, xs, rfl, .inl (ex_l (e.trans e2) hp), fun l hl => q l _ (fresh_back e2 hl) (e2.trans (Ex.new hl)) upd_same⟩
/-- a new row, its triples left open -/
def IsTri (K : PySem.W.Frag) (v : V) (H : Hp) : Prop := ∃ r : Addr × T3, v = .ref r.1 ∧ SqT K H r.1 (triV r.2)
def IsRow (K : PySem.W.Frag) (lo hi : Nat) (v : V) (H : Hp) : Prop := ∃ (p : Addr) (rs : List (Addr × T3)), v = .ref p ∧ (lo ≤ rs.length ∧ rs.length ≤ hi) ∧ H p = some (.lst (rs.map fun r => V.ref r.1)) ∧ ∀ r ∈ rs, SqT K H r.1 (triV r.2)
def Tris (K : PySem.W.Frag) (n : Nat) (vs : List V) (H : Hp) : Prop := ∃ rs : List (Addr × T3), vs = rs.map (fun r => V.ref r.1) ∧ rs.length = n ∧ ∀ r ∈ rs, SqT K H r.1 (triV r.2)
def EvAR (ta : TA) (σ : L2.St) (H : Hp) (P : List V → Hp → Prop) : Prop := ∀ H1, Ex H H1 → ∀ Q : List V → Hp → Prop, (∀ vs H2, Ex H1 H2 → P vs H2 → Q vs H2) → ta σ H1 Q
theorem at_nil {K : PySem.W.Frag} {σ : L2.St} {H : Hp} : EvAR tNil σ H (Tris K 0) := fun H1 _ Q q => q [] H1 (Ex.refl H1) ⟨[], rfl, rfl, fun r hr => by cases hr⟩
theorem at_cons {K : PySem.W.Frag} {σ : L2.St} {H : Hp} {te : TE} {ta : TA} {n : Nat} (h : EvR te σ H (IsTri K)) (r : EvAR ta σ H (Tris K n)) : EvAR (tCons te ta) σ H (Tris K (n + 1)) := fun H1 e Q q =>
  h H1 e _ fun v H2 e2 hv => r H2 (e.trans e2) _ fun vs H3 e3 hs => by
    obtain ⟨x, rfl, hx⟩ := hv
    obtain ⟨rs, rfl, hl, hr⟩ := hs
    refine q _ H3 (e2.trans e3) ⟨x :: rs, rfl, by rw [List.length_cons, hl], fun y hy => ?_⟩
    rcases List.mem_cons.mp hy with rfl | hy
    · exact ex_t e3 hx
    · exact hr y hy
theorem er_tri {K : PySem.W.Frag} {σ : L2.St} {H : Hp} {t1 t2 t3 : TE} {x y z : Int} (h1 : Ev t1 σ H (.int x)) (h2 : Ev t2 σ H (.int y)) (h3 : Ev t3 σ H (.int z)) : EvR (tTup (tCons t1 (tCons t2 (tCons t3 tNil)))) σ H (IsTri K) := fun H1 e Q q =>
  eu_tup (ea_cons h1 (ea_cons h2 (ea_cons h3 ea_nil))) (by show 3 ≤ 100000; decide) H1 e _ fun p H2 hp e2 h2 => q _ H2 e2 ⟨(p, x, y, z), rfl, st_of h2⟩
theorem er_row {K : PySem.W.Frag} {σ : L2.St} {H : Hp} {ta : TA} {n : Nat} (h : EvAR ta σ H (Tris K n)) (hn : n ≤ 1000) : EvR (tLst ta) σ H (IsRow K n n) := fun H1 e Q q =>
  h H1 e _ fun vs H2 e2 hs => by
    obtain ⟨rs, rfl, hl, hr⟩ := hs
    exact ⟨by rw [List.length_map, hl]; exact Nat.le_trans hn (by decide), fun p hp => q _ _ (e2.trans (Ex.new hp)) ⟨p, rs, rfl, by omega, upd_same, fun r hm => ex_t (Ex.new hp) (hr r hm)⟩⟩
theorem er_catR {K : PySem.W.Frag} {σ : L2.St} {H : Hp} {ta tb : TE} {a b c d : Nat} (h1 : EvR ta σ H (IsRow K a b)) (h2 : EvR tb σ H (IsRow K c d)) (hz : b + d ≤ 1000) : EvR (tOp rCat ta tb) σ H (IsRow K (a + c) (b + d)) := fun H1 e Q q =>
  h1 H1 e _ fun v H2 e2 hv => h2 H2 (e.trans e2) _ fun w H3 e3 hw => by
    obtain ⟨p1, r1, rfl, l1, s1, t1⟩ := hv
    obtain ⟨p2, r2, rfl, l2, s2, t2⟩ := hw
    exact ⟨p1, p2, _, _, rfl, rfl, e3 _ _ s1, s2, sz_of (by rw [List.length_map, List.length_map]; omega), fun p hp => q _ _ ((e2.trans e3).trans (Ex.new hp)) ⟨p, r1 ++ r2, rfl, by rw [List.length_append]; omega, by rw [List.map_append]; exact upd_same, fun r hr => ex_t (Ex.new hp) ((List.mem_append.mp hr).elim (fun z => ex_t e3 (t1 r z)) (t2 r))⟩⟩
theorem er_sl {K : PySem.W.Frag} {te : TE} {tl th : TO} {σ : L2.St} {H : Hp} {p : Addr} {rs : List (Addr × T3)} {lo hi : Option Int} (h : Ev te σ H (.ref p)) (hr : RowL K H p rs) (h1 : EvO tl σ H lo) (h2 : EvO th σ H hi) : EvR (tSl (rSlL K) te tl th) σ H (IsRow K 0 rs.length) := fun H1 e Q q => by
  obtain ⟨l', c1, c2, c3⟩ := cut_map (fun r : Addr × T3 => V.ref r.1) rs lo hi
  exact el_sl h h1 h2 hr.1 H1 e _ fun b H2 hb e2 h2 => q _ H2 e2 ⟨b, l', rfl, by omega, by rw [← c1]; exact h2, fun r hm => ex_t (e.trans e2) (hr.2 r (c2 r hm))⟩
theorem atI_row {rs : List (Addr × T3)} {i : Int} (h : -1 ≤ i) (h1 : i < (rs.length : Int)) (h0 : 0 < rs.length) : ∃ r ∈ rs, atI (rs.map fun r => V.ref r.1) i = some (.ref r.1) := by
  by_cases c : 0 ≤ i
  · obtain ⟨k, rfl⟩ := Int.eq_ofNat_of_zero_le c
    have hk : k < rs.length := by omega
    exact ⟨rs[k], List.getElem_mem hk, row_at (List.getElem?_eq_getElem hk)⟩
  · have : i = -1 := by omega
    subst this
    have hne : rs ≠ [] := by rintro rfl; simp at h0
    exact ⟨rs.getLast hne, List.getLast_mem hne, atI_last (by rw [List.getLast?_map, List.getLast?_eq_some_getLast hne]; rfl)⟩
theorem drawn_at {ms ds : List Int} {i : Nat} {m : Int} (h : Drawn ms ds) (hm : ms[i]? = some m) : 0 ≤ ds.getD i 0 ∧ ds.getD i 0 < m := by
  obtain ⟨d, h1, h2⟩ := h.2 i m hm
  rw [List.getD_eq_getElem?_getD, h1]
  exact h2

/-! ### enumerate(tuple) -/
section
open PySem.Spec PyProof.Rows
theorem F_typeCall_enum1 (v : Value) : PySem.checkTypeCall "enumerate" ⟨[v], []⟩ = pure () := PySem.F.typeCall_enumerate_1 v
theorem meets_enum_newB1 {v : Value} {o : Obj} {H : Heap → Prop} (B : PySem.Begins v o H) :
    Meets (Builtin.«enumerate.__new__» ⟨[.type "enumerate", v], []⟩) (fun _ R s => H s.heap ∧
      R (.ok (.ret (.ref (s.heap.push o).objs.size))) { s with heap := (s.heap.push o).push { cls := .type "enumerate", data := .fields #[.none, .bool false, .ref s.heap.objs.size, PySem.rawInt 0, .none, .none] } }) :=
  .of_wp fun prog w A R s h => by
    obtain ⟨hp, g, d, tk, os⟩ := s; obtain ⟨h1, h⟩ := h
    have hsub := PySem.sub_enumerate
    have q1 : ∀ {A' : Around} {E : Value → Shared → Prop} {Q : Value → Shared → Prop}, Q (.ref hp.objs.size) ⟨hp.push o, g, d, tk, os⟩ → wpAny (model prog w) A' (pyIter v) Q E ⟨hp, g, d, tk, os⟩ :=
      fun q => B.iter prog w _ _ ⟨hp, g, d, tk, os⟩ _ h1 q
    wp_walk using q1
    refine wpAny_stack_any fun st => wpAny_pure ?_
    split
    · rename_i c _ _ _ _ _
      cases (c == Value.type "enumerate")
      · wp_walk using q1
        exact ⟨_, rfl, h⟩
      · wp_walk using q1
        exact ⟨_, rfl, h⟩
    · wp_walk using q1
      exact ⟨_, rfl, h⟩
theorem call_enum_tuple {prog : Program} {w : World} {A : Around} {E : Value → Shared → Prop} {s : Shared} {a : Addr} {items : Array Value} {Q : Value → Shared → Prop} (h1 : s.heap.IsTuple a items)
    (h : ∀ h', PySem.IsEnum h' (s.heap.objs.size + 1) s.heap.objs.size 0 .none → h'.IsTupleIter s.heap.objs.size a 0 → h'.objs.size = s.heap.objs.size + 2 →
      (∀ b o, s.heap.get? b = some o → h'.get? b = some o) → Q (.ref (s.heap.objs.size + 1)) { s with heap := h' }) :
    wpAny (model prog w) A (call (.type "enumerate") [.ref a]) Q E s := by
  refine PySem.callType_new PySem.F.called_enumerate (by decide) (PySem.F.typeCall_enumerate_1 _) (PySem.F.newCall_enumerate_1 _) (fun obj => PySem.F.args_object_init_2 obj _) PySem.F.entry_enumerate_new
    (meets_enum_newB1 (PySem.begins_tuple a items)) ⟨h1, ?_⟩
  have hz : (s.heap.push { cls := .type "tuple_iterator", data := .fields #[.ref a, .int 0 0] }).objs.size = s.heap.objs.size + 1 := Heap.size_push ..
  show _ ∧ _
  rw [hz]
  have he : PySem.IsEnum ((s.heap.push { cls := .type "tuple_iterator", data := .fields #[.ref a, .int 0 0] }).push { cls := .type "enumerate", data := .fields #[.none, .bool false, .ref s.heap.objs.size, PySem.rawInt 0, .none, .none] }) (s.heap.objs.size + 1) s.heap.objs.size 0 .none := by
    have := Heap.get?_push_size (s.heap.push { cls := .type "tuple_iterator", data := .fields #[.ref a, .int 0 0] }) (o := { cls := .type "enumerate", data := .fields #[.none, .bool false, .ref s.heap.objs.size, PySem.rawInt 0, .none, .none] }) rfl
    rw [hz] at this; exact this
  refine ⟨⟨_, he, rfl⟩, h _ he ⟨_, Heap.get?_push_of_some _ (Heap.get?_push_size _ rfl), rfl, rfl⟩ (by rw [Heap.size_push, hz]) fun b o x => Heap.get?_push_of_some _ (Heap.get?_push_of_some _ x)⟩
def IteT (K : PySem.W.Frag) (a : Addr) : It :=
  ⟨fun i H => ∃ (xs : List V) (x : V), SqT K H a xs ∧ xs[i]? = some x, fun i H v H' => ∃ T x, v = .ref T ∧ H T = none ∧ H' = upd H T (.tup [.int (i : Nat), x]) ∧ ∀ xs, SqT K H a xs → xs[i]? = some x, fun i H => ∃ xs : List V, SqT K H a xs ∧ xs.length ≤ i⟩
theorem turn_enumT {P : Program} {w : World} {K : PySem.W.Frag} {elts : List Expr} {kk : Nat} {tpos : Pos} (a e it : Addr) :
    Turn P w K (.Tuple elts kk tpos) (IteT K a) [e, it] e (fun i h => (∃ old, PySem.IsEnum h e it ((i : Nat) : Int) old) ∧ h.IsTupleIter it a i ∧ e ≠ it ∧ e ≠ a ∧ a ≠ it) where
  mem := by simp
  obj := fun i h st b hb => by
    obtain ⟨⟨old, he⟩, ⟨o, ho, hc, hd⟩, _⟩ := st
    have e' : b = e ∨ b = it := by simpa using hb
    rcases e' with z | z
    · rw [z]; exact ⟨_, he, fun v q => nomatch q⟩
    · rw [z]; exact ⟨o, ho, fun v q => by rw [hd] at q; cases q⟩
  keep := fun i h h' st k => let ⟨⟨old, he⟩, hi, hne⟩ := st; ⟨⟨old, k e (by simp) _ he⟩, hi.at fun o q => k it (by simp) o q, hne⟩
  item := by
    intro X hP hw hK hc i pins s σ H E I hf st hg
    subst hP hw hK
    obtain ⟨⟨old, he⟩, hit, hne, hea, hai⟩ := st
    obtain ⟨xs, x, hq, hx⟩ := hg
    obtain ⟨its, rv, p, hz⟩ := I.tuple hq
    obtain ⟨u, hu, ru⟩ := rv.get hx
    have p' : s.heap.IsTuple a its.toArray := p
    have hel : e < s.heap.objs.size := Heap.lt_size he
    have hil : it < s.heap.objs.size := by obtain ⟨_, q, _⟩ := hit; exact Heap.lt_size q
    have hlt : i < its.toArray.size := by
      have := (List.getElem?_eq_some_iff.mp hu).1
      simpa using this
    refine PySem.wpAny_pyNext_enum_itemD (PySem.Draws.tuple (A := X.A.in1) (I.ok.hd hc) it a hai its.toArray) he ⟨hit, p'⟩ hlt hne (by simp [hne, hea]) fun y h' tk hy ho hst' hT hsz hk => ?_
    obtain rfl : y = u := by
      have e1 : its.toArray[i]? = some u := by simpa using hu
      have e2 : its.toArray[i]? = some y := hy
      rw [e1] at e2
      exact (Option.some.inj e2).symm
    refine ⟨_, rfl, PySem.wpAny_letOwnedTupleGo_enum (s := { s with heap := h', toks := tk + 1 }) ho fun h'' he' sb => ?_⟩
    have hT2 : h''.get? s.heap.objs.size = some { cls := .type "tuple", data := .seq #[.int i tk, y] } := (sb.2 _ (Nat.ne_of_gt hel)).trans hT
    have new : ObjOk X.prog X.w (upd H s.heap.objs.size (.tup [.int (i : Nat), x])) h'' s.heap.objs.size (.tup [.int (i : Nat), x]) :=
      ⟨by show 2 ≤ sizeLine; decide, [.int i tk, y], .cons ⟨_, rfl⟩ (.cons ru .nil), ⟨_, hT2, rfl, _, rfl⟩⟩
    have I1 : Inv X pins σ (upd H s.heap.objs.size (.tup [.int (i : Nat), x])) { s with heap := h'', toks := tk + 1 } :=
      I.turnedNew (ch := [e, it]) (fun b ob hb q => (sb.2 b (fun z => hb (by simp [z]))).trans (hk b ob (fun z => hb (by simp [z])) (fun z => hb (by simp [z])) q)) hf (Nat.le_refl _) new
    refine ⟨.ref s.heap.objs.size, _, I1, rfl, ⟨_, x, rfl, I.hok.fresh (Nat.le_refl _), rfl, fun ys hy => by rw [I.tuple_inj hy hq]; exact hx⟩, ⟨⟨y, ?_⟩, hst'.1.at fun o q => (sb.2 it (Ne.symm hne)).trans q, hne, hea, hai⟩, fun b hb => ?_⟩
    · have e1 : ((i + 1 : Nat) : Int) = (i : Int) + 1 := by omega
      rw [e1]; exact he'
    · have hb' : b < s.heap.objs.size := by
        have e' : b = e ∨ b = it := by simpa using hb
        rcases e' with z | z
        · rw [z]; exact hel
        · rw [z]; exact hil
      rw [upd_ne (Nat.ne_of_lt hb')]
      exact (hf b hb).1
  done := by
    intro X hP hw hK hc i pins s σ H E I hf st hg
    subst hP hw hK
    obtain ⟨⟨old, he⟩, hit, hne, hea, hai⟩ := st
    obtain ⟨xs, hq, hx⟩ := hg
    obtain ⟨its, rv, p, hz⟩ := I.tuple hq
    have p' : s.heap.IsTuple a its.toArray := p
    obtain ⟨f0, f1, f2, f3, f4, f5⟩ := hf it (by simp)
    have hl := rv.length
    have hend : its.toArray[i]? = none := by simp; omega
    have hT : s.TypeIs (.ref e) "enumerate" := ⟨_, he, rfl⟩
    unfold pyNext
    refine wpAny_bind (wpAny_attempt (PySem.wpAny_callSpecial?_slot (name := Str.ofString "__next__") hT PySem.F.slot_enumerate_next
      (PySem.wpAny_call_entry PySem.F.slot_enumerate_next hT PySem.F.entry_enumerate_next ?_ (PySem.F.args_enumerate_next_1 _))))
    show wpAny _ _ (field (.ref e) 2 >>= _) _ _ _
    refine wpAny_bind (wpAny_field he rfl (x := .ref it) rfl ?_)
    refine wpAny_bind (PySem.wpAny_nextOf_tuple_end (I.ok.hd hc) hit p' hend fun h' y he' hy' => ?_)
    obtain ⟨o, ho, hc⟩ := hy'
    refine wpAny_bind (PySem.wpAny_isInstance (T := "StopIteration") (b := true) ⟨o, ho, hc⟩ PySem.isSubtype_stop ?_)
    exact wpAny_pure ⟨rfl, I.turned (t' := s.toks) (fun b o hb q => he' b o hb q) f0 f1 f3 f4 f5⟩
  self := fun A i s Q E st h => let ⟨⟨_, he⟩, _⟩ := st; PySem.wpAny_pyIter_enum he h
def iEnumT (K : PySem.W.Frag) (ta : TA) : TI := fun σ H R => ta σ H fun vs H1 => ∃ a xs, vs = [.ref a] ∧ SqT K H1 a xs ∧ R (IteT K a) H1
theorem pi_enumT {X : Cx} {K : PySem.W.Frag} {e : Expr} {ta : TA} {p pos tpos : Pos} {elts : List Expr} {kk : Nat} (hg : Gl X "enumerate") (hm : X.mg "enumerate" = none) (ha : PA X [e] ta) (hK : X.K = K := by rfl) (hs : starEach [e] X.env = [(false, eval e X.env)] := by rfl) :
    PI X (.Tuple elts kk tpos) (.Call (.Name "enumerate" p) [e] [] pos) (iEnumT K ta) := by
  subst hK
  refine ⟨fun pins s σ H R I h => ?_⟩
  refine Call_ (ld_blt I hg hm boot_enumerate (PyProof.Rows.callWith_type1 (thn (ha.run pos pins s σ H _ I h) fun us s1 ⟨vs, H1, I1, r1, q1⟩ => ?_) hs rfl))
  obtain ⟨a, xs, ex, hq, q⟩ := q1
  subst ex
  cases r1 with
  | cons r rr =>
    cases rr
    cases r
    obtain ⟨its, rv, p', hz⟩ := I1.tuple hq
    have pt : s1.heap.IsTuple a its.toArray := p'
    have hal : a < s1.heap.objs.size := by obtain ⟨o, ho, _⟩ := pt; exact Heap.lt_size ho
    refine call_enum_tuple pt fun h' he hit hsz hk => PySem.wpAny_pyIter_enum he ?_
    have I2 : Inv X pins σ H1 { s1 with heap := h' } := I1.kept (t' := s1.toks) hk
    refine ⟨s1.heap.objs.size + 1, [s1.heap.objs.size + 1, s1.heap.objs.size], _, _, H1, rfl, I2, turn_enumT a (s1.heap.objs.size + 1) s1.heap.objs.size, ⟨⟨.none, he⟩, hit, Nat.succ_ne_self _, Nat.ne_of_gt (Nat.lt_succ_of_lt hal), Nat.ne_of_lt hal⟩, fun b hb => ?_, q⟩
    have e' : b = s1.heap.objs.size + 1 ∨ b = s1.heap.objs.size := by simpa using hb
    have hle : s1.heap.objs.size ≤ b := by
      rcases e' with z | z
      · rw [z]; exact Nat.le_add_right _ _
      · rw [z]; exact Nat.le_refl _
    exact I1.fpOk hle (I1.hok.fresh hle)
theorem walk_enumT {K : PySem.W.Frag} {a : Addr} {xs : List V} : Walk (IteT K a) xs.length (fun H => SqT K H a xs) (YPair (fun i => some (.int (i : Nat))) (fun i => xs[i]?)) :=
  ⟨fun i _ hi q => ⟨xs, xs[i], q, by simp [hi]⟩, fun _ q => ⟨xs, q, Nat.le_refl _⟩, fun i H x H' _ q y => by
    obtain ⟨T, z, rfl, hT, rfl, hall⟩ := y
    exact ⟨T, _, z, rfl, hT, rfl, rfl, hall xs q⟩⟩
theorem ei_enumT {K : PySem.W.Frag} {σ : L2.St} {H : Hp} {ta : TE} {xs : List V} (h : EvB ta σ H fun v G => ∃ p, v = .ref p ∧ SqT K G p xs) : EvI (iEnumT K (tCons ta tNil)) σ H xs.length (YPair (fun i => some (.int (i : Int))) fun i => xs[i]?) := fun H1 e R r => h H1 e _ fun v H2 e2 hv => by
  obtain ⟨a, rfl, hx⟩ := hv H2 (e.trans e2) fun _ _ _ z => z
  exact ⟨a, xs, rfl, hx, r _ _ e2 (walk_enumT.mono (fun G g => by
    obtain ⟨b, eb, hb⟩ := hv G g.1 g.2
    cases eb
    exact hb) fun _ _ _ _ _ _ y => y)⟩
end

/-! ### a[b] of an own class -/
/-- x an object of the class at C, its __getitem__ asked -/
def rOwnIx (C : Addr) (sp : Sp) (E : XK) : R2 := fun x y H Q => ∃ a dx fs, x = .ref a ∧ H a = some (.ins C dx fs) ∧ sp [x, y] H Q E
section
open PySem.Spec PyProof.Rows
variable {X : Cx} {CX : CXT} {f C : Addr} {fd : FuncData} {ps : List Str} {n : Nat} {sp : Sp} {E : XK} {a b : Expr} {ta tb : TE} {pos : Pos}
theorem pe_ixO (m : Meth X.K C "__getitem__" f) (hfi : PySem.W.fnIn X.K f = true) (F : FnOk X.prog X.w X.K X.mg X.base CX n f fd ps sp) (hr : Room (n + 1) X.A) (hb : Binds X.K fd ps []) (hx : ∀ σ, PassesAt CX X σ E)
    (ha : PE X a ta) (hb2 : PE X b tb) (hs : ∀ o i, subscripted b true o i = runValue (.builtin "lifetime.subscript" ⟨[o, i], []⟩)) : PE X (.Subscript a b pos) (tOp (rOwnIx C sp E) ta tb) := by
  refine ⟨fun pins s σ H Q I h => ?_⟩
  refine Subscript_ (binT ha hb2 I h fun v u s2 x y H2 I2 rx ry q => ?_)
  obtain ⟨a, dx, fs, rfl, ha', h⟩ := q
  cases rx
  obtain ⟨mA, J, _⟩ := ins_get I2.hok ha'
  obtain ⟨od, J, _⟩ := J.look
  obtain ⟨m', hF⟩ := I2.fr
  exact PySem.W.sub_K hF I2.ok.mod.kin J m.at_ hfi m.fn (run_ownA (vs := [V.ref a, y]) F hr.in1 rfl hb (hx σ) I2 (.cons rfl (.cons ry .nil)) h) (hs _ _)
end
theorem ev_ownIx {C : Addr} {sp : Sp} {E : XK} {ta tb : TE} {σ : L2.St} {H : Hp} {a dx : Addr} {fs : List (Str × V)} {y z : V} (ha : Ev ta σ H (.ref a)) (hi : H a = some (.ins C dx fs)) (hb : Ev tb σ H y) (hs : ∀ H1, Ex H H1 → ∀ Q : VK, (∀ H2, Ex H1 H2 → Q z H2) → sp [.ref a, y] H1 Q E) : Ev (tOp (rOwnIx C sp E) ta tb) σ H z := fun H1 e Q q =>
  ha H1 e _ fun H2 e2 => hb H2 (e.trans e2) _ fun H3 e3 => ⟨a, dx, fs, rfl, ((e.trans e2).trans e3) _ _ hi, hs H3 ((e.trans e2).trans e3) Q fun H4 e4 => q H4 ((e2.trans e3).trans e4)⟩
theorem ev_ownIxU {C : Addr} {sp : Sp} {E : XK} {ta tb : TE} {σ : L2.St} {H : Hp} {a dx : Addr} {fs : List (Str × V)} {ys : List V} {z : V} (ha : Ev ta σ H (.ref a)) (hi : H a = some (.ins C dx fs)) (hb : EvU tb σ H ys) (hs : ∀ p H1, Ex H H1 → H1 p = some (.tup ys) → ∀ Q : VK, (∀ H2, Ex H1 H2 → Q z H2) → sp [.ref a, .ref p] H1 Q E) : Ev (tOp (rOwnIx C sp E) ta tb) σ H z := fun H1 e Q q =>
  ha H1 e _ fun H2 e2 => hb H2 (e.trans e2) _ fun p H3 _ e3 hp => ⟨a, dx, fs, rfl, ((e.trans e2).trans e3) _ _ hi, hs p H3 ((e.trans e2).trans e3) hp Q fun H4 e4 => q H4 ((e2.trans e3).trans e4)⟩
/-! ### watches -/
def watF (h w : V) : List (Str × V) := [("house", h), ("_rows", w)]
/-- a list of lists of ints -/
structure RowsL (K : PySem.W.Frag) (H : Hp) (a : Addr) (xss : List (List Int)) : Prop where
  all : ∃ vs : List V, SqL K H a vs ∧ vs.length = xss.length ∧ ∀ (i : Nat) v, vs[i]? = some v → ∃ p, v = .ref p ∧ SqL K H p ((xss.getD i []).map V.int)
theorem RowsL.ex {K : PySem.W.Frag} {H H' : Hp} {a : Addr} {xss : List (List Int)} (e : Ex H H') (h : RowsL K H a xss) : RowsL K H' a xss := by
  obtain ⟨vs, h1, h2, h3⟩ := h.all
  exact ⟨vs, ex_l e h1, h2, fun i v hv => (h3 i v hv).imp fun p h => ⟨h.1, ex_l e h.2⟩⟩
/-- a tuple of tuples of ints -/
def RowsU (w : V) (H : Hp) (xss : List (List Int)) : Prop := ∃ p vs, w = .ref p ∧ H p = some (.tup vs) ∧ vs.length = xss.length ∧ ∀ (i : Nat) v, vs[i]? = some v → ∃ t, v = .ref t ∧ H t = some (.tup ((xss.getD i []).map V.int))
theorem RowsU.ex {w : V} {H H' : Hp} {xss : List (List Int)} (e : Ex H H') (h : RowsU w H xss) : RowsU w H' xss := by
  obtain ⟨p, vs, rfl, h1, h2, h3⟩ := h
  exact ⟨p, vs, rfl, e _ _ h1, h2, fun i v hv => (h3 i v hv).imp fun t h => ⟨h.1, e _ _ h.2⟩⟩
def WatchIs (C : Addr) (v : V) (H : Hp) (h : V) (xss : List (List Int)) : Prop := ∃ a dx w, v = .ref a ∧ H a = some (.ins C dx (watF h w)) ∧ RowsU w H xss
theorem WatchIs.ex {C : Addr} {v h : V} {H H' : Hp} {xss : List (List Int)} (e : Ex H H') (q : WatchIs C v H h xss) : WatchIs C v H' h xss := by
  obtain ⟨a, dx, w, rfl, h1, h2⟩ := q
  exact ⟨a, dx, w, rfl, e _ _ h1, h2.ex e⟩
structure Shape (n : Int) (m : Nat) (xss : List (List Int)) : Prop where
  len : xss.length = m
  row : ∀ xs ∈ xss, (xs.length : Int) = n
  val : ∀ xs ∈ xss, ∀ x ∈ xs, 0 ≤ x ∧ x ≤ 96
def rTupOf (K : PySem.W.Frag) : List V → Hp → VK → Prop := fun xs H Q => ∃ p ys, xs = [V.ref p] ∧ ((SqL K H p ys ∧ ∀ (l : Addr), H l = none → Q (V.ref l) (upd H l (HO.tup ys))) ∨ SqT K H p ys ∧ Q (V.ref p) H)
theorem tup_K {X : Cx} {K : PySem.W.Frag} (h : X.K = K := by rfl) : CallR X (.type "tuple") (rTupOf K) := by subst h; exact call_tuple_of
theorem en_tupL {K : PySem.W.Frag} {te : TE} {σ : L2.St} {H : Hp} {p : Addr} {xs : List V} (h : Ev te σ H (.ref p)) (hp : SqL K H p xs) : EvNew (tCB (rTupOf K) (tCons te tNil)) σ H fun v G => ∃ t, v = .ref t ∧ G t = some (.tup xs) := fun H1 e Q q =>
  h H1 e _ fun H2 e2 => ⟨p, xs, rfl, .inl ⟨ex_l (e.trans e2) hp, fun l hl => q _ _ (e2.trans (Ex.new hl)) fun G g => ⟨l, rfl, g l _ (fresh_back e2 hl) upd_same⟩⟩⟩
theorem en_tupN {K : PySem.W.Frag} {te : TE} {σ : L2.St} {H : Hp} {n : Nat} {P : Nat → V → Hp → Prop} (h : EvNew te σ H (ListP n P)) : EvNew (tCB (rTupOf K) (tCons te tNil)) σ H fun v G => ∃ p vs, v = .ref p ∧ G p = some (.tup vs) ∧ vs.length = n ∧ ∀ (k : Nat) x, vs[k]? = some x → P k x G := fun H1 e Q q =>
  h H1 e _ fun v H2 e2 hv => by
    obtain ⟨p, vs, rfl, hp, hl, _⟩ := hv.self
    refine ⟨p, vs, rfl, .inl ⟨sq_of hp, fun l hn => q _ _ (e2.trans (Ex.new hn)) fun G g => ?_⟩⟩
    have g2 : ∀ b o, H1 b = none → H2 b = some o → G b = some o := fun b o h1 h2 => g b o h1 (by rw [upd_ne (fun z => by rw [z, hn] at h2; cases h2)]; exact h2)
    obtain ⟨p', vs', e', hp', hl', ha'⟩ := hv G g2
    cases e'
    have hf : H1 p = none := by
      obtain ⟨p3, vs3, e3, hp3, _⟩ := hv (fun b => match H1 b with | none => H2 b | some _ => none) (fun b o h1 h2 => by simp only [h1, h2])
      cases e3
      cases hq : H1 p with
      | none => rfl
      | some o => simp only [hq] at hp3; cases hp3
    have hv2 := g2 p _ hf hp
    rw [hp'] at hv2
    cases hv2
    exact ⟨l, vs, rfl, g l _ (fresh_back e2 hn) upd_same, hl', ha'⟩
theorem sqL_ins {K : PySem.W.Frag} {H : Hp} {x p C dx : Addr} {fs : List (Str × V)} {o : HO} {xs : List V} (hx : H x = some (.ins C dx fs)) (h : SqL K H p xs) : SqL K (upd H x o) p xs := by
  have ne : ∀ {z : HO}, H p = some z → (∀ a b c, z ≠ .ins a b c) → p ≠ x := fun hz hn e => by
    rw [e, hx] at hz
    exact hn _ _ _ (Option.some.inj hz).symm
  rcases h with (h | ⟨o', h⟩) | h
  · exact .inl (.inl (by rw [upd_ne (ne h fun _ _ _ z => by cases z)]; exact h))
  · exact .inl (.inr ⟨o', by rw [upd_ne (ne h fun _ _ _ z => by cases z)]; exact h⟩)
  · exact .inr h
theorem RowsL.ins {K : PySem.W.Frag} {H : Hp} {x p C dx : Addr} {fs : List (Str × V)} {o : HO} {xss : List (List Int)} (hx : H x = some (.ins C dx fs)) (h : RowsL K H p xss) : RowsL K (upd H x o) p xss := by
  obtain ⟨vs, h1, h2, h3⟩ := h.all
  exact ⟨vs, sqL_ins hx h1, h2, fun i v hv => (h3 i v hv).imp fun p h => ⟨h.1, sqL_ins hx h.2⟩⟩
/-- a comprehension over a tuple whose items stand for the things of ps, the target of any form -/
theorem el_tupG {α : Type} (d : α) {K : PySem.W.Frag} {σ : L2.St} {H : Hp} {te tl : TE} {tt : TT} {g : TG} {vs : List Nat} {a : Addr} (xs : List V) (ps : List α) (p : α → Bool) (v : α → V) (τ : α → L2.St)
    (h : Ev tl σ H (.ref a)) (hx : SqT K H a xs) (hl : xs.length = ps.length) (hz : ps.length ≤ 40000)
    (hg : ∀ (i : Nat) x y H1 (k : L2.St → Hp → Prop), Ex H H1 → xs[i]? = some x → ps[i]? = some y → k (τ y) H1 → g x (wipe σ vs) H1 k)
    (hw : ∀ y, wipe (τ y) vs = wipe σ vs) (ht : ∀ y H1, Ex H H1 → y ∈ ps → EvT tt (τ y) H1 (p y)) (he : ∀ y H1, Ex H H1 → y ∈ ps → p y = true → Ev te (τ y) H1 (v y)) :
    EvL (tLc (iTup K tl) g tt te vs) σ H ((ps.filter p).map v) := by
  rw [← given_gen d ps p v]
  intro H0 e0 Q q
  refine h H0 e0 _ fun H1 e1 => ⟨a, rfl, ⟨xs, ex_t (e0.trans e1) hx⟩, fun D hD => ?_⟩
  refine lc_tup (xs := xs) (Cw H1 (fun i => p (ps.getD i d)) (fun i => v (ps.getD i d)) D) ⟨hD, Ex.new hD, upd_same⟩ (fun i H' _ c => ex_t ((e0.trans e1).trans c.2.1) hx) (fun i x H' hi c => ?_)
    (fun H' c => by rw [hl] at c; exact q D H' (fresh_back e1 c.1) (e1.trans c.2.1) c.2.2)
  have hil : i < ps.length := by
    have := (List.getElem?_eq_some_iff.mp hi).1
    omega
  have hy : ps[i]? = some (ps.getD i d) := by rw [List.getD_eq_getElem?_getD, List.getElem?_eq_getElem hil]; rfl
  refine hg i x _ H' _ ((e0.trans e1).trans c.2.1) hi hy ⟨hw _, ?_⟩
  exact cw_turn c (by omega) (ht _ H1 (e0.trans e1) (List.mem_of_getElem? hy)) (fun hf => he _ H1 (e0.trans e1) (List.mem_of_getElem? hy) hf)
theorem ev_whouse {K : PySem.W.Frag} {C : Addr} {te : TE} {σ : L2.St} {H : Hp} {a dx : Addr} {h w : V} (he : Ev te σ H (.ref a)) (hi : H a = some (.ins C dx (watF h w))) (c : Cls K C) (na : NoAttr K C "house") : Ev (tFld K te "house") σ H h := fun H1 e Q q' =>
  he H1 e _ fun H2 e2 => ⟨a, _, dx, _, _, rfl, e2 _ _ (e _ _ hi), c, na, rfl, q' H2 e2⟩
theorem ev_wrows {K : PySem.W.Frag} {C : Addr} {te : TE} {σ : L2.St} {H : Hp} {a dx : Addr} {h w : V} (he : Ev te σ H (.ref a)) (hi : H a = some (.ins C dx (watF h w))) (c : Cls K C) (na : NoAttr K C "_rows") : Ev (tFld K te "_rows") σ H w := fun H1 e Q q' =>
  he H1 e _ fun H2 e2 => ⟨a, _, dx, _, _, rfl, e2 _ _ (e _ _ hi), c, na, rfl, q' H2 e2⟩
theorem en_copyT {K : PySem.W.Frag} {te : TE} {σ : L2.St} {H : Hp} {p : Addr} {xs : List V} (h : Ev te σ H (.ref p)) (hp : SqT K H p xs) : EvNew (tCB (rListK K) (tCons te tNil)) σ H fun v G => ∃ t, v = .ref t ∧ G t = some (.lst xs) := fun H1 e Q q =>
  h H1 e _ fun H2 e2 => ⟨p, xs, rfl, .inr (ex_t (e.trans e2) hp), fun l hl => q _ _ (e2.trans (Ex.new hl)) fun G g => ⟨l, rfl, g l _ (fresh_back e2 hl) upd_same⟩⟩
def watVal (xss : List (List Int)) (n g h : Int) : Int := (xss.getD g.toNat []).getD (h % n).toNat 0

/-! ### rows under way -/
def RowsM (H0 H : Hp) (p : Addr) (qs : List (Addr × List Int)) : Prop := H0 p = none ∧ H p = some (.lst (qs.map fun q => V.ref q.1)) ∧ (qs.map (·.1)).Nodup ∧ ∀ q ∈ qs, q.1 ≠ p ∧ H0 q.1 = none ∧ H q.1 = some (.lst (q.2.map V.int))
theorem RowsM.ex {H0 H H' : Hp} {p : Addr} {qs : List (Addr × List Int)} (e : Ex H H') (h : RowsM H0 H p qs) : RowsM H0 H' p qs := ⟨h.1, e _ _ h.2.1, h.2.2.1, fun q hq => ⟨(h.2.2.2 q hq).1, (h.2.2.2 q hq).2.1, e _ _ (h.2.2.2 q hq).2.2⟩⟩
theorem RowsM.base {H0 H1 H : Hp} {p : Addr} {qs : List (Addr × List Int)} (e : Ex H0 H1) (h : RowsM H1 H p qs) : RowsM H0 H p qs := ⟨fresh_back e h.1, h.2.1, h.2.2.1, fun q hq => ⟨(h.2.2.2 q hq).1, fresh_back e (h.2.2.2 q hq).2.1, (h.2.2.2 q hq).2.2⟩⟩
theorem RowsM.rows {K : PySem.W.Frag} {H0 H : Hp} {p : Addr} {qs : List (Addr × List Int)} (h : RowsM H0 H p qs) : RowsL K H p (qs.map (·.2)) := by
  refine ⟨_, sq_of h.2.1, by simp, fun i v hv => ?_⟩
  rw [List.getElem?_map] at hv
  cases e : qs[i]? with
  | none => rw [e] at hv; cases hv
  | some q =>
    rw [e] at hv
    cases hv
    refine ⟨q.1, rfl, ?_⟩
    rw [List.getD_eq_getElem?_getD, List.getElem?_map, e]
    exact sq_of (h.2.2.2 q (List.mem_of_getElem? e)).2.2
/-! ### spreads that are good -/
def okT (n : Int) (m : Nat) (b c : Int) (t : T3) : Prop := inHouse n m t.1 t.2.1 = true ∧ 1 ≤ t.2.2 ∧ lexLe t.1 t.2.1 b c = false
def Good (n : Int) (m : Nat) : Int → Int → List T3 → Prop
  | _, _, [] => True
  | b, c, t :: r => okT n m b c t ∧ Good n m t.1 t.2.1 r
def lastB : Int → Int → List T3 → Int × Int
  | b, c, [] => (b, c)
  | _, _, t :: r => lastB t.1 t.2.1 r
theorem okT.not {n : Int} {m : Nat} {b c : Int} {t : T3} (h : okT n m b c t) : ¬ (!inHouse n m t.1 t.2.1 || decide (t.2.2 < 1) || lexLe t.1 t.2.1 b c) = true := by
  obtain ⟨h1, h2, h3⟩ := h
  rw [h1, h3, decide_eq_false (by omega)]
  simp
theorem firstW_pre {n : Int} {m : Nat} {r : List T3} : ∀ {ts : List T3} {k : Nat} {b c : Int}, Good n m b c ts → firstW n m k b c (ts ++ r) = firstW n m (k + ts.length) (lastB b c ts).1 (lastB b c ts).2 r
  | [], k, b, c, _ => rfl
  | t :: ts, k, b, c, h => by
    show (if (!inHouse n m t.1 t.2.1 || decide (t.2.2 < 1) || lexLe t.1 t.2.1 b c) = true then some k else firstW n m (k + 1) t.1 t.2.1 (ts ++ r)) = _
    rw [if_neg h.1.not, firstW_pre h.2, List.length_cons, show k + 1 + ts.length = k + (ts.length + 1) by omega]
    rfl
theorem good_none {n : Int} {m : Nat} {ts : List T3} {k : Nat} {b c : Int} (h : Good n m b c ts) : firstW n m k b c ts = none := by
  have := firstW_pre (r := []) (k := k) h
  rw [List.append_nil] at this
  rw [this]
  rfl
theorem good_app {n : Int} {m : Nat} {r : List T3} : ∀ {ts : List T3} {b c : Int}, Good n m b c (ts ++ r) ↔ Good n m b c ts ∧ Good n m (lastB b c ts).1 (lastB b c ts).2 r
  | [], b, c => by simp [Good, lastB]
  | t :: ts, b, c => by
    show okT n m b c t ∧ Good n m t.1 t.2.1 (ts ++ r) ↔ (okT n m b c t ∧ Good n m t.1 t.2.1 ts) ∧ _
    rw [good_app, and_assoc]
    rfl
theorem good_ok {n : Int} {m : Nat} {ts : List T3} (h : Good n m (-1) (-1) ts) (hs : (ts.map (·.2.2)).sum ≤ 6) : triesRes n m ts = .ok (ts.map (·.2.2)).sum := by
  unfold triesRes
  rw [good_none h]
  exact if_neg (by omega)
theorem lastB_app {ts : List T3} {t : T3} : ∀ {b c : Int}, lastB b c (ts ++ [t]) = (t.1, t.2.1) := by
  induction ts with
  | nil => intro b c; rfl
  | cons u ts ih => intro b c; exact ih
structure Ads where
  f_BadNumber_init : Addr
  d_BadNumber_init : FuncData
  f_TooMany_init : Addr
  d_TooMany_init : FuncData
  f_WrongLength_init : Addr
  d_WrongLength_init : FuncData
  f_BadName_init : Addr
  d_BadName_init : FuncData
  f_RepeatedName_init : Addr
  d_RepeatedName_init : FuncData
  f_BadSpread_init : Addr
  d_BadSpread_init : FuncData
  f_check_name : Addr
  d_check_name : FuncData
  f_check_new_name : Addr
  d_check_new_name : FuncData
  f_House_init : Addr
  d_House_init : FuncData
  f_House_len : Addr
  d_House_len : FuncData
  f_is_gate : Addr
  d_is_gate : FuncData
  f_is_cell : Addr
  d_is_cell : FuncData
  f_total_tries : Addr
  d_total_tries : FuncData
  f_u_check_row : Addr
  d_u_check_row : FuncData
  f_Watch_init : Addr
  d_Watch_init : FuncData
  f_Watch_rows : Addr
  d_Watch_rows : FuncData
  f_Watch_getitem : Addr
  d_Watch_getitem : FuncData
  f_loss : Addr
  d_loss : FuncData
  f_u_law_cell : Addr
  d_u_law_cell : FuncData
  f_u_law_draws : Addr
  d_u_law_draws : FuncData
  f_u_law_is_int : Addr
  d_u_law_is_int : FuncData
  f_u_law_same : Addr
  d_u_law_same : FuncData
  f_u_law_name : Addr
  d_u_law_name : FuncData
  f_u_law_names : Addr
  d_u_law_names : FuncData
  f_u_law_gates : Addr
  d_u_law_gates : FuncData
  f_u_law_rows : Addr
  d_u_law_rows : FuncData
  f_u_law_spread : Addr
  d_u_law_spread : FuncData
  f_u_law_strengths : Addr
  d_u_law_strengths : FuncData
  f_u_law_due : Addr
  d_u_law_due : FuncData
  f_u_law_fault : Addr
  d_u_law_fault : FuncData
  f_u_law_refused : Addr
  d_u_law_refused : FuncData
  f_u_law_loses : Addr
  d_u_law_loses : FuncData
  f_law : Addr
  d_law : FuncData
  C_BadNumber : Addr
  C_TooMany : Addr
  C_WrongLength : Addr
  C_NoPlace : Addr
  C_BadName : Addr
  C_RepeatedName : Addr
  C_BadSpread : Addr
  C_WatchError : Addr
  C_House : Addr
  C_Watch : Addr
  p_Watch_rows : Addr
structure Txt (K : PySem.W.Frag) (mg : Str → Option Value) (A : Ads) : Prop where
  F_BadNumber_init : Fun K "__init__" "BadNumber.__init__" s_BadNumber_init A.f_BadNumber_init A.d_BadNumber_init
  F_TooMany_init : Fun K "__init__" "TooMany.__init__" s_TooMany_init A.f_TooMany_init A.d_TooMany_init
  F_WrongLength_init : Fun K "__init__" "WrongLength.__init__" s_WrongLength_init A.f_WrongLength_init A.d_WrongLength_init
  F_BadName_init : Fun K "__init__" "BadName.__init__" s_BadName_init A.f_BadName_init A.d_BadName_init
  F_RepeatedName_init : Fun K "__init__" "RepeatedName.__init__" s_RepeatedName_init A.f_RepeatedName_init A.d_RepeatedName_init
  F_BadSpread_init : Fun K "__init__" "BadSpread.__init__" s_BadSpread_init A.f_BadSpread_init A.d_BadSpread_init
  F_check_name : Fun K "check_name" "check_name" s_check_name A.f_check_name A.d_check_name
  g_check_name : mg "check_name" = some (.ref A.f_check_name)
  k_check_name : PySem.W.keepIn K (.ref A.f_check_name) = true
  F_check_new_name : Fun K "check_new_name" "check_new_name" s_check_new_name A.f_check_new_name A.d_check_new_name
  g_check_new_name : mg "check_new_name" = some (.ref A.f_check_new_name)
  k_check_new_name : PySem.W.keepIn K (.ref A.f_check_new_name) = true
  F_House_init : Fun K "__init__" "House.__init__" s_House_init A.f_House_init A.d_House_init
  F_House_len : Fun K "__len__" "House.__len__" s_House_len A.f_House_len A.d_House_len
  F_is_gate : Fun K "is_gate" "is_gate" s_is_gate A.f_is_gate A.d_is_gate
  g_is_gate : mg "is_gate" = some (.ref A.f_is_gate)
  k_is_gate : PySem.W.keepIn K (.ref A.f_is_gate) = true
  F_is_cell : Fun K "is_cell" "is_cell" s_is_cell A.f_is_cell A.d_is_cell
  g_is_cell : mg "is_cell" = some (.ref A.f_is_cell)
  k_is_cell : PySem.W.keepIn K (.ref A.f_is_cell) = true
  F_total_tries : Fun K "total_tries" "total_tries" s_total_tries A.f_total_tries A.d_total_tries
  g_total_tries : mg "total_tries" = some (.ref A.f_total_tries)
  k_total_tries : PySem.W.keepIn K (.ref A.f_total_tries) = true
  F_u_check_row : Fun K "_check_row" "_check_row" s_u_check_row A.f_u_check_row A.d_u_check_row
  g_u_check_row : mg "_check_row" = some (.ref A.f_u_check_row)
  k_u_check_row : PySem.W.keepIn K (.ref A.f_u_check_row) = true
  F_Watch_init : Fun K "__init__" "Watch.__init__" s_Watch_init A.f_Watch_init A.d_Watch_init
  F_Watch_rows : Fun K "rows" "Watch.rows" s_Watch_rows A.f_Watch_rows A.d_Watch_rows
  F_Watch_getitem : Fun K "__getitem__" "Watch.__getitem__" s_Watch_getitem A.f_Watch_getitem A.d_Watch_getitem
  F_loss : Fun K "loss" "loss" s_loss A.f_loss A.d_loss
  g_loss : mg "loss" = some (.ref A.f_loss)
  k_loss : PySem.W.keepIn K (.ref A.f_loss) = true
  F_u_law_cell : Fun K "_law_cell" "_law_cell" s_u_law_cell A.f_u_law_cell A.d_u_law_cell
  g_u_law_cell : mg "_law_cell" = some (.ref A.f_u_law_cell)
  k_u_law_cell : PySem.W.keepIn K (.ref A.f_u_law_cell) = true
  F_u_law_draws : Fun K "_law_draws" "_law_draws" s_u_law_draws A.f_u_law_draws A.d_u_law_draws
  g_u_law_draws : mg "_law_draws" = some (.ref A.f_u_law_draws)
  k_u_law_draws : PySem.W.keepIn K (.ref A.f_u_law_draws) = true
  F_u_law_is_int : Fun K "_law_is_int" "_law_is_int" s_u_law_is_int A.f_u_law_is_int A.d_u_law_is_int
  g_u_law_is_int : mg "_law_is_int" = some (.ref A.f_u_law_is_int)
  k_u_law_is_int : PySem.W.keepIn K (.ref A.f_u_law_is_int) = true
  F_u_law_same : Fun K "_law_same" "_law_same" s_u_law_same A.f_u_law_same A.d_u_law_same
  g_u_law_same : mg "_law_same" = some (.ref A.f_u_law_same)
  k_u_law_same : PySem.W.keepIn K (.ref A.f_u_law_same) = true
  F_u_law_name : Fun K "_law_name" "_law_name" s_u_law_name A.f_u_law_name A.d_u_law_name
  g_u_law_name : mg "_law_name" = some (.ref A.f_u_law_name)
  k_u_law_name : PySem.W.keepIn K (.ref A.f_u_law_name) = true
  F_u_law_names : Fun K "_law_names" "_law_names" s_u_law_names A.f_u_law_names A.d_u_law_names
  g_u_law_names : mg "_law_names" = some (.ref A.f_u_law_names)
  k_u_law_names : PySem.W.keepIn K (.ref A.f_u_law_names) = true
  F_u_law_gates : Fun K "_law_gates" "_law_gates" s_u_law_gates A.f_u_law_gates A.d_u_law_gates
  g_u_law_gates : mg "_law_gates" = some (.ref A.f_u_law_gates)
  k_u_law_gates : PySem.W.keepIn K (.ref A.f_u_law_gates) = true
  F_u_law_rows : Fun K "_law_rows" "_law_rows" s_u_law_rows A.f_u_law_rows A.d_u_law_rows
  g_u_law_rows : mg "_law_rows" = some (.ref A.f_u_law_rows)
  k_u_law_rows : PySem.W.keepIn K (.ref A.f_u_law_rows) = true
  F_u_law_spread : Fun K "_law_spread" "_law_spread" s_u_law_spread A.f_u_law_spread A.d_u_law_spread
  g_u_law_spread : mg "_law_spread" = some (.ref A.f_u_law_spread)
  k_u_law_spread : PySem.W.keepIn K (.ref A.f_u_law_spread) = true
  F_u_law_strengths : Fun K "_law_strengths" "_law_strengths" s_u_law_strengths A.f_u_law_strengths A.d_u_law_strengths
  g_u_law_strengths : mg "_law_strengths" = some (.ref A.f_u_law_strengths)
  k_u_law_strengths : PySem.W.keepIn K (.ref A.f_u_law_strengths) = true
  F_u_law_due : Fun K "_law_due" "_law_due" s_u_law_due A.f_u_law_due A.d_u_law_due
  g_u_law_due : mg "_law_due" = some (.ref A.f_u_law_due)
  k_u_law_due : PySem.W.keepIn K (.ref A.f_u_law_due) = true
  F_u_law_fault : Fun K "_law_fault" "_law_fault" s_u_law_fault A.f_u_law_fault A.d_u_law_fault
  g_u_law_fault : mg "_law_fault" = some (.ref A.f_u_law_fault)
  k_u_law_fault : PySem.W.keepIn K (.ref A.f_u_law_fault) = true
  F_u_law_refused : Fun K "_law_refused" "_law_refused" s_u_law_refused A.f_u_law_refused A.d_u_law_refused
  g_u_law_refused : mg "_law_refused" = some (.ref A.f_u_law_refused)
  k_u_law_refused : PySem.W.keepIn K (.ref A.f_u_law_refused) = true
  F_u_law_loses : Fun K "_law_loses" "_law_loses" s_u_law_loses A.f_u_law_loses A.d_u_law_loses
  g_u_law_loses : mg "_law_loses" = some (.ref A.f_u_law_loses)
  k_u_law_loses : PySem.W.keepIn K (.ref A.f_u_law_loses) = true
  F_law : Fun K "law" "law" s_law A.f_law A.d_law
  g_law : mg "law" = some (.ref A.f_law)
  k_law : PySem.W.keepIn K (.ref A.f_law) = true
  c_LONGEST_NAME : ∃ t, mg "_LONGEST_NAME" = some (.int 8 t)
  c_MOST_TRIES : ∃ t, mg "_MOST_TRIES" = some (.int 6 t)
  c_LETTERS : ∃ t, mg "_LETTERS" = some (.str "abcdefghijklmnopqrstuvwxyz" t)
  z_abs : mg "abs" = none
  z_len : mg "len" = none
  z_int : mg "int" = none
  z_bool : mg "bool" = none
  z_str : mg "str" = none
  z_list : mg "list" = none
  z_tuple : mg "tuple" = none
  z_isinstance : mg "isinstance" = none
  z_range : mg "range" = none
  z_ValueError : mg "ValueError" = none
  z_min : mg "min" = none
  z_max : mg "max" = none
  z_sum : mg "sum" = none
  z_enumerate : mg "enumerate" = none
  g_BadNumber : mg "BadNumber" = some (.ref A.C_BadNumber)
  g_TooMany : mg "TooMany" = some (.ref A.C_TooMany)
  g_WrongLength : mg "WrongLength" = some (.ref A.C_WrongLength)
  g_NoPlace : mg "NoPlace" = some (.ref A.C_NoPlace)
  g_BadName : mg "BadName" = some (.ref A.C_BadName)
  g_RepeatedName : mg "RepeatedName" = some (.ref A.C_RepeatedName)
  g_BadSpread : mg "BadSpread" = some (.ref A.C_BadSpread)
  g_WatchError : mg "WatchError" = some (.ref A.C_WatchError)
  g_House : mg "House" = some (.ref A.C_House)
  g_Watch : mg "Watch" = some (.ref A.C_Watch)
  ox_BadNumber : OexC K A.C_BadNumber
  ni_BadNumber : PySem.W.findIn K (.ref A.C_BadNumber) "__init__" = some (some (.ref A.f_BadNumber_init))
  ti_BadNumber : PySem.W.typeIn K (.ref A.f_BadNumber_init) = some (.type "function")
  nf_BadNumber_name : PySem.W.findIn K (.ref A.C_BadNumber) "name" = some none
  nf_BadNumber_value : PySem.W.findIn K (.ref A.C_BadNumber) "value" = some none
  xf_BadNumber : XfC K A.C_BadNumber
  ex_BadNumber : ExcC K A.C_BadNumber
  ox_TooMany : OexC K A.C_TooMany
  ni_TooMany : PySem.W.findIn K (.ref A.C_TooMany) "__init__" = some (some (.ref A.f_TooMany_init))
  ti_TooMany : PySem.W.typeIn K (.ref A.f_TooMany_init) = some (.type "function")
  nf_TooMany_name : PySem.W.findIn K (.ref A.C_TooMany) "name" = some none
  nf_TooMany_most : PySem.W.findIn K (.ref A.C_TooMany) "most" = some none
  xf_TooMany : XfC K A.C_TooMany
  ex_TooMany : ExcC K A.C_TooMany
  ox_BadName : OexC K A.C_BadName
  ni_BadName : PySem.W.findIn K (.ref A.C_BadName) "__init__" = some (some (.ref A.f_BadName_init))
  ti_BadName : PySem.W.typeIn K (.ref A.f_BadName_init) = some (.type "function")
  nf_BadName_name : PySem.W.findIn K (.ref A.C_BadName) "name" = some none
  xf_BadName : XfC K A.C_BadName
  ex_BadName : ExcC K A.C_BadName
  ox_RepeatedName : OexC K A.C_RepeatedName
  ni_RepeatedName : PySem.W.findIn K (.ref A.C_RepeatedName) "__init__" = some (some (.ref A.f_RepeatedName_init))
  ti_RepeatedName : PySem.W.typeIn K (.ref A.f_RepeatedName_init) = some (.type "function")
  nf_RepeatedName_name : PySem.W.findIn K (.ref A.C_RepeatedName) "name" = some none
  xf_RepeatedName : XfC K A.C_RepeatedName
  ex_RepeatedName : ExcC K A.C_RepeatedName
  ox_BadSpread : OexC K A.C_BadSpread
  ni_BadSpread : PySem.W.findIn K (.ref A.C_BadSpread) "__init__" = some (some (.ref A.f_BadSpread_init))
  ti_BadSpread : PySem.W.typeIn K (.ref A.f_BadSpread_init) = some (.type "function")
  nf_BadSpread_index : PySem.W.findIn K (.ref A.C_BadSpread) "index" = some none
  xf_BadSpread : XfC K A.C_BadSpread
  ex_BadSpread : ExcC K A.C_BadSpread
  ox_WrongLength : OexC K A.C_WrongLength
  ni_WrongLength : PySem.W.findIn K (.ref A.C_WrongLength) "__init__" = some (some (.ref A.f_WrongLength_init))
  ti_WrongLength : PySem.W.typeIn K (.ref A.f_WrongLength_init) = some (.type "function")
  nf_WrongLength_length : PySem.W.findIn K (.ref A.C_WrongLength) "length" = some none
  xf_WrongLength : XfC K A.C_WrongLength
  ex_WrongLength : ExcC K A.C_WrongLength
  xP_NoPlace : PySem.W.excIn K A.C_NoPlace [.type "ValueError", .type "Exception", .type "BaseException", .type "object"] "ValueError.__new__" = true
  kP_NoPlace : PySem.W.keepIn K (.ref A.C_NoPlace) = true
  bP_NoPlace : PySem.W.subIn K (.ref A.C_NoPlace) (.type "BaseException") = some true
  tP_NoPlace : PySem.W.typeIn K (.ref A.C_NoPlace) = some (.type "type")
  ex_NoPlace : ExcC K A.C_NoPlace
  xm_BadSpread_BadSpread : PySem.W.exmOne K (.ref A.C_BadSpread) (.ref A.C_BadSpread) = some true
  xm_TooMany_BadSpread : PySem.W.exmOne K (.ref A.C_TooMany) (.ref A.C_BadSpread) = some false
  xm_TooMany_TooMany : PySem.W.exmOne K (.ref A.C_TooMany) (.ref A.C_TooMany) = some true
  kit_BadSpread_WatchError : PySem.W.kitOne K (.ref A.C_BadSpread) (.ref A.C_WatchError) = some true
  kit_BadSpread_ValueError : PySem.W.kitOne K (.ref A.C_BadSpread) (.type "ValueError") = some true
  kit_BadSpread_TooMany : PySem.W.kitOne K (.ref A.C_BadSpread) (.ref A.C_TooMany) = some false
  kit_TooMany_WatchError : PySem.W.kitOne K (.ref A.C_TooMany) (.ref A.C_WatchError) = some true
  kit_TooMany_ValueError : PySem.W.kitOne K (.ref A.C_TooMany) (.type "ValueError") = some true
  cl_House : Cls K A.C_House
  mk_House : Mk K A.C_House A.f_House_init
  na_House_hours : NoAttr K A.C_House "hours"
  na_House_names : NoAttr K A.C_House "names"
  na_House_stakes : NoAttr K A.C_House "stakes"
  ty_House : ∀ (H : Hp) (a dx : Addr) (fs : List (Str × V)), H a = some (.ins A.C_House dx fs) → TyX K H (.ref a) (.ref A.C_House)
  rd_House : ∃ mc, ClX.CRead K A.C_House mc ∧ (∃ t, ClX.CVal K A.C_House mc "MOST_HOURS" (.int 24) (.int 24 t)) ∧ (∃ t, ClX.CVal K A.C_House mc "MOST_GATES" (.int 4) (.int 4 t)) ∧ (∃ t, ClX.CVal K A.C_House mc "MOST_CELLS" (.int 48) (.int 48 t)) ∧ (∃ t, ClX.CVal K A.C_House mc "MOST_STAKE" (.int 60) (.int 60 t))
  cl_Watch : Cls K A.C_Watch
  mk_Watch : Mk K A.C_Watch A.f_Watch_init
  na_Watch_house : NoAttr K A.C_Watch "house"
  na_Watch_rows : NoAttr K A.C_Watch "_rows"
  ty_Watch : ∀ (H : Hp) (a dx : Addr) (fs : List (Str × V)), H a = some (.ins A.C_Watch dx fs) → TyX K H (.ref a) (.ref A.C_Watch)
  rd_Watch : ∃ mc, ClX.CRead K A.C_Watch mc ∧ (∃ t, ClX.CVal K A.C_Watch mc "MOST" (.int 96) (.int 96 t))
  M_House_len : Meth K A.C_House "__len__" A.f_House_len
  P_Watch_rows : PropOf K A.C_Watch "rows" A.p_Watch_rows A.f_Watch_rows
  M_Watch_getitem : Meth K A.C_Watch "__getitem__" A.f_Watch_getitem
  FI_Watch_getitem : PySem.W.fnIn K A.f_Watch_getitem = true
section
variable {P : Program} {w : World} {K : PySem.W.Frag} {mg : Str → Option Value} {base : Heap} {A : Ads}
theorem sc_BadNumber_init : FnScope N_BadNumber_init (["self", "name", "value"] : List Str) (defScope s_BadNumber_init) := ⟨rfl, rfl, rfl, by decide +kernel, rfl, by decide +kernel, by decide +kernel⟩
theorem b_BadNumber_init (T : Txt K mg A) : Binds K A.d_BadNumber_init (["self", "name", "value"] : List Str) [] := T.F_BadNumber_init.binds (ps := (["self", "name", "value"] : List Str)) fun _ _ _ _ _ _ us hl => match us, hl with | [_, _, _], _ => rfl
theorem sc_TooMany_init : FnScope N_TooMany_init (["self", "name", "most"] : List Str) (defScope s_TooMany_init) := ⟨rfl, rfl, rfl, by decide +kernel, rfl, by decide +kernel, by decide +kernel⟩
theorem b_TooMany_init (T : Txt K mg A) : Binds K A.d_TooMany_init (["self", "name", "most"] : List Str) [] := T.F_TooMany_init.binds (ps := (["self", "name", "most"] : List Str)) fun _ _ _ _ _ _ us hl => match us, hl with | [_, _, _], _ => rfl
theorem sc_WrongLength_init : FnScope N_WrongLength_init (["self", "length"] : List Str) (defScope s_WrongLength_init) := ⟨rfl, rfl, rfl, by decide +kernel, rfl, by decide +kernel, by decide +kernel⟩
theorem b_WrongLength_init (T : Txt K mg A) : Binds K A.d_WrongLength_init (["self", "length"] : List Str) [] := T.F_WrongLength_init.binds (ps := (["self", "length"] : List Str)) fun _ _ _ _ _ _ us hl => match us, hl with | [_, _], _ => rfl
theorem sc_BadName_init : FnScope N_BadName_init (["self", "name"] : List Str) (defScope s_BadName_init) := ⟨rfl, rfl, rfl, by decide +kernel, rfl, by decide +kernel, by decide +kernel⟩
theorem b_BadName_init (T : Txt K mg A) : Binds K A.d_BadName_init (["self", "name"] : List Str) [] := T.F_BadName_init.binds (ps := (["self", "name"] : List Str)) fun _ _ _ _ _ _ us hl => match us, hl with | [_, _], _ => rfl
theorem sc_RepeatedName_init : FnScope N_RepeatedName_init (["self", "name"] : List Str) (defScope s_RepeatedName_init) := ⟨rfl, rfl, rfl, by decide +kernel, rfl, by decide +kernel, by decide +kernel⟩
theorem b_RepeatedName_init (T : Txt K mg A) : Binds K A.d_RepeatedName_init (["self", "name"] : List Str) [] := T.F_RepeatedName_init.binds (ps := (["self", "name"] : List Str)) fun _ _ _ _ _ _ us hl => match us, hl with | [_, _], _ => rfl
theorem sc_BadSpread_init : FnScope N_BadSpread_init (["self", "index"] : List Str) (defScope s_BadSpread_init) := ⟨rfl, rfl, rfl, by decide +kernel, rfl, by decide +kernel, by decide +kernel⟩
theorem b_BadSpread_init (T : Txt K mg A) : Binds K A.d_BadSpread_init (["self", "index"] : List Str) [] := T.F_BadSpread_init.binds (ps := (["self", "index"] : List Str)) fun _ _ _ _ _ _ us hl => match us, hl with | [_, _], _ => rfl
theorem sc_check_name : FnScope N_check_name (["name"] : List Str) (defScope s_check_name) := ⟨rfl, rfl, rfl, by decide +kernel, rfl, by decide +kernel, by decide +kernel⟩
theorem b_check_name (T : Txt K mg A) : Binds K A.d_check_name (["name"] : List Str) [] := T.F_check_name.binds (ps := (["name"] : List Str)) fun _ _ _ _ _ _ us hl => match us, hl with | [_], _ => rfl
theorem sc_check_new_name : FnScope N_check_new_name (["name", "names"] : List Str) (defScope s_check_new_name) := ⟨rfl, rfl, rfl, by decide +kernel, rfl, by decide +kernel, by decide +kernel⟩
theorem b_check_new_name (T : Txt K mg A) : Binds K A.d_check_new_name (["name", "names"] : List Str) [] := T.F_check_new_name.binds (ps := (["name", "names"] : List Str)) fun _ _ _ _ _ _ us hl => match us, hl with | [_, _], _ => rfl
theorem sc_House_init : FnScope N_House_init (["self", "hours", "gates"] : List Str) (defScope s_House_init) := ⟨rfl, rfl, rfl, by decide +kernel, rfl, by decide +kernel, by decide +kernel⟩
theorem b_House_init (T : Txt K mg A) : Binds K A.d_House_init (["self", "hours", "gates"] : List Str) [] := T.F_House_init.binds (ps := (["self", "hours", "gates"] : List Str)) fun _ _ _ _ _ _ us hl => match us, hl with | [_, _, _], _ => rfl
theorem sc_House_len : FnScope N_House_len (["self"] : List Str) (defScope s_House_len) := ⟨rfl, rfl, rfl, by decide +kernel, rfl, by decide +kernel, by decide +kernel⟩
theorem b_House_len (T : Txt K mg A) : Binds K A.d_House_len (["self"] : List Str) [] := T.F_House_len.binds (ps := (["self"] : List Str)) fun _ _ _ _ _ _ us hl => match us, hl with | [_], _ => rfl
theorem sc_is_gate : FnScope N_is_gate (["house", "gate"] : List Str) (defScope s_is_gate) := ⟨rfl, rfl, rfl, by decide +kernel, rfl, by decide +kernel, by decide +kernel⟩
theorem b_is_gate (T : Txt K mg A) : Binds K A.d_is_gate (["house", "gate"] : List Str) [] := T.F_is_gate.binds (ps := (["house", "gate"] : List Str)) fun _ _ _ _ _ _ us hl => match us, hl with | [_, _], _ => rfl
theorem sc_is_cell : FnScope N_is_cell (["house", "cell"] : List Str) (defScope s_is_cell) := ⟨rfl, rfl, rfl, by decide +kernel, rfl, by decide +kernel, by decide +kernel⟩
theorem b_is_cell (T : Txt K mg A) : Binds K A.d_is_cell (["house", "cell"] : List Str) [] := T.F_is_cell.binds (ps := (["house", "cell"] : List Str)) fun _ _ _ _ _ _ us hl => match us, hl with | [_, _], _ => rfl
theorem sc_total_tries : FnScope N_total_tries (["house", "spread"] : List Str) (defScope s_total_tries) := ⟨rfl, rfl, rfl, by decide +kernel, rfl, by decide +kernel, by decide +kernel⟩
theorem b_total_tries (T : Txt K mg A) : Binds K A.d_total_tries (["house", "spread"] : List Str) [] := T.F_total_tries.binds (ps := (["house", "spread"] : List Str)) fun _ _ _ _ _ _ us hl => match us, hl with | [_, _], _ => rfl
theorem sc_u_check_row : FnScope N_u_check_row (["house", "row"] : List Str) (defScope s_u_check_row) := ⟨rfl, rfl, rfl, by decide +kernel, rfl, by decide +kernel, by decide +kernel⟩
theorem b_u_check_row (T : Txt K mg A) : Binds K A.d_u_check_row (["house", "row"] : List Str) [] := T.F_u_check_row.binds (ps := (["house", "row"] : List Str)) fun _ _ _ _ _ _ us hl => match us, hl with | [_, _], _ => rfl
theorem sc_Watch_init : FnScope N_Watch_init (["self", "house", "rows"] : List Str) (defScope s_Watch_init) := ⟨rfl, rfl, rfl, by decide +kernel, rfl, by decide +kernel, by decide +kernel⟩
theorem b_Watch_init (T : Txt K mg A) : Binds K A.d_Watch_init (["self", "house", "rows"] : List Str) [] := T.F_Watch_init.binds (ps := (["self", "house", "rows"] : List Str)) fun _ _ _ _ _ _ us hl => match us, hl with | [_, _, _], _ => rfl
theorem sc_Watch_rows : FnScope N_Watch_rows (["self"] : List Str) (defScope s_Watch_rows) := ⟨rfl, rfl, rfl, by decide +kernel, rfl, by decide +kernel, by decide +kernel⟩
theorem b_Watch_rows (T : Txt K mg A) : Binds K A.d_Watch_rows (["self"] : List Str) [] := T.F_Watch_rows.binds (ps := (["self"] : List Str)) fun _ _ _ _ _ _ us hl => match us, hl with | [_], _ => rfl
theorem sc_Watch_getitem : FnScope N_Watch_getitem (["self", "at"] : List Str) (defScope s_Watch_getitem) := ⟨rfl, rfl, rfl, by decide +kernel, rfl, by decide +kernel, by decide +kernel⟩
theorem b_Watch_getitem (T : Txt K mg A) : Binds K A.d_Watch_getitem (["self", "at"] : List Str) [] := T.F_Watch_getitem.binds (ps := (["self", "at"] : List Str)) fun _ _ _ _ _ _ us hl => match us, hl with | [_, _], _ => rfl
theorem sc_loss : FnScope N_loss (["watch", "spread"] : List Str) (defScope s_loss) := ⟨rfl, rfl, rfl, by decide +kernel, rfl, by decide +kernel, by decide +kernel⟩
theorem b_loss (T : Txt K mg A) : Binds K A.d_loss (["watch", "spread"] : List Str) [] := T.F_loss.binds (ps := (["watch", "spread"] : List Str)) fun _ _ _ _ _ _ us hl => match us, hl with | [_, _], _ => rfl
theorem sc_u_law_cell : FnScope N_u_law_cell (["script", "k"] : List Str) (defScope s_u_law_cell) := ⟨rfl, rfl, rfl, by decide +kernel, rfl, by decide +kernel, by decide +kernel⟩
theorem b_u_law_cell (T : Txt K mg A) : Binds K A.d_u_law_cell (["script", "k"] : List Str) [] := T.F_u_law_cell.binds (ps := (["script", "k"] : List Str)) fun _ _ _ _ _ _ us hl => match us, hl with | [_, _], _ => rfl
theorem sc_u_law_draws : FnScope N_u_law_draws (["cell", "salt", "menu"] : List Str) (defScope s_u_law_draws) := ⟨rfl, rfl, rfl, by decide +kernel, rfl, by decide +kernel, by decide +kernel⟩
theorem b_u_law_draws (T : Txt K mg A) : Binds K A.d_u_law_draws (["cell", "salt", "menu"] : List Str) [] := T.F_u_law_draws.binds (ps := (["cell", "salt", "menu"] : List Str)) fun _ _ _ _ _ _ us hl => match us, hl with | [_, _, _], _ => rfl
theorem sc_u_law_is_int : FnScope N_u_law_is_int (["x"] : List Str) (defScope s_u_law_is_int) := ⟨rfl, rfl, rfl, by decide +kernel, rfl, by decide +kernel, by decide +kernel⟩
theorem b_u_law_is_int (T : Txt K mg A) : Binds K A.d_u_law_is_int (["x"] : List Str) [] := T.F_u_law_is_int.binds (ps := (["x"] : List Str)) fun _ _ _ _ _ _ us hl => match us, hl with | [_], _ => rfl
theorem sc_u_law_same : FnScope N_u_law_same (["got", "due"] : List Str) (defScope s_u_law_same) := ⟨rfl, rfl, rfl, by decide +kernel, rfl, by decide +kernel, by decide +kernel⟩
theorem b_u_law_same (T : Txt K mg A) : Binds K A.d_u_law_same (["got", "due"] : List Str) [] := T.F_u_law_same.binds (ps := (["got", "due"] : List Str)) fun _ _ _ _ _ _ us hl => match us, hl with | [_, _], _ => rfl
theorem sc_u_law_name : FnScope N_u_law_name (["number"] : List Str) (defScope s_u_law_name) := ⟨rfl, rfl, rfl, by decide +kernel, rfl, by decide +kernel, by decide +kernel⟩
theorem b_u_law_name (T : Txt K mg A) : Binds K A.d_u_law_name (["number"] : List Str) [] := T.F_u_law_name.binds (ps := (["number"] : List Str)) fun _ _ _ _ _ _ us hl => match us, hl with | [_], _ => rfl
theorem sc_u_law_names : FnScope N_u_law_names (["numbers"] : List Str) (defScope s_u_law_names) := ⟨rfl, rfl, rfl, by decide +kernel, rfl, by decide +kernel, by decide +kernel⟩
theorem b_u_law_names (T : Txt K mg A) : Binds K A.d_u_law_names (["numbers"] : List Str) [] := T.F_u_law_names.binds (ps := (["numbers"] : List Str)) fun _ _ _ _ _ _ us hl => match us, hl with | [_], _ => rfl
theorem sc_u_law_gates : FnScope N_u_law_gates (["numbers", "stakes"] : List Str) (defScope s_u_law_gates) := ⟨rfl, rfl, rfl, by decide +kernel, rfl, by decide +kernel, by decide +kernel⟩
theorem b_u_law_gates (T : Txt K mg A) : Binds K A.d_u_law_gates (["numbers", "stakes"] : List Str) [] := T.F_u_law_gates.binds (ps := (["numbers", "stakes"] : List Str)) fun _ _ _ _ _ _ us hl => match us, hl with | [_, _], _ => rfl
theorem sc_u_law_rows : FnScope N_u_law_rows (["gates", "n", "numbers"] : List Str) (defScope s_u_law_rows) := ⟨rfl, rfl, rfl, by decide +kernel, rfl, by decide +kernel, by decide +kernel⟩
theorem b_u_law_rows (T : Txt K mg A) : Binds K A.d_u_law_rows (["gates", "n", "numbers"] : List Str) [] := T.F_u_law_rows.binds (ps := (["gates", "n", "numbers"] : List Str)) fun _ _ _ _ _ _ us hl => match us, hl with | [_, _, _], _ => rfl
theorem sc_u_law_spread : FnScope N_u_law_spread (["cell", "gates", "n"] : List Str) (defScope s_u_law_spread) := ⟨rfl, rfl, rfl, by decide +kernel, rfl, by decide +kernel, by decide +kernel⟩
theorem b_u_law_spread (T : Txt K mg A) : Binds K A.d_u_law_spread (["cell", "gates", "n"] : List Str) [] := T.F_u_law_spread.binds (ps := (["cell", "gates", "n"] : List Str)) fun _ _ _ _ _ _ us hl => match us, hl with | [_, _, _], _ => rfl
theorem sc_u_law_strengths : FnScope N_u_law_strengths (["cell", "other", "salt", "gates", "n", "spread"] : List Str) (defScope s_u_law_strengths) := ⟨rfl, rfl, rfl, by decide +kernel, rfl, by decide +kernel, by decide +kernel⟩
theorem b_u_law_strengths (T : Txt K mg A) : Binds K A.d_u_law_strengths (["cell", "other", "salt", "gates", "n", "spread"] : List Str) [] := T.F_u_law_strengths.binds (ps := (["cell", "other", "salt", "gates", "n", "spread"] : List Str)) fun _ _ _ _ _ _ us hl => match us, hl with | [_, _, _, _, _, _], _ => rfl
theorem sc_u_law_due : FnScope N_u_law_due (["stakes", "rows", "spread"] : List Str) (defScope s_u_law_due) := ⟨rfl, rfl, rfl, by decide +kernel, rfl, by decide +kernel, by decide +kernel⟩
theorem b_u_law_due (T : Txt K mg A) : Binds K A.d_u_law_due (["stakes", "rows", "spread"] : List Str) [] := T.F_u_law_due.binds (ps := (["stakes", "rows", "spread"] : List Str)) fun _ _ _ _ _ _ us hl => match us, hl with | [_, _, _], _ => rfl
theorem sc_u_law_fault : FnScope N_u_law_fault (["spread", "kind", "place", "gates", "n"] : List Str) (defScope s_u_law_fault) := ⟨rfl, rfl, rfl, by decide +kernel, rfl, by decide +kernel, by decide +kernel⟩
theorem b_u_law_fault (T : Txt K mg A) : Binds K A.d_u_law_fault (["spread", "kind", "place", "gates", "n"] : List Str) [] := T.F_u_law_fault.binds (ps := (["spread", "kind", "place", "gates", "n"] : List Str)) fun _ _ _ _ _ _ us hl => match us, hl with | [_, _, _, _, _], _ => rfl
theorem sc_u_law_refused : FnScope N_u_law_refused (["watch", "row"] : List Str) (defScope s_u_law_refused) := ⟨rfl, rfl, rfl, by decide +kernel, rfl, by decide +kernel, by decide +kernel⟩
theorem b_u_law_refused (T : Txt K mg A) : Binds K A.d_u_law_refused (["watch", "row"] : List Str) [] := T.F_u_law_refused.binds (ps := (["watch", "row"] : List Str)) fun _ _ _ _ _ _ us hl => match us, hl with | [_, _], _ => rfl
theorem sc_u_law_loses : FnScope N_u_law_loses (["watches", "stakes", "tables", "spread"] : List Str) (defScope s_u_law_loses) := ⟨rfl, rfl, rfl, by decide +kernel, rfl, by decide +kernel, by decide +kernel⟩
theorem b_u_law_loses (T : Txt K mg A) : Binds K A.d_u_law_loses (["watches", "stakes", "tables", "spread"] : List Str) [] := T.F_u_law_loses.binds (ps := (["watches", "stakes", "tables", "spread"] : List Str)) fun _ _ _ _ _ _ us hl => match us, hl with | [_, _, _, _], _ => rfl
theorem sc_law : FnScope N_law (["script"] : List Str) (defScope s_law) := ⟨rfl, rfl, rfl, by decide +kernel, rfl, by decide +kernel, by decide +kernel⟩
theorem b_law (T : Txt K mg A) : Binds K A.d_law (["script"] : List Str) [] := T.F_law.binds (ps := (["script"] : List Str)) fun _ _ _ _ _ _ us hl => match us, hl with | [_], _ => rfl
theorem ok_BadNumber_init (T : Txt K mg A) : FnOk P w K mg base CX0 1 A.f_BadNumber_init A.d_BadNumber_init (["self", "name", "value"] : List Str) (spErr2 K A.C_BadNumber "name" "value") := by
  refine T.F_BadNumber_init.ok sc_BadNumber_init (fun vs H Q E h => ?_) (fun cdv Ar outer s H vs Q E hr h => ?_)
  · obtain ⟨a, x, y, rfl, _⟩ := h
    rfl
  · obtain ⟨a, x, y, rfl, hC, ha, k⟩ := h
    refine ⟨_, (pss_cons (ps_ost (pv 0) (pv 1))
        (pss_one (ps_ost (pv 0) (pv 2)))), ?_⟩
    refine ⟨_, rfl, _, rfl, a, _, rfl, hC, T.nf_BadNumber_name, .inl ⟨ha, fun d hd hne => ?_⟩⟩
    refine ⟨_, rfl, _, rfl, a, _, rfl, hC, T.nf_BadNumber_value, .inr ⟨d, _, upd_same, ?_, by show (1 : Nat) ≤ 900; decide, k d hd hne⟩⟩
    rw [upd_ne hne, upd_same]
theorem ok_TooMany_init (T : Txt K mg A) : FnOk P w K mg base CX0 1 A.f_TooMany_init A.d_TooMany_init (["self", "name", "most"] : List Str) (spErr2 K A.C_TooMany "name" "most") := by
  refine T.F_TooMany_init.ok sc_TooMany_init (fun vs H Q E h => ?_) (fun cdv Ar outer s H vs Q E hr h => ?_)
  · obtain ⟨a, x, y, rfl, _⟩ := h
    rfl
  · obtain ⟨a, x, y, rfl, hC, ha, k⟩ := h
    refine ⟨_, (pss_cons (ps_ost (pv 0) (pv 1))
        (pss_one (ps_ost (pv 0) (pv 2)))), ?_⟩
    refine ⟨_, rfl, _, rfl, a, _, rfl, hC, T.nf_TooMany_name, .inl ⟨ha, fun d hd hne => ?_⟩⟩
    refine ⟨_, rfl, _, rfl, a, _, rfl, hC, T.nf_TooMany_most, .inr ⟨d, _, upd_same, ?_, by show (1 : Nat) ≤ 900; decide, k d hd hne⟩⟩
    rw [upd_ne hne, upd_same]
theorem ok_WrongLength_init (T : Txt K mg A) : FnOk P w K mg base CX0 1 A.f_WrongLength_init A.d_WrongLength_init (["self", "length"] : List Str) (spErr1 K A.C_WrongLength "length") := by
  refine T.F_WrongLength_init.ok sc_WrongLength_init (fun vs H Q E h => ?_) (fun cdv Ar outer s H vs Q E hr h => ?_)
  · obtain ⟨a, x, rfl, _⟩ := h
    rfl
  · obtain ⟨a, x, rfl, hC, ha, k⟩ := h
    refine ⟨_, (pss_one (ps_ost (pv 0) (pv 1))), ?_⟩
    exact ⟨_, rfl, _, rfl, a, _, rfl, hC, T.nf_WrongLength_length, .inl ⟨ha, fun d hd hne => k d hd hne⟩⟩
theorem ok_BadName_init (T : Txt K mg A) : FnOk P w K mg base CX0 1 A.f_BadName_init A.d_BadName_init (["self", "name"] : List Str) (spErr1 K A.C_BadName "name") := by
  refine T.F_BadName_init.ok sc_BadName_init (fun vs H Q E h => ?_) (fun cdv Ar outer s H vs Q E hr h => ?_)
  · obtain ⟨a, x, rfl, _⟩ := h
    rfl
  · obtain ⟨a, x, rfl, hC, ha, k⟩ := h
    refine ⟨_, (pss_one (ps_ost (pv 0) (pv 1))), ?_⟩
    exact ⟨_, rfl, _, rfl, a, _, rfl, hC, T.nf_BadName_name, .inl ⟨ha, fun d hd hne => k d hd hne⟩⟩
theorem ok_RepeatedName_init (T : Txt K mg A) : FnOk P w K mg base CX0 1 A.f_RepeatedName_init A.d_RepeatedName_init (["self", "name"] : List Str) (spErr1 K A.C_RepeatedName "name") := by
  refine T.F_RepeatedName_init.ok sc_RepeatedName_init (fun vs H Q E h => ?_) (fun cdv Ar outer s H vs Q E hr h => ?_)
  · obtain ⟨a, x, rfl, _⟩ := h
    rfl
  · obtain ⟨a, x, rfl, hC, ha, k⟩ := h
    refine ⟨_, (pss_one (ps_ost (pv 0) (pv 1))), ?_⟩
    exact ⟨_, rfl, _, rfl, a, _, rfl, hC, T.nf_RepeatedName_name, .inl ⟨ha, fun d hd hne => k d hd hne⟩⟩
theorem ok_BadSpread_init (T : Txt K mg A) : FnOk P w K mg base CX0 1 A.f_BadSpread_init A.d_BadSpread_init (["self", "index"] : List Str) (spErr1 K A.C_BadSpread "index") := by
  refine T.F_BadSpread_init.ok sc_BadSpread_init (fun vs H Q E h => ?_) (fun cdv Ar outer s H vs Q E hr h => ?_)
  · obtain ⟨a, x, rfl, _⟩ := h
    rfl
  · obtain ⟨a, x, rfl, hC, ha, k⟩ := h
    refine ⟨_, (pss_one (ps_ost (pv 0) (pv 1))), ?_⟩
    exact ⟨_, rfl, _, rfl, a, _, rfl, hC, T.nf_BadSpread_index, .inl ⟨ha, fun d hd hne => k d hd hne⟩⟩

def BadName (A : Ads) (z : Str) (H : Hp) (E : XK) : Prop := ∀ d H', Ex H H' → H' d = some (.xd [("name", .str z)]) → E (.ref A.C_BadName) (some d) H'
def spChkName (A : Ads) : Sp := fun vs H Q E => ∃ z : Str, vs = [.str z] ∧ z.length ≤ 100000 ∧ (goodName z = false → BadName A z H E) ∧ (goodName z = true → ∀ H', Ex H H' → Q .non H')
theorem ok_check_name (T : Txt K mg A) : FnOk P w K mg base (L2.CX P w) 4 A.f_check_name A.d_check_name (["name"] : List Str) (spChkName A) := by
  refine T.F_check_name.okX sc_check_name (fun vs H Q E h => ?_) (fun cdv Ar outer s H vs Q E hr h => ?_)
  · obtain ⟨z, rfl, _⟩ := h
    rfl
  · obtain ⟨z, rfl, hz, k1, k2⟩ := h
    obtain ⟨tc_LONGEST_NAME, gc_LONGEST_NAME⟩ := T.c_LONGEST_NAME
    obtain ⟨tc_LETTERS, gc_LETTERS⟩ := T.c_LETTERS
    refine ⟨_, (pss_cons (ps_if (PW.pt (pw_or (pt_cmpR op_lt (pe_callB len_K (by rfl) T.z_len (by decide +kernel) (pa_cons (pv 0) pa_nil)) pe_int (nomark _)) (pw_or1 (pt_cmpR op_gt (pe_callB len_K (by rfl) T.z_len (by decide +kernel) (pa_cons (pv 0) pa_nil)) (pe_glob (v := .int 8) rfl gc_LONGEST_NAME ⟨_, rfl⟩) (nomark _))))) (pss_one (ps_raise rfl (takes_of rfl rfl rfl rfl) (pmk_oex T.ox_BadName T.ni_BadName T.ti_BadName (ok_BadName_init T) (hr.mono (by omega)) (b_BadName_init T) .nil pass0 rfl T.g_BadName (pa_cons (pv 0) pa_nil)))) pss_nil)
        (pss_one (ps_for (passes_of rfl) rfl (pi_str (pv 0)) (pg_name (i := 1) sc_check_name.nd rfl (Or.inl rfl)) (pss_one (ps_if (pt_cmpR op_notIn_sign (pv 1) (pe_glob (v := .str "abcdefghijklmnopqrstuvwxyz") rfl gc_LETTERS ⟨_, rfl⟩) (by with_unfolding_all rfl)) (pss_one (ps_raise rfl (takes_of rfl rfl rfl rfl) (pmk_oex T.ox_BadName T.ni_BadName T.ti_BadName (ok_BadName_init T) (hr.mono (by omega)) (b_BadName_init T) .nil pass0 rfl T.g_BadName (pa_cons (pv 0) pa_nil)))) pss_nil))))), ?_⟩
    have ra : ∀ {σ : L2.St} {G : Hp}, σ[0]? = some (some (.str z)) → Ex H G → goodName z = false → tMkO A.C_BadName (spErr1 K A.C_BadName "name") [] (tCons (tVar 0) tNil) σ G E := fun h0 e hb => raise1 (C := A.C_BadName) (f := "name") (x := .str z) T.ox_BadName (fun Q q => ⟨_, h0, q⟩) (fun d H' e' hd => k1 hb d H' (e.trans e') hd)
    try dsimp only
    refine q_when (b := decide (((z.length : Nat) : Int) < 1) || decide (8 < ((z.length : Nat) : Int))) (et_or (et_test (ev_op (ev_lenS (K := K) (ev_var (i := 0) rfl) hz) ev_c rv_I0)) fun _ => et_test (ev_op (ev_lenS (K := K) (ev_var (i := 0) rfl) hz) ev_c rv_I0)) (fun h H1 e1 => ?_) (fun h H1 e1 => ?_)
    · refine ra rfl e1 ?_
      unfold goodName
      rw [Bool.or_eq_true, decide_eq_true_iff, decide_eq_true_iff] at h
      rw [decide_eq_false (by omega)]
      rfl
    have hl : 1 ≤ z.length ∧ z.length ≤ 8 := by
      rw [Bool.or_eq_false_iff, decide_eq_false_iff_not, decide_eq_false_iff_not] at h
      omega
    try dsimp only
    refine s_forI (ei_str (ev_var (i := 0) rfl)) fun H2 e2 => ⟨fun i σ' G => (∃ lv : Option V, σ' = [some (.str z), lv]) ∧ Ex H2 G ∧ ∀ j, j < i → ∀ c, z.cps[j]? = some c → c ∈ LET.cps.toList, ⟨⟨none, rfl⟩, Ex.refl _, fun j hj => absurd hj (Nat.not_lt_zero _)⟩, fun i σ' G _ p => p.2.1, ?_, ?_⟩
    · rintro i x σ' G G' hi ⟨⟨lv, rfl⟩, eG, hall⟩ ⟨rfl, c, hc, rfl⟩
      have e12 := (e1.trans e2).trans eG
      dsimp only [gName]
      refine s_when (b := !decide (c ∈ LET.cps.toList)) (et_test (ev_op (ev_var (i := 1) rfl) ev_c rv_niS)) (fun h G1 g1 => ?_) (fun h G1 g1 => ⟨⟨_, rfl⟩, eG.trans g1, fun j hj d hd => ?_⟩)
      · refine ra rfl (e12.trans g1) ?_
        unfold goodName
        rw [Bool.and_eq_false_iff]
        refine .inr (List.all_eq_false.mpr ⟨c, ?_, by simpa using h⟩)
        exact List.mem_of_getElem? (i := i) (by simpa using hc)
      · by_cases c' : j < i
        · exact hall j c' d hd
        · have : j = i := by omega
          subst this
          rw [hc] at hd
          cases hd
          simpa using h
    rintro σ' G ⟨⟨lv, rfl⟩, eG, hall⟩
    refine k2 ?_ G ((e1.trans e2).trans eG)
    unfold goodName
    rw [Bool.and_eq_true, decide_eq_true_iff, List.all_eq_true]
    refine ⟨hl, fun c hc => decide_eq_true ?_⟩
    obtain ⟨j, hj⟩ := List.getElem?_of_mem hc
    have hj' : z.cps[j]? = some c := by simpa using hj
    exact hall j (by have := (List.getElem?_eq_some_iff.mp hj).1; simpa using this) c hj' 

def Again (A : Ads) (z : Str) (H : Hp) (E : XK) : Prop := ∀ d H', Ex H H' → H' d = some (.xd [("name", .str z)]) → E (.ref A.C_RepeatedName) (some d) H'
def spChkNew (K : PySem.W.Frag) (A : Ads) : Sp := fun vs H Q E => ∃ (z : Str) (p : Addr) (ns : List Str), vs = [.str z, .ref p] ∧ z.length ≤ 100000 ∧ SqL K H p (ns.map V.str) ∧ (goodName z = false → BadName A z H E) ∧ (goodName z = true → z ∈ ns → Again A z H E) ∧ (goodName z = true → z ∉ ns → ∀ H', Ex H H' → Q .non H')
theorem ok_check_new_name (T : Txt K mg A) : FnOk P w K mg base (L2.CX P w) 5 A.f_check_new_name A.d_check_new_name (["name", "names"] : List Str) (spChkNew K A) := by
  refine T.F_check_new_name.okX sc_check_new_name (fun vs H Q E h => ?_) (fun cdv Ar outer s H vs Q E hr h => ?_)
  · obtain ⟨z, p, ns, rfl, _⟩ := h
    rfl
  · obtain ⟨z, p, ns, rfl, hz, hp, k1, k2, k3⟩ := h
    refine ⟨_, (pss_cons (ps_expr (pe_call (ok_check_name T) (hr.mono (by omega)) rfl T.g_check_name T.k_check_name (b_check_name T) .nil (passes_call (takes_of rfl rfl rfl rfl) (fun _ _ _ _ h => h)) (pa_cons (pv 0) pa_nil)))
        (pss_one (ps_if (pt_cmpR in_K (pv 0) (pv 1) (by with_unfolding_all rfl)) (pss_one (ps_raise rfl (takes_of rfl rfl rfl rfl) (pmk_oex T.ox_RepeatedName T.ni_RepeatedName T.ti_RepeatedName (ok_RepeatedName_init T) (hr.mono (by omega)) (b_RepeatedName_init T) .nil pass0 rfl T.g_RepeatedName (pa_cons (pv 0) pa_nil)))) pss_nil))), ?_⟩
    refine ⟨_, rfl, z, rfl, hz, k1, fun hg H1 e1 => ?_⟩
    try dsimp only
    refine s_when (b := decide (z ∈ ns)) (et_test (ev_is (ev_op (ev_var (i := 0) rfl) (ev_var (i := 1) rfl) (rv_inL (neg := false) (ex_l e1 hp) rfl (strs_flat ns))) (by rw [← inV_strs]; rfl))) (fun h H2 e2 => ?_) (fun h H2 e2 => k3 hg (of_decide_eq_false h) H2 (e1.trans e2))
    exact raise1 (C := A.C_RepeatedName) (f := "name") (x := .str z) T.ox_RepeatedName (fun Q q => ⟨_, rfl, q⟩) (fun d H' e' hd => k2 hg (of_decide_eq_true h) d H' ((e1.trans e2).trans e') hd)

theorem putF3 {y z u : V} : putF "stakes" u (putF "names" z (putF "hours" y [])) = [(("hours" : Str), y), (("names" : Str), z), (("stakes" : Str), u)] := by
  have h1 : ¬ ("hours" : Str) = "names" := by decide +kernel
  have h2 : ¬ ("hours" : Str) = "stakes" := by decide +kernel
  have h3 : ¬ ("names" : Str) = "stakes" := by decide +kernel
  have e : putF "names" z (putF "hours" y []) = [(("hours" : Str), y), (("names" : Str), z)] := by
    show (if ("hours" : Str) = "names" then _ else (("hours" : Str), y) :: putF "names" z []) = _
    rw [if_neg h1]
    rfl
  rw [e]
  show (if ("hours" : Str) = "stakes" then _ else (("hours" : Str), y) :: (if ("names" : Str) = "stakes" then _ else (("names" : Str), z) :: putF "stakes" u [])) = _
  rw [if_neg h2, if_neg h3]
  rfl
theorem he_scan {n : Int} {gs : List (Str × Int)} {e : HErr} (h1 : ¬ (n < 1 ∨ 24 < n)) (h2 : ¬ gs.length = 0) (h3 : ¬ 4 < gs.length) (hs : scanG [] gs = some e) : houseErr n gs = some e := by
  unfold houseErr
  rw [if_neg h1, if_neg h2, if_neg h3, hs]
def HE (A : Ads) (n : Int) (H : Hp) (E : XK) : HErr → Prop
  | .hours => ∀ d H', Ex H H' → H' d = some (.xd [("value", .int n), ("name", .str "hours")]) → E (.ref A.C_BadNumber) (some d) H'
  | .noGates => ∀ d H', Ex H H' → H' d = some (.xd [("value", .int 0), ("name", .str "gates")]) → E (.ref A.C_BadNumber) (some d) H'
  | .manyGates => ∀ d H', Ex H H' → H' d = some (.xd [("most", .int 4), ("name", .str "gates")]) → E (.ref A.C_TooMany) (some d) H'
  | .name z => BadName A z H E
  | .again z => Again A z H E
  | .stake s => ∀ d H', Ex H H' → H' d = some (.xd [("value", .int s), ("name", .str "stake")]) → E (.ref A.C_BadNumber) (some d) H'
  | .cells => ∀ d H', Ex H H' → H' d = some (.xd [("most", .int 48), ("name", .str "cells")]) → E (.ref A.C_TooMany) (some d) H'
def spHouse (K : PySem.W.Frag) (A : Ads) : Sp := fun vs H Q E => ∃ (x dx p : Addr) (n : Int) (gs : List (Str × Int)), vs = [.ref x, .int n, .ref p] ∧ H x = some (.ins A.C_House dx []) ∧ Gates K H p gs ∧ gs.length ≤ 100 ∧ (∀ g ∈ gs, g.1.length ≤ 100000) ∧ (∀ e, houseErr n gs = some e → HE A n H E e) ∧
  (houseErr n gs = none → ∀ q r H', (∀ b o, b ≠ x → H b = some o → H' b = some o) → H q = none → H r = none → H' x = some (.ins A.C_House dx (houF n q r)) → H' q = some (.tup ((gs.map (·.1)).map V.str)) → H' r = some (.tup ((gs.map (·.2)).map V.int)) → Q .non H')
theorem ok_House_init (T : Txt K mg A) : FnOk P w K mg base (L2.CX P w) 6 A.f_House_init A.d_House_init (["self", "hours", "gates"] : List Str) (spHouse K A) := by
  refine T.F_House_init.okX sc_House_init (fun vs H Q E h => ?_) (fun cdv Ar outer s H vs Q E hr h => ?_)
  · obtain ⟨x, dx, p, n, gs, rfl, _⟩ := h
    rfl
  · obtain ⟨x, dx, p, n, gs, rfl, hx, hG, hgl, hgz, k1, k2⟩ := h
    refine ⟨_, (pss_cons (ps_if (PW.pt (pw_or (pt_cmpR op_lt (pv 1) pe_int (nomark _)) (pw_or1 (pt_cmpR op_gt (pv 1) (ClX.pe_cval (pe_glob (v := .ref A.C_House) rfl T.g_House rfl)) (nomark _))))) (pss_one (ps_raise rfl (takes_of rfl rfl rfl rfl) (pmk_oex T.ox_BadNumber T.ni_BadNumber T.ti_BadNumber (ok_BadNumber_init T) (hr.mono (by omega)) (b_BadNumber_init T) .nil pass0 rfl T.g_BadNumber (pa_cons pe_str (pa_cons (pv 1) pa_nil))))) pss_nil)
        (pss_cons (ps_if (pt_cmpR op_eq (pe_callB len_K (by rfl) T.z_len (by decide +kernel) (pa_cons (pv 2) pa_nil)) pe_int (nomark _)) (pss_one (ps_raise rfl (takes_of rfl rfl rfl rfl) (pmk_oex T.ox_BadNumber T.ni_BadNumber T.ti_BadNumber (ok_BadNumber_init T) (hr.mono (by omega)) (b_BadNumber_init T) .nil pass0 rfl T.g_BadNumber (pa_cons pe_str (pa_cons pe_int pa_nil))))) pss_nil)
        (pss_cons (ps_if (pt_cmpR op_gt (pe_callB len_K (by rfl) T.z_len (by decide +kernel) (pa_cons (pv 2) pa_nil)) (ClX.pe_cval (pe_glob (v := .ref A.C_House) rfl T.g_House rfl)) (nomark _)) (pss_one (ps_raise rfl (takes_of rfl rfl rfl rfl) (pmk_oex T.ox_TooMany T.ni_TooMany T.ti_TooMany (ok_TooMany_init T) (hr.mono (by omega)) (b_TooMany_init T) .nil pass0 rfl T.g_TooMany (pa_cons pe_str (pa_cons (ClX.pe_cval (pe_glob (v := .ref A.C_House) rfl T.g_House rfl)) pa_nil))))) pss_nil)
        (pss_cons (ps_set (i := 3) sc_House_init.nd rfl (Or.inl rfl) (pe_lst pa_nil))
        (pss_cons (ps_set (i := 4) sc_House_init.nd rfl (Or.inl rfl) (pe_lst pa_nil))
        (pss_cons (ps_for (passes_of rfl) rfl (pi_listK (pv 2)) (pg_tup rfl (pgs_cons (pg_name (i := 5) sc_House_init.nd rfl (Or.inl rfl)) (pgs_cons (pg_name (i := 6) sc_House_init.nd rfl (Or.inl rfl)) pgs_nil))) (pss_cons (ps_expr (pe_call (ok_check_new_name T) (hr.mono (by omega)) rfl T.g_check_new_name T.k_check_new_name (b_check_new_name T) .nil (passes_call (takes_of rfl rfl rfl rfl) (fun _ _ _ _ h => h)) (pa_cons (pv 5) (pa_cons (pv 3) pa_nil))))
        (pss_cons (ps_if (PW.pt (pw_or (pt_cmpR op_lt (pv 6) pe_int (nomark _)) (pw_or1 (pt_cmpR op_gt (pv 6) (ClX.pe_cval (pe_glob (v := .ref A.C_House) rfl T.g_House rfl)) (nomark _))))) (pss_one (ps_raise rfl (takes_of rfl rfl rfl rfl) (pmk_oex T.ox_BadNumber T.ni_BadNumber T.ti_BadNumber (ok_BadNumber_init T) (hr.mono (by omega)) (b_BadNumber_init T) .nil pass0 rfl T.g_BadNumber (pa_cons pe_str (pa_cons (pv 6) pa_nil))))) pss_nil)
        (pss_cons (ps_expr (pe_bm PySem.F.plainAttrs_list PySem.F.slot_list_append PySem.F.type_list_append mt_append (pv 3) (pa_cons (pv 5) pa_nil)))
        (pss_one (ps_expr (pe_bm PySem.F.plainAttrs_list PySem.F.slot_list_append PySem.F.type_list_append mt_append (pv 4) (pa_cons (pv 6) pa_nil))))))))
        (pss_cons (ps_if (pt_cmpR op_gt (pe_op op_mul (pv 1) (pe_callB len_K (by rfl) T.z_len (by decide +kernel) (pa_cons (pv 2) pa_nil))) (ClX.pe_cval (pe_glob (v := .ref A.C_House) rfl T.g_House rfl)) (nomark _)) (pss_one (ps_raise rfl (takes_of rfl rfl rfl rfl) (pmk_oex T.ox_TooMany T.ni_TooMany T.ti_TooMany (ok_TooMany_init T) (hr.mono (by omega)) (b_TooMany_init T) .nil pass0 rfl T.g_TooMany (pa_cons pe_str (pa_cons (ClX.pe_cval (pe_glob (v := .ref A.C_House) rfl T.g_House rfl)) pa_nil))))) pss_nil)
        (pss_cons (ps_fld (pv 0) (pv 1) rfl)
        (pss_cons (ps_fld (pv 0) (pe_callTy tup_K (by rfl) T.z_tuple (by decide +kernel) (pa_cons (pv 3) pa_nil)) rfl)
        (pss_one (ps_fld (pv 0) (pe_callTy tup_K (by rfl) T.z_tuple (by decide +kernel) (pa_cons (pv 4) pa_nil)) rfl))))))))))), ?_⟩
    obtain ⟨mc, rdH, ⟨t1, c1⟩, ⟨t2, c2⟩, ⟨t3, c3⟩, ⟨t4, c4⟩⟩ := T.rd_House
    obtain ⟨vs, hvs, hvl, hall⟩ := hG.all
    have lenP : ∀ {σ : L2.St} {G : Hp}, σ[2]? = some (some (.ref p)) → Ex H G → Ev (tCB (rLenK K) (tCons (tVar 2) tNil)) σ G (.int (gs.length : Int)) := fun h2 e => ev_cb (r := rLenK K) (ea_cons (ev_var h2) ea_nil) fun H2 e2 Q q => ⟨.ref p, gs.length, rfl, .inl ⟨vs, ex_l (e.trans e2) hvs, hvl.symm⟩, q H2 (Ex.refl H2)⟩
    have cst : ∀ {f : Str} {z : Int} {t : Tok} {G : Hp} {σ : L2.St}, ClX.CVal K A.C_House mc f (V.int z) (Value.int z t) → Ev (ClX.tCVal K (tC (V.ref A.C_House)) f) σ G (.int z) := fun c H1 e Q q => ⟨A.C_House, mc, _, _, rfl, rdH, c, q H1 (Ex.refl H1)⟩
    try dsimp only
    refine q_when (b := decide (n < 1) || decide (24 < n)) (et_or (et_test (ev_op (ev_var (i := 1) rfl) ev_c rv_I0)) fun _ => et_test (ev_op (ev_var (i := 1) rfl) (cst c1) rv_I0)) (fun h H1 e1 => ?_) (fun h H1 e1 => ?_)
    · rw [Bool.or_eq_true, decide_eq_true_iff, decide_eq_true_iff] at h
      exact raise2 (C := A.C_BadNumber) (f := "name") (g := "value") (x := .str "hours") (y := .int n) T.ox_BadNumber (fun Q q => ⟨_, rfl, q⟩) (fun d H' e' hd => k1 .hours (if_pos h) d H' (e1.trans e') hd)
    rw [Bool.or_eq_false_iff, decide_eq_false_iff_not, decide_eq_false_iff_not] at h
    have a1 : ¬ (n < 1 ∨ 24 < n) := by omega
    try dsimp only
    refine q_when (b := decide ((gs.length : Int) = 0)) (et_test (ev_is (ev_op (lenP rfl e1) ev_c (rv_eq rfl)) (by rw [dec_ii]))) (fun h H2 e2 => ?_) (fun h H2 e2 => ?_)
    · have h := of_decide_eq_true h
      exact raise2 (C := A.C_BadNumber) (f := "name") (g := "value") (x := .str "gates") (y := .int 0) T.ox_BadNumber (fun Q q => q) (fun d H' e' hd => k1 .noGates ((if_neg a1).trans (if_pos (by omega))) d H' ((e1.trans e2).trans e') hd)
    have a2 : ¬ gs.length = 0 := by have := of_decide_eq_false h; omega
    replace e2 := e1.trans e2
    try dsimp only
    refine q_when (b := decide (4 < (gs.length : Int))) (et_test (ev_op (lenP rfl e2) (cst c2) rv_I0)) (fun h H3 e3 => ?_) (fun h H3 e3 => ?_)
    · have h := of_decide_eq_true h
      exact raise2 (C := A.C_TooMany) (f := "name") (g := "most") (x := .str "gates") (y := .int 4) T.ox_TooMany (fun Q q => ⟨A.C_House, mc, _, _, rfl, rdH, c2, q⟩) (fun d H' e' hd => k1 .manyGates ((if_neg a1).trans ((if_neg a2).trans (if_pos (by omega)))) d H' ((e2.trans e3).trans e') hd)
    have a3 : ¬ 4 < gs.length := by have := of_decide_eq_false h; omega
    replace e3 := e2.trans e3
    try dsimp only
    refine q_asgL (xs := []) (el_lst ea_nil (by decide)) fun np H4 hnp e4 h4 => ?_
    try dsimp only
    refine q_asgL (xs := []) (el_lst ea_nil (by decide)) fun sp H5 hsp e5 h5 => ?_
    have hne : np ≠ sp := ne_of_none h4 hsp
    have e05 := (e3.trans e4).trans e5
    have np0 : H np = none := fresh_back e3 hnp
    have sp0 : H sp = none := fresh_back (e3.trans e4) hsp
    try dsimp only
    refine q_forL (K := K) (a := p) (xs := vs) (ev_var (i := 2) rfl) (ex_l e05 hvs) (fun i σ' G => ∃ nv sv : Option V, σ' = [some (.ref x), some (.int n), some (.ref p), some (.ref np), some (.ref sp), nv, sv] ∧ Ex H G ∧ G np = some (.lst (((gs.take i).map (·.1)).map V.str)) ∧ G sp = some (.lst (((gs.take i).map (·.2)).map V.int)) ∧ scanG [] gs = scanG ((gs.take i).map (·.1)) (gs.drop i))
      (fun H6 e6 => ⟨none, none, rfl, e05.trans e6, (e5.trans e6) _ _ h4, e6 _ _ h5, rfl⟩) (fun i σ' G _ ⟨_, _, _, e, _⟩ => ex_l e hvs) ?_ ?_
    · rintro i v σ' G hv ⟨nv, sv, rfl, eG, hn, hs, hsc⟩
      obtain ⟨t, rfl, hall'⟩ := hall i v hv
      have hi : i < gs.length := by have := (List.getElem?_eq_some_iff.mp hv).1; omega
      have hg : gs[i]? = some gs[i] := List.getElem?_eq_getElem hi
      have ht := ex_t eG (hall' _ hg)
      have hz := hgz _ (List.getElem_mem hi)
      rw [List.drop_eq_getElem_cons hi] at hsc
      have htk : gs.take (i + 1) = gs.take i ++ [gs[i]] := List.take_succ_eq_append_getElem hi
      generalize gs[i] = g at *
      obtain ⟨z, st⟩ := g
      refine ⟨t, _, rfl, ht, rfl, .str z, _, rfl, .int st, _, rfl, rfl, ?_⟩
      have fault : ∀ e, scanG ((gs.take i).map (·.1)) ((z, st) :: gs.drop (i + 1)) = some e → houseErr n gs = some e := fun e he => he_scan a1 a2 a3 (by rw [hsc, he])
      try dsimp only
      refine ⟨_, rfl, _, rfl, z, np, (gs.take i).map (·.1), rfl, hz, sq_of hn, fun hb d H' e' hd => ?_, fun hb hm d H' e' hd => ?_, fun hb hm G1 g1 => ?_⟩
      · exact k1 (.name z) (fault _ (if_pos hb)) d H' (eG.trans e') hd
      · exact k1 (.again z) (fault _ ((if_neg (by rw [hb]; simp)).trans (if_pos hm))) d H' (eG.trans e') hd
      have f1 : ¬ goodName z = false := by rw [hb]; simp
      try dsimp only
      refine q_when (b := decide (st < 0) || decide (60 < st)) (et_or (et_test (ev_op (ev_var (i := 6) rfl) ev_c rv_I0)) fun _ => et_test (ev_op (ev_var (i := 6) rfl) (cst c4) rv_I0)) (fun h G2 g2 => ?_) (fun h G2 g2 => ?_)
      · rw [Bool.or_eq_true, decide_eq_true_iff, decide_eq_true_iff] at h
        exact raise2 (C := A.C_BadNumber) (f := "name") (g := "value") (x := .str "stake") (y := .int st) T.ox_BadNumber (fun Q q => ⟨_, rfl, q⟩) (fun d H' e' hd => k1 (.stake st) (fault _ ((if_neg f1).trans ((if_neg hm).trans (if_pos h)))) d H' (eG.trans (g1.trans (g2.trans e'))) hd)
      rw [Bool.or_eq_false_iff, decide_eq_false_iff_not, decide_eq_false_iff_not] at h
      have g12 := g1.trans g2
      have sz : ∀ {α : Type} (f : Str × Int → α) (V' : α → V), (((gs.take i).map f).map V').length < 100000 := fun f V' => by rw [List.length_map, List.length_map, List.length_take]; omega
      try dsimp only
      refine q_app (g12 _ _ hn) (ev_var (i := 3) rfl) (ev_var (i := 5) rfl) (sz _ _) fun G3 g3 => ?_
      try dsimp only
      refine s_app (xs := ((gs.take i).map (·.2)).map V.int) (by rw [upd_ne (Ne.symm hne)]; exact (g12.trans g3) _ _ hs) (ev_var (i := 4) rfl) (ev_var (i := 6) rfl) (sz _ _) fun G4 g4 => ?_
      refine ⟨_, _, rfl, Ex.mut ((Ex.mut (eG.trans (g12.trans g3)) np0).trans g4) sp0, ?_, ?_, ?_⟩
      · rw [upd_ne hne, g4 _ _ upd_same, htk, List.map_append, List.map_append]
        rfl
      · rw [upd_same, htk, List.map_append, List.map_append]
        rfl
      · rw [hsc, htk, List.map_append]
        exact (if_neg f1).trans ((if_neg hm).trans (if_neg (by omega)))
    rintro σ' G ⟨nv, sv, rfl, eG, hn, hs, hsc⟩
    rw [hvl, List.take_length] at hn hs hsc
    rw [List.drop_length] at hsc
    have hsc : scanG [] gs = none := hsc
    try dsimp only
    refine q_when (b := decide (48 < n * (gs.length : Int))) (et_test (ev_op (ev_op (ev_var (i := 1) rfl) (lenP rfl eG) (rv_I (show CMul n (gs.length : Int) from .inl ⟨by omega, by omega⟩))) (cst c3) rv_I0)) (fun h H7 e7 => ?_) (fun h H7 e7 => ?_)
    · exact raise2 (C := A.C_TooMany) (f := "name") (g := "most") (x := .str "cells") (y := .int 48) T.ox_TooMany (fun Q q => ⟨A.C_House, mc, _, _, rfl, rdH, c3, q⟩) (fun d H' e' hd => k1 .cells (by
        unfold houseErr
        rw [if_neg a1, if_neg a2, if_neg a3, hsc]
        exact if_pos (of_decide_eq_true h)) d H' (eG.trans (e7.trans e')) hd)
    have hno : houseErr n gs = none := by
      unfold houseErr
      rw [if_neg a1, if_neg a2, if_neg a3, hsc]
      exact if_neg (of_decide_eq_false h)
    have e07 := eG.trans e7
    have hx7 := e07 _ _ hx
    have hn7 := e7 _ _ hn
    have hs7 := e7 _ _ hs
    have xnp : x ≠ np := fun z => by rw [z, np0] at hx; cases hx
    have xsp : x ≠ sp := fun z => by rw [z, sp0] at hx; cases hx
    refine ⟨_, rfl, _, rfl, x, _, dx, [], rfl, hx7, T.cl_House, T.na_House_hours, by decide, ?_⟩
    refine ⟨_, rfl, np, _, rfl, .inl ⟨SqL.of (by rw [upd_ne (Ne.symm xnp)]; exact hn7), fun q hq => ?_⟩⟩
    have xq : q ≠ x := fun z => by rw [z, upd_same] at hq; cases hq
    have hq7 : H7 q = none := by rw [upd_ne xq] at hq; exact hq
    refine ⟨_, rfl, x, _, dx, _, rfl, by rw [upd_ne (Ne.symm xq), upd_same], T.cl_House, T.na_House_names, by show 1 < 1000; decide, ?_⟩
    have spq : sp ≠ q := fun z => by rw [← z, hs7] at hq7; cases hq7
    refine ⟨_, rfl, sp, _, rfl, .inl ⟨SqL.of (by rw [upd_ne (Ne.symm xsp), upd_ne spq, upd_ne (Ne.symm xsp)]; exact hs7), fun r hr => ?_⟩⟩
    have xr : r ≠ x := fun z => by rw [z, upd_same] at hr; cases hr
    have rq : r ≠ q := fun z => by rw [z, upd_ne xq, upd_same] at hr; cases hr
    have hr7 : H7 r = none := by rw [upd_ne xr, upd_ne rq, upd_ne xr] at hr; exact hr
    refine ⟨_, rfl, x, _, dx, _, rfl, by rw [upd_ne (Ne.symm xr), upd_same], T.cl_House, T.na_House_stakes, by show 2 < 1000; decide, ?_⟩
    refine k2 hno q r _ (fun b o hb ho => ?_) (fresh_back e07 hq7) (fresh_back e07 hr7) ?_ ?_ ?_
    · have h7 := e07 _ _ ho
      rw [upd_ne hb, upd_ne (ne_of_none h7 hr7), upd_ne hb, upd_ne (ne_of_none h7 hq7), upd_ne hb]
      exact h7
    · rw [upd_same, putF3]
      rfl
    · rw [upd_ne xq, upd_ne (Ne.symm rq), upd_ne xq, upd_same]
    · rw [upd_ne xr, upd_same]

def spHLen (A : Ads) : Sp := fun vs H Q _ => ∃ (v : V) (n : Int) (gs : List (Str × Int)), vs = [v] ∧ HouseIs A.C_House v H n gs ∧ gs.length ≤ 100 ∧ ∀ H', Ex H H' → Q (.int (gs.length : Int)) H'
theorem ev_hnames {K : PySem.W.Frag} {C : Addr} {te : TE} {σ : L2.St} {H : Hp} {a dx p q : Addr} {n : Int} (h : Ev te σ H (.ref a)) (hi : H a = some (.ins C dx (houF n p q))) (c : Cls K C) (na : NoAttr K C "names") : Ev (tFld K te "names") σ H (.ref p) := fun H1 e Q q' =>
  h H1 e _ fun H2 e2 => ⟨a, _, dx, _, _, rfl, e2 _ _ (e _ _ hi), c, na, rfl, q' H2 e2⟩
theorem ev_hhours {K : PySem.W.Frag} {C : Addr} {te : TE} {σ : L2.St} {H : Hp} {a dx p q : Addr} {n : Int} (h : Ev te σ H (.ref a)) (hi : H a = some (.ins C dx (houF n p q))) (c : Cls K C) (na : NoAttr K C "hours") : Ev (tFld K te "hours") σ H (.int n) := fun H1 e Q q' =>
  h H1 e _ fun H2 e2 => ⟨a, _, dx, _, _, rfl, e2 _ _ (e _ _ hi), c, na, rfl, q' H2 e2⟩
theorem ev_hstakes {K : PySem.W.Frag} {C : Addr} {te : TE} {σ : L2.St} {H : Hp} {a dx p q : Addr} {n : Int} (h : Ev te σ H (.ref a)) (hi : H a = some (.ins C dx (houF n p q))) (c : Cls K C) (na : NoAttr K C "stakes") : Ev (tFld K te "stakes") σ H (.ref q) := fun H1 e Q q' =>
  h H1 e _ fun H2 e2 => ⟨a, _, dx, _, _, rfl, e2 _ _ (e _ _ hi), c, na, rfl, q' H2 e2⟩
theorem ok_House_len (T : Txt K mg A) : FnOk P w K mg base CX0 1 A.f_House_len A.d_House_len (["self"] : List Str) (spHLen A) := by
  refine T.F_House_len.ok sc_House_len (fun vs H Q E h => ?_) (fun cdv Ar outer s H vs Q E hr h => ?_)
  · obtain ⟨v, n, gs, rfl, _⟩ := h
    rfl
  · obtain ⟨v, n, gs, rfl, ⟨a, dx, p, q, rfl, h1, h2, h3⟩, hl, k⟩ := h
    refine ⟨_, (pss_one (ps_ret (pe_callB len_K (by rfl) T.z_len (by decide +kernel) (pa_cons (pe_fldK (pv 0) rfl) pa_nil)))), ?_⟩
    try dsimp only
    exact s_ret (v := .int (gs.length : Int)) (ev_cb (r := rLenK K) (ea_cons (ev_hnames (ev_var (i := 0) rfl) h1 T.cl_House T.na_House_names) ea_nil) fun H2 e2 Q q' => ⟨.ref p, gs.length, rfl, .inr ⟨_, st_of (e2 _ _ h2), by rw [List.length_map, List.length_map]⟩, q' H2 (Ex.refl H2)⟩) fun H1 e1 => k H1 e1

theorem ev_houseLen {A : Ads} {E : XK} {ta : TE} {σ : L2.St} {H : Hp} {v : V} {n : Int} {gs : List (Str × Int)} (ha : Ev ta σ H v) (hv : HouseIs A.C_House v H n gs) (hl : gs.length ≤ 100) : Ev (tCB (rOwnLen A.C_House (spHLen A) E) (tCons ta tNil)) σ H (.int (gs.length : Int)) := fun H1 e Q q =>
  ha H1 e _ fun H2 e2 => by
    have h2 := hv.ex (e.trans e2)
    obtain ⟨a, dx, p, q', rfl, h1, _⟩ := id h2
    exact ⟨a, dx, _, rfl, h1, .ref a, n, gs, rfl, h2, hl, fun H' e' => ⟨_, rfl, ⟨by omega, by omega⟩, q H' (e2.trans e')⟩⟩
def spIsGate (A : Ads) : Sp := fun vs H Q _ => ∃ (v : V) (n g : Int) (gs : List (Str × Int)), vs = [v, .int g] ∧ HouseIs A.C_House v H n gs ∧ gs.length ≤ 100 ∧ ∀ H', Ex H H' → Q (.bl (decide (0 ≤ g ∧ g < (gs.length : Int)))) H' 
theorem ok_is_gate (T : Txt K mg A) : FnOk P w K mg base CX0 3 A.f_is_gate A.d_is_gate (["house", "gate"] : List Str) (spIsGate A) := by
  refine T.F_is_gate.ok sc_is_gate (fun vs H Q E h => ?_) (fun cdv Ar outer s H vs Q E hr h => ?_)
  · obtain ⟨v, n, g, gs, rfl, _⟩ := h
    rfl
  · obtain ⟨v, n, g, gs, rfl, hv, hl, k⟩ := h
    refine ⟨_, (pss_one (ps_ret (pe_and (pe_cmpR op_ge (pv 1) pe_int (nomark _)) (pe_one (pe_cmpR op_lt (pv 1) (pe_callB (call_lenO (E := E0) T.M_House_len (ok_House_len T) (hr.mono (by omega)) (b_House_len T) (pAt pass0)) (by rfl) T.z_len (by decide +kernel) (pa_cons (pv 0) pa_nil)) (nomark _)))))), ?_⟩
    try dsimp only
    exact s_ret (v := .bl (decide (0 ≤ g ∧ g < (gs.length : Int)))) (ev_is (ev_andV (a := decide (0 ≤ g)) (b := decide (g < (gs.length : Int))) (ev_op (ev_var (i := 1) rfl) ev_c rv_I0) fun _ => ev_op (ev_var (i := 1) rfl) (ev_houseLen (ev_var (i := 0) rfl) hv hl) rv_I0) (by rw [Bool.decide_and])) fun H1 e1 => k H1 e1

def spIsCell (K : PySem.W.Frag) (A : Ads) : Sp := fun vs H Q _ => ∃ (v : V) (p : Addr) (n g h : Int) (gs : List (Str × Int)), vs = [v, .ref p] ∧ HouseIs A.C_House v H n gs ∧ gs.length ≤ 100 ∧ SqT K H p [.int g, .int h] ∧ ∀ H', Ex H H' → Q (.bl (inHouse n gs.length g h)) H' 
theorem ok_is_cell (T : Txt K mg A) : FnOk P w K mg base CX0 4 A.f_is_cell A.d_is_cell (["house", "cell"] : List Str) (spIsCell K A) := by
  refine T.F_is_cell.ok sc_is_cell (fun vs H Q E h => ?_) (fun cdv Ar outer s H vs Q E hr h => ?_)
  · obtain ⟨v, p, n, g, h, gs, rfl, _⟩ := h
    rfl
  · obtain ⟨v, p, n, g, h, gs, rfl, hv, hl, hp, k⟩ := h
    refine ⟨_, (pss_cons (ps_asg (pv 1) (pg_tup rfl (pgs_cons (pg_name (i := 2) sc_is_cell.nd rfl (Or.inl rfl)) (pgs_cons (pg_name (i := 3) sc_is_cell.nd rfl (Or.inl rfl)) pgs_nil))))
        (pss_one (ps_ret (pe_and (pe_call (ok_is_gate T) (hr.mono (by omega)) rfl T.g_is_gate T.k_is_gate (b_is_gate T) .nil pass0 (pa_cons (pv 0) (pa_cons (pv 2) pa_nil))) (pe_and (pe_cmpR op_ge (pv 3) pe_int (nomark _)) (pe_one (pe_cmpR op_lt (pv 3) (pe_fldK (pv 0) rfl) (nomark _)))))))), ?_⟩
    obtain ⟨a, dx, p1, q1, rfl, h1, _⟩ := id hv
    try dsimp only
    refine ⟨_, rfl, p, _, rfl, hp, rfl, .int g, _, rfl, .int h, _, rfl, rfl, ?_⟩
    try dsimp only
    have gate : Ev (tCall (spIsGate A) [] E0 (tCons (tVar 0) (tCons (tVar 2) tNil))) [some (.ref a), some (.ref p), some (.int g), some (.int h)] H (.bl (decide (0 ≤ g ∧ g < (gs.length : Int)))) := ev_call (ea_cons (ev_var (i := 0) rfl) (ea_cons (ev_var (i := 2) rfl) ea_nil)) fun H1 e Q q E => ⟨.ref a, n, g, gs, rfl, hv.ex e, hl, fun H' e' => q H' e'⟩
    exact s_ret (v := .bl (inHouse n gs.length g h)) (ev_is (ev_andV (a := decide (0 ≤ g ∧ g < (gs.length : Int))) (b := decide (0 ≤ h) && decide (h < n)) gate fun _ => ev_andV (ev_op (ev_var (i := 3) rfl) ev_c rv_I0) fun _ => ev_op (ev_var (i := 3) rfl) (ev_hhours (ev_var (i := 0) rfl) h1 T.cl_House T.na_House_hours) rv_I0) (by unfold inHouse; congr 1; rw [Bool.eq_iff_iff]; simp)) fun H1 e1 => k H1 e1

def spTries (K : PySem.W.Frag) (A : Ads) : Sp := fun vs H Q E => ∃ (v : V) (p : Addr) (n : Int) (gs : List (Str × Int)) (ts : List T3), vs = [v, .ref p] ∧ HouseIs A.C_House v H n gs ∧ gs.length ≤ 100 ∧ TripT K H p ts ∧
  (∀ k, triesRes n gs.length ts = .wrong k → ∀ d H', Ex H H' → H' d = some (.xd [("index", .int (k : Int))]) → E (.ref A.C_BadSpread) (some d) H') ∧
  (triesRes n gs.length ts = .many → ∀ d H', Ex H H' → H' d = some (.xd [("most", .int 6), ("name", .str "tries")]) → E (.ref A.C_TooMany) (some d) H') ∧
  (∀ z, triesRes n gs.length ts = .ok z → ∀ H', Ex H H' → Q (.int z) H')
theorem ok_total_tries (T : Txt K mg A) : FnOk P w K mg base (L2.CX P w) 8 A.f_total_tries A.d_total_tries (["house", "spread"] : List Str) (spTries K A) := by
  refine T.F_total_tries.okX sc_total_tries (fun vs H Q E h => ?_) (fun cdv Ar outer s H vs Q E hr h => ?_)
  · obtain ⟨v, p, n, gs, ts, rfl, _⟩ := h
    rfl
  · obtain ⟨v, p, n, gs, ts, rfl, hv, hl, hp, k1, k2, k3⟩ := h
    obtain ⟨tc_MOST_TRIES, gc_MOST_TRIES⟩ := T.c_MOST_TRIES
    refine ⟨_, (pss_cons (ps_set (i := 2) sc_total_tries.nd rfl (Or.inl rfl) pe_int)
        (pss_cons (ps_set (i := 3) sc_total_tries.nd rfl (Or.inl rfl) (pe_tup (pa_cons (pe_un un_neg pe_int) (pa_cons (pe_un un_neg pe_int) pa_nil))))
        (pss_cons (ps_for (passes_of rfl) rfl (pi_enumT (by rfl) T.z_enumerate (pa_cons (pv 1) pa_nil)) (pg_tup rfl (pgs_cons (pg_name (i := 4) sc_total_tries.nd rfl (Or.inl rfl)) (pgs_cons (pg_tup rfl (pgs_cons (pg_name (i := 5) sc_total_tries.nd rfl (Or.inl rfl)) (pgs_cons (pg_name (i := 6) sc_total_tries.nd rfl (Or.inl rfl)) (pgs_cons (pg_name (i := 7) sc_total_tries.nd rfl (Or.inl rfl)) pgs_nil)))) pgs_nil))) (pss_cons (ps_set (i := 8) sc_total_tries.nd rfl (Or.inl rfl) (pe_tup (pa_cons (pv 5) (pa_cons (pv 6) pa_nil))))
        (pss_cons (ps_if (PW.pt (pw_or (pt_not (pt_val (pe_call (ok_is_cell T) (hr.mono (by omega)) rfl T.g_is_cell T.k_is_cell (b_is_cell T) .nil pass0 (pa_cons (pv 0) (pa_cons (pv 8) pa_nil))))) (pw_or (pt_cmpR op_lt (pv 7) pe_int (nomark _)) (pw_or1 (pt_cmpR (op_leD hr.units) (pv 8) (pv 3) (nomark _)))))) (pss_one (ps_raise rfl (takes_of rfl rfl rfl rfl) (pmk_oex T.ox_BadSpread T.ni_BadSpread T.ti_BadSpread (ok_BadSpread_init T) (hr.mono (by omega)) (b_BadSpread_init T) .nil pass0 rfl T.g_BadSpread (pa_cons (pv 4) pa_nil)))) pss_nil)
        (pss_cons (ps_set (i := 3) sc_total_tries.nd rfl (Or.inl rfl) (pv 8))
        (pss_one (ps_set (i := 2) sc_total_tries.nd rfl (Or.inl rfl) (pe_op op_add (pv 2) (pv 7))))))))
        (pss_cons (ps_if (pt_cmpR op_gt (pv 2) (pe_glob (v := .int 6) rfl gc_MOST_TRIES ⟨_, rfl⟩) (nomark _)) (pss_one (ps_raise rfl (takes_of rfl rfl rfl rfl) (pmk_oex T.ox_TooMany T.ni_TooMany T.ti_TooMany (ok_TooMany_init T) (hr.mono (by omega)) (b_TooMany_init T) .nil pass0 rfl T.g_TooMany (pa_cons pe_str (pa_cons (pe_glob (v := .int 6) rfl gc_MOST_TRIES ⟨_, rfl⟩) pa_nil))))) pss_nil)
        (pss_one (ps_ret (pv 2))))))), ?_⟩
    obtain ⟨vs, hvs, hvl, hall⟩ := hp.all
    try dsimp only
    refine q_asg (v := .int 0) ev_c fun H1 e1 => ?_
    try dsimp only
    refine q_asgU (xs := [.int (-1), .int (-1)]) (eu_tup (ea_cons (ev_un ev_c ru_neg) (ea_cons (ev_un ev_c ru_neg) ea_nil)) (by show 2 ≤ 100000; decide)) fun b0 H2 hb0 e2 h2 => ?_
    have e02 := e1.trans e2
    try dsimp only
    refine q_forI (ei_enumT (K := K) (eb_ev (ev_var (i := 1) rfl) fun G e => ⟨p, rfl, ex_t (e02.trans e) hvs⟩)) fun H3 e3 => ⟨fun i σ' G => ∃ (b : Addr) (x y : Int) (v4 v5 v6 v7 v8 : Option V), σ' = [some v, some (.ref p), some (.int ((ts.take i).map (·.2.2)).sum), some (.ref b), v4, v5, v6, v7, v8] ∧ Ex H3 G ∧ SqT K G b [.int x, .int y] ∧ firstW n gs.length 0 (-1) (-1) ts = firstW n gs.length i x y (ts.drop i),
      ⟨b0, -1, -1, none, none, none, none, none, rfl, Ex.refl _, st_of (e3 _ _ h2), rfl⟩, fun i σ' G _ ⟨_, _, _, _, _, _, _, _, _, e, _⟩ => e, ?_, ?_⟩
    · rintro i w σ' G G' hi ⟨b, x, y, v4, v5, v6, v7, v8, rfl, eG, hb, hsc⟩ ⟨T', u, w', rfl, hT, rfl, hu, hw⟩
      cases hu
      obtain ⟨t, rfl, hall'⟩ := hall i w' hw
      have hi' : i < ts.length := by omega
      have hg : ts[i]? = some ts[i] := List.getElem?_eq_getElem hi'
      have eT : Ex G (upd G T' (.tup [.int (i : Int), .ref t])) := Ex.new hT
      have e03 := (e02.trans e3).trans (eG.trans eT)
      have ht := ex_t e03 (hall' _ hg)
      rw [List.drop_eq_getElem_cons hi'] at hsc
      have htk : ts.take (i + 1) = ts.take i ++ [ts[i]] := List.take_succ_eq_append_getElem hi'
      generalize ts[i] = g at *
      obtain ⟨g, h, z⟩ := g
      refine ⟨T', _, rfl, st_of upd_same, rfl, _, _, rfl, _, _, rfl, t, _, rfl, ht, rfl, .int g, _, rfl, .int h, _, rfl, .int z, _, rfl, rfl, rfl, ?_⟩
      try dsimp only
      refine q_asgU (xs := [.int g, .int h]) (eu_tup (ea_cons (ev_var (i := 5) rfl) (ea_cons (ev_var (i := 6) rfl) ea_nil)) (by show 2 ≤ 100000; decide)) fun cp G1 hcp g1 hc => ?_
      have cellE : ∀ G2, Ex G1 G2 → Ev (tCall (spIsCell K A) [] E0 (tCons (tVar 0) (tCons (tVar 8) tNil))) [some v, some (.ref p), some (.int ((ts.take i).map (·.2.2)).sum), some (.ref b), some (.int (i : Int)), some (.int g), some (.int h), some (.int z), some (.ref cp)] G2 (.bl (inHouse n gs.length g h)) := fun G2 g2 => ev_call (ea_cons (ev_var (i := 0) rfl) (ea_cons (ev_var (i := 8) rfl) ea_nil)) fun G3 g3 Q q E => ⟨v, cp, n, g, h, gs, rfl, hv.ex (e03.trans (g1.trans (g2.trans g3))), hl, st_of ((g2.trans g3) _ _ hc), fun H' e' => q H' e'⟩
      have lexE : Ev (tOp (rLeD K) (tVar 8) (tVar 3)) [some v, some (.ref p), some (.int ((ts.take i).map (·.2.2)).sum), some (.ref b), some (.int (i : Int)), some (.int g), some (.int h), some (.int z), some (.ref cp)] G1 (.bl (lexLe g h x y)) := ev_op (ev_var (i := 8) rfl) (ev_var (i := 3) rfl) fun G2 g2 Q q =>
        ⟨.tuple [.int g, .int h], .tuple [.int x, .int y], .tup (st_of (g2 _ _ hc)) (.cons (.int _) (.cons (.int _) .nil)), .tup (ex_t (eT.trans (g1.trans g2)) hb) (.cons (.int _) (.cons (.int _) .nil)), by simp [PySem.W.alike, PySem.W.alikeAll], (fun z => by cases z), (by simp [PyData.depth, PyData.depthAll]), by rw [lex_data]; exact q G2 (Ex.refl G2)⟩
      try dsimp only
      refine q_when (b := !inHouse n gs.length g h || (decide (z < 1) || lexLe g h x y)) (et_or (et_not (et_B (cellE G1 (Ex.refl _)))) fun _ => et_or (et_test (ev_op (ev_var (i := 7) rfl) ev_c rv_I0)) fun _ => et_test lexE) (fun hc' G2 g2 => ?_) (fun hc' G2 g2 => ?_)
      · refine raise1 (C := A.C_BadSpread) (f := "index") (x := .int (i : Int)) T.ox_BadSpread (fun Q q => ⟨_, rfl, q⟩) (fun d H' e' hd => k1 i ?_ d H' (e03.trans (g1.trans (g2.trans e'))) hd)
        unfold triesRes
        rw [hsc]
        have : firstW n gs.length i x y ((g, h, z) :: ts.drop (i + 1)) = some i := if_pos (by rw [Bool.or_assoc]; exact hc')
        rw [this]
      try dsimp only
      refine q_asg (v := .ref cp) (ev_var (i := 8) rfl) fun G3 g3 => ?_
      try dsimp only
      refine s_asg (v := .int (((ts.take i).map (·.2.2)).sum + z)) (ev_op (ev_var (i := 2) rfl) (ev_var (i := 7) rfl) rv_I0) fun G4 g4 => ⟨cp, g, h, some (.int (i : Int)), some (.int g), some (.int h), some (.int z), some (.ref cp), ?_, eG.trans (eT.trans (g1.trans (g2.trans (g3.trans g4)))), st_of ((g2.trans (g3.trans g4)) _ _ hc), ?_⟩
      · rw [htk, List.map_append, List.sum_append]
        simp
      · rw [hsc]
        exact if_neg (by rw [Bool.or_assoc, hc']; simp)
    rintro σ' G ⟨b, x, y, v4, v5, v6, v7, v8, rfl, eG, hb, hsc⟩
    rw [hvl, List.drop_length] at hsc
    rw [hvl, List.take_length]
    have hno : firstW n gs.length 0 (-1) (-1) ts = none := hsc
    have e0G := (e02.trans e3).trans eG
    try dsimp only
    refine q_when (b := decide (6 < (ts.map (·.2.2)).sum)) (et_test (ev_op (ev_var (i := 2) rfl) ev_c rv_I0)) (fun h G1 g1 => ?_) (fun h G1 g1 => ?_)
    · exact raise2 (C := A.C_TooMany) (f := "name") (g := "most") (x := .str "tries") (y := .int 6) T.ox_TooMany (fun Q q => q) (fun d H' e' hd => k2 (by unfold triesRes; rw [hno]; exact if_pos (of_decide_eq_true h)) d H' (e0G.trans (g1.trans e')) hd)
    exact s_ret (ev_var (i := 2) rfl) fun G2 g2 => k3 _ (by unfold triesRes; rw [hno]; exact if_neg (of_decide_eq_false h)) G2 (e0G.trans (g1.trans g2))

def spChkRow (K : PySem.W.Frag) (A : Ads) : Sp := fun vs H Q _ => ∃ (v : V) (n : Int) (gs : List (Str × Int)) (p : Addr) (xs : List Int), vs = [v, .ref p] ∧ HouseIs A.C_House v H n gs ∧ SqL K H p (xs.map V.int) ∧ (xs.length : Int) = n ∧ (∀ x ∈ xs, 0 ≤ x ∧ x ≤ 96) ∧ ∀ H', Ex H H' → Q .non H' 
theorem ok_u_check_row (T : Txt K mg A) : FnOk P w K mg base (L2.CX P w) 5 A.f_u_check_row A.d_u_check_row (["house", "row"] : List Str) (spChkRow K A) := by
  refine T.F_u_check_row.okX sc_u_check_row (fun vs H Q E h => ?_) (fun cdv Ar outer s H vs Q E hr h => ?_)
  · obtain ⟨v, n, gs, p, xs, rfl, _⟩ := h
    rfl
  · obtain ⟨v, n, gs, p, xs, rfl, hv, hp, hl, hx, k⟩ := h
    refine ⟨_, (pss_cons (ps_if (pt_cmpR op_ne (pe_callB len_K (by rfl) T.z_len (by decide +kernel) (pa_cons (pv 1) pa_nil)) (pe_fldK (pv 0) rfl) (nomark _)) (pss_one (ps_raise rfl (takes_of rfl rfl rfl rfl) (pmk_oex T.ox_WrongLength T.ni_WrongLength T.ti_WrongLength (ok_WrongLength_init T) (hr.mono (by omega)) (b_WrongLength_init T) .nil pass0 rfl T.g_WrongLength (pa_cons (pe_callB len_K (by rfl) T.z_len (by decide +kernel) (pa_cons (pv 1) pa_nil)) pa_nil)))) pss_nil)
        (pss_one (ps_for (passes_of rfl) rfl (pi_listK (pv 1)) (pg_name (i := 2) sc_u_check_row.nd rfl (Or.inl rfl)) (pss_one (ps_if (PW.pt (pw_or (pt_cmpR op_lt (pv 2) pe_int (nomark _)) (pw_or1 (pt_cmpR op_gt (pv 2) (ClX.pe_cval (pe_glob (v := .ref A.C_Watch) rfl T.g_Watch rfl)) (nomark _))))) (pss_one (ps_raise rfl (takes_of rfl rfl rfl rfl) (pmk_oex T.ox_BadNumber T.ni_BadNumber T.ti_BadNumber (ok_BadNumber_init T) (hr.mono (by omega)) (b_BadNumber_init T) .nil pass0 rfl T.g_BadNumber (pa_cons pe_str (pa_cons (pv 2) pa_nil))))) pss_nil))))), ?_⟩
    obtain ⟨mc, rdW, ⟨t1, c1⟩⟩ := T.rd_Watch
    obtain ⟨a, dx, p1, q1, rfl, h1, _⟩ := id hv
    try dsimp only
    refine q_skip (et_test (ev_is (ev_op (ev_cb (r := rLenK K) (ea_cons (ev_var (i := 1) rfl) ea_nil) fun H2 e2 Q q => ⟨.ref p, xs.length, rfl, .inl ⟨_, ex_l e2 hp, (List.length_map _).symm⟩, q H2 (Ex.refl H2)⟩) (ev_hhours (ev_var (i := 0) rfl) h1 T.cl_House T.na_House_hours) (rv_ne rfl)) (by rw [dec_ii, decide_eq_true hl]; rfl))) fun H1 e1 => ?_
    try dsimp only
    refine s_forLn (K := K) (a := p) (xs := xs.map V.int) (j := 2) (ev_var (i := 1) rfl) (ex_l e1 hp) (fun i σ' G => ∃ v2 : Option V, σ' = [some (.ref a), some (.ref p), v2] ∧ Ex H G) (fun H2 e2 => ⟨_, rfl, e1.trans e2⟩) (fun i σ' G _ ⟨_, _, e⟩ => ex_l e hp) ?_ ?_
    · rintro i y σ' G hy ⟨v2, rfl, eG⟩
      obtain ⟨m, rfl, hm⟩ := some_int hy
      have hb := hx m (List.mem_of_getElem? hm)
      try dsimp only
      exact s_when (b := false) (et_orF (et_test (ev_is (ev_op (ev_var (i := 2) rfl) ev_c rv_I0) (by rw [decide_eq_false (by omega)]))) (et_test (ev_is (ev_op (ev_var (i := 2) rfl) (fun H1 e Q q => ⟨A.C_Watch, mc, _, _, rfl, rdW, c1, q H1 (Ex.refl H1)⟩) rv_I0) (by rw [decide_eq_false (by omega)])))) (fun z => Bool.noConfusion z) fun _ G1 g1 => ⟨_, rfl, eG.trans g1⟩
    rintro σ' G ⟨v2, rfl, eG⟩
    exact k G eG

theorem putW {y z : V} : putF "_rows" z (putF "house" y []) = watF y z := by
  have h1 : ¬ ("house" : Str) = "_rows" := by decide +kernel
  show (if ("house" : Str) = "_rows" then _ else (("house" : Str), y) :: putF "_rows" z []) = _
  rw [if_neg h1]
  rfl
def spWatch (K : PySem.W.Frag) (A : Ads) : Sp := fun vs H Q _ => ∃ (x dx : Addr) (v : V) (p : Addr) (n : Int) (gs : List (Str × Int)) (xss : List (List Int)), vs = [.ref x, v, .ref p] ∧ H x = some (.ins A.C_Watch dx []) ∧ HouseIs A.C_House v H n gs ∧ gs.length ≤ 100 ∧ RowsL K H p xss ∧ Shape n gs.length xss ∧
  ∀ w H', (∀ b o, b ≠ x → H b = some o → H' b = some o) → (∀ G : Hp, (∀ b o, b ≠ x → H b = none → H' b = some o → G b = some o) → RowsU w G xss) → H' x = some (.ins A.C_Watch dx (watF v w)) → Q .non H' 
theorem ok_Watch_init (T : Txt K mg A) : FnOk P w K mg base (L2.CX P w) 6 A.f_Watch_init A.d_Watch_init (["self", "house", "rows"] : List Str) (spWatch K A) := by
  refine T.F_Watch_init.okX sc_Watch_init (fun vs H Q E h => ?_) (fun cdv Ar outer s H vs Q E hr h => ?_)
  · obtain ⟨x, dx, v, p, n, gs, xss, rfl, _⟩ := h
    rfl
  · obtain ⟨x, dx, v, p, n, gs, xss, rfl, hx, hv, hl, hR, hS, k⟩ := h
    refine ⟨_, (pss_cons (ps_if (pt_cmpR op_ne (pe_callB len_K (by rfl) T.z_len (by decide +kernel) (pa_cons (pv 2) pa_nil)) (pe_callB (call_lenO (E := E0) T.M_House_len (ok_House_len T) (hr.mono (by omega)) (b_House_len T) (pAt pass0)) (by rfl) T.z_len (by decide +kernel) (pa_cons (pv 1) pa_nil)) (nomark _)) (pss_one (ps_raise rfl (takes_of rfl rfl rfl rfl) (pmk_oex T.ox_WrongLength T.ni_WrongLength T.ti_WrongLength (ok_WrongLength_init T) (hr.mono (by omega)) (b_WrongLength_init T) .nil pass0 rfl T.g_WrongLength (pa_cons (pe_callB len_K (by rfl) T.z_len (by decide +kernel) (pa_cons (pv 2) pa_nil)) pa_nil)))) pss_nil)
        (pss_cons (ps_for (passes_of rfl) rfl (pi_listK (pv 2)) (pg_name (i := 3) sc_Watch_init.nd rfl (Or.inl rfl)) (pss_one (ps_expr (pe_call (ok_u_check_row T) (hr.mono (by omega)) rfl T.g_u_check_row T.k_u_check_row (b_u_check_row T) .nil (passes_call (takes_of rfl rfl rfl rfl) (fun _ _ _ _ h => h)) (pa_cons (pv 1) (pa_cons (pv 3) pa_nil))))))
        (pss_cons (ps_fld (pv 0) (pv 1) rfl)
        (pss_one (ps_fld (pv 0) (pe_callTy tup_K (by rfl) T.z_tuple (by decide +kernel) (pa_cons (pe_lc (own := [("row", 3)]) (g := gName 3) (tt := tYes) rfl sc_Watch_init.nd (pi_listK (pv 2)) (blkOk_by (own := [("row", 3)]) (N := N_Watch_init) (sc := defScope s_Watch_init) (by decide +kernel)) (fun _ _ _ _ _ => (pg_name (i := 3) sc_Watch_init.nd rfl (Or.inl rfl))) (fun _ _ _ _ _ => pts_nil) (fun _ _ _ _ _ => (pe_callTy tup_K (by rfl) T.z_tuple (by decide +kernel) (pa_cons (pv 3) pa_nil)))) pa_nil)) rfl))))), ?_⟩
    obtain ⟨vs, hvs, hvl, hall⟩ := hR.all
    have hln := hS.len
    try dsimp only
    refine q_skip (et_test (ev_is (ev_op (ev_cb (r := rLenK K) (ea_cons (ev_var (i := 2) rfl) ea_nil) fun H2 e2 Q q => ⟨.ref p, vs.length, rfl, .inl ⟨_, ex_l e2 hvs, rfl⟩, q H2 (Ex.refl H2)⟩) (ev_houseLen (ev_var (i := 1) rfl) hv hl) (rv_ne rfl)) (by rw [dec_ii, hvl, hln]; simp))) fun H1 e1 => ?_
    try dsimp only
    refine q_forLn (K := K) (a := p) (xs := vs) (j := 3) (ev_var (i := 2) rfl) (ex_l e1 hvs) (fun i σ' G => ∃ v3 : Option V, σ' = [some (.ref x), some v, some (.ref p), v3] ∧ Ex H G) (fun H2 e2 => ⟨_, rfl, e1.trans e2⟩) (fun i σ' G _ ⟨_, _, e⟩ => ex_l e hvs) ?_ ?_
    · rintro i y σ' G hy ⟨v3, rfl, eG⟩
      obtain ⟨t, rfl, ht⟩ := hall i y hy
      have hi : i < xss.length := by have := (List.getElem?_eq_some_iff.mp hy).1; omega
      have hm : xss.getD i [] ∈ xss := in_getD hi
      try dsimp only
      exact s_drop (ev_call (z := .non) (ea_cons (ev_var (i := 1) rfl) (ea_cons (ev_var (i := 3) rfl) ea_nil)) fun H2 e2 Q q _ => ⟨v, n, gs, t, xss.getD i [], rfl, hv.ex (eG.trans e2), ex_l (eG.trans e2) ht, hS.row _ hm, hS.val _ hm, fun H3 e3 => q H3 e3⟩) fun G1 g1 => ⟨_, rfl, eG.trans g1⟩
    rintro σ' G ⟨v3, rfl, eG⟩
    have hxG := eG _ _ hx
    refine ⟨_, rfl, _, rfl, x, _, dx, [], rfl, hxG, T.cl_Watch, T.na_Watch_house, by decide, ?_⟩
    try dsimp only
    have hR2 : RowsL K (upd G x (.ins A.C_Watch dx (putF "house" v []))) p xss := (hR.ex eG).ins hxG
    obtain ⟨us, hus, hul, hua⟩ := hR2.all
    generalize hHx : upd G x (.ins A.C_Watch dx (putF "house" v [])) = Hx at *
    have lc := en_tupN (K := K) (en_lc (wi := iList K (tVar 2)) (g := gName 3) (te := tCB (rTupOf K) (tCons (tVar 3) tNil)) (σ := [some (.ref x), some v, some (.ref p), v3]) (H := Hx) (vs := [3]) (fun i w G => ∃ t, w = .ref t ∧ G t = some (.tup ((xss.getD i []).map V.int))) (ei_list (K := K) (eb_held (i := 2) rfl hus)) (by rw [hul, hln]; omega) bd_at (fun i _ => rfl) (fun i H2 hi e2 => by
      have e : us[i]? = some us[i] := List.getElem?_eq_getElem hi
      obtain ⟨t, ht, hT⟩ := hua i _ e
      rw [e, ht]
      exact en_tupL (ev_var (i := 3) rfl) (ex_l e2 hT)))
    refine lc Hx (Ex.refl _) _ fun w H8 e8 hw => ?_
    have hx8 : H8 x = some (.ins A.C_Watch dx (putF "house" v [])) := e8 _ _ (by rw [← hHx, upd_same])
    refine ⟨_, rfl, x, _, dx, _, rfl, hx8, T.cl_Watch, T.na_Watch_rows, by show 1 < 1000; decide, ?_⟩
    refine k w _ (fun b o hb ho => ?_) (fun F hF => ?_) ?_
    · rw [upd_ne hb]
      exact e8 _ _ (by rw [← hHx, upd_ne hb]; exact eG _ _ ho)
    · obtain ⟨q, ws, rfl, h1, h2, h3⟩ := hw F fun b o h1 h2 => by
        have hb : b ≠ x := fun z => by rw [z, ← hHx, upd_same] at h1; cases h1
        refine hF b o hb ?_ (by rw [upd_ne hb]; exact h2)
        rw [← hHx, upd_ne hb] at h1
        exact fresh_back eG h1
      exact ⟨q, ws, rfl, h1, by rw [h2, hul], h3⟩
    · rw [upd_same, putW]

def spRows (K : PySem.W.Frag) (A : Ads) : Sp := fun vs H Q _ => ∃ (v h : V) (xss : List (List Int)), vs = [v] ∧ WatchIs A.C_Watch v H h xss ∧ xss.length ≤ 100 ∧ ∀ w H', Ex H H' → (∃ p, w = .ref p ∧ RowsL K H' p xss) → Q w H' 
theorem ok_Watch_rows (T : Txt K mg A) : FnOk P w K mg base CX0 1 A.f_Watch_rows A.d_Watch_rows (["self"] : List Str) (spRows K A) := by
  refine T.F_Watch_rows.ok sc_Watch_rows (fun vs H Q E h => ?_) (fun cdv Ar outer s H vs Q E hr h => ?_)
  · obtain ⟨v, h, xss, rfl, _⟩ := h
    rfl
  · obtain ⟨v, h, xss, rfl, ⟨a, dx, w, rfl, h1, p, vs, rfl, h2, h3, h4⟩, hl, k⟩ := h
    refine ⟨_, (pss_one (ps_ret (pe_lc (own := [("row", 1)]) (g := gName 1) (tt := tYes) rfl sc_Watch_rows.nd (pi_tup (pe_fldK (pv 0) rfl)) (blkOk_by (own := [("row", 1)]) (N := N_Watch_rows) (sc := defScope s_Watch_rows) (by decide +kernel)) (fun _ _ _ _ _ => (pg_name (i := 1) sc_Watch_rows.nd rfl (Or.inl rfl))) (fun _ _ _ _ _ => pts_nil) (fun _ _ _ _ _ => (pe_callTy list_K (by rfl) T.z_list (by decide +kernel) (pa_cons (pv 1) pa_nil)))))), ?_⟩
    try dsimp only
    have lc := en_lc (wi := iTup K (tFld K (tVar 0) "_rows")) (g := gName 1) (te := tCB (rListK K) (tCons (tVar 1) tNil)) (σ := [some (.ref a), none]) (H := H) (vs := [1]) (fun i w G => ∃ t, w = .ref t ∧ G t = some (.lst ((xss.getD i []).map V.int))) (ei_tup (K := K) (eb_ev (ev_wrows (ev_var (i := 0) rfl) h1 T.cl_Watch T.na_Watch_rows) fun G e => ⟨p, rfl, st_of (e _ _ h2)⟩)) (by rw [h3]; omega) bd_at (fun i _ => rfl) (fun i H2 hi e2 => by
      have e : vs[i]? = some vs[i] := List.getElem?_eq_getElem hi
      obtain ⟨t, ht, hT⟩ := h4 i _ e
      rw [e, ht]
      exact en_copyT (ev_var (i := 1) rfl) (st_of (e2 _ _ hT)))
    refine lc H (Ex.refl _) _ fun w H1 e1 hw => k w H1 e1 ?_
    obtain ⟨q, ws, rfl, g1, g2, g3⟩ := hw.self
    exact ⟨q, rfl, ws, sq_of g1, by rw [g2, h3], fun i v hv => (g3 i v hv).imp fun t ht => ⟨ht.1, sq_of ht.2⟩⟩

def spGet (K : PySem.W.Frag) (A : Ads) : Sp := fun vs H Q _ => ∃ (v h : V) (p : Addr) (n g hr : Int) (gs : List (Str × Int)) (xss : List (List Int)), vs = [v, .ref p] ∧ WatchIs A.C_Watch v H h xss ∧ HouseIs A.C_House h H n gs ∧ gs.length ≤ 100 ∧ Shape n gs.length xss ∧ SqT K H p [.int g, .int hr] ∧ (0 ≤ g ∧ g < (gs.length : Int)) ∧ 1 ≤ n ∧ ∀ H', Ex H H' → Q (.int (watVal xss n g hr)) H' 
theorem ok_Watch_getitem (T : Txt K mg A) : FnOk P w K mg base (L2.CX P w) 5 A.f_Watch_getitem A.d_Watch_getitem (["self", "at"] : List Str) (spGet K A) := by
  refine T.F_Watch_getitem.okX sc_Watch_getitem (fun vs H Q E h => ?_) (fun cdv Ar outer s H vs Q E hr h => ?_)
  · obtain ⟨v, h, p, n, g, hr, gs, xss, rfl, _⟩ := h
    rfl
  · obtain ⟨v, h, p, n, g, hh, gs, xss, rfl, ⟨a, dx, w, rfl, h1, p2, vs, rfl, h2, h3, h4⟩, hv, hl, hS, hp, hg, hn, k⟩ := h
    refine ⟨_, (pss_cons (ps_asg (pv 1) (pg_tup rfl (pgs_cons (pg_name (i := 2) sc_Watch_getitem.nd rfl (Or.inl rfl)) (pgs_cons (pg_name (i := 3) sc_Watch_getitem.nd rfl (Or.inl rfl)) pgs_nil))))
        (pss_cons (ps_if (pt_not (pt_val (pe_call (ok_is_gate T) (hr.mono (by omega)) rfl T.g_is_gate T.k_is_gate (b_is_gate T) .nil pass0 (pa_cons (pe_fldK (pv 0) rfl) (pa_cons (pv 2) pa_nil))))) (pss_one (ps_raise rfl (takes_of rfl rfl rfl rfl) (pmk_none PySem.F.excBase_ValueError T.xP_NoPlace T.g_NoPlace T.kP_NoPlace (raises_own T.bP_NoPlace T.tP_NoPlace) rfl))) pss_nil)
        (pss_one (ps_ret (pe_ix ix_tK (pe_ix ix_tK (pe_fldK (pv 0) rfl) (pv 2) (fun _ _ => rfl)) (pe_op op_mod (pv 3) (pe_fldK (pe_fldK (pv 0) rfl) rfl)) (fun _ _ => rfl)))))), ?_⟩
    obtain ⟨a3, dx3, p3, q3, rfl, h5, _⟩ := id hv
    have hln := hS.len
    try dsimp only
    refine ⟨_, rfl, p, _, rfl, hp, rfl, .int g, _, rfl, .int hh, _, rfl, rfl, ?_⟩
    have house : ∀ {G : Hp}, Ex H G → Ev (tFld K (tVar 0) "house") [some (.ref a), some (.ref p), some (.int g), some (.int hh)] G (.ref a3) := fun e => ev_whouse (ev_var (i := 0) rfl) (e _ _ h1) T.cl_Watch T.na_Watch_house
    try dsimp only
    refine q_skip (et_notT (et_B (ev_is (ev_call (z := .bl (decide (0 ≤ g ∧ g < (gs.length : Int)))) (ea_cons (house (Ex.refl _)) (ea_cons (ev_var (i := 2) rfl) ea_nil)) fun H1 e Q q _ => ⟨.ref a3, n, g, gs, rfl, hv.ex e, hl, fun H' e' => q H' e'⟩) (by rw [decide_eq_true hg])))) fun H1 e1 => ?_
    have hgv : g.toNat < vs.length := by omega
    have e : vs[g.toNat]? = some vs[g.toNat] := List.getElem?_eq_getElem hgv
    obtain ⟨t, ht, hT⟩ := h4 _ _ e
    rw [ht] at e
    have hm : xss.getD g.toNat [] ∈ xss := in_getD (by omega)
    have hrow := hS.row _ hm
    have m0 := Int.emod_nonneg hh (b := n) (by omega)
    have m1 := Int.emod_lt_of_pos hh (b := n) (by omega)
    have a1 : atI vs g = some (.ref t) := by
      have := atI_nat (xs := vs) (j := g.toNat) e
      rwa [Int.toNat_of_nonneg hg.1] at this
    try dsimp only
    exact s_ret (v := .int (watVal xss n g hh)) (ev_op (ev_op (ev_wrows (ev_var (i := 0) rfl) (e1 _ _ h1) T.cl_Watch T.na_Watch_rows) (ev_var (i := 2) rfl) (rv_ixT (K := K) (st_of (e1 _ _ h2)) a1)) (ev_op (ev_var (i := 3) rfl) (ev_hhours (house e1) (e1 _ _ h5) T.cl_House T.na_House_hours) (rv_I (show (0 : Int) < n by omega))) (rv_ixT (K := K) (st_of (e1 _ _ hT)) (atI_ints m0 (by omega)))) fun H2 e2 => k H2 (e1.trans e2)

theorem el_is {te : TE} {σ : L2.St} {H : Hp} {xs ys : List V} (h : EvL te σ H xs) (e : xs = ys) : EvL te σ H ys := by subst e; exact h
theorem q_dropCall {sp : Sp} {E : XK} {ta : TA} {tz : TS} {D : Ends} {σ : L2.St} {H : Hp} {vs : List V} (h : EvA ta σ H vs) (k : ∀ H1, Ex H H1 → sp (vs ++ []) H1 (fun _ H2 => tz D σ H2) E) : tSeq (tDrop (tCall sp [] E ta)) tz D σ H := h H (Ex.refl H) _ fun H1 e => k H1 e
theorem first_in {n : Int} {m : Nat} : ∀ {ts : List T3} {k : Nat} {b c : Int}, firstW n m k b c ts = none → ∀ t ∈ ts, inHouse n m t.1 t.2.1 = true
  | [], _, _, _, _, _, ht => by cases ht
  | u :: ts, k, b, c, h, t, ht => by
    unfold firstW at h
    by_cases c' : (!inHouse n m u.1 u.2.1 || decide (u.2.2 < 1) || lexLe u.1 u.2.1 b c) = true
    · rw [if_pos c'] at h; cases h
    · rw [if_neg c'] at h
      rcases List.mem_cons.mp ht with rfl | ht
      · cases hh : inHouse n m t.1 t.2.1 with
        | true => rfl
        | false => rw [hh] at c'; simp at c'
      · exact first_in h t ht
def lossZ (gs : List (Str × Int)) (xss : List (List Int)) (n : Int) (ts : List T3) : Int := ((ts.filter fun t => decide (watVal xss n t.1 t.2.1 < t.2.2)).map fun t => (gs.getD t.1.toNat ("", 0)).2).sum
def spLoss (K : PySem.W.Frag) (A : Ads) : Sp := fun vs H Q E => ∃ (v h : V) (p : Addr) (n : Int) (gs : List (Str × Int)) (xss : List (List Int)) (rs : List (Addr × T3)), vs = [v, .ref p] ∧ WatchIs A.C_Watch v H h xss ∧ HouseIs A.C_House h H n gs ∧ gs.length ≤ 100 ∧ Shape n gs.length xss ∧ 1 ≤ n ∧ RowT K H p rs ∧ rs.length ≤ 1000 ∧
  (∀ k, triesRes n gs.length (rs.map (·.2)) = .wrong k → ∀ d H', Ex H H' → H' d = some (.xd [("index", .int (k : Int))]) → E (.ref A.C_BadSpread) (some d) H') ∧
  (triesRes n gs.length (rs.map (·.2)) = .many → ∀ d H', Ex H H' → H' d = some (.xd [("most", .int 6), ("name", .str "tries")]) → E (.ref A.C_TooMany) (some d) H') ∧
  (∀ z, triesRes n gs.length (rs.map (·.2)) = .ok z → ∀ H', Ex H H' → Q (.int (lossZ gs xss n (rs.map (·.2)))) H')
theorem ok_loss (T : Txt K mg A) : FnOk P w K mg base (L2.CX P w) 9 A.f_loss A.d_loss (["watch", "spread"] : List Str) (spLoss K A) := by
  refine T.F_loss.okX sc_loss (fun vs H Q E h => ?_) (fun cdv Ar outer s H vs Q E hr h => ?_)
  · obtain ⟨v, h, p, n, gs, xss, rs, rfl, _⟩ := h
    rfl
  · obtain ⟨v, h, p, n, gs, xss, rs, rfl, hw, hv, hl, hS, hn, hq, hrl, k1, k2, k3⟩ := h
    refine ⟨_, (pss_cons (ps_expr (pe_call (ok_total_tries T) (hr.mono (by omega)) rfl T.g_total_tries T.k_total_tries (b_total_tries T) .nil (passes_call (takes_of rfl rfl rfl rfl) (fun _ _ _ _ h => h)) (pa_cons (pe_fldK (pv 0) rfl) (pa_cons (pv 1) pa_nil))))
        (pss_one (ps_ret (pe_callB (cr_sumK rfl) (by rfl) T.z_sum (by decide +kernel) (pa_cons (pe_lc (own := [("gate", 2), ("hour", 3), ("tries", 4)]) (g := gTup K 3 (gCons (gName 2) (gCons (gName 3) (gCons (gName 4) gNil)))) rfl sc_loss.nd (pi_tup (pv 1)) (blkOk_by (own := [("gate", 2), ("hour", 3), ("tries", 4)]) (N := N_loss) (sc := defScope s_loss) (by decide +kernel)) (fun _ _ _ _ _ => (pg_tupK rfl rfl (pgs_cons (pg_name (i := 2) sc_loss.nd rfl (Or.inl rfl)) (pgs_cons (pg_name (i := 3) sc_loss.nd rfl (Or.inl rfl)) (pgs_cons (pg_name (i := 4) sc_loss.nd rfl (Or.inl rfl)) pgs_nil))))) (fun _ _ _ _ _ => (pts_one (pt_cmpR op_gt (pv 4) (pe_ixO (E := E0) T.M_Watch_getitem T.FI_Watch_getitem (ok_Watch_getitem T) (hr.mono (by omega)) (b_Watch_getitem T) (pAt passL) (pv 0) (pe_tup (pa_cons (pv 2) (pa_cons (pv 3) pa_nil))) (fun _ _ => rfl)) (nomark _)))) (fun _ _ _ _ _ => (pe_ix ix_tK (pe_fldK (pe_fldK (pv 0) rfl) rfl) (pv 2) (fun _ _ => rfl)))) pa_nil))))), ?_⟩
    obtain ⟨a, dx, w, rfl, h1, _⟩ := id hw
    obtain ⟨a3, dx3, p3, q3, rfl, h5, h6, h7⟩ := id hv
    try dsimp only
    refine q_dropCall (ea_cons (ev_whouse (K := K) (ev_var (i := 0) rfl) h1 T.cl_Watch T.na_Watch_house) (ea_cons (ev_var (i := 1) rfl) ea_nil)) fun H1 e1 => ⟨.ref a3, p, n, gs, _, rfl, hv.ex e1, hl, (hq.ex e1).trip, fun i hi d H' e hd => k1 i hi d H' (e1.trans e) hd, fun hi d H' e hd => k2 hi d H' (e1.trans e) hd, fun z hz H2 e2 => ?_⟩
    have hin : ∀ t ∈ rs.map (·.2), inHouse n gs.length t.1 t.2.1 = true := fun t ht => first_in (by
      unfold triesRes at hz
      cases hf : firstW n gs.length 0 (-1) (-1) (rs.map (·.2)) with
      | none => rfl
      | some i => rw [hf] at hz; cases hz) t ht
    have hg : ∀ r ∈ rs, 0 ≤ r.2.1 ∧ r.2.1 < (gs.length : Int) := fun r hr => (of_decide_eq_true (hin r.2 (List.mem_map_of_mem hr))).1
    have e12 := e1.trans e2
    refine s_ret (v := .int (lossZ gs xss n (rs.map (·.2)))) (ev_sumN (el_is (el_tupG (K := K) (a, 0, 0, 0) (rs.map fun r => V.ref r.1) rs (fun r => decide (watVal xss n r.2.1 r.2.2.1 < r.2.2.2)) (fun r => V.int (gs.getD r.2.1.toNat ("", 0)).2) (fun r => [some (.ref a), some (.ref p), some (.int r.2.1), some (.int r.2.2.1), some (.int r.2.2.2)]) (ev_var (i := 1) rfl) (ex_t e12 hq.1) (List.length_map _) (by omega)
      (fun i x y H3 kk e3 hx hy hk => by
        rw [List.getElem?_map, hy] at hx
        cases hx
        exact ⟨y.1, _, rfl, ex_t (e12.trans e3) (hq.2 y (List.mem_of_getElem? hy)), rfl, .int y.2.1, _, rfl, .int y.2.2.1, _, rfl, .int y.2.2.2, _, rfl, rfl, hk⟩)
      (fun y => rfl)
      (fun y H3 e3 hy => et_test (ev_op (ev_var (i := 4) rfl) (ev_ownIxU (ev_var (i := 0) rfl) ((e12.trans e3) _ _ h1) (eu_tup (ea_cons (ev_var (i := 2) rfl) (ea_cons (ev_var (i := 3) rfl) ea_nil)) (by show 2 ≤ 100000; decide)) fun pp H4 e4 hp Q q => ⟨.ref a, .ref a3, pp, n, y.2.1, y.2.2.1, gs, xss, rfl, hw.ex ((e12.trans e3).trans e4), hv.ex ((e12.trans e3).trans e4), hl, hS, st_of hp, hg y hy, hn, fun H' e' => q H' e'⟩) rv_I0))
      (fun y H3 e3 hy _ => by
        have b := hg y hy
        refine ev_op (ev_hstakes (ev_whouse (ev_var (i := 0) rfl) ((e12.trans e3) _ _ h1) T.cl_Watch T.na_Watch_house) ((e12.trans e3) _ _ h5) T.cl_House T.na_House_stakes) (ev_var (i := 2) rfl) (rv_ixT (K := K) (st_of ((e12.trans e3) _ _ h7)) ?_)
        have := atI_ints (ns := gs.map (·.2)) (i := y.2.1) b.1 (by rw [List.length_map]; exact b.2)
        rw [this, List.getD_eq_getElem?_getD, List.getElem?_map, List.getD_eq_getElem?_getD, List.getElem?_eq_getElem (by omega)]
        rfl)) (by
        rw [List.filter_map, List.map_map, List.map_map]
        rfl)) ) fun H3 e3 => k3 z hz H3 (e12.trans e3)

def sp_cell (K : PySem.W.Frag) : Sp := fun vs H Q _ => ∃ (a : Addr) (ns : List Int) (k : Nat), vs = [.ref a, .int (k : Int)] ∧ SqL K H a (ns.map V.int) ∧ Q (.int (cellA ns k)) H
theorem ev_cell {K : PySem.W.Frag} {E : XK} {σ : L2.St} {H : Hp} {ta tk : TE} {a : Addr} {ns : List Int} {k : Nat} {z : Int} (ha : Ev ta σ H (.ref a)) (hk : Ev tk σ H (.int z)) (hS : SqL K H a (ns.map V.int)) (hz : z = (k : Int) := by rfl) : Ev (tCall (sp_cell K) [] E (tCons ta (tCons tk tNil))) σ H (.int (cellA ns k)) := fun H1 e Q q =>
  ha H1 e _ fun H2 e2 => hk H2 (e.trans e2) _ fun H3 e3 => by subst hz; exact ⟨a, ns, k, rfl, ex_l ((e.trans e2).trans e3) hS, q H3 (e2.trans e3)⟩
theorem ok_u_law_cell (T : Txt K mg A) : FnOk P w K mg base CX0 1 A.f_u_law_cell A.d_u_law_cell (["script", "k"] : List Str) (sp_cell K) := by
  refine T.F_u_law_cell.ok sc_u_law_cell (fun vs H Q E h => ?_) (fun cdv Ar outer s H vs Q E hr h => ?_)
  · obtain ⟨a, ns, k, rfl, _⟩ := h
    rfl
  · obtain ⟨a, ns, k, rfl, hS, q⟩ := h
    refine ⟨_, (pss_cons (ps_if (pt_cmpR op_lt (pv 1) (pe_callB len_K (by rfl) T.z_len (by decide +kernel) (pa_cons (pv 0) pa_nil)) (nomark _)) (pss_one (ps_ret (pe_callB call_abs (by rfl) T.z_abs (by decide +kernel) (pa_cons (pe_ix ix_lK (pv 0) (pv 1) (fun _ _ => rfl)) pa_nil)))) pss_nil)
        (pss_one (ps_ret pe_int))), ?_⟩
    refine ⟨_, rfl, _, rfl, .ref a, _, rfl, .inl ⟨_, hS, rfl⟩, _, _, rfl, rfl, _, rfl, ?_⟩
    unfold cellA at q
    rw [List.length_map]
    by_cases hk : k < ns.length
    · refine wayT (show (k : Int) < (ns.length : Int) by omega) ?_
      rw [if_pos hk] at q
      refine ⟨_, rfl, _, rfl, a, _, _, .int (ns.getD k 0), rfl, rfl, hS, atI_nat ?_, _, rfl, q⟩
      rw [List.getElem?_map, List.getD_eq_getElem?_getD, List.getElem?_eq_getElem hk]
      rfl
    · refine wayF (show ¬ (k : Int) < (ns.length : Int) by omega) ?_
      rw [if_neg hk] at q
      exact q

def sp_draws (K : PySem.W.Frag) : Sp := fun vs H Q _ => ∃ (c s : Int) (m : Addr) (ms : List Int), vs = [.int c, .int s, .ref m] ∧ SqL K H m (ms.map V.int) ∧ 0 ≤ c ∧ (-1000000 ≤ s ∧ s ≤ 1000000) ∧ ms.length ≤ 64 ∧
  (∀ x ∈ ms, 1 ≤ x ∧ x.natAbs < 2 ^ 1000) ∧ ∀ p H' ds, H p = none → Ex H H' → H' p = some (.lst (ds.map V.int)) → Drawn ms ds → Q (.ref p) H'
theorem er_draws {K : PySem.W.Frag} {E : XK} {σ : L2.St} {H : Hp} {tc ts tm : TE} {c z : Int} {ms : List Int} (hc : Ev tc σ H (.int c)) (hs : Ev ts σ H (.int z)) (hm : EvL tm σ H (ms.map V.int)) (h0 : 0 ≤ c) (hz : -1000000 ≤ z ∧ z ≤ 1000000) (hl : ms.length ≤ 64)
    (hb : ∀ x ∈ ms, 1 ≤ x ∧ x.natAbs < 2 ^ 1000) : EvR (tCall (sp_draws K) [] E (tCons tc (tCons ts (tCons tm tNil)))) σ H fun v H1 => ∃ p ds, v = .ref p ∧ H1 p = some (.lst (ds.map V.int)) ∧ Drawn ms ds := fun H1 e Q q =>
  hc H1 e _ fun H2 e2 => hs H2 (e.trans e2) _ fun H3 e3 => hm H3 ((e.trans e2).trans e3) _ fun m H4 _ e4 h4 =>
    ⟨c, z, m, ms, rfl, sq_of h4, h0, hz, hl, hb, fun p H' ds hp e' h' hD => q _ H' ((e2.trans e3).trans (e4.trans e')) ⟨p, ds, rfl, h', hD⟩⟩
theorem drawn_more {ms ds : List Int} {i : Nat} {m d : Int} (h : Drawn (ms.take i) ds) (hm : ms[i]? = some m) (h0 : 0 ≤ d) (h1 : d < m) : Drawn (ms.take (i + 1)) (ds ++ [d]) := by
  have hi : i < ms.length := (List.getElem?_eq_some_iff.mp hm).1
  obtain ⟨hl, hd⟩ := h
  have hl' : ds.length = i := by rw [hl, List.length_take]; omega
  refine ⟨by rw [List.length_append, hl', List.length_take]; simp; omega, fun j x hj => ?_⟩
  by_cases hji : j < i
  · have hx : (ms.take i)[j]? = some x := by
      rw [List.getElem?_take_of_lt hji]
      rw [List.getElem?_take_of_lt (by omega)] at hj
      exact hj
    obtain ⟨d', e, z⟩ := hd j x hx
    exact ⟨d', by rw [List.getElem?_append_left (by omega)]; exact e, z⟩
  · have hlt : j < i + 1 := by
      have := (List.getElem?_eq_some_iff.mp hj).1
      rw [List.length_take] at this
      omega
    have ej : j = i := by omega
    subst ej
    rw [List.getElem?_take_of_lt hlt, hm] at hj
    cases hj
    exact ⟨d, by rw [List.getElem?_append_right (by omega), hl', Nat.sub_self]; rfl, h0, h1⟩
theorem ok_u_law_draws (T : Txt K mg A) : FnOk P w K mg base CX0 1 A.f_u_law_draws A.d_u_law_draws (["cell", "salt", "menu"] : List Str) (sp_draws K) := by
  refine T.F_u_law_draws.ok sc_u_law_draws (fun vs H Q E h => ?_) (fun cdv Ar outer s H vs Q E hr h => ?_)
  · obtain ⟨c, s, m, ms, rfl, _⟩ := h
    rfl
  · obtain ⟨c, sa, m, ms, rfl, hS, hc, hs, hl, hm, k⟩ := h
    refine ⟨_, (pss_cons (ps_set (i := 3) sc_u_law_draws.nd rfl (Or.inl rfl) (pe_lst pa_nil))
        (pss_cons (ps_set (i := 4) sc_u_law_draws.nd rfl (Or.inl rfl) (pe_op op_sub (pv 0) (pe_op op_pow pe_int pe_int)))
        (pss_cons (ps_set (i := 5) sc_u_law_draws.nd rfl (Or.inl rfl) (pe_op op_add (pv 0) (pe_op op_mul pe_int (pv 1))))
        (pss_cons (ps_for PassesOwn.never rfl (pi_range1 rfl T.z_range (pa_cons (pe_callB len_K (by rfl) T.z_len (by decide +kernel) (pa_cons (pv 2) pa_nil)) pa_nil)) (pg_name (i := 6) sc_u_law_draws.nd rfl (Or.inl rfl)) (pss_one (ps_if (pt_cmpR op_ge (pv 4) pe_int (nomark _)) (pss_cons (ps_expr (pe_bm PySem.F.plainAttrs_list PySem.F.slot_list_append PySem.F.type_list_append mt_append (pv 3) (pa_cons (pe_op op_mod (pe_callTy call_int1 (by rfl) T.z_int (by decide +kernel) (pa_cons (pv 4) pa_nil)) (pe_ix ix_lK (pv 2) (pv 6) (fun _ _ => rfl))) pa_nil)))
        (pss_one (ps_set (i := 4) sc_u_law_draws.nd rfl (Or.inl rfl) (pe_op op_fdivW (pv 4) (pe_ix ix_lK (pv 2) (pv 6) (fun _ _ => rfl)))))) (pss_cons (ps_set (i := 5) sc_u_law_draws.nd rfl (Or.inl rfl) (pe_op op_mod (pe_callTy call_int1 (by rfl) T.z_int (by decide +kernel) (pa_cons (pe_op op_add (pe_op op_add (pe_op op_mul (pv 5) (pv 5)) (pe_op op_mul pe_int (pe_op op_add (pv 6) pe_int))) pe_int) pa_nil)) pe_int))
        (pss_cons (ps_set (i := 5) sc_u_law_draws.nd rfl (Or.inl rfl) (pe_op op_mod (pe_callTy call_int1 (by rfl) T.z_int (by decide +kernel) (pa_cons (pe_op op_add (pe_op op_mul (pv 5) (pv 5)) (pe_op op_fdiv (pv 5) pe_int)) pa_nil)) pe_int))
        (pss_one (ps_expr (pe_bm PySem.F.plainAttrs_list PySem.F.slot_list_append PySem.F.type_list_append mt_append (pv 3) (pa_cons (pe_op op_mod (pe_callTy call_int1 (by rfl) T.z_int (by decide +kernel) (pa_cons (pe_op op_fdiv (pv 5) pe_int) pa_nil)) (pe_ix ix_lK (pv 2) (pv 6) (fun _ _ => rfl))) pa_nil)))))))))
        (pss_one (ps_ret (pv 3))))))), ?_⟩
    refine ⟨Nat.zero_le _, fun p hp => ?_⟩
    refine ⟨_, rfl, _, _, rfl, rfl, ⟨by decide, by decide, by decide⟩, _, _, rfl, rfl, ?_⟩
    refine ⟨_, rfl, _, rfl, _, _, rfl, rfl, .inl ⟨by decide, by decide⟩, _, _, rfl, rfl, ?_⟩
    have e10 : ((10 : Int) ^ (18 : Int).toNat) = 1000000000000000000 := by decide
    have hS1 : SqL K (upd H p (.lst [])) m (ms.map V.int) := ex_l (Ex.new hp) hS
    refine ⟨_, rfl, .ref m, _, rfl, .inl ⟨_, hS1, rfl⟩, _, rfl, by omega, by rw [List.length_map]; omega, ?_⟩
    refine for_range (lo := 0) (n := ((ms.map V.int).length : Int).toNat) (fun i σ H' => ∃ (ds : List Int) (rest mixed : Int) (kv : Option V), σ = [some (.int c), some (.int sa), some (.ref m), some (.ref p), some (.int rest), some (.int mixed), kv] ∧ Ex H H' ∧
        H' p = some (.lst (ds.map V.int)) ∧ Drawn (ms.take i) ds ∧ (0 ≤ rest ∨ (-18446744073709551616 < mixed ∧ mixed < 18446744073709551616))) ?_ ?_ ?_
    · refine ⟨[], _, _, none, rfl, Ex.new hp, upd_same, ⟨by simp, fun i x h => by simp at h⟩, ?_⟩
      rw [e10]
      omega
    · rintro i σ H' hi ⟨ds, rest, mixed, kv, rfl, ex, hH, hD, hr0⟩
      have hi' : i < ms.length := by simpa using hi
      obtain ⟨mi, hmi⟩ : ∃ mi, ms[i]? = some mi := ⟨ms[i], List.getElem?_eq_getElem hi'⟩
      have hmm := hm mi (List.mem_of_getElem? hmi)
      have hSi : SqL K H' m (ms.map V.int) := ex_l ex hS
      have hat : atI (ms.map V.int) (0 + (i : Int)) = some (.int mi) := by
        rw [Int.zero_add]
        refine atI_nat ?_
        rw [List.getElem?_map, hmi]
        rfl
      have hdl : ds.length ≤ 64 := by
        have := hD.1
        rw [List.length_take] at this
        omega
      have hsz : (ds.map V.int).length < sizeLine := by
        rw [List.length_map]
        exact Nat.lt_of_le_of_lt hdl (by decide)
      have e0 : (0 : Int) + (i : Int) = (i : Int) := Int.zero_add _
      refine ⟨_, rfl, _, _, rfl, rfl, _, rfl, way (fun hr => ?_) (fun hr => ?_)⟩
      · refine ⟨_, rfl, .inl ⟨rfl, _, SqL.of hH⟩, _, rfl, .inl ⟨rest, rfl, _, rfl, _, rfl, m, _, _, .int mi, rfl, rfl, hSi, hat, _, _, rfl, rfl, (by show (0 : Int) < mi; omega), p, _, _, rfl, rfl, hH, hsz, ?_⟩⟩
        have ex2 : Ex H (upd H' p (.lst (ds.map V.int ++ [.int (rest % mi)]))) := Ex.mut ex hp
        refine ⟨_, rfl, _, rfl, _, rfl, m, _, _, .int mi, rfl, rfl, ex_l ex2 hS, hat, _, _, rfl, rfl, wide_div (by omega) hmm.2 (by decide) (by decide), ?_⟩
        refine ⟨ds ++ [rest % mi], rest / mi, mixed, _, rfl, ex2, ?_, drawn_more hD hmi (Int.emod_nonneg _ (by omega)) (Int.emod_lt_of_pos _ (by omega)), .inl (Int.ediv_nonneg hr (by omega))⟩
        rw [upd_same, List.map_append]
        rfl
      · have hx : -18446744073709551616 < mixed ∧ mixed < 18446744073709551616 := by omega
        refine ⟨_, rfl, _, rfl, _, _, rfl, rfl, .inl ⟨hx.1, hx.2⟩, _, rfl, _, _, rfl, rfl, _, _, rfl, rfl, .inl ⟨by decide, by decide⟩, _, _, rfl, rfl, _, _, rfl, rfl, .inl ⟨_, rfl, _, _, rfl, rfl, (by show (0 : Int) < 2147483399; decide), ?_⟩⟩
        have b1 : ∀ z : Int, 0 ≤ z % 2147483399 ∧ z % 2147483399 < 2147483399 := fun z => ⟨Int.emod_nonneg _ (by decide), Int.emod_lt_of_pos _ (by decide)⟩
        have b2 : ∀ z : Int, 0 ≤ z % 2147483629 ∧ z % 2147483629 < 2147483629 := fun z => ⟨Int.emod_nonneg _ (by decide), Int.emod_lt_of_pos _ (by decide)⟩
        refine ⟨_, rfl, _, rfl, _, _, rfl, rfl, .inl ⟨Int.lt_of_lt_of_le (by decide) (b1 _).1, Int.lt_trans (b1 _).2 (by decide)⟩, _, rfl, _, _, rfl, rfl, ⟨by decide, by decide⟩, _, _, rfl, rfl, .inl ⟨_, rfl, _, _, rfl, rfl, (by show (0 : Int) < 2147483629; decide), ?_⟩⟩
        refine ⟨_, rfl, .inl ⟨rfl, _, SqL.of hH⟩, _, rfl, _, _, rfl, rfl, ⟨by decide, by decide⟩, .inl ⟨_, rfl, _, rfl, _, rfl, m, _, _, .int mi, rfl, rfl, hSi, hat, _, _, rfl, rfl, (by show (0 : Int) < mi; omega), p, _, _, rfl, rfl, hH, hsz, ?_⟩⟩
        refine ⟨ds ++ [((((mixed * mixed + 3571 * (0 + (i : Int) + 1) + 40692) % 2147483399) * ((mixed * mixed + 3571 * (0 + (i : Int) + 1) + 40692) % 2147483399) + ((mixed * mixed + 3571 * (0 + (i : Int) + 1) + 40692) % 2147483399) / 97) % 2147483629) / 8 % mi], rest, _, _, rfl, Ex.mut ex hp, ?_, drawn_more hD hmi (Int.emod_nonneg _ (by omega)) (Int.emod_lt_of_pos _ (by omega)), .inr ⟨Int.lt_of_lt_of_le (by decide) (b2 _).1, Int.lt_trans (b2 _).2 (by decide)⟩⟩
        rw [upd_same, List.map_append]
        rfl
    · rintro σ H' ⟨ds, rest, mixed, kv, rfl, ex, hH, hD, _⟩
      refine ⟨_, rfl, k p H' ds hp ex hH ?_⟩
      have e : ((ms.map V.int).length : Int).toNat = ms.length := by simp
      rw [e, List.take_length] at hD
      exact hD

theorem isi {K : PySem.W.Frag} {H : Hp} {x : V} {t n : String} {b : Bool} {Q : VK} (ty : TyX K H x (.type t)) (h : kitB t n = some b) (q : Q (.bl b) H) : rIsi K [x, .ty n] H Q := ⟨x, .ty n, _, _, b, rfl, .ty n, ty, kit_ty h, q⟩
def sp_is_int (K : PySem.W.Frag) : Sp := fun vs H Q _ => ∃ i : Int, vs = [.int i] ∧ Q (.bl true) H
theorem ok_u_law_is_int (T : Txt K mg A) : FnOk P w K mg base CX0 1 A.f_u_law_is_int A.d_u_law_is_int (["x"] : List Str) (sp_is_int K) := by
  refine T.F_u_law_is_int.ok sc_u_law_is_int (fun vs H Q E h => ?_) (fun cdv Ar outer s H vs Q E hr h => ?_)
  · obtain ⟨i, rfl, _⟩ := h
    rfl
  · obtain ⟨i, rfl, q⟩ := h
    refine ⟨_, (pss_one (ps_ret (pe_and (pe_callB isi_K (by rfl) T.z_isinstance (by decide +kernel) (pa_cons (pv 0) (pa_cons (pe_bltn (v := .ty "int") (by rfl) T.z_int (by decide +kernel) rfl) pa_nil))) (pe_one (pe_not (pe_callB isi_K (by rfl) T.z_isinstance (by decide +kernel) (pa_cons (pv 0) (pa_cons (pe_bltn (v := .ty "bool") (by rfl) T.z_bool (by decide +kernel) rfl) pa_nil)))))))), ?_⟩
    refine ⟨_, rfl, _, _, _, _, true, rfl, .ty _, .base (.int i), kit_ty (by decide +kernel), ⟨_, rfl, iteT ?_⟩⟩
    exact ⟨_, rfl, _, _, _, _, false, rfl, .ty _, .base (.int i), kit_ty (by decide +kernel), ⟨_, rfl, q⟩⟩
/-- like data are told alike -/
def sp_same (K : PySem.W.Frag) (n : Nat) : Sp := fun vs H Q _ => ∃ (x y : V) (d : PyData), vs = [x, y] ∧ Dp K H x d ∧ Dp K H y d ∧ Flat n d ∧ Q (.bl true) H
theorem same_loop {K : PySem.W.Frag} {H : Hp} {n k : Nat} {xs ys : List V} {ds : List PyData} {x y : V} {kv : Option V} {Q : VK} {N : L2.St → Hp → Prop} {tb : TS} (hk : k = ds.length) (hx : DpAll K H xs ds) (hy : DpAll K H ys ds) (hf : ∀ d ∈ ds, Flat n d) (hl : ds.length ≤ 40000)
    (hb : ∀ (i : Nat) (u v : V) (d : PyData) (kv : Option V) (D : Ends), i < ds.length → xs[i]? = some u → ys[i]? = some v → Dp K H u d → Dp K H v d → Flat n d → D.nx [some x, some y, some (.int (i : Int))] H → tb D ([some x, some y, kv].set 2 (some (.int (i : Int)))) H)
    (hq : ∀ kv, N [some x, some y, kv] H) :
    ∃ W : Nat → Nat → L2.St → Hp → Prop, (∃ m, W 0 m [some x, some y, kv] H) ∧ ∀ i m σ H, W i m σ H →
      ((Itr 0 k).stop i H ∧ N σ H) ∨ ((Itr 0 k).go i H ∧ ∃ N' : L2.St → Hp → Prop, (∀ σ' H', N' σ' H' → ∃ m', m' < m ∧ W (i + 1) m' σ' H') ∧ ∀ z H', (Itr 0 k).yld i H z H' → gName 2 z σ H' fun σ2 H2 => tb { nx := N', ct := N', bk := N, rt := Q } σ2 H2) := by
  subst hk
  refine for_range (D := { nx := N, rt := Q }) (fun i σ H' => H' = H ∧ ∃ kv, σ = [some x, some y, kv]) ⟨rfl, _, rfl⟩ ?_ ?_
  · rintro i σ H' hi ⟨rfl, kv, rfl⟩
    obtain ⟨_, gx⟩ := dp_get hx
    obtain ⟨_, gy⟩ := dp_get hy
    have ed := List.getElem?_eq_getElem hi
    obtain ⟨u, eu, du⟩ := gx i _ ed
    obtain ⟨v, ev, dv⟩ := gy i _ ed
    show tb _ ([some x, some y, kv].set 2 (some (.int (0 + (i : Int))))) H'
    rw [Int.zero_add]
    exact hb i u v _ kv _ hi eu ev du dv (hf _ (List.getElem_mem hi)) ⟨rfl, _, rfl⟩
  · rintro σ H' ⟨rfl, kv, rfl⟩
    exact hq kv
theorem ok_u_law_same_n (T : Txt K mg A) : ∀ n, FnOk P w K mg base CX0 (n + 2) A.f_u_law_same A.d_u_law_same (["got", "due"] : List Str) (sp_same K n) := by
  intro n
  induction n with
  | zero => exact ⟨fun vs H Q E h => by obtain ⟨x, y, d, rfl, _⟩ := h; rfl, fun Ar outer s H args us vs Q E _ _ _ _ h => by obtain ⟨x, y, d, _, _, _, hf, _⟩ := h; exact hf.elim⟩
  | succ n ih =>
    refine T.F_u_law_same.ok sc_u_law_same (fun vs H Q E h => ?_) (fun cdv Ar outer s H vs Q E hr h => ?_)
    · obtain ⟨x, y, d, rfl, _⟩ := h
      rfl
    · obtain ⟨x, y, d, rfl, hx, hy, hf, q⟩ := h
      have ihx := ih
      refine ⟨_, (pss_cons (ps_if (pt_cmpR op_isN (pv 1) pe_non (nomark _)) (pss_one (ps_ret (pe_cmpR op_isN (pv 0) pe_non (nomark _)))) pss_nil)
        (pss_cons (ps_if (pt_cmpR op_isK (pv 1) pe_bl (nomark _)) (pss_one (ps_ret (pe_cmpR op_isK (pv 0) pe_bl (nomark _)))) pss_nil)
        (pss_cons (ps_if (pt_cmpR op_isK (pv 1) pe_bl (nomark _)) (pss_one (ps_ret (pe_cmpR op_isK (pv 0) pe_bl (nomark _)))) pss_nil)
        (pss_cons (ps_if (pt_val (pe_callB isi_K (by rfl) T.z_isinstance (by decide +kernel) (pa_cons (pv 1) (pa_cons (pe_bltn (v := .ty "int") (by rfl) T.z_int (by decide +kernel) rfl) pa_nil)))) (pss_one (ps_ret (pe_and (pe_call (ok_u_law_is_int T) (hr.mono (by omega)) rfl T.g_u_law_is_int T.k_u_law_is_int (b_u_law_is_int T) .nil pass0 (pa_cons (pv 0) pa_nil)) (pe_one (pe_cmpR op_eq (pv 0) (pv 1) (nomark _)))))) pss_nil)
        (pss_cons (ps_if (pt_val (pe_callB isi_K (by rfl) T.z_isinstance (by decide +kernel) (pa_cons (pv 1) (pa_cons (pe_bltn (v := .ty "str") (by rfl) T.z_str (by decide +kernel) rfl) pa_nil)))) (pss_one (ps_ret (pe_and (pe_callB isi_K (by rfl) T.z_isinstance (by decide +kernel) (pa_cons (pv 0) (pa_cons (pe_bltn (v := .ty "str") (by rfl) T.z_str (by decide +kernel) rfl) pa_nil))) (pe_one (pe_cmpR op_eq (pv 0) (pv 1) (nomark _)))))) pss_nil)
        (pss_cons (ps_if (pt_val (pe_callB isi_K (by rfl) T.z_isinstance (by decide +kernel) (pa_cons (pv 1) (pa_cons (pe_bltn (v := .ty "tuple") (by rfl) T.z_tuple (by decide +kernel) rfl) pa_nil)))) (pss_one (ps_if (PW.pt (pw_or (pt_not (pt_val (pe_callB isi_K (by rfl) T.z_isinstance (by decide +kernel) (pa_cons (pv 0) (pa_cons (pe_bltn (v := .ty "tuple") (by rfl) T.z_tuple (by decide +kernel) rfl) pa_nil))))) (pw_or1 (pt_cmpR op_ne (pe_callB len_K (by rfl) T.z_len (by decide +kernel) (pa_cons (pv 0) pa_nil)) (pe_callB len_K (by rfl) T.z_len (by decide +kernel) (pa_cons (pv 1) pa_nil)) (nomark _))))) (pss_one (ps_ret pe_bl)) pss_nil)) (pss_one (ps_if (PW.pt (pw_or (pt_not (pt_val (pe_callB isi_K (by rfl) T.z_isinstance (by decide +kernel) (pa_cons (pv 0) (pa_cons (pe_bltn (v := .ty "list") (by rfl) T.z_list (by decide +kernel) rfl) pa_nil))))) (pw_or1 (pt_cmpR op_ne (pe_callB len_K (by rfl) T.z_len (by decide +kernel) (pa_cons (pv 0) pa_nil)) (pe_callB len_K (by rfl) T.z_len (by decide +kernel) (pa_cons (pv 1) pa_nil)) (nomark _))))) (pss_one (ps_ret pe_bl)) pss_nil)))
        (pss_cons (ps_for PassesOwn.never rfl (pi_range1 rfl T.z_range (pa_cons (pe_callB len_K (by rfl) T.z_len (by decide +kernel) (pa_cons (pv 1) pa_nil)) pa_nil)) (pg_name (i := 2) sc_u_law_same.nd rfl (Or.inl rfl)) (pss_one (ps_if (pt_not (pt_val (pe_call ih (hr.mono (by omega)) rfl T.g_u_law_same T.k_u_law_same (b_u_law_same T) .nil pass0 (pa_cons (pe_ix ix_sK (pv 0) (pv 2) (fun _ _ => rfl)) (pa_cons (pe_ix ix_sK (pv 1) (pv 2) (fun _ _ => rfl)) pa_nil))))) (pss_one (ps_ret pe_bl)) pss_nil)))
        (pss_one (ps_ret pe_bl))))))))), ?_⟩
      cases hx with
      | non => cases hy; exact ⟨_, rfl, rfl, _, rfl, wayT rfl ⟨_, rfl, rfl, q⟩⟩
      | bl b =>
        cases hy
        refine ⟨_, rfl, rfl, _, rfl, wayF (fun z => by cases z) ?_⟩
        cases b with
        | true => exact ⟨_, rfl, _, rfl, _, rfl, wayT rfl ⟨_, rfl, _, rfl, q⟩⟩
        | false => exact ⟨_, rfl, _, rfl, _, rfl, wayF (fun z => by cases z) ⟨_, rfl, _, rfl, _, rfl, wayT rfl ⟨_, rfl, _, rfl, q⟩⟩⟩
      | int i =>
        cases hy
        refine ⟨_, rfl, rfl, _, rfl, wayF (fun z => by cases z) ⟨_, rfl, _, rfl, _, rfl, wayF (fun z => by cases z) ⟨_, rfl, _, rfl, _, rfl, wayF (fun z => by cases z) ?_⟩⟩⟩
        refine ⟨_, rfl, _, _, _, _, true, rfl, .ty _, .base (.int i), kit_ty (by decide +kernel), ⟨_, rfl, iteT ?_⟩⟩
        refine ⟨_, rfl, i, rfl, _, rfl, iteT ?_⟩
        refine ⟨_, rfl, _, rfl, rfl, ?_⟩
        rw [decide_eq_true rfl]
        exact q
      | str z =>
        cases hy
        refine ⟨_, rfl, rfl, _, rfl, wayF (fun z => by cases z) ⟨_, rfl, _, rfl, _, rfl, wayF (fun z => by cases z) ⟨_, rfl, _, rfl, _, rfl, wayF (fun z => by cases z) ?_⟩⟩⟩
        refine ⟨_, rfl, _, _, _, _, false, rfl, .ty _, .base (.str z), kit_ty (by decide +kernel), ⟨_, rfl, iteF ?_⟩⟩
        refine ⟨_, rfl, _, _, _, _, true, rfl, .ty _, .base (.str z), kit_ty (by decide +kernel), ⟨_, rfl, iteT ?_⟩⟩
        refine ⟨_, rfl, _, _, _, _, true, rfl, .ty _, .base (.str z), kit_ty (by decide +kernel), ⟨_, rfl, iteT ?_⟩⟩
        refine ⟨_, rfl, _, rfl, rfl, ?_⟩
        rw [decide_eq_true rfl]
        exact q
      | lst sx ax =>
        cases hy with
        | lst sy ay =>
          refine ⟨_, rfl, rfl, _, rfl, wayF (fun z => by cases z) ⟨_, rfl, _, rfl, _, rfl, wayF (fun z => by cases z) ⟨_, rfl, _, rfl, _, rfl, wayF (fun z => by cases z) ?_⟩⟩⟩
          refine ⟨_, rfl, _, _, _, _, false, rfl, .ty _, tyx_l sy, kit_ty (by decide +kernel), ⟨_, rfl, iteF ?_⟩⟩
          refine ⟨_, rfl, _, _, _, _, false, rfl, .ty _, tyx_l sy, kit_ty (by decide +kernel), ⟨_, rfl, iteF ?_⟩⟩
          refine ⟨_, rfl, _, _, _, _, false, rfl, .ty _, tyx_l sy, kit_ty (by decide +kernel), ⟨_, rfl, iteF ?_⟩⟩
          refine ⟨_, rfl, _, _, _, _, true, rfl, .ty _, tyx_l sx, kit_ty (by decide +kernel), ⟨_, rfl, iteF ?_⟩⟩
          have lx := (dp_get ax).1
          have ly := (dp_get ay).1
          refine ⟨_, rfl, _, _, rfl, .inl ⟨_, sx, rfl⟩, _, rfl, _, _, rfl, .inl ⟨_, sy, rfl⟩, rfl, _, rfl, wayNT (by rw [lx, ly]) ?_⟩
          have h40 := hf.1
          refine ⟨_, rfl, _, _, rfl, .inl ⟨_, sy, rfl⟩, _, rfl, by omega, by omega, same_loop (by omega) ax ay hf.2 hf.1 (fun i u v d kv D hi eu ev du dv fd hn => ?_) (fun kv => q)⟩
          refine ⟨_, rfl, _, rfl, .inl ⟨_, _, _, u, rfl, rfl, sx, atI_nat eu, ?_⟩⟩
          refine ⟨_, rfl, _, rfl, .inl ⟨_, _, _, v, rfl, rfl, sy, atI_nat ev, ?_⟩⟩
          exact ⟨u, v, d, rfl, du, dv, fd, _, rfl, iteF hn⟩
      | tup sx ax =>
        cases hy with
        | tup sy ay =>
          refine ⟨_, rfl, rfl, _, rfl, wayF (fun z => by cases z) ⟨_, rfl, _, rfl, _, rfl, wayF (fun z => by cases z) ⟨_, rfl, _, rfl, _, rfl, wayF (fun z => by cases z) ?_⟩⟩⟩
          refine ⟨_, rfl, _, _, _, _, false, rfl, .ty _, tyx_t sy, kit_ty (by decide +kernel), ⟨_, rfl, iteF ?_⟩⟩
          refine ⟨_, rfl, _, _, _, _, false, rfl, .ty _, tyx_t sy, kit_ty (by decide +kernel), ⟨_, rfl, iteF ?_⟩⟩
          refine ⟨_, rfl, _, _, _, _, true, rfl, .ty _, tyx_t sy, kit_ty (by decide +kernel), ⟨_, rfl, iteT ?_⟩⟩
          refine ⟨_, rfl, _, _, _, _, true, rfl, .ty _, tyx_t sx, kit_ty (by decide +kernel), ⟨_, rfl, iteF ?_⟩⟩
          have lx := (dp_get ax).1
          have ly := (dp_get ay).1
          refine ⟨_, rfl, _, _, rfl, .inr ⟨_, sx, rfl⟩, _, rfl, _, _, rfl, .inr ⟨_, sy, rfl⟩, rfl, _, rfl, wayNT (by rw [lx, ly]) ?_⟩
          have h40 := hf.1
          refine ⟨_, rfl, _, _, rfl, .inr ⟨_, sy, rfl⟩, _, rfl, by omega, by omega, same_loop (by omega) ax ay hf.2 hf.1 (fun i u v d kv D hi eu ev du dv fd hn => ?_) (fun kv => q)⟩
          refine ⟨_, rfl, _, rfl, .inr (.inl ⟨_, _, _, u, rfl, rfl, sx, atI_nat eu, ?_⟩)⟩
          refine ⟨_, rfl, _, rfl, .inr (.inl ⟨_, _, _, v, rfl, rfl, sy, atI_nat ev, ?_⟩)⟩
          exact ⟨u, v, d, rfl, du, dv, fd, _, rfl, iteF hn⟩
theorem ok_u_law_same (T : Txt K mg A) : FnOk P w K mg base CX0 6 A.f_u_law_same A.d_u_law_same (["got", "due"] : List Str) (sp_same K 4) := ok_u_law_same_n T 4

def spName : Sp := fun vs H Q _ => ∃ n : Int, vs = [.int n] ∧ ∀ z H', Ex H H' → Word z → Q (.str z) H'
theorem er_name {E : XK} {σ : L2.St} {H : Hp} {t1 : TE} {n : Int} (h1 : Ev t1 σ H (.int n)) : EvR (tCall spName [] E (tCons t1 tNil)) σ H fun v _ => ∃ z, v = .str z ∧ Word z :=
  er_call (ea_cons h1 ea_nil) fun H1 e Q q => ⟨n, rfl, fun z H' e' h => q _ H' e' ⟨z, rfl, h⟩⟩
theorem ok_u_law_name (T : Txt K mg A) : FnOk P w K mg base CX0 1 A.f_u_law_name A.d_u_law_name (["number"] : List Str) spName := by
  refine T.F_u_law_name.ok sc_u_law_name (fun vs H Q E h => ?_) (fun cdv Ar outer s H vs Q E hr h => ?_)
  · obtain ⟨n, rfl, _⟩ := h
    rfl
  · obtain ⟨n, rfl, k⟩ := h
    refine ⟨_, (pss_cons (ps_set (i := 1) sc_u_law_name.nd rfl (Or.inl rfl) pe_str)
        (pss_cons (ps_set (i := 2) sc_u_law_name.nd rfl (Or.inl rfl) pe_str)
        (pss_cons (ps_for PassesOwn.never rfl (pi_range1 rfl T.z_range (pa_cons (pe_op op_add pe_int (pe_op op_mod (pe_callTy call_int1 (by rfl) T.z_int (by decide +kernel) (pa_cons (pv 0) pa_nil)) pe_int)) pa_nil)) (pg_name (i := 3) sc_u_law_name.nd rfl (Or.inl rfl)) (pss_cons (ps_set (i := 0) sc_u_law_name.nd rfl (Or.inl rfl) (pe_op op_add (pe_op op_add (pe_op op_fdiv (pv 0) pe_int) (pe_op op_mul pe_int (pv 3))) pe_int))
        (pss_one (ps_set (i := 2) sc_u_law_name.nd rfl (Or.inl rfl) (pe_op op_add_str (pv 2) (pe_ix ix_str (pv 1) (pe_op op_mod (pe_callTy call_int1 (by rfl) T.z_int (by decide +kernel) (pa_cons (pv 0) pa_nil)) pe_int) (fun _ _ => rfl)))))))
        (pss_one (ps_ret (pv 2)))))), ?_⟩
    try dsimp only
    refine q_asg (v := .str LET) ev_c fun H1 e1 => ?_
    try dsimp only
    refine q_asg (v := .str (txt [])) ev_c fun H2 e2 => ?_
    try dsimp only
    refine q_forR1 (j := 3) (n := 1 + n % 8) (ea_cons (ev_op ev_c (ev_op (ev_int (ev_var (i := 0) rfl)) ev_c (rv_I (show (0 : Int) < 8 by decide))) rv_I0) ea_nil) (by omega)
      (fun i σ' G => ∃ (m : Int) (l : List Nat) (kv : Option V), σ' = [some (.int m), some (.str LET), some (.str (txt l)), kv] ∧ Ex H G ∧ l.length = i ∧ ∀ c ∈ l, 97 ≤ c ∧ c ≤ 122) (fun H3 e3 => ⟨n, [], none, rfl, (e1.trans e2).trans e3, rfl, fun c hc => by cases hc⟩) ?_ ?_
    · rintro i σ' G hi ⟨m, l, kv, rfl, eG, hl, hc⟩
      try dsimp only
      refine q_asg (v := .int (m / 8 + 31 * (i : Int) + 5)) (ev_op (ev_op (ev_op (ev_var (i := 0) rfl) ev_c (rv_I (show CDiv m 8 from ⟨by decide, by decide⟩))) (ev_op ev_c (ev_var (i := 3) rfl) (rv_I (show CMul 31 (i : Int) from .inl ⟨by decide, by decide⟩))) rv_I0) ev_c rv_I0) fun G1 g1 => ?_
      generalize m / 8 + 31 * (i : Int) + 5 = m2
      have m0 : 0 ≤ m2 % 26 ∧ m2 % 26 < 26 := by omega
      try dsimp only
      refine s_asg (v := .str (txt (l ++ [97 + (m2 % 26).toNat]))) (ev_is (ev_op (ev_var (i := 2) rfl) (ev_op (ev_var (i := 1) rfl) (ev_op (ev_int (ev_var (i := 0) rfl)) ev_c (rv_I (show (0 : Int) < 26 by decide))) (rv_ixS (w := LET) (by decide) (let_at m0))) (rv_addS (by rw [txt_len, txt_one, txt_len]; show l.length + 1 ≤ 100000; omega))) (by rw [txt_one, txt_add])) fun G2 g2 => ⟨m2, _, _, rfl, eG.trans (g1.trans g2), by rw [List.length_append, hl]; rfl, fun c h => ?_⟩
      rcases List.mem_append.mp h with h | h
      · exact hc c h
      · have := List.mem_singleton.mp h
        omega
    rintro σ' G ⟨m, l, kv, rfl, eG, hl, hc⟩
    exact s_ret (ev_var (i := 2) rfl) fun G1 g1 => k _ G1 (eG.trans g1) ⟨by rw [txt_len]; omega, hc⟩

def spNames (K : PySem.W.Frag) : Sp := fun vs H Q _ => ∃ (a : Addr) (ns : List Int), vs = [.ref a] ∧ SqL K H a (ns.map V.int) ∧ ns.length ≤ 7 ∧ ∀ p H' (zs : List Str), Ex H H' → H' p = some (.lst (zs.map V.str)) → zs.length = ns.length → zs.Nodup → (∀ z ∈ zs, Word z) → Q (.ref p) H'
theorem er_names {K : PySem.W.Frag} {E : XK} {σ : L2.St} {H : Hp} {t1 : TE} {ns : List Int} (h1 : EvR t1 σ H fun v H1 => ∃ p : Addr, v = .ref p ∧ SqL K H1 p (ns.map V.int)) (hl : ns.length ≤ 7) : EvR (tCall (spNames K) [] E (tCons t1 tNil)) σ H fun v H1 => ∃ (p : Addr) (zs : List Str), v = .ref p ∧ H1 p = some (.lst (zs.map V.str)) ∧ zs.length = ns.length ∧ zs.Nodup ∧ ∀ z ∈ zs, Word z := fun H1 e Q q =>
  h1 H1 e _ fun v H2 e2 hv => by
    obtain ⟨a, rfl, ha⟩ := hv
    exact ⟨a, ns, rfl, ha, hl, fun p H' zs e' hp h1 h2 h3 => q _ H' (e2.trans e') ⟨p, zs, rfl, hp, h1, h2, h3⟩⟩
theorem ok_u_law_names (T : Txt K mg A) : FnOk P w K mg base CX0 2 A.f_u_law_names A.d_u_law_names (["numbers"] : List Str) (spNames K) := by
  refine T.F_u_law_names.ok sc_u_law_names (fun vs H Q E h => ?_) (fun cdv Ar outer s H vs Q E hr h => ?_)
  · obtain ⟨a, ns, rfl, _⟩ := h
    rfl
  · obtain ⟨a, ns, rfl, hS, hl, k⟩ := h
    refine ⟨_, (pss_cons (ps_set (i := 1) sc_u_law_names.nd rfl (Or.inl rfl) pe_str)
        (pss_cons (ps_set (i := 2) sc_u_law_names.nd rfl (Or.inl rfl) (pe_lst pa_nil))
        (pss_cons (ps_for PassesOwn.never rfl (pi_listK (pv 0)) (pg_name (i := 3) sc_u_law_names.nd rfl (Or.inl rfl)) (pss_cons (ps_set (i := 4) sc_u_law_names.nd rfl (Or.inl rfl) (pe_call (ok_u_law_name T) (hr.mono (by omega)) rfl T.g_u_law_name T.k_u_law_name (b_u_law_name T) .nil pass0 (pa_cons (pv 3) pa_nil)))
        (pss_cons (ps_for PassesOwn.never rfl (pi_range1 rfl T.z_range (pa_cons pe_int pa_nil)) (pg_name (i := 5) sc_u_law_names.nd rfl (Or.inl rfl)) (pss_one (ps_if (pt_cmpR in_K (pv 4) (pv 2) (by with_unfolding_all rfl)) (pss_one (ps_set (i := 4) sc_u_law_names.nd rfl (Or.inl rfl) (pe_op op_add_str (pe_slice sl_str (pv 4) po_none (po_some (pe_un un_neg pe_int))) (pe_ix ix_str (pv 1) (pe_op op_mod (pe_op op_add (pe_m1 PySem.F.slot_str_index PySem.F.type_str_index mt_sindex (pv 1) (pe_ix ix_str (pv 4) (pe_un un_neg pe_int) (fun _ _ => rfl))) pe_int) pe_int) (fun _ _ => rfl))))) pss_nil)))
        (pss_one (ps_expr (pe_bm PySem.F.plainAttrs_list PySem.F.slot_list_append PySem.F.type_list_append mt_append (pv 2) (pa_cons (pv 4) pa_nil)))))))
        (pss_one (ps_ret (pv 2)))))), ?_⟩
    try dsimp only
    refine q_asg (v := .str LET) ev_c fun H1 e1 => ?_
    try dsimp only
    refine q_asgL (xs := []) (el_lst ea_nil (by decide)) fun np H2 hnp e2 h2 => ?_
    have np0 : H np = none := fresh_back e1 hnp
    try dsimp only
    refine q_forLn (K := K) (a := a) (xs := ns.map V.int) (j := 3) (ev_var (i := 0) rfl) (ex_l (e1.trans e2) hS)
      (fun i σ' G => ∃ (v3 v4 v5 : Option V) (zs : List Str), σ' = [some (.ref a), some (.str LET), some (.ref np), v3, v4, v5] ∧ Ex H G ∧ G np = some (.lst (zs.map V.str)) ∧ zs.length = i ∧ zs.Nodup ∧ ∀ z ∈ zs, Word z)
      (fun H3 e3 => ⟨none, none, none, [], rfl, (e1.trans e2).trans e3, e3 _ _ h2, rfl, .nil, fun z hz => by cases hz⟩) (fun i σ' G _ ⟨_, _, _, _, _, e, _⟩ => ex_l e hS) ?_ ?_
    · rintro i y σ' G hy ⟨v3, v4, v5, zs, rfl, eG, hz, hzl, hzd, hzw⟩
      obtain ⟨m, rfl, hm⟩ := some_int hy
      have hi : i < ns.length := (List.getElem?_eq_some_iff.mp hm).1
      try dsimp only
      refine q_asgR (er_name (ev_var (i := 3) rfl)) fun w G1 g1 hw => ?_
      obtain ⟨z0, rfl, hw0⟩ := hw
      obtain ⟨p, c, hc, hp, hpa, rfl⟩ := word_split hw0
      try dsimp only
      refine q_forR1 (j := 5) (n := 8) (ea_cons ev_c ea_nil) (by decide)
        (fun t σ' G' => ∃ (w : Str) (v5 : Option V), σ' = [some (.ref a), some (.str LET), some (.ref np), some (.int m), some (.str w), v5] ∧ Ex G G' ∧ Word w ∧ (w ∉ zs ∨ (w = bump p c t ∧ ∀ s, s < t → bump p c s ∈ zs))) (fun H3 e3 => ⟨_, v5, rfl, g1.trans e3, hw0, .inr ⟨rfl, fun s hs => absurd hs (Nat.not_lt_zero _)⟩⟩) ?_ ?_
      · rintro t σ' G' ht ⟨w, v5, rfl, eG', hww, hor⟩
        try dsimp only
        refine s_when (b := decide (w ∈ zs)) (et_test (ev_is (ev_op (ev_var (i := 4) rfl) (ev_var (i := 2) rfl) (rv_inL (K := K) (neg := false) (sq_of (eG' _ _ hz)) rfl (strs_flat zs))) (by rw [← inV_strs]; rfl))) (fun h G2 g2 => ?_) (fun h G2 g2 => ⟨w, _, rfl, eG'.trans g2, hww, .inl (of_decide_eq_false h)⟩)
        have h := of_decide_eq_true h
        obtain ⟨rfl, hall⟩ := hor.resolve_left (fun z => z h)
        have l1 : (bump p c t).length ≤ 8 := hww.len.2
        have at1 : atI (bump p c t).cps.toList (-1) = some (97 + (c + t) % 26) := atI_last (by show (p ++ [97 + (c + t) % 26]).getLast? = _; simp)
        have m0 : 0 ≤ (((97 + (c + t) % 26 - 97 : Nat) : Int) + 1) % 26 ∧ (((97 + (c + t) % 26 - 97 : Nat) : Int) + 1) % 26 < 26 := by omega
        have cut : cutS (bump p c t) none (some (-1)) = txt p := by unfold bump; rw [cut_last, List.dropLast_concat]
        try dsimp only
        refine s_asg (v := .str (bump p c (t + 1))) (ev_is (ev_op (ev_is (ev_slS (ev_var (i := 4) rfl) eo_none (eo_some (i := -1) (ev_un ev_c ru_neg)) (by omega)) (congrArg V.str cut)) (ev_op (ev_var (i := 1) rfl) (ev_op (ev_op (ev_letIx (ev_var (i := 1) rfl) (ev_op (ev_var (i := 4) rfl) (ev_un ev_c ru_neg) (rv_ixS (by omega) at1)) (by omega)) ev_c rv_I0) ev_c (rv_I (show (0 : Int) < 26 by decide))) (rv_ixS (w := LET) (by decide) (let_at m0))) (rv_addS (by rw [txt_len, txt_one, txt_len]; show p.length + 1 ≤ 100000; omega))) ?_) fun G3 g3 => ⟨_, _, rfl, eG'.trans (g2.trans g3), bump_word hp hpa, .inr ⟨rfl, fun s hs => ?_⟩⟩
        · rw [← bump_next, show (((97 + (c + t) % 26 - 97 : Nat) : Int) + 1) % 26 = (((97 + (c + t) % 26 - 97 + 1) % 26 : Nat) : Int) by omega, Int.toNat_natCast]
        · by_cases e : s = t
          · subst e; exact h
          · exact hall s (by omega)
      rintro σ' G' ⟨w, v5, rfl, eG', hww, hor⟩
      have hout : w ∉ zs := hor.elim id fun h => (bumps_out (by omega) h.2).elim
      try dsimp only
      refine s_app (xs := zs.map V.str) (eG' _ _ hz) (ev_var (i := 2) rfl) (ev_var (i := 4) rfl) (by rw [List.length_map]; omega) fun G3 g3 => ⟨_, _, _, zs ++ [w], rfl, Ex.mut (eG.trans (eG'.trans g3)) np0, by rw [upd_same, List.map_append]; rfl, by rw [List.length_append, hzl]; rfl, ?_, fun z hz' => ?_⟩
      · exact List.nodup_append.mpr ⟨hzd, List.pairwise_singleton _ _, fun x hx y hy e => hout (by rw [← List.mem_singleton.mp hy, ← e]; exact hx)⟩
      · rcases List.mem_append.mp hz' with h | h
        · exact hzw z h
        · rw [List.mem_singleton.mp h]; exact hww
    rintro σ' G ⟨v3, v4, v5, zs, rfl, eG, hz, hzl, hzd, hzw⟩
    rw [List.length_map] at hzl
    exact ⟨_, rfl, k np G zs eG hz hzl hzd hzw⟩

def spGates (K : PySem.W.Frag) : Sp := fun vs H Q _ => ∃ (a b : Addr) (ns ss : List Int), vs = [.ref a, .ref b] ∧ SqL K H a (ns.map V.int) ∧ SqL K H b (ss.map V.int) ∧ ns.length ≤ 7 ∧ ns.length ≤ ss.length ∧ (∀ s ∈ ss, 0 ≤ s ∧ s ≤ 60) ∧ ∀ v H' (gs : List (Str × Int)), Ex H H' → NewP (fun G => ∃ p, v = .ref p ∧ Gates K G p gs) H H' → gs.length = ns.length → (gs.map (·.1)).Nodup → (∀ g ∈ gs, Word g.1 ∧ 0 ≤ g.2 ∧ g.2 ≤ 60) → gs.map (·.2) = ss.take ns.length → Q v H' 
theorem ok_u_law_gates (T : Txt K mg A) : FnOk P w K mg base CX0 3 A.f_u_law_gates A.d_u_law_gates (["numbers", "stakes"] : List Str) (spGates K) := by
  refine T.F_u_law_gates.ok sc_u_law_gates (fun vs H Q E h => ?_) (fun cdv Ar outer s H vs Q E hr h => ?_)
  · obtain ⟨a, b, ns, ss, rfl, _⟩ := h
    rfl
  · obtain ⟨a, b, ns, ss, rfl, hS, hT, hl, hls, hss, k⟩ := h
    refine ⟨_, (pss_cons (ps_set (i := 2) sc_u_law_gates.nd rfl (Or.inr rfl) (pe_call (ok_u_law_names T) (hr.mono (by omega)) rfl T.g_u_law_names T.k_u_law_names (b_u_law_names T) .nil pass0 (pa_cons (pv 0) pa_nil)))
        (pss_one (ps_ret (pe_lc (own := [("k", 3)]) (g := gName 3) (tt := tYes) rfl sc_u_law_gates.nd (pi_range1 rfl T.z_range (pa_cons (pe_callB len_K (by rfl) T.z_len (by decide +kernel) (pa_cons (pv 2) pa_nil)) pa_nil)) (blkOk_by (own := [("k", 3)]) (N := N_u_law_gates) (sc := defScope s_u_law_gates) (by decide +kernel)) (fun _ _ _ _ _ => (pg_name (i := 3) sc_u_law_gates.nd rfl (Or.inl rfl))) (fun _ _ _ _ _ => pts_nil) (fun _ _ _ _ _ => (pe_tup (pa_cons (pe_ix ix_lK (pv 2) (pv 3) (fun _ _ => rfl)) (pa_cons (pe_ix ix_lK (pv 1) (pv 3) (fun _ _ => rfl)) pa_nil)))))))), ?_⟩
    try dsimp only
    refine q_asgR (er_names (K := K) (er_ev (ev_var (i := 0) rfl) fun H1 e => ⟨_, rfl, ex_l e hS⟩) hl) fun v H1 e1 hv => ?_
    obtain ⟨np, zs, rfl, hz, hzl, hzd, hzw⟩ := hv
    let gs : List (Str × Int) := (List.range zs.length).map fun k => (zs.getD k "", ss.getD k 0)
    have gsl : gs.length = ns.length := by simp [gs, hzl]
    have gse : gs.map (·.1) = zs := by
      show List.map _ (List.map _ _) = _
      rw [List.map_map]
      refine List.ext_getElem (by simp) fun i h1 h2 => ?_
      simp [List.getD_eq_getElem?_getD, List.getElem?_eq_getElem h2]
    have gsg : ∀ g ∈ gs, Word g.1 ∧ 0 ≤ g.2 ∧ g.2 ≤ 60 := fun g hg => by
      obtain ⟨i, hi, rfl⟩ := List.mem_map.mp hg
      have hi := List.mem_range.mp hi
      have h1 : zs.getD i "" ∈ zs := in_getD hi
      have h2 : ss.getD i 0 ∈ ss := in_getD (by omega)
      exact ⟨hzw _ h1, hss _ h2⟩
    have lc := en_lc (wi := iRng1 (tCons (tCB (rLenK K) (tCons (tVar 2) tNil)) tNil)) (g := gName 3) (te := tTup (tCons (tOp (rIxL K) (tVar 2) (tVar 3)) (tCons (tOp (rIxL K) (tVar 1) (tVar 3)) tNil))) (σ := [some (.ref a), some (.ref b), some (.ref np), none]) (H := H1) (n := zs.length) (vs := [3]) (fun k v G => ∃ t, v = .ref t ∧ G t = some (.tup [.str (zs.getD k ""), .int (ss.getD k 0)]))
      (by have e := ei_rng1 (σ := [some (.ref a), some (.ref b), some (.ref np), none]) (H := H1) (ta := tCons (tCB (rLenK K) (tCons (tVar 2) tNil)) tNil) (n := (zs.length : Int)) (ea_cons (ev_cb (r := rLenK K) (ea_cons (ev_var (i := 2) rfl) ea_nil) fun H2 e2 Q q => ⟨.ref np, zs.length, rfl, .inl ⟨_, sq_of (e2 _ _ hz), (List.length_map _).symm⟩, q H2 (Ex.refl H2)⟩) ea_nil) (by omega); rw [Int.toNat_natCast] at e; exact e)
      (by omega) bd_fn (fun i _ => rfl) (fun i H2 hi e2 => by
        have x1 : (zs.map V.str)[i]? = some (.str (zs.getD i "")) := by rw [List.getElem?_map, List.getD_eq_getElem?_getD, List.getElem?_eq_getElem hi]; rfl
        have x2 : (ss.map V.int)[i]? = some (.int (ss.getD i 0)) := by rw [List.getElem?_map, List.getD_eq_getElem?_getD, List.getElem?_eq_getElem (by omega)]; rfl
        exact fun H3 e3 Q q => eu_tup (ea_cons (ev_op (ev_var (i := 2) rfl) (ev_var (i := 3) rfl) (rv_ixL (K := K) (sq_of (e2 _ _ hz)) (atI_nat x1))) (ea_cons (ev_op (ev_var (i := 1) rfl) (ev_var (i := 3) rfl) (rv_ixL (K := K) (ex_l (e1.trans e2) hT) (atI_nat x2))) ea_nil)) (by show 2 ≤ 100000; decide) H3 e3 Q fun p H4 hp e4 h4 => q _ H4 e4 fun G g => ⟨p, rfl, g p _ hp h4⟩)
    try dsimp only
    have gst : gs.map (·.2) = ss.take ns.length := by
      show List.map _ (List.map _ _) = _
      rw [List.map_map]
      refine List.ext_getElem (by simp; omega) fun i h1 h2 => ?_
      have hi : i < ss.length := by rw [List.length_take] at h2; omega
      simp [List.getD_eq_getElem?_getD, List.getElem?_eq_getElem hi]
    refine lc H1 (Ex.refl _) _ fun v H2 e2 hv => k v H2 gs (e1.trans e2) ?_ gsl (by rw [gse]; exact hzd) gsg gst
    intro G g
    obtain ⟨p, vs, rfl, hp, hvl, hall⟩ := hv G fun b o hb h => g b o (fresh_back e1 hb) h
    refine ⟨p, rfl, ⟨vs, SqL.of hp, by simp [gs, hvl], fun i v hv => ?_⟩⟩
    obtain ⟨t, rfl, ht⟩ := hall i v hv
    refine ⟨t, rfl, fun g' hg' => ?_⟩
    have hi : i < zs.length := by have := (List.getElem?_eq_some_iff.mp hv).1; omega
    have : gs[i]? = some (zs.getD i "", ss.getD i 0) := by simp [gs, hi]
    rw [this] at hg'
    cases hg'
    exact st_of ht

def spLawRows (K : PySem.W.Frag) : Sp := fun vs H Q _ => ∃ (m n : Nat) (a : Addr) (ns : List Int), vs = [.int (m : Int), .int (n : Int), .ref a] ∧ SqL K H a (ns.map V.int) ∧ m * n ≤ ns.length ∧ m ≤ 100 ∧ n ≤ 100 ∧ ∀ p H' qs, Ex H H' → RowsM H H' p qs → qs.length = m → (∀ q ∈ qs, q.2.length = n ∧ ∀ x ∈ q.2, x ∈ ns) → Q (.ref p) H' 
theorem ok_u_law_rows (T : Txt K mg A) : FnOk P w K mg base CX0 1 A.f_u_law_rows A.d_u_law_rows (["gates", "n", "numbers"] : List Str) (spLawRows K) := by
  refine T.F_u_law_rows.ok sc_u_law_rows (fun vs H Q E h => ?_) (fun cdv Ar outer s H vs Q E hr h => ?_)
  · obtain ⟨m, n, a, ns, rfl, _⟩ := h
    rfl
  · obtain ⟨m, n, a, ns, rfl, hS, hl, hm, hn, k⟩ := h
    refine ⟨_, (pss_cons (ps_set (i := 3) sc_u_law_rows.nd rfl (Or.inl rfl) (pe_lst pa_nil))
        (pss_cons (ps_set (i := 4) sc_u_law_rows.nd rfl (Or.inl rfl) pe_int)
        (pss_cons (ps_for PassesOwn.never rfl (pi_range1 rfl T.z_range (pa_cons (pv 0) pa_nil)) (pg_name (i := 5) sc_u_law_rows.nd rfl (Or.inl rfl)) (pss_cons (ps_set (i := 6) sc_u_law_rows.nd rfl (Or.inl rfl) (pe_lst pa_nil))
        (pss_cons (ps_for PassesOwn.never rfl (pi_range1 rfl T.z_range (pa_cons (pv 1) pa_nil)) (pg_name (i := 7) sc_u_law_rows.nd rfl (Or.inl rfl)) (pss_cons (ps_expr (pe_bm PySem.F.plainAttrs_list PySem.F.slot_list_append PySem.F.type_list_append mt_append (pv 6) (pa_cons (pe_ix ix_lK (pv 2) (pv 4) (fun _ _ => rfl)) pa_nil)))
        (pss_one (ps_set (i := 4) sc_u_law_rows.nd rfl (Or.inl rfl) (pe_op op_add (pv 4) pe_int)))))
        (pss_one (ps_expr (pe_bm PySem.F.plainAttrs_list PySem.F.slot_list_append PySem.F.type_list_append mt_append (pv 3) (pa_cons (pv 6) pa_nil)))))))
        (pss_one (ps_ret (pv 3)))))), ?_⟩
    try dsimp only
    refine q_asgL (xs := []) (el_lst ea_nil (by decide)) fun rp H1 hrp e1 h1 => ?_
    try dsimp only
    refine q_asg (v := .int 0) ev_c fun H2 e2 => ?_
    try dsimp only
    refine q_forR1 (j := 5) (n := (m : Int)) (ea_cons (ev_var (i := 0) rfl) ea_nil) (by omega)
      (fun i σ' G => ∃ (v5 v6 v7 : Option V) (qs : List (Addr × List Int)), σ' = [some (.int (m : Int)), some (.int (n : Int)), some (.ref a), some (.ref rp), some (.int ((i * n : Nat) : Int)), v5, v6, v7] ∧ Ex H G ∧ RowsM H G rp qs ∧ qs.length = i ∧ ∀ q ∈ qs, q.2.length = n ∧ ∀ x ∈ q.2, x ∈ ns)
      (fun H3 e3 => ⟨none, none, none, [], by rw [Nat.zero_mul]; rfl, (e1.trans e2).trans e3, ⟨hrp, (e2.trans e3) _ _ h1, .nil, fun q hq => by cases hq⟩, rfl, fun q hq => by cases hq⟩) ?_ ?_
    · rintro i σ' G hi ⟨v5, v6, v7, qs, rfl, eG, hM, hql, hqs⟩
      try dsimp only
      refine q_asgL (xs := []) (el_lst ea_nil (by decide)) fun b G1 hb g1 hb1 => ?_
      have hi' : i + 1 ≤ m := by omega
      have him : (i + 1) * n ≤ m * n := Nat.mul_le_mul_right n hi'
      rw [Nat.add_mul, Nat.one_mul] at him
      try dsimp only
      refine q_forR1 (j := 7) (n := (n : Int)) (ea_cons (ev_var (i := 1) rfl) ea_nil) (by omega)
        (fun j σ' G' => ∃ (v7 : Option V) (zs : List Int), σ' = [some (.int (m : Int)), some (.int (n : Int)), some (.ref a), some (.ref rp), some (.int ((i * n + j : Nat) : Int)), some (.int (i : Int)), some (.ref b), v7] ∧ Ex G G' ∧ G' b = some (.lst (zs.map V.int)) ∧ zs.length = j ∧ ∀ x ∈ zs, x ∈ ns)
        (fun H3 e3 => ⟨_, [], rfl, g1.trans e3, e3 _ _ hb1, rfl, fun x hx => by cases hx⟩) ?_ ?_
      · rintro j σ' G' hj ⟨v7', zs, rfl, eG', hz, hzl, hzs⟩
        have hat : i * n + j < ns.length := by omega
        have x1 : (ns.map V.int)[i * n + j]? = some (.int ns[i * n + j]) := by rw [List.getElem?_map, List.getElem?_eq_getElem hat]; rfl
        try dsimp only
        refine q_app (xs := zs.map V.int) hz (ev_var (i := 6) rfl) (ev_op (ev_var (i := 2) rfl) (ev_var (i := 4) rfl) (rv_ixL (K := K) (ex_l (eG.trans eG') hS) (atI_nat x1))) (by rw [List.length_map]; omega) fun G2 g2 => ?_
        try dsimp only
        refine s_asg (v := .int ((i * n + (j + 1) : Nat) : Int)) (ev_is (ev_op (ev_var (i := 4) rfl) ev_c rv_I0) (congrArg V.int (by omega))) fun G3 g3 => ⟨_, zs ++ [ns[i * n + j]], rfl, (Ex.mut (eG'.trans g2) hb).trans g3, g3 _ _ (by rw [upd_same, List.map_append]; rfl), by rw [List.length_append, hzl]; rfl, fun x hx => ?_⟩
        rcases List.mem_append.mp hx with h | h
        · exact hzs x h
        · rw [List.mem_singleton.mp h]; exact List.getElem_mem hat
      rintro σ' G' ⟨v7', zs, rfl, eG', hz, hzl, hzs⟩
      rw [Int.toNat_natCast] at hzl
      have hrG := eG' _ _ hM.2.1
      have hbr : b ≠ rp := fun z => by rw [z, hM.2.1] at hb; cases hb
      try dsimp only
      refine s_app (xs := qs.map fun q => V.ref q.1) hrG (ev_var (i := 3) rfl) (ev_var (i := 6) rfl) (by rw [List.length_map]; omega) fun G3 g3 => ?_
      refine ⟨some (.int (i : Int)), some (.ref b), v7', qs ++ [(b, zs)], by rw [show i * n + (n : Int).toNat = (i + 1) * n by rw [Int.toNat_natCast, Nat.add_mul, Nat.one_mul]], Ex.mut (eG.trans (eG'.trans g3)) hM.1, ⟨hM.1, by rw [upd_same, List.map_append]; rfl, ?_, fun q hq => ?_⟩, by rw [List.length_append, hql]; rfl, fun q hq => ?_⟩
      · rw [List.map_append]
        refine List.nodup_append.mpr ⟨hM.2.2.1, List.pairwise_singleton _ _, fun x hx y hy e => ?_⟩
        obtain ⟨q, hq, rfl⟩ := List.mem_map.mp hx
        have hy : y = b := List.mem_singleton.mp hy
        rw [hy] at e
        have := (hM.2.2.2 q hq).2.2
        rw [e, hb] at this
        cases this
      · rcases List.mem_append.mp hq with h | h
        · obtain ⟨z1, z2, z3⟩ := hM.2.2.2 q h
          exact ⟨z1, z2, by rw [upd_ne z1]; exact (eG'.trans g3) _ _ z3⟩
        · rw [List.mem_singleton.mp h]
          exact ⟨hbr, fresh_back eG hb, by rw [upd_ne hbr]; exact g3 _ _ hz⟩
      · rcases List.mem_append.mp hq with h | h
        · exact hqs q h
        · rw [List.mem_singleton.mp h]; exact ⟨hzl, hzs⟩
    rintro σ' G ⟨v5, v6, v7, qs, rfl, eG, hM, hql, hqs⟩
    rw [Int.toNat_natCast] at hql
    exact ⟨_, rfl, k rp G qs eG hM hql hqs⟩

theorem good_snoc {n : Int} {m : Nat} {ts : List T3} {t : T3} {b c : Int} (h : Good n m b c ts) (ht : okT n m (lastB b c ts).1 (lastB b c ts).2 t) : Good n m b c (ts ++ [t]) := good_app.mpr ⟨h, ht, True.intro⟩
def spSpread (K : PySem.W.Frag) : Sp := fun vs H Q _ => ∃ (c n : Int) (m : Nat), vs = [.int c, .int (m : Int), .int n] ∧ 0 ≤ c ∧ (1 ≤ m ∧ m ≤ 4) ∧ (1 ≤ n ∧ n ≤ 24) ∧ (m : Int) * n ≤ 48 ∧ ∀ p H' rs, Ex H H' → RowL K H' p rs → rs.length ≤ 6 → Good n m (-1) (-1) (rs.map (·.2)) → ((rs.map (·.2)).map (·.2.2)).sum ≤ 6 → Q (.ref p) H' 
theorem ok_u_law_spread (T : Txt K mg A) : FnOk P w K mg base CX0 3 A.f_u_law_spread A.d_u_law_spread (["cell", "gates", "n"] : List Str) (spSpread K) := by
  refine T.F_u_law_spread.ok sc_u_law_spread (fun vs H Q E h => ?_) (fun cdv Ar outer s H vs Q E hr h => ?_)
  · obtain ⟨c, n, m, rfl, _⟩ := h
    rfl
  · obtain ⟨c, n, m, rfl, hc, hm, hn, hmn, k⟩ := h
    refine ⟨_, (pss_cons (ps_set (i := 3) sc_u_law_spread.nd rfl (Or.inr rfl) (pe_call (ok_u_law_draws T) (hr.mono (by omega)) rfl T.g_u_law_draws T.k_u_law_draws (b_u_law_draws T) .nil pass0 (pa_cons (pv 0) (pa_cons pe_int (pa_cons (pe_op op_cat (pe_op op_cat (pe_op op_cat (pe_lst (pa_cons pe_int pa_nil)) (pe_op op_rep (pe_lst (pa_cons (pe_op op_mul (pv 1) (pv 2)) pa_nil)) pe_int)) (pe_op op_rep (pe_lst (pa_cons pe_int pa_nil)) pe_int)) (pe_lst (pa_cons pe_int pa_nil))) pa_nil)))))
        (pss_cons (ps_setLc (i := 4) (own := [("place", 5)]) (g := gName 5) rfl sc_u_law_spread.nd rfl rfl (sw_true rfl rfl rfl (by decide +kernel)) (pi_range1 rfl T.z_range (pa_cons (pe_op op_mul (pv 1) (pv 2)) pa_nil)) (blkOk_by (own := [("place", 5)]) (N := N_u_law_spread) (sc := defScope s_u_law_spread) (by decide +kernel)) (fun _ _ _ _ _ => (pg_name (i := 5) sc_u_law_spread.nd rfl (Or.inl rfl))) (fun _ _ _ _ _ => (pts_one (pt_cmpR in_K (pv 5) (pe_slice sl_listK (pv 3) (po_some pe_int) (po_some (pe_op op_add pe_int (pe_ix ix_lK (pv 3) pe_int (fun _ _ => rfl))))) (by with_unfolding_all rfl)))) (fun _ _ _ _ _ => (pv 5)))
        (pss_cons (ps_set (i := 6) sc_u_law_spread.nd rfl (Or.inl rfl) (pe_lst pa_nil))
        (pss_cons (ps_set (i := 7) sc_u_law_spread.nd rfl (Or.inl rfl) pe_int)
        (pss_cons (ps_for PassesOwn.never rfl (pi_range1 rfl T.z_range (pa_cons (pe_callB len_K (by rfl) T.z_len (by decide +kernel) (pa_cons (pv 4) pa_nil)) pa_nil)) (pg_name (i := 8) sc_u_law_spread.nd rfl (Or.inl rfl)) (pss_one (ps_if (pt_cmpR op_gt (pv 7) pe_int (nomark _)) (pss_cons (ps_set (i := 9) sc_u_law_spread.nd rfl (Or.inl rfl) (pe_op op_add pe_int (pe_op op_mod (pe_callTy call_int1 (by rfl) T.z_int (by decide +kernel) (pa_cons (pe_ix ix_lK (pv 3) (pe_op op_add pe_int (pv 8)) (fun _ _ => rfl)) pa_nil)) (pv 7))))
        (pss_cons (ps_if (pt_cmpR op_gt (pe_ix ix_lK (pv 3) pe_int (fun _ _ => rfl)) pe_int (nomark _)) (pss_one (ps_set (i := 9) sc_u_law_spread.nd rfl (Or.inl rfl) (pe_callB (call_min2 rfl) (by rfl) T.z_min (by decide +kernel) (pa_cons (pv 7) (pa_cons (pe_callTy call_int1 (by rfl) T.z_int (by decide +kernel) (pa_cons (pe_op op_add pe_int (pe_op op_fdiv (pe_ix ix_lK (pv 3) (pe_op op_add pe_int (pv 8)) (fun _ _ => rfl)) pe_int)) pa_nil)) pa_nil))))) pss_nil)
        (pss_cons (ps_expr (pe_bm PySem.F.plainAttrs_list PySem.F.slot_list_append PySem.F.type_list_append mt_append (pv 6) (pa_cons (pe_tup (pa_cons (pe_op op_fdiv (pe_callTy call_int1 (by rfl) T.z_int (by decide +kernel) (pa_cons (pe_ix ix_lK (pv 4) (pv 8) (fun _ _ => rfl)) pa_nil)) (pv 2)) (pa_cons (pe_op op_mod (pe_callTy call_int1 (by rfl) T.z_int (by decide +kernel) (pa_cons (pe_ix ix_lK (pv 4) (pv 8) (fun _ _ => rfl)) pa_nil)) (pv 2)) (pa_cons (pv 9) pa_nil)))) pa_nil)))
        (pss_one (ps_set (i := 7) sc_u_law_spread.nd rfl (Or.inl rfl) (pe_op op_sub (pv 7) (pv 9))))))) pss_nil)))
        (pss_one (ps_ret (pv 6)))))))), ?_⟩
    have hpos : 0 < (m : Int) * n := Int.mul_pos (by omega) (by omega)
    obtain ⟨mn, hmn0⟩ : ∃ z : Int, (m : Int) * n = z := ⟨_, rfl⟩
    have mnE : ∀ {σ : L2.St} {G : Hp}, σ[1]? = some (some (.int (m : Int))) → σ[2]? = some (some (.int n)) → Ev (tOp (rI CMul fun i j => V.int (i * j)) (tVar 1) (tVar 2)) σ G (.int mn) := fun h1 h2 => ev_is (ev_op (ev_var h1) (ev_var h2) (rv_I (show CMul (m : Int) n from .inl ⟨by omega, by omega⟩))) (congrArg V.int hmn0)
    rw [hmn0] at hpos hmn
    try dsimp only
    refine q_asgR (er_draws (K := K) (ms := (([7] ++ List.replicate 6 mn) ++ List.replicate 6 6) ++ [3]) (ev_var (i := 0) rfl) ev_c (el_is (el_cat (el_cat (el_cat (el_lst (ea_cons ev_c ea_nil) (by show 1 ≤ 100000; decide)) (el_rep (z := mn) (k := 6) (mnE rfl rfl) ev_c (by decide)) (by simp)) (el_rep (z := 6) (k := 6) ev_c ev_c (by decide)) (by simp)) (el_lst (ea_cons ev_c ea_nil) (by show 1 ≤ 100000; decide)) (by simp)) (by simp [List.map_append])) hc (by decide) (by simp) (fun x hx => by
      simp only [List.mem_append, List.mem_replicate, List.mem_cons, List.not_mem_nil, or_false] at hx
      rcases hx with ((rfl | ⟨_, rfl⟩) | ⟨_, rfl⟩) | rfl
      all_goals first | exact ⟨by decide, by decide +kernel⟩ | exact ⟨by omega, Nat.lt_of_lt_of_le (show x.natAbs < 2 ^ 7 by omega) (Nat.pow_le_pow_right (by decide) (by decide))⟩)) fun v H2 e2 hp => ?_
    obtain ⟨dp, ds, rfl, hd, hD⟩ := hp
    have dl : ds.length = 14 := by rw [hD.1]; simp
    have d0 : 0 ≤ ds.getD 0 0 ∧ ds.getD 0 0 < 7 := drawn_at hD rfl
    have d7 : ∀ i : Nat, i < 6 → 0 ≤ ds.getD (7 + i) 0 := fun i hi => by
      have : i = 0 ∨ i = 1 ∨ i = 2 ∨ i = 3 ∨ i = 4 ∨ i = 5 := by omega
      rcases this with rfl | rfl | rfl | rfl | rfl | rfl <;> exact (drawn_at hD (m := 6) rfl).1
    have dE : ∀ {σ : L2.St} {G : Hp} {te : TE} {i : Int}, σ[3]? = some (some (.ref dp)) → Ex H2 G → Ev te σ G (.int i) → 0 ≤ i → i < 14 → Ev (tOp (rIxL K) (tVar 3) te) σ G (.int (ds.getD i.toNat 0)) := fun h e he h0 h1 => ev_op (ev_var h) he (rv_ixL (K := K) (sq_of (e _ _ hd)) (atI_ints h0 (by rw [dl]; omega)))
    obtain ⟨sl, c1, _, c3⟩ := cut_mapN V.int ds (lo := 1) (hi := 1 + ds.getD 0 0) (by decide) (by omega)
    try dsimp only
    refine q_asgL (xs := (pick mn.toNat (fun i => decide ((i : Int) ∈ sl)) fun i => (i : Int)).map V.int) (by
      rw [← given_pick]
      exact el_lcR1 (n := mn) _ _ (ea_cons (mnE rfl rfl) ea_nil) (by omega) (fun x => rfl) (fun i H3 e3 hi => et_test (ev_opL (ev_var (i := 5) rfl) (el_sl (ev_var (i := 3) rfl) (eo_some ev_c) (eo_some (ev_op ev_c (dE rfl e3 ev_c (by decide) (by decide)) rv_I0)) (sq_of (e3 _ _ hd))) fun p H4 hp e4 => by rw [← inV_ints', ← c1]; exact rv_inL (K := K) (neg := false) (sq_of hp) rfl (by rw [c1]; exact ints_flat' _))) fun i H3 e3 hi _ => ev_var (i := 5) rfl) fun cp H3 hcp e3 h3 => ?_
    have cnd : (pick mn.toNat (fun i => decide ((i : Int) ∈ sl)) fun i => (i : Int)).Pairwise (· < ·) := List.pairwise_map.mpr ((List.pairwise_lt_range.filter _).imp fun h => by omega)
    have cbd : ∀ x ∈ pick mn.toNat (fun i => decide ((i : Int) ∈ sl)) fun i => (i : Int), 0 ≤ x ∧ x < mn := fun x hx => by
      obtain ⟨i, hi, rfl⟩ := List.mem_map.mp hx
      have := List.mem_range.mp (List.mem_filter.mp hi).1
      omega
    have csl : (pick mn.toNat (fun i => decide ((i : Int) ∈ sl)) fun i => (i : Int)).length ≤ 6 := by
      have := nodup_sub (l := pick mn.toNat (fun i => decide ((i : Int) ∈ sl)) fun i => (i : Int)) (m := sl) (cnd.imp fun h => by omega) fun x hx => by
        obtain ⟨i, hi, rfl⟩ := List.mem_map.mp hx
        exact of_decide_eq_true (List.mem_filter.mp hi).2
      omega
    generalize pick mn.toNat (fun i => decide ((i : Int) ∈ sl)) (fun i => (i : Int)) = cs at *
    have e03 := e2.trans e3
    try dsimp only
    refine q_asgL (xs := []) (el_lst ea_nil (by decide)) fun rp H4 hrp e4 h4 => ?_
    try dsimp only
    refine q_asg (v := .int 6) ev_c fun H4b e4b => ?_
    try dsimp only
    refine q_forR1 (j := 8) (n := (cs.length : Int)) (ea_cons (ev_cb (r := rLenK K) (ea_cons (ev_var (i := 4) rfl) ea_nil) fun G e Q q => ⟨.ref cp, cs.length, rfl, .inl ⟨_, sq_of ((e4.trans (e4b.trans e)) _ _ h3), (List.length_map _).symm⟩, q G (Ex.refl G)⟩) ea_nil) (by omega)
      (fun i σ' G => ∃ (v8 v9 : Option V) (left : Int) (rs : List (Addr × T3)), σ' = [some (.int c), some (.int (m : Int)), some (.int n), some (.ref dp), some (.ref cp), none, some (.ref rp), some (.int left), v8, v9] ∧ Ex H3 G ∧ G rp = some (.lst (rs.map fun r => V.ref r.1)) ∧ (∀ r ∈ rs, SqT K G r.1 (triV r.2)) ∧ (rs.length : Int) ≤ 6 - left ∧ 0 ≤ left ∧ ((rs.map (·.2)).map (·.2.2)).sum = 6 - left ∧ Good n m (-1) (-1) (rs.map (·.2)) ∧
        (((lastB (-1) (-1) (rs.map (·.2))).1 = -1 ∧ (lastB (-1) (-1) (rs.map (·.2))).2 = -1) ∨ ((0 ≤ (lastB (-1) (-1) (rs.map (·.2))).2 ∧ (lastB (-1) (-1) (rs.map (·.2))).2 < n) ∧ ∀ j x, i ≤ j → cs[j]? = some x → (lastB (-1) (-1) (rs.map (·.2))).1 * n + (lastB (-1) (-1) (rs.map (·.2))).2 < x)))
      (fun H5 e5 => ⟨none, none, 6, [], rfl, e4.trans (e4b.trans e5), (e4b.trans e5) _ _ h4, (fun r hr => by cases hr), by simp, by decide, rfl, True.intro, .inl ⟨rfl, rfl⟩⟩) ?_ ?_
    · rintro i σ' G hi ⟨v8, v9, left, rs, rfl, eG, hrw, hrm, hrl, hl0, hsum, hgood, hlast⟩
      have e2G := e3.trans eG
      have ci : i < cs.length := by omega
      have i19 : (7 : Int) + (i : Int) < 14 := by omega
      have t7 : ((7 : Int) + (i : Int)).toNat = 7 + i := by omega
      have dd := d7 i (by omega)
      have ei : cs[i]? = some cs[i] := List.getElem?_eq_getElem ci
      have pb := cbd _ (List.getElem_mem ci)
      try dsimp only
      refine s_when (b := decide (0 < left)) (et_test (ev_op (ev_var (i := 7) rfl) ev_c rv_I0)) (fun hb G0 g0 => ?_) (fun hb G0 g0 => ⟨_, _, left, rs, rfl, eG.trans g0, g0 _ _ hrw, fun r hr => ex_t g0 (hrm r hr), hrl, hl0, hsum, hgood, hlast.imp id fun h => ⟨h.1, fun j x hj hx => h.2 j x (by omega) hx⟩⟩)
      have hb := of_decide_eq_true hb
      have e2G0 := e2G.trans g0
      have q0 := Int.emod_nonneg (ds.getD (7 + i) 0) (b := left) (by omega)
      have q1 := Int.emod_lt_of_pos (ds.getD (7 + i) 0) (b := left) hb
      try dsimp only
      refine q_asg (v := .int (1 + ds.getD (7 + i) 0 % left)) (ev_op ev_c (ev_op (ev_int (ev_is (dE rfl e2G0 (ev_op ev_c (ev_var (i := 8) rfl) rv_I0) (by omega) i19) (by rw [t7]))) (ev_var (i := 7) rfl) (rv_I hb)) rv_I0) fun G1 g1 => ?_
      try dsimp only
      refine q_ifAsg (i := 9) (b := decide (0 < ds.getD 13 0)) (v := .int (if 0 < ds.getD 13 0 then (if 1 + ds.getD (7 + i) 0 / 4 < left then 1 + ds.getD (7 + i) 0 / 4 else left) else 1 + ds.getD (7 + i) 0 % left)) (et_test (ev_op (dE rfl (e2G0.trans g1) ev_c (by decide) (by decide)) ev_c rv_I0)) (fun hb => by
        rw [if_pos (of_decide_eq_true hb)]
        exact ev_cb (ea_cons (ev_var (i := 7) rfl) (ea_cons (ev_int (ev_op ev_c (ev_op (ev_is (dE rfl (e2G0.trans g1) (ev_op ev_c (ev_var (i := 8) rfl) rv_I0) (by omega) i19) (by rw [t7])) ev_c (rv_I (show CDiv _ 4 from ⟨by decide, by decide⟩))) rv_I0)) ea_nil)) fun G e Q q => ⟨_, _, rfl, q G (Ex.refl G)⟩) (fun hb => by rw [if_neg (of_decide_eq_false hb)]; rfl) fun G2 g2 => ?_
      obtain ⟨u, hu, hu1, hu2⟩ : ∃ u : Int, (if 0 < ds.getD 13 0 then (if 1 + ds.getD (7 + i) 0 / 4 < left then 1 + ds.getD (7 + i) 0 / 4 else left) else 1 + ds.getD (7 + i) 0 % left) = u ∧ 1 ≤ u ∧ u ≤ left := by
        refine ⟨_, rfl, ?_⟩
        generalize ds.getD (7 + i) 0 = d at *
        generalize d % left = r at *
        split
        · split <;> omega
        · omega
      rw [hu]
      have g12 := g0.trans (g1.trans g2)
      have cE : ∀ {σ : L2.St} {G' : Hp}, σ[4]? = some (some (.ref cp)) → σ[8]? = some (some (.int (i : Int))) → Ex G G' → Ev (tOp (rIxL K) (tVar 4) (tVar 8)) σ G' (.int cs[i]) := fun h5 h8 e => ev_op (ev_var h5) (ev_var h8) (rv_ixL (K := K) (sq_of ((eG.trans e) _ _ h3)) (atI_nat (by rw [List.getElem?_map, ei]; rfl)))
      generalize cs[i] = pz at *
      try dsimp only
      refine q_appU (xs := rs.map fun r => V.ref r.1) (ys := triV (pz / n, pz % n, u)) (g12 _ _ hrw) (ev_var (i := 6) rfl) (eu_tup (ea_cons (ev_op (ev_int (cE rfl rfl g12)) (ev_var (i := 2) rfl) (rv_I (show CDiv _ n from ⟨by omega, by omega⟩))) (ea_cons (ev_op (ev_int (cE rfl rfl g12)) (ev_var (i := 2) rfl) (rv_I (show (0 : Int) < n by omega))) (ea_cons (ev_var (i := 9) rfl) ea_nil))) (by show 3 ≤ 100000; decide)) (by rw [List.length_map]; omega) fun tp G4 htp g4 ht => ?_
      have e34 := eG.trans (g12.trans g4)
      have keep : ∀ {b : Addr} {vs : List V}, SqT K G4 b vs → SqT K (upd G4 rp (.lst (rs.map (fun r => V.ref r.1) ++ [.ref tp]))) b vs := fun {b vs} h => sqT_mut ((g12.trans g4) _ _ hrw) h
      have h0 := Int.emod_nonneg pz (b := n) (by omega)
      have h1 := Int.emod_lt_of_pos pz (b := n) (by omega)
      have h2 : 0 ≤ pz / n := Int.ediv_nonneg pb.1 (by omega)
      have h3' : pz / n < (m : Int) := Int.ediv_lt_of_lt_mul (by omega) (by omega)
      have h4' : pz / n * n + pz % n = pz := by rw [Int.mul_comm]; exact Int.mul_ediv_add_emod pz n
      try dsimp only
      refine s_asg (v := .int (left - u)) (ev_op (ev_var (i := 7) rfl) (ev_var (i := 9) rfl) rv_I0) fun G5 g5 => ⟨_, _, left - u, rs ++ [(tp, pz / n, pz % n, u)], rfl, (Ex.mut e34 hrp).trans g5, g5 _ _ (by rw [upd_same, List.map_append]; rfl), fun r hr => ex_t g5 ?_, by rw [List.length_append]; simp; omega, by omega, ?_, ?_, .inr ?_⟩
      · rcases List.mem_append.mp hr with h | h
        · exact keep (ex_t (g12.trans g4) (hrm r h))
        · rw [List.mem_singleton.mp h]
          exact keep (st_of ht)
      · rw [List.map_append, List.map_append, List.sum_append, hsum]
        simp
        omega
      · rw [List.map_append]
        refine good_snoc hgood ⟨decide_eq_true ⟨⟨h2, h3'⟩, h0, h1⟩, hu1, ?_⟩
        rcases hlast with ⟨z1, z2⟩ | ⟨z1, z2⟩
        · rw [z1, z2]
          exact decide_eq_false (by show ¬ (pz / n < -1 ∨ pz / n = -1 ∧ pz % n ≤ -1); omega)
        · have := z2 i pz (by omega) ei
          show lexLe (pz / n) (pz % n) _ _ = false
          rw [lex_lin ⟨h0, h1⟩ z1]
          exact decide_eq_false (by omega)
      · have lb : lastB (-1) (-1) ((rs ++ [(tp, pz / n, pz % n, u)]).map (·.2)) = (pz / n, pz % n) := by
          rw [List.map_append]
          exact lastB_app
        rw [lb]
        refine ⟨⟨h0, h1⟩, fun j x hj hx => ?_⟩
        show pz / n * n + pz % n < x
        rw [h4']
        obtain ⟨hj', rfl⟩ := List.getElem?_eq_some_iff.mp hx
        obtain ⟨_, hpz⟩ := List.getElem?_eq_some_iff.mp ei
        rw [← hpz]
        exact List.pairwise_iff_getElem.mp cnd i j _ _ (by omega)
    rintro σ' G ⟨v8, v9, left, rs, rfl, eG, hrw, hrm, hrl, hl0, hsum, hgood, _⟩
    exact s_ret (ev_var (i := 6) rfl) fun G2 g2 => k rp G2 rs ((e03.trans eG).trans g2) (RowL.ex g2 ⟨sq_of hrw, hrm⟩) (by omega) hgood (by rw [hsum]; omega)

/-! ### data told twice -/
theorem ed_ev {K : PySem.W.Frag} {σ : L2.St} {H : Hp} {te : TE} {v : V} {d : PyData} (h : Ev te σ H v) (hd : ∀ H1, Ex H H1 → Dp K H1 v d) : EvR te σ H fun v H1 => Dp K H1 v d := er_ev h hd
theorem ed_int {K : PySem.W.Frag} {σ : L2.St} {H : Hp} {te : TE} {z : Int} (h : Ev te σ H (.int z)) : EvR te σ H fun v H1 => Dp K H1 v (.int z) := er_ev h fun _ _ => .int z
theorem ed_bl {K : PySem.W.Frag} {σ : L2.St} {H : Hp} {te : TE} {z : Bool} (h : Ev te σ H (.bl z)) : EvR te σ H fun v H1 => Dp K H1 v (.bool z) := er_ev h fun _ _ => .bl z
theorem ed_str {K : PySem.W.Frag} {σ : L2.St} {H : Hp} {te : TE} {z : Str} (h : Ev te σ H (.str z)) : EvR te σ H fun v H1 => Dp K H1 v (.str z) := er_ev h fun _ _ => .str z
theorem ed_L {K : PySem.W.Frag} {σ : L2.St} {H : Hp} {te : TE} {xs : List Int} (h : EvL te σ H (xs.map V.int)) : EvR te σ H fun v H1 => Dp K H1 v (.list (xs.map .int)) := (er_L h).imp fun v H1 q => by
  obtain ⟨p, rfl, hp⟩ := q
  exact .lst (sq_of hp) (dp_ints _)
theorem ed_held {K : PySem.W.Frag} {σ : L2.St} {H : Hp} {i : Nat} {p : Addr} {xs : List Int} (h : σ[i]? = some (some (.ref p))) (hp : SqL K H p (xs.map V.int)) : EvR (tVar i) σ H fun v H1 => Dp K H1 v (.list (xs.map .int)) := er_ev (ev_var h) fun H1 e => .lst (ex_l e hp) (dp_ints _)
def EvDs (K : PySem.W.Frag) (ta : TA) (σ : L2.St) (H : Hp) (ds : List PyData) : Prop := ∀ H1, Ex H H1 → ∀ Q : List V → Hp → Prop, (∀ vs H2, Ex H1 H2 → DpAll K H2 vs ds → Q vs H2) → ta σ H1 Q
theorem eds_nil {K : PySem.W.Frag} {σ : L2.St} {H : Hp} : EvDs K tNil σ H [] := fun H1 _ Q q => q [] H1 (Ex.refl H1) .nil
theorem eds_cons {K : PySem.W.Frag} {σ : L2.St} {H : Hp} {te : TE} {ta : TA} {d : PyData} {ds : List PyData} (h : EvR te σ H fun v H1 => Dp K H1 v d) (r : EvDs K ta σ H ds) : EvDs K (tCons te ta) σ H (d :: ds) := fun H1 e Q q =>
  h H1 e _ fun v H2 e2 hv => r H2 (e.trans e2) _ fun vs H3 e3 hs => q (v :: vs) H3 (e2.trans e3) (.cons (dp_ex e3 hv) hs)
theorem ed_tup {K : PySem.W.Frag} {σ : L2.St} {H : Hp} {ta : TA} {ds : List PyData} (h : EvDs K ta σ H ds) (hl : ds.length ≤ 1000) : EvR (tTup ta) σ H fun v H1 => Dp K H1 v (.tuple ds) := fun H1 e Q q =>
  h H1 e _ fun vs H2 e2 hs => by
    have l := (dp_get hs).1
    exact ⟨by rw [l]; exact Nat.le_trans hl (by decide), fun p hp => q _ _ (e2.trans (Ex.new hp)) (.tup (st_of upd_same) (dpa_ex (Ex.new hp) hs))⟩
theorem ed_lst {K : PySem.W.Frag} {σ : L2.St} {H : Hp} {ta : TA} {ds : List PyData} (h : EvDs K ta σ H ds) (hl : ds.length ≤ 1000) : EvR (tLst ta) σ H fun v H1 => Dp K H1 v (.list ds) := fun H1 e Q q =>
  h H1 e _ fun vs H2 e2 hs => by
    have l := (dp_get hs).1
    exact ⟨by rw [l]; exact Nat.le_trans hl (by decide), fun p hp => q _ _ (e2.trans (Ex.new hp)) (.lst (sq_of upd_same) (dpa_ex (Ex.new hp) hs))⟩
theorem ev_same {K : PySem.W.Frag} {E : XK} {σ : L2.St} {H : Hp} {ta tb : TE} {d : PyData} (ha : EvR ta σ H fun v H1 => Dp K H1 v d) (hb : EvR tb σ H fun v H1 => Dp K H1 v d) (hf : Flat 4 d) : Ev (tCall (sp_same K 4) [] E (tCons ta (tCons tb tNil))) σ H (.bl true) := fun H1 e Q q =>
  ha H1 e _ fun v H2 e2 hv => hb H2 (e.trans e2) _ fun w H3 e3 hw => ⟨v, w, d, rfl, dp_ex e3 hv, hw, hf, q H3 (e2.trans e3)⟩
theorem dp_rows {K : PySem.W.Frag} {H : Hp} : ∀ (vs : List V) (xss : List (List Int)), vs.length = xss.length → (∀ (i : Nat) v, vs[i]? = some v → ∃ p, v = .ref p ∧ SqL K H p ((xss.getD i []).map V.int)) → DpAll K H vs (xss.map fun xs => .list (xs.map .int))
  | [], [], _, _ => .nil
  | v :: vs, xs :: xss, hl, h => by
    obtain ⟨p, rfl, hp⟩ := h 0 v rfl
    exact .cons (.lst hp (dp_ints _)) (dp_rows vs xss (by simpa using hl) fun i u hu => h (i + 1) u hu)
theorem flat_rows {xss : List (List Int)} (h : xss.length ≤ 400) (hx : ∀ xs ∈ xss, xs.length ≤ 360) : Flat 4 (.list (xss.map fun xs => .list (xs.map .int))) :=
  ⟨by rw [List.length_map]; omega, fun d hd => by
    obtain ⟨xs, hm, rfl⟩ := List.mem_map.mp hd
    exact ⟨by rw [List.length_map]; have := hx xs hm; omega, fun d hd => by
      obtain ⟨i, _, rfl⟩ := List.mem_map.mp hd
      exact True.intro⟩⟩
/-- lists of ints within a list -/
structure Rows (K : PySem.W.Frag) (H : Hp) (a : Addr) (xss : List (List Int)) : Prop where
  all : ∃ vs : List V, SqL K H a vs ∧ vs.length = xss.length ∧ ∀ (i : Nat) v, vs[i]? = some v → ∃ p, v = .ref p ∧ SqL K H p ((xss.getD i []).map V.int)
theorem Rows.ex {K : PySem.W.Frag} {H H' : Hp} {a : Addr} {xss : List (List Int)} (e : Ex H H') (h : Rows K H a xss) : Rows K H' a xss := by
  obtain ⟨vs, h1, h2, h3⟩ := h.all
  exact ⟨vs, ex_l e h1, h2, fun i v hv => (h3 i v hv).imp fun p h => ⟨h.1, ex_l e h.2⟩⟩
theorem Rows.dp {K : PySem.W.Frag} {H : Hp} {a : Addr} {xss : List (List Int)} (h : Rows K H a xss) : Dp K H (.ref a) (.list (xss.map fun xs => .list (xs.map .int))) := by
  obtain ⟨vs, h1, h2, h3⟩ := h.all
  exact .lst h1 (dp_rows vs xss h2 h3)
theorem ed_rows {K : PySem.W.Frag} {σ : L2.St} {H : Hp} {i : Nat} {p : Addr} {xss : List (List Int)} (h : σ[i]? = some (some (.ref p))) (hp : Rows K H p xss) : EvR (tVar i) σ H fun v H1 => Dp K H1 v (.list (xss.map fun xs => .list (xs.map .int))) := er_ev (ev_var h) fun H1 e => (hp.ex e).dp
theorem getD_mem {α : Type} {xs : List α} {i : Nat} {d : α} (h : i < xs.length) : xs.getD i d ∈ xs := by
  rw [List.getD_eq_getElem?_getD, List.getElem?_eq_getElem h]
  exact List.getElem_mem _

theorem er_drawsV {K : PySem.W.Frag} {E : XK} {σ : L2.St} {H : Hp} {tc ts tm : TE} {c z : Int} {ms : List Int} {a : Addr} (hc : Ev tc σ H (.int c)) (hs : Ev ts σ H (.int z)) (hm : Ev tm σ H (.ref a)) (ha : SqL K H a (ms.map V.int)) (h0 : 0 ≤ c) (hz : -1000000 ≤ z ∧ z ≤ 1000000) (hl : ms.length ≤ 64)
    (hb : ∀ x ∈ ms, 1 ≤ x ∧ x.natAbs < 2 ^ 1000) : EvR (tCall (sp_draws K) [] E (tCons tc (tCons ts (tCons tm tNil)))) σ H fun v H1 => ∃ p ds, v = .ref p ∧ H1 p = some (.lst (ds.map V.int)) ∧ Drawn ms ds := fun H1 e Q q =>
  hc H1 e _ fun H2 e2 => hs H2 (e.trans e2) _ fun H3 e3 => hm H3 ((e.trans e2).trans e3) _ fun H4 e4 =>
    ⟨c, z, a, ms, rfl, ex_l (((e.trans e2).trans e3).trans e4) ha, h0, hz, hl, hb, fun p H' ds hp e' h' hD => q _ H' ((e2.trans e3).trans (e4.trans e')) ⟨p, ds, rfl, h', hD⟩⟩
theorem er_lawRows {K : PySem.W.Frag} {E : XK} {σ : L2.St} {H : Hp} {t1 t2 t3 : TE} {m n : Nat} {ms : List Int} (h1 : Ev t1 σ H (.int (m : Int))) (h2 : Ev t2 σ H (.int (n : Int))) (h3 : EvR t3 σ H fun v H1 => ∃ p ds, v = .ref p ∧ H1 p = some (.lst (ds.map V.int)) ∧ Drawn ms ds) (hl : m * n ≤ ms.length) (hm : m ≤ 100) (hn : n ≤ 100) :
    EvR (tCall (spLawRows K) [] E (tCons t1 (tCons t2 (tCons t3 tNil)))) σ H fun v H1 => ∃ p qs, v = .ref p ∧ RowsM H H1 p qs ∧ qs.length = m ∧ ∀ q ∈ qs, q.2.length = n ∧ ∀ x ∈ q.2, ∃ (i : Nat) (z : Int), ms[i]? = some z ∧ 0 ≤ x ∧ x < z := fun H1 e Q q =>
  h1 H1 e _ fun H2 e2 => h2 H2 (e.trans e2) _ fun H3 e3 => h3 H3 ((e.trans e2).trans e3) _ fun v H4 e4 hv => by
    obtain ⟨p, ds, rfl, hp, hD⟩ := hv
    refine ⟨m, n, p, ds, rfl, sq_of hp, by rw [hD.1]; exact hl, hm, hn, fun rp H' qs e' hM hql hqs => q _ H' ((e2.trans e3).trans (e4.trans e')) ⟨rp, qs, rfl, hM.base ((e.trans e2).trans (e3.trans e4)), hql, fun y hy => ⟨(hqs y hy).1, fun x hx => ?_⟩⟩⟩
    obtain ⟨i, hi⟩ := List.getElem?_of_mem ((hqs y hy).2 x hx)
    have hil : i < ms.length := by rw [← hD.1]; exact (List.getElem?_eq_some_iff.mp hi).1
    obtain ⟨d, h1, h2⟩ := hD.2 i _ (List.getElem?_eq_getElem hil)
    rw [hi] at h1
    cases h1
    exact ⟨i, _, List.getElem?_eq_getElem hil, h2⟩
theorem set_same {α : Type} {xs : List α} {i : Nat} {x : α} (h : xs[i]? = some x) : xs.set i x = xs := by
  obtain ⟨hi, rfl⟩ := List.getElem?_eq_some_iff.mp h
  exact List.set_getElem_self hi
theorem RowsM.put {H0 H : Hp} {p : Addr} {qs : List (Addr × List Int)} {i j : Nat} {q : Addr × List Int} {z : Int} (h : RowsM H0 H p qs) (hi : qs[i]? = some q) : RowsM H0 (upd H q.1 (.lst ((q.2.set j z).map V.int))) p (qs.set i (q.1, q.2.set j z)) := by
  have hq := h.2.2.2 q (List.mem_of_getElem? hi)
  refine ⟨h.1, ?_, ?_, fun y hy => ?_⟩
  · rw [upd_ne (Ne.symm hq.1), h.2.1, List.map_set, set_same (by rw [List.getElem?_map, hi]; rfl)]
  · rw [List.map_set, set_same (by rw [List.getElem?_map, hi]; rfl)]
    exact h.2.2.1
  · obtain ⟨k, hk⟩ := List.getElem?_of_mem hy
    rw [List.getElem?_set] at hk
    by_cases c : i = k
    · subst c
      rw [if_pos rfl, if_pos (List.getElem?_eq_some_iff.mp hi).1] at hk
      cases hk
      exact ⟨hq.1, hq.2.1, upd_same⟩
    · rw [if_neg c] at hk
      have hy' := h.2.2.2 y (List.mem_of_getElem? hk)
      have ne : y.1 ≠ q.1 := by
        obtain ⟨hi', rfl⟩ := List.getElem?_eq_some_iff.mp hi
        obtain ⟨hk', rfl⟩ := List.getElem?_eq_some_iff.mp hk
        have nd := List.pairwise_iff_getElem.mp h.2.2.1
        rcases Nat.lt_or_gt_of_ne c with c | c
        · have := nd i k (by simpa using hi') (by simpa using hk') c
          simpa using this.symm
        · have := nd k i (by simpa using hk') (by simpa using hi') c
          simpa using this
      exact ⟨hy'.1, hy'.2.1, by rw [upd_ne ne]; exact hy'.2.2⟩
def RowsB (m n : Nat) (qs : List (Addr × List Int)) : Prop := qs.length = m ∧ ∀ q ∈ qs, q.2.length = n ∧ ∀ x ∈ q.2, 0 ≤ x ∧ x ≤ 96
theorem RowsB.put {m n i j : Nat} {qs : List (Addr × List Int)} {q : Addr × List Int} {z : Int} (h : RowsB m n qs) (hi : qs[i]? = some q) (hz : 0 ≤ z ∧ z ≤ 96) : RowsB m n (qs.set i (q.1, q.2.set j z)) := by
  have hq := h.2 q (List.mem_of_getElem? hi)
  refine ⟨by rw [List.length_set]; exact h.1, fun y hy => ?_⟩
  rcases List.mem_or_eq_of_mem_set hy with hy | rfl
  · exact h.2 y hy
  · refine ⟨by rw [List.length_set]; exact hq.1, fun x hx => ?_⟩
    rcases List.mem_or_eq_of_mem_set hx with hx | rfl
    · exact hq.2 x hx
    · exact hz
/-- rows[g][h] = z -/
theorem s_cell {K : PySem.W.Frag} {te t1 t2 t3 : TE} {D : Ends} {σ : L2.St} {H0 H : Hp} {p : Addr} {qs : List (Addr × List Int)} {m n : Nat} {g h z : Int} (hM : RowsM H0 H p qs) (hB : RowsB m n qs) (hg : 0 ≤ g ∧ g < (m : Int)) (hh : 0 ≤ h ∧ h < (n : Int)) (hz : 0 ≤ z ∧ z ≤ 96) (he : Ev te σ H (.int z)) (h1 : Ev t1 σ H (.ref p)) (h2 : Ev t2 σ H (.int g)) (h3 : Ev t3 σ H (.int h))
    (k : ∀ H1 qs', (∀ G, Ex G H → H0 = G → Ex G H1) → RowsM H0 H1 p qs' → RowsB m n qs' → D.nx σ H1) : tAsg te (gSub (tOp (rIxL K) t1 t2) t3 rSetL) D σ H := by
  have hl : g.toNat < qs.length := by rw [hB.1]; omega
  have hi : qs[g.toNat]? = some qs[g.toNat] := List.getElem?_eq_getElem hl
  have hq := hM.2.2.2 _ (List.getElem_mem hl)
  have hb := hB.2 _ (List.getElem_mem hl)
  generalize qs[g.toNat] = q at *
  have e3 : Ev t3 σ H (.int ((h.toNat : Nat) : Int)) := by rw [Int.toNat_of_nonneg hh.1]; exact h3
  have a1 : atI (qs.map fun q => V.ref q.1) g = some (.ref q.1) := by
    have := atI_nat (xs := qs.map fun q => V.ref q.1) (j := g.toNat) (v := .ref q.1) (by rw [List.getElem?_map, hi]; rfl)
    rwa [Int.toNat_of_nonneg hg.1] at this
  refine s_setL (l := q.1) (xs := q.2.map V.int) (j := h.toNat) hq.2.2 he (ev_op h1 h2 (rv_ixL (K := K) (sq_of hM.2.1) a1)) e3 (by rw [List.length_map, hb.1]; omega) fun H1 g1 => ?_
  have := (hM.ex g1).put (j := h.toNat) (z := z) hi
  rw [List.map_set] at this
  refine k _ _ (fun G eG hG => ?_) this (hB.put hi hz)
  subst hG
  exact Ex.mut (eG.trans g1) hq.2.1
def spStr (K : PySem.W.Frag) : Sp := fun vs H Q _ => ∃ (c d sa : Int) (m n : Nat) (a : Addr) (rs : List (Addr × T3)), vs = [.int c, .int d, .int sa, .int (m : Int), .int (n : Int), .ref a] ∧ 0 ≤ c ∧ 0 ≤ d ∧ (0 ≤ sa ∧ sa ≤ 1000) ∧ (1 ≤ m ∧ m ≤ 4) ∧ (1 ≤ n ∧ n ≤ 24) ∧ m * n ≤ 48 ∧ RowL K H a rs ∧ rs.length ≤ 6 ∧ (∀ r ∈ rs, inHouse n m r.2.1 r.2.2.1 = true ∧ 1 ≤ r.2.2.2 ∧ r.2.2.2 ≤ 6) ∧ ∀ p H' xss, Ex H H' → RowsL K H' p xss → Shape n m xss → Q (.ref p) H' 
theorem ok_u_law_strengths (T : Txt K mg A) : FnOk P w K mg base CX0 4 A.f_u_law_strengths A.d_u_law_strengths (["cell", "other", "salt", "gates", "n", "spread"] : List Str) (spStr K) := by
  refine T.F_u_law_strengths.ok sc_u_law_strengths (fun vs H Q E h => ?_) (fun cdv Ar outer s H vs Q E hr h => ?_)
  · obtain ⟨c, d, sa, m, n, a, rs, rfl, _⟩ := h
    rfl
  · obtain ⟨c, d, sa, m, n, a, rs, rfl, hc, hd, hsa, hm, hn, hmn, hq, hql, hin, k⟩ := h
    refine ⟨_, (pss_cons (ps_set (i := 6) sc_u_law_strengths.nd rfl (Or.inl rfl) (pe_call (ok_u_law_draws T) (hr.mono (by omega)) rfl T.g_u_law_draws T.k_u_law_draws (b_u_law_draws T) .nil pass0 (pa_cons (pv 0) (pa_cons (pv 2) (pa_cons (pe_op op_cat (pe_lst (pa_cons pe_int pa_nil)) (pe_op op_rep (pe_lst (pa_cons pe_int pa_nil)) pe_int)) pa_nil)))))
        (pss_cons (ps_set (i := 7) sc_u_law_strengths.nd rfl (Or.inl rfl) (pe_op op_rep (pe_lst (pa_cons pe_int pa_nil)) (pe_op op_mul (pv 3) (pv 4))))
        (pss_cons (ps_if (pt_cmpR op_eq (pe_ix ix_lK (pv 6) pe_int (fun _ _ => rfl)) pe_int (nomark _)) (pss_one (ps_set (i := 7) sc_u_law_strengths.nd rfl (Or.inl rfl) (pe_op op_rep (pe_lst (pa_cons pe_int pa_nil)) (pe_op op_mul (pv 3) (pv 4))))) pss_nil)
        (pss_cons (ps_set (i := 8) sc_u_law_strengths.nd rfl (Or.inl rfl) (pe_call (ok_u_law_rows T) (hr.mono (by omega)) rfl T.g_u_law_rows T.k_u_law_rows (b_u_law_rows T) .nil pass0 (pa_cons (pv 3) (pa_cons (pv 4) (pa_cons (pe_call (ok_u_law_draws T) (hr.mono (by omega)) rfl T.g_u_law_draws T.k_u_law_draws (b_u_law_draws T) .nil pass0 (pa_cons (pv 1) (pa_cons (pe_op op_add (pv 2) pe_int) (pa_cons (pv 7) pa_nil)))) pa_nil)))))
        (pss_cons (ps_for PassesOwn.never rfl (pi_range1 rfl T.z_range (pa_cons (pe_callB len_K (by rfl) T.z_len (by decide +kernel) (pa_cons (pv 5) pa_nil)) pa_nil)) (pg_name (i := 9) sc_u_law_strengths.nd rfl (Or.inl rfl)) (pss_cons (ps_asg (pe_ix ix_lK (pv 5) (pv 9) (fun _ _ => rfl)) (pg_tup rfl (pgs_cons (pg_name (i := 10) sc_u_law_strengths.nd rfl (Or.inl rfl)) (pgs_cons (pg_name (i := 11) sc_u_law_strengths.nd rfl (Or.inl rfl)) (pgs_cons (pg_name (i := 12) sc_u_law_strengths.nd rfl (Or.inl rfl)) pgs_nil)))))
        (pss_cons (ps_if (pt_cmpR op_lt (pe_ix ix_lK (pv 6) (pe_op op_add pe_int (pv 9)) (fun _ _ => rfl)) pe_int (nomark _)) (pss_one (ps_asg (pe_op op_sub (pe_op op_add (pv 12) (pe_ix ix_lK (pv 6) (pe_op op_add pe_int (pv 9)) (fun _ _ => rfl))) pe_int) (pg_sub (pe_ix ix_lK (pv 8) (pv 10) (fun _ _ => rfl)) (pv 11) set_list))) pss_nil)
        (pss_one (ps_if (pt_cmpR op_eq (pe_ix ix_lK (pv 6) (pe_op op_add pe_int (pv 9)) (fun _ _ => rfl)) pe_int (nomark _)) (pss_one (ps_asg pe_int (pg_sub (pe_ix ix_lK (pv 8) (pv 10) (fun _ _ => rfl)) (pv 11) set_list))) pss_nil)))))
        (pss_one (ps_ret (pv 8)))))))), ?_⟩
    have cm : CMul (m : Int) (n : Int) := .inl ⟨by omega, by omega⟩
    have mnE : ∀ {σ : L2.St} {G : Hp}, σ[3]? = some (some (.int (m : Int))) → σ[4]? = some (some (.int (n : Int))) → Ev (tOp (rI CMul fun i j => V.int (i * j)) (tVar 3) (tVar 4)) σ G (.int ((m * n : Nat) : Int)) := fun h1 h2 => ev_is (ev_op (ev_var h1) (ev_var h2) (rv_I cm)) (congrArg V.int (by rw [Int.natCast_mul]))
    have repE : ∀ {σ : L2.St} {G : Hp} {z : Int}, σ[3]? = some (some (.int (m : Int))) → σ[4]? = some (some (.int (n : Int))) → EvL (tOp rRep (tLst (tCons (tC (.int z)) tNil)) (tOp (rI CMul fun i j => V.int (i * j)) (tVar 3) (tVar 4))) σ G ((List.replicate (m * n) z).map V.int) := fun {σ G z} h1 h2 => by
      have := el_rep (z := z) (k := ((m * n : Nat) : Int)) (ev_c (σ := σ) (H := G)) (mnE h1 h2) (by omega)
      rwa [Int.toNat_natCast] at this
    generalize hmnn : m * n = mn at *
    try dsimp only
    refine q_asgR (er_draws (K := K) (ms := [8] ++ List.replicate 6 5) (ev_var (i := 0) rfl) (ev_var (i := 2) rfl) (el_is (el_cat (el_lst (ea_cons ev_c ea_nil) (by show 1 ≤ 100000; decide)) (el_rep (z := 5) (k := 6) ev_c ev_c (by decide)) (by simp)) (by simp [List.map_append])) hc (by omega) (by simp) (by decide +kernel)) fun v H1 e1 hp => ?_
    obtain ⟨np, ds, rfl, hnd, hD⟩ := hp
    have dl : ds.length = 7 := hD.1
    have dn : ∀ i : Nat, i < 6 → 0 ≤ ds.getD (1 + i) 0 ∧ ds.getD (1 + i) 0 < 5 := fun i hi => by
      have : i = 0 ∨ i = 1 ∨ i = 2 ∨ i = 3 ∨ i = 4 ∨ i = 5 := by omega
      rcases this with rfl | rfl | rfl | rfl | rfl | rfl <;> exact drawn_at hD (m := 5) rfl
    have dE : ∀ {σ : L2.St} {G : Hp} {te : TE} {i : Nat}, σ[6]? = some (some (.ref np)) → Ex H1 G → Ev te σ G (.int (i : Int)) → i < 7 → Ev (tOp (rIxL K) (tVar 6) te) σ G (.int (ds.getD i 0)) := fun {σ G te i} h e he h1 => by
      have := ev_op (ev_var h) he (rv_ixL (K := K) (sq_of (e _ _ hnd)) (atI_ints (i := (i : Int)) (by omega) (by rw [dl]; omega)))
      rwa [Int.toNat_natCast] at this
    try dsimp only
    refine q_asgL (repE rfl rfl) fun mp H2 hmp e2 h2 => ?_
    try dsimp only
    refine q_alt (b := decide (ds.getD 0 0 = 7)) (fun σ' G => ∃ (b : Addr) (z : Int), (z = 7 ∨ z = 97) ∧ σ' = [some (.int c), some (.int d), some (.int sa), some (.int (m : Int)), some (.int (n : Int)), some (.ref a), some (.ref np), some (.ref b), none, none, none, none, none] ∧ Ex H1 G ∧ G b = some (.lst ((List.replicate mn z).map V.int)))
      (et_test (ev_is (ev_op (dE (i := 0) rfl e2 ev_c (by decide)) ev_c (rv_eq rfl)) (by rw [dec_ii]))) (fun _ G0 g0 W hW => s_asgL (repE (z := 97) rfl rfl) fun b G1 hb g1 h1 => hW _ _ ⟨b, 97, .inr rfl, rfl, e2.trans (g0.trans g1), h1⟩) (fun _ G0 g0 => ⟨mp, 7, .inl rfl, rfl, e2.trans g0, g0 _ _ h2⟩) ?_
    rintro σ' G ⟨b, z, hz, rfl, eG, hb⟩
    try dsimp only
    refine q_asgR (er_lawRows (K := K) (m := m) (n := n) (ms := List.replicate mn z) (ev_var (i := 3) rfl) (ev_var (i := 4) rfl) (er_drawsV (K := K) (ev_var (i := 1) rfl) (ev_op (ev_var (i := 2) rfl) ev_c rv_I0) (ev_var (i := 7) rfl) (sq_of hb) hd (by omega) (by rw [List.length_replicate]; omega) (fun x hx => by
      rw [(List.mem_replicate.mp hx).2]
      exact ⟨by omega, Nat.lt_of_lt_of_le (show z.natAbs < 2 ^ 7 by omega) (Nat.pow_le_pow_right (by decide) (by decide))⟩)) (by rw [List.length_replicate]; omega) (by omega) (by omega)) fun v G1 g1 hv => ?_
    obtain ⟨rp, qs, rfl, hM, hql', hqs⟩ := hv
    have hB : RowsB m n qs := ⟨hql', fun q hq => ⟨(hqs q hq).1, fun x hx => by
      obtain ⟨i, y, hy, h0, h1⟩ := (hqs q hq).2 x hx
      have := (List.mem_replicate.mp (List.mem_of_getElem? hy)).2
      omega⟩⟩
    have e0G := e1.trans eG
    try dsimp only
    refine q_forR1 (j := 9) (n := (rs.length : Int)) (ea_cons (ev_cb (r := rLenK K) (ea_cons (ev_var (i := 5) rfl) ea_nil) fun G2 e Q q => ⟨.ref a, rs.length, rfl, .inl ⟨_, ex_l ((e0G.trans g1).trans e) hq.1, (List.length_map _).symm⟩, q G2 (Ex.refl G2)⟩) ea_nil) (by omega)
      (fun i σ' G2 => ∃ (v9 v10 v11 v12 : Option V) (qs : List (Addr × List Int)), σ' = [some (.int c), some (.int d), some (.int sa), some (.int (m : Int)), some (.int (n : Int)), some (.ref a), some (.ref np), some (.ref b), some (.ref rp), v9, v10, v11, v12] ∧ Ex G G2 ∧ RowsM G G2 rp qs ∧ RowsB m n qs)
      (fun G2 g2 => ⟨none, none, none, none, qs, rfl, g1.trans g2, hM.ex g2, hB⟩) ?_ ?_
    · rintro i σ' G2 hi ⟨v9, v10, v11, v12, qs, rfl, eG2, hM, hB⟩
      have hi' : i < rs.length := by omega
      have a1 : rs[i]? = some rs[i] := List.getElem?_eq_getElem hi'
      have m1 : rs[i] ∈ rs := List.getElem_mem hi'
      have hb1 := hin _ m1
      have ht := ex_t (e0G.trans eG2) (hq.2 _ m1)
      have dd := dn i (by omega)
      have e1G2 := eG.trans eG2
      generalize rs[i] = r at *
      obtain ⟨t, g, h, x⟩ := r
      obtain ⟨hin1, hx1, hx2⟩ := hb1
      have hx1 : 1 ≤ x := hx1
      have hx2 : x ≤ 6 := hx2
      have hin1 : (0 ≤ g ∧ g < (m : Int)) ∧ 0 ≤ h ∧ h < (n : Int) := of_decide_eq_true hin1
      try dsimp only
      refine q_unp3 (K := K) (ev_op (ev_var (i := 5) rfl) (ev_var (i := 9) rfl) (rv_ixL (K := K) (ex_l (e0G.trans eG2) hq.1) (row_at a1))) ht fun G3 g3 => ?_
      have nE : ∀ {σ : L2.St} {G' : Hp}, σ[6]? = some (some (.ref np)) → σ[9]? = some (some (.int (i : Int))) → Ex G3 G' → Ev (tOp (rIxL K) (tVar 6) (tOp (rI0 fun i j => V.int (i + j)) (tC (V.int 1)) (tVar 9))) σ G' (.int (ds.getD (1 + i) 0)) := fun h1 h2 e => dE h1 (e1G2.trans (g3.trans e)) (ev_is (ev_op ev_c (ev_var h2) rv_I0) (congrArg V.int (by omega))) (by omega)
      try dsimp only
      refine q_alt (b := decide (ds.getD (1 + i) 0 < 3)) (fun σ' G4 => ∃ qs : List (Addr × List Int), σ' = [some (.int c), some (.int d), some (.int sa), some (.int (m : Int)), some (.int (n : Int)), some (.ref a), some (.ref np), some (.ref b), some (.ref rp), some (.int (i : Int)), some (.int g), some (.int h), some (.int x)] ∧ Ex G G4 ∧ RowsM G G4 rp qs ∧ RowsB m n qs)
        (et_test (ev_op (nE rfl rfl (Ex.refl _)) ev_c rv_I0)) (fun hb G4 g4 W hW => ?_) (fun _ G4 g4 => ⟨qs, rfl, eG2.trans (g3.trans g4), hM.ex (g3.trans g4), hB⟩) ?_
      · have hb := of_decide_eq_true hb
        exact s_cell (K := K) (z := x + ds.getD (1 + i) 0 - 1) (hM.ex (g3.trans g4)) hB hin1.1 hin1.2 (by omega) (ev_op (ev_op (ev_var (i := 12) rfl) (nE rfl rfl g4) rv_I0) ev_c rv_I0) (ev_var (i := 8) rfl) (ev_var (i := 10) rfl) (ev_var (i := 11) rfl) fun G5 qs' g5 hM' hB' => hW _ _ ⟨qs', rfl, g5 G (eG2.trans (g3.trans g4)) rfl, hM', hB'⟩
      rintro σ' G4 ⟨qs, rfl, eG4, hM, hB⟩
      have nE4 : Ev (tOp (rIxL K) (tVar 6) (tOp (rI0 fun i j => V.int (i + j)) (tC (V.int 1)) (tVar 9))) [some (.int c), some (.int d), some (.int sa), some (.int (m : Int)), some (.int (n : Int)), some (.ref a), some (.ref np), some (.ref b), some (.ref rp), some (.int (i : Int)), some (.int g), some (.int h), some (.int x)] G4 (.int (ds.getD (1 + i) 0)) := dE rfl (eG.trans eG4) (ev_is (ev_op ev_c (ev_var (i := 9) rfl) rv_I0) (congrArg V.int (by omega))) (by omega)
      try dsimp only
      refine s_when (b := decide (ds.getD (1 + i) 0 = 3)) (et_test (ev_is (ev_op nE4 ev_c (rv_eq rfl)) (by rw [dec_ii]))) (fun _ G5 g5 => ?_) (fun _ G5 g5 => ⟨_, _, _, _, qs, rfl, eG4.trans g5, hM.ex g5, hB⟩)
      exact s_cell (K := K) (z := 0) (hM.ex g5) hB hin1.1 hin1.2 (by decide) ev_c (ev_var (i := 8) rfl) (ev_var (i := 10) rfl) (ev_var (i := 11) rfl) fun G6 qs' g6 hM' hB' => ⟨_, _, _, _, qs', rfl, g6 G (eG4.trans g5) rfl, hM', hB'⟩
    rintro σ' G2 ⟨v9, v10, v11, v12, qs, rfl, eG2, hM, hB⟩
    refine s_ret (ev_var (i := 8) rfl) fun G3 g3 => k rp G3 (qs.map (·.2)) ((e0G.trans eG2).trans g3) (hM.ex g3).rows ⟨by rw [List.length_map, hB.1], fun xs hx => ?_, fun xs hx => ?_⟩
    · obtain ⟨q, hq', rfl⟩ := List.mem_map.mp hx
      rw [(hB.2 q hq').1]
    · obtain ⟨q, hq', rfl⟩ := List.mem_map.mp hx
      exact (hB.2 q hq').2

def dueP (xss : List (List Int)) (i : Nat) (r : Addr × T3) : Bool := decide (r.2.1 = (i : Int)) && decide ((xss.getD i []).getD r.2.2.1.toNat 0 < r.2.2.2)
def dueS (gs : List (Str × Int)) (xss : List (List Int)) (rs : List (Addr × T3)) : Nat → Int
  | 0 => 0
  | i + 1 => dueS gs xss rs i + (gs.map (·.2)).getD i 0 * ((rs.filter (dueP xss i)).length : Int)
theorem dueS_cons {gs : List (Str × Int)} {xss : List (List Int)} {r : Addr × T3} {rs : List (Addr × T3)} (h0 : 0 ≤ r.2.1) : ∀ i : Nat, dueS gs xss (r :: rs) i = dueS gs xss rs i + (if r.2.1 < (i : Int) ∧ (xss.getD r.2.1.toNat []).getD r.2.2.1.toNat 0 < r.2.2.2 then (gs.map (·.2)).getD r.2.1.toNat 0 else 0)
  | 0 => by
    rw [if_neg (by omega)]
    rfl
  | i + 1 => by
    show dueS gs xss (r :: rs) i + _ * (((r :: rs).filter (dueP xss i)).length : Int) = dueS gs xss rs i + _ * _ + _
    rw [dueS_cons h0 i, List.filter_cons]
    by_cases c : r.2.1 = (i : Int)
    · have ct : r.2.1.toNat = i := by omega
      rw [if_neg (by omega)]
      by_cases c2 : (xss.getD i []).getD r.2.2.1.toNat 0 < r.2.2.2
      · rw [if_pos (show dueP xss i r = true by unfold dueP; rw [decide_eq_true c, decide_eq_true c2]; rfl), if_pos ⟨by omega, by rw [ct]; exact c2⟩, ct, List.length_cons]
        rw [Int.natCast_add, Int.mul_add]
        simp
        omega
      · rw [if_neg (show ¬ dueP xss i r = true by unfold dueP; rw [decide_eq_false c2]; simp), if_neg (by rw [ct]; exact fun z => c2 z.2)]
        omega
    · rw [if_neg (show ¬ dueP xss i r = true by unfold dueP; rw [decide_eq_false c]; simp)]
      by_cases c3 : r.2.1 < (i : Int) ∧ (xss.getD r.2.1.toNat []).getD r.2.2.1.toNat 0 < r.2.2.2
      · rw [if_pos c3, if_pos ⟨by omega, c3.2⟩]
        omega
      · rw [if_neg c3, if_neg fun z => c3 ⟨by omega, z.2⟩]
        omega
theorem dueS_loss {gs : List (Str × Int)} {xss : List (List Int)} {n : Int} : ∀ {rs : List (Addr × T3)}, (∀ r ∈ rs, inHouse n gs.length r.2.1 r.2.2.1 = true) → dueS gs xss rs gs.length = lossZ gs xss n (rs.map (·.2))
  | [], _ => by
    have : ∀ i, dueS gs xss [] i = 0 := fun i => by
      induction i with
      | zero => rfl
      | succ i ih => show dueS gs xss [] i + _ * 0 = 0; rw [ih]; simp
    rw [this]
    rfl
  | r :: rs, h => by
    have hr : (0 ≤ r.2.1 ∧ r.2.1 < (gs.length : Int)) ∧ 0 ≤ r.2.2.1 ∧ r.2.2.1 < n := of_decide_eq_true (h r List.mem_cons_self)
    rw [dueS_cons hr.1.1, dueS_loss fun x hx => h x (List.mem_cons_of_mem _ hx)]
    unfold lossZ
    rw [List.map_cons, List.filter_cons]
    have ev : watVal xss n r.2.1 r.2.2.1 = (xss.getD r.2.1.toNat []).getD r.2.2.1.toNat 0 := by
      unfold watVal
      rw [Int.emod_eq_of_lt hr.2.1 hr.2.2]
    have es : (gs.getD r.2.1.toNat ("", 0)).2 = (gs.map (·.2)).getD r.2.1.toNat 0 := by
      rw [List.getD_eq_getElem?_getD, List.getD_eq_getElem?_getD, List.getElem?_map, List.getElem?_eq_getElem (by omega)]
      rfl
    by_cases c : (xss.getD r.2.1.toNat []).getD r.2.2.1.toNat 0 < r.2.2.2
    · rw [if_pos ⟨hr.1.2, c⟩, if_pos (by rw [ev]; exact decide_eq_true c), List.map_cons, List.sum_cons, es]
      omega
    · rw [if_neg (fun z => c z.2), if_neg (by rw [ev, decide_eq_false c]; simp)]
      omega
def spDue (K : PySem.W.Frag) : Sp := fun vs H Q _ => ∃ (a b p : Addr) (n : Int) (gs : List (Str × Int)) (xss : List (List Int)) (rs : List (Addr × T3)), vs = [.ref a, .ref b, .ref p] ∧ SqL K H a ((gs.map (·.2)).map V.int) ∧ RowsL K H b xss ∧ Shape n gs.length xss ∧ 1 ≤ n ∧ RowL K H p rs ∧ rs.length ≤ 100 ∧ gs.length ≤ 100 ∧ (∀ g ∈ gs, 0 ≤ g.2 ∧ g.2 ≤ 60) ∧ (∀ r ∈ rs, inHouse n gs.length r.2.1 r.2.2.1 = true) ∧ ∀ H', Ex H H' → Q (.int (lossZ gs xss n (rs.map (·.2)))) H' 
theorem ok_u_law_due (T : Txt K mg A) : FnOk P w K mg base CX0 1 A.f_u_law_due A.d_u_law_due (["stakes", "rows", "spread"] : List Str) (spDue K) := by
  refine T.F_u_law_due.ok sc_u_law_due (fun vs H Q E h => ?_) (fun cdv Ar outer s H vs Q E hr h => ?_)
  · obtain ⟨a, b, p, n, gs, xss, rs, rfl, _⟩ := h
    rfl
  · obtain ⟨a, b, p, n, gs, xss, rs, rfl, ha, hb, hS, hn, hq, hql, hgl, hst, hin, k⟩ := h
    refine ⟨_, (pss_cons (ps_set (i := 3) sc_u_law_due.nd rfl (Or.inl rfl) pe_int)
        (pss_cons (ps_for PassesOwn.never rfl (pi_range1 rfl T.z_range (pa_cons (pe_callB len_K (by rfl) T.z_len (by decide +kernel) (pa_cons (pv 0) pa_nil)) pa_nil)) (pg_name (i := 4) sc_u_law_due.nd rfl (Or.inr rfl)) (pss_cons (ps_setLc (i := 5) (own := [("item", 6)]) (g := gName 6) rfl sc_u_law_due.nd rfl rfl (sw_true rfl rfl rfl (by decide +kernel)) (pi_listK (pv 2)) (blkOk_by (own := [("item", 6)]) (N := N_u_law_due) (sc := defScope s_u_law_due) (by decide +kernel)) (fun _ _ _ _ _ => (pg_name (i := 6) sc_u_law_due.nd rfl (Or.inl rfl))) (fun _ _ _ _ _ => (pts_one (PW.pt (pw_and (pt_cmpR op_eq (pe_ix ix_tK (pv 6) pe_int (fun _ _ => rfl)) (pv 4) (nomark _)) (pw_and1 (pt_cmpR op_gt (pe_ix ix_tK (pv 6) pe_int (fun _ _ => rfl)) (pe_ix ix_lK (pe_ix ix_lK (pv 1) (pv 4) (fun _ _ => rfl)) (pe_ix ix_tK (pv 6) pe_int (fun _ _ => rfl)) (fun _ _ => rfl)) (nomark _))))))) (fun _ _ _ _ _ => (pv 6)))
        (pss_one (ps_set (i := 3) sc_u_law_due.nd rfl (Or.inl rfl) (pe_op op_add (pv 3) (pe_op op_mul (pe_ix ix_lK (pv 0) (pv 4) (fun _ _ => rfl)) (pe_callB len_K (by rfl) T.z_len (by decide +kernel) (pa_cons (pv 5) pa_nil))))))))
        (pss_one (ps_ret (pv 3))))), ?_⟩
    obtain ⟨us, hus, hul, hua⟩ := hb.all
    have hln := hS.len
    try dsimp only
    refine q_asg (v := .int 0) ev_c fun H1 e1 => ?_
    try dsimp only
    refine q_forR1 (j := 4) (n := (gs.length : Int)) (ea_cons (ev_cb (r := rLenK K) (ea_cons (ev_var (i := 0) rfl) ea_nil) fun G e Q q => ⟨.ref a, gs.length, rfl, .inl ⟨_, ex_l (e1.trans e) ha, by rw [List.length_map, List.length_map]⟩, q G (Ex.refl G)⟩) ea_nil) (by omega)
      (fun i σ' G => ∃ v4 v5 : Option V, σ' = [some (.ref a), some (.ref b), some (.ref p), some (.int (dueS gs xss rs i)), v4, v5, none] ∧ Ex H G) (fun H2 e2 => ⟨none, none, rfl, e1.trans e2⟩) ?_ ?_
    · rintro i σ' G hi ⟨v4, v5, rfl, eG⟩
      have hi' : i < gs.length := by omega
      have eu : us[i]? = some us[i] := List.getElem?_eq_getElem (by omega)
      obtain ⟨t, ht, hT⟩ := hua i _ eu
      rw [ht] at eu
      have hm : xss.getD i [] ∈ xss := in_getD (by omega)
      have hrow := hS.row _ hm
      try dsimp only
      refine q_asgL (xs := (rs.filter (dueP xss i)).map fun r : Addr × T3 => V.ref r.1) (el_lstG (K := K) (te := tVar 6) (tl := tVar 2) (g := gName 6) (vs := [6]) (σ := [some (.ref a), some (.ref b), some (.ref p), some (.int (dueS gs xss rs i)), some (.int (i : Int)), v5, none]) (H := G) (tt := tAnd (tTest (tOp rEq (tOp (rIxT K) (tVar 6) (tC (V.int 0))) (tVar 4))) (tTest (tOp (rI0 fun i j => V.bl (decide (j < i))) (tOp (rIxT K) (tVar 6) (tC (V.int 2))) (tOp (rIxL K) (tOp (rIxL K) (tVar 1) (tVar 4)) (tOp (rIxT K) (tVar 6) (tC (V.int 1)))))))
        (p, 0, 0, 0) (rs.map fun r : Addr × T3 => V.ref r.1) rs (dueP xss i) (fun r => V.ref r.1) (fun r => [some (.ref a), some (.ref b), some (.ref p), some (.int (dueS gs xss rs i)), some (.int (i : Int)), v5, some (.ref r.1)]) (ev_var (i := 2) rfl) (ex_l eG hq.1) (List.length_map _) (by omega)
        (fun j x y H3 kk e3 hx hy hk => by
          rw [List.getElem?_map, hy] at hx
          cases hx
          exact hk) (fun y => rfl)
        (fun y H3 e3 hy => by
          have hin' : (0 ≤ y.2.1 ∧ y.2.1 < (gs.length : Int)) ∧ 0 ≤ y.2.2.1 ∧ y.2.2.1 < n := of_decide_eq_true (hin y hy)
          have hty := ex_t (eG.trans e3) (hq.2 y hy)
          exact et_and (et_test (ev_is (ev_op (ev_op (ev_var (i := 6) rfl) ev_c (rv_ixT (K := K) hty rfl)) (ev_var (i := 4) rfl) (rv_eq rfl)) (by rw [dec_ii]))) fun _ => et_test (ev_op (ev_op (ev_var (i := 6) rfl) ev_c (rv_ixT (K := K) hty rfl)) (ev_op (ev_op (ev_var (i := 1) rfl) (ev_var (i := 4) rfl) (rv_ixL (K := K) (ex_l (eG.trans e3) hus) (atI_nat eu))) (ev_op (ev_var (i := 6) rfl) ev_c (rv_ixT (K := K) hty rfl)) (rv_ixL (K := K) (ex_l (eG.trans e3) hT) (atI_ints hin'.2.1 (by omega)))) rv_I0))
        (fun y H3 e3 hy _ => ev_var (i := 6) rfl)) fun bp G1 hbp g1 hb1 => ?_
      have cl : (rs.filter (dueP xss i)).length ≤ rs.length := List.length_filter_le _ _
      have st0 : 0 ≤ (gs.map (·.2)).getD i 0 ∧ (gs.map (·.2)).getD i 0 ≤ 60 := by
        rw [List.getD_eq_getElem?_getD, List.getElem?_map, List.getElem?_eq_getElem hi']
        exact hst _ (List.getElem_mem hi')
      have a1 := atI_ints (ns := gs.map (·.2)) (i := (i : Int)) (by omega) (by rw [List.length_map]; exact hi)
      rw [Int.toNat_natCast] at a1
      try dsimp only
      exact s_asg (v := .int (dueS gs xss rs (i + 1))) (ev_op (ev_var (i := 3) rfl) (ev_op (ev_op (ev_var (i := 0) rfl) (ev_var (i := 4) rfl) (rv_ixL (K := K) (ex_l (eG.trans g1) ha) a1)) (ev_cb (r := rLenK K) (ea_cons (ev_var (i := 5) rfl) ea_nil) fun G2 e Q q => ⟨.ref bp, (rs.filter (dueP xss i)).length, rfl, .inl ⟨_, sq_of (e _ _ hb1), (List.length_map _).symm⟩, q G2 (Ex.refl G2)⟩) (rv_I (.inl ⟨by omega, by omega⟩))) rv_I0) fun G2 g2 => ⟨_, _, rfl, eG.trans (g1.trans g2)⟩
    rintro σ' G ⟨v4, v5, rfl, eG⟩
    rw [Int.toNat_natCast, dueS_loss hin]
    exact s_ret (ev_var (i := 3) rfl) fun G2 g2 => k G2 (eG.trans g2)

inductive FR where
  | bad (i : Nat)
  | many
def FR.data : FR → PyData
  | .bad i => .tuple [.str "BadSpread", .int (i : Int), .bool true]
  | .many => .tuple [.str "TooMany", .str "tries", .int 6, .bool true]
def FR.res : FR → TRes
  | .bad i => .wrong i
  | .many => .many
/-! ### rows told exactly -/
def IsTriE (K : PySem.W.Frag) (x : T3) (v : V) (H : Hp) : Prop := ∃ a, v = .ref a ∧ SqT K H a (triV x)
def IsRowE (K : PySem.W.Frag) (ts : List T3) (v : V) (H : Hp) : Prop := ∃ (p : Addr) (rs : List (Addr × T3)), v = .ref p ∧ rs.map (·.2) = ts ∧ H p = some (.lst (rs.map fun r => V.ref r.1)) ∧ ∀ r ∈ rs, SqT K H r.1 (triV r.2)
def TrisP (K : PySem.W.Frag) (P : T3 → Prop) (n : Nat) (vs : List V) (H : Hp) : Prop := ∃ rs : List (Addr × T3), vs = rs.map (fun r => V.ref r.1) ∧ rs.length = n ∧ ∀ r ∈ rs, SqT K H r.1 (triV r.2) ∧ P r.2
theorem er_triE {K : PySem.W.Frag} {σ : L2.St} {H : Hp} {t1 t2 t3 : TE} {x y z : Int} (h1 : Ev t1 σ H (.int x)) (h2 : Ev t2 σ H (.int y)) (h3 : Ev t3 σ H (.int z)) : EvR (tTup (tCons t1 (tCons t2 (tCons t3 tNil)))) σ H (IsTriE K (x, y, z)) := fun H1 e Q q =>
  eu_tup (ea_cons h1 (ea_cons h2 (ea_cons h3 ea_nil))) (by show 3 ≤ 100000; decide) H1 e _ fun p H2 hp e2 h2 => q _ H2 e2 ⟨p, rfl, st_of h2⟩
theorem atp_nil {K : PySem.W.Frag} {P : T3 → Prop} {σ : L2.St} {H : Hp} : EvAR tNil σ H (TrisP K P 0) := fun H1 _ Q q => q [] H1 (Ex.refl H1) ⟨[], rfl, rfl, fun r hr => by cases hr⟩
theorem atp_cons {K : PySem.W.Frag} {P : T3 → Prop} {σ : L2.St} {H : Hp} {te : TE} {ta : TA} {n : Nat} {x : T3} (h : EvR te σ H (IsTriE K x)) (hx : P x) (r : EvAR ta σ H (TrisP K P n)) : EvAR (tCons te ta) σ H (TrisP K P (n + 1)) := fun H1 e Q q =>
  h H1 e _ fun v H2 e2 hv => r H2 (e.trans e2) _ fun vs H3 e3 hs => by
    obtain ⟨a, rfl, ha⟩ := hv
    obtain ⟨rs, rfl, hl, hr⟩ := hs
    refine q _ H3 (e2.trans e3) ⟨(a, x) :: rs, rfl, by rw [List.length_cons, hl], fun y hy => ?_⟩
    rcases List.mem_cons.mp hy with rfl | hy
    · exact ⟨ex_t e3 ha, hx⟩
    · exact hr y hy
theorem er_pick {K : PySem.W.Frag} {P : T3 → Prop} {σ : L2.St} {H : Hp} {ta : TA} {tb : TE} {n : Nat} {i : Int} (h : EvAR ta σ H (TrisP K P n)) (hi : Ev tb σ H (.int i)) (h0 : 0 ≤ i ∧ i < (n : Int)) (hn : n ≤ 1000) : EvR (tOp (rIxL K) (tLst ta) tb) σ H fun v H1 => ∃ x, IsTriE K x v H1 ∧ P x := fun H1 e Q q =>
  h H1 e _ fun vs H2 e2 hs => by
    obtain ⟨rs, rfl, hl, hr⟩ := hs
    refine ⟨by rw [List.length_map, hl]; exact Nat.le_trans hn (by decide), fun p hp => hi _ (e.trans (e2.trans (Ex.new hp))) _ fun H3 e3 => ?_⟩
    have hk : i.toNat < rs.length := by omega
    have a1 := row_at (List.getElem?_eq_getElem hk)
    rw [Int.toNat_of_nonneg h0.1] at a1
    have m1 := hr _ (List.getElem_mem hk)
    exact ⟨p, _, i, _, rfl, rfl, ex_l e3 (sq_of upd_same), a1, q _ H3 ((e2.trans (Ex.new hp)).trans e3) ⟨_, ⟨_, rfl, ex_t ((Ex.new hp).trans e3) m1.1⟩, m1.2⟩⟩
theorem er_oneE {K : PySem.W.Frag} {σ : L2.St} {H : Hp} {te : TE} {x : T3} (h : EvR te σ H (IsTriE K x)) : EvR (tLst (tCons te tNil)) σ H (IsRowE K [x]) := fun H1 e Q q =>
  h H1 e _ fun v H2 e2 hv => by
    obtain ⟨a, rfl, ha⟩ := hv
    exact ⟨by show 1 ≤ sizeLine; decide, fun p hp => q _ _ (e2.trans (Ex.new hp)) ⟨p, [(a, x)], rfl, rfl, upd_same, fun r hm => by rw [List.mem_singleton.mp hm]; exact ex_t (Ex.new hp) ha⟩⟩
theorem er_catE {K : PySem.W.Frag} {σ : L2.St} {H : Hp} {ta tb : TE} {ts us : List T3} (h1 : EvR ta σ H (IsRowE K ts)) (h2 : EvR tb σ H (IsRowE K us)) (hz : ts.length + us.length ≤ 1000) : EvR (tOp rCat ta tb) σ H (IsRowE K (ts ++ us)) := fun H1 e Q q =>
  h1 H1 e _ fun v H2 e2 hv => h2 H2 (e.trans e2) _ fun w H3 e3 hw => by
    obtain ⟨p1, r1, rfl, rfl, s1, t1⟩ := hv
    obtain ⟨p2, r2, rfl, rfl, s2, t2⟩ := hw
    rw [List.length_map, List.length_map] at hz
    exact ⟨p1, p2, _, _, rfl, rfl, e3 _ _ s1, s2, sz_of (by rw [List.length_map, List.length_map]; omega), fun p hp => q _ _ ((e2.trans e3).trans (Ex.new hp)) ⟨p, r1 ++ r2, rfl, List.map_append, by rw [List.map_append]; exact upd_same, fun r hr => ex_t (Ex.new hp) ((List.mem_append.mp hr).elim (fun z => ex_t e3 (t1 r z)) (t2 r))⟩⟩
theorem er_takeE {K : PySem.W.Frag} {te : TE} {th : TO} {σ : L2.St} {H : Hp} {p : Addr} {rs : List (Addr × T3)} {k : Nat} (h : Ev te σ H (.ref p)) (hr : RowL K H p rs) (h2 : EvO th σ H (some (k : Int))) : EvR (tSl (rSlL K) te tNoPart th) σ H (IsRowE K ((rs.map (·.2)).take k)) := fun H1 e Q q => by
  have c1 : cutV (rs.map fun r : Addr × T3 => V.ref r.1) none (some (k : Int)) = (rs.take k).map fun r => V.ref r.1 := by
    unfold cutV
    rw [HT.sIx_none, HT.sIx_nat, List.length_map, List.drop_zero, Nat.sub_zero, List.map_take]
    by_cases hk : k ≤ rs.length
    · rw [Nat.min_eq_left hk]
    · rw [Nat.min_eq_right (by omega), List.take_of_length_le (by rw [List.length_map]; omega), List.take_of_length_le (by rw [List.length_map]; omega)]
  exact el_sl h eo_none h2 hr.1 H1 e _ fun b H2 hb e2 h2 => q _ H2 e2 ⟨b, rs.take k, rfl, by rw [List.map_take], by rw [← c1]; exact h2, fun r hm => ex_t (e.trans e2) (hr.2 r (List.mem_of_mem_take hm))⟩
theorem er_dropE {K : PySem.W.Frag} {te : TE} {tl : TO} {σ : L2.St} {H : Hp} {p : Addr} {rs : List (Addr × T3)} {k : Nat} (h : Ev te σ H (.ref p)) (hr : RowL K H p rs) (h1 : EvO tl σ H (some (k : Int))) : EvR (tSl (rSlL K) te tl tNoPart) σ H (IsRowE K ((rs.map (·.2)).drop k)) := fun H1 e Q q => by
  have c1 : cutV (rs.map fun r : Addr × T3 => V.ref r.1) (some (k : Int)) none = (rs.drop k).map fun r => V.ref r.1 := by
    unfold cutV
    rw [HT.sIx_none, HT.sIx_nat, List.length_map]
    by_cases hk : k ≤ rs.length
    · rw [Nat.min_eq_left hk, List.take_of_length_le (by rw [List.length_drop, List.length_map]; omega), List.map_drop]
    · rw [Nat.min_eq_right (by omega), List.drop_of_length_le (by rw [List.length_map]; omega), List.drop_of_length_le (by omega)]
      simp
  exact el_sl h h1 eo_none hr.1 H1 e _ fun b H2 hb e2 h2 => q _ H2 e2 ⟨b, rs.drop k, rfl, by rw [List.map_drop], by rw [← c1]; exact h2, fun r hm => ex_t (e.trans e2) (hr.2 r (List.mem_of_mem_drop hm))⟩
theorem er_pairE {K : PySem.W.Frag} {σ : L2.St} {H : Hp} {t1 t2 : TE} {ts : List T3} {d : PyData} (h1 : EvR t1 σ H (IsRowE K ts)) (h2 : EvR t2 σ H fun v H1 => Dp K H1 v d) : EvR (tTup (tCons t1 (tCons t2 tNil))) σ H fun v H1 => ∃ (p q : Addr) (w : V) (ss : List (Addr × T3)), v = .ref p ∧ H1 p = some (.tup [.ref q, w]) ∧ RowL K H1 q ss ∧ ss.map (·.2) = ts ∧ Dp K H1 w d := fun H1 e Q q =>
  h1 H1 e _ fun v H2 e2 hv => h2 H2 (e.trans e2) _ fun w H3 e3 hw => by
    obtain ⟨p1, r1, rfl, rfl, s1, t1⟩ := hv
    exact ⟨by show 2 ≤ sizeLine; decide, fun p hp => q _ _ ((e2.trans e3).trans (Ex.new hp)) ⟨p, p1, w, r1, rfl, upd_same, ⟨sq_of ((Ex.new hp) _ _ (e3 _ _ s1)), fun r hr => ex_t (e3.trans (Ex.new hp)) (t1 r hr)⟩, rfl, dp_ex (Ex.new hp) hw⟩⟩
theorem res_wrong {n : Int} {m : Nat} {ts : List T3} {i : Nat} (h : firstW n m 0 (-1) (-1) ts = some i) : triesRes n m ts = .wrong i := by
  unfold triesRes
  rw [h]
theorem firstW_bad {n : Int} {m k : Nat} {b c : Int} {x : T3} {r : List T3} (h : (!inHouse n m x.1 x.2.1 || decide (x.2.2 < 1) || lexLe x.1 x.2.1 b c) = true) : firstW n m k b c (x :: r) = some k := if_pos h
theorem sum_nn : ∀ {l : List T3}, (∀ t ∈ l, 1 ≤ t.2.2) → 0 ≤ (l.map (·.2.2)).sum
  | [], _ => by simp
  | t :: l, h => by
    have h1 := h t List.mem_cons_self
    have h2 := sum_nn fun x hx => h x (List.mem_cons_of_mem _ hx)
    rw [List.map_cons, List.sum_cons]
    omega
def spFault (K : PySem.W.Frag) : Sp := fun vs H Q _ => ∃ (a : Addr) (kd pl n : Int) (m : Nat) (rs : List (Addr × T3)), vs = [.ref a, .int kd, .int pl, .int (m : Int), .int n] ∧ RowL K H a rs ∧ rs.length ≤ 6 ∧ (0 ≤ kd ∧ kd ≤ 6) ∧ 1 ≤ n ∧ 1 ≤ m ∧ Good n m (-1) (-1) (rs.map (·.2)) ∧ (∀ r ∈ rs, 1 ≤ r.2.2.2) ∧ ∀ p H' q (w : V) (ss : List (Addr × T3)) (f : FR), Ex H H' → H' p = some (.tup [.ref q, w]) → RowL K H' q ss → ss.length ≤ 20 → Dp K H' w f.data → triesRes n m (ss.map (·.2)) = f.res → Q (.ref p) H' 
theorem ok_u_law_fault (T : Txt K mg A) : FnOk P w K mg base CX0 1 A.f_u_law_fault A.d_u_law_fault (["spread", "kind", "place", "gates", "n"] : List Str) (spFault K) := by
  refine T.F_u_law_fault.ok sc_u_law_fault (fun vs H Q E h => ?_) (fun cdv Ar outer s H vs Q E hr h => ?_)
  · obtain ⟨a, kd, pl, n, m, rs, rfl, _⟩ := h
    rfl
  · obtain ⟨a, kd, pl, n, m, rs, rfl, hq, hql, hk, hn, hm, hgood, hz, k⟩ := h
    refine ⟨_, (pss_cons (ps_set (i := 5) sc_u_law_fault.nd rfl (Or.inl rfl) (pe_op op_mod (pe_callTy call_int1 (by rfl) T.z_int (by decide +kernel) (pa_cons (pv 2) pa_nil)) (pe_op op_add (pe_callB len_K (by rfl) T.z_len (by decide +kernel) (pa_cons (pv 0) pa_nil)) pe_int)))
        (pss_cons (ps_if (PW.pt (pw_or (pt_cmpR op_lt (pv 1) pe_int (nomark _)) (pw_or1 (pt_cmpR op_eq (pe_callB len_K (by rfl) T.z_len (by decide +kernel) (pa_cons (pv 0) pa_nil)) pe_int (nomark _))))) (pss_cons (ps_set (i := 6) sc_u_law_fault.nd rfl (Or.inl rfl) (pe_ix ix_lK (pe_lst (pa_cons (pe_tup (pa_cons (pv 3) (pa_cons pe_int (pa_cons pe_int pa_nil)))) (pa_cons (pe_tup (pa_cons (pe_op op_sub pe_int pe_int) (pa_cons (pe_op op_sub (pv 4) pe_int) (pa_cons pe_int pa_nil)))) (pa_cons (pe_tup (pa_cons pe_int (pa_cons (pv 4) (pa_cons pe_int pa_nil)))) (pa_cons (pe_tup (pa_cons (pe_op op_sub (pv 3) pe_int) (pa_cons (pe_op op_sub pe_int pe_int) (pa_cons pe_int pa_nil)))) pa_nil))))) (pe_op op_mod (pe_callTy call_int1 (by rfl) T.z_int (by decide +kernel) (pa_cons (pv 1) pa_nil)) pe_int) (fun _ _ => rfl)))
        (pss_one (ps_ret (pe_tup (pa_cons (pe_op op_cat (pe_op op_cat (pe_slice sl_list (pv 0) po_none (po_some (pv 5))) (pe_lst (pa_cons (pv 6) pa_nil))) (pe_slice sl_list (pv 0) (po_some (pv 5)) po_none)) (pa_cons (pe_tup (pa_cons pe_str (pa_cons (pv 5) (pa_cons pe_bl pa_nil)))) pa_nil)))))) pss_nil)
        (pss_cons (ps_set (i := 5) sc_u_law_fault.nd rfl (Or.inl rfl) (pe_op op_mod (pe_callTy call_int1 (by rfl) T.z_int (by decide +kernel) (pa_cons (pv 2) pa_nil)) (pe_callB len_K (by rfl) T.z_len (by decide +kernel) (pa_cons (pv 0) pa_nil))))
        (pss_cons (ps_asg (pe_ix ix_lK (pv 0) (pv 5) (fun _ _ => rfl)) (pg_tup rfl (pgs_cons (pg_name (i := 7) sc_u_law_fault.nd rfl (Or.inl rfl)) (pgs_cons (pg_name (i := 8) sc_u_law_fault.nd rfl (Or.inl rfl)) (pgs_cons (pg_name (i := 9) sc_u_law_fault.nd rfl (Or.inl rfl)) pgs_nil)))))
        (pss_cons (ps_if (pt_cmpR op_eq (pv 1) pe_int (nomark _)) (pss_one (ps_ret (pe_tup (pa_cons (pe_op op_cat (pe_op op_cat (pe_slice sl_list (pv 0) po_none (po_some (pv 5))) (pe_lst (pa_cons (pe_tup (pa_cons (pv 7) (pa_cons (pv 8) (pa_cons pe_int pa_nil)))) pa_nil))) (pe_slice sl_list (pv 0) (po_some (pe_op op_add (pv 5) pe_int)) po_none)) (pa_cons (pe_tup (pa_cons pe_str (pa_cons (pv 5) (pa_cons pe_bl pa_nil)))) pa_nil))))) pss_nil)
        (pss_cons (ps_if (pt_cmpR op_eq (pv 1) pe_int (nomark _)) (pss_one (ps_ret (pe_tup (pa_cons (pe_op op_cat (pe_slice sl_list (pv 0) po_none (po_some (pe_op op_add (pv 5) pe_int))) (pe_slice sl_list (pv 0) (po_some (pv 5)) po_none)) (pa_cons (pe_tup (pa_cons pe_str (pa_cons (pe_op op_add (pv 5) pe_int) (pa_cons pe_bl pa_nil)))) pa_nil))))) pss_nil)
        (pss_one (ps_ret (pe_tup (pa_cons (pe_op op_cat (pe_op op_cat (pe_slice sl_list (pv 0) po_none (po_some (pv 5))) (pe_lst (pa_cons (pe_tup (pa_cons (pv 7) (pa_cons (pv 8) (pa_cons pe_int pa_nil)))) pa_nil))) (pe_slice sl_list (pv 0) (po_some (pe_op op_add (pv 5) pe_int)) po_none)) (pa_cons (pe_tup (pa_cons pe_str (pa_cons pe_str (pa_cons pe_int (pa_cons pe_bl pa_nil))))) pa_nil))))))))))), ?_⟩
    have lenE : ∀ {σ : L2.St} {G : Hp}, σ[0]? = some (some (.ref a)) → Ex H G → Ev (tCB (rLenK K) (tCons (tVar 0) tNil)) σ G (.int (rs.length : Int)) := fun h0 e => ev_cb (ea_cons (ev_var h0) ea_nil) fun H2 e2 Q q => ⟨.ref a, rs.length, rfl, .inl ⟨_, ex_l (e.trans e2) hq.1, (List.length_map _).symm⟩, q H2 (Ex.refl H2)⟩
    obtain ⟨T', hT'⟩ : ∃ T' : List T3, rs.map (·.2) = T' := ⟨_, rfl⟩
    have Tl : T'.length = rs.length := by rw [← hT', List.length_map]
    have Tz : ∀ t ∈ T', 1 ≤ t.2.2 := fun t ht => by
      rw [← hT'] at ht
      obtain ⟨r, hr, rfl⟩ := List.mem_map.mp ht
      exact hz r hr
    rw [hT'] at hgood
    have sp : ∀ i, Good n m (-1) (-1) (T'.take i) ∧ Good n m (lastB (-1) (-1) (T'.take i)).1 (lastB (-1) (-1) (T'.take i)).2 (T'.drop i) := fun i => good_app.mp (by rw [List.take_append_drop]; exact hgood)
    have toN : ∀ (x : Int) (l : Nat), 0 < l → ∃ i : Nat, i < l ∧ x % (l : Int) = (i : Int) := fun x l hl => by
      have h1 := Int.emod_nonneg x (b := (l : Int)) (by omega)
      have h2 := Int.emod_lt_of_pos x (b := (l : Int)) (by omega)
      exact ⟨(x % (l : Int)).toNat, by omega, by omega⟩
    obtain ⟨i, hi, ei⟩ := toN pl (rs.length + 1) (by omega)
    have fin : ∀ {D : V → Hp → Prop} {te : TE} {σ : L2.St} {G : Hp} {ts : List T3} {f : FR}, Ex H G → EvR te σ G (fun v H1 => ∃ (p q : Addr) (w : V) (ss : List (Addr × T3)), v = .ref p ∧ H1 p = some (.tup [.ref q, w]) ∧ RowL K H1 q ss ∧ ss.map (·.2) = ts ∧ Dp K H1 w f.data) → ts.length ≤ 20 → triesRes n m ts = f.res → ∀ {N : L2.St → Hp → Prop}, tRet te { nx := N, rt := Q } σ G := fun {D te σ G ts f} eG he hl hr {N} => s_retR he fun v H9 e9 hv => by
      obtain ⟨p, q, w, ss, rfl, h1, h2, rfl, h4⟩ := hv
      exact k p H9 q w ss f (eG.trans e9) h1 h2 (by rwa [List.length_map] at hl) h4 hr
    try dsimp only
    refine q_asg (v := .int (i : Int)) (ev_is (ev_op (ev_int (ev_var (i := 2) rfl)) (ev_op (lenE rfl (Ex.refl _)) ev_c rv_I0) (rv_I (show (0 : Int) < (rs.length : Int) + 1 by omega))) (congrArg V.int ei)) fun H1 e1 => ?_
    try dsimp only
    refine q_when (b := decide (kd < 4) || decide ((rs.length : Int) = 0)) (et_or (et_test (ev_op (ev_var (i := 1) rfl) ev_c rv_I0)) fun _ => et_test (ev_is (ev_op (lenE rfl e1) ev_c (rv_eq rfl)) (by rw [dec_ii]))) (fun _ H2 e2 => ?_) (fun hb H2 e2 => ?_)
    · have e02 := e1.trans e2
      have outs : ∀ {x : T3}, ¬ ((0 ≤ x.1 ∧ x.1 < (m : Int)) ∧ 0 ≤ x.2.1 ∧ x.2.1 < n) → inHouse n m x.1 x.2.1 = false := fun h => decide_eq_false h
      obtain ⟨j, hj, ej⟩ := toN kd 4 (by decide)
      try dsimp only
      refine q_asgR (er_pick (K := K) (P := fun x => inHouse n m x.1 x.2.1 = false) (n := 4) (i := (j : Int)) (atp_cons (er_triE (ev_var (i := 3) rfl) ev_c ev_c) (outs (by dsimp only; omega)) (atp_cons (er_triE (ev_op ev_c ev_c rv_I0) (ev_op (ev_var (i := 4) rfl) ev_c rv_I0) ev_c) (outs (by dsimp only; omega)) (atp_cons (er_triE ev_c (ev_var (i := 4) rfl) ev_c) (outs (by dsimp only; omega)) (atp_cons (er_triE (ev_op (ev_var (i := 3) rfl) ev_c rv_I0) (ev_op ev_c ev_c rv_I0) ev_c) (outs (by dsimp only; omega)) atp_nil)))) (ev_is (ev_op (ev_int (ev_var (i := 1) rfl)) ev_c (rv_I (show (0 : Int) < 4 by decide))) (congrArg V.int ej)) (by omega) (by decide)) fun v H3 e3 hv => ?_
      obtain ⟨x, ⟨t, rfl, ht⟩, hx⟩ := hv
      have e03 := e02.trans e3
      have hq3 := hq.ex e03
      have tk := er_takeE (K := K) (k := i) (te := tVar 0) (th := tPart (tVar 5)) (σ := [some (.ref a), some (.int kd), some (.int pl), some (.int (m : Int)), some (.int n), some (.int (i : Int)), some (.ref t), none, none, none]) (ev_var (i := 0) rfl) hq3 (eo_some (ev_var (i := 5) rfl))
      have dr := er_dropE (K := K) (k := i) (te := tVar 0) (tl := tPart (tVar 5)) (σ := [some (.ref a), some (.int kd), some (.int pl), some (.int (m : Int)), some (.int n), some (.int (i : Int)), some (.ref t), none, none, none]) (ev_var (i := 0) rfl) hq3 (eo_some (ev_var (i := 5) rfl))
      rw [hT'] at tk dr
      try dsimp only
      refine fin (D := fun _ _ => True) (f := .bad i) e03 (er_pairE (er_catE (er_catE tk (er_oneE (x := x) (er_ev (ev_var (i := 6) rfl) fun G e => ⟨t, rfl, ex_t e ht⟩)) ?_) dr ?_) (ed_tup (K := K) (ds := [.str "BadSpread", .int (i : Int), .bool true]) (eds_cons (ed_str ev_c) (eds_cons (ed_int (ev_var (i := 5) rfl)) (eds_cons (ed_bl ev_c) eds_nil))) (by show 3 ≤ 1000; decide))) ?_ ?_
      · simp only [List.length_take, List.length_cons, List.length_nil]; omega
      · simp only [List.length_append, List.length_take, List.length_drop, List.length_cons, List.length_nil]; omega
      · simp only [List.length_append, List.length_take, List.length_drop, List.length_cons, List.length_nil]; omega
      · refine res_wrong ?_
        rw [List.append_assoc, firstW_pre (sp i).1, List.length_take, Nat.min_eq_left (by omega), Nat.zero_add]
        exact firstW_bad (by rw [hx]; rfl)
    rw [Bool.or_eq_false_iff, decide_eq_false_iff_not, decide_eq_false_iff_not] at hb
    have e02 := e1.trans e2
    obtain ⟨j, hj, ej⟩ := toN pl rs.length (by omega)
    try dsimp only
    refine q_asg (v := .int (j : Int)) (ev_is (ev_op (ev_int (ev_var (i := 2) rfl)) (lenE rfl e02) (rv_I (show (0 : Int) < (rs.length : Int) by omega))) (congrArg V.int ej)) fun H3 e3 => ?_
    have e03 := e02.trans e3
    have a1 : rs[j]? = some rs[j] := List.getElem?_eq_getElem hj
    have a2 : T'[j]? = some rs[j].2 := by rw [← hT', List.getElem?_map, a1]; rfl
    have m1 := hq.2 _ (List.getElem_mem hj)
    generalize rs[j] = r1 at *
    obtain ⟨t1, g, h, x⟩ := r1
    have a3 : T'.drop j = (g, h, x) :: T'.drop (j + 1) := by
      obtain ⟨hlt, he⟩ := List.getElem?_eq_some_iff.mp a2
      rw [List.drop_eq_getElem_cons hlt, he]
    have a4 : T'.take (j + 1) = T'.take j ++ [(g, h, x)] := by
      obtain ⟨hlt, he⟩ := List.getElem?_eq_some_iff.mp a2
      rw [List.take_succ_eq_append_getElem hlt, he]
    have gj := (sp j).2
    rw [a3] at gj
    try dsimp only
    refine q_unp3 (K := K) (ev_op (ev_var (i := 0) rfl) (ev_var (i := 5) rfl) (rv_ixL (K := K) (ex_l e03 hq.1) (row_at a1))) (ex_t e03 m1) fun H4 e4 => ?_
    have e04 := e03.trans e4
    have tkE : ∀ {th : TO} {k : Nat} {G : Hp}, Ex H4 G → EvO th [some (.ref a), some (.int kd), some (.int pl), some (.int (m : Int)), some (.int n), some (.int (j : Int)), none, some (.int g), some (.int h), some (.int x)] G (some (k : Int)) → EvR (tSl (rSlL K) (tVar 0) tNoPart th) [some (.ref a), some (.int kd), some (.int pl), some (.int (m : Int)), some (.int n), some (.int (j : Int)), none, some (.int g), some (.int h), some (.int x)] G (IsRowE K (T'.take k)) := fun e h => by
      rw [← hT']
      exact er_takeE (ev_var (i := 0) rfl) (hq.ex (e04.trans e)) h
    have drE : ∀ {tl : TO} {k : Nat} {G : Hp}, Ex H4 G → EvO tl [some (.ref a), some (.int kd), some (.int pl), some (.int (m : Int)), some (.int n), some (.int (j : Int)), none, some (.int g), some (.int h), some (.int x)] G (some (k : Int)) → EvR (tSl (rSlL K) (tVar 0) tl tNoPart) [some (.ref a), some (.int kd), some (.int pl), some (.int (m : Int)), some (.int n), some (.int (j : Int)), none, some (.int g), some (.int h), some (.int x)] G (IsRowE K (T'.drop k)) := fun e h => by
      rw [← hT']
      exact er_dropE (ev_var (i := 0) rfl) (hq.ex (e04.trans e)) h
    have j1 : ((j : Int) + 1) = ((j + 1 : Nat) : Int) := by omega
    try dsimp only
    refine q_when (b := decide (kd = 4)) (et_test (ev_is (ev_op (ev_var (i := 1) rfl) ev_c (rv_eq rfl)) (by rw [dec_ii]))) (fun _ H5 e5 => ?_) (fun _ H5 e5 => ?_)
    · refine fin (D := fun _ _ => True) (f := .bad j) (e04.trans e5) (er_pairE (er_catE (er_catE (tkE e5 (eo_some (ev_var (i := 5) rfl))) (er_oneE (er_triE (ev_var (i := 7) rfl) (ev_var (i := 8) rfl) ev_c)) ?_) (drE (k := j + 1) e5 (eo_some (ev_is (ev_op (ev_var (i := 5) rfl) ev_c rv_I0) (congrArg V.int j1)))) ?_) (ed_tup (K := K) (ds := [.str "BadSpread", .int (j : Int), .bool true]) (eds_cons (ed_str ev_c) (eds_cons (ed_int (ev_var (i := 5) rfl)) (eds_cons (ed_bl ev_c) eds_nil))) (by show 3 ≤ 1000; decide))) ?_ ?_
      · simp only [List.length_take, List.length_cons, List.length_nil]; omega
      · simp only [List.length_append, List.length_take, List.length_drop, List.length_cons, List.length_nil]; omega
      · simp only [List.length_append, List.length_take, List.length_drop, List.length_cons, List.length_nil]; omega
      · refine res_wrong ?_
        rw [List.append_assoc, firstW_pre (sp j).1, List.length_take, Nat.min_eq_left (by omega), Nat.zero_add]
        exact firstW_bad (by simp)
    try dsimp only
    refine q_when (b := decide (kd = 5)) (et_test (ev_is (ev_op (ev_var (i := 1) rfl) ev_c (rv_eq rfl)) (by rw [dec_ii]))) (fun _ H6 e6 => ?_) (fun _ H6 e6 => ?_)
    · have e56 := e5.trans e6
      refine fin (D := fun _ _ => True) (f := .bad (j + 1)) (e04.trans e56) (er_pairE (er_catE (tkE (k := j + 1) e56 (eo_some (ev_is (ev_op (ev_var (i := 5) rfl) ev_c rv_I0) (congrArg V.int j1)))) (drE e56 (eo_some (ev_var (i := 5) rfl))) ?_) (ed_tup (K := K) (ds := [.str "BadSpread", .int ((j + 1 : Nat) : Int), .bool true]) (eds_cons (ed_str ev_c) (eds_cons (ed_int (ev_is (ev_op (ev_var (i := 5) rfl) ev_c rv_I0) (congrArg V.int j1))) (eds_cons (ed_bl ev_c) eds_nil))) (by show 3 ≤ 1000; decide))) ?_ ?_
      · simp only [List.length_take, List.length_drop]; omega
      · simp only [List.length_append, List.length_take, List.length_drop]; omega
      · refine res_wrong ?_
        rw [firstW_pre (sp (j + 1)).1, List.length_take, Nat.min_eq_left (by omega), Nat.zero_add, a4, lastB_app, a3]
        exact firstW_bad (by
          have : lexLe g h g h = true := decide_eq_true (.inr ⟨rfl, Int.le_refl _⟩)
          simp [this])
    have e56 := e5.trans e6
    refine fin (D := fun _ _ => True) (f := .many) (e04.trans e56) (er_pairE (er_catE (er_catE (tkE e56 (eo_some (ev_var (i := 5) rfl))) (er_oneE (er_triE (ev_var (i := 7) rfl) (ev_var (i := 8) rfl) ev_c)) ?_) (drE (k := j + 1) e56 (eo_some (ev_is (ev_op (ev_var (i := 5) rfl) ev_c rv_I0) (congrArg V.int j1)))) ?_) (ed_tup (K := K) (ds := [.str "TooMany", .str "tries", .int 6, .bool true]) (eds_cons (ed_str ev_c) (eds_cons (ed_str ev_c) (eds_cons (ed_int ev_c) (eds_cons (ed_bl ev_c) eds_nil)))) (by show 4 ≤ 1000; decide))) ?_ ?_
    · simp only [List.length_take, List.length_cons, List.length_nil]; omega
    · simp only [List.length_append, List.length_take, List.length_drop, List.length_cons, List.length_nil]; omega
    · simp only [List.length_append, List.length_take, List.length_drop, List.length_cons, List.length_nil]; omega
    · have hG : Good n m (-1) (-1) ((T'.take j ++ [(g, h, 7)]) ++ T'.drop (j + 1)) := by
        rw [List.append_assoc]
        refine good_app.mpr ⟨(sp j).1, ⟨gj.1.1, by show (1 : Int) ≤ 7; decide, gj.1.2.2⟩, gj.2⟩
      unfold triesRes
      rw [good_none hG]
      have s1 := sum_nn (l := T'.take j) fun t ht => Tz t (List.mem_of_mem_take ht)
      have s2 := sum_nn (l := T'.drop (j + 1)) fun t ht => Tz t (List.mem_of_mem_drop ht)
      refine if_pos ?_
      rw [List.map_append, List.map_append, List.sum_append, List.sum_append]
      simp only [List.map_cons, List.map_nil, List.sum_cons, List.sum_nil]
      omega

theorem ev_xf {σ : L2.St} {H : Hp} {te : TE} {a C dd : Addr} {f : Str} {fs : List (Str × V)} {v : V} (h : Ev te σ H (.ref a)) (hx : H dd = some (.xd fs)) (hl : fs.lookup f = some v) : Ev (tXf a (.ref C) (some dd) C f te) σ H v := fun H1 e Q q => h H1 e _ fun H2 e2 => ⟨rfl, rfl, dd, fs, v, rfl, (e.trans e2) _ _ hx, hl, q H2 e2⟩

def spRef (K : PySem.W.Frag) (A : Ads) : Sp := fun vs H Q _ => ∃ (v h : V) (p : Addr) (n : Int) (gs : List (Str × Int)) (xss : List (List Int)) (rs : List (Addr × T3)) (f : FR), vs = [v, .ref p] ∧ WatchIs A.C_Watch v H h xss ∧ HouseIs A.C_House h H n gs ∧ gs.length ≤ 100 ∧ Shape n gs.length xss ∧ 1 ≤ n ∧ RowT K H p rs ∧ rs.length ≤ 1000 ∧ triesRes n gs.length (rs.map (·.2)) = f.res ∧ ∀ w H', Ex H H' → Dp K H' w f.data → Q w H' 
theorem ok_u_law_refused (T : Txt K mg A) : FnOk P w K mg base CX0 11 A.f_u_law_refused A.d_u_law_refused (["watch", "row"] : List Str) (spRef K A) := by
  refine T.F_u_law_refused.ok sc_u_law_refused (fun vs H Q E h => ?_) (fun cdv Ar outer s H vs Q E hr h => ?_)
  · obtain ⟨v, h, p, n, gs, xss, rs, f, rfl, _⟩ := h
    rfl
  · obtain ⟨v, h, p, n, gs, xss, rs, f, rfl, hw, hv, hl, hS, hn, hq, hrl, hf, k⟩ := h
    refine ⟨_, (pss_cons (ps_set (i := 2) sc_u_law_refused.nd rfl (Or.inl rfl) pe_non)
        (pss_cons (ps_try_mas (Wo := fun _ _ _ _ => False) rfl rfl sc_u_law_refused.nd takes0 (fun W pn xe tk _ => (pss_one (ps_set (i := 2) sc_u_law_refused.nd rfl (Or.inl rfl) (pe_tup (pa_cons pe_str (pa_cons (pe_callS (ok_loss T) (hr.mono (by omega)) rfl T.g_loss T.k_loss (b_loss T) (fun σ => passAt tk σ) (pa_cons (pv 0) (pa_cons (pv 1) pa_nil))) pa_nil)))))) (Clauses.named (i := 3) rfl rfl ⟨rfl, by decide, Or.inl T.g_BadSpread⟩ (fun a oe cls dd pn hz hf => (pss_one (ps_set (i := 2) sc_u_law_refused.nd rfl (Or.inl rfl) (pe_tup (pa_cons pe_str (pa_cons (pe_xf T.xf_BadSpread T.nf_BadSpread_index hz hf (pv 3)) (pa_cons (pe_and (pe_callB (call_isX T.ex_BadSpread hz hf) (by rfl) T.z_isinstance (by decide +kernel) (pa_cons (pv 3) (pa_cons (pe_glob (v := .ref A.C_WatchError) rfl T.g_WatchError rfl) pa_nil))) (pe_one (pe_not (pe_callB (call_isX T.ex_BadSpread hz hf) (by rfl) T.z_isinstance (by decide +kernel) (pa_cons (pv 3) (pa_cons (pe_glob (v := .ref A.C_TooMany) rfl T.g_TooMany rfl) pa_nil)))))) pa_nil))))))) (Clauses.named (i := 4) rfl rfl ⟨rfl, by decide, Or.inl T.g_TooMany⟩ (fun a oe cls dd pn hz hf => (pss_one (ps_set (i := 2) sc_u_law_refused.nd rfl (Or.inl rfl) (pe_tup (pa_cons pe_str (pa_cons (pe_xf T.xf_TooMany T.nf_TooMany_name hz hf (pv 4)) (pa_cons (pe_xf T.xf_TooMany T.nf_TooMany_most hz hf (pv 4)) (pa_cons (pe_callB (call_isX T.ex_TooMany hz hf) (by rfl) T.z_isinstance (by decide +kernel) (pa_cons (pv 4) (pa_cons (pe_glob (v := .ref A.C_WatchError) rfl T.g_WatchError rfl) pa_nil))) pa_nil)))))))) Clauses.nil)))
        (pss_one (ps_ret (pv 2))))), ?_⟩
    try dsimp only
    refine q_asg (v := .non) ev_c fun H1 e1 => ?_
    refine ⟨_, rfl, _, rfl, v, h, p, n, gs, xss, rs, rfl, hw.ex e1, hv.ex e1, hl, hS, hn, hq.ex e1, hrl, fun i hi d H' e hd => ?_, fun hi d H' e hd => ?_, fun z hz H' e => ?_⟩
    · rw [hf] at hi
      cases f with
      | many => cases hi
      | bad i' =>
      cases hi
      refine ⟨true, T.xm_BadSpread_BadSpread, fun _ a ha => ?_, fun z => Bool.noConfusion z⟩
      have rc : ∀ (c : V) (cv : Value) (b : Bool) (σ : L2.St) (G : Hp), σ[3]? = some (some (.ref a)) → Ex H' G → (∀ u, RelV c u → u = cv) → PySem.W.kitOne K (.ref A.C_BadSpread) cv = some b → Ev (tCB (rIsX K A.C_BadSpread a (.ref A.C_BadSpread) (some d)) (tCons (tVar 3) (tCons (tC c) tNil))) σ G (.bl b) := fun c cv b σ G hv eg hc hk =>
        ev_cb (ea_cons (ev_var hv) (ea_cons ev_c ea_nil)) fun H1 e1 Q q => ⟨rfl, d, _, _, _, _, rfl, e1 _ _ (eg _ _ hd), rfl, hc, hk, q H1 (Ex.refl _)⟩
      refine s_asgR (ed_tup (K := K) (ds := [.str "BadSpread", .int (i : Int), .bool true]) (eds_cons (ed_str ev_c) (eds_cons (ed_int (ev_xf (ev_var (i := 3) rfl) hd rfl)) (eds_cons (ed_bl (z := true) (ev_is (ev_andV (a := true) (b := !false) (rc (.ref A.C_WatchError) (.ref A.C_WatchError) true _ _ rfl (Ex.refl _) (fun u h => by cases h; rfl) T.kit_BadSpread_WatchError) fun _ => ev_notV (rc (.ref A.C_TooMany) (.ref A.C_TooMany) false _ _ rfl (Ex.refl _) (fun u h => by cases h; rfl) T.kit_BadSpread_TooMany)) rfl)) eds_nil))) (by show 3 ≤ 1000; decide)) fun w H5 e5 hw => ?_
      exact ⟨_, rfl, k w H5 (e1.trans (e.trans e5)) hw⟩
    · rw [hf] at hi
      cases f with
      | bad i' => cases hi
      | many =>
      refine ⟨false, T.xm_TooMany_BadSpread, fun z => Bool.noConfusion z, fun _ => ⟨true, T.xm_TooMany_TooMany, fun _ a ha => ?_, fun z => Bool.noConfusion z⟩⟩
      have rc : ∀ (c : V) (cv : Value) (b : Bool) (σ : L2.St) (G : Hp), σ[4]? = some (some (.ref a)) → Ex H' G → (∀ u, RelV c u → u = cv) → PySem.W.kitOne K (.ref A.C_TooMany) cv = some b → Ev (tCB (rIsX K A.C_TooMany a (.ref A.C_TooMany) (some d)) (tCons (tVar 4) (tCons (tC c) tNil))) σ G (.bl b) := fun c cv b σ G hv eg hc hk =>
        ev_cb (ea_cons (ev_var hv) (ea_cons ev_c ea_nil)) fun H1 e1 Q q => ⟨rfl, d, _, _, _, _, rfl, e1 _ _ (eg _ _ hd), rfl, hc, hk, q H1 (Ex.refl _)⟩
      refine s_asgR (ed_tup (K := K) (ds := [.str "TooMany", .str "tries", .int 6, .bool true]) (eds_cons (ed_str ev_c) (eds_cons (ed_str (ev_xf (ev_var (i := 4) rfl) hd rfl)) (eds_cons (ed_int (ev_xf (ev_var (i := 4) rfl) hd rfl)) (eds_cons (ed_bl (rc (.ref A.C_WatchError) (.ref A.C_WatchError) true _ _ rfl (Ex.refl _) (fun u h => by cases h; rfl) T.kit_TooMany_WatchError)) eds_nil)))) (by show 4 ≤ 1000; decide)) fun w H5 e5 hw => ?_
      exact ⟨_, rfl, k w H5 (e1.trans (e.trans e5)) hw⟩
    · rw [hf] at hz
      cases f <;> cases hz

theorem q_asgN {te : TE} {tz : TS} {D : Ends} {σ : L2.St} {H : Hp} {i : Nat} {P : V → Hp → Prop} (h : EvNew te σ H P) (k : ∀ v H1, Ex H H1 → P v H1 → tz D (σ.set i (some v)) H1) : tSeq (tAsg te (gName i)) tz D σ H := q_asgR h.er k
theorem eu_tupOf {K : PySem.W.Frag} {te : TE} {σ : L2.St} {H : Hp} {p : Addr} {xs : List V} (h : Ev te σ H (.ref p)) (hp : SqL K H p xs) : EvU (tCB (rTupOf K) (tCons te tNil)) σ H xs := fun H1 e Q q =>
  h H1 e _ fun H2 e2 => ⟨p, xs, rfl, .inl ⟨ex_l (e.trans e2) hp, fun l hl => q l _ (fresh_back e2 hl) (e2.trans (Ex.new hl)) upd_same⟩⟩
structure GoodG (gs : List (Str × Int)) (m : Nat) : Prop where
  len : gs.length = m
  nd : (gs.map (·.1)).Nodup
  all : ∀ g ∈ gs, Word g.1 ∧ 0 ≤ g.2 ∧ g.2 ≤ 60
theorem cut_from {xs : List Int} {k m : Nat} (h : k + m ≤ xs.length) : cutV (xs.map V.int) (some (k : Int)) (some ((k : Int) + (m : Int))) = ((xs.drop k).take m).map V.int := by
  unfold cutV
  rw [show (k : Int) + (m : Int) = ((k + m : Nat) : Int) by omega, HT.sIx_nat, HT.sIx_nat, List.length_map, Nat.min_eq_left h, Nat.min_eq_left (by omega), List.map_take, List.map_drop, Nat.add_sub_cancel_left]

/-- three watches, their stakes, their tables -/
def Bench (K : PySem.W.Frag) (A : Ads) (H : Hp) (n : Int) (m : Nat) (wa sa ta : Addr) : Prop := ∃ vs1 vs2 vs3 : List V, SqL K H wa vs1 ∧ SqL K H sa vs2 ∧ SqL K H ta vs3 ∧ vs1.length = 3 ∧ ∀ i, i < 3 → ∃ (v h : V) (s t : Addr) (gs : List (Str × Int)) (xss : List (List Int)), vs1[i]? = some v ∧ vs2[i]? = some (.ref s) ∧ vs3[i]? = some (.ref t) ∧
  WatchIs A.C_Watch v H h xss ∧ HouseIs A.C_House h H n gs ∧ SqL K H s ((gs.map (·.2)).map V.int) ∧ RowsL K H t xss ∧ Shape n m xss ∧ GoodG gs m
theorem Bench.ex {K : PySem.W.Frag} {A : Ads} {H H' : Hp} {n : Int} {m : Nat} {wa sa ta : Addr} (e : Ex H H') (h : Bench K A H n m wa sa ta) : Bench K A H' n m wa sa ta := by
  obtain ⟨v1, v2, v3, h1, h2, h3, h4, h5⟩ := h
  refine ⟨v1, v2, v3, ex_l e h1, ex_l e h2, ex_l e h3, h4, fun i hi => ?_⟩
  obtain ⟨v, h, s, t, gs, xss, a1, a2, a3, a4, a5, a6, a7, a8, a9⟩ := h5 i hi
  exact ⟨v, h, s, t, gs, xss, a1, a2, a3, a4.ex e, a5.ex e, ex_l e a6, a7.ex e, a8, a9⟩
theorem ev_loss {K : PySem.W.Frag} {A : Ads} {E : XK} {σ : L2.St} {H : Hp} {t1 t2 : TE} {v h : V} {n : Int} {gs : List (Str × Int)} {xss : List (List Int)} {rs : List (Addr × T3)} (h1 : Ev t1 σ H v) (h2 : EvU t2 σ H (rs.map fun r => V.ref r.1)) (hr : ∀ r ∈ rs, SqT K H r.1 (triV r.2)) (hw : WatchIs A.C_Watch v H h xss) (hv : HouseIs A.C_House h H n gs) (hl : gs.length ≤ 100) (hS : Shape n gs.length xss) (hn : 1 ≤ n) (hrl : rs.length ≤ 1000)
    (hgood : Good n gs.length (-1) (-1) (rs.map (·.2))) (hs : ((rs.map (·.2)).map (·.2.2)).sum ≤ 6) : Ev (tCall (spLoss K A) [] E (tCons t1 (tCons t2 tNil))) σ H (.int (lossZ gs xss n (rs.map (·.2)))) := fun H1 e Q q =>
  h1 H1 e _ fun H2 e2 => h2 H2 (e.trans e2) _ fun p H3 _ e3 hp => by
    have ok := good_ok hgood hs
    have ee := (e.trans e2).trans e3
    exact ⟨v, h, p, n, gs, xss, rs, rfl, hw.ex ee, hv.ex ee, hl, hS, hn, ⟨st_of hp, fun r hm => ex_t ee (hr r hm)⟩, hrl, (fun k hk => by rw [ok] at hk; cases hk), (fun hk => by rw [ok] at hk; cases hk), fun z _ H' e' => q H' ((e2.trans e3).trans e')⟩
theorem good_in {n : Int} {m : Nat} : ∀ {ts : List T3} {b c : Int}, Good n m b c ts → ∀ t ∈ ts, inHouse n m t.1 t.2.1 = true ∧ 1 ≤ t.2.2
  | t :: ts, b, c, h, u, hu => by
    rcases List.mem_cons.mp hu with rfl | hu
    · exact ⟨h.1.1, h.1.2.1⟩
    · exact good_in h.2 u hu
def spLoses (K : PySem.W.Frag) (A : Ads) : Sp := fun vs H Q _ => ∃ (wa sa ta p : Addr) (n : Int) (m : Nat) (rs : List (Addr × T3)), vs = [.ref wa, .ref sa, .ref ta, .ref p] ∧ Bench K A H n m wa sa ta ∧ RowL K H p rs ∧ rs.length ≤ 6 ∧ Good n m (-1) (-1) (rs.map (·.2)) ∧ ((rs.map (·.2)).map (·.2.2)).sum ≤ 6 ∧ 1 ≤ n ∧ m ≤ 4 ∧ ∀ H', Ex H H' → Q (.bl true) H'

theorem ok_u_law_loses (T : Txt K mg A) : FnOk P w K mg base CX0 10 A.f_u_law_loses A.d_u_law_loses (["watches", "stakes", "tables", "spread"] : List Str) (spLoses K A) := by
  refine T.F_u_law_loses.ok sc_u_law_loses (fun vs H Q E h => ?_) (fun cdv Ar outer s H vs Q E hr h => ?_)
  · obtain ⟨wa, sa, ta, p, n, m, rs, rfl, _⟩ := h
    rfl
  · obtain ⟨wa, sa, ta, p, n, m, rs, rfl, hB, hq, hql, hgood, hsum, hn, hm, k⟩ := h
    refine ⟨_, (pss_cons (ps_for PassesOwn.never rfl (pi_range1 rfl T.z_range (pa_cons (pe_callB len_K (by rfl) T.z_len (by decide +kernel) (pa_cons (pv 0) pa_nil)) pa_nil)) (pg_name (i := 4) sc_u_law_loses.nd rfl (Or.inl rfl)) (pss_one (ps_if (pt_not (pt_val (pe_call (ok_u_law_same T) (hr.mono (by omega)) rfl T.g_u_law_same T.k_u_law_same (b_u_law_same T) .nil pass0 (pa_cons (pe_call (ok_loss T) (hr.mono (by omega)) rfl T.g_loss T.k_loss (b_loss T) .nil passL (pa_cons (pe_ix ix_lK (pv 0) (pv 4) (fun _ _ => rfl)) (pa_cons (pe_callTy tup_K (by rfl) T.z_tuple (by decide +kernel) (pa_cons (pv 3) pa_nil)) pa_nil))) (pa_cons (pe_call (ok_u_law_due T) (hr.mono (by omega)) rfl T.g_u_law_due T.k_u_law_due (b_u_law_due T) .nil pass0 (pa_cons (pe_ix ix_lK (pv 1) (pv 4) (fun _ _ => rfl)) (pa_cons (pe_ix ix_lK (pv 2) (pv 4) (fun _ _ => rfl)) (pa_cons (pv 3) pa_nil)))) pa_nil))))) (pss_one (ps_ret pe_bl)) pss_nil)))
        (pss_one (ps_ret pe_bl))), ?_⟩
    obtain ⟨v1, v2, v3, h1, h2, h3, h4, h5⟩ := hB
    try dsimp only
    refine q_forR1 (j := 4) (n := 3) (ea_cons (ev_is (ev_cb (r := rLenK K) (ea_cons (ev_var (i := 0) rfl) ea_nil) fun G e Q q => ⟨.ref wa, v1.length, rfl, .inl ⟨_, ex_l e h1, rfl⟩, q G (Ex.refl G)⟩) (by rw [h4]; rfl)) ea_nil) (by decide) (fun i σ' G => ∃ v4 : Option V, σ' = [some (.ref wa), some (.ref sa), some (.ref ta), some (.ref p), v4] ∧ Ex H G) (fun H1 e1 => ⟨none, rfl, e1⟩) ?_ ?_
    · rintro i σ' G hi ⟨v4, rfl, eG⟩
      obtain ⟨v, h, s, t, gs, xss, a1, a2, a3, a4, a5, a6, a7, a8, a9⟩ := h5 i (by omega)
      have gl := a9.len
      rw [← gl] at a8 hgood hm
      try dsimp only
      exact s_when (b := false) (et_not (et_B (ev_same (d := .int (lossZ gs xss n (rs.map (·.2)))) (ed_int (ev_loss (ev_op (ev_var (i := 0) rfl) (ev_var (i := 4) rfl) (rv_ixL (K := K) (ex_l eG h1) (atI_nat a1))) (eu_tupOf (K := K) (ev_var (i := 3) rfl) (ex_l eG hq.1)) (fun r hr => ex_t eG (hq.2 r hr)) (a4.ex eG) (a5.ex eG) (by omega) a8 hn (by omega) hgood hsum)) (ed_int (ev_call (ea_cons (ev_op (ev_var (i := 1) rfl) (ev_var (i := 4) rfl) (rv_ixL (K := K) (ex_l eG h2) (atI_nat a2))) (ea_cons (ev_op (ev_var (i := 2) rfl) (ev_var (i := 4) rfl) (rv_ixL (K := K) (ex_l eG h3) (atI_nat a3))) (ea_cons (ev_var (i := 3) rfl) ea_nil))) fun H2 e2 Q q _ => ⟨s, t, p, n, gs, xss, rs, rfl, ex_l (eG.trans e2) a6, a7.ex (eG.trans e2), a8, hn, hq.ex (eG.trans e2), by omega, by omega, (fun g hg => (a9.all g hg).2), (fun r hr => (good_in hgood r.2 (List.mem_map_of_mem hr)).1), fun H' e' => q H' e'⟩)) True.intro))) (fun z => Bool.noConfusion z) fun _ G1 g1 => ⟨_, rfl, eG.trans g1⟩
    rintro σ' G ⟨v4, rfl, eG⟩
    exact s_ret ev_c fun G1 g1 => k G1 (eG.trans g1)

theorem eb_U {K : PySem.W.Frag} {te : TE} {σ : L2.St} {H : Hp} {xs : List V} (h : EvU te σ H xs) : EvB te σ H fun v G => ∃ p, v = .ref p ∧ SqT K G p xs := fun H1 e Q q => h H1 e _ fun p H2 hp e2 h2 => q _ H2 e2 fun G _ g => ⟨p, rfl, st_of (g p _ hp h2)⟩
theorem en_L' {te : TE} {σ : L2.St} {H : Hp} {xs : List V} (h : EvL te σ H xs) : EvNew te σ H fun v G => ∃ p, v = .ref p ∧ G p = some (.lst xs) := en_L h
theorem EvR.imp' {te : TE} {σ : L2.St} {H : Hp} {P P' : V → Hp → Prop} (h : EvR te σ H P) (i : ∀ v H1, Ex H H1 → P v H1 → P' v H1) : EvR te σ H P' := fun H1 a Q q => h H1 a Q fun v H2 e p => q v H2 e (i v H2 (a.trans e) p)
theorem en_gates2 {K : PySem.W.Frag} {E : XK} {σ : L2.St} {H : Hp} {t1 t2 : TE} {ns ss : List Int} {m : Nat} (h1 : EvL t1 σ H (ns.map V.int)) (h2 : EvL t2 σ H (ss.map V.int)) (hm : ns.length = m) (hl : m ≤ 7) (hs : ss.length = m) (ha : ∀ s ∈ ss, 0 ≤ s ∧ s ≤ 60) :
    EvNew (tCall (spGates K) [] E (tCons t1 (tCons t2 tNil))) σ H fun v G => ∃ p gs, v = .ref p ∧ Gates K G p gs ∧ GoodG gs m ∧ gs.map (·.2) = ss := fun H1 e Q q =>
  h1 H1 e _ fun a H2 _ e2 g2 => h2 H2 (e.trans e2) _ fun b H3 _ e3 g3 => ⟨a, b, ns, ss, rfl, sq_of (e3 _ _ g2), sq_of g3, by omega, by omega, ha, fun v H' gs e' hn h4 hd hw hst => q v H' ((e2.trans e3).trans e') fun G g => by
    obtain ⟨p, rfl, hG⟩ := hn.out (e2.trans e3) (Ex.refl _) G g
    exact ⟨p, gs, rfl, hG, ⟨h4.trans hm, hd, hw⟩, by rw [hst, hm, ← hs, List.take_length]⟩⟩
theorem en_house2 {K : PySem.W.Frag} {A : Ads} {E : XK} {σ : L2.St} {H : Hp} {t1 t2 : TE} {n : Int} {m : Nat} {st : List Int} (h1 : Ev t1 σ H (.int n)) (h2 : EvNew t2 σ H fun v G => ∃ p gs, v = .ref p ∧ Gates K G p gs ∧ GoodG gs m ∧ gs.map (·.2) = st) (hn : 1 ≤ n ∧ n ≤ 24) (hm : 1 ≤ m ∧ m ≤ 4) (hc : n * (m : Int) ≤ 48) :
    EvNew (tMake A.C_House (spHouse K A) [] E (tCons t1 (tCons t2 tNil))) σ H fun v G => ∃ gs, HouseIs A.C_House v G n gs ∧ GoodG gs m ∧ gs.map (·.2) = st := fun H1 e Q q =>
  h1 H1 e _ fun H2 e2 => h2 H2 (e.trans e2) _ fun v H3 e3 hv => by
    obtain ⟨p, gs, rfl, hG, hg, hst⟩ := hv.self
    intro x dx hx hdx hne
    have eN : Ex H3 (upd (upd H3 dx (.own x)) x (.ins A.C_House dx [])) := (Ex.new hdx).trans (Ex.new (by rw [upd_ne (Ne.symm hne)]; exact hx))
    have good := house_good hn (by rw [hg.len]; exact hm) hg.all hg.nd (by rw [hg.len]; exact hc)
    refine ⟨x, dx, p, n, gs, rfl, upd_same, hG.ex eN, by rw [hg.len]; omega, (fun g hm => by have := (hg.all g hm).1.len; omega), (fun er he => by rw [good] at he; cases he), fun _ np kp H' hk hn1 hn2 f1 f2 f3 => ⟨rfl, ?_⟩⟩
    have e' : Ex H3 H' := fun c o hc => hk c o (fun z => by rw [z, hx] at hc; cases hc) (eN c o hc)
    exact q _ H' ((e2.trans e3).trans e') fun G g => ⟨gs, ⟨x, dx, np, kp, rfl, g _ _ (fresh_back (e2.trans e3) hx) f1, g _ _ (fresh_back ((e2.trans e3).trans eN) hn1) f2, g _ _ (fresh_back ((e2.trans e3).trans eN) hn2) f3⟩, hg, hst⟩
theorem en_watch {K : PySem.W.Frag} {A : Ads} {E : XK} {σ : L2.St} {H : Hp} {t1 t2 : TE} {v : V} {n : Int} {gs : List (Str × Int)} {xss : List (List Int)} (h1 : Ev t1 σ H v) (h2 : EvR t2 σ H fun v G => ∃ p, v = .ref p ∧ RowsL K G p xss) (hv : HouseIs A.C_House v H n gs) (hl : gs.length ≤ 100) (hS : Shape n gs.length xss) :
    EvNew (tMake A.C_Watch (spWatch K A) [] E (tCons t1 (tCons t2 tNil))) σ H fun w G => WatchIs A.C_Watch w G v xss := fun H1 e Q q =>
  h1 H1 e _ fun H2 e2 => h2 H2 (e.trans e2) _ fun w H3 e3 hw => by
    obtain ⟨p, rfl, hR⟩ := hw
    intro x dx hx hdx hne
    have eN : Ex H3 (upd (upd H3 dx (.own x)) x (.ins A.C_Watch dx [])) := (Ex.new hdx).trans (Ex.new (by rw [upd_ne (Ne.symm hne)]; exact hx))
    refine ⟨x, dx, v, p, n, gs, xss, rfl, upd_same, hv.ex (((e.trans e2).trans e3).trans eN), hl, hR.ex eN, hS, fun w H' hk hU hx' => ⟨rfl, ?_⟩⟩
    have e' : Ex H3 H' := fun c o hc => hk c o (fun z => by rw [z, hx] at hc; cases hc) (eN c o hc)
    exact q _ H' ((e2.trans e3).trans e') fun G g => ⟨x, dx, w, rfl, g _ _ (fresh_back (e2.trans e3) hx) hx', hU G fun b o _ h1' h2' => g b o (fresh_back ((e2.trans e3).trans eN) h1') h2'⟩
theorem er_lst3 {t1 t2 t3 : TE} {σ : L2.St} {H : Hp} {xs ys zs : List V} (h1 : EvL t1 σ H xs) (h2 : EvL t2 σ H ys) (h3 : EvL t3 σ H zs) : EvR (tLst (tCons t1 (tCons t2 (tCons t3 tNil)))) σ H fun v H1 => ∃ p a b c, v = .ref p ∧ H1 p = some (.lst [.ref a, .ref b, .ref c]) ∧ H1 a = some (.lst xs) ∧ H1 b = some (.lst ys) ∧ H1 c = some (.lst zs) := fun H1 e Q q =>
  h1 H1 e _ fun a H2 ha e2 g2 => h2 H2 (e.trans e2) _ fun b H3 hb e3 g3 => h3 H3 ((e.trans e2).trans e3) _ fun c H4 hc e4 g4 => ⟨by show 3 ≤ sizeLine; decide, fun p hp => q _ _ (((e2.trans e3).trans e4).trans (Ex.new hp)) ⟨p, a, b, c, rfl, upd_same, (Ex.new hp) _ _ ((e3.trans e4) _ _ g2), (Ex.new hp) _ _ (e4 _ _ g3), (Ex.new hp) _ _ g4⟩⟩
theorem cut_zero {xs : List Int} {m : Nat} (h : m ≤ xs.length) : cutV (xs.map V.int) (some 0) (some (m : Int)) = (xs.take m).map V.int := by
  have := cut_from (xs := xs) (k := 0) (m := m) (by omega)
  rw [List.drop_zero] at this
  rw [← this]
  congr 2
  show (m : Int) = 0 + (m : Int)
  omega
theorem er_spread {K : PySem.W.Frag} {E : XK} {σ : L2.St} {H : Hp} {t1 t2 t3 : TE} {c n : Int} {m : Nat} (h1 : Ev t1 σ H (.int c)) (h2 : Ev t2 σ H (.int (m : Int))) (h3 : Ev t3 σ H (.int n)) (hc : 0 ≤ c) (hm : 1 ≤ m ∧ m ≤ 4) (hn : 1 ≤ n ∧ n ≤ 24) (hmn : (m : Int) * n ≤ 48) :
    EvR (tCall (spSpread K) [] E (tCons t1 (tCons t2 (tCons t3 tNil)))) σ H fun v H1 => ∃ p rs, v = .ref p ∧ RowL K H1 p rs ∧ rs.length ≤ 6 ∧ Good n m (-1) (-1) (rs.map (·.2)) ∧ ((rs.map (·.2)).map (·.2.2)).sum ≤ 6 :=
  er_call (ea_cons h1 (ea_cons h2 (ea_cons h3 ea_nil))) fun H1 e Q q => ⟨c, n, m, rfl, hc, hm, hn, hmn, fun p H' rs e' a b g s => q _ H' e' ⟨p, rs, rfl, a, b, g, s⟩⟩
theorem mem_sum : ∀ {l : List T3} {t : T3}, (∀ t ∈ l, 1 ≤ t.2.2) → t ∈ l → t.2.2 ≤ (l.map (·.2.2)).sum
  | x :: l, t, h, ht => by
    have h0 := sum_nn (l := l) fun y hy => h y (List.mem_cons_of_mem _ hy)
    have h1 := h x List.mem_cons_self
    rw [List.map_cons, List.sum_cons]
    rcases List.mem_cons.mp ht with rfl | ht
    · omega
    · have := mem_sum (fun y hy => h y (List.mem_cons_of_mem _ hy)) ht
      omega
theorem er_str {K : PySem.W.Frag} {E : XK} {σ : L2.St} {H : Hp} {t1 t2 t3 t4 t5 t6 : TE} {c d s : Int} {m n : Nat} {a : Addr} {rs : List (Addr × T3)} (h1 : Ev t1 σ H (.int c)) (h2 : Ev t2 σ H (.int d)) (h3 : Ev t3 σ H (.int s)) (h4 : Ev t4 σ H (.int (m : Int))) (h5 : Ev t5 σ H (.int (n : Int))) (h6 : Ev t6 σ H (.ref a)) (hc : 0 ≤ c) (hd : 0 ≤ d) (hs : 0 ≤ s ∧ s ≤ 1000) (hm : 1 ≤ m ∧ m ≤ 4) (hn : 1 ≤ n ∧ n ≤ 24) (hmn : m * n ≤ 48) (hr : RowL K H a rs) (hl : rs.length ≤ 6) (hi : ∀ r ∈ rs, inHouse n m r.2.1 r.2.2.1 = true ∧ 1 ≤ r.2.2.2 ∧ r.2.2.2 ≤ 6) :
    EvR (tCall (spStr K) [] E (tCons t1 (tCons t2 (tCons t3 (tCons t4 (tCons t5 (tCons t6 tNil))))))) σ H fun v H1 => ∃ p xss, v = .ref p ∧ RowsL K H1 p xss ∧ Shape n m xss :=
  er_call (ea_cons h1 (ea_cons h2 (ea_cons h3 (ea_cons h4 (ea_cons h5 (ea_cons h6 ea_nil)))))) fun H1 e Q q => ⟨c, d, s, m, n, a, rs, rfl, hc, hd, hs, hm, hn, hmn, hr.ex e, hl, hi, fun p H' xss e' a b => q _ H' e' ⟨p, xss, rfl, a, b⟩⟩
theorem ev_loses {K : PySem.W.Frag} {A : Ads} {E : XK} {σ : L2.St} {H : Hp} {t1 t2 t3 t4 : TE} {wa sa ta : Addr} {n : Int} {m : Nat} {ss : List (Addr × T3)} (h1 : Ev t1 σ H (.ref wa)) (h2 : Ev t2 σ H (.ref sa)) (h3 : Ev t3 σ H (.ref ta)) (h4 : EvR t4 σ H fun v G => ∃ p, v = .ref p ∧ RowL K G p ss) (hB : Bench K A H n m wa sa ta) (hl : ss.length ≤ 6) (hg : Good n m (-1) (-1) (ss.map (·.2))) (hs : ((ss.map (·.2)).map (·.2.2)).sum ≤ 6) (hn : 1 ≤ n) (hm : m ≤ 4) :
    Ev (tCall (spLoses K A) [] E (tCons t1 (tCons t2 (tCons t3 (tCons t4 tNil))))) σ H (.bl true) := fun H1 e Q q =>
  h1 H1 e _ fun H2 e2 => h2 H2 (e.trans e2) _ fun H3 e3 => h3 H3 ((e.trans e2).trans e3) _ fun H4 e4 => h4 H4 (((e.trans e2).trans e3).trans e4) _ fun v H5 e5 hv => by
    obtain ⟨p, rfl, hp⟩ := hv
    have ee := ((e2.trans e3).trans e4).trans e5
    exact ⟨wa, sa, ta, p, n, m, ss, rfl, hB.ex (e.trans ee), hp, hl, hg, hs, hn, hm, fun H' e' => q H' (ee.trans e')⟩
theorem q_unp2 {K : PySem.W.Frag} {te : TE} {tz : TS} {D : Ends} {σ : L2.St} {H : Hp} {i j n : Nat} {P : V → V → Hp → Prop} (h : EvR te σ H fun v G => ∃ (p : Addr) (x y : V), v = .ref p ∧ G p = some (.tup [x, y]) ∧ P x y G) (k : ∀ x y H1, Ex H H1 → P x y H1 → tz D ((σ.set i (some x)).set j (some y)) H1) (hn : n = 2 := by rfl) :
    tSeq (tAsg te (gTup K n (gCons (gName i) (gCons (gName j) gNil)))) tz D σ H := by
  subst hn
  exact h H (Ex.refl H) _ fun v H1 e hv => by
    obtain ⟨p, x, y, rfl, hp, hP⟩ := hv
    exact ⟨p, _, rfl, st_of hp, rfl, x, _, rfl, y, _, rfl, rfl, k x y H1 e hP⟩
theorem er_fault {K : PySem.W.Frag} {E : XK} {σ : L2.St} {H : Hp} {t1 t2 t3 t4 t5 : TE} {a : Addr} {kd pl n : Int} {m : Nat} {rs : List (Addr × T3)} (h1 : Ev t1 σ H (.ref a)) (h2 : Ev t2 σ H (.int kd)) (h3 : Ev t3 σ H (.int pl)) (h4 : Ev t4 σ H (.int (m : Int))) (h5 : Ev t5 σ H (.int n)) (hr : RowL K H a rs) (hl : rs.length ≤ 6) (hk : 0 ≤ kd ∧ kd ≤ 6) (hn : 1 ≤ n) (hm : 1 ≤ m) (hg : Good n m (-1) (-1) (rs.map (·.2))) (hz : ∀ r ∈ rs, 1 ≤ r.2.2.2) :
    EvR (tCall (spFault K) [] E (tCons t1 (tCons t2 (tCons t3 (tCons t4 (tCons t5 tNil)))))) σ H fun v G => ∃ (p : Addr) (x y : V), v = .ref p ∧ G p = some (.tup [x, y]) ∧ ∃ q ss f, x = .ref q ∧ RowL K G q ss ∧ ss.length ≤ 20 ∧ Dp K G y (FR.data f) ∧ triesRes n m (ss.map (·.2)) = FR.res f :=
  er_call (ea_cons h1 (ea_cons h2 (ea_cons h3 (ea_cons h4 (ea_cons h5 ea_nil))))) fun H1 e Q q => ⟨a, kd, pl, n, m, rs, rfl, hr.ex e, hl, hk, hn, hm, hg, hz, fun p H' b w ss f e' a1 a2 a3 a4 a5 => q _ H' e' ⟨p, _, _, rfl, a1, b, ss, f, rfl, a2, a3, a4, a5⟩⟩
theorem er_ref {K : PySem.W.Frag} {A : Ads} {E : XK} {σ : L2.St} {H : Hp} {t1 t2 : TE} {v h : V} {n : Int} {gs : List (Str × Int)} {xss : List (List Int)} {ss : List (Addr × T3)} {f : FR} (h1 : Ev t1 σ H v) (h2 : EvU t2 σ H (ss.map fun r => V.ref r.1)) (hr : ∀ r ∈ ss, SqT K H r.1 (triV r.2)) (hw : WatchIs A.C_Watch v H h xss) (hv : HouseIs A.C_House h H n gs) (hl : gs.length ≤ 100) (hS : Shape n gs.length xss) (hn : 1 ≤ n) (hrl : ss.length ≤ 1000) (hf : triesRes n gs.length (ss.map (·.2)) = f.res) :
    EvR (tCall (spRef K A) [] E (tCons t1 (tCons t2 tNil))) σ H fun w H1 => Dp K H1 w f.data := fun H1 e Q q =>
  h1 H1 e _ fun H2 e2 => h2 H2 (e.trans e2) _ fun p H3 _ e3 hp => by
    have ee := (e.trans e2).trans e3
    exact ⟨v, h, p, n, gs, xss, ss, f, rfl, hw.ex ee, hv.ex ee, hl, hS, hn, ⟨st_of hp, fun r hm => ex_t ee (hr r hm)⟩, hrl, hf, fun w H' e' hd => q w H' ((e2.trans e3).trans e') hd⟩
theorem flat_fr (f : FR) : Flat 4 f.data := by
  cases f with
  | bad i => exact ⟨by show 3 ≤ 40000; decide, fun d hd => by simp at hd; rcases hd with rfl | rfl | rfl <;> exact True.intro⟩
  | many => exact ⟨by show 4 ≤ 40000; decide, fun d hd => by simp at hd; rcases hd with rfl | rfl | rfl | rfl <;> exact True.intro⟩
theorem en_copyL {K : PySem.W.Frag} {te : TE} {σ : L2.St} {H : Hp} {p : Addr} {xs : List V} (h : Ev te σ H (.ref p)) (hp : SqL K H p xs) : EvNew (tCB (rListK K) (tCons te tNil)) σ H fun v G => ∃ t, v = .ref t ∧ G t = some (.lst xs) := fun H1 e Q q =>
  h H1 e _ fun H2 e2 => ⟨p, xs, rfl, .inl (ex_l (e.trans e2) hp), fun l hl => q _ _ (e2.trans (Ex.new hl)) fun G g => ⟨l, rfl, g l _ (fresh_back e2 hl) upd_same⟩⟩
theorem er_rows {K : PySem.W.Frag} {A : Ads} {E : XK} {σ : L2.St} {H : Hp} {te : TE} {v h : V} {xss : List (List Int)} (h1 : Ev te σ H v) (hw : WatchIs A.C_Watch v H h xss) (hl : xss.length ≤ 100) : EvR (tProp A.C_Watch (spRows K A) [] E te) σ H fun w H1 => Dp K H1 w (.list (xss.map fun xs => .list (xs.map .int))) := fun H1 e Q q =>
  h1 H1 e _ fun H2 e2 => by
    have w2 := hw.ex (e.trans e2)
    obtain ⟨a, dx, w, rfl, hi, _⟩ := id w2
    refine ⟨a, dx, _, rfl, hi, .ref a, h, xss, rfl, w2, hl, fun z H' e' hz => ?_⟩
    obtain ⟨p, rfl, hp⟩ := hz
    exact q _ H' (e2.trans e') (Rows.dp ⟨hp.all⟩)

def spLaw (K : PySem.W.Frag) : Sp := fun vs H Q _ => ∃ (a : Addr) (ns : List Int), vs = [.ref a] ∧ SqL K H a (ns.map V.int) ∧ ns.length ≤ 63 ∧ ∀ H', Q (.bl true) H' 
theorem ok_law (T : Txt K mg A) : FnOk P w K mg base CX0 20 A.f_law A.d_law (["script"] : List Str) (spLaw K) := by
  refine T.F_law.ok sc_law (fun vs H Q E h => ?_) (fun cdv Ar outer s H vs Q E hr h => ?_)
  · obtain ⟨a, ns, rfl, _⟩ := h
    rfl
  · obtain ⟨sa, ns, rfl, hS, hl, k⟩ := h
    refine ⟨_, (pss_cons (ps_set (i := 1) sc_law.nd rfl (Or.inl rfl) (pe_call (ok_u_law_draws T) (hr.mono (by omega)) rfl T.g_u_law_draws T.k_u_law_draws (b_u_law_draws T) .nil pass0 (pa_cons (pe_call (ok_u_law_cell T) (hr.mono (by omega)) rfl T.g_u_law_cell T.k_u_law_cell (b_u_law_cell T) .nil pass0 (pa_cons (pv 0) (pa_cons pe_int pa_nil))) (pa_cons pe_int (pa_cons (pe_lst (pa_cons pe_int (pa_cons pe_int (pa_cons pe_int (pa_cons pe_int (pa_cons pe_int (pa_cons pe_int pa_nil))))))) pa_nil)))))
        (pss_cons (ps_set (i := 2) sc_law.nd rfl (Or.inr rfl) (pe_op op_add pe_int (pe_ix ix_lK (pv 1) pe_int (fun _ _ => rfl))))
        (pss_cons (ps_set (i := 3) sc_law.nd rfl (Or.inr rfl) (pe_op op_add pe_int (pe_ix ix_lK (pv 1) pe_int (fun _ _ => rfl))))
        (pss_cons (ps_if (pt_cmpR op_eq (pe_ix ix_lK (pv 1) pe_int (fun _ _ => rfl)) pe_int (nomark _)) (pss_one (ps_set (i := 3) sc_law.nd rfl (Or.inr rfl) (pe_callB (call_min2 rfl) (by rfl) T.z_min (by decide +kernel) (pa_cons (pe_callTy call_int1 (by rfl) T.z_int (by decide +kernel) (pa_cons (pe_op op_add pe_int (pe_ix ix_lK (pv 1) pe_int (fun _ _ => rfl))) pa_nil)) (pa_cons (pe_op op_fdiv pe_int (pv 2)) pa_nil))))) pss_nil)
        (pss_cons (ps_set (i := 4) sc_law.nd rfl (Or.inr rfl) (pe_call (ok_u_law_draws T) (hr.mono (by omega)) rfl T.g_u_law_draws T.k_u_law_draws (b_u_law_draws T) .nil pass0 (pa_cons (pe_call (ok_u_law_cell T) (hr.mono (by omega)) rfl T.g_u_law_cell T.k_u_law_cell (b_u_law_cell T) .nil pass0 (pa_cons (pv 0) (pa_cons pe_int pa_nil))) (pa_cons pe_int (pa_cons (pe_op op_cat (pe_op op_rep (pe_lst (pa_cons pe_int pa_nil)) pe_int) (pe_op op_rep (pe_lst (pa_cons (pe_op op_pow pe_int pe_int) pa_nil)) pe_int)) pa_nil)))))
        (pss_cons (ps_setLc (i := 5) (own := [("at", 6)]) (g := gName 6) (tt := tYes) rfl sc_law.nd rfl rfl (sw_true rfl rfl rfl (by decide +kernel)) (pi_tup (pe_tup (pa_cons pe_int (pa_cons pe_int pa_nil)))) (blkOk_by (own := [("at", 6)]) (N := N_law) (sc := defScope s_law) (by decide +kernel)) (fun _ _ _ _ _ => (pg_name (i := 6) sc_law.nd rfl (Or.inl rfl))) (fun _ _ _ _ _ => pts_nil) (fun _ _ _ _ _ => (pe_make T.mk_House (ok_House_init T) (hr.mono (by omega)) rfl T.g_House (b_House_init T) .nil passL (pa_cons (pv 3) (pa_cons (pe_call (ok_u_law_gates T) (hr.mono (by omega)) rfl T.g_u_law_gates T.k_u_law_gates (b_u_law_gates T) .nil pass0 (pa_cons (pe_slice sl_listK (pv 4) (po_some pe_int) (po_some (pe_op op_add pe_int (pv 2)))) (pa_cons (pe_slice sl_listK (pv 4) (po_some (pv 6)) (po_some (pe_op op_add (pv 6) (pv 2)))) pa_nil))) pa_nil)))))
        (pss_cons (ps_set (i := 7) sc_law.nd rfl (Or.inl rfl) (pe_call (ok_u_law_spread T) (hr.mono (by omega)) rfl T.g_u_law_spread T.k_u_law_spread (b_u_law_spread T) .nil pass0 (pa_cons (pe_call (ok_u_law_cell T) (hr.mono (by omega)) rfl T.g_u_law_cell T.k_u_law_cell (b_u_law_cell T) .nil pass0 (pa_cons (pv 0) (pa_cons pe_int pa_nil))) (pa_cons (pv 2) (pa_cons (pv 3) pa_nil)))))
        (pss_cons (ps_set (i := 8) sc_law.nd rfl (Or.inl rfl) (pe_call (ok_u_law_strengths T) (hr.mono (by omega)) rfl T.g_u_law_strengths T.k_u_law_strengths (b_u_law_strengths T) .nil pass0 (pa_cons (pe_call (ok_u_law_cell T) (hr.mono (by omega)) rfl T.g_u_law_cell T.k_u_law_cell (b_u_law_cell T) .nil pass0 (pa_cons (pv 0) (pa_cons pe_int pa_nil))) (pa_cons (pe_call (ok_u_law_cell T) (hr.mono (by omega)) rfl T.g_u_law_cell T.k_u_law_cell (b_u_law_cell T) .nil pass0 (pa_cons (pv 0) (pa_cons pe_int pa_nil))) (pa_cons pe_int (pa_cons (pv 2) (pa_cons (pv 3) (pa_cons (pv 7) pa_nil))))))))
        (pss_cons (ps_set (i := 9) sc_law.nd rfl (Or.inl rfl) (pe_call (ok_u_law_strengths T) (hr.mono (by omega)) rfl T.g_u_law_strengths T.k_u_law_strengths (b_u_law_strengths T) .nil pass0 (pa_cons (pe_call (ok_u_law_cell T) (hr.mono (by omega)) rfl T.g_u_law_cell T.k_u_law_cell (b_u_law_cell T) .nil pass0 (pa_cons (pv 0) (pa_cons pe_int pa_nil))) (pa_cons (pe_call (ok_u_law_cell T) (hr.mono (by omega)) rfl T.g_u_law_cell T.k_u_law_cell (b_u_law_cell T) .nil pass0 (pa_cons (pv 0) (pa_cons pe_int pa_nil))) (pa_cons pe_int (pa_cons (pv 2) (pa_cons (pv 3) (pa_cons (pv 7) pa_nil))))))))
        (pss_cons (ps_set (i := 10) sc_law.nd rfl (Or.inr rfl) (pe_lst (pa_cons (pv 8) (pa_cons (pv 9) (pa_cons (pv 9) pa_nil)))))
        (pss_cons (ps_set (i := 11) sc_law.nd rfl (Or.inl rfl) (pe_lst (pa_cons (pe_slice sl_list (pv 4) (po_some pe_int) (po_some (pv 2))) (pa_cons (pe_slice sl_list (pv 4) (po_some pe_int) (po_some (pv 2))) (pa_cons (pe_slice sl_list (pv 4) (po_some pe_int) (po_some (pe_op op_add pe_int (pv 2)))) pa_nil)))))
        (pss_cons (ps_set (i := 12) sc_law.nd rfl (Or.inr rfl) (pe_lst (pa_cons (pe_ix ix_lK (pv 5) pe_int (fun _ _ => rfl)) (pa_cons (pe_ix ix_lK (pv 5) pe_int (fun _ _ => rfl)) (pa_cons (pe_ix ix_lK (pv 5) pe_int (fun _ _ => rfl)) pa_nil)))))
        (pss_cons (ps_setLc (i := 13) (own := [("k", 14)]) (g := gName 14) (tt := tYes) rfl sc_law.nd rfl rfl (sw_true rfl rfl rfl (by decide +kernel)) (pi_range1 rfl T.z_range (pa_cons pe_int pa_nil)) (blkOk_by (own := [("k", 14)]) (N := N_law) (sc := defScope s_law) (by decide +kernel)) (fun _ _ _ _ _ => (pg_name (i := 14) sc_law.nd rfl (Or.inl rfl))) (fun _ _ _ _ _ => pts_nil) (fun _ _ _ _ _ => (pe_make T.mk_Watch (ok_Watch_init T) (hr.mono (by omega)) rfl T.g_Watch (b_Watch_init T) .nil passL (pa_cons (pe_ix ix_lK (pv 12) (pv 14) (fun _ _ => rfl)) (pa_cons (pe_lc (own := [("row", 15)]) (g := gName 15) (tt := tYes) rfl sc_law.nd (pi_listK (pe_ix ix_lK (pv 10) (pv 14) (fun _ _ => rfl))) (by dsimp only [cxOf, Cx.nox, Cx.blk, compEnvC]; show BlkOk _ (relS _ (defScope s_law)) _ _; exact blkOk_by (own := [("row", 15)]) (N := N_law) (by decide +kernel)) (fun _ _ _ _ _ => (pg_name (i := 15) sc_law.nd rfl (Or.inl rfl))) (fun _ _ _ _ _ => pts_nil) (fun _ _ _ _ _ => (pe_callTy list_K (by rfl) T.z_list (by decide +kernel) (pa_cons (pv 15) pa_nil)))) pa_nil)))))
        (pss_cons (ps_if (PW.pt (pw_or (pt_not (pt_val (pe_call (ok_u_law_loses T) (hr.mono (by omega)) rfl T.g_u_law_loses T.k_u_law_loses (b_u_law_loses T) .nil pass0 (pa_cons (pv 13) (pa_cons (pv 11) (pa_cons (pv 10) (pa_cons (pv 7) pa_nil))))))) (pw_or1 (pt_not (pt_val (pe_call (ok_u_law_loses T) (hr.mono (by omega)) rfl T.g_u_law_loses T.k_u_law_loses (b_u_law_loses T) .nil pass0 (pa_cons (pv 13) (pa_cons (pv 11) (pa_cons (pv 10) (pa_cons (pe_lst pa_nil) pa_nil)))))))))) (pss_one (ps_ret pe_bl)) pss_nil)
        (pss_cons (ps_for PassesOwn.never rfl (pi_listK (pv 7)) (pg_name (i := 16) sc_law.nd rfl (Or.inl rfl)) (pss_one (ps_if (pt_not (pt_val (pe_call (ok_u_law_loses T) (hr.mono (by omega)) rfl T.g_u_law_loses T.k_u_law_loses (b_u_law_loses T) .nil pass0 (pa_cons (pv 13) (pa_cons (pv 11) (pa_cons (pv 10) (pa_cons (pe_lst (pa_cons (pv 16) pa_nil)) pa_nil))))))) (pss_one (ps_ret pe_bl)) pss_nil)))
        (pss_cons (ps_for PassesOwn.never rfl (pi_range1 rfl T.z_range (pa_cons pe_int pa_nil)) (pg_name (i := 14) sc_law.nd rfl (Or.inl rfl)) (pss_cons (ps_asg (pe_call (ok_u_law_fault T) (hr.mono (by omega)) rfl T.g_u_law_fault T.k_u_law_fault (b_u_law_fault T) .nil pass0 (pa_cons (pv 7) (pa_cons (pe_ix ix_lK (pv 1) pe_int (fun _ _ => rfl)) (pa_cons (pe_ix ix_lK (pv 1) pe_int (fun _ _ => rfl)) (pa_cons (pv 2) (pa_cons (pv 3) pa_nil)))))) (pg_tup rfl (pgs_cons (pg_name (i := 15) sc_law.nd rfl (Or.inl rfl)) (pgs_cons (pg_name (i := 17) sc_law.nd rfl (Or.inl rfl)) pgs_nil))))
        (pss_cons (ps_if (pt_not (pt_val (pe_call (ok_u_law_same T) (hr.mono (by omega)) rfl T.g_u_law_same T.k_u_law_same (b_u_law_same T) .nil pass0 (pa_cons (pe_call (ok_u_law_refused T) (hr.mono (by omega)) rfl T.g_u_law_refused T.k_u_law_refused (b_u_law_refused T) .nil pass0 (pa_cons (pe_ix ix_lK (pv 13) (pv 14) (fun _ _ => rfl)) (pa_cons (pe_callTy tup_K (by rfl) T.z_tuple (by decide +kernel) (pa_cons (pv 15) pa_nil)) pa_nil))) (pa_cons (pv 17) pa_nil))))) (pss_one (ps_ret pe_bl)) pss_nil)
        (pss_one (ps_if (pt_not (pt_val (pe_call (ok_u_law_same T) (hr.mono (by omega)) rfl T.g_u_law_same T.k_u_law_same (b_u_law_same T) .nil pass0 (pa_cons (pe_prop (pe_ix ix_lK (pv 13) (pv 14) (fun _ _ => rfl)) T.cl_Watch T.P_Watch_rows (ok_Watch_rows T) (hr.mono (by omega)) (b_Watch_rows T) .nil pass0 rfl) (pa_cons (pe_ix ix_lK (pv 10) (pv 14) (fun _ _ => rfl)) pa_nil))))) (pss_one (ps_ret pe_bl)) pss_nil)))))
        (pss_one (ps_ret (pe_call (ok_u_law_loses T) (hr.mono (by omega)) rfl T.g_u_law_loses T.k_u_law_loses (b_u_law_loses T) .nil pass0 (pa_cons (pv 13) (pa_cons (pv 11) (pa_cons (pv 10) (pa_cons (pv 7) pa_nil))))))))))))))))))))))), ?_⟩
    try dsimp only
    refine q_asgR (er_draws (K := K) (ms := [4, 6, 8, 24, 7, 7]) (ev_cell (k := 0) (ev_var rfl) ev_c hS) ev_c (el_lst (by repeat' first | exact ev_c | exact ev_var rfl | exact ea_nil | apply ea_cons | apply ev_int | apply ev_op | apply ev_un | exact ru_neg | exact rv_I0 | exact rv_eq rfl | exact rv_ne rfl | exact rv_I (by decide) | exact rv_I (.inl ⟨by decide, by decide⟩) | exact rv_I (.inr ⟨by decide, by decide⟩) | exact rv_I (by omega) | exact rv_I (.inl ⟨by omega, by omega⟩) | exact rv_I (.inr ⟨by omega, by omega⟩)) (by decide)) (cellA_nn _ _) (by decide) (by decide) (by decide +kernel)) fun v H1 e1 hp => ?_
    obtain ⟨dp, ds, rfl, hd, hD⟩ := hp
    have dl : ds.length = 6 := hD.1
    have d0 : 0 ≤ ds.getD 0 0 ∧ ds.getD 0 0 < 4 := drawn_at hD rfl
    have d1 : 0 ≤ ds.getD 1 0 ∧ ds.getD 1 0 < 6 := drawn_at hD rfl
    have d3 : 0 ≤ ds.getD 3 0 ∧ ds.getD 3 0 < 24 := drawn_at hD rfl
    have d4 : 0 ≤ ds.getD 4 0 ∧ ds.getD 4 0 < 7 := drawn_at hD rfl
    have dE : ∀ {σ : L2.St} {G : Hp} {te : TE} {i : Int}, σ[1]? = some (some (.ref dp)) → Ex H1 G → Ev te σ G (.int i) → 0 ≤ i → i < 6 → Ev (tOp (rIxL K) (tVar 1) te) σ G (.int (ds.getD i.toNat 0)) := fun h e he h0 h1 => ev_op (ev_var h) he (rv_ixL (K := K) (sq_of (e _ _ hd)) (atI_ints h0 (by rw [dl]; omega)))
    obtain ⟨m, hm⟩ : ∃ g : Nat, 1 + ds.getD 0 0 = (g : Int) := ⟨(1 + ds.getD 0 0).toNat, by omega⟩
    try dsimp only
    refine q_asg (v := .int (m : Int)) (ev_is (ev_op ev_c (dE rfl (Ex.refl _) ev_c (by decide) (by decide)) rv_I0) (congrArg V.int hm)) fun H2 e2 => ?_
    try dsimp only
    refine q_asg (v := .int (1 + ds.getD 1 0)) (ev_op ev_c (dE rfl e2 ev_c (by decide) (by decide)) rv_I0) fun H3 e3 => ?_
    have e13 := e2.trans e3
    have e13a := e13
    try dsimp only
    refine q_ifAsg (i := 3) (b := decide (ds.getD 2 0 = 7)) (v := .int (if ds.getD 2 0 = 7 then (if 48 / (m : Int) < 1 + ds.getD 3 0 then 48 / (m : Int) else 1 + ds.getD 3 0) else 1 + ds.getD 1 0)) (et_test (ev_is (ev_op (dE rfl e13 ev_c (by decide) (by decide)) ev_c (rv_eq rfl)) (by rw [dec_ii]; rfl))) (fun hb => by
      rw [if_pos (of_decide_eq_true hb)]
      exact ev_cb (ea_cons (ev_int (ev_op ev_c (dE rfl e13 ev_c (by decide) (by decide)) rv_I0)) (ea_cons (ev_op ev_c (ev_var (i := 2) rfl) (rv_I (show CDiv 48 (m : Int) from ⟨by omega, by omega⟩))) ea_nil)) fun G e Q q => ⟨_, _, rfl, q G (Ex.refl G)⟩) (fun hb => by rw [if_neg (of_decide_eq_false hb)]; rfl) fun H4 e4 => ?_
    obtain ⟨z, hz, hz1, hz2⟩ : ∃ z : Int, (if ds.getD 2 0 = 7 then (if 48 / (m : Int) < 1 + ds.getD 3 0 then 48 / (m : Int) else 1 + ds.getD 3 0) else 1 + ds.getD 1 0) = z ∧ (1 ≤ z ∧ z ≤ 24) ∧ (m : Int) * z ≤ 48 := by
      refine ⟨_, rfl, ?_⟩
      have hmc : (m : Int) = 1 ∨ (m : Int) = 2 ∨ (m : Int) = 3 ∨ (m : Int) = 4 := by omega
      generalize (m : Int) = a at *
      generalize ds.getD 1 0 = b at *
      generalize ds.getD 3 0 = c at *
      rcases hmc with rfl | rfl | rfl | rfl
      all_goals (split; · (split <;> omega)); omega
    obtain ⟨nn, rfl⟩ := Int.eq_ofNat_of_zero_le (show 0 ≤ z by omega)
    rw [hz]
    have hmb : 1 ≤ m ∧ m ≤ 4 := by omega
    have hnb : 1 ≤ nn ∧ nn ≤ 24 := by omega
    have E4 := (e1.trans e13).trans e4
    try dsimp only
    refine q_asgR (er_draws (K := K) (ms := List.replicate 8 61 ++ List.replicate 4 (10 ^ 6)) (ev_cell (k := 1) (ev_var rfl) ev_c (ex_l E4 hS)) ev_c (el_is (el_cat (el_rep (z := 61) (k := 8) ev_c ev_c (by decide)) (el_rep (z := 10 ^ 6) (k := 4) (ev_is (ev_op ev_c ev_c (rv_I (show CPow 10 6 from ⟨by decide, by decide, by decide⟩))) rfl) ev_c (by decide)) (by simp)) (by simp [List.map_append])) (cellA_nn _ _) (by decide) (by decide) (by decide +kernel)) fun v H5 e5 hp => ?_
    obtain ⟨mp, ms, rfl, hms, hM⟩ := hp
    have ml : ms.length = 12 := hM.1
    have mst : ∀ i, i < 8 → 0 ≤ ms.getD i 0 ∧ ms.getD i 0 < 61 := fun i hi => by
      have : i = 0 ∨ i = 1 ∨ i = 2 ∨ i = 3 ∨ i = 4 ∨ i = 5 ∨ i = 6 ∨ i = 7 := by omega
      rcases this with rfl | rfl | rfl | rfl | rfl | rfl | rfl | rfl <;> exact drawn_at hM rfl
    have E5 := E4.trans e5
    try dsimp only
    refine q_asgN (en_lc (fun i v G => ∃ gs, HouseIs A.C_House v G (nn : Int) gs ∧ GoodG gs m ∧ gs.map (·.2) = (ms.drop (4 * i)).take m) (ei_tup (K := K) (eb_U (eu_tup (vs := [.int 0, .int 4]) (ea_cons ev_c (ea_cons ev_c ea_nil)) (by show 2 ≤ 100000; decide)))) (by show 2 ≤ 40000; decide) bd_at (fun i _ => rfl) (fun i H6 hi e6 => ?_)) fun v H6 e6 hv => ?_
    · have hi : i < 2 := hi
      have xi : ([V.int 0, V.int 4] : List V)[i]? = some (.int ((4 * i : Nat) : Int)) := by
        have : i = 0 ∨ i = 1 := by omega
        rcases this with rfl | rfl <;> rfl
      rw [xi]
      have hc : (nn : Int) * (m : Int) ≤ 48 := by rw [Int.mul_comm]; exact hz2
      refine en_house2 (K := K) (A := A) (ev_var (i := 3) rfl) (en_gates2 (K := K) (m := m) (ns := (ms.drop 8).take m) (ss := (ms.drop (4 * i)).take m) (el_is (el_sl (ev_var (i := 4) rfl) (eo_some ev_c) (eo_some (ev_op ev_c (ev_var (i := 2) rfl) rv_I0)) (sq_of (e6 _ _ hms))) (cut_from (k := 8) (by omega))) (el_is (el_sl (ev_var (i := 4) rfl) (eo_some (ev_var (i := 6) rfl)) (eo_some (ev_op (ev_var (i := 6) rfl) (ev_var (i := 2) rfl) rv_I0)) (sq_of (e6 _ _ hms))) (cut_from (k := 4 * i) (by omega))) (by rw [List.length_take, List.length_drop]; omega) (by omega) (by rw [List.length_take, List.length_drop]; omega) (fun x hx => ?_)) (by omega) (by omega) hc
      obtain ⟨j, hj, rfl⟩ := List.getElem_of_mem hx
      rw [List.length_take, List.length_drop] at hj
      have := mst (4 * i + j) (by omega)
      rw [List.getD_eq_getElem?_getD, List.getElem?_eq_getElem (by omega)] at this
      rw [List.getElem_take, List.getElem_drop]
      have e : (some ms[4 * i + j]).getD 0 = ms[4 * i + j] := rfl
      omega
    obtain ⟨hp, ys, rfl, hhv, hhl, hha⟩ := hv
    have hhl : ys.length = 2 := hhl
    obtain ⟨y0, y1, rfl⟩ : ∃ x y, ys = [x, y] := by
      match ys, hhl with
      | [x, y], _ => exact ⟨x, y, rfl⟩
    obtain ⟨gs0, Y0, good0, st0⟩ := hha 0 _ rfl
    obtain ⟨gs1, Y1, good1, st1⟩ := hha 1 _ rfl
    have E6 := E5.trans e6
    try dsimp only
    refine q_asgR (er_spread (K := K) (ev_cell (k := 2) (ev_var rfl) ev_c (ex_l E6 hS)) (ev_var (i := 2) rfl) (ev_var (i := 3) rfl) (cellA_nn _ _) hmb hz1 hz2) fun v H7 e7 hv => ?_
    obtain ⟨rp, rs, rfl, hr, hrl, hgood, hsum⟩ := hv
    have hin : ∀ r ∈ rs, inHouse (nn : Int) m r.2.1 r.2.2.1 = true ∧ 1 ≤ r.2.2.2 ∧ r.2.2.2 ≤ 6 := fun r hm' => by
      have h1 := good_in hgood r.2 (List.mem_map_of_mem hm')
      have h2 := mem_sum (fun t ht => (good_in hgood t ht).2) (List.mem_map_of_mem (f := (·.2)) hm')
      exact ⟨h1.1, h1.2, by omega⟩
    have E7 := E6.trans e7
    have hmn : m * nn ≤ 48 := by
      have : ((m * nn : Nat) : Int) ≤ 48 := by rw [Int.natCast_mul]; exact hz2
      omega
    try dsimp only
    refine q_asgR (er_str (K := K) (ev_cell (k := 3) (ev_var rfl) ev_c (ex_l E7 hS)) (ev_cell (k := 4) (ev_var rfl) ev_c (ex_l E7 hS)) ev_c (ev_var (i := 2) rfl) (ev_var (i := 3) rfl) (ev_var (i := 7) rfl) (cellA_nn _ _) (cellA_nn _ _) (by decide) hmb hnb hmn hr hrl hin) fun v H8 e8 hv => ?_
    obtain ⟨op, xs1, rfl, hx1, hS1⟩ := hv
    have E8 := E7.trans e8
    try dsimp only
    refine q_asgR (er_str (K := K) (ev_cell (k := 5) (ev_var rfl) ev_c (ex_l E8 hS)) (ev_cell (k := 6) (ev_var rfl) ev_c (ex_l E8 hS)) ev_c (ev_var (i := 2) rfl) (ev_var (i := 3) rfl) (ev_var (i := 7) rfl) (cellA_nn _ _) (cellA_nn _ _) (by decide) hmb hnb hmn (hr.ex e8) hrl hin) fun v H9 e9 hv => ?_
    obtain ⟨tp, xs2, rfl, hx2, hS2⟩ := hv
    try dsimp only
    refine q_asgL (xs := [.ref op, .ref tp, .ref tp]) (el_lst (ea_cons (ev_var (i := 8) rfl) (ea_cons (ev_var (i := 9) rfl) (ea_cons (ev_var (i := 9) rfl) ea_nil))) (by show 3 ≤ 100000; decide)) fun tabp H10 _ e10 h10 => ?_
    have e6A := ((e6.trans e7).trans e8).trans (e9.trans e10)
    try dsimp only
    refine q_asgR (er_lst3 (xs := (ms.take m).map V.int) (ys := (ms.take m).map V.int) (zs := ((ms.drop 4).take m).map V.int) (el_is (el_sl (ev_var (i := 4) rfl) (eo_some ev_c) (eo_some (ev_var (i := 2) rfl)) (sq_of (e6A _ _ hms))) (cut_zero (by omega))) (el_is (el_sl (ev_var (i := 4) rfl) (eo_some ev_c) (eo_some (ev_var (i := 2) rfl)) (sq_of (e6A _ _ hms))) (cut_zero (by omega))) (el_is (el_sl (ev_var (i := 4) rfl) (eo_some ev_c) (eo_some (ev_op ev_c (ev_var (i := 2) rfl) rv_I0)) (sq_of (e6A _ _ hms))) (cut_from (k := 4) (by omega)))) fun v H11 e11 hv => ?_
    obtain ⟨stp, s0, s1, s2, rfl, q0, q1, q2, q3⟩ := hv
    have e611 := ((e7.trans e8).trans (e9.trans e10)).trans e11
    have hE : ∀ {σ : L2.St} {G : Hp} {i : Nat} {y : V}, [y0, y1][i]? = some y → σ[5]? = some (some (.ref hp)) → Ex H6 G → Ev (tOp (rIxL K) (tVar 5) (tC (.int (i : Int)))) σ G y := fun hi h e => ev_op (ev_var h) ev_c (rv_ixL (K := K) (sq_of (e _ _ hhv)) (atI_nat hi))
    try dsimp only
    refine q_asgL (xs := [y0, y0, y1]) (el_lst (ea_cons (hE (i := 0) rfl rfl e611) (ea_cons (hE (i := 0) rfl rfl e611) (ea_cons (hE (i := 1) rfl rfl e611) ea_nil))) (by show 3 ≤ 100000; decide)) fun owp H12 _ e12 h12 => ?_
    have e612 := e611.trans e12
    have e1012 := e11.trans e12
    let ow : Nat → V := fun i => if i < 2 then y0 else y1
    let og : Nat → List (Str × Int) := fun i => if i < 2 then gs0 else gs1
    let ox : Nat → List (List Int) := fun i => if i = 0 then xs1 else xs2
    let oa : Nat → Addr := fun i => if i = 0 then op else tp
    have i3 : ∀ {i : Nat}, i < 3 → i = 0 ∨ i = 1 ∨ i = 2 := fun h => by omega
    have owS : ∀ i, i < 3 → HouseIs A.C_House (ow i) H12 (nn : Int) (og i) ∧ GoodG (og i) m := fun i hi => by
      rcases i3 hi with rfl | rfl | rfl
      · exact ⟨Y0.ex e612, good0⟩
      · exact ⟨Y0.ex e612, good0⟩
      · exact ⟨Y1.ex e612, good1⟩
    have oxS : ∀ i, i < 3 → RowsL K H12 (oa i) (ox i) ∧ Shape (nn : Int) m (ox i) := fun i hi => by
      rcases i3 hi with rfl | rfl | rfl
      · exact ⟨hx1.ex (e9.trans (e10.trans e1012)), hS1⟩
      · exact ⟨hx2.ex (e10.trans e1012), hS2⟩
      · exact ⟨hx2.ex (e10.trans e1012), hS2⟩
    have owI : ∀ i, i < 3 → [y0, y0, y1][i]? = some (ow i) := fun i hi => by rcases i3 hi with rfl | rfl | rfl <;> rfl
    have oaI : ∀ i, i < 3 → ([.ref op, .ref tp, .ref tp] : List V)[i]? = some (.ref (oa i)) := fun i hi => by rcases i3 hi with rfl | rfl | rfl <;> rfl
    try dsimp only
    refine q_asgN (en_lc (n := 3) (fun i v G => WatchIs A.C_Watch v G (ow i) (ox i)) (ei_rng1 (n := 3) (ea_cons ev_c ea_nil) (by decide)) (by decide) bd_fn (fun i _ => rfl) (fun i H13 hi e13 => ?_)) fun v H13 e13 hv => ?_
    · obtain ⟨o1, o2⟩ := owS i hi
      obtain ⟨x1, x2⟩ := oxS i hi
      have gl := o2.len
      obtain ⟨us, hus, hul, hua⟩ := (x1.ex e13).all
      have lenS := x2.len
      have lc := en_lc (wi := iList K (tOp (rIxL K) (tVar 10) (tVar 14))) (g := gName 15) (te := tCB (rListK K) (tCons (tVar 15) tNil)) (vs := [15]) (H := H13) (n := us.length) (σ := [some (.ref sa), some (.ref dp), some (.int (m : Int)), some (.int (nn : Int)), some (.ref mp), some (.ref hp), none, some (.ref rp), some (.ref op), some (.ref tp), some (.ref tabp), some (.ref stp), some (.ref owp), none, some (.int (i : Int)), none, none, none]) (τ := fun j => [some (.ref sa), some (.ref dp), some (.int (m : Int)), some (.int (nn : Int)), some (.ref mp), some (.ref hp), none, some (.ref rp), some (.ref op), some (.ref tp), some (.ref tabp), some (.ref stp), some (.ref owp), none, some (.int (i : Int)), us[j]?, none, none]) (fun j w G => ∃ t, w = .ref t ∧ G t = some (.lst (((ox i).getD j []).map V.int))) (ei_list (K := K) (eb_ev (ev_op (ev_var (i := 10) rfl) (ev_var (i := 14) rfl) (rv_ixL (K := K) (sq_of ((e1012.trans e13) _ _ h10)) (atI_nat (oaI i hi)))) fun G e => ⟨oa i, rfl, ex_l e hus⟩)) (by rw [hul, lenS]; omega) bd_at (fun j _ => rfl) (fun j H14 hj e14 => by
        have e : us[j]? = some us[j] := List.getElem?_eq_getElem hj
        obtain ⟨t, ht, hT⟩ := hua j _ e
        try dsimp only
        rw [e, ht]
        exact en_copyL (ev_var (i := 15) rfl) (ex_l e14 hT))
      have cp := lc.er.imp fun w G hw => (show ∃ p, w = .ref p ∧ RowsL K G p (ox i) by
        obtain ⟨q, ws, rfl, g1, g2, g3⟩ := hw
        exact ⟨q, rfl, ws, sq_of g1, by rw [g2, hul], fun i v hv => (g3 i v hv).imp fun t ht => ⟨ht.1, sq_of ht.2⟩⟩)
      exact en_watch (K := K) (A := A) (ev_op (ev_var (i := 12) rfl) (ev_var (i := 14) rfl) (rv_ixL (K := K) (sq_of (e13 _ _ h12)) (atI_nat (owI i hi)))) cp (o1.ex e13) (by omega) (by rw [gl]; exact x2)
    obtain ⟨wp, ws, rfl, hwv, hwl, hwa⟩ := hv
    have hwl : ws.length = 3 := hwl
    have e1013 := e1012.trans e13
    have hB : Bench K A H13 (nn : Int) m wp stp tabp := by
      refine ⟨ws, _, _, sq_of hwv, sq_of ((e12.trans e13) _ _ q0), sq_of (e1013 _ _ h10), hwl, fun i hi => ?_⟩
      have ew : ws[i]? = some ws[i] := List.getElem?_eq_getElem (by omega)
      obtain ⟨o1, o2⟩ := owS i hi
      obtain ⟨x1, x2⟩ := oxS i hi
      have e1113 := e12.trans e13
      have : ∃ s, ([.ref s0, .ref s1, .ref s2] : List V)[i]? = some (.ref s) ∧ SqL K H13 s (((og i).map (·.2)).map V.int) := by
        rcases i3 hi with rfl | rfl | rfl
        · exact ⟨s0, rfl, sq_of (by rw [show (og 0).map (·.2) = ms.take m from st0]; exact e1113 _ _ q1)⟩
        · exact ⟨s1, rfl, sq_of (by rw [show (og 1).map (·.2) = ms.take m from st0]; exact e1113 _ _ q2)⟩
        · exact ⟨s2, rfl, sq_of (by rw [show (og 2).map (·.2) = (ms.drop 4).take m from st1]; exact e1113 _ _ q3)⟩
      obtain ⟨s, t1, t2⟩ := this
      exact ⟨_, ow i, s, oa i, og i, ox i, ew, t1, oaI i hi, hwa i _ ew, o1.ex e13, t2, x1.ex e13, x2, o2⟩
    have hr13 := hr.ex ((e8.trans (e9.trans e10)).trans e1013)
    have hd13 : Ex H1 H13 := ((e13a.trans e4).trans (e5.trans e6)).trans ((e7.trans e8).trans ((e9.trans e10).trans e1013))
    have losE : ∀ {σ : L2.St} {G : Hp} {t4 : TE} {ss : List (Addr × T3)}, Ex H13 G → σ[13]? = some (some (.ref wp)) → σ[11]? = some (some (.ref stp)) → σ[10]? = some (some (.ref tabp)) → EvR t4 σ G (fun v G' => ∃ p, v = .ref p ∧ RowL K G' p ss) → ss.length ≤ 6 → Good (nn : Int) m (-1) (-1) (ss.map (·.2)) → ((ss.map (·.2)).map (·.2.2)).sum ≤ 6 → Ev (tCall (spLoses K A) [] E0 (tCons (tVar 13) (tCons (tVar 11) (tCons (tVar 10) (tCons t4 tNil))))) σ G (.bl true) := fun e h13 h11 h10 h4 hl hg hs =>
      ev_loses (ev_var h13) (ev_var h11) (ev_var h10) h4 (hB.ex e) hl hg hs (by omega) (by omega)
    try dsimp only
    refine q_skip (et_orF (et_notT (et_B (losE (ss := rs) (Ex.refl _) rfl rfl rfl (er_ev (ev_var (i := 7) rfl) fun G e => ⟨rp, rfl, hr13.ex e⟩) hrl hgood hsum))) (et_notT (et_B (losE (ss := []) (Ex.refl _) rfl rfl rfl ((er_L (el_lst ea_nil (by decide))).imp fun v G ⟨p, h1, h2⟩ => ⟨p, h1, sq_of h2, fun r hr => by cases hr⟩) (by decide) True.intro (by decide))))) fun H14 e14 => ?_
    try dsimp only
    refine q_forLn (K := K) (a := rp) (xs := rs.map fun r => V.ref r.1) (j := 16) (ev_var (i := 7) rfl) (ex_l e14 hr13.1) (fun i σ' G => ∃ v16 : Option V, σ' = [some (.ref sa), some (.ref dp), some (.int (m : Int)), some (.int (nn : Int)), some (.ref mp), some (.ref hp), none, some (.ref rp), some (.ref op), some (.ref tp), some (.ref tabp), some (.ref stp), some (.ref owp), some (.ref wp), none, none, v16, none] ∧ Ex H13 G) (fun H15 e15 => ⟨_, rfl, e14.trans e15⟩) (fun i σ' G _ ⟨_, _, e⟩ => ex_l e hr13.1) ?_ ?_
    · rintro i y σ' G hy ⟨v16, rfl, eG⟩
      rw [List.getElem?_map] at hy
      cases er : rs[i]? with
      | none => rw [er] at hy; cases hy
      | some r =>
      rw [er] at hy
      cases hy
      have hm' := List.mem_of_getElem? er
      have hi := hin r hm'
      have hi1 : (0 ≤ r.2.1 ∧ r.2.1 < (m : Int)) ∧ 0 ≤ r.2.2.1 ∧ r.2.2.1 < (nn : Int) := of_decide_eq_true hi.1
      try dsimp only
      exact s_when (b := false) (et_not (et_B (losE (ss := [r]) eG rfl rfl rfl ((er_L (el_lst (ea_cons (ev_var (i := 16) rfl) ea_nil) (by show 1 ≤ 100000; decide))).imp' fun v G' e' ⟨p, h1, h2⟩ => ⟨p, h1, sq_of h2, fun x hx => by rw [List.mem_singleton.mp hx]; exact ex_t (eG.trans e') (hr13.2 r hm')⟩) (by show 1 ≤ 6; decide) ⟨⟨hi.1, hi.2.1, decide_eq_false (by show ¬ (r.2.1 < -1 ∨ r.2.1 = -1 ∧ r.2.2.1 ≤ -1); omega)⟩, True.intro⟩ (by simp; omega)))) (fun z => Bool.noConfusion z) fun _ G1 g1 => ⟨_, rfl, eG.trans g1⟩
    rintro σ' G ⟨v16, rfl, eG⟩
    try dsimp only
    refine q_forR1 (j := 14) (n := 3) (ea_cons ev_c ea_nil) (by decide) (fun i σ' G' => ∃ v14 v15 v17 : Option V, σ' = [some (.ref sa), some (.ref dp), some (.int (m : Int)), some (.int (nn : Int)), some (.ref mp), some (.ref hp), none, some (.ref rp), some (.ref op), some (.ref tp), some (.ref tabp), some (.ref stp), some (.ref owp), some (.ref wp), v14, v15, v16, v17] ∧ Ex H13 G') (fun H15 e15 => ⟨_, _, _, rfl, eG.trans e15⟩) ?_ ?_
    · rintro i σ' G hi ⟨v14, v15, v17, rfl, eG⟩
      have hi : i < 3 := by omega
      try dsimp only
      refine q_unp2 (P := fun x y G' => ∃ q ss f, x = .ref q ∧ RowL K G' q ss ∧ ss.length ≤ 20 ∧ Dp K G' y (FR.data f) ∧ triesRes (nn : Int) m (ss.map (·.2)) = FR.res f) (er_fault (K := K) (ev_var (i := 7) rfl) (dE rfl (hd13.trans eG) ev_c (by decide) (by decide)) (dE rfl (hd13.trans eG) ev_c (by decide) (by decide)) (ev_var (i := 2) rfl) (ev_var (i := 3) rfl) (hr13.ex eG) hrl ⟨d4.1, by have d4' : ds.getD (4 : Int).toNat 0 < 7 := d4.2; omega⟩ (by omega) hmb.1 hgood fun r hr => (hin r hr).2.1) fun x y G1 g1 hxy => ?_
      obtain ⟨q, ss, f, rfl, hs1, hs2, hs3, hs4⟩ := hxy
      have ew : ws[i]? = some ws[i] := List.getElem?_eq_getElem (by omega)
      obtain ⟨o1, o2⟩ := owS i hi
      obtain ⟨x1, x2⟩ := oxS i hi
      have W := hwa i _ ew
      have gl := o2.len
      have lenS := x2.len
      have x2' : Shape (nn : Int) (og i).length (ox i) := by rw [gl]; exact x2
      have e1G := eG.trans g1
      have wE : ∀ {σ : L2.St} {G : Hp}, σ[13]? = some (some (.ref wp)) → σ[14]? = some (some (.int (i : Int))) → Ex H13 G → Ev (tOp (rIxL K) (tVar 13) (tVar 14)) σ G ws[i] := fun h1 h2 e => ev_op (ev_var h1) (ev_var h2) (rv_ixL (K := K) (sq_of (e _ _ hwv)) (atI_nat ew))
      have fr : triesRes (nn : Int) (og i).length (ss.map (·.2)) = f.res := by rw [gl]; exact hs4
      try dsimp only
      refine q_skip (et_notT (et_B (ev_same (d := f.data) (er_ref (wE rfl rfl e1G) (eu_tupOf (K := K) (ev_var (i := 15) rfl) hs1.1) hs1.2 (W.ex e1G) (o1.ex (e13.trans e1G)) (by omega) x2' (by omega) (by omega) fr) (er_ev (ev_var (i := 17) rfl) fun G e => dp_ex e hs3) (flat_fr f)))) fun G2 g2 => ?_
      have e2G := e1G.trans g2
      try dsimp only
      refine s_when (b := false) (et_not (et_B (ev_same (d := .list ((ox i).map fun xs => .list (xs.map .int))) (er_rows (wE rfl rfl e2G) (W.ex e2G) (by omega)) (er_ev (ev_op (ev_var (i := 10) rfl) (ev_var (i := 14) rfl) (rv_ixL (K := K) (sq_of ((e1013.trans e2G) _ _ h10)) (atI_nat (oaI i hi)))) fun G e => Rows.dp ⟨(x1.ex ((e13.trans e2G).trans e)).all⟩) (flat_rows (by omega) fun xs hx => by have := x2.row xs hx; omega)))) (fun z => Bool.noConfusion z) fun _ G3 g3 => ⟨_, _, _, rfl, e2G.trans g3⟩
    rintro σ' G' ⟨v14, v15, v17, rfl, eG'⟩
    exact s_ret (losE (ss := rs) eG' rfl rfl rfl (er_ev (ev_var (i := 7) rfl) fun G e => ⟨rp, rfl, hr13.ex (eG'.trans e)⟩) hrl hgood hsum) fun G1 _ => k G1
theorem all_mk {l : PySem.W.OpenLaw} {w : World} {K : PySem.W.Frag} {h : Heap} {mg : Str → Option Value} {fa : Addr} (X : K.In h) (G : h.Ns mainGlobals mg) (hfa : mg "law" = some (.ref fa))
    {od0 an0 : Option Addr} {sl0 : Array (Option Value)} {oc0 kV0 dc0 pm0 cd0 ct0 : Value} {f0 : Addr}
    {od1 an1 : Option Addr} {sl1 : Array (Option Value)} {oc1 kV1 dc1 pm1 cd1 ct1 : Value} {f1 : Addr}
    {od2 an2 : Option Addr} {sl2 : Array (Option Value)} {oc2 kV2 dc2 pm2 cd2 ct2 : Value} {f2 : Addr}
    {od3 an3 : Option Addr} {sl3 : Array (Option Value)} {oc3 kV3 dc3 pm3 cd3 ct3 : Value} {f3 : Addr}
    {od4 an4 : Option Addr} {sl4 : Array (Option Value)} {oc4 kV4 dc4 pm4 cd4 ct4 : Value} {f4 : Addr}
    {od5 an5 : Option Addr} {sl5 : Array (Option Value)} {oc5 kV5 dc5 pm5 cd5 ct5 : Value} {f5 : Addr}
    {od6 an6 : Option Addr} {sl6 : Array (Option Value)} {oc6 kV6 dc6 pm6 cd6 ct6 : Value} {f6 : Addr}
    {od7 an7 : Option Addr} {sl7 : Array (Option Value)} {oc7 kV7 dc7 pm7 cd7 ct7 : Value} {f7 : Addr}
    {od8 an8 : Option Addr} {sl8 : Array (Option Value)} {oc8 kV8 dc8 pm8 cd8 ct8 : Value} {f8 : Addr}
    {od9 an9 : Option Addr} {sl9 : Array (Option Value)} {oc9 kV9 dc9 pm9 cd9 ct9 : Value} {f9 : Addr}
    {od10 an10 : Option Addr} {sl10 : Array (Option Value)} {oc10 kV10 dc10 pm10 cd10 ct10 : Value} {f10 : Addr}
    {od11 an11 : Option Addr} {sl11 : Array (Option Value)} {oc11 kV11 dc11 pm11 cd11 ct11 : Value} {f11 : Addr}
    {od12 an12 : Option Addr} {sl12 : Array (Option Value)} {oc12 kV12 dc12 pm12 cd12 ct12 : Value} {f12 : Addr}
    {od13 an13 : Option Addr} {sl13 : Array (Option Value)} {oc13 kV13 dc13 pm13 cd13 ct13 : Value} {f13 : Addr}
    {od14 an14 : Option Addr} {sl14 : Array (Option Value)} {oc14 kV14 dc14 pm14 cd14 ct14 : Value} {f14 : Addr}
    {od15 an15 : Option Addr} {sl15 : Array (Option Value)} {oc15 kV15 dc15 pm15 cd15 ct15 : Value} {f15 : Addr}
    {od16 an16 : Option Addr} {sl16 : Array (Option Value)} {oc16 kV16 dc16 pm16 cd16 ct16 : Value} {f16 : Addr}
    {od17 an17 : Option Addr} {sl17 : Array (Option Value)} {oc17 kV17 dc17 pm17 cd17 ct17 : Value} {f17 : Addr}
    {od18 an18 : Option Addr} {sl18 : Array (Option Value)} {oc18 kV18 dc18 pm18 cd18 ct18 : Value} {f18 : Addr}
    {od19 an19 : Option Addr} {sl19 : Array (Option Value)} {oc19 kV19 dc19 pm19 cd19 ct19 : Value} {f19 : Addr}
    {od20 an20 : Option Addr} {sl20 : Array (Option Value)} {oc20 kV20 dc20 pm20 cd20 ct20 : Value} {f20 : Addr}
    {od21 an21 : Option Addr} {sl21 : Array (Option Value)} {oc21 kV21 dc21 pm21 cd21 ct21 : Value} {f21 : Addr}
    {od22 an22 : Option Addr} {sl22 : Array (Option Value)} {oc22 kV22 dc22 pm22 cd22 ct22 : Value} {f22 : Addr}
    {od23 an23 : Option Addr} {sl23 : Array (Option Value)} {oc23 kV23 dc23 pm23 cd23 ct23 : Value} {f23 : Addr}
    {od24 an24 : Option Addr} {sl24 : Array (Option Value)} {oc24 kV24 dc24 pm24 cd24 ct24 : Value} {f24 : Addr}
    {od25 an25 : Option Addr} {sl25 : Array (Option Value)} {oc25 kV25 dc25 pm25 cd25 ct25 : Value} {f25 : Addr}
    {od26 an26 : Option Addr} {sl26 : Array (Option Value)} {oc26 kV26 dc26 pm26 cd26 ct26 : Value} {f26 : Addr}
    {od27 an27 : Option Addr} {sl27 : Array (Option Value)} {oc27 kV27 dc27 pm27 cd27 ct27 : Value} {f27 : Addr}
    {od28 an28 : Option Addr} {sl28 : Array (Option Value)} {oc28 kV28 dc28 pm28 cd28 ct28 : Value} {f28 : Addr}
    {od29 an29 : Option Addr} {sl29 : Array (Option Value)} {oc29 kV29 dc29 pm29 cd29 ct29 : Value} {f29 : Addr}
    {od30 an30 : Option Addr} {sl30 : Array (Option Value)} {oc30 kV30 dc30 pm30 cd30 ct30 : Value} {f30 : Addr}
    {od31 an31 : Option Addr} {sl31 : Array (Option Value)} {oc31 kV31 dc31 pm31 cd31 ct31 : Value} {f31 : Addr}
    {od32 an32 : Option Addr} {sl32 : Array (Option Value)} {oc32 kV32 dc32 pm32 cd32 ct32 : Value} {f32 : Addr}
    {C_BadNumber : Addr} {C_TooMany : Addr} {C_WrongLength : Addr} {C_NoPlace : Addr} {C_BadName : Addr} {C_RepeatedName : Addr} {C_BadSpread : Addr} {C_WatchError : Addr} {C_House : Addr} {C_Watch : Addr}
    {t_LONGEST_NAME : Tok} {t_MOST_TRIES : Tok} {t_LETTERS : Tok}
    {nm_BadNumber q_BadNumber : Str} {N_BadNumber : Addr} {bs_BadNumber : List Value} {sn_BadNumber : List Str} {sub_BadNumber : List Value} {ab_BadNumber : Bool} {col_BadNumber : Option Bool} {dd_BadNumber : Option Addr} {m0_BadNumber m1_BadNumber m2_BadNumber m3_BadNumber m5_BadNumber : Option Value}
    {nm_TooMany q_TooMany : Str} {N_TooMany : Addr} {bs_TooMany : List Value} {sn_TooMany : List Str} {sub_TooMany : List Value} {ab_TooMany : Bool} {col_TooMany : Option Bool} {dd_TooMany : Option Addr} {m0_TooMany m1_TooMany m2_TooMany m3_TooMany m5_TooMany : Option Value}
    {nm_BadName q_BadName : Str} {N_BadName : Addr} {bs_BadName : List Value} {sn_BadName : List Str} {sub_BadName : List Value} {ab_BadName : Bool} {col_BadName : Option Bool} {dd_BadName : Option Addr} {m0_BadName m1_BadName m2_BadName m3_BadName m5_BadName : Option Value}
    {nm_RepeatedName q_RepeatedName : Str} {N_RepeatedName : Addr} {bs_RepeatedName : List Value} {sn_RepeatedName : List Str} {sub_RepeatedName : List Value} {ab_RepeatedName : Bool} {col_RepeatedName : Option Bool} {dd_RepeatedName : Option Addr} {m0_RepeatedName m1_RepeatedName m2_RepeatedName m3_RepeatedName m5_RepeatedName : Option Value}
    {nm_BadSpread q_BadSpread : Str} {N_BadSpread : Addr} {bs_BadSpread : List Value} {sn_BadSpread : List Str} {sub_BadSpread : List Value} {ab_BadSpread : Bool} {col_BadSpread : Option Bool} {dd_BadSpread : Option Addr} {m0_BadSpread m1_BadSpread m2_BadSpread m3_BadSpread m5_BadSpread : Option Value}
    {nm_WrongLength q_WrongLength : Str} {N_WrongLength : Addr} {bs_WrongLength : List Value} {sn_WrongLength : List Str} {sub_WrongLength : List Value} {ab_WrongLength : Bool} {col_WrongLength : Option Bool} {dd_WrongLength : Option Addr} {m0_WrongLength m1_WrongLength m2_WrongLength m3_WrongLength m5_WrongLength : Option Value}
    {tk_House_MOST_HOURS : Tok}
    {tk_House_MOST_GATES : Tok}
    {tk_House_MOST_CELLS : Tok}
    {tk_House_MOST_STAKE : Tok}
    {tk_Watch_MOST : Tok}
    {p15 : Addr} {rest15 : List Value}
    (g_BadNumber : PySem.W.nsIn K mainGlobals "BadNumber" = some (some (.ref C_BadNumber)))
    (g_TooMany : PySem.W.nsIn K mainGlobals "TooMany" = some (some (.ref C_TooMany)))
    (g_WrongLength : PySem.W.nsIn K mainGlobals "WrongLength" = some (some (.ref C_WrongLength)))
    (g_NoPlace : PySem.W.nsIn K mainGlobals "NoPlace" = some (some (.ref C_NoPlace)))
    (g_BadName : PySem.W.nsIn K mainGlobals "BadName" = some (some (.ref C_BadName)))
    (g_RepeatedName : PySem.W.nsIn K mainGlobals "RepeatedName" = some (some (.ref C_RepeatedName)))
    (g_BadSpread : PySem.W.nsIn K mainGlobals "BadSpread" = some (some (.ref C_BadSpread)))
    (g_WatchError : PySem.W.nsIn K mainGlobals "WatchError" = some (some (.ref C_WatchError)))
    (g_House : PySem.W.nsIn K mainGlobals "House" = some (some (.ref C_House)))
    (g_Watch : PySem.W.nsIn K mainGlobals "Watch" = some (some (.ref C_Watch)))
    (a0 : PySem.W.findIn K (.ref C_BadNumber) "__init__" = some (some (.ref f0)))
    (l0 : K.lookup f0 = some ⟨oc0, od0, .func (PySem.W.fnOf "__init__" "BadNumber.__init__" (defArgs s_BadNumber_init) (defBody s_BadNumber_init) (defScope s_BadNumber_init) .none kV0 dc0 pm0 an0 cd0 ct0), sl0⟩)
    (c0 : PySem.W.codeIn K cd0 "BadNumber.__init__" = true)
    (k0 : PySem.W.keepIn K (.ref f0) = true)
    (a1 : PySem.W.findIn K (.ref C_TooMany) "__init__" = some (some (.ref f1)))
    (l1 : K.lookup f1 = some ⟨oc1, od1, .func (PySem.W.fnOf "__init__" "TooMany.__init__" (defArgs s_TooMany_init) (defBody s_TooMany_init) (defScope s_TooMany_init) .none kV1 dc1 pm1 an1 cd1 ct1), sl1⟩)
    (c1 : PySem.W.codeIn K cd1 "TooMany.__init__" = true)
    (k1 : PySem.W.keepIn K (.ref f1) = true)
    (a2 : PySem.W.findIn K (.ref C_WrongLength) "__init__" = some (some (.ref f2)))
    (l2 : K.lookup f2 = some ⟨oc2, od2, .func (PySem.W.fnOf "__init__" "WrongLength.__init__" (defArgs s_WrongLength_init) (defBody s_WrongLength_init) (defScope s_WrongLength_init) .none kV2 dc2 pm2 an2 cd2 ct2), sl2⟩)
    (c2 : PySem.W.codeIn K cd2 "WrongLength.__init__" = true)
    (k2 : PySem.W.keepIn K (.ref f2) = true)
    (a3 : PySem.W.findIn K (.ref C_BadName) "__init__" = some (some (.ref f3)))
    (l3 : K.lookup f3 = some ⟨oc3, od3, .func (PySem.W.fnOf "__init__" "BadName.__init__" (defArgs s_BadName_init) (defBody s_BadName_init) (defScope s_BadName_init) .none kV3 dc3 pm3 an3 cd3 ct3), sl3⟩)
    (c3 : PySem.W.codeIn K cd3 "BadName.__init__" = true)
    (k3 : PySem.W.keepIn K (.ref f3) = true)
    (a4 : PySem.W.findIn K (.ref C_RepeatedName) "__init__" = some (some (.ref f4)))
    (l4 : K.lookup f4 = some ⟨oc4, od4, .func (PySem.W.fnOf "__init__" "RepeatedName.__init__" (defArgs s_RepeatedName_init) (defBody s_RepeatedName_init) (defScope s_RepeatedName_init) .none kV4 dc4 pm4 an4 cd4 ct4), sl4⟩)
    (c4 : PySem.W.codeIn K cd4 "RepeatedName.__init__" = true)
    (k4 : PySem.W.keepIn K (.ref f4) = true)
    (a5 : PySem.W.findIn K (.ref C_BadSpread) "__init__" = some (some (.ref f5)))
    (l5 : K.lookup f5 = some ⟨oc5, od5, .func (PySem.W.fnOf "__init__" "BadSpread.__init__" (defArgs s_BadSpread_init) (defBody s_BadSpread_init) (defScope s_BadSpread_init) .none kV5 dc5 pm5 an5 cd5 ct5), sl5⟩)
    (c5 : PySem.W.codeIn K cd5 "BadSpread.__init__" = true)
    (k5 : PySem.W.keepIn K (.ref f5) = true)
    (a6 : PySem.W.nsIn K mainGlobals "check_name" = some (some (.ref f6)))
    (l6 : K.lookup f6 = some ⟨oc6, od6, .func (PySem.W.fnOf "check_name" "check_name" (defArgs s_check_name) (defBody s_check_name) (defScope s_check_name) .none kV6 dc6 pm6 an6 cd6 ct6), sl6⟩)
    (c6 : PySem.W.codeIn K cd6 "check_name" = true)
    (k6 : PySem.W.keepIn K (.ref f6) = true)
    (a7 : PySem.W.nsIn K mainGlobals "check_new_name" = some (some (.ref f7)))
    (l7 : K.lookup f7 = some ⟨oc7, od7, .func (PySem.W.fnOf "check_new_name" "check_new_name" (defArgs s_check_new_name) (defBody s_check_new_name) (defScope s_check_new_name) .none kV7 dc7 pm7 an7 cd7 ct7), sl7⟩)
    (c7 : PySem.W.codeIn K cd7 "check_new_name" = true)
    (k7 : PySem.W.keepIn K (.ref f7) = true)
    (a8 : PySem.W.findIn K (.ref C_House) "__init__" = some (some (.ref f8)))
    (l8 : K.lookup f8 = some ⟨oc8, od8, .func (PySem.W.fnOf "__init__" "House.__init__" (defArgs s_House_init) (defBody s_House_init) (defScope s_House_init) .none kV8 dc8 pm8 an8 cd8 ct8), sl8⟩)
    (c8 : PySem.W.codeIn K cd8 "House.__init__" = true)
    (k8 : PySem.W.keepIn K (.ref f8) = true)
    (a9 : PySem.W.findIn K (.ref C_House) "__len__" = some (some (.ref f9)))
    (l9 : K.lookup f9 = some ⟨oc9, od9, .func (PySem.W.fnOf "__len__" "House.__len__" (defArgs s_House_len) (defBody s_House_len) (defScope s_House_len) .none kV9 dc9 pm9 an9 cd9 ct9), sl9⟩)
    (c9 : PySem.W.codeIn K cd9 "House.__len__" = true)
    (k9 : PySem.W.keepIn K (.ref f9) = true)
    (a10 : PySem.W.nsIn K mainGlobals "is_gate" = some (some (.ref f10)))
    (l10 : K.lookup f10 = some ⟨oc10, od10, .func (PySem.W.fnOf "is_gate" "is_gate" (defArgs s_is_gate) (defBody s_is_gate) (defScope s_is_gate) .none kV10 dc10 pm10 an10 cd10 ct10), sl10⟩)
    (c10 : PySem.W.codeIn K cd10 "is_gate" = true)
    (k10 : PySem.W.keepIn K (.ref f10) = true)
    (a11 : PySem.W.nsIn K mainGlobals "is_cell" = some (some (.ref f11)))
    (l11 : K.lookup f11 = some ⟨oc11, od11, .func (PySem.W.fnOf "is_cell" "is_cell" (defArgs s_is_cell) (defBody s_is_cell) (defScope s_is_cell) .none kV11 dc11 pm11 an11 cd11 ct11), sl11⟩)
    (c11 : PySem.W.codeIn K cd11 "is_cell" = true)
    (k11 : PySem.W.keepIn K (.ref f11) = true)
    (a12 : PySem.W.nsIn K mainGlobals "total_tries" = some (some (.ref f12)))
    (l12 : K.lookup f12 = some ⟨oc12, od12, .func (PySem.W.fnOf "total_tries" "total_tries" (defArgs s_total_tries) (defBody s_total_tries) (defScope s_total_tries) .none kV12 dc12 pm12 an12 cd12 ct12), sl12⟩)
    (c12 : PySem.W.codeIn K cd12 "total_tries" = true)
    (k12 : PySem.W.keepIn K (.ref f12) = true)
    (a13 : PySem.W.nsIn K mainGlobals "_check_row" = some (some (.ref f13)))
    (l13 : K.lookup f13 = some ⟨oc13, od13, .func (PySem.W.fnOf "_check_row" "_check_row" (defArgs s_u_check_row) (defBody s_u_check_row) (defScope s_u_check_row) .none kV13 dc13 pm13 an13 cd13 ct13), sl13⟩)
    (c13 : PySem.W.codeIn K cd13 "_check_row" = true)
    (k13 : PySem.W.keepIn K (.ref f13) = true)
    (a14 : PySem.W.findIn K (.ref C_Watch) "__init__" = some (some (.ref f14)))
    (l14 : K.lookup f14 = some ⟨oc14, od14, .func (PySem.W.fnOf "__init__" "Watch.__init__" (defArgs s_Watch_init) (defBody s_Watch_init) (defScope s_Watch_init) .none kV14 dc14 pm14 an14 cd14 ct14), sl14⟩)
    (c14 : PySem.W.codeIn K cd14 "Watch.__init__" = true)
    (k14 : PySem.W.keepIn K (.ref f14) = true)
    (pa_15 : PySem.W.findIn K (.ref C_Watch) "rows" = some (some (.ref p15)))
    (a15 : PySem.W.recIn K p15 "property" = some (.ref f15 :: rest15))
    (l15 : K.lookup f15 = some ⟨oc15, od15, .func (PySem.W.fnOf "rows" "Watch.rows" (defArgs s_Watch_rows) (defBody s_Watch_rows) (defScope s_Watch_rows) .none kV15 dc15 pm15 an15 cd15 ct15), sl15⟩)
    (c15 : PySem.W.codeIn K cd15 "Watch.rows" = true)
    (k15 : PySem.W.keepIn K (.ref f15) = true)
    (a16 : PySem.W.findIn K (.ref C_Watch) "__getitem__" = some (some (.ref f16)))
    (l16 : K.lookup f16 = some ⟨oc16, od16, .func (PySem.W.fnOf "__getitem__" "Watch.__getitem__" (defArgs s_Watch_getitem) (defBody s_Watch_getitem) (defScope s_Watch_getitem) .none kV16 dc16 pm16 an16 cd16 ct16), sl16⟩)
    (c16 : PySem.W.codeIn K cd16 "Watch.__getitem__" = true)
    (k16 : PySem.W.keepIn K (.ref f16) = true)
    (a17 : PySem.W.nsIn K mainGlobals "loss" = some (some (.ref f17)))
    (l17 : K.lookup f17 = some ⟨oc17, od17, .func (PySem.W.fnOf "loss" "loss" (defArgs s_loss) (defBody s_loss) (defScope s_loss) .none kV17 dc17 pm17 an17 cd17 ct17), sl17⟩)
    (c17 : PySem.W.codeIn K cd17 "loss" = true)
    (k17 : PySem.W.keepIn K (.ref f17) = true)
    (a18 : PySem.W.nsIn K mainGlobals "_law_cell" = some (some (.ref f18)))
    (l18 : K.lookup f18 = some ⟨oc18, od18, .func (PySem.W.fnOf "_law_cell" "_law_cell" (defArgs s_u_law_cell) (defBody s_u_law_cell) (defScope s_u_law_cell) .none kV18 dc18 pm18 an18 cd18 ct18), sl18⟩)
    (c18 : PySem.W.codeIn K cd18 "_law_cell" = true)
    (k18 : PySem.W.keepIn K (.ref f18) = true)
    (a19 : PySem.W.nsIn K mainGlobals "_law_draws" = some (some (.ref f19)))
    (l19 : K.lookup f19 = some ⟨oc19, od19, .func (PySem.W.fnOf "_law_draws" "_law_draws" (defArgs s_u_law_draws) (defBody s_u_law_draws) (defScope s_u_law_draws) .none kV19 dc19 pm19 an19 cd19 ct19), sl19⟩)
    (c19 : PySem.W.codeIn K cd19 "_law_draws" = true)
    (k19 : PySem.W.keepIn K (.ref f19) = true)
    (a20 : PySem.W.nsIn K mainGlobals "_law_is_int" = some (some (.ref f20)))
    (l20 : K.lookup f20 = some ⟨oc20, od20, .func (PySem.W.fnOf "_law_is_int" "_law_is_int" (defArgs s_u_law_is_int) (defBody s_u_law_is_int) (defScope s_u_law_is_int) .none kV20 dc20 pm20 an20 cd20 ct20), sl20⟩)
    (c20 : PySem.W.codeIn K cd20 "_law_is_int" = true)
    (k20 : PySem.W.keepIn K (.ref f20) = true)
    (a21 : PySem.W.nsIn K mainGlobals "_law_same" = some (some (.ref f21)))
    (l21 : K.lookup f21 = some ⟨oc21, od21, .func (PySem.W.fnOf "_law_same" "_law_same" (defArgs s_u_law_same) (defBody s_u_law_same) (defScope s_u_law_same) .none kV21 dc21 pm21 an21 cd21 ct21), sl21⟩)
    (c21 : PySem.W.codeIn K cd21 "_law_same" = true)
    (k21 : PySem.W.keepIn K (.ref f21) = true)
    (a22 : PySem.W.nsIn K mainGlobals "_law_name" = some (some (.ref f22)))
    (l22 : K.lookup f22 = some ⟨oc22, od22, .func (PySem.W.fnOf "_law_name" "_law_name" (defArgs s_u_law_name) (defBody s_u_law_name) (defScope s_u_law_name) .none kV22 dc22 pm22 an22 cd22 ct22), sl22⟩)
    (c22 : PySem.W.codeIn K cd22 "_law_name" = true)
    (k22 : PySem.W.keepIn K (.ref f22) = true)
    (a23 : PySem.W.nsIn K mainGlobals "_law_names" = some (some (.ref f23)))
    (l23 : K.lookup f23 = some ⟨oc23, od23, .func (PySem.W.fnOf "_law_names" "_law_names" (defArgs s_u_law_names) (defBody s_u_law_names) (defScope s_u_law_names) .none kV23 dc23 pm23 an23 cd23 ct23), sl23⟩)
    (c23 : PySem.W.codeIn K cd23 "_law_names" = true)
    (k23 : PySem.W.keepIn K (.ref f23) = true)
    (a24 : PySem.W.nsIn K mainGlobals "_law_gates" = some (some (.ref f24)))
    (l24 : K.lookup f24 = some ⟨oc24, od24, .func (PySem.W.fnOf "_law_gates" "_law_gates" (defArgs s_u_law_gates) (defBody s_u_law_gates) (defScope s_u_law_gates) .none kV24 dc24 pm24 an24 cd24 ct24), sl24⟩)
    (c24 : PySem.W.codeIn K cd24 "_law_gates" = true)
    (k24 : PySem.W.keepIn K (.ref f24) = true)
    (a25 : PySem.W.nsIn K mainGlobals "_law_rows" = some (some (.ref f25)))
    (l25 : K.lookup f25 = some ⟨oc25, od25, .func (PySem.W.fnOf "_law_rows" "_law_rows" (defArgs s_u_law_rows) (defBody s_u_law_rows) (defScope s_u_law_rows) .none kV25 dc25 pm25 an25 cd25 ct25), sl25⟩)
    (c25 : PySem.W.codeIn K cd25 "_law_rows" = true)
    (k25 : PySem.W.keepIn K (.ref f25) = true)
    (a26 : PySem.W.nsIn K mainGlobals "_law_spread" = some (some (.ref f26)))
    (l26 : K.lookup f26 = some ⟨oc26, od26, .func (PySem.W.fnOf "_law_spread" "_law_spread" (defArgs s_u_law_spread) (defBody s_u_law_spread) (defScope s_u_law_spread) .none kV26 dc26 pm26 an26 cd26 ct26), sl26⟩)
    (c26 : PySem.W.codeIn K cd26 "_law_spread" = true)
    (k26 : PySem.W.keepIn K (.ref f26) = true)
    (a27 : PySem.W.nsIn K mainGlobals "_law_strengths" = some (some (.ref f27)))
    (l27 : K.lookup f27 = some ⟨oc27, od27, .func (PySem.W.fnOf "_law_strengths" "_law_strengths" (defArgs s_u_law_strengths) (defBody s_u_law_strengths) (defScope s_u_law_strengths) .none kV27 dc27 pm27 an27 cd27 ct27), sl27⟩)
    (c27 : PySem.W.codeIn K cd27 "_law_strengths" = true)
    (k27 : PySem.W.keepIn K (.ref f27) = true)
    (a28 : PySem.W.nsIn K mainGlobals "_law_due" = some (some (.ref f28)))
    (l28 : K.lookup f28 = some ⟨oc28, od28, .func (PySem.W.fnOf "_law_due" "_law_due" (defArgs s_u_law_due) (defBody s_u_law_due) (defScope s_u_law_due) .none kV28 dc28 pm28 an28 cd28 ct28), sl28⟩)
    (c28 : PySem.W.codeIn K cd28 "_law_due" = true)
    (k28 : PySem.W.keepIn K (.ref f28) = true)
    (a29 : PySem.W.nsIn K mainGlobals "_law_fault" = some (some (.ref f29)))
    (l29 : K.lookup f29 = some ⟨oc29, od29, .func (PySem.W.fnOf "_law_fault" "_law_fault" (defArgs s_u_law_fault) (defBody s_u_law_fault) (defScope s_u_law_fault) .none kV29 dc29 pm29 an29 cd29 ct29), sl29⟩)
    (c29 : PySem.W.codeIn K cd29 "_law_fault" = true)
    (k29 : PySem.W.keepIn K (.ref f29) = true)
    (a30 : PySem.W.nsIn K mainGlobals "_law_refused" = some (some (.ref f30)))
    (l30 : K.lookup f30 = some ⟨oc30, od30, .func (PySem.W.fnOf "_law_refused" "_law_refused" (defArgs s_u_law_refused) (defBody s_u_law_refused) (defScope s_u_law_refused) .none kV30 dc30 pm30 an30 cd30 ct30), sl30⟩)
    (c30 : PySem.W.codeIn K cd30 "_law_refused" = true)
    (k30 : PySem.W.keepIn K (.ref f30) = true)
    (a31 : PySem.W.nsIn K mainGlobals "_law_loses" = some (some (.ref f31)))
    (l31 : K.lookup f31 = some ⟨oc31, od31, .func (PySem.W.fnOf "_law_loses" "_law_loses" (defArgs s_u_law_loses) (defBody s_u_law_loses) (defScope s_u_law_loses) .none kV31 dc31 pm31 an31 cd31 ct31), sl31⟩)
    (c31 : PySem.W.codeIn K cd31 "_law_loses" = true)
    (k31 : PySem.W.keepIn K (.ref f31) = true)
    (a32 : PySem.W.nsIn K mainGlobals "law" = some (some (.ref f32)))
    (l32 : K.lookup f32 = some ⟨oc32, od32, .func (PySem.W.fnOf "law" "law" (defArgs s_law) (defBody s_law) (defScope s_law) .none kV32 dc32 pm32 an32 cd32 ct32), sl32⟩)
    (c32 : PySem.W.codeIn K cd32 "law" = true)
    (k32 : PySem.W.keepIn K (.ref f32) = true)
    (kc_LONGEST_NAME : PySem.W.nsIn K mainGlobals "_LONGEST_NAME" = some (some (.int 8 t_LONGEST_NAME)))
    (kc_MOST_TRIES : PySem.W.nsIn K mainGlobals "_MOST_TRIES" = some (some (.int 6 t_MOST_TRIES)))
    (kc_LETTERS : PySem.W.nsIn K mainGlobals "_LETTERS" = some (some (.str "abcdefghijklmnopqrstuvwxyz" t_LETTERS)))
    (z_abs : PySem.W.nsIn K mainGlobals "abs" = some none)
    (z_len : PySem.W.nsIn K mainGlobals "len" = some none)
    (z_int : PySem.W.nsIn K mainGlobals "int" = some none)
    (z_bool : PySem.W.nsIn K mainGlobals "bool" = some none)
    (z_str : PySem.W.nsIn K mainGlobals "str" = some none)
    (z_list : PySem.W.nsIn K mainGlobals "list" = some none)
    (z_tuple : PySem.W.nsIn K mainGlobals "tuple" = some none)
    (z_isinstance : PySem.W.nsIn K mainGlobals "isinstance" = some none)
    (z_range : PySem.W.nsIn K mainGlobals "range" = some none)
    (z_ValueError : PySem.W.nsIn K mainGlobals "ValueError" = some none)
    (z_min : PySem.W.nsIn K mainGlobals "min" = some none)
    (z_max : PySem.W.nsIn K mainGlobals "max" = some none)
    (z_sum : PySem.W.nsIn K mainGlobals "sum" = some none)
    (z_enumerate : PySem.W.nsIn K mainGlobals "enumerate" = some none)
    (exC_BadNumber : PySem.W.subIn K (.ref C_BadNumber) (.type "BaseException") = some true)
    (hdC_BadNumber : PySem.W.hasDictIn K C_BadNumber = true)
    (tyC_BadNumber : PySem.W.typeIn K (.ref C_BadNumber) = some (.type "type"))
    (meC_BadNumber : PySem.W.subIn K (.ref C_BadNumber) (.ref C_BadNumber) = some true)
    (xL_BadNumber : K.lookup C_BadNumber = some (excClassObj nm_BadNumber q_BadNumber C_BadNumber N_BadNumber bs_BadNumber [.ref C_WatchError, .type "ValueError", .type "Exception", .type "BaseException", .type "object"] true sn_BadNumber sub_BadNumber ab_BadNumber col_BadNumber dd_BadNumber m0_BadNumber m1_BadNumber m2_BadNumber m3_BadNumber m5_BadNumber "ValueError.__new__"))
    (sa_BadNumber : PySem.W.findIn K (.ref C_BadNumber) "__setattr__" = some (some (.builtin "object.__setattr__")))
    (kC_BadNumber : PySem.W.keepIn K (.ref C_BadNumber) = true)
    (ti_BadNumber : PySem.W.typeIn K (.ref f0) = some (.type "function"))
    (ga_BadNumber : PySem.W.findIn K (.ref C_BadNumber) "__getattribute__" = some (some (.builtin "BaseException.__getattribute__")))
    (gg_BadNumber : PySem.W.findIn K (.ref C_BadNumber) "__getattr__" = some none)
    (ha_BadNumber : PySem.W.findIn K (.ref C_BadNumber) "__class__" = some (some (.builtin "object.__class__")))
    (hn_ : PySem.W.specialIn K (.builtin "object.__class__") "__get__" = some (some (.builtin "getset_descriptor.__get__")))
    (ht_ : PySem.W.takesIn K (.builtin "object.__class__") = some true)
    (hm_BadNumber : PySem.W.mroIn K C_BadNumber (.type "object") = some true)
    (nf_BadNumber_name : PySem.W.findIn K (.ref C_BadNumber) "name" = some none)
    (nf_BadNumber_value : PySem.W.findIn K (.ref C_BadNumber) "value" = some none)
    (exC_TooMany : PySem.W.subIn K (.ref C_TooMany) (.type "BaseException") = some true)
    (hdC_TooMany : PySem.W.hasDictIn K C_TooMany = true)
    (tyC_TooMany : PySem.W.typeIn K (.ref C_TooMany) = some (.type "type"))
    (meC_TooMany : PySem.W.subIn K (.ref C_TooMany) (.ref C_TooMany) = some true)
    (xL_TooMany : K.lookup C_TooMany = some (excClassObj nm_TooMany q_TooMany C_TooMany N_TooMany bs_TooMany [.ref C_WatchError, .type "ValueError", .type "Exception", .type "BaseException", .type "object"] true sn_TooMany sub_TooMany ab_TooMany col_TooMany dd_TooMany m0_TooMany m1_TooMany m2_TooMany m3_TooMany m5_TooMany "ValueError.__new__"))
    (sa_TooMany : PySem.W.findIn K (.ref C_TooMany) "__setattr__" = some (some (.builtin "object.__setattr__")))
    (kC_TooMany : PySem.W.keepIn K (.ref C_TooMany) = true)
    (ti_TooMany : PySem.W.typeIn K (.ref f1) = some (.type "function"))
    (ga_TooMany : PySem.W.findIn K (.ref C_TooMany) "__getattribute__" = some (some (.builtin "BaseException.__getattribute__")))
    (gg_TooMany : PySem.W.findIn K (.ref C_TooMany) "__getattr__" = some none)
    (ha_TooMany : PySem.W.findIn K (.ref C_TooMany) "__class__" = some (some (.builtin "object.__class__")))
    (hm_TooMany : PySem.W.mroIn K C_TooMany (.type "object") = some true)
    (nf_TooMany_name : PySem.W.findIn K (.ref C_TooMany) "name" = some none)
    (nf_TooMany_most : PySem.W.findIn K (.ref C_TooMany) "most" = some none)
    (exC_BadName : PySem.W.subIn K (.ref C_BadName) (.type "BaseException") = some true)
    (hdC_BadName : PySem.W.hasDictIn K C_BadName = true)
    (tyC_BadName : PySem.W.typeIn K (.ref C_BadName) = some (.type "type"))
    (meC_BadName : PySem.W.subIn K (.ref C_BadName) (.ref C_BadName) = some true)
    (xL_BadName : K.lookup C_BadName = some (excClassObj nm_BadName q_BadName C_BadName N_BadName bs_BadName [.ref C_WatchError, .type "ValueError", .type "Exception", .type "BaseException", .type "object"] true sn_BadName sub_BadName ab_BadName col_BadName dd_BadName m0_BadName m1_BadName m2_BadName m3_BadName m5_BadName "ValueError.__new__"))
    (sa_BadName : PySem.W.findIn K (.ref C_BadName) "__setattr__" = some (some (.builtin "object.__setattr__")))
    (kC_BadName : PySem.W.keepIn K (.ref C_BadName) = true)
    (ti_BadName : PySem.W.typeIn K (.ref f3) = some (.type "function"))
    (ga_BadName : PySem.W.findIn K (.ref C_BadName) "__getattribute__" = some (some (.builtin "BaseException.__getattribute__")))
    (gg_BadName : PySem.W.findIn K (.ref C_BadName) "__getattr__" = some none)
    (ha_BadName : PySem.W.findIn K (.ref C_BadName) "__class__" = some (some (.builtin "object.__class__")))
    (hm_BadName : PySem.W.mroIn K C_BadName (.type "object") = some true)
    (nf_BadName_name : PySem.W.findIn K (.ref C_BadName) "name" = some none)
    (exC_RepeatedName : PySem.W.subIn K (.ref C_RepeatedName) (.type "BaseException") = some true)
    (hdC_RepeatedName : PySem.W.hasDictIn K C_RepeatedName = true)
    (tyC_RepeatedName : PySem.W.typeIn K (.ref C_RepeatedName) = some (.type "type"))
    (meC_RepeatedName : PySem.W.subIn K (.ref C_RepeatedName) (.ref C_RepeatedName) = some true)
    (xL_RepeatedName : K.lookup C_RepeatedName = some (excClassObj nm_RepeatedName q_RepeatedName C_RepeatedName N_RepeatedName bs_RepeatedName [.ref C_WatchError, .type "ValueError", .type "Exception", .type "BaseException", .type "object"] true sn_RepeatedName sub_RepeatedName ab_RepeatedName col_RepeatedName dd_RepeatedName m0_RepeatedName m1_RepeatedName m2_RepeatedName m3_RepeatedName m5_RepeatedName "ValueError.__new__"))
    (sa_RepeatedName : PySem.W.findIn K (.ref C_RepeatedName) "__setattr__" = some (some (.builtin "object.__setattr__")))
    (kC_RepeatedName : PySem.W.keepIn K (.ref C_RepeatedName) = true)
    (ti_RepeatedName : PySem.W.typeIn K (.ref f4) = some (.type "function"))
    (ga_RepeatedName : PySem.W.findIn K (.ref C_RepeatedName) "__getattribute__" = some (some (.builtin "BaseException.__getattribute__")))
    (gg_RepeatedName : PySem.W.findIn K (.ref C_RepeatedName) "__getattr__" = some none)
    (ha_RepeatedName : PySem.W.findIn K (.ref C_RepeatedName) "__class__" = some (some (.builtin "object.__class__")))
    (hm_RepeatedName : PySem.W.mroIn K C_RepeatedName (.type "object") = some true)
    (nf_RepeatedName_name : PySem.W.findIn K (.ref C_RepeatedName) "name" = some none)
    (exC_BadSpread : PySem.W.subIn K (.ref C_BadSpread) (.type "BaseException") = some true)
    (hdC_BadSpread : PySem.W.hasDictIn K C_BadSpread = true)
    (tyC_BadSpread : PySem.W.typeIn K (.ref C_BadSpread) = some (.type "type"))
    (meC_BadSpread : PySem.W.subIn K (.ref C_BadSpread) (.ref C_BadSpread) = some true)
    (xL_BadSpread : K.lookup C_BadSpread = some (excClassObj nm_BadSpread q_BadSpread C_BadSpread N_BadSpread bs_BadSpread [.ref C_WatchError, .type "ValueError", .type "Exception", .type "BaseException", .type "object"] true sn_BadSpread sub_BadSpread ab_BadSpread col_BadSpread dd_BadSpread m0_BadSpread m1_BadSpread m2_BadSpread m3_BadSpread m5_BadSpread "ValueError.__new__"))
    (sa_BadSpread : PySem.W.findIn K (.ref C_BadSpread) "__setattr__" = some (some (.builtin "object.__setattr__")))
    (kC_BadSpread : PySem.W.keepIn K (.ref C_BadSpread) = true)
    (ti_BadSpread : PySem.W.typeIn K (.ref f5) = some (.type "function"))
    (ga_BadSpread : PySem.W.findIn K (.ref C_BadSpread) "__getattribute__" = some (some (.builtin "BaseException.__getattribute__")))
    (gg_BadSpread : PySem.W.findIn K (.ref C_BadSpread) "__getattr__" = some none)
    (ha_BadSpread : PySem.W.findIn K (.ref C_BadSpread) "__class__" = some (some (.builtin "object.__class__")))
    (hm_BadSpread : PySem.W.mroIn K C_BadSpread (.type "object") = some true)
    (nf_BadSpread_index : PySem.W.findIn K (.ref C_BadSpread) "index" = some none)
    (exC_WrongLength : PySem.W.subIn K (.ref C_WrongLength) (.type "BaseException") = some true)
    (hdC_WrongLength : PySem.W.hasDictIn K C_WrongLength = true)
    (tyC_WrongLength : PySem.W.typeIn K (.ref C_WrongLength) = some (.type "type"))
    (meC_WrongLength : PySem.W.subIn K (.ref C_WrongLength) (.ref C_WrongLength) = some true)
    (xL_WrongLength : K.lookup C_WrongLength = some (excClassObj nm_WrongLength q_WrongLength C_WrongLength N_WrongLength bs_WrongLength [.ref C_WatchError, .type "ValueError", .type "Exception", .type "BaseException", .type "object"] true sn_WrongLength sub_WrongLength ab_WrongLength col_WrongLength dd_WrongLength m0_WrongLength m1_WrongLength m2_WrongLength m3_WrongLength m5_WrongLength "ValueError.__new__"))
    (sa_WrongLength : PySem.W.findIn K (.ref C_WrongLength) "__setattr__" = some (some (.builtin "object.__setattr__")))
    (kC_WrongLength : PySem.W.keepIn K (.ref C_WrongLength) = true)
    (ti_WrongLength : PySem.W.typeIn K (.ref f2) = some (.type "function"))
    (ga_WrongLength : PySem.W.findIn K (.ref C_WrongLength) "__getattribute__" = some (some (.builtin "BaseException.__getattribute__")))
    (gg_WrongLength : PySem.W.findIn K (.ref C_WrongLength) "__getattr__" = some none)
    (ha_WrongLength : PySem.W.findIn K (.ref C_WrongLength) "__class__" = some (some (.builtin "object.__class__")))
    (hm_WrongLength : PySem.W.mroIn K C_WrongLength (.type "object") = some true)
    (nf_WrongLength_length : PySem.W.findIn K (.ref C_WrongLength) "length" = some none)
    (exC_NoPlace : PySem.W.subIn K (.ref C_NoPlace) (.type "BaseException") = some true)
    (hdC_NoPlace : PySem.W.hasDictIn K C_NoPlace = true)
    (tyC_NoPlace : PySem.W.typeIn K (.ref C_NoPlace) = some (.type "type"))
    (meC_NoPlace : PySem.W.subIn K (.ref C_NoPlace) (.ref C_NoPlace) = some true)
    (xP_NoPlace : PySem.W.excIn K C_NoPlace [.type "ValueError", .type "Exception", .type "BaseException", .type "object"] "ValueError.__new__" = true)
    (kP_NoPlace : PySem.W.keepIn K (.ref C_NoPlace) = true)
    (ga_NoPlace : PySem.W.findIn K (.ref C_NoPlace) "__getattribute__" = some (some (.builtin "BaseException.__getattribute__")))
    (gg_NoPlace : PySem.W.findIn K (.ref C_NoPlace) "__getattr__" = some none)
    (ha_NoPlace : PySem.W.findIn K (.ref C_NoPlace) "__class__" = some (some (.builtin "object.__class__")))
    (hm_NoPlace : PySem.W.mroIn K C_NoPlace (.type "object") = some true)
    (sub_TooMany_BadSpread : PySem.W.subIn K (.ref C_TooMany) (.ref C_BadSpread) = some false)
    (exC_WatchError : PySem.W.subIn K (.ref C_WatchError) (.type "BaseException") = some true)
    (hdC_WatchError : PySem.W.hasDictIn K C_WatchError = true)
    (tyC_WatchError : PySem.W.typeIn K (.ref C_WatchError) = some (.type "type"))
    (meC_WatchError : PySem.W.subIn K (.ref C_WatchError) (.ref C_WatchError) = some true)
    (sub_BadSpread_WatchError : PySem.W.subIn K (.ref C_BadSpread) (.ref C_WatchError) = some true)
    (sub_BadSpread_ValueError : PySem.W.subIn K (.ref C_BadSpread) (.type "ValueError") = some true)
    (sub_BadSpread_TooMany : PySem.W.subIn K (.ref C_BadSpread) (.ref C_TooMany) = some false)
    (sub_TooMany_WatchError : PySem.W.subIn K (.ref C_TooMany) (.ref C_WatchError) = some true)
    (sub_TooMany_ValueError : PySem.W.subIn K (.ref C_TooMany) (.type "ValueError") = some true)
    (pg_House : PySem.W.plainGet K C_House Str.empty = true)
    (hd_House : PySem.W.hasDictIn K C_House = true)
    (po_House : PySem.W.plainOver K C_House = true)
    (sa_House : PySem.W.findIn K (.ref C_House) "__setattr__" = some (some (.builtin "object.__setattr__")))
    (mk_House : PySem.W.makesIn K C_House = true)
    (kc_House : PySem.W.keepIn K (.ref C_House) = true)
    (if_8 : PySem.W.isFn K (.ref f8) = true)
    (na_House_hours : PySem.W.findIn K (.ref C_House) "hours" = some none)
    (na_House_names : PySem.W.findIn K (.ref C_House) "names" = some none)
    (na_House_stakes : PySem.W.findIn K (.ref C_House) "stakes" = some none)
    (ha_House : PySem.W.findIn K (.ref C_House) "__class__" = some (some (.builtin "object.__class__")))
    (hm_House : PySem.W.mroIn K C_House (.type "object") = some true)
    (rd_House : PySem.W.readsIn K C_House (.type "type") = true)
    (gt_House : PySem.W.specialIn K (.ref C_House) "__getattribute__" = some (some (.builtin "type.__getattribute__")))
    (cv_House_MOST_HOURS : PySem.W.findCls K (.ref C_House) (.type "type") "MOST_HOURS" = some (.val (.int 24 tk_House_MOST_HOURS)))
    (cv_House_MOST_GATES : PySem.W.findCls K (.ref C_House) (.type "type") "MOST_GATES" = some (.val (.int 4 tk_House_MOST_GATES)))
    (cv_House_MOST_CELLS : PySem.W.findCls K (.ref C_House) (.type "type") "MOST_CELLS" = some (.val (.int 48 tk_House_MOST_CELLS)))
    (cv_House_MOST_STAKE : PySem.W.findCls K (.ref C_House) (.type "type") "MOST_STAKE" = some (.val (.int 60 tk_House_MOST_STAKE)))
    (pg_Watch : PySem.W.plainGet K C_Watch Str.empty = true)
    (hd_Watch : PySem.W.hasDictIn K C_Watch = true)
    (po_Watch : PySem.W.plainOver K C_Watch = true)
    (sa_Watch : PySem.W.findIn K (.ref C_Watch) "__setattr__" = some (some (.builtin "object.__setattr__")))
    (mk_Watch : PySem.W.makesIn K C_Watch = true)
    (kc_Watch : PySem.W.keepIn K (.ref C_Watch) = true)
    (if_14 : PySem.W.isFn K (.ref f14) = true)
    (na_Watch_house : PySem.W.findIn K (.ref C_Watch) "house" = some none)
    (na_Watch_rows : PySem.W.findIn K (.ref C_Watch) "_rows" = some none)
    (ha_Watch : PySem.W.findIn K (.ref C_Watch) "__class__" = some (some (.builtin "object.__class__")))
    (hm_Watch : PySem.W.mroIn K C_Watch (.type "object") = some true)
    (rd_Watch : PySem.W.readsIn K C_Watch (.type "type") = true)
    (gt_Watch : PySem.W.specialIn K (.ref C_Watch) "__getattribute__" = some (some (.builtin "type.__getattribute__")))
    (cv_Watch_MOST : PySem.W.findCls K (.ref C_Watch) (.type "type") "MOST" = some (.val (.int 96 tk_Watch_MOST)))
    (if_9 : PySem.W.isFn K (.ref f9) = true)
    (pg_15 : PySem.W.specialIn K (.ref p15) "__get__" = some (some (.builtin "property.__get__")))
    (pt_15 : PySem.W.takesIn K (.ref p15) = some true)
    (if_16 : PySem.W.isFn K (.ref f16) = true)
    (fi_16 : PySem.W.fnIn K f16 = true)
    : ∃ fd : FuncData, (∀ (s : Shared) (v : Value), BindsTo s fd ⟨[v], []⟩ [("script", v)]) ∧ ∀ base : Heap, K.In base → base.Ns mainGlobals mg → FnOk l.prog w K mg base CX0 20 fa fd ["script"] ((spLaw K)) := by
  have e := hfa.symm.trans (PySem.W.mg_of X G a32)
  cases e
  let A : Ads := {
    f_BadNumber_init := f0,
    d_BadNumber_init := PySem.W.fnOf "__init__" "BadNumber.__init__" (defArgs s_BadNumber_init) (defBody s_BadNumber_init) (defScope s_BadNumber_init) .none kV0 dc0 pm0 an0 cd0 ct0,
    f_TooMany_init := f1,
    d_TooMany_init := PySem.W.fnOf "__init__" "TooMany.__init__" (defArgs s_TooMany_init) (defBody s_TooMany_init) (defScope s_TooMany_init) .none kV1 dc1 pm1 an1 cd1 ct1,
    f_WrongLength_init := f2,
    d_WrongLength_init := PySem.W.fnOf "__init__" "WrongLength.__init__" (defArgs s_WrongLength_init) (defBody s_WrongLength_init) (defScope s_WrongLength_init) .none kV2 dc2 pm2 an2 cd2 ct2,
    f_BadName_init := f3,
    d_BadName_init := PySem.W.fnOf "__init__" "BadName.__init__" (defArgs s_BadName_init) (defBody s_BadName_init) (defScope s_BadName_init) .none kV3 dc3 pm3 an3 cd3 ct3,
    f_RepeatedName_init := f4,
    d_RepeatedName_init := PySem.W.fnOf "__init__" "RepeatedName.__init__" (defArgs s_RepeatedName_init) (defBody s_RepeatedName_init) (defScope s_RepeatedName_init) .none kV4 dc4 pm4 an4 cd4 ct4,
    f_BadSpread_init := f5,
    d_BadSpread_init := PySem.W.fnOf "__init__" "BadSpread.__init__" (defArgs s_BadSpread_init) (defBody s_BadSpread_init) (defScope s_BadSpread_init) .none kV5 dc5 pm5 an5 cd5 ct5,
    f_check_name := f6,
    d_check_name := PySem.W.fnOf "check_name" "check_name" (defArgs s_check_name) (defBody s_check_name) (defScope s_check_name) .none kV6 dc6 pm6 an6 cd6 ct6,
    f_check_new_name := f7,
    d_check_new_name := PySem.W.fnOf "check_new_name" "check_new_name" (defArgs s_check_new_name) (defBody s_check_new_name) (defScope s_check_new_name) .none kV7 dc7 pm7 an7 cd7 ct7,
    f_House_init := f8,
    d_House_init := PySem.W.fnOf "__init__" "House.__init__" (defArgs s_House_init) (defBody s_House_init) (defScope s_House_init) .none kV8 dc8 pm8 an8 cd8 ct8,
    f_House_len := f9,
    d_House_len := PySem.W.fnOf "__len__" "House.__len__" (defArgs s_House_len) (defBody s_House_len) (defScope s_House_len) .none kV9 dc9 pm9 an9 cd9 ct9,
    f_is_gate := f10,
    d_is_gate := PySem.W.fnOf "is_gate" "is_gate" (defArgs s_is_gate) (defBody s_is_gate) (defScope s_is_gate) .none kV10 dc10 pm10 an10 cd10 ct10,
    f_is_cell := f11,
    d_is_cell := PySem.W.fnOf "is_cell" "is_cell" (defArgs s_is_cell) (defBody s_is_cell) (defScope s_is_cell) .none kV11 dc11 pm11 an11 cd11 ct11,
    f_total_tries := f12,
    d_total_tries := PySem.W.fnOf "total_tries" "total_tries" (defArgs s_total_tries) (defBody s_total_tries) (defScope s_total_tries) .none kV12 dc12 pm12 an12 cd12 ct12,
    f_u_check_row := f13,
    d_u_check_row := PySem.W.fnOf "_check_row" "_check_row" (defArgs s_u_check_row) (defBody s_u_check_row) (defScope s_u_check_row) .none kV13 dc13 pm13 an13 cd13 ct13,
    f_Watch_init := f14,
    d_Watch_init := PySem.W.fnOf "__init__" "Watch.__init__" (defArgs s_Watch_init) (defBody s_Watch_init) (defScope s_Watch_init) .none kV14 dc14 pm14 an14 cd14 ct14,
    f_Watch_rows := f15,
    d_Watch_rows := PySem.W.fnOf "rows" "Watch.rows" (defArgs s_Watch_rows) (defBody s_Watch_rows) (defScope s_Watch_rows) .none kV15 dc15 pm15 an15 cd15 ct15,
    f_Watch_getitem := f16,
    d_Watch_getitem := PySem.W.fnOf "__getitem__" "Watch.__getitem__" (defArgs s_Watch_getitem) (defBody s_Watch_getitem) (defScope s_Watch_getitem) .none kV16 dc16 pm16 an16 cd16 ct16,
    f_loss := f17,
    d_loss := PySem.W.fnOf "loss" "loss" (defArgs s_loss) (defBody s_loss) (defScope s_loss) .none kV17 dc17 pm17 an17 cd17 ct17,
    f_u_law_cell := f18,
    d_u_law_cell := PySem.W.fnOf "_law_cell" "_law_cell" (defArgs s_u_law_cell) (defBody s_u_law_cell) (defScope s_u_law_cell) .none kV18 dc18 pm18 an18 cd18 ct18,
    f_u_law_draws := f19,
    d_u_law_draws := PySem.W.fnOf "_law_draws" "_law_draws" (defArgs s_u_law_draws) (defBody s_u_law_draws) (defScope s_u_law_draws) .none kV19 dc19 pm19 an19 cd19 ct19,
    f_u_law_is_int := f20,
    d_u_law_is_int := PySem.W.fnOf "_law_is_int" "_law_is_int" (defArgs s_u_law_is_int) (defBody s_u_law_is_int) (defScope s_u_law_is_int) .none kV20 dc20 pm20 an20 cd20 ct20,
    f_u_law_same := f21,
    d_u_law_same := PySem.W.fnOf "_law_same" "_law_same" (defArgs s_u_law_same) (defBody s_u_law_same) (defScope s_u_law_same) .none kV21 dc21 pm21 an21 cd21 ct21,
    f_u_law_name := f22,
    d_u_law_name := PySem.W.fnOf "_law_name" "_law_name" (defArgs s_u_law_name) (defBody s_u_law_name) (defScope s_u_law_name) .none kV22 dc22 pm22 an22 cd22 ct22,
    f_u_law_names := f23,
    d_u_law_names := PySem.W.fnOf "_law_names" "_law_names" (defArgs s_u_law_names) (defBody s_u_law_names) (defScope s_u_law_names) .none kV23 dc23 pm23 an23 cd23 ct23,
    f_u_law_gates := f24,
    d_u_law_gates := PySem.W.fnOf "_law_gates" "_law_gates" (defArgs s_u_law_gates) (defBody s_u_law_gates) (defScope s_u_law_gates) .none kV24 dc24 pm24 an24 cd24 ct24,
    f_u_law_rows := f25,
    d_u_law_rows := PySem.W.fnOf "_law_rows" "_law_rows" (defArgs s_u_law_rows) (defBody s_u_law_rows) (defScope s_u_law_rows) .none kV25 dc25 pm25 an25 cd25 ct25,
    f_u_law_spread := f26,
    d_u_law_spread := PySem.W.fnOf "_law_spread" "_law_spread" (defArgs s_u_law_spread) (defBody s_u_law_spread) (defScope s_u_law_spread) .none kV26 dc26 pm26 an26 cd26 ct26,
    f_u_law_strengths := f27,
    d_u_law_strengths := PySem.W.fnOf "_law_strengths" "_law_strengths" (defArgs s_u_law_strengths) (defBody s_u_law_strengths) (defScope s_u_law_strengths) .none kV27 dc27 pm27 an27 cd27 ct27,
    f_u_law_due := f28,
    d_u_law_due := PySem.W.fnOf "_law_due" "_law_due" (defArgs s_u_law_due) (defBody s_u_law_due) (defScope s_u_law_due) .none kV28 dc28 pm28 an28 cd28 ct28,
    f_u_law_fault := f29,
    d_u_law_fault := PySem.W.fnOf "_law_fault" "_law_fault" (defArgs s_u_law_fault) (defBody s_u_law_fault) (defScope s_u_law_fault) .none kV29 dc29 pm29 an29 cd29 ct29,
    f_u_law_refused := f30,
    d_u_law_refused := PySem.W.fnOf "_law_refused" "_law_refused" (defArgs s_u_law_refused) (defBody s_u_law_refused) (defScope s_u_law_refused) .none kV30 dc30 pm30 an30 cd30 ct30,
    f_u_law_loses := f31,
    d_u_law_loses := PySem.W.fnOf "_law_loses" "_law_loses" (defArgs s_u_law_loses) (defBody s_u_law_loses) (defScope s_u_law_loses) .none kV31 dc31 pm31 an31 cd31 ct31,
    f_law := fa,
    d_law := PySem.W.fnOf "law" "law" (defArgs s_law) (defBody s_law) (defScope s_law) .none kV32 dc32 pm32 an32 cd32 ct32,
    C_BadNumber := C_BadNumber,
    C_TooMany := C_TooMany,
    C_WrongLength := C_WrongLength,
    C_NoPlace := C_NoPlace,
    C_BadName := C_BadName,
    C_RepeatedName := C_RepeatedName,
    C_BadSpread := C_BadSpread,
    C_WatchError := C_WatchError,
    C_House := C_House,
    C_Watch := C_Watch,
    p_Watch_rows := p15 }
  have T : Txt K mg A := {
    F_BadNumber_init := fun_mk (st := s_BadNumber_init) l0 c0 k0,
    F_TooMany_init := fun_mk (st := s_TooMany_init) l1 c1 k1,
    F_WrongLength_init := fun_mk (st := s_WrongLength_init) l2 c2 k2,
    F_BadName_init := fun_mk (st := s_BadName_init) l3 c3 k3,
    F_RepeatedName_init := fun_mk (st := s_RepeatedName_init) l4 c4 k4,
    F_BadSpread_init := fun_mk (st := s_BadSpread_init) l5 c5 k5,
    F_check_name := fun_mk (st := s_check_name) l6 c6 k6,
    g_check_name := PySem.W.mg_of X G a6,
    k_check_name := k6,
    F_check_new_name := fun_mk (st := s_check_new_name) l7 c7 k7,
    g_check_new_name := PySem.W.mg_of X G a7,
    k_check_new_name := k7,
    F_House_init := fun_mk (st := s_House_init) l8 c8 k8,
    F_House_len := fun_mk (st := s_House_len) l9 c9 k9,
    F_is_gate := fun_mk (st := s_is_gate) l10 c10 k10,
    g_is_gate := PySem.W.mg_of X G a10,
    k_is_gate := k10,
    F_is_cell := fun_mk (st := s_is_cell) l11 c11 k11,
    g_is_cell := PySem.W.mg_of X G a11,
    k_is_cell := k11,
    F_total_tries := fun_mk (st := s_total_tries) l12 c12 k12,
    g_total_tries := PySem.W.mg_of X G a12,
    k_total_tries := k12,
    F_u_check_row := fun_mk (st := s_u_check_row) l13 c13 k13,
    g_u_check_row := PySem.W.mg_of X G a13,
    k_u_check_row := k13,
    F_Watch_init := fun_mk (st := s_Watch_init) l14 c14 k14,
    F_Watch_rows := fun_mk (st := s_Watch_rows) l15 c15 k15,
    F_Watch_getitem := fun_mk (st := s_Watch_getitem) l16 c16 k16,
    F_loss := fun_mk (st := s_loss) l17 c17 k17,
    g_loss := PySem.W.mg_of X G a17,
    k_loss := k17,
    F_u_law_cell := fun_mk (st := s_u_law_cell) l18 c18 k18,
    g_u_law_cell := PySem.W.mg_of X G a18,
    k_u_law_cell := k18,
    F_u_law_draws := fun_mk (st := s_u_law_draws) l19 c19 k19,
    g_u_law_draws := PySem.W.mg_of X G a19,
    k_u_law_draws := k19,
    F_u_law_is_int := fun_mk (st := s_u_law_is_int) l20 c20 k20,
    g_u_law_is_int := PySem.W.mg_of X G a20,
    k_u_law_is_int := k20,
    F_u_law_same := fun_mk (st := s_u_law_same) l21 c21 k21,
    g_u_law_same := PySem.W.mg_of X G a21,
    k_u_law_same := k21,
    F_u_law_name := fun_mk (st := s_u_law_name) l22 c22 k22,
    g_u_law_name := PySem.W.mg_of X G a22,
    k_u_law_name := k22,
    F_u_law_names := fun_mk (st := s_u_law_names) l23 c23 k23,
    g_u_law_names := PySem.W.mg_of X G a23,
    k_u_law_names := k23,
    F_u_law_gates := fun_mk (st := s_u_law_gates) l24 c24 k24,
    g_u_law_gates := PySem.W.mg_of X G a24,
    k_u_law_gates := k24,
    F_u_law_rows := fun_mk (st := s_u_law_rows) l25 c25 k25,
    g_u_law_rows := PySem.W.mg_of X G a25,
    k_u_law_rows := k25,
    F_u_law_spread := fun_mk (st := s_u_law_spread) l26 c26 k26,
    g_u_law_spread := PySem.W.mg_of X G a26,
    k_u_law_spread := k26,
    F_u_law_strengths := fun_mk (st := s_u_law_strengths) l27 c27 k27,
    g_u_law_strengths := PySem.W.mg_of X G a27,
    k_u_law_strengths := k27,
    F_u_law_due := fun_mk (st := s_u_law_due) l28 c28 k28,
    g_u_law_due := PySem.W.mg_of X G a28,
    k_u_law_due := k28,
    F_u_law_fault := fun_mk (st := s_u_law_fault) l29 c29 k29,
    g_u_law_fault := PySem.W.mg_of X G a29,
    k_u_law_fault := k29,
    F_u_law_refused := fun_mk (st := s_u_law_refused) l30 c30 k30,
    g_u_law_refused := PySem.W.mg_of X G a30,
    k_u_law_refused := k30,
    F_u_law_loses := fun_mk (st := s_u_law_loses) l31 c31 k31,
    g_u_law_loses := PySem.W.mg_of X G a31,
    k_u_law_loses := k31,
    F_law := fun_mk (st := s_law) l32 c32 k32,
    g_law := hfa,
    k_law := k32,
    c_LONGEST_NAME := ⟨_, PySem.W.mg_of X G kc_LONGEST_NAME⟩,
    c_MOST_TRIES := ⟨_, PySem.W.mg_of X G kc_MOST_TRIES⟩,
    c_LETTERS := ⟨_, PySem.W.mg_of X G kc_LETTERS⟩,
    z_abs := PySem.W.mg_none_of X G z_abs,
    z_len := PySem.W.mg_none_of X G z_len,
    z_int := PySem.W.mg_none_of X G z_int,
    z_bool := PySem.W.mg_none_of X G z_bool,
    z_str := PySem.W.mg_none_of X G z_str,
    z_list := PySem.W.mg_none_of X G z_list,
    z_tuple := PySem.W.mg_none_of X G z_tuple,
    z_isinstance := PySem.W.mg_none_of X G z_isinstance,
    z_range := PySem.W.mg_none_of X G z_range,
    z_ValueError := PySem.W.mg_none_of X G z_ValueError,
    z_min := PySem.W.mg_none_of X G z_min,
    z_max := PySem.W.mg_none_of X G z_max,
    z_sum := PySem.W.mg_none_of X G z_sum,
    z_enumerate := PySem.W.mg_none_of X G z_enumerate,
    g_BadNumber := PySem.W.mg_of X G g_BadNumber,
    g_TooMany := PySem.W.mg_of X G g_TooMany,
    g_WrongLength := PySem.W.mg_of X G g_WrongLength,
    g_NoPlace := PySem.W.mg_of X G g_NoPlace,
    g_BadName := PySem.W.mg_of X G g_BadName,
    g_RepeatedName := PySem.W.mg_of X G g_RepeatedName,
    g_BadSpread := PySem.W.mg_of X G g_BadSpread,
    g_WatchError := PySem.W.mg_of X G g_WatchError,
    g_House := PySem.W.mg_of X G g_House,
    g_Watch := PySem.W.mg_of X G g_Watch,
    ox_BadNumber := ⟨⟨nm_BadNumber, q_BadNumber, N_BadNumber, bs_BadNumber, _, sn_BadNumber, sub_BadNumber, ab_BadNumber, col_BadNumber, dd_BadNumber, m0_BadNumber, m1_BadNumber, m2_BadNumber, m3_BadNumber, m5_BadNumber, xL_BadNumber, rfl⟩, sa_BadNumber, exC_BadNumber, tyC_BadNumber, kC_BadNumber⟩,
    ni_BadNumber := a0,
    ti_BadNumber := ti_BadNumber,
    nf_BadNumber_name := nf_BadNumber_name,
    nf_BadNumber_value := nf_BadNumber_value,
    xf_BadNumber := ⟨ga_BadNumber, gg_BadNumber, exC_BadNumber, hdC_BadNumber⟩,
    ex_BadNumber := ⟨ga_BadNumber, gg_BadNumber, exC_BadNumber, hdC_BadNumber, ha_BadNumber, hn_, ht_, hm_BadNumber⟩,
    ox_TooMany := ⟨⟨nm_TooMany, q_TooMany, N_TooMany, bs_TooMany, _, sn_TooMany, sub_TooMany, ab_TooMany, col_TooMany, dd_TooMany, m0_TooMany, m1_TooMany, m2_TooMany, m3_TooMany, m5_TooMany, xL_TooMany, rfl⟩, sa_TooMany, exC_TooMany, tyC_TooMany, kC_TooMany⟩,
    ni_TooMany := a1,
    ti_TooMany := ti_TooMany,
    nf_TooMany_name := nf_TooMany_name,
    nf_TooMany_most := nf_TooMany_most,
    xf_TooMany := ⟨ga_TooMany, gg_TooMany, exC_TooMany, hdC_TooMany⟩,
    ex_TooMany := ⟨ga_TooMany, gg_TooMany, exC_TooMany, hdC_TooMany, ha_TooMany, hn_, ht_, hm_TooMany⟩,
    ox_BadName := ⟨⟨nm_BadName, q_BadName, N_BadName, bs_BadName, _, sn_BadName, sub_BadName, ab_BadName, col_BadName, dd_BadName, m0_BadName, m1_BadName, m2_BadName, m3_BadName, m5_BadName, xL_BadName, rfl⟩, sa_BadName, exC_BadName, tyC_BadName, kC_BadName⟩,
    ni_BadName := a3,
    ti_BadName := ti_BadName,
    nf_BadName_name := nf_BadName_name,
    xf_BadName := ⟨ga_BadName, gg_BadName, exC_BadName, hdC_BadName⟩,
    ex_BadName := ⟨ga_BadName, gg_BadName, exC_BadName, hdC_BadName, ha_BadName, hn_, ht_, hm_BadName⟩,
    ox_RepeatedName := ⟨⟨nm_RepeatedName, q_RepeatedName, N_RepeatedName, bs_RepeatedName, _, sn_RepeatedName, sub_RepeatedName, ab_RepeatedName, col_RepeatedName, dd_RepeatedName, m0_RepeatedName, m1_RepeatedName, m2_RepeatedName, m3_RepeatedName, m5_RepeatedName, xL_RepeatedName, rfl⟩, sa_RepeatedName, exC_RepeatedName, tyC_RepeatedName, kC_RepeatedName⟩,
    ni_RepeatedName := a4,
    ti_RepeatedName := ti_RepeatedName,
    nf_RepeatedName_name := nf_RepeatedName_name,
    xf_RepeatedName := ⟨ga_RepeatedName, gg_RepeatedName, exC_RepeatedName, hdC_RepeatedName⟩,
    ex_RepeatedName := ⟨ga_RepeatedName, gg_RepeatedName, exC_RepeatedName, hdC_RepeatedName, ha_RepeatedName, hn_, ht_, hm_RepeatedName⟩,
    ox_BadSpread := ⟨⟨nm_BadSpread, q_BadSpread, N_BadSpread, bs_BadSpread, _, sn_BadSpread, sub_BadSpread, ab_BadSpread, col_BadSpread, dd_BadSpread, m0_BadSpread, m1_BadSpread, m2_BadSpread, m3_BadSpread, m5_BadSpread, xL_BadSpread, rfl⟩, sa_BadSpread, exC_BadSpread, tyC_BadSpread, kC_BadSpread⟩,
    ni_BadSpread := a5,
    ti_BadSpread := ti_BadSpread,
    nf_BadSpread_index := nf_BadSpread_index,
    xf_BadSpread := ⟨ga_BadSpread, gg_BadSpread, exC_BadSpread, hdC_BadSpread⟩,
    ex_BadSpread := ⟨ga_BadSpread, gg_BadSpread, exC_BadSpread, hdC_BadSpread, ha_BadSpread, hn_, ht_, hm_BadSpread⟩,
    ox_WrongLength := ⟨⟨nm_WrongLength, q_WrongLength, N_WrongLength, bs_WrongLength, _, sn_WrongLength, sub_WrongLength, ab_WrongLength, col_WrongLength, dd_WrongLength, m0_WrongLength, m1_WrongLength, m2_WrongLength, m3_WrongLength, m5_WrongLength, xL_WrongLength, rfl⟩, sa_WrongLength, exC_WrongLength, tyC_WrongLength, kC_WrongLength⟩,
    ni_WrongLength := a2,
    ti_WrongLength := ti_WrongLength,
    nf_WrongLength_length := nf_WrongLength_length,
    xf_WrongLength := ⟨ga_WrongLength, gg_WrongLength, exC_WrongLength, hdC_WrongLength⟩,
    ex_WrongLength := ⟨ga_WrongLength, gg_WrongLength, exC_WrongLength, hdC_WrongLength, ha_WrongLength, hn_, ht_, hm_WrongLength⟩,
    xP_NoPlace := xP_NoPlace,
    kP_NoPlace := kP_NoPlace,
    bP_NoPlace := exC_NoPlace,
    tP_NoPlace := tyC_NoPlace,
    ex_NoPlace := ⟨ga_NoPlace, gg_NoPlace, exC_NoPlace, hdC_NoPlace, ha_NoPlace, hn_, ht_, hm_NoPlace⟩,
    xm_BadSpread_BadSpread := PySem.W.exm_ref exC_BadSpread hdC_BadSpread tyC_BadSpread meC_BadSpread,
    xm_TooMany_BadSpread := PySem.W.exm_ref exC_BadSpread hdC_BadSpread tyC_BadSpread sub_TooMany_BadSpread,
    xm_TooMany_TooMany := PySem.W.exm_ref exC_TooMany hdC_TooMany tyC_TooMany meC_TooMany,
    kit_BadSpread_WatchError := kit_yes hdC_WatchError tyC_WatchError sub_BadSpread_WatchError,
    kit_BadSpread_ValueError := kit_bi (by decide +kernel) sub_BadSpread_ValueError,
    kit_BadSpread_TooMany := kit_no hdC_TooMany tyC_TooMany meC_TooMany sub_BadSpread_TooMany,
    kit_TooMany_WatchError := kit_yes hdC_WatchError tyC_WatchError sub_TooMany_WatchError,
    kit_TooMany_ValueError := kit_bi (by decide +kernel) sub_TooMany_ValueError,
    cl_House := ⟨pg_House, hd_House, po_House, sa_House⟩,
    mk_House := ⟨mk_House, a8, if_8, kc_House⟩,
    na_House_hours := na_House_hours,
    na_House_names := na_House_names,
    na_House_stakes := na_House_stakes,
    ty_House := fun H a dx fs e => .base (.ins e ⟨pg_House, hd_House, po_House, sa_House⟩ ha_House hn_ ht_ hm_House),
    rd_House := ⟨.type "type", ⟨rd_House, gt_House⟩, ⟨_, cv_House_MOST_HOURS, ⟨_, rfl⟩⟩, ⟨_, cv_House_MOST_GATES, ⟨_, rfl⟩⟩, ⟨_, cv_House_MOST_CELLS, ⟨_, rfl⟩⟩, ⟨_, cv_House_MOST_STAKE, ⟨_, rfl⟩⟩⟩,
    cl_Watch := ⟨pg_Watch, hd_Watch, po_Watch, sa_Watch⟩,
    mk_Watch := ⟨mk_Watch, a14, if_14, kc_Watch⟩,
    na_Watch_house := na_Watch_house,
    na_Watch_rows := na_Watch_rows,
    ty_Watch := fun H a dx fs e => .base (.ins e ⟨pg_Watch, hd_Watch, po_Watch, sa_Watch⟩ ha_Watch hn_ ht_ hm_Watch),
    rd_Watch := ⟨.type "type", ⟨rd_Watch, gt_Watch⟩, ⟨_, cv_Watch_MOST, ⟨_, rfl⟩⟩⟩,
    M_House_len := ⟨a9, if_9, k9⟩,
    P_Watch_rows := ⟨pa_15, pg_15, pt_15, ⟨_, a15⟩⟩,
    M_Watch_getitem := ⟨a16, if_16, k16⟩,
    FI_Watch_getitem := fi_16 }
  exact ⟨A.d_law, fun s v => .of_eq rfl, fun base _ _ => ok_law T⟩
end
theorem walk {l : PySem.W.OpenLaw} {q : Program} {loose : List Str} {XP : (Str → Option Value) → Heap → Prop} {YP : World → Heap → Prop} {d : DefRec} {K : Params → PySem.W.Frag} (hn : l.most = some 63) (hdf : d.params.defaults = [])
    (hY : ∀ (w : World) (h : Heap), YP w h → (K w.params).In h)
    (F : ∀ (w : World) (mg : Str → Option Value) (fa : Addr) (h : Heap), (K w.params).In h → h.Ns mainGlobals mg → mg d.name = some (.ref fa) →
      ∃ fd : FuncData, (∀ (s : Shared) (u : Value), BindsTo s fd ⟨[u], []⟩ [("script", u)]) ∧ ∀ base : Heap, (K w.params).In base → base.Ns mainGlobals mg → FnOk l.prog w (K w.params) mg base CX0 20 fa fd ["script"] ((spLaw) (K w.params))) :
    PySem.W.WalkO q loose XP YP l.row.toRowW d [] (fun f vs => PySem.call f vs) :=
  L2.walk_of (n := 63) (k := 20) (x := "script") (CX := fun _ => CX0) (sp := fun w => (spLaw) (K w.params)) hn (by decide) hdf ⟨rfl, by decide, by decide⟩ hY F (fun _ _ a ns hl _ hS => ⟨a, ns, rfl, hS, hl, fun _ => rfl⟩) fun _ _ _ _ _ z => z
end Pf
open PySem PySem.W PyProof.Rows
set_option maxRecDepth 100000 in
set_option maxHeartbeats 0 in
theorem PySem.Challenge.cw_watchbeats_k38_loss_summed_holds : PySem.Challenge.rw_watchbeats_k38_loss_summed.Holds := by
  w_on; o_law; k_head; (case hw => w_witness2)
  k_fill
  refine Pf.walk (l := PySem.Challenge.rw_watchbeats_k38_loss_summed) rfl rfl (fun w h Y => PySem.W.kIn_of Y) ?F
  case F =>
    intro w mg fa h KX G hmg
    refine' Pf.all_mk KX G hmg ?g_BadNumber ?g_TooMany ?g_WrongLength ?g_NoPlace ?g_BadName ?g_RepeatedName ?g_BadSpread ?g_WatchError ?g_House ?g_Watch ?a0 ?l0 ?c0 ?k0 ?a1 ?l1 ?c1 ?k1 ?a2 ?l2 ?c2 ?k2 ?a3 ?l3 ?c3 ?k3 ?a4 ?l4 ?c4 ?k4 ?a5 ?l5 ?c5 ?k5 ?a6 ?l6 ?c6 ?k6 ?a7 ?l7 ?c7 ?k7 ?a8 ?l8 ?c8 ?k8 ?a9 ?l9 ?c9 ?k9 ?a10 ?l10 ?c10 ?k10 ?a11 ?l11 ?c11 ?k11 ?a12 ?l12 ?c12 ?k12 ?a13 ?l13 ?c13 ?k13 ?a14 ?l14 ?c14 ?k14 ?pa_15 ?a15 ?l15 ?c15 ?k15 ?a16 ?l16 ?c16 ?k16 ?a17 ?l17 ?c17 ?k17 ?a18 ?l18 ?c18 ?k18 ?a19 ?l19 ?c19 ?k19 ?a20 ?l20 ?c20 ?k20 ?a21 ?l21 ?c21 ?k21 ?a22 ?l22 ?c22 ?k22 ?a23 ?l23 ?c23 ?k23 ?a24 ?l24 ?c24 ?k24 ?a25 ?l25 ?c25 ?k25 ?a26 ?l26 ?c26 ?k26 ?a27 ?l27 ?c27 ?k27 ?a28 ?l28 ?c28 ?k28 ?a29 ?l29 ?c29 ?k29 ?a30 ?l30 ?c30 ?k30 ?a31 ?l31 ?c31 ?k31 ?a32 ?l32 ?c32 ?k32 ?kc_LONGEST_NAME ?kc_MOST_TRIES ?kc_LETTERS ?z_abs ?z_len ?z_int ?z_bool ?z_str ?z_list ?z_tuple ?z_isinstance ?z_range ?z_ValueError ?z_min ?z_max ?z_sum ?z_enumerate ?exC_BadNumber ?hdC_BadNumber ?tyC_BadNumber ?meC_BadNumber ?xL_BadNumber ?sa_BadNumber ?kC_BadNumber ?ti_BadNumber ?ga_BadNumber ?gg_BadNumber ?ha_BadNumber ?hn_ ?ht_ ?hm_BadNumber ?nf_BadNumber_name ?nf_BadNumber_value ?exC_TooMany ?hdC_TooMany ?tyC_TooMany ?meC_TooMany ?xL_TooMany ?sa_TooMany ?kC_TooMany ?ti_TooMany ?ga_TooMany ?gg_TooMany ?ha_TooMany ?hm_TooMany ?nf_TooMany_name ?nf_TooMany_most ?exC_BadName ?hdC_BadName ?tyC_BadName ?meC_BadName ?xL_BadName ?sa_BadName ?kC_BadName ?ti_BadName ?ga_BadName ?gg_BadName ?ha_BadName ?hm_BadName ?nf_BadName_name ?exC_RepeatedName ?hdC_RepeatedName ?tyC_RepeatedName ?meC_RepeatedName ?xL_RepeatedName ?sa_RepeatedName ?kC_RepeatedName ?ti_RepeatedName ?ga_RepeatedName ?gg_RepeatedName ?ha_RepeatedName ?hm_RepeatedName ?nf_RepeatedName_name ?exC_BadSpread ?hdC_BadSpread ?tyC_BadSpread ?meC_BadSpread ?xL_BadSpread ?sa_BadSpread ?kC_BadSpread ?ti_BadSpread ?ga_BadSpread ?gg_BadSpread ?ha_BadSpread ?hm_BadSpread ?nf_BadSpread_index ?exC_WrongLength ?hdC_WrongLength ?tyC_WrongLength ?meC_WrongLength ?xL_WrongLength ?sa_WrongLength ?kC_WrongLength ?ti_WrongLength ?ga_WrongLength ?gg_WrongLength ?ha_WrongLength ?hm_WrongLength ?nf_WrongLength_length ?exC_NoPlace ?hdC_NoPlace ?tyC_NoPlace ?meC_NoPlace ?xP_NoPlace ?kP_NoPlace ?ga_NoPlace ?gg_NoPlace ?ha_NoPlace ?hm_NoPlace ?sub_TooMany_BadSpread ?exC_WatchError ?hdC_WatchError ?tyC_WatchError ?meC_WatchError ?sub_BadSpread_WatchError ?sub_BadSpread_ValueError ?sub_BadSpread_TooMany ?sub_TooMany_WatchError ?sub_TooMany_ValueError ?pg_House ?hd_House ?po_House ?sa_House ?mk_House ?kc_House ?if_8 ?na_House_hours ?na_House_names ?na_House_stakes ?ha_House ?hm_House ?rd_House ?gt_House ?cv_House_MOST_HOURS ?cv_House_MOST_GATES ?cv_House_MOST_CELLS ?cv_House_MOST_STAKE ?pg_Watch ?hd_Watch ?po_Watch ?sa_Watch ?mk_Watch ?kc_Watch ?if_14 ?na_Watch_house ?na_Watch_rows ?ha_Watch ?hm_Watch ?rd_Watch ?gt_Watch ?cv_Watch_MOST ?if_9 ?pg_15 ?pt_15 ?if_16 ?fi_16
    (case g_BadNumber => k_is)
    (case g_TooMany => k_is)
    (case g_WrongLength => k_is)
    (case g_NoPlace => k_is)
    (case g_BadName => k_is)
    (case g_RepeatedName => k_is)
    (case g_BadSpread => k_is)
    (case g_WatchError => k_is)
    (case g_House => k_is)
    (case g_Watch => k_is)
    (case a0 => k_is)
    (case l0 => k_is)
    (case c0 => k_is)
    (case k0 => k_is)
    (case a1 => k_is)
    (case l1 => k_is)
    (case c1 => k_is)
    (case k1 => k_is)
    (case a2 => k_is)
    (case l2 => k_is)
    (case c2 => k_is)
    (case k2 => k_is)
    (case a3 => k_is)
    (case l3 => k_is)
    (case c3 => k_is)
    (case k3 => k_is)
    (case a4 => k_is)
    (case l4 => k_is)
    (case c4 => k_is)
    (case k4 => k_is)
    (case a5 => k_is)
    (case l5 => k_is)
    (case c5 => k_is)
    (case k5 => k_is)
    (case a6 => k_is)
    (case l6 => k_is)
    (case c6 => k_is)
    (case k6 => k_is)
    (case a7 => k_is)
    (case l7 => k_is)
    (case c7 => k_is)
    (case k7 => k_is)
    (case a8 => k_is)
    (case l8 => k_is)
    (case c8 => k_is)
    (case k8 => k_is)
    (case a9 => k_is)
    (case l9 => k_is)
    (case c9 => k_is)
    (case k9 => k_is)
    (case a10 => k_is)
    (case l10 => k_is)
    (case c10 => k_is)
    (case k10 => k_is)
    (case a11 => k_is)
    (case l11 => k_is)
    (case c11 => k_is)
    (case k11 => k_is)
    (case a12 => k_is)
    (case l12 => k_is)
    (case c12 => k_is)
    (case k12 => k_is)
    (case a13 => k_is)
    (case l13 => k_is)
    (case c13 => k_is)
    (case k13 => k_is)
    (case a14 => k_is)
    (case l14 => k_is)
    (case c14 => k_is)
    (case k14 => k_is)
    (case pa_15 => k_is)
    (case a15 => k_is)
    (case l15 => k_is)
    (case c15 => k_is)
    (case k15 => k_is)
    (case a16 => k_is)
    (case l16 => k_is)
    (case c16 => k_is)
    (case k16 => k_is)
    (case a17 => k_is)
    (case l17 => k_is)
    (case c17 => k_is)
    (case k17 => k_is)
    (case a18 => k_is)
    (case l18 => k_is)
    (case c18 => k_is)
    (case k18 => k_is)
    (case a19 => k_is)
    (case l19 => k_is)
    (case c19 => k_is)
    (case k19 => k_is)
    (case a20 => k_is)
    (case l20 => k_is)
    (case c20 => k_is)
    (case k20 => k_is)
    (case a21 => k_is)
    (case l21 => k_is)
    (case c21 => k_is)
    (case k21 => k_is)
    (case a22 => k_is)
    (case l22 => k_is)
    (case c22 => k_is)
    (case k22 => k_is)
    (case a23 => k_is)
    (case l23 => k_is)
    (case c23 => k_is)
    (case k23 => k_is)
    (case a24 => k_is)
    (case l24 => k_is)
    (case c24 => k_is)
    (case k24 => k_is)
    (case a25 => k_is)
    (case l25 => k_is)
    (case c25 => k_is)
    (case k25 => k_is)
    (case a26 => k_is)
    (case l26 => k_is)
    (case c26 => k_is)
    (case k26 => k_is)
    (case a27 => k_is)
    (case l27 => k_is)
    (case c27 => k_is)
    (case k27 => k_is)
    (case a28 => k_is)
    (case l28 => k_is)
    (case c28 => k_is)
    (case k28 => k_is)
    (case a29 => k_is)
    (case l29 => k_is)
    (case c29 => k_is)
    (case k29 => k_is)
    (case a30 => k_is)
    (case l30 => k_is)
    (case c30 => k_is)
    (case k30 => k_is)
    (case a31 => k_is)
    (case l31 => k_is)
    (case c31 => k_is)
    (case k31 => k_is)
    (case a32 => k_is)
    (case l32 => k_is)
    (case c32 => k_is)
    (case k32 => k_is)
    (case kc_LONGEST_NAME => k_is)
    (case kc_MOST_TRIES => k_is)
    (case kc_LETTERS => k_is)
    (case z_abs => k_is)
    (case z_len => k_is)
    (case z_int => k_is)
    (case z_bool => k_is)
    (case z_str => k_is)
    (case z_list => k_is)
    (case z_tuple => k_is)
    (case z_isinstance => k_is)
    (case z_range => k_is)
    (case z_ValueError => k_is)
    (case z_min => k_is)
    (case z_max => k_is)
    (case z_sum => k_is)
    (case z_enumerate => k_is)
    (case exC_BadNumber => k_is)
    (case hdC_BadNumber => k_is)
    (case tyC_BadNumber => k_is)
    (case meC_BadNumber => first | rfl | k_is)
    (case xL_BadNumber => k_is)
    (case sa_BadNumber => k_is)
    (case kC_BadNumber => k_is)
    (case ti_BadNumber => k_is)
    (case ga_BadNumber => k_is)
    (case gg_BadNumber => k_is)
    (case ha_BadNumber => k_is)
    (case hn_ => k_is)
    (case ht_ => k_is)
    (case hm_BadNumber => k_is)
    (case nf_BadNumber_name => k_is)
    (case nf_BadNumber_value => k_is)
    (case exC_TooMany => k_is)
    (case hdC_TooMany => k_is)
    (case tyC_TooMany => k_is)
    (case meC_TooMany => first | rfl | k_is)
    (case xL_TooMany => k_is)
    (case sa_TooMany => k_is)
    (case kC_TooMany => k_is)
    (case ti_TooMany => k_is)
    (case ga_TooMany => k_is)
    (case gg_TooMany => k_is)
    (case ha_TooMany => k_is)
    (case hm_TooMany => k_is)
    (case nf_TooMany_name => k_is)
    (case nf_TooMany_most => k_is)
    (case exC_BadName => k_is)
    (case hdC_BadName => k_is)
    (case tyC_BadName => k_is)
    (case meC_BadName => first | rfl | k_is)
    (case xL_BadName => k_is)
    (case sa_BadName => k_is)
    (case kC_BadName => k_is)
    (case ti_BadName => k_is)
    (case ga_BadName => k_is)
    (case gg_BadName => k_is)
    (case ha_BadName => k_is)
    (case hm_BadName => k_is)
    (case nf_BadName_name => k_is)
    (case exC_RepeatedName => k_is)
    (case hdC_RepeatedName => k_is)
    (case tyC_RepeatedName => k_is)
    (case meC_RepeatedName => first | rfl | k_is)
    (case xL_RepeatedName => k_is)
    (case sa_RepeatedName => k_is)
    (case kC_RepeatedName => k_is)
    (case ti_RepeatedName => k_is)
    (case ga_RepeatedName => k_is)
    (case gg_RepeatedName => k_is)
    (case ha_RepeatedName => k_is)
    (case hm_RepeatedName => k_is)
    (case nf_RepeatedName_name => k_is)
    (case exC_BadSpread => k_is)
    (case hdC_BadSpread => k_is)
    (case tyC_BadSpread => k_is)
    (case meC_BadSpread => first | rfl | k_is)
    (case xL_BadSpread => k_is)
    (case sa_BadSpread => k_is)
    (case kC_BadSpread => k_is)
    (case ti_BadSpread => k_is)
    (case ga_BadSpread => k_is)
    (case gg_BadSpread => k_is)
    (case ha_BadSpread => k_is)
    (case hm_BadSpread => k_is)
    (case nf_BadSpread_index => k_is)
    (case exC_WrongLength => k_is)
    (case hdC_WrongLength => k_is)
    (case tyC_WrongLength => k_is)
    (case meC_WrongLength => first | rfl | k_is)
    (case xL_WrongLength => k_is)
    (case sa_WrongLength => k_is)
    (case kC_WrongLength => k_is)
    (case ti_WrongLength => k_is)
    (case ga_WrongLength => k_is)
    (case gg_WrongLength => k_is)
    (case ha_WrongLength => k_is)
    (case hm_WrongLength => k_is)
    (case nf_WrongLength_length => k_is)
    (case exC_NoPlace => k_is)
    (case hdC_NoPlace => k_is)
    (case tyC_NoPlace => k_is)
    (case meC_NoPlace => first | rfl | k_is)
    (case xP_NoPlace => k_exc)
    (case kP_NoPlace => k_is)
    (case ga_NoPlace => k_is)
    (case gg_NoPlace => k_is)
    (case ha_NoPlace => k_is)
    (case hm_NoPlace => k_is)
    (case sub_TooMany_BadSpread => k_is)
    (case exC_WatchError => k_is)
    (case hdC_WatchError => k_is)
    (case tyC_WatchError => k_is)
    (case meC_WatchError => first | rfl | k_is)
    (case sub_BadSpread_WatchError => k_is)
    (case sub_BadSpread_ValueError => k_is)
    (case sub_BadSpread_TooMany => k_is)
    (case sub_TooMany_WatchError => k_is)
    (case sub_TooMany_ValueError => k_is)
    (case pg_House => k_is)
    (case hd_House => k_is)
    (case po_House => k_is)
    (case sa_House => k_is)
    (case mk_House => k_is)
    (case kc_House => k_is)
    (case if_8 => k_is)
    (case na_House_hours => k_is)
    (case na_House_names => k_is)
    (case na_House_stakes => k_is)
    (case ha_House => k_is)
    (case hm_House => k_is)
    (case rd_House => k_is)
    (case gt_House => k_is)
    (case cv_House_MOST_HOURS => k_is)
    (case cv_House_MOST_GATES => k_is)
    (case cv_House_MOST_CELLS => k_is)
    (case cv_House_MOST_STAKE => k_is)
    (case pg_Watch => k_is)
    (case hd_Watch => k_is)
    (case po_Watch => k_is)
    (case sa_Watch => k_is)
    (case mk_Watch => k_is)
    (case kc_Watch => k_is)
    (case if_14 => k_is)
    (case na_Watch_house => k_is)
    (case na_Watch_rows => k_is)
    (case ha_Watch => k_is)
    (case hm_Watch => k_is)
    (case rd_Watch => k_is)
    (case gt_Watch => k_is)
    (case cv_Watch_MOST => k_is)
    (case if_9 => k_is)
    (case pg_15 => k_is)
    (case pt_15 => k_is)
    (case if_16 => k_is)
    (case fi_16 => k_is)
#print axioms PySem.Challenge.cw_watchbeats_k38_loss_summed_holds
