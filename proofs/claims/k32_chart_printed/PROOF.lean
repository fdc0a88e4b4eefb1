import PyProof.Rows.All
import Wide.All
import OpenK.AllK
import Wide.FinOn
import HandS.ForMost
import HandS.Exc
import HandS.ExcInit
import HandS.ExcField
import HandS.ExcIs
import KE.KExcIs
import HandS.IsInst
import HandS.CallSlots
import HandS.WordsExc
import HandS.Wide
import HandS.Gcd
import HandS.Style
import HandS.Evl
import HandS.Property
import HandS.ClsMeth
import HandS.Deep
import HandS.IterVal
import HandS.OwnIter
import HandS.Conv
import KE.KOwnIter
import HandS.SortInts
import KE.KOpsOwn
import HandS.OwnEq
import HandS.SlotsOwn
import KE.DataCmp
import KE.SortData
import HandS.Walk
import HandS.ClsMeth
import HandS.IterVal
import KE.KCallOwn
import PyProof.InstNe
import PyProof.Conv_bool
import KE.KOpsOwn
import HandS.SlotsOwn
import HandS.Text
import HandS.Replace
import HandS.Strs
import KE.GoesEnum
import HandS.Iter
import HandS.Walk
import HandS.Zip
import KE.GoesZip
import KE.GoesMore
import HandS.Iter
import HandS.Walk
import PyProof.FString3
import PyProof.FString4
import HandS.FStr
import HandS.Text
import HandS.Gcd
import HandS.FStr
import PySem.Challenge.RW_watchbeats_k32_chart_printed
set_option Elab.async false
set_option linter.all false
set_option maxRecDepth 100000
set_option maxHeartbeats 4000000
/-! charts that are printed, def by def -/
namespace Pf
open PySem L2 Evl

def topS (i : Nat) : Stmt := PySem.Challenge.pw_watchbeats_k32_chart_printed.main.body.getD i (.Pass ⟨0, 0, 0, 0⟩)
abbrev s_BadNumber_init : Stmt := inClass (topS 7) 0
abbrev N_BadNumber_init : List Str := ["self", "name", "value"]
abbrev s_TooMany_init : Stmt := inClass (topS 8) 0
abbrev N_TooMany_init : List Str := ["self", "name", "most"]
abbrev s_SharedFactor_init : Stmt := inClass (topS 10) 0
abbrev N_SharedFactor_init : List Str := ["self", "factor"]
abbrev s_WrongLength_init : Stmt := inClass (topS 11) 0
abbrev N_WrongLength_init : List Str := ["self", "length"]
abbrev s_BadName_init : Stmt := inClass (topS 13) 0
abbrev N_BadName_init : List Str := ["self", "name"]
abbrev s_RepeatedName_init : Stmt := inClass (topS 14) 0
abbrev N_RepeatedName_init : List Str := ["self", "name"]
abbrev s_check_name : Stmt := topS 20
abbrev N_check_name : List Str := ["name", "letter"]
abbrev s_check_new_name : Stmt := topS 21
abbrev N_check_new_name : List Str := ["name", "names"]
abbrev s_House_init : Stmt := inClass (topS 19) 4
abbrev N_House_init : List Str := ["self", "hours", "gates", "names", "stakes", "name", "stake"]
abbrev s_House_len : Stmt := inClass (topS 19) 7
abbrev N_House_len : List Str := ["self"]
abbrev s_is_gate : Stmt := topS 22
abbrev N_is_gate : List Str := ["house", "gate"]
abbrev s_u_check_row : Stmt := topS 25
abbrev N_u_check_row : List Str := ["house", "row", "strength"]
abbrev s_Watch_init : Stmt := inClass (topS 24) 1
abbrev N_Watch_init : List Str := ["self", "house", "rows", "row"]
abbrev s_Watch_rows : Stmt := inClass (topS 24) 4
abbrev N_Watch_rows : List Str := ["self", "row"]
abbrev s_Watch_lshift : Stmt := inClass (topS 24) 12
abbrev N_Watch_lshift : List Str := ["self", "other", "hours", "rows", "row", "hour"]
abbrev s_Watch_mul : Stmt := inClass (topS 24) 14
abbrev N_Watch_mul : List Str := ["self", "other", "hours", "shared", "rows", "row", "stretched", "hour", "strength"]
abbrev s_Watch_neg : Stmt := inClass (topS 24) 13
abbrev N_Watch_neg : List Str := ["self"]
abbrev s_u_line : Stmt := topS 4
abbrev N_u_line : List Str := ["name", "numbers", "number"]
abbrev s_chart : Stmt := topS 3
abbrev N_chart : List Str := ["watch", "house", "rows", "name", "row"]
abbrev s_u_law_cell : Stmt := topS 28
abbrev N_u_law_cell : List Str := ["script", "k"]
abbrev s_u_law_draws : Stmt := topS 29
abbrev N_u_law_draws : List Str := ["cell", "salt", "menu", "found", "rest", "mixed", "k"]
abbrev s_u_law_is_int : Stmt := topS 31
abbrev N_u_law_is_int : List Str := ["x"]
abbrev s_u_law_same : Stmt := topS 32
abbrev N_u_law_same : List Str := ["got", "due", "k"]
abbrev s_u_law_rows : Stmt := topS 30
abbrev N_u_law_rows : List Str := ["gates", "n", "numbers", "rows", "at", "g", "row", "h"]
abbrev s_u_law_drawn_names : Stmt := topS 33
abbrev N_u_law_drawn_names : List Str := ["script", "count", "wide", "letters", "names", "g", "draws", "size", "word", "number", "turn"]
abbrev s_u_law_filled : Stmt := topS 34
abbrev N_u_law_filled : List Str := ["text", "width", "ahead", "blanks", "k"]
abbrev s_u_law_line : Stmt := topS 35
abbrev N_u_law_line : List Str := ["word", "numbers", "line", "number"]
abbrev s_u_law_charted : Stmt := topS 36
abbrev N_u_law_charted : List Str := ["watch", "names", "rows", "n", "due", "h", "g", "told", "line"]
abbrev s_law : Stmt := topS 37
abbrev N_law : List Str := ["script", "top", "count", "n", "names", "strengths", "cell", "x", "rows", "watch", "g", "row", "by", "later", "h", "back"]

theorem some_int {ns : List Int} {i : Nat} {y : V} (h : (ns.map V.int)[i]? = some y) : ∃ u, y = V.int u ∧ ns[i]? = some u := by
  rw [List.getElem?_map] at h
  cases e : ns[i]? with
  | none => rw [e] at h; cases h
  | some u => rw [e] at h; exact ⟨u, (Option.some.inj h).symm, rfl⟩
theorem wayT {c A B : Prop} [Decidable c] (h : c) (a : A) : if decide c = true then A else B := by rw [decide_eq_true h]; exact iteT a
theorem wayF {c A B : Prop} [Decidable c] (h : ¬ c) (b : B) : if decide c = true then A else B := by rw [decide_eq_false h]; exact iteF b
theorem way {c A B : Prop} [Decidable c] (a : c → A) (b : ¬ c → B) : if decide c = true then A else B := by
  by_cases h : c
  · exact wayT h (a h)
  · exact wayF h (b h)
theorem wayNT {c A B : Prop} [Decidable c] (h : c) (b : B) : if (!decide c) = true then A else B := by rw [decide_eq_true h]; exact iteF b
theorem wayNF {c A B : Prop} [Decidable c] (h : ¬ c) (a : A) : if (!decide c) = true then A else B := by rw [decide_eq_false h]; exact iteT a
theorem dec_ii {a b : Int} : decide (V.int a = V.int b) = decide (a = b) := by simp
theorem dec_bb {a b : Bool} : decide (V.bl a = V.bl b) = decide (a = b) := by simp
/-- the names of a comprehension's block within another scope -/
def relS (scope outer : Scope) : Scope := { scope with names := scope.names.map fun (n, k) => if (k == .free && outer.kind == .function && outer.names.lookup n == some .cell) then (n, .cell) else (n, k) }
/-- the ints that a comprehension over a range gives -/
def pick (n : Nat) (f : Nat → Bool) (g : Nat → Int) : List Int := ((List.range n).filter f).map g
theorem given_pick (n : Nat) (f : Nat → Bool) (g : Nat → Int) : given n f (fun i => V.int (g i)) = (pick n f g).map V.int := by
  unfold given pick
  rw [List.map_map]
  rfl
theorem pick_len (n : Nat) (f : Nat → Bool) (g : Nat → Int) : (pick n f g).length ≤ n := by
  unfold pick
  rw [List.length_map]
  have := List.length_filter_le f (List.range n)
  rwa [List.length_range] at this
theorem pick_congr {n : Nat} {f f' : Nat → Bool} {g : Nat → Int} (h : ∀ i, i < n → f i = f' i) : pick n f g = pick n f' g := by
  unfold pick
  rw [List.filter_congr fun i hi => h i (List.mem_range.mp hi)]
theorem el_rng2 {σ : L2.St} {H : Hp} {te : TE} {tt : TT} {ta : TA} {j : Nat} {vs : List Nat} {lo hi : Int} (f : Nat → Bool) (v : Nat → V) (h : EvA ta σ H [.int lo, .int hi]) (hn : 0 ≤ lo ∧ lo ≤ 40000 ∧ -40000 ≤ hi ∧ hi ≤ 40000)
    (hw : ∀ x, wipe ((wipe σ vs).set j (some x)) vs = wipe σ vs)
    (ht : ∀ (i : Nat) H1, Ex H H1 → lo + (i : Int) < hi → EvT tt ((wipe σ vs).set j (some (.int (lo + (i : Int))))) H1 (f i))
    (he : ∀ (i : Nat) H1, Ex H H1 → lo + (i : Int) < hi → f i = true → Ev te ((wipe σ vs).set j (some (.int (lo + (i : Int))))) H1 (v i)) :
    EvL (tLc (iRng2 ta) (gName j) tt te vs) σ H (given (hi - lo).toNat f v) := by
  intro H0 e Q q
  refine h H0 e _ fun H1 e1 => ⟨lo, hi, rfl, ⟨by omega, by omega, by omega, by omega⟩, fun D hD => ?_⟩
  exact lc_range (lo := lo) (n := (hi - lo).toNat) (Cw H1 f v D) ⟨hD, Ex.new hD, upd_same⟩
    (fun i H' hi' p => ⟨hw _, cw_turn p (by omega) (ht i H1 (e.trans e1) (by omega)) (fun hf => he i H1 (e.trans e1) (by omega) hf)⟩)
    (fun H' p => q D H' (fresh_back e1 p.1) (e1.trans p.2.1) p.2.2)
theorem given_list (xs : List Int) (p : Int → Bool) : given (xs.map V.int).length (fun i => p (xs.getD i 0)) (fun i => V.int (xs.getD i 0)) = (xs.filter p).map V.int := by
  rw [List.length_map]
  induction xs with
  | nil => rfl
  | cons x xs ih =>
    unfold given at ih ⊢
    rw [List.length_cons, List.range_succ_eq_map, List.filter_cons, List.filter_map]
    have e : ∀ (z : List Nat), (z.filter ((fun i => p ((x :: xs).getD i 0)) ∘ Nat.succ)) = z.filter fun i => p (xs.getD i 0) := fun z => List.filter_congr fun i _ => by simp
    rw [e]
    by_cases hp : p x = true
    · rw [if_pos (by simpa using hp), List.filter_cons, if_pos hp, List.map_cons, List.map_cons, ← ih, List.map_map]
      simp
    · rw [if_neg (by simpa using hp), List.filter_cons, if_neg hp, ← ih, List.map_map]
      simp
theorem el_lst1 {K : PySem.W.Frag} {σ : L2.St} {H : Hp} {te tl : TE} {tt : TT} {j : Nat} {vs : List Nat} {a : Addr} (xs : List Int) (p : Int → Bool) (h : Ev tl σ H (.ref a)) (hx : SqL K H a (xs.map V.int)) (hz : xs.length ≤ 40000)
    (hw : ∀ x, wipe ((wipe σ vs).set j (some x)) vs = wipe σ vs)
    (ht : ∀ (x : Int) H1, Ex H H1 → x ∈ xs → EvT tt ((wipe σ vs).set j (some (.int x))) H1 (p x))
    (he : ∀ (x : Int) H1, Ex H H1 → x ∈ xs → Ev te ((wipe σ vs).set j (some (.int x))) H1 (.int x)) :
    EvL (tLc (iList K tl) (gName j) tt te vs) σ H ((xs.filter p).map V.int) := by
  rw [← given_list]
  have get : ∀ (i : Nat) (x : V), (xs.map V.int)[i]? = some x → x = .int (xs.getD i 0) ∧ xs.getD i 0 ∈ xs := fun i x hi => by
    obtain ⟨u, e, hu⟩ := some_int hi
    rw [List.getD_eq_getElem?_getD, hu]
    exact ⟨e, List.mem_of_getElem? hu⟩
  refine el_lcL _ _ h hx (by rw [List.length_map]; exact hz) hw (fun i x H1 e1 hi => ?_) (fun i x H1 e1 hi _ => ?_)
  · obtain ⟨rfl, hm⟩ := get i x hi
    exact ht _ H1 e1 hm
  · obtain ⟨rfl, hm⟩ := get i x hi
    exact he _ H1 e1 hm
theorem given_gen {α : Type} (d : α) (ps : List α) (p : α → Bool) (v : α → V) : given ps.length (fun i => p (ps.getD i d)) (fun i => v (ps.getD i d)) = (ps.filter p).map v := by
  induction ps with
  | nil => rfl
  | cons x xs ih =>
    unfold given at ih ⊢
    rw [List.length_cons, List.range_succ_eq_map, List.filter_cons, List.filter_map]
    have e : ∀ (z : List Nat), (z.filter ((fun i => p ((x :: xs).getD i d)) ∘ Nat.succ)) = z.filter fun i => p (xs.getD i d) := fun z => List.filter_congr fun i _ => by simp
    rw [e]
    by_cases hp : p x = true
    · rw [if_pos (by simpa using hp), List.filter_cons, if_pos hp, List.map_cons, List.map_cons, ← ih, List.map_map]
      simp
    · rw [if_neg (by simpa using hp), List.filter_cons, if_neg hp, ← ih, List.map_map]
      simp
/-- a comprehension over a list whose items stand for the things of ps, the target of any form -/
theorem el_lstG {α : Type} (d : α) {K : PySem.W.Frag} {σ : L2.St} {H : Hp} {te tl : TE} {tt : TT} {g : TG} {vs : List Nat} {a : Addr} (xs : List V) (ps : List α) (p : α → Bool) (v : α → V) (τ : α → L2.St)
    (h : Ev tl σ H (.ref a)) (hx : SqL K H a xs) (hl : xs.length = ps.length) (hz : ps.length ≤ 40000)
    (hg : ∀ (i : Nat) x y H1 (k : L2.St → Hp → Prop), Ex H H1 → xs[i]? = some x → ps[i]? = some y → k (τ y) H1 → g x (wipe σ vs) H1 k)
    (hw : ∀ y, wipe (τ y) vs = wipe σ vs) (ht : ∀ y H1, Ex H H1 → y ∈ ps → EvT tt (τ y) H1 (p y)) (he : ∀ y H1, Ex H H1 → y ∈ ps → p y = true → Ev te (τ y) H1 (v y)) :
    EvL (tLc (iList K tl) g tt te vs) σ H ((ps.filter p).map v) := by
  rw [← given_gen d ps p v]
  intro H0 e0 Q q
  refine h H0 e0 _ fun H1 e1 => ⟨a, rfl, ⟨xs, ex_l (e0.trans e1) hx⟩, fun D hD => ?_⟩
  refine lc_list (xs := xs) (Cw H1 (fun i => p (ps.getD i d)) (fun i => v (ps.getD i d)) D) ⟨hD, Ex.new hD, upd_same⟩ (fun i H' _ c => ex_l ((e0.trans e1).trans c.2.1) hx) (fun i x H' hi c => ?_)
    (fun H' c => by rw [hl] at c; exact q D H' (fresh_back e1 c.1) (e1.trans c.2.1) c.2.2)
  have hil : i < ps.length := by
    have := (List.getElem?_eq_some_iff.mp hi).1
    omega
  have hy : ps[i]? = some (ps.getD i d) := by rw [List.getD_eq_getElem?_getD, List.getElem?_eq_getElem hil]; rfl
  refine hg i x _ H' _ ((e0.trans e1).trans c.2.1) hi hy ⟨hw _, ?_⟩
  exact cw_turn c (by omega) (ht _ H1 (e0.trans e1) (List.mem_of_getElem? hy)) (fun hf => he _ H1 (e0.trans e1) (List.mem_of_getElem? hy) hf)
/-- an if without else, then what follows where M holds -/
theorem q_alt {b : Bool} {t : TT} {tu tz : TS} {D : Ends} {σ : L2.St} {H : Hp} (M : L2.St → Hp → Prop) (h : EvT t σ H b) (h1 : b = true → ∀ H1, Ex H H1 → ∀ W : L2.St → Hp → Prop, (∀ σ' H', M σ' H' → W σ' H') → tu { D with nx := W } σ H1)
    (h2 : b = false → ∀ H1, Ex H H1 → M σ H1) (k : ∀ σ' H', M σ' H' → tz D σ' H') : tSeq (tIfS t tu tNext) tz D σ H :=
  q_when h (fun hb H1 e1 => h1 hb H1 e1 _ k) (fun hb H1 e1 => k _ _ (h2 hb H1 e1))
theorem q_two {b : Bool} {t : TT} {tu tw tz : TS} {D : Ends} {σ : L2.St} {H : Hp} (M : L2.St → Hp → Prop) (h : EvT t σ H b) (h1 : b = true → ∀ H1, Ex H H1 → ∀ W : L2.St → Hp → Prop, (∀ σ' H', M σ' H' → W σ' H') → tu { D with nx := W } σ H1)
    (h2 : b = false → ∀ H1, Ex H H1 → ∀ W : L2.St → Hp → Prop, (∀ σ' H', M σ' H' → W σ' H') → tw { D with nx := W } σ H1) (k : ∀ σ' H', M σ' H' → tz D σ' H') : tSeq (tIfS t tu tw) tz D σ H :=
  q_if h (fun hb H1 e1 => h1 hb H1 e1 _ k) (fun hb H1 e1 => h2 hb H1 e1 _ k)
/-- .. over a list that was just made -/
theorem el_lstN {α : Type} (d : α) {K : PySem.W.Frag} {σ : L2.St} {H : Hp} {te tl : TE} {tt : TT} {g : TG} {vs : List Nat} (xs : List V) (ps : List α) (p : α → Bool) (v : α → V) (τ : α → L2.St)
    (h : EvL tl σ H xs) (hl : xs.length = ps.length) (hz : ps.length ≤ 40000) (hg : ∀ (i : Nat) x y H1 (k : L2.St → Hp → Prop), Ex H H1 → xs[i]? = some x → ps[i]? = some y → k (τ y) H1 → g x (wipe σ vs) H1 k)
    (hw : ∀ y, wipe (τ y) vs = wipe σ vs) (ht : ∀ y H1, Ex H H1 → y ∈ ps → EvT tt (τ y) H1 (p y)) (he : ∀ y H1, Ex H H1 → y ∈ ps → p y = true → Ev te (τ y) H1 (v y)) :
    EvL (tLc (iList K tl) g tt te vs) σ H ((ps.filter p).map v) := by
  intro H0 e0 Q q
  refine h H0 e0 _ fun a H1 ha e1 h1 => ?_
  refine el_lstG (K := K) (te := te) (tl := tC (.ref a)) (tt := tt) (g := g) (vs := vs) (σ := σ) (H := H1) d xs ps p v τ ev_c (sq_of h1) hl hz (fun i x y H2 k e2 => hg i x y H2 k ((e0.trans e1).trans e2)) hw (fun y H2 e2 => ht y H2 ((e0.trans e1).trans e2)) (fun y H2 e2 => he y H2 ((e0.trans e1).trans e2)) H1 (Ex.refl _) Q fun b H2 hb e2 h2 => q b H2 (fresh_back e1 hb) (e1.trans e2) h2
theorem pick_succ {n : Nat} {f : Nat → Bool} {g : Nat → Int} : pick (n + 1) f g = pick n f g ++ (if f n = true then [g n] else []) := by
  unfold pick
  rw [List.range_succ, List.filter_append, List.map_append, List.filter_cons]
  by_cases h : f n = true
  · rw [if_pos h, if_pos h]; rfl
  · rw [if_neg h, if_neg h]; rfl
theorem ev_gcd {σ : L2.St} {H : Hp} {ta : TA} {a b : Int} (h : EvA ta σ H [.int a, .int b]) : Ev (tCB rGcd ta) σ H (.int ((Nat.gcd a.natAbs b.natAbs : Nat) : Int)) :=
  ev_cb h fun H1 _ _ q => ⟨a, b, rfl, q H1 (Ex.refl H1)⟩
/-! ### rules whose reading says K by its own letter (within a comprehension's block too) -/
theorem ix_lK {X : Cx} {K : PySem.W.Frag} (h : X.K = K := by rfl) : IxR X (rIxL K) := by subst h; exact ix_list
theorem ix_tK {X : Cx} {K : PySem.W.Frag} (h : X.K = K := by rfl) : IxR X (rIxT K) := by subst h; exact ix_tup
theorem ix_sK {X : Cx} {K : PySem.W.Frag} (h : X.K = K := by rfl) : IxR X (rIx K) := by subst h; exact ix_seq
def rLenK (K : PySem.W.Frag) : List V → Hp → VK → Prop := fun xs H Q => ∃ x n, xs = [x] ∧ LenV K x H n ∧ Q (.int (n : Nat)) H
theorem len_K {X : Cx} {K : PySem.W.Frag} (h : X.K = K := by rfl) : CallR X (.builtin "len") (rLenK K) := by subst h; exact call_len
def rListK (K : PySem.W.Frag) : List V → Hp → VK → Prop := fun zs H Q => ∃ p ys, zs = [.ref p] ∧ (SqL K H p ys ∨ SqT K H p ys) ∧
  ∀ l, H l = none → Q (.ref l) (upd H l (.lst ys))
theorem list_K {X : Cx} {K : PySem.W.Frag} (h : X.K = K := by rfl) : CallR X (.type "list") (rListK K) := by subst h; exact call_list_of
theorem in_K {X : Cx} {K : PySem.W.Frag} (h : X.K = K := by rfl) : OpR X (compareOp .In) (rIn K false) := by subst h; exact op_in_seq
theorem notin_K {X : Cx} {K : PySem.W.Frag} (h : X.K = K := by rfl) : OpR X (compareOp .NotIn) (rIn K true) := by subst h; exact op_notIn_seq
theorem pg_tupK {X : Cx} {K : PySem.W.Frag} {pos : Pos} {es : List Expr} {k : Nat} {t : TGs} {n : Nat} (hk : X.K = K) (hc : X.calm = true) (h : PGs X es t)
    (hn : (assignEach es X.env).length = n := by rfl) (hst : (assignEach es X.env).findIdx? (·.1) = none := by rfl) : PG X (.Tuple es k pos) (gTup K n t) := by subst hk; exact pg_tup hc h hn hst
theorem pe_fldK {X : Cx} {K : PySem.W.Frag} {e : Expr} {f : Str} {pos : Pos} {ta : TE} (he : PE X e ta) (hb : attributeBase e f X.env (eval e X.env) = eval e X.env) (hk : X.K = K := by rfl) : PE X (.Attribute e f pos) (tFld K ta f) := by subst hk; exact pe_fld he hb
theorem eqD_K {X : Cx} {K : PySem.W.Frag} (hu : X.A.units + 64 < cLine) (hk : X.K = K := by rfl) : OpR X (compareOp .Eq) (rEqD K) := by subst hk; exact op_eqD hu
theorem neD_K {X : Cx} {K : PySem.W.Frag} (hu : X.A.units + 64 < cLine) (hk : X.K = K := by rfl) : OpR X (compareOp .NotEq) (rNeD K) := by subst hk; exact op_neD hu
theorem isi_K {X : Cx} {K : PySem.W.Frag} (h : X.K = K := by rfl) : CallR X (.builtin "isinstance") (rIsi K) := by subst h; exact call_isi
/-! ### data -/
/-- data of a depth below n, of lists and tuples that are not too long -/
def Flat : Nat → PyData → Prop
  | 0, _ => False
  | n + 1, .list ds => ds.length ≤ 40000 ∧ ∀ d ∈ ds, Flat n d
  | n + 1, .tuple ds => ds.length ≤ 40000 ∧ ∀ d ∈ ds, Flat n d
  | _ + 1, .dict _ => False
  | _ + 1, _ => True
theorem dp_get {K : PySem.W.Frag} {H : Hp} : ∀ {xs : List V} {ds : List PyData}, DpAll K H xs ds → xs.length = ds.length ∧ ∀ (i : Nat) (d : PyData), ds[i]? = some d → ∃ x, xs[i]? = some x ∧ Dp K H x d
  | _, _, .nil => ⟨rfl, fun i d h => by simp at h⟩
  | _, _, .cons a r => by
    obtain ⟨l, g⟩ := dp_get r
    refine ⟨by simp [l], fun i d h => ?_⟩
    cases i with
    | zero => exact ⟨_, rfl, by simp at h; subst h; exact a⟩
    | succ i => simpa using g i d (by simpa using h)
theorem flatI {ns : List Int} (h : ns.length ≤ 360) : Flat 4 (.list (ns.map .int)) :=
  ⟨by rw [List.length_map]; omega, fun d hd => by
    obtain ⟨i, _, rfl⟩ := List.mem_map.mp hd
    exact True.intro⟩
theorem dp_ints {K : PySem.W.Frag} {H : Hp} : ∀ ns : List Int, DpAll K H (ns.map V.int) (ns.map PyData.int)
  | [] => .nil
  | n :: ns => .cons (.int n) (dp_ints ns)
mutual
theorem dp_ex {K : PySem.W.Frag} {H H' : Hp} (e : Ex H H') : ∀ {v : V} {d : PyData}, Dp K H v d → Dp K H' v d
  | _, _, .non => .non
  | _, _, .bl b => .bl b
  | _, _, .int i => .int i
  | _, _, .str x => .str x
  | _, _, .lst s a => .lst (ex_l e s) (dpa_ex e a)
  | _, _, .tup s a => .tup (ex_t e s) (dpa_ex e a)
theorem dpa_ex {K : PySem.W.Frag} {H H' : Hp} (e : Ex H H') : ∀ {vs : List V} {ds : List PyData}, DpAll K H vs ds → DpAll K H' vs ds
  | _, _, .nil => .nil
  | _, _, .cons a r => .cons (dp_ex e a) (dpa_ex e r)
end
theorem tyx_l {K : PySem.W.Frag} {H : Hp} {a : Addr} {xs : List V} (h : SqL K H a xs) : TyX K H (.ref a) (.type "list") := by
  rcases h with (h | ⟨o, h⟩) | ⟨o, its, n, h, c, _⟩
  · exact .base (.lst h)
  · exact .base (.frz h)
  · exact .kList h c
theorem tyx_t {K : PySem.W.Frag} {H : Hp} {a : Addr} {xs : List V} (h : SqT K H a xs) : TyX K H (.ref a) (.type "tuple") := by
  rcases h with (h | ⟨o, h⟩) | ⟨o, its, n, h, c, _⟩
  · exact .base (.tup h)
  · exact .fTuple h
  · exact .kTuple h c
/-- x is True, x is False, whatever x is -/
def rIsK : R2 := fun x y H Q => ∃ b : Bool, y = .bl b ∧ Q (.bl (decide (x = .bl b))) H
theorem op_isK {X : Cx} : OpR X (compareOp .Is) rIsK := by
  intro pins s σ H x y v u Q I rx ry h
  obtain ⟨b, hy, q⟩ := h
  subst hy
  cases (show u = Value.bool b from ry)
  have fin : ∀ k : Bool, k = decide (x = V.bl b) → EP X pins σ Q (.bool k) s := fun k e => ⟨.bl k, H, I, rfl, by rw [e]; exact q⟩
  cases x with
  | non => cases (show v = Value.none from rx); exact wpAny_is_other rfl (fun z => by cases z) (fin _ (by simp))
  | bl a =>
    cases (show v = Value.bool a from rx)
    by_cases e : a = b
    · subst e; exact wpAny_is_self rfl (fin _ (by simp))
    · exact wpAny_is_other rfl (fun z => e (Value.bool.inj z)) (fin _ (by simp [e]))
  | int i => obtain ⟨t, ev⟩ := rx; subst ev; exact wpAny_is_other rfl (fun z => by cases z) (fin _ (by simp))
  | str i => obtain ⟨t, ev⟩ := rx; subst ev; exact wpAny_is_other rfl (fun z => by cases z) (fin _ (by simp))
  | byt i => obtain ⟨t, ev⟩ := rx; subst ev; exact wpAny_is_other rfl (fun z => by cases z) (fin _ (by simp))
  | flt i => obtain ⟨t, ev⟩ := rx; subst ev; exact wpAny_is_other rfl (fun z => by cases z) (fin _ (by simp))
  | ref a => cases (show v = Value.ref a from rx); exact wpAny_is_other rfl (fun z => by cases z) (fin _ (by simp))
  | ty n => cases (show v = Value.type n from rx); exact wpAny_is_other rfl (fun z => by cases z) (fin _ (by simp))
theorem atI_ints {ns : List Int} {i : Int} (h0 : 0 ≤ i) (h1 : i < (ns.length : Int)) : atI (ns.map V.int) i = some (.int (ns.getD i.toNat 0)) := by
  obtain ⟨j, rfl⟩ : ∃ j : Nat, i = (j : Int) := ⟨i.toNat, by omega⟩
  refine atI_nat ?_
  have hj : j < ns.length := by omega
  rw [List.getElem?_map, Int.toNat_natCast, List.getD_eq_getElem?_getD, List.getElem?_eq_getElem hj]
  rfl
/-! ### a caught error with fields -/
def rIsX (K : PySem.W.Frag) (D a : Addr) (cls : Value) (d : Option Addr) : List V → Hp → VK → Prop := fun xs H Q => cls = .ref D ∧ ∃ (dd : Addr) (fs : List (Str × V)) (c : V) (cv : Value) (b : Bool),
  d = some dd ∧ H dd = some (.xd fs) ∧ xs = [.ref a, c] ∧ (∀ u, RelV c u → u = cv) ∧ PySem.W.kitOne K (.ref D) cv = some b ∧ Q (.bl b) H
theorem call_isX {X : Cx} {a D : Addr} {oe : Obj} {cls : Value} {d : Option Addr} {pn : List (Addr × Obj)} (C : ExcC X.K D) (hz : Zc cls d oe) (hf : ∃ vs, oe.data = .fields vs) : CallR (X.suite a ((a, oe) :: pn)) (.builtin "isinstance") (rIsX X.K D a cls d) := by
  intro pins sh σ H zs us Q I rr hq
  obtain ⟨ec, dd, fs, c, cv, b, ed, hx, ez, hcv, hk, q⟩ := hq
  subst ez
  obtain ⟨u1, u2, eu, r1, r2⟩ := vals2 rr
  subst eu
  cases (show u1 = Value.ref a from r1)
  have e2 := hcv _ r2
  subst e2
  obtain ⟨hget, _⟩ := I.pin (a, oe) (List.mem_append.mpr (.inl List.mem_cons_self))
  obtain ⟨vs, hv⟩ := hf
  have ho : ObjOk X.prog X.w H sh.heap dd (.xd fs) := I.hok dd _ hx
  obtain ⟨mA, hns, _⟩ := ho
  obtain ⟨od, hod, _⟩ := lookIn_ns hns
  obtain ⟨cd, hcd, _⟩ := PySem.W.any_some C.hd
  have hcl : (PySem.W.clsIn X.K D).isSome = true := by rw [hcd]; rfl
  have J : PySem.W.InstAt sh.heap a oe D (some od) := ⟨hget, hz.1.trans ec, by unfold PySem.W.notCls; rw [hv], by rw [hz.2, ed]; exact hod⟩
  exact PySem.W.kia_one (PySem.W.kitx_exc hcl C.hg C.hk C.hs C.ha C.hn C.ht C.hm) I.kIn J hk (fun z => nomatch z) fun tk => ⟨.bl b, H, I.tok tk, rfl, q⟩
def rIsN (K : PySem.W.Frag) (D a : Addr) (cls : Value) (d : Option Addr) : List V → Hp → VK → Prop := fun xs H Q => cls = .ref D ∧ d = none ∧ rIsE K D a xs H Q
theorem call_isN {X : Cx} {a D : Addr} {oe : Obj} {cls : Value} {d : Option Addr} {pn : List (Addr × Obj)} (C : ExcC X.K D) (hz : Zc cls d oe) (hf : ∃ vs, oe.data = .fields vs) : CallR (X.suite a ((a, oe) :: pn)) (.builtin "isinstance") (rIsN X.K D a cls d) := by
  intro pins s σ H xs us Q I r h
  obtain ⟨e1, e2, h⟩ := h
  subst e1 e2
  exact call_isE C hz hf pins s σ H xs us Q I r h
/-- X(), X an error class without __init__ -/
theorem pmk_none {X : Cx} {C : Addr} {bmB : List Value} {B newId initId : String} {x : Str} {p pos : Pos} (F : PySem.ExcBaseFacts B newId initId bmB) (q : PySem.W.excIn X.K C bmB newId = true) (gC : X.mg x = some (.ref C)) (kC : PySem.W.keepIn X.K (.ref C) = true)
    (r : Raises X (.ref C)) (hg : Gl X x) (hdb : (x == ("__debug__" : Str)) = false := by decide) : PMk X (.Call (.Name x p) [] [] pos) (fun _ H Q => Q (.ref C) none H) := by
  intro pins s σ H Q I h
  refine wpAny_Call_Name_kw (ld_glob I hg gC ?_ hdb)
  refine PySem.W.callWith_K0 I.kIn kC ?_
  obtain ⟨bm, N, nm, qn, bs, hdct, sn, sub, ab, col, dd, k0, k1, k2, k3, k5, mN, hC, hN, hni, T⟩ := exc_obj I.kIn q
  refine wpAny_call_exc_subT F T hC hN hni (fun h' e hm => ?_) (Nat.zero_le _)
  exact mk_of I hm r h (I.hok.gone hm.new)
/-- a list drawn by a menu -/
def Drawn (ms ds : List Int) : Prop := ds.length = ms.length ∧ ∀ (i : Nat) (m : Int), ms[i]? = some m → ∃ d : Int, ds[i]? = some d ∧ 0 ≤ d ∧ d < m
theorem kitCls_own {K : PySem.W.Frag} {t : Value} {C : Addr} (hd : PySem.W.hasDictIn K C = true) (ty : PySem.W.typeIn K (.ref C) = some (.type "type")) : PySem.W.kitCls K t (.ref C) = PySem.W.subIn K t (.ref C) := by
  obtain ⟨cd, hc, _⟩ := PySem.W.any_some hd
  unfold PySem.W.kitCls
  simp [hc, ty]
theorem kit_self {K : PySem.W.Frag} {t : Value} : PySem.W.kitOne K t t = some true := by
  unfold PySem.W.kitOne
  rw [if_pos (beq_self_eq_true t)]
theorem kit_yes {K : PySem.W.Frag} {t : Value} {C : Addr} (hd : PySem.W.hasDictIn K C = true) (ty : PySem.W.typeIn K (.ref C) = some (.type "type")) (s : PySem.W.subIn K t (.ref C) = some true) : PySem.W.kitOne K t (.ref C) = some true := by
  unfold PySem.W.kitOne
  split
  · rfl
  · rw [kitCls_own hd ty]; exact s
theorem kit_no {K : PySem.W.Frag} {t : Value} {C : Addr} (hd : PySem.W.hasDictIn K C = true) (ty : PySem.W.typeIn K (.ref C) = some (.type "type")) (me : PySem.W.subIn K (.ref C) (.ref C) = some true) (s : PySem.W.subIn K t (.ref C) = some false) : PySem.W.kitOne K t (.ref C) = some false := by
  unfold PySem.W.kitOne
  split
  · rename_i e
    rw [beq_iff_eq] at e
    rw [e, me] at s
    cases s
  · rw [kitCls_own hd ty]; exact s
theorem kit_bi {K : PySem.W.Frag} {C : Addr} {n : String} {b : Bool} (hm : PySem.W.kitMeta n = true) (s : PySem.W.subIn K (.ref C) (.type n) = some b) : PySem.W.kitOne K (.ref C) (.type n) = some b := by
  unfold PySem.W.kitOne PySem.W.kitCls
  rw [if_neg (by simp)]
  show (if PySem.W.kitMeta n = true then PySem.W.subIn K (.ref C) (.type n) else none) = some b
  rw [if_pos hm]
  exact s
theorem drawn4 {a b c d : Int} {ds : List Int} (h : Drawn [a, b, c, d] ds) : ∃ w x y z, ds = [w, x, y, z] ∧ (0 ≤ w ∧ w < a) ∧ (0 ≤ x ∧ x < b) ∧ (0 ≤ y ∧ y < c) ∧ (0 ≤ z ∧ z < d) := by
  obtain ⟨hl, g⟩ := h
  match ds, hl with
  | [w, x, y, z], _ =>
    obtain ⟨w', e0, h0⟩ := g 0 a rfl
    obtain ⟨x', e1, h1⟩ := g 1 b rfl
    obtain ⟨y', e2, h2⟩ := g 2 c rfl
    obtain ⟨z', e3, h3⟩ := g 3 d rfl
    cases e0; cases e1; cases e2; cases e3
    exact ⟨_, _, _, _, rfl, h0, h1, h2, h3⟩
/-! ### own errors with one field and with two -/
def spErr1 (K : PySem.W.Frag) (C : Addr) (f : Str) : Sp := fun vs H Q _ => ∃ (a : Addr) (x : V), vs = [.ref a, x] ∧ OexC K C ∧ H a = some (exo a C none) ∧ ∀ d, H d = none → d ≠ a → Q .non (upd (upd H d (exd d [(f, x)])) a (exo a C (some d)))
def spErr2 (K : PySem.W.Frag) (C : Addr) (f g : Str) : Sp := fun vs H Q _ => ∃ (a : Addr) (x y : V), vs = [.ref a, x, y] ∧ OexC K C ∧ H a = some (exo a C none) ∧
  ∀ d, H d = none → d ≠ a → Q .non (upd (upd (upd H d (exd d [(f, x)])) a (exo a C (some d))) d (exd d [(g, y), (f, x)]))
theorem raise1 {K : PySem.W.Frag} {C : Addr} {f : Str} {H : Hp} {E : XK} {σ : L2.St} {ta : TA} {x : V} (hC : OexC K C) (hta : ∀ Q : List V → Hp → Prop, Q [x] H → ta σ H Q)
    (k : ∀ d H', Ex H H' → H' d = some (.xd [(f, x)]) → E (.ref C) (some d) H') : tMkO C (spErr1 K C f) [] ta σ H E := by
  refine hta _ ⟨by show (1 : Nat) ≤ 1000; decide, fun a ha => ⟨a, x, rfl, hC, upd_same, fun d hd hne => ?_⟩⟩
  have hd' : H d = none := by rw [upd_ne hne] at hd; exact hd
  have han : a ≠ d := fun e => hne e.symm
  refine ⟨rfl, d, _, upd_same, ?_, hd', k d _ (fun b o hb => ?_) upd_same⟩
  · rw [upd_ne hne, upd_same]
  · have h1 : b ≠ a := ne_of_none hb ha
    have h2 : b ≠ d := ne_of_none hb hd'
    rw [upd_ne h2, del_ne h1, upd_ne h1, upd_ne h2, upd_ne h1]
    exact hb
theorem raise2 {K : PySem.W.Frag} {C : Addr} {f g : Str} {H : Hp} {E : XK} {σ : L2.St} {ta : TA} {x y : V} (hC : OexC K C) (hta : ∀ Q : List V → Hp → Prop, Q [x, y] H → ta σ H Q)
    (k : ∀ d H', Ex H H' → H' d = some (.xd [(g, y), (f, x)]) → E (.ref C) (some d) H') : tMkO C (spErr2 K C f g) [] ta σ H E := by
  refine hta _ ⟨by show (2 : Nat) ≤ 1000; decide, fun a ha => ⟨a, x, y, rfl, hC, upd_same, fun d hd hne => ?_⟩⟩
  have hd' : H d = none := by rw [upd_ne hne] at hd; exact hd
  have han : a ≠ d := fun e => hne e.symm
  refine ⟨rfl, d, _, ?_, upd_same, hd', k d _ (fun b o hb => ?_) upd_same⟩
  · rw [upd_ne han, upd_same]
  · have h1 : b ≠ a := ne_of_none hb ha
    have h2 : b ≠ d := ne_of_none hb hd'
    rw [upd_ne h2, del_ne h1, upd_ne h2, upd_ne h1, upd_ne h2, upd_ne h1]
    exact hb
/-- what a cell of the script is worth -/
def cellA (ns : List Int) (k : Nat) : Int := if k < ns.length then (if ns.getD k 0 < 0 then - ns.getD k 0 else ns.getD k 0) else 0
theorem cellA_nn (ns : List Int) (k : Nat) : 0 ≤ cellA ns k := by
  unfold cellA
  split
  · split <;> omega
  · omega
/-! ### evaluation with a property; loops over what a call gives -/
def EvR (te : TE) (σ : L2.St) (H : Hp) (P : V → Hp → Prop) : Prop := ∀ H1, Ex H H1 → ∀ Q : VK, (∀ v H2, Ex H1 H2 → P v H2 → Q v H2) → te σ H1 Q
theorem er_ev {te : TE} {σ : L2.St} {H : Hp} {v : V} {P : V → Hp → Prop} (h : Ev te σ H v) (hp : ∀ H1, Ex H H1 → P v H1) : EvR te σ H P := fun H1 e Q q => h H1 e Q fun H2 e2 => q v H2 e2 (hp H2 (e.trans e2))
theorem EvR.mono {te : TE} {σ : L2.St} {H H' : Hp} {P : V → Hp → Prop} (e : Ex H H') (h : EvR te σ H P) : EvR te σ H' P := fun H1 a Q q => h H1 (e.trans a) Q q
theorem EvR.imp {te : TE} {σ : L2.St} {H : Hp} {P P' : V → Hp → Prop} (h : EvR te σ H P) (i : ∀ v H1, P v H1 → P' v H1) : EvR te σ H P' := fun H1 a Q q => h H1 a Q fun v H2 e p => q v H2 e (i v H2 p)
theorem er_L {te : TE} {σ : L2.St} {H : Hp} {xs : List V} (h : EvL te σ H xs) : EvR te σ H fun v H1 => ∃ p, v = .ref p ∧ H1 p = some (.lst xs) := fun H1 e Q q => h H1 e Q fun p H2 _ e2 hp => q _ H2 e2 ⟨p, rfl, hp⟩
theorem s_asgR {te : TE} {D : Ends} {σ : L2.St} {H : Hp} {i : Nat} {P : V → Hp → Prop} (h : EvR te σ H P) (k : ∀ v H1, Ex H H1 → P v H1 → D.nx (σ.set i (some v)) H1) : tAsg te (gName i) D σ H := h H (Ex.refl H) _ fun v H1 e p => k v H1 e p
theorem q_asgR {te : TE} {tz : TS} {D : Ends} {σ : L2.St} {H : Hp} {i : Nat} {P : V → Hp → Prop} (h : EvR te σ H P) (k : ∀ v H1, Ex H H1 → P v H1 → tz D (σ.set i (some v)) H1) : tSeq (tAsg te (gName i)) tz D σ H := s_asgR (D := { D with nx := tz D }) h k
theorem s_retR {te : TE} {D : Ends} {σ : L2.St} {H : Hp} {P : V → Hp → Prop} (h : EvR te σ H P) (k : ∀ v H1, Ex H H1 → P v H1 → D.rt v H1) : tRet te D σ H := h H (Ex.refl H) _ fun v H1 e p => k v H1 e p
theorem for_via {K : PySem.W.Frag} {tl : TE} {g : TG} {tu : TS} {D : Ends} {σ : L2.St} {H : Hp} {P : V → Hp → Prop} (h : EvR tl σ H P) (k : ∀ v H1, Ex H H1 → P v H1 → tFor (iList K (tC v)) g tu D σ H1) : tFor (iList K tl) g tu D σ H :=
  h H (Ex.refl H) _ fun v H1 e p => k v H1 e p
theorem q_forVia {K : PySem.W.Frag} {tl : TE} {g : TG} {tu tz : TS} {D : Ends} {σ : L2.St} {H : Hp} {P : V → Hp → Prop} (h : EvR tl σ H P) (k : ∀ v H1, Ex H H1 → P v H1 → tSeq (tFor (iList K (tC v)) g tu) tz D σ H1) : tSeq (tFor (iList K tl) g tu) tz D σ H :=
  h H (Ex.refl H) _ fun v H1 e p => k v H1 e p
theorem ev_int {σ : L2.St} {H : Hp} {te : TE} {z : Int} (h : Ev te σ H (.int z)) : Ev (tCB (fun xs H Q => (∃ i, xs = [V.int i] ∧ Q (V.int i) H) ∨ ∃ k, xs = [V.bl k] ∧ Q (V.int (if k = true then 1 else 0)) H) (tCons te tNil)) σ H (.int z) :=
  ev_cb (ea_cons h ea_nil) fun H1 _ _ q => .inl ⟨_, rfl, q H1 (Ex.refl H1)⟩
theorem el_rep {σ : L2.St} {H : Hp} {te tn : TE} {z k : Int} (h : Ev te σ H (.int z)) (hn : Ev tn σ H (.int k)) (hk : 0 ≤ k ∧ k ≤ 100000) : EvL (tOp rRep (tLst (tCons te tNil)) tn) σ H ((List.replicate k.toNat z).map V.int) := fun H1 e Q q =>
  el_lst (ea_cons h ea_nil) (by show 1 ≤ 100000; decide) H1 e _ fun p H2 hp e2 h2 => hn H2 (e.trans e2) _ fun H3 e3 => ⟨p, k, [.int z], rfl, rfl, e3 _ _ h2, by omega, by omega, by
    show 1 * k.toNat ≤ sizeLine
    exact Nat.le_trans (show 1 * k.toNat ≤ 100000 by omega) (by decide), fun l hl => q l _ (fresh_back (e2.trans e3) hl) ((e2.trans e3).trans (Ex.new hl)) (by
    rw [upd_same]
    have rp : ∀ m : Nat, (List.replicate m [V.int z]).flatten = (List.replicate m z).map V.int := fun m => by
      induction m with
      | zero => rfl
      | succ m ih => rw [List.replicate_succ, List.flatten_cons, ih, List.replicate_succ, List.map_cons]; rfl
    rw [rp])⟩
theorem er_call {sp : Sp} {dvs vs : List V} {E : XK} {ta : TA} {σ : L2.St} {H : Hp} {P : V → Hp → Prop} (h : EvA ta σ H vs) (hs : ∀ H1, Ex H H1 → ∀ Q : VK, (∀ v H2, Ex H1 H2 → P v H2 → Q v H2) → sp (vs ++ dvs) H1 Q E) : EvR (tCall sp dvs E ta) σ H P :=
  fun H1 e Q q => h H1 e _ fun H2 e2 => hs H2 (e.trans e2) Q fun v H3 e3 p => q v H3 (e2.trans e3) p
theorem el_cat {σ : L2.St} {H : Hp} {ta tb : TE} {xs ys : List V} (h1 : EvL ta σ H xs) (h2 : EvL tb σ H ys) (hz : xs.length + ys.length ≤ 100000) : EvL (tOp rCat ta tb) σ H (xs ++ ys) := fun H1 e Q q =>
  h1 H1 e _ fun a H2 ha e2 g2 => h2 H2 (e.trans e2) _ fun b H3 hb e3 g3 => ⟨a, b, xs, ys, rfl, rfl, e3 _ _ g2, g3, sz_of hz, fun p hp => q p _ (fresh_back (e2.trans e3) hp) ((e2.trans e3).trans (Ex.new hp)) upd_same⟩
theorem atI_last {α : Type} {xs : List α} {z : α} (h : xs.getLast? = some z) : atI xs (-1) = some z := by
  cases xs with
  | nil => cases h
  | cons x r =>
    rw [List.getLast?_eq_getElem?] at h
    unfold atI ixN
    rw [if_neg (by omega), if_pos (by rw [List.length_cons]; omega)]
    show (x :: r)[((-1 : Int) + ((x :: r).length : Int)).toNat]? = some z
    rw [← h]
    congr 1
    rw [List.length_cons]
    omega
/-- an if whose test fails -/
theorem q_skip {t : TT} {tu tz : TS} {D : Ends} {σ : L2.St} {H : Hp} (h : EvT t σ H false) (k : ∀ H1, Ex H H1 → tz D σ H1) : tSeq (tIfS t tu tNext) tz D σ H := q_when h (fun z => Bool.noConfusion z) fun _ H1 e => k H1 e
/-- .. whose test holds and that returns -/
theorem q_take {t : TT} {tu tz : TS} {D : Ends} {σ : L2.St} {H : Hp} (h : EvT t σ H true) (k : ∀ H1, Ex H H1 → tu { D with nx := tz D } σ H1) : tSeq (tIfS t tu tNext) tz D σ H := q_when h (fun _ H1 e => k H1 e) fun z => Bool.noConfusion z
theorem et_notT {t : TT} {σ : L2.St} {H : Hp} (h : EvT t σ H true) : EvT (tNot t) σ H false := et_not h
theorem et_orF {t u : TT} {σ : L2.St} {H : Hp} (h : EvT t σ H false) (h2 : EvT u σ H false) : EvT (tOr t u) σ H false := et_or h fun _ => h2
theorem et_andF {t u : TT} {σ : L2.St} {H : Hp} (h : EvT t σ H false) : EvT (tAnd t u) σ H false := et_and (b := true) h fun z => Bool.noConfusion z
theorem et_andT {t u : TT} {σ : L2.St} {H : Hp} {b : Bool} (h : EvT t σ H true) (h2 : EvT u σ H b) : EvT (tAnd t u) σ H b := et_and h fun _ => h2
theorem ev_ix {K : PySem.W.Frag} {σ : L2.St} {H : Hp} {ta tb : TE} {p : Addr} {xs : List V} {i : Int} {v : V} (ha : Ev ta σ H (.ref p)) (hb : Ev tb σ H (.int i)) (h : SqL K H p xs) (hv : atI xs i = some v) : Ev (tOp (rIxL K) ta tb) σ H v := ev_op ha hb (rv_ixL h hv)
theorem rv_isK {x : V} {H : Hp} {b : Bool} : RV rIsK x (.bl b) H (.bl (decide (x = .bl b))) := fun H1 _ _ q => ⟨b, rfl, q H1 (Ex.refl H1)⟩
def rIsNotK : R2 := fun x y H Q => ∃ b : Bool, y = .bl b ∧ Q (.bl (!decide (x = .bl b))) H
theorem op_isNotK {X : Cx} : OpR X (compareOp .IsNot) rIsNotK := by
  intro pins s σ H x y v u Q I rx ry h
  obtain ⟨b, hy, q⟩ := h
  subst hy
  cases (show u = Value.bool b from ry)
  have fin : ∀ k : Bool, k = (!decide (x = V.bl b)) → EP X pins σ Q (.bool k) s := fun k e => ⟨.bl k, H, I, rfl, by rw [e]; exact q⟩
  cases x with
  | non => cases (show v = Value.none from rx); exact wpAny_isNot_other rfl (fun z => by cases z) (fin _ (by simp))
  | bl a =>
    cases (show v = Value.bool a from rx)
    by_cases e : a = b
    · subst e; exact wpAny_isNot_self rfl (fin _ (by simp))
    · exact wpAny_isNot_other rfl (fun z => e (Value.bool.inj z)) (fin _ (by simp [e]))
  | int i => obtain ⟨t, ev⟩ := rx; subst ev; exact wpAny_isNot_other rfl (fun z => by cases z) (fin _ (by simp))
  | str i => obtain ⟨t, ev⟩ := rx; subst ev; exact wpAny_isNot_other rfl (fun z => by cases z) (fin _ (by simp))
  | byt i => obtain ⟨t, ev⟩ := rx; subst ev; exact wpAny_isNot_other rfl (fun z => by cases z) (fin _ (by simp))
  | flt i => obtain ⟨t, ev⟩ := rx; subst ev; exact wpAny_isNot_other rfl (fun z => by cases z) (fin _ (by simp))
  | ref a => cases (show v = Value.ref a from rx); exact wpAny_isNot_other rfl (fun z => by cases z) (fin _ (by simp))
  | ty n => cases (show v = Value.type n from rx); exact wpAny_isNot_other rfl (fun z => by cases z) (fin _ (by simp))
theorem rv_isNotK {x : V} {H : Hp} {b : Bool} : RV rIsNotK x (.bl b) H (.bl (!decide (x = .bl b))) := fun H1 _ _ q => ⟨b, rfl, q H1 (Ex.refl H1)⟩
theorem drawn_cons {m : Int} {ms ds : List Int} (h : Drawn (m :: ms) ds) : ∃ d r, ds = d :: r ∧ (0 ≤ d ∧ d < m) ∧ Drawn ms r := by
  obtain ⟨hl, g⟩ := h
  cases ds with
  | nil => cases hl
  | cons d r =>
    obtain ⟨d', e, h0, h1⟩ := g 0 m rfl
    cases e
    exact ⟨d, r, rfl, ⟨h0, h1⟩, by simpa using hl, fun i x hx => g (i + 1) x hx⟩
theorem drawn_nil {ds : List Int} (h : Drawn [] ds) : ds = [] := List.length_eq_zero_iff.mp h.1
/-! ### new things: what holds of them in each heap that has what is new -/
def NewP (P : Hp → Prop) (H H' : Hp) : Prop := ∀ G : Hp, (∀ b o, H b = none → H' b = some o → G b = some o) → P G
def EvNew (te : TE) (σ : L2.St) (H : Hp) (P : V → Hp → Prop) : Prop := ∀ H1, Ex H H1 → ∀ Q : VK, (∀ v H2, Ex H1 H2 → NewP (P v) H1 H2 → Q v H2) → te σ H1 Q
theorem NewP.self {P : Hp → Prop} {H H' : Hp} (h : NewP P H H') : P H' := h H' fun _ _ _ e => e
theorem NewP.out {P : Hp → Prop} {H H1 H2 H3 : Hp} (h : NewP P H1 H2) (e : Ex H H1) (e' : Ex H2 H3) : NewP P H H3 := fun G g => h G fun b o h1 h2 => g b o (fresh_back e h1) (e' _ _ h2)
theorem EvNew.er {te : TE} {σ : L2.St} {H : Hp} {P : V → Hp → Prop} (h : EvNew te σ H P) : EvR te σ H P := fun H1 e Q q => h H1 e Q fun v H2 e2 n => q v H2 e2 n.self
theorem EvNew.imp {te : TE} {σ : L2.St} {H : Hp} {P P' : V → Hp → Prop} (h : EvNew te σ H P) (i : ∀ v G, P v G → P' v G) : EvNew te σ H P' := fun H1 e Q q => h H1 e Q fun v H2 e2 n => q v H2 e2 fun G g => i v G (n G g)
theorem en_L {te : TE} {σ : L2.St} {H : Hp} {xs : List V} (h : EvL te σ H xs) : EvNew te σ H fun v G => ∃ p, v = .ref p ∧ G p = some (.lst xs) := fun H1 e Q q => h H1 e Q fun p H2 hp e2 h2 => q _ H2 e2 fun G g => ⟨p, rfl, g p _ hp h2⟩
theorem en_ev {te : TE} {σ : L2.St} {H : Hp} {v : V} {P : V → Prop} (h : Ev te σ H v) (p : P v) : EvNew te σ H fun v _ => P v := fun H1 e Q q => h H1 e Q fun H2 e2 => q v H2 e2 fun _ _ => p
/-- what a comprehension keeps: its list at D, each item with its property whatever D holds -/
def Kept (P : Nat → V → Hp → Prop) (H1 : Hp) (D : Addr) (i : Nat) (H : Hp) : Prop := H1 D = none ∧ Ex H1 H ∧ ∃ vs : List V, H D = some (.lst vs) ∧ vs.length = i ∧ ∀ (k : Nat) x, vs[k]? = some x → ∀ G : Hp, (∀ b o, b ≠ D → H1 b = none → H b = some o → G b = some o) → P k x G
theorem kept_turn {P : Nat → V → Hp → Prop} {H1 H : Hp} {D : Addr} {i : Nat} {te : TE} {σ2 : L2.St} (p : Kept P H1 D i H) (hi : i < 50000) (he : EvNew te σ2 H1 (P i)) :
    tYes σ2 H fun b H3 => if b = true then te σ2 H3 fun y H4 => ∃ acc, H4 D = some (.lst acc) ∧ acc.length < sizeLine ∧ Kept P H1 D (i + 1) (upd H4 D (.lst (acc ++ [y]))) else Kept P H1 D (i + 1) H3 := by
  obtain ⟨p1, p2, vs, p3, p4, p5⟩ := p
  show te σ2 H fun y H4 => ∃ acc, H4 D = some (.lst acc) ∧ acc.length < sizeLine ∧ Kept P H1 D (i + 1) (upd H4 D (.lst (acc ++ [y])))
  refine he H p2 _ fun y H4 e4 hy => ⟨vs, e4 _ _ p3, sz_lt (by omega), p1, Ex.mut (p2.trans e4) p1, vs ++ [y], upd_same, by simp [p4], fun k x hk G g => ?_⟩
  by_cases hki : k < vs.length
  · rw [List.getElem?_append_left hki] at hk
    exact p5 k x hk G fun b o hb h1 h2 => g b o hb h1 (by rw [upd_ne hb]; exact e4 _ _ h2)
  · have hlt := (List.getElem?_eq_some_iff.mp hk).1
    rw [List.length_append] at hlt
    have hlt' : k < vs.length + 1 := hlt
    have e : k = i := by omega
    subst e
    rw [List.getElem?_append_right (by omega), ← p4, Nat.sub_self] at hk
    cases hk
    refine hy G fun b o h1 h2 => ?_
    have hb : b ≠ D := fun e => by rw [e, p3] at h1; cases h1
    exact g b o hb (fresh_back p2 h1) (by rw [upd_ne hb]; exact h2)
theorem kept_end {P : Nat → V → Hp → Prop} {H1 H : Hp} {D : Addr} {n : Nat} (p : Kept P H1 D n H) : NewP (fun G => ∃ vs : List V, G D = some (.lst vs) ∧ vs.length = n ∧ ∀ (k : Nat) x, vs[k]? = some x → P k x G) H1 H := fun G g => by
  obtain ⟨p1, p2, vs, p3, p4, p5⟩ := p
  exact ⟨vs, g D _ p1 p3, p4, fun k x hk => p5 k x hk G fun b o _ h1 h2 => g b o h1 h2⟩
/-- a list whose items have a property -/
def ListP (n : Nat) (P : Nat → V → Hp → Prop) (v : V) (G : Hp) : Prop := ∃ (p : Addr) (vs : List V), v = .ref p ∧ G p = some (.lst vs) ∧ vs.length = n ∧ ∀ (k : Nat) x, vs[k]? = some x → P k x G
theorem en_lcR1 {σ : L2.St} {H : Hp} {te : TE} {ta : TA} {j : Nat} {vs : List Nat} {n : Int} (P : Nat → V → Hp → Prop) (h : EvA ta σ H [.int n]) (hn : 0 ≤ n ∧ n ≤ 40000) (hw : ∀ x, wipe ((wipe σ vs).set j (some x)) vs = wipe σ vs)
    (he : ∀ (i : Nat) H1, Ex H H1 → (i : Int) < n → EvNew te ((wipe σ vs).set j (some (.int (i : Int)))) H1 (P i)) : EvNew (tLc (iRng1 ta) (gName j) tYes te vs) σ H (ListP n.toNat P) := fun H0 e Q q => h H0 e _ fun H1 e1 => ⟨n, rfl, by omega, by omega, fun Dl hD =>
  lc_range (lo := 0) (n := n.toNat) (Kept P H1 Dl) ⟨hD, Ex.new hD, [], upd_same, rfl, fun k x hk => by cases hk⟩ (fun i H' hi p => by
    have e0 : (0 : Int) + (i : Int) = (i : Int) := Int.zero_add _
    show wipe ((wipe σ vs).set j (some (.int ((0 : Int) + (i : Int))))) vs = wipe σ vs ∧ tYes ((wipe σ vs).set j (some (.int ((0 : Int) + (i : Int))))) H' fun b H3 => if b = true then te ((wipe σ vs).set j (some (.int ((0 : Int) + (i : Int))))) H3 fun y H4 => ∃ acc, H4 Dl = some (.lst acc) ∧ acc.length < sizeLine ∧ Kept P H1 Dl (i + 1) (upd H4 Dl (.lst (acc ++ [y]))) else Kept P H1 Dl (i + 1) H3
    rw [e0]
    exact ⟨hw _, kept_turn p (by omega) (he i H1 (e.trans e1) (by omega))⟩)
    (fun H' p => q _ H' (e1.trans p.2.1) fun G g => by
      obtain ⟨ws, h1, h2, h3⟩ := (kept_end p).out e1 (Ex.refl _) G g
      exact ⟨Dl, ws, rfl, h1, h2, h3⟩)⟩
theorem en_lcL {K : PySem.W.Frag} {σ : L2.St} {H : Hp} {te tl : TE} {j : Nat} {vs : List Nat} {xs : List V} (P : Nat → V → Hp → Prop) (h : EvR tl σ H fun v H1 => ∃ a, v = .ref a ∧ SqL K H1 a xs) (hz : xs.length ≤ 40000) (hw : ∀ x, wipe ((wipe σ vs).set j (some x)) vs = wipe σ vs)
    (he : ∀ (i : Nat) (x : V) H1, Ex H H1 → xs[i]? = some x → EvNew te ((wipe σ vs).set j (some x)) H1 (P i)) : EvNew (tLc (iList K tl) (gName j) tYes te vs) σ H (ListP xs.length P) := fun H0 e Q q => h H0 e _ fun v H1 e1 hv => by
  obtain ⟨a, rfl, hx⟩ := hv
  exact ⟨a, rfl, ⟨xs, hx⟩, fun Dl hD =>
    lc_list (xs := xs) (Kept P H1 Dl) ⟨hD, Ex.new hD, [], upd_same, rfl, fun k x hk => by cases hk⟩ (fun i H' _ p => ex_l p.2.1 hx) (fun i x H' hi p => ⟨hw x, kept_turn p (by have := (List.getElem?_eq_some_iff.mp hi).1; omega) (he i x H1 (e.trans e1) hi)⟩)
    (fun H' p => q _ H' (e1.trans p.2.1) fun G g => by
      obtain ⟨ws, h1, h2, h3⟩ := (kept_end p).out e1 (Ex.refl _) G g
      exact ⟨Dl, ws, rfl, h1, h2, h3⟩)⟩

/-! ### order of data -/
def rLtD (K : PySem.W.Frag) : R2 := fun x y H Q => ∃ d e, Dp K H x d ∧ Dp K H y e ∧ PySem.W.alike d e = true ∧ d ≠ .none ∧ d.depth ≤ 64 ∧ Q (.bl (PySem.W.dataLt d e)) H
def rLeD (K : PySem.W.Frag) : R2 := fun x y H Q => ∃ d e, Dp K H x d ∧ Dp K H y e ∧ PySem.W.alike d e = true ∧ d ≠ .none ∧ d.depth ≤ 64 ∧ Q (.bl (!PySem.W.dataLt e d)) H
theorem op_ltD {X : Cx} {K : PySem.W.Frag} (hu : X.A.units + 64 < cLine) (hk : X.K = K := by rfl) : OpR X (compareOp .Lt) (rLtD K) := by
  subst hk
  intro pins s σ H x y v u Q I rx ry h
  obtain ⟨d, e, hd, he, al, dn, dp, q⟩ := h
  obtain ⟨as, r1⟩ := Dp.reads I d x v hd rx
  obtain ⟨bs, r2⟩ := Dp.reads I e y u he ry
  exact PySem.W.rcLt_alike d e X.A s v u as bs r1 r2 al dn (by have := Nat.min_le_left d.depth e.depth; omega) X.prog X.w X.xe (EP X pins σ Q) ⟨.bl _, H, I, rfl, q⟩
theorem op_leD {X : Cx} {K : PySem.W.Frag} (hu : X.A.units + 64 < cLine) (hk : X.K = K := by rfl) : OpR X (compareOp .LtE) (rLeD K) := by
  subst hk
  intro pins s σ H x y v u Q I rx ry h
  obtain ⟨d, e, hd, he, al, dn, dp, q⟩ := h
  obtain ⟨as, r1⟩ := Dp.reads I d x v hd rx
  obtain ⟨bs, r2⟩ := Dp.reads I e y u he ry
  exact PySem.W.rcLe_alike d e X.A s v u as bs r1 r2 al dn (by have := Nat.min_le_left d.depth e.depth; omega) X.prog X.w X.xe (EP X pins σ Q) ⟨.bl _, H, I, rfl, q⟩
theorem alike_ints : ∀ xs ys : List Int, PySem.W.alikeAll (xs.map PyData.int) (ys.map PyData.int) = true
  | [], [] => by simp [PySem.W.alikeAll]
  | [], y :: ys => by simp [PySem.W.alikeAll]
  | x :: xs, [] => by simp [PySem.W.alikeAll]
  | x :: xs, y :: ys => by simp [PySem.W.alikeAll, PySem.W.alike, alike_ints xs ys]

/-! ### what holds of a value in each heap that has what stood before and what is new -/
def Since (H H' G : Hp) : Prop := ∀ b o, H b = none → H' b = some o → G b = some o
def EvB (te : TE) (σ : L2.St) (H : Hp) (P : V → Hp → Prop) : Prop := ∀ H1, Ex H H1 → ∀ Q : VK, (∀ v H2, Ex H1 H2 → (∀ G, Ex H G → Since H1 H2 G → P v G) → Q v H2) → te σ H1 Q
theorem EvNew.eb {te : TE} {σ : L2.St} {H : Hp} {P : V → Hp → Prop} (h : EvNew te σ H P) : EvB te σ H P := fun H1 e Q q => h H1 e Q fun v H2 e2 n => q v H2 e2 fun G _ g => n G g
theorem EvB.er {te : TE} {σ : L2.St} {H : Hp} {P : V → Hp → Prop} (h : EvB te σ H P) : EvR te σ H P := fun H1 e Q q => h H1 e Q fun v H2 e2 n => q v H2 e2 (n H2 (e.trans e2) fun _ _ _ z => z)
theorem EvB.imp {te : TE} {σ : L2.St} {H : Hp} {P P' : V → Hp → Prop} (h : EvB te σ H P) (i : ∀ v G, Ex H G → P v G → P' v G) : EvB te σ H P' := fun H1 e Q q => h H1 e Q fun v H2 e2 n => q v H2 e2 fun G a g => i v G a (n G a g)
theorem eb_ev {te : TE} {σ : L2.St} {H : Hp} {v : V} {P : V → Hp → Prop} (h : Ev te σ H v) (p : ∀ G, Ex H G → P v G) : EvB te σ H P := fun H1 e Q q => h H1 e Q fun H2 e2 => q v H2 e2 fun G a _ => p G a
theorem eb_L {K : PySem.W.Frag} {te : TE} {σ : L2.St} {H : Hp} {xs : List V} (h : EvL te σ H xs) : EvB te σ H fun v G => ∃ p, v = .ref p ∧ SqL K G p xs := ((en_L h).imp fun v G ⟨p, a, b⟩ => ⟨p, a, sq_of b⟩).eb
theorem eb_held {K : PySem.W.Frag} {σ : L2.St} {H : Hp} {i : Nat} {p : Addr} {xs : List V} (h : σ[i]? = some (some (.ref p))) (hp : SqL K H p xs) : EvB (tVar i) σ H fun v G => ∃ p, v = .ref p ∧ SqL K G p xs := eb_ev (ev_var h) fun G e => ⟨p, rfl, ex_l e hp⟩
/-! ### what is walked, whatever it is -/
def EvI (wi : TI) (σ : L2.St) (H : Hp) (n : Nat) (Y : Nat → Hp → V → Hp → Prop) : Prop := ∀ H1, Ex H H1 → ∀ R : It → Hp → Prop, (∀ J H2, Ex H1 H2 → Walk J n (fun G => Ex H G ∧ Since H1 H2 G) Y → R J H2) → wi σ H1 R
theorem ei_list {K : PySem.W.Frag} {σ : L2.St} {H : Hp} {tl : TE} {xs : List V} (h : EvB tl σ H fun v G => ∃ p, v = .ref p ∧ SqL K G p xs) : EvI (iList K tl) σ H xs.length (YAt xs) := fun H1 e R r => h H1 e _ fun v H2 e2 hv => by
  obtain ⟨a, rfl, hx⟩ := hv H2 (e.trans e2) fun _ _ _ z => z
  exact ⟨a, rfl, ⟨xs, hx⟩, r _ _ e2 (walk_list.mono (fun G g => by
    obtain ⟨b, eb, hb⟩ := hv G g.1 g.2
    cases eb
    exact hb) fun _ _ _ _ _ _ y => y)⟩
theorem ei_tup {K : PySem.W.Frag} {σ : L2.St} {H : Hp} {tl : TE} {xs : List V} (h : EvB tl σ H fun v G => ∃ p, v = .ref p ∧ SqT K G p xs) : EvI (iTup K tl) σ H xs.length (YAt xs) := fun H1 e R r => h H1 e _ fun v H2 e2 hv => by
  obtain ⟨a, rfl, hx⟩ := hv H2 (e.trans e2) fun _ _ _ z => z
  exact ⟨a, rfl, ⟨xs, hx⟩, r _ _ e2 (walk_tup.mono (fun G g => by
    obtain ⟨b, eb, hb⟩ := hv G g.1 g.2
    cases eb
    exact hb) fun _ _ _ _ _ _ y => y)⟩
theorem ei_rng1 {σ : L2.St} {H : Hp} {ta : TA} {n : Int} (h : EvA ta σ H [.int n]) (hn : -100000 ≤ n ∧ n ≤ 100000) : EvI (iRng1 ta) σ H n.toNat (YFn fun i => .int (i : Int)) := fun H1 e R r => h H1 e _ fun H2 e2 =>
  ⟨n, rfl, by omega, by omega, r _ _ e2 (walk_range.mono (fun _ _ => True.intro) fun i G x G' _ _ y => ⟨y.1, by rw [y.2]; simp⟩)⟩
theorem ei_rng2 {σ : L2.St} {H : Hp} {ta : TA} {lo hi : Int} (h : EvA ta σ H [.int lo, .int hi]) (hn : (-100000 ≤ lo ∧ lo ≤ 100000) ∧ -100000 ≤ hi ∧ hi ≤ 100000) : EvI (iRng2 ta) σ H (hi - lo).toNat (YFn fun i => .int (lo + (i : Int))) := fun H1 e R r => h H1 e _ fun H2 e2 =>
  ⟨lo, hi, rfl, by omega, r _ _ e2 (walk_range.mono (fun _ _ => True.intro) fun i G x G' _ _ y => y)⟩
theorem ei_zip {K : PySem.W.Frag} {σ : L2.St} {H : Hp} {ta tb : TE} {xs ys : List V} {n : Nat} (h1 : EvB ta σ H fun v G => ∃ p, v = .ref p ∧ SqL K G p xs) (h2 : EvB tb σ H fun v G => ∃ p, v = .ref p ∧ SqL K G p ys) (hn : n = min xs.length ys.length) :
    EvI (iZip K (tCons ta (tCons tb tNil))) σ H n (YPair (fun i => xs[i]?) fun i => ys[i]?) := fun H1 e R r => h1 H1 e _ fun v H2 e2 hv => h2 H2 (e.trans e2) _ fun w H3 e3 hw => by
  have p1 : ∀ G, Ex H G → Since H1 H3 G → ∃ p, v = .ref p ∧ SqL K G p xs := fun G a g => hv G a fun b o z1 z2 => g b o z1 (e3 _ _ z2)
  have p2 : ∀ G, Ex H G → Since H1 H3 G → ∃ p, w = .ref p ∧ SqL K G p ys := fun G a g => hw G a fun b o z1 z2 => g b o (fresh_back e2 z1) z2
  have e3' := (e.trans e2).trans e3
  obtain ⟨a, rfl, hx⟩ := p1 H3 e3' fun _ _ _ z => z
  obtain ⟨b, rfl, hy⟩ := p2 H3 e3' fun _ _ _ z => z
  exact ⟨a, b, xs, ys, rfl, hx, hy, r _ _ (e2.trans e3) ((walk_zip hn).mono (fun G g => by
    obtain ⟨a', ea, ha⟩ := p1 G g.1 g.2
    obtain ⟨b', eb, hb⟩ := p2 G g.1 g.2
    cases ea
    cases eb
    exact ⟨ha, hb⟩) fun _ _ _ _ _ _ y => y)⟩
theorem ei_enum {K : PySem.W.Frag} {σ : L2.St} {H : Hp} {ta : TE} {xs : List V} (h : EvB ta σ H fun v G => ∃ p, v = .ref p ∧ SqL K G p xs) : EvI (iEnum K (tCons ta tNil)) σ H xs.length (YPair (fun i => some (.int (i : Int))) fun i => xs[i]?) := fun H1 e R r => h H1 e _ fun v H2 e2 hv => by
  obtain ⟨a, rfl, hx⟩ := hv H2 (e.trans e2) fun _ _ _ z => z
  exact ⟨a, xs, rfl, hx, r _ _ e2 (walk_enum.mono (fun G g => by
    obtain ⟨b, eb, hb⟩ := hv G g.1 g.2
    cases eb
    exact hb) fun _ _ _ _ _ _ y => y)⟩
theorem walk_ex {J : It} {n : Nat} {H H1 H2 : Hp} {Y : Nat → Hp → V → Hp → Prop} (e : Ex H H1) (e2 : Ex H1 H2) (w : Walk J n (fun G => Ex H G ∧ Since H1 H2 G) Y) : Walk J n (Ex H2) Y := w.mono (fun G g => ⟨(e.trans e2).trans g, fun b o _ z => g _ _ z⟩) fun _ _ _ _ _ _ y => y
/-- what a target binds at each turn -/
def BdG (g : TG) (σ : L2.St) (n : Nat) (Y : Nat → Hp → V → Hp → Prop) (τ : Nat → L2.St) : Prop := ∀ i H x H' (k : L2.St → Hp → Prop), i < n → Y i H x H' → (Ex H H' → k (τ i) H') → g x σ H' k
theorem bd_at {σ : L2.St} {n j : Nat} {xs : List V} : BdG (gName j) σ n (YAt xs) fun i => σ.set j (xs[i]?) := fun i H x H' k _ y c => by
  obtain ⟨rfl, hx⟩ := y
  show k (σ.set j (some x)) H'
  rw [← hx]
  exact c (Ex.refl _)
theorem bd_fn {σ : L2.St} {n j : Nat} {f : Nat → V} : BdG (gName j) σ n (YFn f) fun i => σ.set j (some (f i)) := fun i H x H' k _ y c => by
  obtain ⟨rfl, rfl⟩ := y
  exact c (Ex.refl _)
theorem bd_pair {K : PySem.W.Frag} {σ : L2.St} {n a b : Nat} {xs ys : Nat → Option V} : BdG (gTup K 2 (gCons (gName a) (gCons (gName b) gNil))) σ n (YPair xs ys) fun i => (σ.set a (xs i)).set b (ys i) := fun i H x H' k _ y c => by
  obtain ⟨T, u, v, rfl, hT, rfl, hu, hv⟩ := y
  refine ⟨T, [u, v], rfl, st_of upd_same, rfl, u, [v], rfl, v, [], rfl, rfl, ?_⟩
  rw [← hu, ← hv]
  exact c (Ex.new hT)
section
variable {wi : TI} {g : TG} {tt : TT} {te : TE} {tu tz : TS} {σ : L2.St} {H : Hp} {D : Ends} {n : Nat} {Y : Nat → Hp → V → Hp → Prop} {vs : List Nat} {τ : Nat → L2.St}
theorem s_forI (h : EvI wi σ H n Y) (k : ∀ H2, Ex H H2 → ∃ Pv : Nat → L2.St → Hp → Prop, Pv 0 σ H2 ∧ (∀ i σ' H', i ≤ n → Pv i σ' H' → Ex H2 H') ∧
    (∀ i x σ' H' H'', i < n → Pv i σ' H' → Y i H' x H'' → g x σ' H'' fun σ2 H3 => tu { D with nx := Pv (i + 1), ct := Pv (i + 1), bk := D.nx } σ2 H3) ∧ ∀ σ' H', Pv n σ' H' → D.nx σ' H') : tFor wi g tu D σ H :=
  h H (Ex.refl H) _ fun J H2 e2 w => by
    obtain ⟨Pv, h0, hG, hs, hd⟩ := k H2 e2
    exact for_it (walk_ex (Ex.refl H) e2 w) Pv h0 hG (fun i x σ' H' H'' hi p y => hs i x σ' H' H'' hi p y) hd
theorem q_forI (h : EvI wi σ H n Y) (k : ∀ H2, Ex H H2 → ∃ Pv : Nat → L2.St → Hp → Prop, Pv 0 σ H2 ∧ (∀ i σ' H', i ≤ n → Pv i σ' H' → Ex H2 H') ∧
    (∀ i x σ' H' H'', i < n → Pv i σ' H' → Y i H' x H'' → g x σ' H'' fun σ2 H3 => tu { D with nx := Pv (i + 1), ct := Pv (i + 1), bk := tz D } σ2 H3) ∧ ∀ σ' H', Pv n σ' H' → tz D σ' H') : tSeq (tFor wi g tu) tz D σ H := s_forI (D := { D with nx := tz D }) h k
/-- a comprehension that tests and tells plain values -/
theorem el_lc (f : Nat → Bool) (v : Nat → V) (h : EvI wi σ H n Y) (hn : n ≤ 40000) (hb : BdG g (wipe σ vs) n Y τ) (hw : ∀ i, i < n → wipe (τ i) vs = wipe σ vs)
    (ht : ∀ i H1, i < n → Ex H H1 → EvT tt (τ i) H1 (f i)) (he : ∀ i H1, i < n → Ex H H1 → f i = true → Ev te (τ i) H1 (v i)) : EvL (tLc wi g tt te vs) σ H (given n f v) := fun H0 e0 Q q =>
  h H0 e0 _ fun J H2 e2 w Dl hD => lc_it (walk_ex e0 e2 w) (Cw H2 f v Dl) ⟨hD, Ex.new hD, upd_same⟩ (fun i H' _ c => c.2.1)
    (fun i x H' H'' hi c y => hb i H' x H'' _ hi y fun e => ⟨hw i hi, by
      have c' : Cw H2 f v Dl i H'' := ⟨c.1, c.2.1.trans e, e _ _ c.2.2⟩
      exact cw_turn c' (by omega) (ht i H2 hi (e0.trans e2)) (fun hf => he i H2 hi (e0.trans e2) hf)⟩)
    (fun H' c => q Dl H' (fresh_back e2 c.1) (e2.trans c.2.1) c.2.2)
/-- .. that tells new things -/
theorem en_lc (P : Nat → V → Hp → Prop) (h : EvI wi σ H n Y) (hn : n ≤ 40000) (hb : BdG g (wipe σ vs) n Y τ) (hw : ∀ i, i < n → wipe (τ i) vs = wipe σ vs)
    (he : ∀ i H1, i < n → Ex H H1 → EvNew te (τ i) H1 (P i)) : EvNew (tLc wi g tYes te vs) σ H (ListP n P) := fun H0 e0 Q q =>
  h H0 e0 _ fun J H2 e2 w Dl hD => lc_it (walk_ex e0 e2 w) (Kept P H2 Dl) ⟨hD, Ex.new hD, [], upd_same, rfl, fun k x hk => by cases hk⟩ (fun i H' _ c => c.2.1)
    (fun i x H' H'' hi c y => hb i H' x H'' _ hi y fun e => ⟨hw i hi, by
      obtain ⟨c1, c2, us, c3, c4, c5⟩ := c
      have c' : Kept P H2 Dl i H'' := ⟨c1, c2.trans e, us, e _ _ c3, c4, fun k z hk G gg => c5 k z hk G fun b o hb h1 h2 => gg b o hb h1 (e _ _ h2)⟩
      exact kept_turn c' (by omega) (he i H2 hi (e0.trans e2))⟩)
    (fun H' c => q _ H' (e2.trans c.2.1) fun G gg => by
      obtain ⟨ws, h1, h2, h3⟩ := (kept_end c).out e2 (Ex.refl _) G gg
      exact ⟨Dl, ws, rfl, h1, h2, h3⟩)
theorem given_all {n : Nat} {v : Nat → V} : given n (fun _ => true) v = (List.range n).map v := by
  unfold given
  rw [List.filter_eq_self.mpr fun _ _ => rfl]
theorem yes_T : EvT tYes σ H true := fun H1 _ Q q => q H1 (Ex.refl H1)
/-- two sources, one within the other: all values in their order -/
theorem el_lc2 {wi1 : TI} {g1 : TG} {vs1 : List Nat} {n1 : Nat → Nat} {Y1 : Nat → Nat → Hp → V → Hp → Prop} {τ1 : Nat → Nat → L2.St} (v : Nat → Nat → V) (N : Nat) (h : EvI wi σ H n Y) (hN : N ≤ 1000000) (hz : ∀ i, i ≤ n → ((List.range i).flatMap fun i => (List.range (n1 i)).map (v i)).length ≤ N) (hb : BdG g (wipe σ vs) n Y τ) (hw : ∀ i, i < n → wipe (τ i) vs = wipe σ vs)
    (h1 : ∀ i H1, i < n → Ex H H1 → EvI wi1 (τ i) H1 (n1 i) (Y1 i)) (hb1 : ∀ i, i < n → BdG g1 (wipe (τ i) vs1) (n1 i) (Y1 i) (τ1 i)) (hw1 : ∀ i j, i < n → j < n1 i → wipe (τ1 i j) vs1 = wipe (τ i) vs1)
    (he : ∀ i j H1, i < n → j < n1 i → Ex H H1 → Ev te (τ1 i j) H1 (v i j)) : EvL (tLc2 wi g tYes wi1 g1 tYes te vs vs1) σ H ((List.range n).flatMap fun i => (List.range (n1 i)).map (v i)) := fun H0 e0 Q q =>
  h H0 e0 _ fun J H2 e2 w Dl hD => by
    let All : Nat → List V := fun i => (List.range i).flatMap fun i => (List.range (n1 i)).map (v i)
    have all_succ : ∀ i, All (i + 1) = All i ++ (List.range (n1 i)).map (v i) := fun i => by
      show List.flatMap _ (List.range (i + 1)) = _
      rw [List.range_succ, List.flatMap_append]
      simp [All]
    let Pv : Nat → Hp → Prop := fun i H' => H2 Dl = none ∧ Ex H2 H' ∧ H' Dl = some (.lst (All i))
    refine ⟨fun i m H' => m = n - i ∧ i ≤ n ∧ Pv i H', ⟨n, by simp, Nat.zero_le _, hD, Ex.new hD, upd_same⟩, ?_⟩
    have w' := walk_ex e0 e2 w
    rintro i m H' ⟨rfl, hi, p⟩
    by_cases hlt : i < n
    · refine .inr ⟨w'.goes i H' hlt p.2.1, Pv (i + 1), fun H'' p' => ⟨n - (i + 1), by omega, rfl, hlt, p'⟩, fun x H'' y => hb i H' x H'' _ hlt (w'.yields i H' x H'' hlt p.2.1 y) fun e => ⟨hw i hlt, ?_⟩⟩
      show wi1 (τ i) H'' _
      refine h1 i H2 hlt (e0.trans e2) H'' (p.2.1.trans e) _ fun J1 H3 e3 w1 => ?_
      let Pw : Nat → Hp → Prop := fun j G => (∀ b o, b ≠ Dl → H3 b = some o → G b = some o) ∧ Ex H2 G ∧ G Dl = some (.lst (All i ++ (List.range j).map (v i)))
      have q3 : Ex H2 H3 := (p.2.1.trans e).trans e3
      have inner : ∀ j G, Pw j G → Ex H2 G ∧ Since H'' H3 G := fun j G pw => ⟨pw.2.1, fun b o z1 z2 => pw.1 b o (fun z => by rw [z, e _ _ p.2.2] at z1; cases z1) z2⟩
      refine ⟨fun j m G => m = n1 i - j ∧ j ≤ n1 i ∧ Pw j G, ⟨n1 i, by simp, Nat.zero_le _, fun b o _ z => z, q3, by rw [(e.trans e3) _ _ p.2.2]; simp⟩, ?_⟩
      rintro j m G ⟨rfl, hj, pw⟩
      by_cases hjl : j < n1 i
      · refine .inr ⟨w1.goes j G hjl (inner j G pw), Pw (j + 1), fun G' pw' => ⟨n1 i - (j + 1), by omega, rfl, hjl, pw'⟩, fun x1 G' y1 => ?_⟩
        refine hb1 i hlt j G x1 G' _ hjl (w1.yields j G x1 G' hjl (inner j G pw) y1) fun eG => ⟨hw1 i j hlt hjl, ?_⟩
        show te (τ1 i j) G' _
        refine he i j H2 hlt hjl (e0.trans e2) G' (pw.2.1.trans eG) _ fun G4 e4 => ⟨_, (eG.trans e4) _ _ pw.2.2, ?_, ?_⟩
        · have s1 := hz (i + 1) (by omega)
          have s2 : (All (i + 1)).length ≤ N := s1
          rw [all_succ] at s2
          simp only [List.length_append, List.length_map, List.length_range] at s2 ⊢
          exact Nat.lt_of_le_of_lt (show _ ≤ 1000000 by omega) (by decide)
        · refine ⟨fun b o hb' z => by rw [upd_ne hb']; exact (eG.trans e4) _ _ (pw.1 b o hb' z), Ex.mut (pw.2.1.trans (eG.trans e4)) hD, ?_⟩
          rw [upd_same, List.range_succ, List.map_append, ← List.append_assoc]
          rfl
      · have ej : j = n1 i := by omega
        subst ej
        refine .inl ⟨w1.stops G (inner _ G pw), p.1, pw.2.1, ?_⟩
        rw [pw.2.2, all_succ]
    · have e : i = n := by omega
      subst e
      exact .inl ⟨w'.stops H' p.2.1, q Dl H' (fresh_back e2 p.1) (e2.trans p.2.1) p.2.2⟩
end

theorem pi_listK {X : Cx} {K : PySem.W.Frag} {tg l : Expr} {tl : TE} (hl : PE X l tl) (hk : X.K = K := by rfl) : PI X tg l (iList K tl) := by subst hk; exact pi_list hl
theorem cr_allK {X : Cx} {K : PySem.W.Frag} (hc : X.calm = true) (hk : X.K = K := by rfl) : CallR X (.builtin "all") (rAll K) := by subst hk; exact cr_all hc
theorem cr_sumK {X : Cx} {K : PySem.W.Frag} (hc : X.calm = true) (hk : X.K = K := by rfl) : CallR X (.builtin "sum") (rSum K) := by subst hk; exact cr_sum hc
theorem ev_sumN {K : PySem.W.Frag} {σ : L2.St} {H : Hp} {te : TE} {ns : List Int} (h : EvL te σ H (ns.map V.int)) : Ev (tCB (rSum K) (tCons te tNil)) σ H (.int ns.sum) := fun H1 e Q q => h H1 e _ fun p H2 _ e2 hp => ⟨p, ns, rfl, sq_of hp, q H2 e2⟩
/-- either of two rules of a call -/
def rOr (r1 r2 : List V → Hp → VK → Prop) : List V → Hp → VK → Prop := fun xs H Q => r1 xs H Q ∨ r2 xs H Q
theorem call_or {X : Cx} {f : Value} {r1 r2 : List V → Hp → VK → Prop} (h1 : CallR X f r1) (h2 : CallR X f r2) : CallR X f (rOr r1 r2) := fun pins s σ H xs us Q I r h => h.elim (h1 pins s σ H xs us Q I r) (h2 pins s σ H xs us Q I r)

/-! ### operators of own classes -/
section
variable {X : Cx} {CX : CXT} {pins : List (Addr × Obj)} {σ : L2.St} {H : Hp} {s : Shared} {f C : Addr} {fd : FuncData} {ps : List Str} {n : Nat} {sp : Sp}
theorem run_own {E : XK} {Q : VK} {us : List Value} {vs : List V} (F : FnOk X.prog X.w X.K X.mg X.base CX n f fd ps sp) (hr : Room n X.A) (hb : Binds X.K fd ps []) (hx : PassesAt CX X σ E)
    (I : Inv X pins σ H s) (r : Vals vs us) (h : sp vs H Q E) : wpAny (model X.prog X.w) X.A (call (.ref f) us) (PySem.W.CmpBack (EP X pins σ Q)) X.xe s := by
  have hl : us.length = ps.length := by rw [← r.length]; exact F.len _ _ _ _ h
  have b := hb s us I.kIn (by rw [List.append_nil]; exact hl)
  rw [List.append_nil] at b
  refine wpAny_call (codeAny_mono (F.run X.A X.stack s H ⟨us, []⟩ us vs Q E hr I.env0 b r h) fun r s' hq => ?_)
  cases r with
  | error e => exact hx pins H s e s' I hq
  | ok fl =>
    cases fl with
    | ret u =>
      obtain ⟨v, H', I', rv, q⟩ := I.after hq
      exact SlX.cmpback rv ⟨v, H', I', rv, q⟩
    | next => exact False.elim hq
    | brk => exact False.elim hq
    | cont => exact False.elim hq
end
/-- what an own operator asks: x an object of the class at C -/
def rOwn1 (C : Addr) (sp : Sp) (E : L2.St → XK) (σ : L2.St) : V → Hp → VK → Prop := fun x H Q => ∃ a dx fs, x = .ref a ∧ H a = some (.ins C dx fs) ∧ sp [x] H Q (E σ)
/-- .. y an object of the same class -/
def rOwn2 (C : Addr) (sp : Sp) (E : L2.St → XK) (σ : L2.St) : R2 := fun x y H Q => ∃ a dx fs b dy gs, x = .ref a ∧ H a = some (.ins C dx fs) ∧ y = .ref b ∧ H b = some (.ins C dy gs) ∧ sp [x, y] H Q (E σ)
/-- .. y an int -/
def rOwnI (C : Addr) (sp : Sp) (E : L2.St → XK) (σ : L2.St) : R2 := fun x y H Q => ∃ a dx fs i, x = .ref a ∧ H a = some (.ins C dx fs) ∧ y = .int i ∧ sp [x, y] H Q (E σ)
def OpS (X : Cx) (f : Value → Value → Sem Value) (r : L2.St → R2) : Prop :=
  ∀ (pins : List (Addr × Obj)) (s : Shared) (σ : L2.St) (H : Hp) (x y : V) (v u : Value) (Q : VK), Inv X pins σ H s → RelV x v → RelV y u → r σ x y H Q → wpAny (model X.prog X.w) X.A (f v u) (EP X pins σ Q) X.xe s
def UnS (X : Cx) (f : Value → Sem Value) (r : L2.St → V → Hp → VK → Prop) : Prop :=
  ∀ (pins : List (Addr × Obj)) (s : Shared) (σ : L2.St) (H : Hp) (x : V) (v : Value) (Q : VK), Inv X pins σ H s → RelV x v → r σ x H Q → wpAny (model X.prog X.w) X.A (f v) (EP X pins σ Q) X.xe s
def tOpS (r : L2.St → R2) (ta tb : TE) : TE := fun σ H Q => ta σ H fun x H1 => tb σ H1 fun y H2 => r σ x y H2 Q
def tUnS (r : L2.St → V → Hp → VK → Prop) (ta : TE) : TE := fun σ H Q => ta σ H fun x H1 => r σ x H1 Q
section
variable {X : Cx} {CX : CXT} {f C : Addr} {fd : FuncData} {ps : List Str} {n : Nat} {sp : Sp} {E : L2.St → XK} {op : Operator} {a b : Expr} {ta tb : TE} {pos : Pos}
theorem pe_opS {r : L2.St → R2} (ho : OpS X (binaryOp op) r) (ha : PE X a ta) (hb : PE X b tb) : PE X (.BinOp a op b pos) (tOpS r ta tb) := by
  refine ⟨fun pins s σ H Q I h => ?_⟩
  exact wpAny_BinOp (binT ha hb I h fun v u s2 x y H2 I2 rx ry q => ho pins s2 σ H2 x y v u Q I2 rx ry q)
theorem pe_unS {op : UnaryOp} {r : L2.St → V → Hp → VK → Prop} (ho : UnS X (unaryOp op) r) (ha : PE X a ta) : PE X (.UnaryOp op a pos) (tUnS r ta) := by
  refine ⟨fun pins s σ H Q I h => ?_⟩
  exact PyProof.Rows.UnaryOp_ (thn (ha.run pins s σ H _ I h) fun v s1 ⟨x, H1, I1, r1, q1⟩ => ho pins s1 σ H1 x v Q I1 r1 q1)
/-- the facts of a class with operators -/
structure Ops (K : PySem.W.Frag) (C : Addr) : Prop where
  first : PySem.W.selfFirst K C = true
  sub : PySem.W.subIn K (.type "int") (.ref C) = some false
theorem un_negO (m : Meth X.K C "__neg__" f) (F : FnOk X.prog X.w X.K X.mg X.base CX n f fd ps sp) (hr : Room n X.A) (hb : Binds X.K fd ps []) (hx : ∀ σ, PassesAt CX X σ (E σ)) : UnS X (unaryOp .USub) (rOwn1 C sp E) := by
  intro pins s σ H x v Q I rx h
  obtain ⟨a, dx, fs, rfl, ha, h⟩ := h
  cases rx
  obtain ⟨mA, J, _⟩ := ins_get I.hok ha
  obtain ⟨od, J, _⟩ := J.look
  obtain ⟨m', hF⟩ := I.fr
  refine PySem.W.ksp_neg hF I.ok.mod.kin J m.at_ m.fn (wpAny_mono (run_own (vs := [V.ref a]) F hr hb (hx σ) I (.cons rfl .nil) h) (fun v s' hv => ?_) fun _ _ e => e)
  cases v <;> first | exact hv.elim | exact hv
theorem un_invO (m : Meth X.K C "__invert__" f) (F : FnOk X.prog X.w X.K X.mg X.base CX n f fd ps sp) (hr : Room n X.A) (hb : Binds X.K fd ps []) (hx : ∀ σ, PassesAt CX X σ (E σ)) : UnS X (unaryOp .Invert) (rOwn1 C sp E) := by
  intro pins s σ H x v Q I rx h
  obtain ⟨a, dx, fs, rfl, ha, h⟩ := h
  cases rx
  obtain ⟨mA, J, _⟩ := ins_get I.hok ha
  obtain ⟨od, J, _⟩ := J.look
  obtain ⟨m', hF⟩ := I.fr
  refine PySem.W.ksp_inv hF I.ok.mod.kin J m.at_ m.fn (wpAny_mono (run_own (vs := [V.ref a]) F hr hb (hx σ) I (.cons rfl .nil) h) (fun v s' hv => ?_) fun _ _ e => e)
  cases v <;> first | exact hv.elim | exact hv
theorem op_own2 (o : Ops X.K C) (m : Meth X.K C (PySem.dunder op.info.2) f) (F : FnOk X.prog X.w X.K X.mg X.base CX n f fd ps sp) (hr : Room n X.A) (hb : Binds X.K fd ps []) (hx : ∀ σ, PassesAt CX X σ (E σ)) : OpS X (binaryOp op) (rOwn2 C sp E) := by
  intro pins s σ H x y v u Q I rx ry h
  obtain ⟨a, dx, fs, b, dy, gs, rfl, ha, rfl, hb', h⟩ := h
  cases rx
  cases ry
  obtain ⟨mA, J, _⟩ := ins_get I.hok ha
  obtain ⟨od, J, _⟩ := J.look
  obtain ⟨mB, J', _⟩ := ins_get I.hok hb'
  obtain ⟨od', J', _⟩ := J'.look
  obtain ⟨m', hF⟩ := I.fr
  exact PySem.W.binop_K hF I.ok.mod.kin J J'.type o.first m.at_ m.fn (run_own (vs := [V.ref a, V.ref b]) F hr hb (hx σ) I (.cons rfl (.cons rfl .nil)) h)
theorem op_ownI {rc : Option Value} {fo ro : Option Value} (o : Ops X.K C) (m : Meth X.K C (PySem.dunder op.info.2) f) (hrc : PySem.W.findIn X.K (.ref C) (dunderR op.info.2) = some rc) (hp : rc = none ∨ ∃ g : Addr, rc = some (.ref g))
    (h1 : PySem.W.findIn X.K (.type "int") (PySem.dunder op.info.2) = some fo) (h2 : PySem.W.findIn X.K (.type "int") (dunderR op.info.2) = some ro)
    (F : FnOk X.prog X.w X.K X.mg X.base CX n f fd ps sp) (hr : Room n X.A) (hb : Binds X.K fd ps []) (hx : ∀ σ, PassesAt CX X σ (E σ)) : OpS X (binaryOp op) (rOwnI C sp E) := by
  intro pins s σ H x y v u Q I rx ry h
  obtain ⟨a, dx, fs, i, rfl, ha, rfl, h⟩ := h
  cases rx
  obtain ⟨t, rfl⟩ := (show ∃ t, u = Value.int i t from ry)
  obtain ⟨mA, J, _⟩ := ins_get I.hok ha
  obtain ⟨od, J, _⟩ := J.look
  obtain ⟨m', hF⟩ := I.fr
  exact PySem.W.ksp_binT hF I.ok.mod.kin J rfl o.first m.at_ m.fn hrc hp h1 h2 o.sub (run_own (vs := [V.ref a, V.int i]) F hr hb (hx σ) I (.cons rfl (.cons ⟨t, rfl⟩ .nil)) h)
end
section
variable {X : Cx} {CX : CXT} {pins : List (Addr × Obj)} {σ : L2.St} {H : Hp} {s : Shared} {f C : Addr} {fd : FuncData} {ps : List Str} {n : Nat} {sp : Sp}
/-- .. called from a place A below the running body -/
theorem run_ownA {A : Around} {E : XK} {Q : VK} {us : List Value} {vs : List V} (F : FnOk X.prog X.w X.K X.mg X.base CX n f fd ps sp) (hr : Room n A) (hf : A.frames = X.A.frames) (hb : Binds X.K fd ps []) (hx : PassesAt CX X σ E)
    (I : Inv X pins σ H s) (r : Vals vs us) (h : sp vs H Q E) : wpAny (model X.prog X.w) A (call (.ref f) us) (EP X pins σ Q) X.xe s := by
  have hl : us.length = ps.length := by rw [← r.length]; exact F.len _ _ _ _ h
  have b := hb s us I.kIn (by rw [List.append_nil]; exact hl)
  rw [List.append_nil] at b
  have e0 : Env0 X.prog X.w X.K X.mg X.base A X.stack s H := by
    have e := I.env0
    exact ⟨by rw [hf]; exact e.frames, e.mod, e.bs, e.bsz, e.funs, e.frf, e.hok, e.bare⟩
  refine wpAny_call (codeAny_mono (F.run A X.stack s H ⟨us, []⟩ us vs Q E hr e0 b r h) fun r s' hq => ?_)
  cases r with
  | error e => exact hx pins H s e s' I hq
  | ok fl =>
    cases fl with
    | ret u => exact I.after hq
    | next => exact False.elim hq
    | brk => exact False.elim hq
    | cont => exact False.elim hq
theorem ty_looks {x : V} {u t : Value} (I : Inv X pins σ H s) (rx : RelV x u) (ty : TyX X.K H x t) : PySem.W.Looks (model X.prog X.w) s.heap (typeOf u) t := by
  obtain ⟨P, kx, hp, _⟩ := kit_of I rx ty
  exact kx.ty _ _ I.kIn hp
end
/-- x an object of the class at C, y of any known type -/
def rOwnC (K : PySem.W.Frag) (C : Addr) (sp : Sp) (E : L2.St → XK) (σ : L2.St) : R2 := fun x y H Q => ∃ a dx fs tb, x = .ref a ∧ H a = some (.ins C dx fs) ∧ TyX K H y tb ∧ PySem.W.notFirst K C tb = true ∧ sp [x, y] H Q (E σ)
/-- not ==: the other answer -/
def rOwnN (K : PySem.W.Frag) (C : Addr) (sp : Sp) (E : L2.St → XK) (σ : L2.St) : R2 := fun x y H Q => ∃ a dx fs tb, x = .ref a ∧ H a = some (.ins C dx fs) ∧ TyX K H y tb ∧ PySem.W.notFirst K C tb = true ∧ sp [x, y] H (fun v H' => ∃ b, v = .bl b ∧ Q (.bl (!b)) H') (E σ)
/-- y in x, x an object of the class at C -/
def rOwnIn (C : Addr) (sp : Sp) (E : L2.St → XK) (σ : L2.St) : R2 := fun y x H Q => ∃ a dx fs, x = .ref a ∧ H a = some (.ins C dx fs) ∧ sp [x, y] H (fun v H' => ∃ b, v = .bl b ∧ Q (.bl b) H') (E σ)
section
variable {X : Cx} {CX : CXT} {f C : Addr} {fd : FuncData} {ps : List Str} {n : Nat} {sp : Sp} {E : L2.St → XK} {a b : Expr} {ta tb : TE} {pos : Pos}
theorem pe_cmpS {op : CmpOp} {r : L2.St → R2} (ho : OpS X (compareOp op) r) (ha : PE X a ta) (hb : PE X b tb) (hm : behindInMarks op b = false) : PE X (.Compare a [op] [b] pos) (tOpS r ta tb) := by
  refine ⟨fun pins s σ H Q I h => ?_⟩
  exact wpAny_Compare1 (binT ha hb I h fun v u s2 x y H2 I2 rx ry q => ho pins s2 σ H2 x y v u Q I2 rx ry q) hm
theorem pt_cmpS {op : CmpOp} {r : L2.St → R2} (ho : OpS X (compareOp op) r) (ha : PE X a ta) (hb : PE X b tb) (hm : behindInMarks op b = false) : PT X (.Compare a [op] [b] pos) (tTest (tOpS r ta tb)) := by
  refine ⟨fun pins s σ H Q I h => ?_⟩
  refine wpAny_isTrue_Compare1 (thn (ha.run pins s σ H _ I h) fun v s1 ⟨x, H1, I1, r1, q1⟩ => thn (hb.run pins s1 σ H1 _ I1 q1) fun u s2 ⟨y, H2, I2, r2, q2⟩ =>
    thn (ho pins s2 σ H2 x y v u _ I2 r1 r2 q2) fun c s3 ⟨z, H3, I3, r3, k, e, q3⟩ => ?_) hm
  subst e
  cases r3
  exact wpAny_truthy_bool ⟨H3, I3, q3⟩
theorem op_ownC {K : PySem.W.Frag} {op : CmpOp} (hop : ∀ v u, compareOp op v u = richCompare op v u) (m : Meth X.K C (cmpInfo op).2.1 f) (F : FnOk X.prog X.w X.K X.mg X.base CX n f fd ps sp) (hr : Room n X.A) (hb : Binds X.K fd ps []) (hx : ∀ σ, PassesAt CX X σ (E σ))
    (hk : X.K = K := by rfl) : OpS X (compareOp op) (rOwnC K C sp E) := by
  subst hk
  intro pins s σ H x y v u Q I rx ry h
  obtain ⟨a, dx, fs, tb, rfl, ha, ty, nf, h⟩ := h
  cases rx
  obtain ⟨mA, J, _⟩ := ins_get I.hok ha
  obtain ⟨od, J, _⟩ := J.look
  obtain ⟨m', hF⟩ := I.fr
  rw [hop]
  exact PySem.W.cmp_K hr.units0 hF I.ok.mod.kin J (ty_looks I ry ty) nf m.at_ m.fn (run_own (vs := [V.ref a, y]) F hr hb (hx σ) I (.cons rfl (.cons ry .nil)) h)
/-- len of an object with an own __len__ -/
def rOwnLen (C : Addr) (sp : Sp) (E : XK) : List V → Hp → VK → Prop := fun xs H Q => ∃ a dx fs, xs = [.ref a] ∧ H a = some (.ins C dx fs) ∧ sp [.ref a] H (fun v H' => ∃ i : Int, v = .int i ∧ (0 ≤ i ∧ i < 2 ^ 63) ∧ Q (.int i) H') E
theorem call_lenO {E : XK} (m : Meth X.K C "__len__" f) (F : FnOk X.prog X.w X.K X.mg X.base CX n f fd ps sp) (hr : Room (n + 1) X.A) (hb : Binds X.K fd ps []) (hx : ∀ σ, PassesAt CX X σ E) : CallR X (.builtin "len") (rOwnLen C sp E) := by
  intro pins s σ H xs us Q I r h
  obtain ⟨a, dx, fs, rfl, ha, h⟩ := h
  obtain ⟨u, rfl, rx⟩ := vals1 r
  cases rx
  obtain ⟨mA, J, _⟩ := ins_get I.hok ha
  obtain ⟨od, J, _⟩ := J.look
  obtain ⟨m', hF⟩ := I.fr
  refine PySem.W.len_K hF I.ok.mod.kin J m.at_ m.fn (wpAny_mono (run_ownA (vs := [V.ref a]) F hr.in1 rfl hb (hx σ) I (.cons rfl .nil) h) (fun v s' hv => ?_) fun _ _ e => e)
  obtain ⟨z, H', I', rv, i, rfl, hi, q⟩ := hv
  obtain ⟨t, rfl⟩ := (show ∃ t, v = Value.int i t from rv)
  exact ⟨hi, ⟨.int i, H', I'.tok _, ⟨_, rfl⟩, q⟩⟩
theorem op_ownIn (m : Meth X.K C "__contains__" f) (F : FnOk X.prog X.w X.K X.mg X.base CX n f fd ps sp) (hr : Room n X.A) (hb : Binds X.K fd ps []) (hx : ∀ σ, PassesAt CX X σ (E σ)) : OpS X (compareOp .In) (rOwnIn C sp E) := by
  intro pins s σ H y x u v Q I ry rx h
  obtain ⟨a, dx, fs, rfl, ha, h⟩ := h
  cases rx
  obtain ⟨mA, J, _⟩ := ins_get I.hok ha
  obtain ⟨od, J, _⟩ := J.look
  have hX := I.kIn
  have one := run_own (vs := [V.ref a, y]) F hr hb (hx σ) I (.cons rfl (.cons ry .nil)) h
  show wpAny _ _ (do return Value.bool (← contains (.ref a) u)) _ X.xe s
  refine wpAny_bind ?_
  unfold contains
  refine wpAny_holding ?_
  refine wpAny_bind (wpAny_bind (J.type.here ((PySem.W.looks_findIn hX m.at_).here ?_)))
  show wpAny _ _ (if (some (Value.ref f) == some Value.none) = true then _ else _) _ X.xe s
  rw [if_neg (by simp)]
  unfold callSpecialUnlessNone?
  refine wpAny_bind (wpAny_bind (wpAny_bind (J.type.here ((PySem.W.looks_findIn hX m.at_).here ?_))))
  refine wpAny_holding (wpAny_bind ((PySem.W.bind_fn hX _ (beq_iff_eq.mp m.fn)).here ?_))
  show wpAny _ _ (if (Value.ref f == Value.none) = true then _ else _) _ X.xe s
  rw [if_neg (by simp)]
  refine wpAny_bind (wpAny_mono one (fun z s' hz => ?_) fun _ _ e => e)
  have hz' : (EP X pins σ fun v H' => ∃ b, v = .bl b ∧ Q (.bl b) H') z s' := by
    cases z <;> first | exact hz.elim | exact hz
  obtain ⟨v, H', I', rv, b, rfl, q⟩ := hz'
  cases (show z = Value.bool b from rv)
  refine wpAny_pure ?_
  exact wpAny_truthy_bool (wpAny_pure ⟨.bl b, H', I', rfl, q⟩)
end
/-! ### x op= y for classes without the in-place method -/
section
variable {prog : Program} {w : World} {A : Around} {R : Value → Shared → Prop} {s : Shared} {K : PySem.W.Frag} {x C f : Addr} {ox : Obj} {od : Option Obj} {y : Value} {nm : String}
/-- the first class of a class at C is the class itself -/
theorem mro_first (hc : PySem.W.selfFirst K C = true) : ∃ (d : ClassData) (r : List Value), PySem.W.clsIn K C = some d ∧ d.mro = .ref C :: r := by
  obtain ⟨d, hd, e⟩ := PySem.W.any_some hc
  cases q : d.mro with
  | nil => rw [q] at e; cases e
  | cons u r =>
    rw [q] at e
    cases (beq_iff_eq.mp e)
    exact ⟨d, r, hd, q⟩
theorem bin1_own {Q : Option Value → Shared → Prop} (X : K.In s.heap) (I : PySem.W.InstAt s.heap x ox C od) (hy : PySem.W.Looks (model prog w) s.heap (typeOf y) (.ref C)) (hc : PySem.W.selfFirst K C = true)
    (hs : PySem.W.findIn K (.ref C) (PySem.dunder nm) = some (some (.ref f))) (hf : PySem.W.isFn K (.ref f) = true) (h : wpAny (model prog w) A (call (.ref f) [.ref x, y]) (PySem.W.CmpBack fun v => Q (some v)) R s) :
    wpAny (model prog w) A (binaryOp1 nm (.ref x) y) Q R s := by
  obtain ⟨d, r, hd, hm⟩ := mro_first hc
  have fl := PySem.W.fills_K (M := model prog w) X hd hm hs
  unfold binaryOp1
  refine wpAny_bind (I.type.here ?_)
  refine wpAny_bind (hy.here ?_)
  refine wpAny_bind (fl.here ?_)
  simp only [beq_self_eq_true, if_true]
  refine wpAny_bind (wpAny_pure ?_)
  simp only [Bool.and_false, Bool.false_and, Bool.false_eq_true, if_false]
  refine wpAny_bind (wpAny_pure ?_)
  simp only [Bool.false_eq_true, if_false]
  refine wpAny_bind (m := tryMethod (.ref x) _ y) ?_
  unfold tryMethod
  refine wpAny_bind ?_
  refine PySem.W.special_fn X I hs (beq_iff_eq.mp hf) (wpAny_mono h (fun v t hv => ?_) fun _ _ z => z)
  cases v <;> first | exact hv.elim | exact wpAny_pure (wpAny_pure hv)
theorem no_inplace {M : Model} {h : Heap} {add : Bool} (X : K.In h) {d : ClassData} (hd : PySem.W.clsIn K C = some d) (hm : d.mro = [.ref C, .type "object"]) (hc : PySem.W.findIn K (.ref C) (dunderI nm) = some none)
    (ho : PySem.W.findIn K (.type "object") (dunderI nm) = some none) : PySem.W.Looks M h (fillsInplaceSlot (.ref C) nm add) false := by
  intro A Q E s k q
  have Lm : PySem.W.Looks M h (mroOf (.ref C)) d.mro := (PySem.W.looks_clsIn X hd).andThen (f := fun d => pure d.mro) .now
  have X' : K.In s.heap := X.keeps k
  have L1 : PySem.W.Looks M s.heap (typeLookup (.ref C) (dunderI nm)) none := PySem.W.looks_findIn X' hc
  have L2 : PySem.W.Looks M s.heap (typeLookup (.type "object") (dunderI nm)) none := PySem.W.looks_findIn X' ho
  unfold fillsInplaceSlot
  refine wpAny_bind ((Lm.keeps k).here ?_)
  rw [hm, List.anyM_cons]
  refine wpAny_bind (wpAny_bind (L1.here (wpAny_pure ?_)))
  simp only [Bool.false_eq_true, if_false]
  rw [List.anyM_cons]
  refine wpAny_bind (wpAny_bind (L2.here (wpAny_pure ?_)))
  simp only [Bool.false_eq_true, if_false]
  exact wpAny_pure q
theorem inplace_by {op : Operator} {Q : Value → Shared → Prop} (I : PySem.W.InstAt s.heap x ox C od) (L : PySem.W.Looks (model prog w) s.heap (fillsInplaceSlot (.ref C) op.info.2 (op == .Add)) false)
    (h : wpAny (model prog w) A (binaryOp1 op.info.2 (.ref x) y) (fun r t => ∃ v, r = some v ∧ Q v t) R s) : wpAny (model prog w) A (inplaceOp op (.ref x) y) Q R s := by
  unfold inplaceOp
  refine wpAny_holding ?_
  refine wpAny_bind (I.type.here ?_)
  refine wpAny_bind (L.here ?_)
  simp only [Bool.false_eq_true, if_false]
  refine wpAny_bind (wpAny_mono h (fun r t hr => ?_) fun _ _ z => z)
  obtain ⟨v, rfl, q⟩ := hr
  exact wpAny_pure q
theorem bin1_int {i : Int} {t : Tok} {Q : Option Value → Shared → Prop} {rc fo ro : Option Value} (X : K.In s.heap) (I : PySem.W.InstAt s.heap x ox C od) (hc : PySem.W.selfFirst K C = true)
    (hs : PySem.W.findIn K (.ref C) (PySem.dunder nm) = some (some (.ref f))) (hf : PySem.W.isFn K (.ref f) = true) (hr : PySem.W.findIn K (.ref C) (dunderR nm) = some rc) (hp : rc = none ∨ ∃ g : Addr, rc = some (.ref g))
    (h1 : PySem.W.findIn K (.type "int") (PySem.dunder nm) = some fo) (h2 : PySem.W.findIn K (.type "int") (dunderR nm) = some ro) (hsub : PySem.W.subIn K (.type "int") (.ref C) = some false)
    (h : wpAny (model prog w) A (call (.ref f) [.ref x, .int i t]) (PySem.W.CmpBack fun v => Q (some v)) R s) : wpAny (model prog w) A (binaryOp1 nm (.ref x) (.int i t)) Q R s := by
  obtain ⟨d, r, hd, hm⟩ := mro_first hc
  have la : PySem.W.Looks (model prog w) s.heap (fillsNumberSlot (.ref C) nm) true := PySem.W.fills_K X hd hm hs
  have lb : PySem.W.Looks (model prog w) s.heap (fillsNumberSlot (.type "int") nm) ((fo.isSome && !isSeqSlot fo) || (ro.isSome && !isSeqSlot ro)) := PySem.W.ksp_fillsT X h1 h2
  have ls : PySem.W.Looks (model prog w) s.heap (isSubtype (.type "int") (.ref C)) false := PySem.W.looks_subIn X hsub
  have lp : PySem.W.Looks (model prog w) s.heap (numberSlotInPython (.ref C) nm) true := PySem.W.ksp_inPy X hs hr hp
  have lq : PySem.W.Looks (model prog w) s.heap (numberSlotInPython (.type "int") nm) false := PySem.W.Looks.of_pure rfl
  have lt : PySem.W.Looks (model prog w) s.heap (typeLookup (.type "int") (dunderR nm)) ro := PySem.W.looks_findIn X h2
  have ly : PySem.W.Looks (model prog w) s.heap (typeOf (.int i t)) (.type "int") := PySem.W.Looks.of_pure rfl
  generalize ((fo.isSome && !isSeqSlot fo) || (ro.isSome && !isSeqSlot ro)) = right at lb
  have ne : (Value.ref C == Value.type "int") = false := by simp
  have one : wpAny (model prog w) A (tryMethod (.ref x) (PySem.dunder nm) (.int i t)) (fun r s' => ∃ v, r = some v ∧ Q (some v) s') R s := by
    unfold tryMethod
    refine wpAny_bind (PySem.W.special_fn X I hs (beq_iff_eq.mp hf) (wpAny_mono h (fun v s' hv => ?_) fun _ _ z => z))
    cases v <;> first | exact hv.elim | exact wpAny_pure ⟨_, rfl, hv⟩
  unfold binaryOp1
  refine wpAny_bind (I.type.here ?_)
  refine wpAny_bind (ly.here ?_)
  refine wpAny_bind (la.here ?_)
  simp only [ne, Bool.false_eq_true, if_false]
  refine wpAny_bind (lb.here ?_)
  cases right with
  | false =>
    simp only [Bool.and_false, Bool.false_and, Bool.false_eq_true, if_false, if_true]
    refine wpAny_bind (wpAny_pure ?_)
    simp only [Bool.false_eq_true, if_false]
    refine wpAny_bind (wpAny_mono one (fun r s' hr' => ?_) fun _ _ z => z)
    obtain ⟨v, rfl, q⟩ := hr'
    exact wpAny_pure q
  | true =>
    simp only [Bool.and_true, Bool.not_false, if_true]
    refine wpAny_bind (ls.here ?_)
    simp only [Bool.false_eq_true, if_false]
    refine wpAny_bind (lp.here ?_)
    simp only [if_true]
    refine wpAny_bind (lq.here ?_)
    simp only [Bool.not_false, if_true]
    refine wpAny_bind (lt.here ?_)
    refine wpAny_bind (wpAny_mono one (fun r s' hr' => ?_) fun _ _ z => z)
    obtain ⟨v, rfl, q⟩ := hr'
    exact wpAny_pure q
end
/-- what a class without in-place methods has -/
structure NoIn (K : PySem.W.Frag) (C : Addr) (d : ClassData) : Prop where
  at_ : PySem.W.clsIn K C = some d
  mro : d.mro = [.ref C, .type "object"]
section
variable {X : Cx} {CX : CXT} {f C : Addr} {fd : FuncData} {ps : List Str} {n : Nat} {sp : Sp} {E : XK} {op : Operator} {d : ClassData}
theorem ip_own2 (o : Ops X.K C) (ni : NoIn X.K C d) (m : Meth X.K C (PySem.dunder op.info.2) f) (h1 : PySem.W.findIn X.K (.ref C) (dunderI op.info.2) = some none) (h2 : PySem.W.findIn X.K (.type "object") (dunderI op.info.2) = some none)
    (F : FnOk X.prog X.w X.K X.mg X.base CX n f fd ps sp) (hr : Room n X.A) (hb : Binds X.K fd ps []) (hx : ∀ σ, PassesAt CX X σ E) : OpR X (inplaceOp op) (rOwn2 C sp (fun _ => E) []) := by
  intro pins s σ H x y v u Q I rx ry h
  obtain ⟨a, dx, fs, b, dy, gs, rfl, ha, rfl, hb', h⟩ := h
  cases rx
  cases ry
  obtain ⟨mA, J, _⟩ := ins_get I.hok ha
  obtain ⟨od, J, _⟩ := J.look
  obtain ⟨mB, J', _⟩ := ins_get I.hok hb'
  obtain ⟨od', J', _⟩ := J'.look
  refine inplace_by J (no_inplace I.kIn ni.at_ ni.mro h1 h2) (bin1_own I.kIn J J'.type o.first m.at_ m.fn (wpAny_mono (run_own (vs := [V.ref a, V.ref b]) F hr hb (hx σ) I (.cons rfl (.cons rfl .nil)) h) (fun v s' hv => ?_) fun _ _ e => e))
  cases v <;> first | exact hv.elim | exact ⟨_, rfl, hv⟩
theorem ip_ownI {rc fo ro : Option Value} (o : Ops X.K C) (ni : NoIn X.K C d) (m : Meth X.K C (PySem.dunder op.info.2) f) (hi1 : PySem.W.findIn X.K (.ref C) (dunderI op.info.2) = some none) (hi2 : PySem.W.findIn X.K (.type "object") (dunderI op.info.2) = some none)
    (hrc : PySem.W.findIn X.K (.ref C) (dunderR op.info.2) = some rc) (hp : rc = none ∨ ∃ g : Addr, rc = some (.ref g)) (h1 : PySem.W.findIn X.K (.type "int") (PySem.dunder op.info.2) = some fo) (h2 : PySem.W.findIn X.K (.type "int") (dunderR op.info.2) = some ro)
    (F : FnOk X.prog X.w X.K X.mg X.base CX n f fd ps sp) (hr : Room n X.A) (hb : Binds X.K fd ps []) (hx : ∀ σ, PassesAt CX X σ E) : OpR X (inplaceOp op) (rOwnI C sp (fun _ => E) []) := by
  intro pins s σ H x y v u Q I rx ry h
  obtain ⟨a, dx, fs, i, rfl, ha, rfl, h⟩ := h
  cases rx
  obtain ⟨t, rfl⟩ := (show ∃ t, u = Value.int i t from ry)
  obtain ⟨mA, J, _⟩ := ins_get I.hok ha
  obtain ⟨od, J, _⟩ := J.look
  refine inplace_by J (no_inplace I.kIn ni.at_ ni.mro hi1 hi2) (bin1_int I.kIn J o.first m.at_ m.fn hrc hp h1 h2 o.sub (wpAny_mono (run_own (vs := [V.ref a, V.int i]) F hr hb (hx σ) I (.cons rfl (.cons ⟨t, rfl⟩ .nil)) h) (fun v s' hv => ?_) fun _ _ e => e))
  cases v <;> first | exact hv.elim | exact ⟨_, rfl, hv⟩
end
theorem pAt {X : Cx} {CX : CXT} {E : XK} (h : Passes CX X E) : ∀ σ : L2.St, PassesAt CX X σ E := fun σ pins H s e s' I c => h pins σ H s e s' I c
/-- what a binary operator with an int on the right asks of the class at C -/
structure IntOp (K : PySem.W.Frag) (C : Addr) (nm : String) : Prop where
  rc : ∃ rc, PySem.W.findIn K (.ref C) (dunderR nm) = some rc ∧ (rc = none ∨ ∃ g : Addr, rc = some (.ref g))
  lo : ∃ fo, PySem.W.findIn K (.type "int") (PySem.dunder nm) = some fo
  ro : ∃ ro, PySem.W.findIn K (.type "int") (dunderR nm) = some ro
section
variable {X : Cx} {CX : CXT} {f C : Addr} {fd : FuncData} {ps : List Str} {n : Nat} {sp : Sp} {op : Operator}
theorem op_ownJ {E : L2.St → XK} (o : Ops X.K C) (m : Meth X.K C (PySem.dunder op.info.2) f) (j : IntOp X.K C op.info.2) (F : FnOk X.prog X.w X.K X.mg X.base CX n f fd ps sp) (hr : Room n X.A) (hb : Binds X.K fd ps []) (hx : ∀ σ, PassesAt CX X σ (E σ)) :
    OpS X (binaryOp op) (rOwnI C sp E) := by
  obtain ⟨⟨rc, h1, h2⟩, ⟨fo, h3⟩, ⟨ro, h4⟩⟩ := j
  exact op_ownI o m h1 h2 h3 h4 F hr hb hx
theorem ip_ownK {E : XK} (o : Ops X.K C) (ni : ∃ d, NoIn X.K C d) (m : Meth X.K C (PySem.dunder op.info.2) f) (h : PySem.W.findIn X.K (.ref C) (dunderI op.info.2) = some none ∧ PySem.W.findIn X.K (.type "object") (dunderI op.info.2) = some none)
    (F : FnOk X.prog X.w X.K X.mg X.base CX n f fd ps sp) (hr : Room n X.A) (hb : Binds X.K fd ps []) (hx : ∀ σ, PassesAt CX X σ E) : OpR X (inplaceOp op) (rOwn2 C sp (fun _ => E) []) := by
  obtain ⟨d, ni⟩ := ni
  exact ip_own2 o ni m h.1 h.2 F hr hb hx
theorem ip_ownJ {E : XK} (o : Ops X.K C) (ni : ∃ d, NoIn X.K C d) (m : Meth X.K C (PySem.dunder op.info.2) f) (j : IntOp X.K C op.info.2) (h : PySem.W.findIn X.K (.ref C) (dunderI op.info.2) = some none ∧ PySem.W.findIn X.K (.type "object") (dunderI op.info.2) = some none)
    (F : FnOk X.prog X.w X.K X.mg X.base CX n f fd ps sp) (hr : Room n X.A) (hb : Binds X.K fd ps []) (hx : ∀ σ, PassesAt CX X σ E) : OpR X (inplaceOp op) (rOwnI C sp (fun _ => E) []) := by
  obtain ⟨d, ni⟩ := ni
  obtain ⟨⟨rc, h1, h2⟩, ⟨fo, h3⟩, ⟨ro, h4⟩⟩ := j
  exact ip_ownI o ni m h.1 h.2 h1 h2 h3 h4 F hr hb hx
end

/-! ### class methods -/
section
open PySem.Spec PyProof.Rows
variable {X : Cx} {CX : CXT} {k i : Nat} {f C p0 g : Addr} {fd : FuncData} {ps : List Str} {sp : Sp} {dvs : List V} {ds : List Value} {E : XK} {x m : Str} {p pos apos : Pos} {e o : Expr} {es : List Expr} {t : TA} {ta : TE} {mc : Value}
def tMakeV (i : Nat) (C : Addr) (sp : Sp) (dvs : List V) (E : XK) (t : TA) : TE := fun σ H Q => σ[i]? = some (some (.ref C)) ∧ tMake C sp dvs E t σ H Q
/-- cls(e, ..) -/
theorem pe_makeV (M : Mk X.K C f) (F : FnOk X.prog X.w X.K X.mg X.base CX k f fd ps sp) (hr : Room (k + 1) X.A) (hN : X.N[i]? = some x) (hv : Vis X.env.scope x) (hb : Binds X.K fd ps ds) (hd : Vals dvs ds) (hx : Passes CX X E) (ha : PA X (e :: es) t)
    (h1 : (x == ("__debug__" : Str)) = false := by decide) (h2 : (x == ("__classdict__" : Str)) = false := by decide) (he : starEach (e :: es) X.env = (false, eval e X.env) :: starEach es X.env := by rfl) (hpl : (backTo pos (starEach es X.env)).any (·.1) = false := by rfl) :
    PE X (.Call (.Name x p) (e :: es) [] pos) (tMakeV i C sp dvs E t) := by
  refine ⟨fun pins s σ H Q I h => ?_⟩
  obtain ⟨hs, h⟩ := h
  refine wpAny_Call_Name_kw (thn ((pe_var (pos := p) (i := i) hN hv h1 h2).run pins s σ H (fun v H1 => v = .ref C ∧ H1 = H) I ⟨.ref C, hs, rfl, rfl⟩) fun u s1 z => ?_)
  obtain ⟨v, H1, I1, r1, ev, eH⟩ := z
  subst ev
  rw [eH] at I1
  cases r1
  refine PySem.W.callWith_K (h₀ := X.base) I.ok.mod.kin M.kp (thn (ha.run pos pins s1 σ H _ I1 h) fun us s2 z => ?_) he hpl
  obtain ⟨vs, H2, I2, r, q⟩ := z
  exact ⟨I2.kIn, run_make M F hr hb hd hx I2 r q⟩
def tCMethS (C : Addr) (sp : Sp) (E : L2.St → XK) (ta : TE) (t : TA) : TE := fun σ H Q => ta σ H fun x H1 => x = .ref C ∧ t σ H1 fun vs H2 => sp (.ref C :: vs) H2 Q (E σ)
/-- C.m(e, ..) within a try -/
theorem pe_cmethS {pl : Sem Bool} {ES : L2.St → XK} (ho : PE X o ta) (r : ClX.CRead X.K C mc) (c : ClX.CMet X.K C mc m p0 g) (F : FnR X.prog X.w X.K X.mg X.base CX k g sp) (hr : Room k X.A) (hx : ∀ σ, PassesAt CX X σ (ES σ)) (ha : PA X (e :: es) t)
    (hst : starEach (e :: es) X.env = (false, eval e X.env) :: starEach es X.env := by rfl) (hpl : (backTo pos (starEach es X.env)).any (·.1) = false := by rfl)
    (ht : eval (.Call (.Attribute o m apos) (e :: es) [] pos) X.env = (do
      let v0 ← eval o X.env
      standAt apos.atName
      let (g0, first0) ← holding [v0] (getMethod v0 m pl)
      callWith pos g0 first0 (backTo pos (starEach (e :: es) X.env)) (backToKw pos (keywordEach [] X.env))) := by rfl) :
    PE X (.Call (.Attribute o m apos) (e :: es) [] pos) (tCMethS C sp ES ta t) := by
  refine ⟨fun pins s σ H Q I h => PySem.W.methodCall_KW (pl := pl) (thn (ho.run pins s σ H _ I h) fun u s1 z => ?_) ht⟩
  obtain ⟨v, H1, I1, rx, ex, q⟩ := z
  subst ex
  obtain rfl : u = Value.ref C := rx
  refine ClX.getmethcm_ok I1 r c fun s2 I2 => ?_
  refine ClX.callwith_cm I2 (ClX.base_none I1 (Nat.le_refl _)) c.fi (thn (ha.run pos _ s2 σ H1 _ I2 q) fun us s3 z => ?_) hst hpl
  obtain ⟨vs, H2, I3, rv, q2⟩ := z
  refine ⟨⟨ClX.pin_at I3, I3.kIn⟩, ?_⟩
  have run : codeAny (model X.prog X.w) X.A (.call (.ref g) ⟨.ref C :: us, []⟩) (fun r s' => match r with | .ok (.ret v) => EP X _ σ Q v s' | .ok _ => False | .error e => X.xe e s') s3 :=
    codeAny_mono (F X.A X.stack s3 H2 (.ref C :: us) (.ref C :: vs) Q (ES σ) hr I3.env0 (.cons rfl rv) q2) fun r4 s4 hq => by
      cases r4 with
      | error e => exact hx σ _ H2 s3 e s4 I3 hq
      | ok fl => cases fl with
        | ret u => exact I3.after hq
        | next => exact hq.elim
        | brk => exact hq.elim
        | cont => exact hq.elim
  exact thn (wpAny_call (PySem.W.method_call (ClX.pin_at I3) run)) fun _ _ y => ClX.unpinE y
end

/-! ### an object made within a try -/
section
open PySem.Spec PyProof.Rows
variable {X : Cx} {CX : CXT} {k : Nat} {f C : Addr} {fd : FuncData} {ps : List Str} {sp : Sp} {dvs : List V} {ds : List Value} {E : L2.St → XK} {x : Str} {p pos : Pos} {e : Expr} {es : List Expr} {t : TA}
def tMakeS (C : Addr) (sp : Sp) (dvs : List V) (E : L2.St → XK) (t : TA) : TE := fun σ H Q => t σ H fun vs H1 => ∀ x dx, H1 x = none → H1 dx = none → dx ≠ x →
  sp (.ref x :: (vs ++ dvs)) (upd (upd H1 dx (.own x)) x (.ins C dx [])) (fun v H2 => v = .non ∧ Q (.ref x) H2) (E σ)
theorem pe_makeS (M : Mk X.K C f) (F : FnOk X.prog X.w X.K X.mg X.base CX k f fd ps sp) (hr : Room (k + 1) X.A) (hg : Gl X x) (hm : X.mg x = some (.ref C)) (hb : Binds X.K fd ps ds) (hd : Vals dvs ds) (hx : ∀ σ, PassesAt CX X σ (E σ))
    (ha : PA X (e :: es) t) (hdb : (x == ("__debug__" : Str)) = false := by decide) (he : starEach (e :: es) X.env = (false, eval e X.env) :: starEach es X.env := by rfl) (hpl : (backTo pos (starEach es X.env)).any (·.1) = false := by rfl) :
    PE X (.Call (.Name x p) (e :: es) [] pos) (tMakeS C sp dvs E t) := by
  refine ⟨fun pins s σ H Q I h => wpAny_Call_Name_kw (ld_glob I hg hm ?_ hdb)⟩
  refine PySem.W.callWith_K (h₀ := X.base) I.ok.mod.kin M.kp (thn (ha.run pos pins s σ H _ I h) fun us s1 hu => ?_) he hpl
  obtain ⟨vs, H1, J, r, q⟩ := hu
  refine ⟨J.kIn, ?_⟩
  have hq := q (s1.heap.objs.size + 1) s1.heap.objs.size (J.hok.fresh (Nat.le_succ _)) (J.hok.fresh (Nat.le_refl _)) (Nat.ne_of_lt (Nat.lt_succ_self _))
  have J2 := Inv.made (C := C) J
  have r2 : Vals (V.ref (s1.heap.objs.size + 1) :: (vs ++ dvs)) (Value.ref (s1.heap.objs.size + 1) :: (us ++ ds)) := .cons rfl (r.append hd)
  have hl : (Value.ref (s1.heap.objs.size + 1) :: us ++ ds).length = ps.length := by
    have e0 := r2.length
    rw [F.len _ _ _ _ hq] at e0
    exact e0.symm
  have go := F.run _ X.stack _ _ ⟨Value.ref (s1.heap.objs.size + 1) :: us, []⟩ (Value.ref (s1.heap.objs.size + 1) :: (us ++ ds)) _ _ (E σ) (hr.make C us []) (J2.env0.make C us []) (hb _ (Value.ref (s1.heap.objs.size + 1) :: us) J2.kIn hl) r2 hq
  refine wpAny_call (make_map (f := f) J.kIn M.makes M.init (beq_iff_eq.mp M.fn) (codeAny_mono go fun r3 s3 hq3 => ?_))
  cases r3 with
  | error e => exact hx σ pins _ _ e s3 J2 hq3
  | ok fl => cases fl with
    | ret u =>
      obtain ⟨v, H3, J3, rv, ev, q3⟩ := J2.after hq3
      subst ev
      exact ⟨rv, ⟨V.ref (s1.heap.objs.size + 1), H3, J3, rfl, q3⟩⟩
    | next => exact hq3.elim
    | brk => exact hq3.elim
    | cont => exact hq3.elim
end

/-! ### letters and words -/
def LET : Str := "abcdefghijklmnopqrstuvwxyz"
theorem let_list : LET.cps.toList = (List.range 26).map fun c => 97 + c := by decide +kernel
theorem mem_let {c : Nat} : c ∈ LET.cps.toList ↔ 97 ≤ c ∧ c ≤ 122 := by
  rw [let_list]
  constructor
  · intro h
    obtain ⟨i, hi, rfl⟩ := List.mem_map.mp h
    have := List.mem_range.mp hi
    omega
  · rintro ⟨h0, h1⟩
    exact List.mem_map.mpr ⟨c - 97, List.mem_range.mpr (by omega), by omega⟩
theorem let_at {i : Int} (h : 0 ≤ i ∧ i < 26) : atI LET.cps.toList i = some (97 + i.toNat) := by
  have h2 := atI_nat (xs := LET.cps.toList) (j := i.toNat) (v := 97 + i.toNat) (by rw [let_list, List.getElem?_map, List.getElem?_range (by omega)]; rfl)
  rwa [Int.toNat_of_nonneg h.1] at h2
theorem let_occ {c : Nat} (h : 97 ≤ c ∧ c ≤ 122) : Builtin.Str.occurrences LET ⟨#[c]⟩ 0 LET.length 1 = [c - 97] := by
  have e : ∀ i : Nat, i < 26 → Builtin.Str.occurrences LET ⟨#[97 + i]⟩ 0 LET.length 1 = [i] := by decide +kernel
  have := e (c - 97) (by omega)
  rwa [show 97 + (c - 97) = c by omega] at this
/-- a text by its signs -/
def txt (l : List Nat) : Str := ⟨l.toArray⟩
theorem txt_list (l : List Nat) : (txt l).cps.toList = l := rfl
theorem txt_len (l : List Nat) : (txt l).length = l.length := by simp [txt, Str.length]
theorem txt_of (z : Str) : txt z.cps.toList = z := by cases z; simp [txt]
theorem txt_inj {a b : List Nat} (h : txt a = txt b) : a = b := by
  have := congrArg (fun z : Str => z.cps.toList) h
  simpa [txt] using this
theorem txt_add (a b : List Nat) : txt a ++ txt b = txt (a ++ b) := by
  show (⟨_ ++ _⟩ : Str) = _
  simp [txt]
theorem txt_one (c : Nat) : (⟨#[c]⟩ : Str) = txt [c] := rfl
/-- 1 to 8 letters -/
structure Word (z : Str) : Prop where
  len : 1 ≤ z.length ∧ z.length ≤ 8
  all : ∀ c ∈ z.cps.toList, 97 ≤ c ∧ c ≤ 122
theorem cut_last {l : List Nat} : cutS (txt l) none (some (-1)) = txt l.dropLast := by
  unfold cutS
  rw [HT.sIx_none, txt_len, txt_list, List.drop_zero, Nat.sub_zero, List.dropLast_eq_take]
  show txt _ = txt _
  congr 2
  show (if (-1 : Int) < 0 then ((-1 : Int) + (l.length : Int)).toNat else min (-1 : Int).toNat l.length) = _
  rw [if_pos (by decide)]
  omega
/-- one letter on, at the end -/
def bump (p : List Nat) (c i : Nat) : Str := txt (p ++ [97 + (c + i) % 26])
theorem bump_inj {p : List Nat} {c i j : Nat} (hi : i < 26) (hj : j < 26) (h : bump p c i = bump p c j) : i = j := by
  have e := List.append_inj_right' (txt_inj h) rfl
  simp at e
  omega
theorem word_split {z : Str} (h : Word z) : ∃ (p : List Nat) (c : Nat), c < 26 ∧ p.length ≤ 7 ∧ (∀ d ∈ p, 97 ≤ d ∧ d ≤ 122) ∧ z = bump p c 0 := by
  obtain ⟨⟨h1, h2⟩, ha⟩ := h
  have hl : z.cps.toList.length = z.length := by simp [Str.length]
  have hne : z.cps.toList ≠ [] := fun e => by rw [e] at hl; simp at hl; omega
  have hm := ha _ (List.getLast_mem hne)
  have hs := List.dropLast_concat_getLast hne
  refine ⟨z.cps.toList.dropLast, z.cps.toList.getLast hne - 97, by omega, by rw [List.length_dropLast]; omega, fun d hd => ha d (List.dropLast_subset _ hd), ?_⟩
  unfold bump
  rw [show 97 + (z.cps.toList.getLast hne - 97 + 0) % 26 = z.cps.toList.getLast hne by omega, hs, txt_of]
theorem bump_word {p : List Nat} {c i : Nat} (hp : p.length ≤ 7) (ha : ∀ d ∈ p, 97 ≤ d ∧ d ≤ 122) : Word (bump p c i) := by
  refine ⟨?_, fun d hd => ?_⟩
  · unfold bump
    rw [txt_len, List.length_append]
    simp
    omega
  · unfold bump at hd
    rw [txt_list] at hd
    rcases List.mem_append.mp hd with h | h
    · exact ha d h
    · have := List.mem_singleton.mp h
      omega
theorem bump_next {p : List Nat} {c i : Nat} : txt p ++ (⟨#[97 + ((97 + (c + i) % 26) - 97 + 1) % 26]⟩ : Str) = bump p c (i + 1) := by
  rw [txt_one, txt_add]
  unfold bump
  congr 3
  omega
theorem nodup_sub {α : Type} [DecidableEq α] : ∀ {l m : List α}, l.Nodup → (∀ x ∈ l, x ∈ m) → l.length ≤ m.length
  | [], _, _, _ => Nat.zero_le _
  | x :: l, m, hd, hs => by
    have h := List.nodup_cons.mp hd
    have hx := hs x List.mem_cons_self
    have ih := nodup_sub (m := m.erase x) h.2 fun y hy => (List.mem_erase_of_ne fun e => h.1 (by rw [← e]; exact hy)).mpr (hs y (List.mem_cons_of_mem _ hy))
    rw [List.length_erase_of_mem hx] at ih
    have := List.length_pos_of_mem hx
    rw [List.length_cons]
    omega
theorem bumps_out {p : List Nat} {c : Nat} {ns : List Str} (hn : ns.length ≤ 7) (h : ∀ s : Nat, s < 8 → bump p c s ∈ ns) : False := by
  have hd : ((List.range 8).map (bump p c)).Nodup := by
    refine List.pairwise_map.mpr (List.Pairwise.imp_of_mem (fun {i j} hi hj hne e => hne (bump_inj (by have := List.mem_range.mp hi; omega) (by have := List.mem_range.mp hj; omega) e)) List.nodup_range)
  have := nodup_sub hd (m := ns) fun x hx => by
    obtain ⟨i, hi, rfl⟩ := List.mem_map.mp hx
    exact h i (List.mem_range.mp hi)
  rw [List.length_map, List.length_range] at this
  omega
theorem inV_strs {x : Str} {ns : List Str} : inV (V.str x) (ns.map V.str) = decide (x ∈ ns) := by
  unfold inV
  induction ns with
  | nil => rfl
  | cons y ns ih =>
    rw [List.map_cons, List.any_cons, ih]
    by_cases h : y = x
    · subst h
      simp [eqV]
    · have h' : ¬ x = y := fun z => h z.symm
      simp [eqV, h, h']
theorem strs_flat (ns : List Str) : (ns.map V.str).all flatV = true := by
  rw [List.all_map, List.all_eq_true]
  exact fun _ _ => rfl
theorem some_str {ns : List Str} {i : Nat} {y : V} (h : (ns.map V.str)[i]? = some y) : ∃ u, y = V.str u ∧ ns[i]? = some u := by
  rw [List.getElem?_map] at h
  cases e : ns[i]? with
  | none => rw [e] at h; cases h
  | some u => rw [e] at h; exact ⟨u, (Option.some.inj h).symm, rfl⟩
/-! ### terms on texts -/
theorem rv_addS {H : Hp} {x y : Str} (h : x.length + y.length ≤ 100000) : RV (fun x y H Q => ∃ i j, x = .str i ∧ y = .str j ∧ i.length + j.length ≤ sizeLine ∧ Q (.str (i ++ j)) H) (.str x) (.str y) H (.str (x ++ y)) := fun H1 _ Q q => ⟨x, y, rfl, rfl, sz_of h, q H1 (Ex.refl H1)⟩
theorem ev_slS {te : TE} {tl th : TO} {σ : L2.St} {H : Hp} {z : Str} {lo hi : Option Int} (h : Ev te σ H (.str z)) (h1 : EvO tl σ H lo) (h2 : EvO th σ H hi) (hz : z.length ≤ 100000) : Ev (L2.tSl rSlS te tl th) σ H (.str (cutS z lo hi)) := fun H1 e Q q =>
  h H1 e _ fun H2 e2 => h1 H2 (e.trans e2) _ fun H3 e3 => h2 H3 ((e.trans e2).trans e3) _ fun H4 e4 => ⟨z, rfl, sz_of hz, q H4 ((e2.trans e3).trans e4)⟩
theorem ev_letIx {to te : TE} {σ : L2.St} {H : Hp} {c : Nat} (ho : Ev to σ H (.str LET)) (he : Ev te σ H (.str ⟨#[c]⟩)) (hc : 97 ≤ c ∧ c ≤ 122) : Ev (tM1 (fun x xs H Q => ∃ a b i rest, x = .str a ∧ xs = [.str b] ∧ Builtin.Str.occurrences a b 0 a.length 1 = i :: rest ∧ Q (.int (i : Nat)) H) to te) σ H (.int ((c - 97 : Nat) : Int)) := fun H1 e Q q =>
  ho H1 e _ fun H2 e2 => ⟨⟨_, rfl⟩, he H2 (e.trans e2) _ fun H3 e3 => ⟨LET, _, c - 97, [], rfl, rfl, let_occ hc, q H3 (e2.trans e3)⟩⟩
theorem ei_str {σ : L2.St} {H : Hp} {te : TE} {z : Str} (h : Ev te σ H (.str z)) : EvI (iStr te) σ H z.cps.size (fun i G v G' => G' = G ∧ ∃ c, z.cps[i]? = some c ∧ v = .str ⟨#[c]⟩) := fun H1 e R r => h H1 e _ fun H2 e2 =>
  ⟨z, rfl, r _ _ e2 (walk_str.mono (fun _ _ => True.intro) fun _ _ _ _ _ _ y => y)⟩
theorem rv_niS {H : Hp} {c : Nat} {z : Str} : RV (fun x y H Q => ∃ (c : Nat) (z : Str), x = .str ⟨#[c]⟩ ∧ y = .str z ∧ Q (.bl (!decide (c ∈ z.cps.toList))) H) (.str ⟨#[c]⟩) (.str z) H (.bl (!decide (c ∈ z.cps.toList))) := fun H1 _ Q q => ⟨c, z, rfl, rfl, q H1 (Ex.refl H1)⟩
theorem ev_lenS {K : PySem.W.Frag} {te : TE} {σ : L2.St} {H : Hp} {z : Str} (h : Ev te σ H (.str z)) (hz : z.length ≤ 100000) : Ev (tCB (rLenK K) (tCons te tNil)) σ H (.int (z.length : Int)) := ev_cb (ea_cons h ea_nil) fun H2 e2 Q q => ⟨.str z, z.length, rfl, ⟨sz_of hz, rfl⟩, q H2 (Ex.refl H2)⟩

/-! ### houses -/
theorem in_getD {α : Type} {xs : List α} {i : Nat} {d : α} (h : i < xs.length) : xs.getD i d ∈ xs := by
  rw [List.getD_eq_getElem?_getD, List.getElem?_eq_getElem h]
  exact List.getElem_mem _
def houF (n : Int) (p q : Addr) : List (Str × V) := [("hours", .int n), ("names", .ref p), ("stakes", .ref q)]
/-- v is a house of these hours and gates -/
def HouseIs (C : Addr) (v : V) (H : Hp) (n : Int) (gs : List (Str × Int)) : Prop := ∃ a dx p q, v = .ref a ∧ H a = some (.ins C dx (houF n p q)) ∧ H p = some (.tup ((gs.map (·.1)).map V.str)) ∧ H q = some (.tup ((gs.map (·.2)).map V.int))
theorem HouseIs.ex {C : Addr} {v : V} {H H' : Hp} {n : Int} {gs : List (Str × Int)} (e : Ex H H') (h : HouseIs C v H n gs) : HouseIs C v H' n gs := by
  obtain ⟨a, dx, p, q, rfl, h1, h2, h3⟩ := h
  exact ⟨a, dx, p, q, rfl, e _ _ h1, e _ _ h2, e _ _ h3⟩
/-- a list of pairs of a name and a stake -/
structure Gates (K : PySem.W.Frag) (H : Hp) (p : Addr) (gs : List (Str × Int)) : Prop where
  all : ∃ vs : List V, SqL K H p vs ∧ vs.length = gs.length ∧ ∀ (i : Nat) v, vs[i]? = some v → ∃ t, v = .ref t ∧ ∀ g, gs[i]? = some g → SqT K H t [.str g.1, .int g.2]
theorem Gates.ex {K : PySem.W.Frag} {H H' : Hp} {p : Addr} {gs : List (Str × Int)} (e : Ex H H') (h : Gates K H p gs) : Gates K H' p gs := by
  obtain ⟨vs, h1, h2, h3⟩ := h.all
  exact ⟨vs, ex_l e h1, h2, fun i v hv => (h3 i v hv).imp fun t h => ⟨h.1, fun g hg => ex_t e (h.2 g hg)⟩⟩
def goodName (z : Str) : Bool := decide (1 ≤ z.length ∧ z.length ≤ 8) && z.cps.toList.all fun c => decide (c ∈ LET.cps.toList)
theorem word_good {z : Str} (h : Word z) : goodName z = true := by
  unfold goodName
  rw [Bool.and_eq_true, decide_eq_true_iff, List.all_eq_true]
  exact ⟨h.len, fun c hc => decide_eq_true (mem_let.mpr (h.all c hc))⟩
inductive HErr where
  | hours
  | noGates
  | manyGates
  | name (z : Str)
  | again (z : Str)
  | stake (s : Int)
  | cells
/-- the first fault of the gates -/
def scanG : List Str → List (Str × Int) → Option HErr
  | _, [] => none
  | seen, g :: r => if goodName g.1 = false then some (.name g.1) else if g.1 ∈ seen then some (.again g.1) else if g.2 < 0 ∨ 60 < g.2 then some (.stake g.2) else scanG (seen ++ [g.1]) r
def houseErr (n : Int) (gs : List (Str × Int)) : Option HErr := if n < 1 ∨ 24 < n then some .hours else if gs.length = 0 then some .noGates else if 4 < gs.length then some .manyGates else
  match scanG [] gs with
  | some e => some e
  | none => if 48 < n * (gs.length : Int) then some .cells else none
theorem scan_good : ∀ {gs : List (Str × Int)} {seen : List Str}, (∀ g ∈ gs, Word g.1 ∧ 0 ≤ g.2 ∧ g.2 ≤ 60) → (seen ++ gs.map (·.1)).Nodup → scanG seen gs = none
  | [], _, _, _ => rfl
  | g :: gs, seen, h, hd => by
    have hg := h g List.mem_cons_self
    unfold scanG
    rw [List.map_cons] at hd
    have hn : g.1 ∉ seen := fun hm => (List.nodup_append.mp hd).2.2 _ hm _ List.mem_cons_self rfl
    rw [if_neg (by rw [word_good hg.1]; simp), if_neg hn, if_neg (by omega)]
    refine scan_good (fun x hx => h x (List.mem_cons_of_mem _ hx)) ?_
    rw [List.append_assoc]
    exact hd
theorem house_good {n : Int} {gs : List (Str × Int)} (hn : 1 ≤ n ∧ n ≤ 24) (hl : 1 ≤ gs.length ∧ gs.length ≤ 4) (hg : ∀ g ∈ gs, Word g.1 ∧ 0 ≤ g.2 ∧ g.2 ≤ 60) (hd : (gs.map (·.1)).Nodup) (hc : n * (gs.length : Int) ≤ 48) : houseErr n gs = none := by
  unfold houseErr
  rw [if_neg (by omega), if_neg (by omega), if_neg (by omega), scan_good hg (by simpa using hd)]
  exact if_neg (by omega)

/-! ### spreads of tries -/
abbrev T3 := Int × Int × Int
structure TripT (K : PySem.W.Frag) (H : Hp) (p : Addr) (ts : List T3) : Prop where
  all : ∃ vs : List V, SqT K H p vs ∧ vs.length = ts.length ∧ ∀ (i : Nat) v, vs[i]? = some v → ∃ t, v = .ref t ∧ ∀ x, ts[i]? = some x → SqT K H t [.int x.1, .int x.2.1, .int x.2.2]
theorem TripT.ex {K : PySem.W.Frag} {H H' : Hp} {p : Addr} {ts : List T3} (e : Ex H H') (h : TripT K H p ts) : TripT K H' p ts := by
  obtain ⟨vs, h1, h2, h3⟩ := h.all
  exact ⟨vs, ex_t e h1, h2, fun i v hv => (h3 i v hv).imp fun t h => ⟨h.1, fun g hg => ex_t e (h.2 g hg)⟩⟩
def inHouse (n : Int) (m : Nat) (g h : Int) : Bool := decide ((0 ≤ g ∧ g < (m : Int)) ∧ 0 ≤ h ∧ h < n)
def lexLe (a b c d : Int) : Bool := decide (a < c ∨ (a = c ∧ b ≤ d))
/-- the index of the first wrong triple -/
def firstW (n : Int) (m : Nat) : Nat → Int → Int → List T3 → Option Nat
  | _, _, _, [] => none
  | k, b, c, t :: r => if (!inHouse n m t.1 t.2.1 || decide (t.2.2 < 1) || lexLe t.1 t.2.1 b c) = true then some k else firstW n m (k + 1) t.1 t.2.1 r
inductive TRes where
  | wrong (k : Nat)
  | many
  | ok (z : Int)
def triesRes (n : Int) (m : Nat) (ts : List T3) : TRes := match firstW n m 0 (-1) (-1) ts with
  | some k => .wrong k
  | none => if 6 < (ts.map (·.2.2)).sum then .many else .ok (ts.map (·.2.2)).sum
theorem lex_data {a b c d : Int} : (!PySem.W.dataLt (.tuple [.int c, .int d]) (.tuple [.int a, .int b])) = lexLe a b c d := by
  have h : PySem.W.dataLt (.tuple [.int c, .int d]) (.tuple [.int a, .int b]) = decide ([c, d] < [a, b]) := by
    rw [PySem.W.dataLt_tuple]
    exact PySem.W.dataLt_ints [c, d] [a, b]
  rw [h]
  unfold lexLe
  rw [← decide_not, decide_eq_decide, List.cons_lt_cons_iff, List.cons_lt_cons_iff]
  simp
  omega

theorem sl_listK {X : Cx} {K : PySem.W.Frag} (h : X.K = K := by rfl) : SlR X (rSlL K) := by subst h; exact sl_list
/-! ### rows of triples -/
def triV (t : T3) : List V := [.int t.1, .int t.2.1, .int t.2.2]
def RowL (K : PySem.W.Frag) (H : Hp) (p : Addr) (rs : List (Addr × T3)) : Prop := SqL K H p (rs.map fun r => V.ref r.1) ∧ ∀ r ∈ rs, SqT K H r.1 (triV r.2)
def RowT (K : PySem.W.Frag) (H : Hp) (p : Addr) (rs : List (Addr × T3)) : Prop := SqT K H p (rs.map fun r => V.ref r.1) ∧ ∀ r ∈ rs, SqT K H r.1 (triV r.2)
theorem RowL.ex {K : PySem.W.Frag} {H H' : Hp} {p : Addr} {rs : List (Addr × T3)} (e : Ex H H') (h : RowL K H p rs) : RowL K H' p rs := ⟨ex_l e h.1, fun r hr => ex_t e (h.2 r hr)⟩
theorem RowT.ex {K : PySem.W.Frag} {H H' : Hp} {p : Addr} {rs : List (Addr × T3)} (e : Ex H H') (h : RowT K H p rs) : RowT K H' p rs := ⟨ex_t e h.1, fun r hr => ex_t e (h.2 r hr)⟩
theorem RowT.trip {K : PySem.W.Frag} {H : Hp} {p : Addr} {rs : List (Addr × T3)} (h : RowT K H p rs) : TripT K H p (rs.map (·.2)) := by
  refine ⟨_, h.1, by simp, fun i v hv => ?_⟩
  rw [List.getElem?_map] at hv
  cases e : rs[i]? with
  | none => rw [e] at hv; cases hv
  | some r =>
    rw [e] at hv
    cases hv
    refine ⟨r.1, rfl, fun x hx => ?_⟩
    rw [List.getElem?_map, e] at hx
    cases hx
    exact h.2 r (List.mem_of_getElem? e)
theorem row_at {rs : List (Addr × T3)} {i : Nat} {r : Addr × T3} (h : rs[i]? = some r) : atI (rs.map fun r => V.ref r.1) (i : Int) = some (.ref r.1) := atI_nat (by rw [List.getElem?_map, h]; rfl)
def isWrong (m n : Int) (ts : List T3) (k : Nat) : Bool :=
  let t := ts.getD k (0, 0, 0)
  let u := ts.getD (k - 1) (0, 0, 0)
  (decide (t.1 < 0) || (decide (m ≤ t.1) || (decide (t.2.1 < 0) || (decide (n ≤ t.2.1) || decide (t.2.2 < 1))))) || (decide ((0 : Int) < (k : Int)) && decide (t.1 * n + t.2.1 ≤ u.1 * n + u.2.1))
def dueD (n : Int) (m : Nat) (ts : List T3) : PyData := match triesRes n m ts with
  | .wrong k => .tuple [.str "BadSpread", .int (k : Int), .bool true, .bool false]
  | .many => .tuple [.str "TooMany", .str "tries", .int 6, .bool true, .bool false]
  | .ok z => .tuple [.str "number", .int z]
theorem lex_lin {n a b c d : Int} (h1 : 0 ≤ b ∧ b < n) (h2 : 0 ≤ d ∧ d < n) : lexLe a b c d = decide (a * n + b ≤ c * n + d) := by
  unfold lexLe
  rw [decide_eq_decide]
  constructor
  · rintro (h | ⟨rfl, h⟩)
    · have : (a + 1) * n ≤ c * n := Int.mul_le_mul_of_nonneg_right (by omega) (by omega)
      rw [Int.add_mul] at this
      omega
    · omega
  · intro h
    rcases Int.lt_trichotomy a c with h' | rfl | h'
    · exact .inl h'
    · exact .inr ⟨rfl, by omega⟩
    · have : (c + 1) * n ≤ a * n := Int.mul_le_mul_of_nonneg_right (by omega) (by omega)
      rw [Int.add_mul] at this
      omega
theorem first_find {n : Int} {m : Nat} {ts : List T3} : ∀ (j k : Nat) (b c : Int), k + j = ts.length → (k = 0 → b = -1 ∧ c = -1) → (0 < k → ∃ z, ts[k - 1]? = some (b, c, z) ∧ 0 ≤ b ∧ 0 ≤ c ∧ c < n) →
    firstW n m k b c (ts.drop k) = (List.range' k j).find? (isWrong m n ts)
  | 0, k, b, c, hk, _, _ => by rw [List.drop_of_length_le (by omega)]; rfl
  | j + 1, k, b, c, hk, h0, h1 => by
    have hi : k < ts.length := by omega
    have e1 : ts[k]? = some ts[k] := List.getElem?_eq_getElem hi
    rw [List.drop_eq_getElem_cons hi, List.range'_succ, List.find?_cons]
    generalize ts[k] = t at *
    obtain ⟨g, h, z⟩ := t
    have gd : ts.getD k (0, 0, 0) = (g, h, z) := by rw [List.getD_eq_getElem?_getD, e1]; rfl
    have key : (!inHouse n m g h || decide (z < 1) || lexLe g h b c) = isWrong m n ts k := by
      unfold isWrong
      rw [gd]
      dsimp only
      by_cases hv : inHouse n m g h = true
      · have hv' : (0 ≤ g ∧ g < (m : Int)) ∧ 0 ≤ h ∧ h < n := of_decide_eq_true hv
        rw [hv, decide_eq_false (by omega : ¬ g < 0), decide_eq_false (by omega : ¬ (m : Int) ≤ g), decide_eq_false (by omega : ¬ h < 0), decide_eq_false (by omega : ¬ n ≤ h)]
        by_cases hk0 : k = 0
        · obtain ⟨rfl, rfl⟩ := h0 hk0
          subst hk0
          have : lexLe g h (-1) (-1) = false := by
            unfold lexLe
            exact decide_eq_false (by omega)
          rw [this]
          simp
        · obtain ⟨z', hz', hb⟩ := h1 (by omega)
          have gd' : ts.getD (k - 1) (0, 0, 0) = (b, c, z') := by rw [List.getD_eq_getElem?_getD, hz']; rfl
          rw [gd', lex_lin hv'.2 hb.2, decide_eq_true (by omega : (0 : Int) < (k : Int))]
          simp
      · have hv' : ¬ ((0 ≤ g ∧ g < (m : Int)) ∧ 0 ≤ h ∧ h < n) := fun z => hv (decide_eq_true z)
        have : (decide (g < 0) || (decide ((m : Int) ≤ g) || (decide (h < 0) || (decide (n ≤ h) || decide (z < 1))))) = true := by
          simp only [Bool.or_eq_true, decide_eq_true_iff]
          omega
        rw [this, Bool.eq_false_iff.mpr hv]
        simp
    cases hw : isWrong m n ts k with
    | true => exact if_pos (by rw [key, hw])
    | false =>
      refine (if_neg (by rw [key, hw]; simp)).trans ?_
      have hv : inHouse n m g h = true := by
        rw [hw] at key
        cases hh : inHouse n m g h with
        | true => rfl
        | false => rw [hh] at key; simp at key
      have hv' : (0 ≤ g ∧ g < (m : Int)) ∧ 0 ≤ h ∧ h < n := of_decide_eq_true hv
      exact first_find j (k + 1) g h (by omega) (by omega) fun _ => ⟨z, by rw [Nat.add_sub_cancel]; exact e1, hv'.1.1, hv'.2.1, hv'.2.2⟩
theorem first_eq {n : Int} {m : Nat} {ts : List T3} : firstW n m 0 (-1) (-1) ts = (List.range ts.length).find? (isWrong m n ts) := by
  rw [List.range_eq_range']
  exact first_find ts.length 0 (-1) (-1) (by omega) (fun _ => ⟨rfl, rfl⟩) (fun h => absurd h (by omega))
theorem pick_head {n : Nat} {f : Nat → Bool} : (pick n f fun i => (i : Int)).head? = ((List.range n).find? f).map (fun i : Nat => (i : Int)) := by
  unfold pick
  rw [List.head?_map, List.head?_filter]

theorem sqT_mut {K : PySem.W.Frag} {H : Hp} {l t : Addr} {o : HO} {xs ys : List V} (hl : H l = some (.lst ys)) (h : SqT K H t xs) : SqT K (upd H l o) t xs := by
  have ne : ∀ {z : HO}, H t = some z → (∀ ys, z ≠ .lst ys) → t ≠ l := fun hz hn e => by
    rw [e, hl] at hz
    exact hn _ (Option.some.inj hz).symm
  rcases h with (h | ⟨o', h⟩) | h
  · exact .inl (.inl (by rw [upd_ne (ne h fun _ z => by cases z)]; exact h))
  · exact .inl (.inr ⟨o', by rw [upd_ne (ne h fun _ z => by cases z)]; exact h⟩)
  · exact .inr h
theorem inV_ints' {i : Int} {xs : List Int} : inV (V.int i) (xs.map V.int) = decide (i ∈ xs) := by
  unfold inV
  induction xs with
  | nil => rfl
  | cons y ns ih =>
    rw [List.map_cons, List.any_cons, ih]
    by_cases h : y = i
    · subst h
      simp [eqV]
    · have h' : ¬ i = y := fun z => h z.symm
      simp [eqV, h, h']
theorem ints_flat' (ns : List Int) : (ns.map V.int).all flatV = true := by
  rw [List.all_map, List.all_eq_true]
  exact fun _ _ => rfl
theorem cut_map {α : Type} (f : α → V) (l : List α) (lo hi : Option Int) : ∃ l' : List α, cutV (l.map f) lo hi = l'.map f ∧ (∀ x ∈ l', x ∈ l) ∧ l'.length ≤ l.length := by
  refine ⟨(l.drop (HT.sIx l.length 0 lo)).take (HT.sIx l.length l.length hi - HT.sIx l.length 0 lo), ?_, fun x hx => List.mem_of_mem_drop (List.mem_of_mem_take hx), ?_⟩
  · unfold cutV
    rw [List.length_map, List.map_take, List.map_drop]
  · rw [List.length_take, List.length_drop]
    omega
theorem cut_mapN {α : Type} (f : α → V) (l : List α) {lo hi : Int} (h0 : 0 ≤ lo) (h1 : 0 ≤ hi) : ∃ l' : List α, cutV (l.map f) (some lo) (some hi) = l'.map f ∧ (∀ x ∈ l', x ∈ l) ∧ (l'.length : Int) ≤ max 0 (hi - lo) := by
  refine ⟨(l.drop (HT.sIx l.length 0 (some lo))).take (HT.sIx l.length l.length (some hi) - HT.sIx l.length 0 (some lo)), ?_, fun x hx => List.mem_of_mem_drop (List.mem_of_mem_take hx), ?_⟩
  · unfold cutV
    rw [List.length_map, List.map_take, List.map_drop]
  · obtain ⟨a, rfl⟩ := Int.eq_ofNat_of_zero_le h0
    obtain ⟨b, rfl⟩ := Int.eq_ofNat_of_zero_le h1
    rw [List.length_take, List.length_drop, HT.sIx_nat, HT.sIx_nat]
    omega
theorem q_unp3 {K : PySem.W.Frag} {te : TE} {tz : TS} {D : Ends} {σ : L2.St} {H : Hp} {i j l n : Nat} {t : Addr} {x y z : V} (h : Ev te σ H (.ref t)) (ht : SqT K H t [x, y, z]) (k : ∀ H1, Ex H H1 → tz D (((σ.set i (some x)).set j (some y)).set l (some z)) H1) (hn : n = 3 := by rfl) :
    tSeq (tAsg te (gTup K n (gCons (gName i) (gCons (gName j) (gCons (gName l) gNil))))) tz D σ H := by
  subst hn
  exact h H (Ex.refl H) _ fun H1 e => ⟨t, _, rfl, ex_t e ht, rfl, x, _, rfl, y, _, rfl, z, _, rfl, rfl, k H1 e⟩
theorem s_setU {te ta tb : TE} {D : Ends} {σ : L2.St} {H : Hp} {l : Addr} {xs ys : List V} {k : Int} {j : Nat} (hl : H l = some (.lst xs)) (h : EvU te σ H ys) (ho : Ev ta σ H (.ref l)) (hi : Ev tb σ H (.int k)) (hj : ixN xs.length k = some j)
    (kk : ∀ p H1, H p = none → Ex H H1 → H1 p = some (.tup ys) → D.nx σ (upd H1 l (.lst (xs.set j (.ref p))))) : tAsg te (gSub ta tb rSetL) D σ H := h H (Ex.refl H) _ fun p H1 hp e1 h1 => ho H1 e1 _ fun H2 e2 => hi H2 (e1.trans e2) _ fun H3 e3 =>
  ⟨l, xs, k, j, rfl, rfl, ((e1.trans e2).trans e3) l _ hl, hj, kk p H3 hp ((e1.trans e2).trans e3) ((e2.trans e3) _ _ h1)⟩
theorem ixN_last {n : Nat} (h : 0 < n) : ixN n (-1) = some (n - 1) := by
  unfold ixN
  rw [if_neg (by omega), if_pos (by omega)]
  congr 1
  omega
theorem el_copy {K : PySem.W.Frag} {te : TE} {σ : L2.St} {H : Hp} {p : Addr} {xs : List V} (h : Ev te σ H (.ref p)) (hp : SqL K H p xs) : EvL (tCB (rListK K) (tCons te tNil)) σ H xs := fun H1 e Q q =>
  h H1 e _ fun H2 e2 => ⟨p, xs, rfl, .inl (ex_l (e.trans e2) hp), fun l hl => q l _ (fresh_back e2 hl) (e2.trans (Ex.new hl)) upd_same⟩
/-- a new row, its triples left open -/
def IsTri (K : PySem.W.Frag) (v : V) (H : Hp) : Prop := ∃ r : Addr × T3, v = .ref r.1 ∧ SqT K H r.1 (triV r.2)
def IsRow (K : PySem.W.Frag) (lo hi : Nat) (v : V) (H : Hp) : Prop := ∃ (p : Addr) (rs : List (Addr × T3)), v = .ref p ∧ (lo ≤ rs.length ∧ rs.length ≤ hi) ∧ H p = some (.lst (rs.map fun r => V.ref r.1)) ∧ ∀ r ∈ rs, SqT K H r.1 (triV r.2)
def Tris (K : PySem.W.Frag) (n : Nat) (vs : List V) (H : Hp) : Prop := ∃ rs : List (Addr × T3), vs = rs.map (fun r => V.ref r.1) ∧ rs.length = n ∧ ∀ r ∈ rs, SqT K H r.1 (triV r.2)
def EvAR (ta : TA) (σ : L2.St) (H : Hp) (P : List V → Hp → Prop) : Prop := ∀ H1, Ex H H1 → ∀ Q : List V → Hp → Prop, (∀ vs H2, Ex H1 H2 → P vs H2 → Q vs H2) → ta σ H1 Q
theorem at_nil {K : PySem.W.Frag} {σ : L2.St} {H : Hp} : EvAR tNil σ H (Tris K 0) := fun H1 _ Q q => q [] H1 (Ex.refl H1) ⟨[], rfl, rfl, fun r hr => by cases hr⟩
theorem at_cons {K : PySem.W.Frag} {σ : L2.St} {H : Hp} {te : TE} {ta : TA} {n : Nat} (h : EvR te σ H (IsTri K)) (r : EvAR ta σ H (Tris K n)) : EvAR (tCons te ta) σ H (Tris K (n + 1)) := fun H1 e Q q =>
  h H1 e _ fun v H2 e2 hv => r H2 (e.trans e2) _ fun vs H3 e3 hs => by
    obtain ⟨x, rfl, hx⟩ := hv
    obtain ⟨rs, rfl, hl, hr⟩ := hs
    refine q _ H3 (e2.trans e3) ⟨x :: rs, rfl, by rw [List.length_cons, hl], fun y hy => ?_⟩
    rcases List.mem_cons.mp hy with rfl | hy
    · exact ex_t e3 hx
    · exact hr y hy
theorem er_tri {K : PySem.W.Frag} {σ : L2.St} {H : Hp} {t1 t2 t3 : TE} {x y z : Int} (h1 : Ev t1 σ H (.int x)) (h2 : Ev t2 σ H (.int y)) (h3 : Ev t3 σ H (.int z)) : EvR (tTup (tCons t1 (tCons t2 (tCons t3 tNil)))) σ H (IsTri K) := fun H1 e Q q =>
  eu_tup (ea_cons h1 (ea_cons h2 (ea_cons h3 ea_nil))) (by show 3 ≤ 100000; decide) H1 e _ fun p H2 hp e2 h2 => q _ H2 e2 ⟨(p, x, y, z), rfl, st_of h2⟩
theorem er_row {K : PySem.W.Frag} {σ : L2.St} {H : Hp} {ta : TA} {n : Nat} (h : EvAR ta σ H (Tris K n)) (hn : n ≤ 1000) : EvR (tLst ta) σ H (IsRow K n n) := fun H1 e Q q =>
  h H1 e _ fun vs H2 e2 hs => by
    obtain ⟨rs, rfl, hl, hr⟩ := hs
    exact ⟨by rw [List.length_map, hl]; exact Nat.le_trans hn (by decide), fun p hp => q _ _ (e2.trans (Ex.new hp)) ⟨p, rs, rfl, by omega, upd_same, fun r hm => ex_t (Ex.new hp) (hr r hm)⟩⟩
theorem er_catR {K : PySem.W.Frag} {σ : L2.St} {H : Hp} {ta tb : TE} {a b c d : Nat} (h1 : EvR ta σ H (IsRow K a b)) (h2 : EvR tb σ H (IsRow K c d)) (hz : b + d ≤ 1000) : EvR (tOp rCat ta tb) σ H (IsRow K (a + c) (b + d)) := fun H1 e Q q =>
  h1 H1 e _ fun v H2 e2 hv => h2 H2 (e.trans e2) _ fun w H3 e3 hw => by
    obtain ⟨p1, r1, rfl, l1, s1, t1⟩ := hv
    obtain ⟨p2, r2, rfl, l2, s2, t2⟩ := hw
    exact ⟨p1, p2, _, _, rfl, rfl, e3 _ _ s1, s2, sz_of (by rw [List.length_map, List.length_map]; omega), fun p hp => q _ _ ((e2.trans e3).trans (Ex.new hp)) ⟨p, r1 ++ r2, rfl, by rw [List.length_append]; omega, by rw [List.map_append]; exact upd_same, fun r hr => ex_t (Ex.new hp) ((List.mem_append.mp hr).elim (fun z => ex_t e3 (t1 r z)) (t2 r))⟩⟩
theorem er_sl {K : PySem.W.Frag} {te : TE} {tl th : TO} {σ : L2.St} {H : Hp} {p : Addr} {rs : List (Addr × T3)} {lo hi : Option Int} (h : Ev te σ H (.ref p)) (hr : RowL K H p rs) (h1 : EvO tl σ H lo) (h2 : EvO th σ H hi) : EvR (tSl (rSlL K) te tl th) σ H (IsRow K 0 rs.length) := fun H1 e Q q => by
  obtain ⟨l', c1, c2, c3⟩ := cut_map (fun r : Addr × T3 => V.ref r.1) rs lo hi
  exact el_sl h h1 h2 hr.1 H1 e _ fun b H2 hb e2 h2 => q _ H2 e2 ⟨b, l', rfl, by omega, by rw [← c1]; exact h2, fun r hm => ex_t (e.trans e2) (hr.2 r (c2 r hm))⟩
theorem atI_row {rs : List (Addr × T3)} {i : Int} (h : -1 ≤ i) (h1 : i < (rs.length : Int)) (h0 : 0 < rs.length) : ∃ r ∈ rs, atI (rs.map fun r => V.ref r.1) i = some (.ref r.1) := by
  by_cases c : 0 ≤ i
  · obtain ⟨k, rfl⟩ := Int.eq_ofNat_of_zero_le c
    have hk : k < rs.length := by omega
    exact ⟨rs[k], List.getElem_mem hk, row_at (List.getElem?_eq_getElem hk)⟩
  · have : i = -1 := by omega
    subst this
    have hne : rs ≠ [] := by rintro rfl; simp at h0
    exact ⟨rs.getLast hne, List.getLast_mem hne, atI_last (by rw [List.getLast?_map, List.getLast?_eq_some_getLast hne]; rfl)⟩
theorem drawn_at {ms ds : List Int} {i : Nat} {m : Int} (h : Drawn ms ds) (hm : ms[i]? = some m) : 0 ≤ ds.getD i 0 ∧ ds.getD i 0 < m := by
  obtain ⟨d, h1, h2⟩ := h.2 i m hm
  rw [List.getD_eq_getElem?_getD, h1]
  exact h2

/-! ### enumerate(tuple) -/
section
open PySem.Spec PyProof.Rows
theorem F_typeCall_enum1 (v : Value) : PySem.checkTypeCall "enumerate" ⟨[v], []⟩ = pure () := PySem.F.typeCall_enumerate_1 v
theorem meets_enum_newB1 {v : Value} {o : Obj} {H : Heap → Prop} (B : PySem.Begins v o H) :
    Meets (Builtin.«enumerate.__new__» ⟨[.type "enumerate", v], []⟩) (fun _ R s => H s.heap ∧
      R (.ok (.ret (.ref (s.heap.push o).objs.size))) { s with heap := (s.heap.push o).push { cls := .type "enumerate", data := .fields #[.none, .bool false, .ref s.heap.objs.size, PySem.rawInt 0, .none, .none] } }) :=
  .of_wp fun prog w A R s h => by
    obtain ⟨hp, g, d, tk, os⟩ := s; obtain ⟨h1, h⟩ := h
    have hsub := PySem.sub_enumerate
    have q1 : ∀ {A' : Around} {E : Value → Shared → Prop} {Q : Value → Shared → Prop}, Q (.ref hp.objs.size) ⟨hp.push o, g, d, tk, os⟩ → wpAny (model prog w) A' (pyIter v) Q E ⟨hp, g, d, tk, os⟩ :=
      fun q => B.iter prog w _ _ ⟨hp, g, d, tk, os⟩ _ h1 q
    wp_walk using q1
    refine wpAny_stack_any fun st => wpAny_pure ?_
    split
    · rename_i c _ _ _ _ _
      cases (c == Value.type "enumerate")
      · wp_walk using q1
        exact ⟨_, rfl, h⟩
      · wp_walk using q1
        exact ⟨_, rfl, h⟩
    · wp_walk using q1
      exact ⟨_, rfl, h⟩
theorem call_enum_tuple {prog : Program} {w : World} {A : Around} {E : Value → Shared → Prop} {s : Shared} {a : Addr} {items : Array Value} {Q : Value → Shared → Prop} (h1 : s.heap.IsTuple a items)
    (h : ∀ h', PySem.IsEnum h' (s.heap.objs.size + 1) s.heap.objs.size 0 .none → h'.IsTupleIter s.heap.objs.size a 0 → h'.objs.size = s.heap.objs.size + 2 →
      (∀ b o, s.heap.get? b = some o → h'.get? b = some o) → Q (.ref (s.heap.objs.size + 1)) { s with heap := h' }) :
    wpAny (model prog w) A (call (.type "enumerate") [.ref a]) Q E s := by
  refine PySem.callType_new PySem.F.called_enumerate (by decide) (PySem.F.typeCall_enumerate_1 _) (PySem.F.newCall_enumerate_1 _) (fun obj => PySem.F.args_object_init_2 obj _) PySem.F.entry_enumerate_new
    (meets_enum_newB1 (PySem.begins_tuple a items)) ⟨h1, ?_⟩
  have hz : (s.heap.push { cls := .type "tuple_iterator", data := .fields #[.ref a, .int 0 0] }).objs.size = s.heap.objs.size + 1 := Heap.size_push ..
  show _ ∧ _
  rw [hz]
  have he : PySem.IsEnum ((s.heap.push { cls := .type "tuple_iterator", data := .fields #[.ref a, .int 0 0] }).push { cls := .type "enumerate", data := .fields #[.none, .bool false, .ref s.heap.objs.size, PySem.rawInt 0, .none, .none] }) (s.heap.objs.size + 1) s.heap.objs.size 0 .none := by
    have := Heap.get?_push_size (s.heap.push { cls := .type "tuple_iterator", data := .fields #[.ref a, .int 0 0] }) (o := { cls := .type "enumerate", data := .fields #[.none, .bool false, .ref s.heap.objs.size, PySem.rawInt 0, .none, .none] }) rfl
    rw [hz] at this; exact this
  refine ⟨⟨_, he, rfl⟩, h _ he ⟨_, Heap.get?_push_of_some _ (Heap.get?_push_size _ rfl), rfl, rfl⟩ (by rw [Heap.size_push, hz]) fun b o x => Heap.get?_push_of_some _ (Heap.get?_push_of_some _ x)⟩
def IteT (K : PySem.W.Frag) (a : Addr) : It :=
  ⟨fun i H => ∃ (xs : List V) (x : V), SqT K H a xs ∧ xs[i]? = some x, fun i H v H' => ∃ T x, v = .ref T ∧ H T = none ∧ H' = upd H T (.tup [.int (i : Nat), x]) ∧ ∀ xs, SqT K H a xs → xs[i]? = some x, fun i H => ∃ xs : List V, SqT K H a xs ∧ xs.length ≤ i⟩
theorem turn_enumT {P : Program} {w : World} {K : PySem.W.Frag} {elts : List Expr} {kk : Nat} {tpos : Pos} (a e it : Addr) :
    Turn P w K (.Tuple elts kk tpos) (IteT K a) [e, it] e (fun i h => (∃ old, PySem.IsEnum h e it ((i : Nat) : Int) old) ∧ h.IsTupleIter it a i ∧ e ≠ it ∧ e ≠ a ∧ a ≠ it) where
  mem := by simp
  obj := fun i h st b hb => by
    obtain ⟨⟨old, he⟩, ⟨o, ho, hc, hd⟩, _⟩ := st
    have e' : b = e ∨ b = it := by simpa using hb
    rcases e' with z | z
    · rw [z]; exact ⟨_, he, fun v q => nomatch q⟩
    · rw [z]; exact ⟨o, ho, fun v q => by rw [hd] at q; cases q⟩
  keep := fun i h h' st k => let ⟨⟨old, he⟩, hi, hne⟩ := st; ⟨⟨old, k e (by simp) _ he⟩, hi.at fun o q => k it (by simp) o q, hne⟩
  item := by
    intro X hP hw hK hc i pins s σ H E I hf st hg
    subst hP hw hK
    obtain ⟨⟨old, he⟩, hit, hne, hea, hai⟩ := st
    obtain ⟨xs, x, hq, hx⟩ := hg
    obtain ⟨its, rv, p, hz⟩ := I.tuple hq
    obtain ⟨u, hu, ru⟩ := rv.get hx
    have p' : s.heap.IsTuple a its.toArray := p
    have hel : e < s.heap.objs.size := Heap.lt_size he
    have hil : it < s.heap.objs.size := by obtain ⟨_, q, _⟩ := hit; exact Heap.lt_size q
    have hlt : i < its.toArray.size := by
      have := (List.getElem?_eq_some_iff.mp hu).1
      simpa using this
    refine PySem.wpAny_pyNext_enum_itemD (PySem.Draws.tuple (A := X.A.in1) (I.ok.hd hc) it a hai its.toArray) he ⟨hit, p'⟩ hlt hne (by simp [hne, hea]) fun y h' tk hy ho hst' hT hsz hk => ?_
    obtain rfl : y = u := by
      have e1 : its.toArray[i]? = some u := by simpa using hu
      have e2 : its.toArray[i]? = some y := hy
      rw [e1] at e2
      exact (Option.some.inj e2).symm
    refine ⟨_, rfl, PySem.wpAny_letOwnedTupleGo_enum (s := { s with heap := h', toks := tk + 1 }) ho fun h'' he' sb => ?_⟩
    have hT2 : h''.get? s.heap.objs.size = some { cls := .type "tuple", data := .seq #[.int i tk, y] } := (sb.2 _ (Nat.ne_of_gt hel)).trans hT
    have new : ObjOk X.prog X.w (upd H s.heap.objs.size (.tup [.int (i : Nat), x])) h'' s.heap.objs.size (.tup [.int (i : Nat), x]) :=
      ⟨by show 2 ≤ sizeLine; decide, [.int i tk, y], .cons ⟨_, rfl⟩ (.cons ru .nil), ⟨_, hT2, rfl, _, rfl⟩⟩
    have I1 : Inv X pins σ (upd H s.heap.objs.size (.tup [.int (i : Nat), x])) { s with heap := h'', toks := tk + 1 } :=
      I.turnedNew (ch := [e, it]) (fun b ob hb q => (sb.2 b (fun z => hb (by simp [z]))).trans (hk b ob (fun z => hb (by simp [z])) (fun z => hb (by simp [z])) q)) hf (Nat.le_refl _) new
    refine ⟨.ref s.heap.objs.size, _, I1, rfl, ⟨_, x, rfl, I.hok.fresh (Nat.le_refl _), rfl, fun ys hy => by rw [I.tuple_inj hy hq]; exact hx⟩, ⟨⟨y, ?_⟩, hst'.1.at fun o q => (sb.2 it (Ne.symm hne)).trans q, hne, hea, hai⟩, fun b hb => ?_⟩
    · have e1 : ((i + 1 : Nat) : Int) = (i : Int) + 1 := by omega
      rw [e1]; exact he'
    · have hb' : b < s.heap.objs.size := by
        have e' : b = e ∨ b = it := by simpa using hb
        rcases e' with z | z
        · rw [z]; exact hel
        · rw [z]; exact hil
      rw [upd_ne (Nat.ne_of_lt hb')]
      exact (hf b hb).1
  done := by
    intro X hP hw hK hc i pins s σ H E I hf st hg
    subst hP hw hK
    obtain ⟨⟨old, he⟩, hit, hne, hea, hai⟩ := st
    obtain ⟨xs, hq, hx⟩ := hg
    obtain ⟨its, rv, p, hz⟩ := I.tuple hq
    have p' : s.heap.IsTuple a its.toArray := p
    obtain ⟨f0, f1, f2, f3, f4, f5⟩ := hf it (by simp)
    have hl := rv.length
    have hend : its.toArray[i]? = none := by simp; omega
    have hT : s.TypeIs (.ref e) "enumerate" := ⟨_, he, rfl⟩
    unfold pyNext
    refine wpAny_bind (wpAny_attempt (PySem.wpAny_callSpecial?_slot (name := Str.ofString "__next__") hT PySem.F.slot_enumerate_next
      (PySem.wpAny_call_entry PySem.F.slot_enumerate_next hT PySem.F.entry_enumerate_next ?_ (PySem.F.args_enumerate_next_1 _))))
    show wpAny _ _ (field (.ref e) 2 >>= _) _ _ _
    refine wpAny_bind (wpAny_field he rfl (x := .ref it) rfl ?_)
    refine wpAny_bind (PySem.wpAny_nextOf_tuple_end (I.ok.hd hc) hit p' hend fun h' y he' hy' => ?_)
    obtain ⟨o, ho, hc⟩ := hy'
    refine wpAny_bind (PySem.wpAny_isInstance (T := "StopIteration") (b := true) ⟨o, ho, hc⟩ PySem.isSubtype_stop ?_)
    exact wpAny_pure ⟨rfl, I.turned (t' := s.toks) (fun b o hb q => he' b o hb q) f0 f1 f3 f4 f5⟩
  self := fun A i s Q E st h => let ⟨⟨_, he⟩, _⟩ := st; PySem.wpAny_pyIter_enum he h
def iEnumT (K : PySem.W.Frag) (ta : TA) : TI := fun σ H R => ta σ H fun vs H1 => ∃ a xs, vs = [.ref a] ∧ SqT K H1 a xs ∧ R (IteT K a) H1
theorem pi_enumT {X : Cx} {K : PySem.W.Frag} {e : Expr} {ta : TA} {p pos tpos : Pos} {elts : List Expr} {kk : Nat} (hg : Gl X "enumerate") (hm : X.mg "enumerate" = none) (ha : PA X [e] ta) (hK : X.K = K := by rfl) (hs : starEach [e] X.env = [(false, eval e X.env)] := by rfl) :
    PI X (.Tuple elts kk tpos) (.Call (.Name "enumerate" p) [e] [] pos) (iEnumT K ta) := by
  subst hK
  refine ⟨fun pins s σ H R I h => ?_⟩
  refine Call_ (ld_blt I hg hm boot_enumerate (PyProof.Rows.callWith_type1 (thn (ha.run pos pins s σ H _ I h) fun us s1 ⟨vs, H1, I1, r1, q1⟩ => ?_) hs rfl))
  obtain ⟨a, xs, ex, hq, q⟩ := q1
  subst ex
  cases r1 with
  | cons r rr =>
    cases rr
    cases r
    obtain ⟨its, rv, p', hz⟩ := I1.tuple hq
    have pt : s1.heap.IsTuple a its.toArray := p'
    have hal : a < s1.heap.objs.size := by obtain ⟨o, ho, _⟩ := pt; exact Heap.lt_size ho
    refine call_enum_tuple pt fun h' he hit hsz hk => PySem.wpAny_pyIter_enum he ?_
    have I2 : Inv X pins σ H1 { s1 with heap := h' } := I1.kept (t' := s1.toks) hk
    refine ⟨s1.heap.objs.size + 1, [s1.heap.objs.size + 1, s1.heap.objs.size], _, _, H1, rfl, I2, turn_enumT a (s1.heap.objs.size + 1) s1.heap.objs.size, ⟨⟨.none, he⟩, hit, Nat.succ_ne_self _, Nat.ne_of_gt (Nat.lt_succ_of_lt hal), Nat.ne_of_lt hal⟩, fun b hb => ?_, q⟩
    have e' : b = s1.heap.objs.size + 1 ∨ b = s1.heap.objs.size := by simpa using hb
    have hle : s1.heap.objs.size ≤ b := by
      rcases e' with z | z
      · rw [z]; exact Nat.le_add_right _ _
      · rw [z]; exact Nat.le_refl _
    exact I1.fpOk hle (I1.hok.fresh hle)
theorem walk_enumT {K : PySem.W.Frag} {a : Addr} {xs : List V} : Walk (IteT K a) xs.length (fun H => SqT K H a xs) (YPair (fun i => some (.int (i : Nat))) (fun i => xs[i]?)) :=
  ⟨fun i _ hi q => ⟨xs, xs[i], q, by simp [hi]⟩, fun _ q => ⟨xs, q, Nat.le_refl _⟩, fun i H x H' _ q y => by
    obtain ⟨T, z, rfl, hT, rfl, hall⟩ := y
    exact ⟨T, _, z, rfl, hT, rfl, rfl, hall xs q⟩⟩
theorem ei_enumT {K : PySem.W.Frag} {σ : L2.St} {H : Hp} {ta : TE} {xs : List V} (h : EvB ta σ H fun v G => ∃ p, v = .ref p ∧ SqT K G p xs) : EvI (iEnumT K (tCons ta tNil)) σ H xs.length (YPair (fun i => some (.int (i : Int))) fun i => xs[i]?) := fun H1 e R r => h H1 e _ fun v H2 e2 hv => by
  obtain ⟨a, rfl, hx⟩ := hv H2 (e.trans e2) fun _ _ _ z => z
  exact ⟨a, xs, rfl, hx, r _ _ e2 (walk_enumT.mono (fun G g => by
    obtain ⟨b, eb, hb⟩ := hv G g.1 g.2
    cases eb
    exact hb) fun _ _ _ _ _ _ y => y)⟩
end

/-! ### a[b] of an own class -/
/-- x an object of the class at C, its __getitem__ asked -/
def rOwnIx (C : Addr) (sp : Sp) (E : XK) : R2 := fun x y H Q => ∃ a dx fs, x = .ref a ∧ H a = some (.ins C dx fs) ∧ sp [x, y] H Q E
section
open PySem.Spec PyProof.Rows
variable {X : Cx} {CX : CXT} {f C : Addr} {fd : FuncData} {ps : List Str} {n : Nat} {sp : Sp} {E : XK} {a b : Expr} {ta tb : TE} {pos : Pos}
theorem pe_ixO (m : Meth X.K C "__getitem__" f) (hfi : PySem.W.fnIn X.K f = true) (F : FnOk X.prog X.w X.K X.mg X.base CX n f fd ps sp) (hr : Room (n + 1) X.A) (hb : Binds X.K fd ps []) (hx : ∀ σ, PassesAt CX X σ E)
    (ha : PE X a ta) (hb2 : PE X b tb) (hs : ∀ o i, subscripted b true o i = runValue (.builtin "lifetime.subscript" ⟨[o, i], []⟩)) : PE X (.Subscript a b pos) (tOp (rOwnIx C sp E) ta tb) := by
  refine ⟨fun pins s σ H Q I h => ?_⟩
  refine Subscript_ (binT ha hb2 I h fun v u s2 x y H2 I2 rx ry q => ?_)
  obtain ⟨a, dx, fs, rfl, ha', h⟩ := q
  cases rx
  obtain ⟨mA, J, _⟩ := ins_get I2.hok ha'
  obtain ⟨od, J, _⟩ := J.look
  obtain ⟨m', hF⟩ := I2.fr
  exact PySem.W.sub_K hF I2.ok.mod.kin J m.at_ hfi m.fn (run_ownA (vs := [V.ref a, y]) F hr.in1 rfl hb (hx σ) I2 (.cons rfl (.cons ry .nil)) h) (hs _ _)
end
theorem ev_ownIx {C : Addr} {sp : Sp} {E : XK} {ta tb : TE} {σ : L2.St} {H : Hp} {a dx : Addr} {fs : List (Str × V)} {y z : V} (ha : Ev ta σ H (.ref a)) (hi : H a = some (.ins C dx fs)) (hb : Ev tb σ H y) (hs : ∀ H1, Ex H H1 → ∀ Q : VK, (∀ H2, Ex H1 H2 → Q z H2) → sp [.ref a, y] H1 Q E) : Ev (tOp (rOwnIx C sp E) ta tb) σ H z := fun H1 e Q q =>
  ha H1 e _ fun H2 e2 => hb H2 (e.trans e2) _ fun H3 e3 => ⟨a, dx, fs, rfl, ((e.trans e2).trans e3) _ _ hi, hs H3 ((e.trans e2).trans e3) Q fun H4 e4 => q H4 ((e2.trans e3).trans e4)⟩
theorem ev_ownIxU {C : Addr} {sp : Sp} {E : XK} {ta tb : TE} {σ : L2.St} {H : Hp} {a dx : Addr} {fs : List (Str × V)} {ys : List V} {z : V} (ha : Ev ta σ H (.ref a)) (hi : H a = some (.ins C dx fs)) (hb : EvU tb σ H ys) (hs : ∀ p H1, Ex H H1 → H1 p = some (.tup ys) → ∀ Q : VK, (∀ H2, Ex H1 H2 → Q z H2) → sp [.ref a, .ref p] H1 Q E) : Ev (tOp (rOwnIx C sp E) ta tb) σ H z := fun H1 e Q q =>
  ha H1 e _ fun H2 e2 => hb H2 (e.trans e2) _ fun p H3 _ e3 hp => ⟨a, dx, fs, rfl, ((e.trans e2).trans e3) _ _ hi, hs p H3 ((e.trans e2).trans e3) hp Q fun H4 e4 => q H4 ((e2.trans e3).trans e4)⟩
/-! ### watches -/
def watF (h w : V) : List (Str × V) := [("house", h), ("_rows", w)]
/-- a list of lists of ints -/
structure RowsL (K : PySem.W.Frag) (H : Hp) (a : Addr) (xss : List (List Int)) : Prop where
  all : ∃ vs : List V, SqL K H a vs ∧ vs.length = xss.length ∧ ∀ (i : Nat) v, vs[i]? = some v → ∃ p, v = .ref p ∧ SqL K H p ((xss.getD i []).map V.int)
theorem RowsL.ex {K : PySem.W.Frag} {H H' : Hp} {a : Addr} {xss : List (List Int)} (e : Ex H H') (h : RowsL K H a xss) : RowsL K H' a xss := by
  obtain ⟨vs, h1, h2, h3⟩ := h.all
  exact ⟨vs, ex_l e h1, h2, fun i v hv => (h3 i v hv).imp fun p h => ⟨h.1, ex_l e h.2⟩⟩
/-- a tuple of tuples of ints -/
def RowsU (w : V) (H : Hp) (xss : List (List Int)) : Prop := ∃ p vs, w = .ref p ∧ H p = some (.tup vs) ∧ vs.length = xss.length ∧ ∀ (i : Nat) v, vs[i]? = some v → ∃ t, v = .ref t ∧ H t = some (.tup ((xss.getD i []).map V.int))
theorem RowsU.ex {w : V} {H H' : Hp} {xss : List (List Int)} (e : Ex H H') (h : RowsU w H xss) : RowsU w H' xss := by
  obtain ⟨p, vs, rfl, h1, h2, h3⟩ := h
  exact ⟨p, vs, rfl, e _ _ h1, h2, fun i v hv => (h3 i v hv).imp fun t h => ⟨h.1, e _ _ h.2⟩⟩
def WatchIs (C : Addr) (v : V) (H : Hp) (h : V) (xss : List (List Int)) : Prop := ∃ a dx w, v = .ref a ∧ H a = some (.ins C dx (watF h w)) ∧ RowsU w H xss
theorem WatchIs.ex {C : Addr} {v h : V} {H H' : Hp} {xss : List (List Int)} (e : Ex H H') (q : WatchIs C v H h xss) : WatchIs C v H' h xss := by
  obtain ⟨a, dx, w, rfl, h1, h2⟩ := q
  exact ⟨a, dx, w, rfl, e _ _ h1, h2.ex e⟩
structure Shape (n : Int) (m : Nat) (xss : List (List Int)) : Prop where
  len : xss.length = m
  row : ∀ xs ∈ xss, (xs.length : Int) = n
  val : ∀ xs ∈ xss, ∀ x ∈ xs, 0 ≤ x ∧ x ≤ 96
def rTupOf (K : PySem.W.Frag) : List V → Hp → VK → Prop := fun xs H Q => ∃ p ys, xs = [V.ref p] ∧ ((SqL K H p ys ∧ ∀ (l : Addr), H l = none → Q (V.ref l) (upd H l (HO.tup ys))) ∨ SqT K H p ys ∧ Q (V.ref p) H)
theorem tup_K {X : Cx} {K : PySem.W.Frag} (h : X.K = K := by rfl) : CallR X (.type "tuple") (rTupOf K) := by subst h; exact call_tuple_of
theorem en_tupL {K : PySem.W.Frag} {te : TE} {σ : L2.St} {H : Hp} {p : Addr} {xs : List V} (h : Ev te σ H (.ref p)) (hp : SqL K H p xs) : EvNew (tCB (rTupOf K) (tCons te tNil)) σ H fun v G => ∃ t, v = .ref t ∧ G t = some (.tup xs) := fun H1 e Q q =>
  h H1 e _ fun H2 e2 => ⟨p, xs, rfl, .inl ⟨ex_l (e.trans e2) hp, fun l hl => q _ _ (e2.trans (Ex.new hl)) fun G g => ⟨l, rfl, g l _ (fresh_back e2 hl) upd_same⟩⟩⟩
theorem en_tupN {K : PySem.W.Frag} {te : TE} {σ : L2.St} {H : Hp} {n : Nat} {P : Nat → V → Hp → Prop} (h : EvNew te σ H (ListP n P)) : EvNew (tCB (rTupOf K) (tCons te tNil)) σ H fun v G => ∃ p vs, v = .ref p ∧ G p = some (.tup vs) ∧ vs.length = n ∧ ∀ (k : Nat) x, vs[k]? = some x → P k x G := fun H1 e Q q =>
  h H1 e _ fun v H2 e2 hv => by
    obtain ⟨p, vs, rfl, hp, hl, _⟩ := hv.self
    refine ⟨p, vs, rfl, .inl ⟨sq_of hp, fun l hn => q _ _ (e2.trans (Ex.new hn)) fun G g => ?_⟩⟩
    have g2 : ∀ b o, H1 b = none → H2 b = some o → G b = some o := fun b o h1 h2 => g b o h1 (by rw [upd_ne (fun z => by rw [z, hn] at h2; cases h2)]; exact h2)
    obtain ⟨p', vs', e', hp', hl', ha'⟩ := hv G g2
    cases e'
    have hf : H1 p = none := by
      obtain ⟨p3, vs3, e3, hp3, _⟩ := hv (fun b => match H1 b with | none => H2 b | some _ => none) (fun b o h1 h2 => by simp only [h1, h2])
      cases e3
      cases hq : H1 p with
      | none => rfl
      | some o => simp only [hq] at hp3; cases hp3
    have hv2 := g2 p _ hf hp
    rw [hp'] at hv2
    cases hv2
    exact ⟨l, vs, rfl, g l _ (fresh_back e2 hn) upd_same, hl', ha'⟩
theorem sqL_ins {K : PySem.W.Frag} {H : Hp} {x p C dx : Addr} {fs : List (Str × V)} {o : HO} {xs : List V} (hx : H x = some (.ins C dx fs)) (h : SqL K H p xs) : SqL K (upd H x o) p xs := by
  have ne : ∀ {z : HO}, H p = some z → (∀ a b c, z ≠ .ins a b c) → p ≠ x := fun hz hn e => by
    rw [e, hx] at hz
    exact hn _ _ _ (Option.some.inj hz).symm
  rcases h with (h | ⟨o', h⟩) | h
  · exact .inl (.inl (by rw [upd_ne (ne h fun _ _ _ z => by cases z)]; exact h))
  · exact .inl (.inr ⟨o', by rw [upd_ne (ne h fun _ _ _ z => by cases z)]; exact h⟩)
  · exact .inr h
theorem RowsL.ins {K : PySem.W.Frag} {H : Hp} {x p C dx : Addr} {fs : List (Str × V)} {o : HO} {xss : List (List Int)} (hx : H x = some (.ins C dx fs)) (h : RowsL K H p xss) : RowsL K (upd H x o) p xss := by
  obtain ⟨vs, h1, h2, h3⟩ := h.all
  exact ⟨vs, sqL_ins hx h1, h2, fun i v hv => (h3 i v hv).imp fun p h => ⟨h.1, sqL_ins hx h.2⟩⟩
/-- a comprehension over a tuple whose items stand for the things of ps, the target of any form -/
theorem el_tupG {α : Type} (d : α) {K : PySem.W.Frag} {σ : L2.St} {H : Hp} {te tl : TE} {tt : TT} {g : TG} {vs : List Nat} {a : Addr} (xs : List V) (ps : List α) (p : α → Bool) (v : α → V) (τ : α → L2.St)
    (h : Ev tl σ H (.ref a)) (hx : SqT K H a xs) (hl : xs.length = ps.length) (hz : ps.length ≤ 40000)
    (hg : ∀ (i : Nat) x y H1 (k : L2.St → Hp → Prop), Ex H H1 → xs[i]? = some x → ps[i]? = some y → k (τ y) H1 → g x (wipe σ vs) H1 k)
    (hw : ∀ y, wipe (τ y) vs = wipe σ vs) (ht : ∀ y H1, Ex H H1 → y ∈ ps → EvT tt (τ y) H1 (p y)) (he : ∀ y H1, Ex H H1 → y ∈ ps → p y = true → Ev te (τ y) H1 (v y)) :
    EvL (tLc (iTup K tl) g tt te vs) σ H ((ps.filter p).map v) := by
  rw [← given_gen d ps p v]
  intro H0 e0 Q q
  refine h H0 e0 _ fun H1 e1 => ⟨a, rfl, ⟨xs, ex_t (e0.trans e1) hx⟩, fun D hD => ?_⟩
  refine lc_tup (xs := xs) (Cw H1 (fun i => p (ps.getD i d)) (fun i => v (ps.getD i d)) D) ⟨hD, Ex.new hD, upd_same⟩ (fun i H' _ c => ex_t ((e0.trans e1).trans c.2.1) hx) (fun i x H' hi c => ?_)
    (fun H' c => by rw [hl] at c; exact q D H' (fresh_back e1 c.1) (e1.trans c.2.1) c.2.2)
  have hil : i < ps.length := by
    have := (List.getElem?_eq_some_iff.mp hi).1
    omega
  have hy : ps[i]? = some (ps.getD i d) := by rw [List.getD_eq_getElem?_getD, List.getElem?_eq_getElem hil]; rfl
  refine hg i x _ H' _ ((e0.trans e1).trans c.2.1) hi hy ⟨hw _, ?_⟩
  exact cw_turn c (by omega) (ht _ H1 (e0.trans e1) (List.mem_of_getElem? hy)) (fun hf => he _ H1 (e0.trans e1) (List.mem_of_getElem? hy) hf)
theorem ev_whouse {K : PySem.W.Frag} {C : Addr} {te : TE} {σ : L2.St} {H : Hp} {a dx : Addr} {h w : V} (he : Ev te σ H (.ref a)) (hi : H a = some (.ins C dx (watF h w))) (c : Cls K C) (na : NoAttr K C "house") : Ev (tFld K te "house") σ H h := fun H1 e Q q' =>
  he H1 e _ fun H2 e2 => ⟨a, _, dx, _, _, rfl, e2 _ _ (e _ _ hi), c, na, rfl, q' H2 e2⟩
theorem ev_wrows {K : PySem.W.Frag} {C : Addr} {te : TE} {σ : L2.St} {H : Hp} {a dx : Addr} {h w : V} (he : Ev te σ H (.ref a)) (hi : H a = some (.ins C dx (watF h w))) (c : Cls K C) (na : NoAttr K C "_rows") : Ev (tFld K te "_rows") σ H w := fun H1 e Q q' =>
  he H1 e _ fun H2 e2 => ⟨a, _, dx, _, _, rfl, e2 _ _ (e _ _ hi), c, na, rfl, q' H2 e2⟩
theorem en_copyT {K : PySem.W.Frag} {te : TE} {σ : L2.St} {H : Hp} {p : Addr} {xs : List V} (h : Ev te σ H (.ref p)) (hp : SqT K H p xs) : EvNew (tCB (rListK K) (tCons te tNil)) σ H fun v G => ∃ t, v = .ref t ∧ G t = some (.lst xs) := fun H1 e Q q =>
  h H1 e _ fun H2 e2 => ⟨p, xs, rfl, .inr (ex_t (e.trans e2) hp), fun l hl => q _ _ (e2.trans (Ex.new hl)) fun G g => ⟨l, rfl, g l _ (fresh_back e2 hl) upd_same⟩⟩
def watVal (xss : List (List Int)) (n g h : Int) : Int := (xss.getD g.toNat []).getD (h % n).toNat 0

/-! ### rows under way -/
def RowsM (H0 H : Hp) (p : Addr) (qs : List (Addr × List Int)) : Prop := H0 p = none ∧ H p = some (.lst (qs.map fun q => V.ref q.1)) ∧ (qs.map (·.1)).Nodup ∧ ∀ q ∈ qs, q.1 ≠ p ∧ H0 q.1 = none ∧ H q.1 = some (.lst (q.2.map V.int))
theorem RowsM.ex {H0 H H' : Hp} {p : Addr} {qs : List (Addr × List Int)} (e : Ex H H') (h : RowsM H0 H p qs) : RowsM H0 H' p qs := ⟨h.1, e _ _ h.2.1, h.2.2.1, fun q hq => ⟨(h.2.2.2 q hq).1, (h.2.2.2 q hq).2.1, e _ _ (h.2.2.2 q hq).2.2⟩⟩
theorem RowsM.base {H0 H1 H : Hp} {p : Addr} {qs : List (Addr × List Int)} (e : Ex H0 H1) (h : RowsM H1 H p qs) : RowsM H0 H p qs := ⟨fresh_back e h.1, h.2.1, h.2.2.1, fun q hq => ⟨(h.2.2.2 q hq).1, fresh_back e (h.2.2.2 q hq).2.1, (h.2.2.2 q hq).2.2⟩⟩
theorem RowsM.rows {K : PySem.W.Frag} {H0 H : Hp} {p : Addr} {qs : List (Addr × List Int)} (h : RowsM H0 H p qs) : RowsL K H p (qs.map (·.2)) := by
  refine ⟨_, sq_of h.2.1, by simp, fun i v hv => ?_⟩
  rw [List.getElem?_map] at hv
  cases e : qs[i]? with
  | none => rw [e] at hv; cases hv
  | some q =>
    rw [e] at hv
    cases hv
    refine ⟨q.1, rfl, ?_⟩
    rw [List.getD_eq_getElem?_getD, List.getElem?_map, e]
    exact sq_of (h.2.2.2 q (List.mem_of_getElem? e)).2.2
/-! ### spreads that are good -/
def okT (n : Int) (m : Nat) (b c : Int) (t : T3) : Prop := inHouse n m t.1 t.2.1 = true ∧ 1 ≤ t.2.2 ∧ lexLe t.1 t.2.1 b c = false
def Good (n : Int) (m : Nat) : Int → Int → List T3 → Prop
  | _, _, [] => True
  | b, c, t :: r => okT n m b c t ∧ Good n m t.1 t.2.1 r
def lastB : Int → Int → List T3 → Int × Int
  | b, c, [] => (b, c)
  | _, _, t :: r => lastB t.1 t.2.1 r
theorem okT.not {n : Int} {m : Nat} {b c : Int} {t : T3} (h : okT n m b c t) : ¬ (!inHouse n m t.1 t.2.1 || decide (t.2.2 < 1) || lexLe t.1 t.2.1 b c) = true := by
  obtain ⟨h1, h2, h3⟩ := h
  rw [h1, h3, decide_eq_false (by omega)]
  simp
theorem firstW_pre {n : Int} {m : Nat} {r : List T3} : ∀ {ts : List T3} {k : Nat} {b c : Int}, Good n m b c ts → firstW n m k b c (ts ++ r) = firstW n m (k + ts.length) (lastB b c ts).1 (lastB b c ts).2 r
  | [], k, b, c, _ => rfl
  | t :: ts, k, b, c, h => by
    show (if (!inHouse n m t.1 t.2.1 || decide (t.2.2 < 1) || lexLe t.1 t.2.1 b c) = true then some k else firstW n m (k + 1) t.1 t.2.1 (ts ++ r)) = _
    rw [if_neg h.1.not, firstW_pre h.2, List.length_cons, show k + 1 + ts.length = k + (ts.length + 1) by omega]
    rfl
theorem good_none {n : Int} {m : Nat} {ts : List T3} {k : Nat} {b c : Int} (h : Good n m b c ts) : firstW n m k b c ts = none := by
  have := firstW_pre (r := []) (k := k) h
  rw [List.append_nil] at this
  rw [this]
  rfl
theorem good_app {n : Int} {m : Nat} {r : List T3} : ∀ {ts : List T3} {b c : Int}, Good n m b c (ts ++ r) ↔ Good n m b c ts ∧ Good n m (lastB b c ts).1 (lastB b c ts).2 r
  | [], b, c => by simp [Good, lastB]
  | t :: ts, b, c => by
    show okT n m b c t ∧ Good n m t.1 t.2.1 (ts ++ r) ↔ (okT n m b c t ∧ Good n m t.1 t.2.1 ts) ∧ _
    rw [good_app, and_assoc]
    rfl
theorem good_ok {n : Int} {m : Nat} {ts : List T3} (h : Good n m (-1) (-1) ts) (hs : (ts.map (·.2.2)).sum ≤ 6) : triesRes n m ts = .ok (ts.map (·.2.2)).sum := by
  unfold triesRes
  rw [good_none h]
  exact if_neg (by omega)
theorem lastB_app {ts : List T3} {t : T3} : ∀ {b c : Int}, lastB b c (ts ++ [t]) = (t.1, t.2.1) := by
  induction ts with
  | nil => intro b c; rfl
  | cons u ts ih => intro b c; exact ih

/-! ### zip(tuple, list) -/
section
open PySem.Spec PyProof.Rows
def IteM (K : PySem.W.Frag) (a b : Addr) : It :=
  ⟨fun i H => ∃ (us : List V) (vs : List V) (p q : V), SqT K H a us ∧ SqL K H b vs ∧ us[i]? = some p ∧ vs[i]? = some q,
    fun i H v H' => ∃ T p q, v = .ref T ∧ H T = none ∧ H' = upd H T (.tup [p, q]) ∧ (∀ us, SqT K H a us → us[i]? = some p) ∧ ∀ vs, SqL K H b vs → vs[i]? = some q,
    fun i H => ∃ us vs : List V, SqT K H a us ∧ SqL K H b vs ∧ i = min us.length vs.length⟩
theorem sep_of {z TI TO i1 i2 a b : Addr} (D : ZipApart z TI TO i1 i2 a b) : ZipSep2 z TI TO i1 i2 [i1, a] [i2, b] := by
  refine ⟨D.TIz, D.TOz, D.TITO, D.TIi1, by simp, ?_, ?_, D.TIi2, by simp, ?_, ?_, ?_, ?_⟩
  all_goals simp only [List.mem_cons, List.not_mem_nil, or_false, not_or]
  · exact ⟨Ne.symm D.i1z, Ne.symm D.l1z⟩
  · exact ⟨D.TOi1, Ne.symm D.l1TO⟩
  · exact ⟨Ne.symm D.i2z, Ne.symm D.l2z⟩
  · exact ⟨D.TOi2, Ne.symm D.l2TO⟩
  · exact ⟨D.i12, Ne.symm D.l2i1⟩
  · exact ⟨Ne.symm D.i12, Ne.symm D.l1i2⟩
theorem turn_zipM {P : Program} {w : World} {K : PySem.W.Frag} {elts : List Expr} {kk : Nat} {tpos : Pos} {a b z TI TO i1 i2 : Addr} (D : ZipApart z TI TO i1 i2 a b) :
    Turn P w K (.Tuple elts kk tpos) (IteM K a b) [z, TI, TO, i1, i2] z (fun i h => IsZip h z TI TO .none ∧ IsTupOf2 h TI (.ref i1) (.ref i2) ∧ (∃ p q, IsTupOf2 h TO p q) ∧ h.IsTupleIter i1 a i ∧ h.IsListIter i2 b i) where
  mem := List.mem_cons_self
  obj := fun i h st c hc => by
    obtain ⟨s1, s2, ⟨p, q, s3⟩, ⟨o4, s4, _, d4⟩, ⟨o5, s5, _, d5⟩⟩ := st
    rcases (show c = z ∨ c = TI ∨ c = TO ∨ c = i1 ∨ c = i2 by simpa using hc) with rfl | rfl | rfl | rfl | rfl
    · exact ⟨_, s1, nofun⟩
    · exact ⟨_, s2, nofun⟩
    · exact ⟨_, s3, nofun⟩
    · exact ⟨o4, s4, fun v e => by rw [d4] at e; cases e⟩
    · exact ⟨o5, s5, fun v e => by rw [d5] at e; cases e⟩
  keep := fun i h h' st k => by
    obtain ⟨s1, s2, ⟨p, q, s3⟩, s4, s5⟩ := st
    exact ⟨k _ (by simp) _ s1, k _ (by simp) _ s2, ⟨p, q, k _ (by simp) _ s3⟩, s4.at fun o e => k _ (by simp) o e, s5.at fun o e => k _ (by simp) o e⟩
  item := by
    intro X hP hw hK hc i pins s σ H E I hf st hg
    subst hP hw hK
    obtain ⟨s1, s2, ⟨p0, q0, s3⟩, s4, s5⟩ := st
    obtain ⟨us, vs, x, y, hu, hv, hx, hy⟩ := hg
    obtain ⟨ms, rm, pm, _⟩ := I.tuple hu
    obtain ⟨ns, rn, pn, _⟩ := I.list hv
    obtain ⟨x', ex, rx⟩ := rm.get hx
    obtain ⟨y', ey, ry⟩ := rn.get hy
    have zl : z < s.heap.objs.size := Heap.lt_size s1
    have hz : s.heap.IsTuple a ms.toArray := pm
    have j1 : i < ms.toArray.size := by have := (List.getElem?_eq_some_iff.mp ex).1; simpa using this
    have j2 : i < ns.toArray.size := by have := (List.getElem?_eq_some_iff.mp ey).1; simpa using this
    have hhd := I.ok.hd hc
    refine PySem.wpAny_pyNext_zipD2_item (sep_of D) (Draws.tuple (A := X.A.in1) hhd i1 a D.l1i1 ms.toArray) (Draws.list (A := X.A.in1) hhd i2 b D.l2i2 ns.toArray) s1 s2 s3 ⟨s4, hz⟩ ⟨s5, pn.isList⟩ j1 j2 fun u v h' tk hu' hv' z' TO' st1 st2 hT hsz hk => ?_
    obtain rfl : u = x' := by
      have e1 : ms[i]? = some u := by simpa using hu'
      rw [ex] at e1
      exact (Option.some.inj e1).symm
    obtain rfl : v = y' := by
      have e1 : ns[i]? = some v := by simpa using hv'
      rw [ey] at e1
      exact (Option.some.inj e1).symm
    refine ⟨_, rfl, wpAny_letOwnedTupleGo_zip (s := { s with heap := h', toks := tk }) z' fun h'' z'' sb => ?_⟩
    have gT : h''.get? s.heap.objs.size = some { cls := .type "tuple", data := .seq #[u, v] } := (sb.2 _ (Nat.ne_of_gt zl)).trans hT
    have nw : ObjOk X.prog X.w (upd H s.heap.objs.size (.tup [x, y])) h'' s.heap.objs.size (.tup [x, y]) := ⟨by show 2 ≤ sizeLine; decide, [u, v], .cons rx (.cons ry .nil), ⟨_, gT, rfl, _, rfl⟩⟩
    have I1 : Inv X pins σ (upd H s.heap.objs.size (.tup [x, y])) { s with heap := h'', toks := tk } :=
      I.turnedNew (ch := [z, TI, TO, i1, i2]) (fun c o hb e => by
        simp only [List.mem_cons, List.not_mem_nil, or_false, not_or] at hb
        exact (sb.2 c hb.1).trans (hk c o hb.1 hb.2.2.1 hb.2.2.2.1 hb.2.2.2.2 e)) hf (Nat.le_refl _) nw
    refine ⟨.ref s.heap.objs.size, _, I1, rfl, ⟨_, x, y, rfl, I.hok.fresh (Nat.le_refl _), rfl, fun l hl => by rw [I.tuple_inj hl hu]; exact hx, fun l hl => by rw [I.list_inj hl hv]; exact hy⟩,
      ⟨z'', (sb.2 _ D.TIz).trans (hk _ _ D.TIz D.TITO D.TIi1 D.TIi2 s2), ⟨u, v, (sb.2 _ D.TOz).trans TO'⟩, st1.1.at fun o e => (sb.2 _ D.i1z).trans e, st2.1.at fun o e => (sb.2 _ D.i2z).trans e⟩, fun c hcm => ?_⟩
    obtain ⟨o4, g4, _⟩ := s4
    obtain ⟨o5, g5, _⟩ := s5
    have cl : c < s.heap.objs.size := by
      rcases (show c = z ∨ c = TI ∨ c = TO ∨ c = i1 ∨ c = i2 by simpa using hcm) with rfl | rfl | rfl | rfl | rfl
      · exact zl
      · exact Heap.lt_size s2
      · exact Heap.lt_size s3
      · exact Heap.lt_size g4
      · exact Heap.lt_size g5
    rw [upd_ne (Nat.ne_of_lt cl)]
    exact (hf c hcm).1
  done := by
    intro X hP hw hK hc i pins s σ H E I hf st hg
    subst hP hw hK
    obtain ⟨s1, s2, ⟨p0, q0, s3⟩, s4, s5⟩ := st
    obtain ⟨us, vs, hu, hv, hend⟩ := hg
    obtain ⟨ms, rm, pm, _⟩ := I.tuple hu
    obtain ⟨ns, rn, pn, _⟩ := I.list hv
    have hz : s.heap.IsTuple a ms.toArray := pm
    have l1 := rm.length
    have l2 := rn.length
    have hhd := I.ok.hd hc
    refine PySem.wpAny_pyNext_zipD2_end (sep_of D) (Draws.tuple (A := X.A.in1) hhd i1 a D.l1i1 ms.toArray) (Draws.list (A := X.A.in1) hhd i2 b D.l2i2 ns.toArray) s1 s2 s3 ⟨s4, hz⟩ ⟨s5, pn.isList⟩ (by simp; omega) (by simp; omega) (by simp; omega) fun h' tk hk => ⟨rfl, I.turnedL (t' := tk) (ch := [z, TI, TO, i1, i2]) (fun c o hb e => by
        simp only [List.mem_cons, List.not_mem_nil, or_false, not_or] at hb
        exact hk c o hb.1 hb.2.2.1 hb.2.2.2.1 hb.2.2.2.2 e) hf⟩
  self := fun A i s Q E st h => wpAny_pyIter_zip st.1 h
def iZipM (K : PySem.W.Frag) (ta : TA) : TI := fun σ H R => ta σ H fun vs H1 => ∃ a b xs ys, vs = [.ref a, .ref b] ∧ SqT K H1 a xs ∧ SqL K H1 b ys ∧ R (IteM K a b) H1
theorem pi_zipM {X : Cx} {K : PySem.W.Frag} {e e2 : Expr} {ta : TA} {p pos tpos : Pos} {elts : List Expr} {kk : Nat} (hg : Gl X "zip") (hm : X.mg "zip" = none) (ha : PA X [e, e2] ta) (hK : X.K = K := by rfl)
    (hs : starEach [e, e2] X.env = (false, eval e X.env) :: starEach [e2] X.env := by rfl) (hpl : (backTo pos (starEach [e2] X.env)).any (·.1) = false := by rfl) :
    PI X (.Tuple elts kk tpos) (.Call (.Name "zip" p) [e, e2] [] pos) (iZipM K ta) := by
  subst hK
  refine ⟨fun pins s σ H R I h => ?_⟩
  refine Call_ (ld_blt I hg hm PyProof.Rows.boot_zip (PyProof.Rows.callWith_type1 (thn (ha.run pos pins s σ H _ I h) fun us s1 ⟨vs, H1, I1, r1, q1⟩ => ?_) hs hpl))
  obtain ⟨a, b, xs, ys, ex, hx, hy, q⟩ := q1
  subst ex
  cases r1 with
  | cons r rr =>
    cases rr with
    | cons r' rr =>
      cases rr
      cases r
      cases r'
      obtain ⟨ms, rm, pm, _⟩ := I1.tuple hx
      obtain ⟨ns, rn, pn, _⟩ := I1.list hy
      have hz : s1.heap.IsTuple a ms.toArray := pm
      obtain ⟨o1, g1, _⟩ := id hz
      refine PySem.zip_begins2 (PySem.begins_tuple a ms.toArray) (PySem.begins_list b ns.toArray) hz pn.isList fun h' k1 k2 k3 k4 k5 _ hk => wpAny_pyIter_zip k1 ?_
      have I2 : Inv X pins σ H1 { s1 with heap := h' } := I1.kept (t' := s1.toks) hk
      refine ⟨s1.heap.objs.size + 4, [s1.heap.objs.size + 4, s1.heap.objs.size + 2, s1.heap.objs.size + 3, s1.heap.objs.size, s1.heap.objs.size + 1], _, _, H1, rfl, I2, turn_zipM (PySem.W.ktu_apart s1.heap.objs.size a b (Heap.lt_size g1) pn.lt), ⟨k1, k2, ⟨_, _, k3⟩, ⟨_, k4, rfl, rfl⟩, ⟨_, k5, rfl, rfl⟩⟩, fun c hcm => ?_, q⟩
      have hle : s1.heap.objs.size ≤ c := by
        rcases (show c = s1.heap.objs.size + 4 ∨ c = s1.heap.objs.size + 2 ∨ c = s1.heap.objs.size + 3 ∨ c = s1.heap.objs.size ∨ c = s1.heap.objs.size + 1 by simpa using hcm) with e | e | e | e | e <;> rw [e]
        · exact Nat.le_add_right _ _
        · exact Nat.le_add_right _ _
        · exact Nat.le_add_right _ _
        · exact Nat.le_refl _
        · exact Nat.le_add_right _ _
      exact I1.fpOk hle (I1.hok.fresh hle)
theorem walk_zipM {K : PySem.W.Frag} {a b : Addr} {xs ys : List V} {n : Nat} (hn : n = min xs.length ys.length) : Walk (IteM K a b) n (fun H => SqT K H a xs ∧ SqL K H b ys) (YPair (fun i => xs[i]?) (fun i => ys[i]?)) :=
  ⟨fun i _ hi q => ⟨xs, ys, xs[i]'(by omega), ys[i]'(by omega), q.1, q.2, by simp, by simp⟩, fun _ q => ⟨xs, ys, q.1, q.2, by omega⟩, fun i H x H' _ q y => by
    obtain ⟨T, u, v, rfl, hT, rfl, h1, h2⟩ := y
    exact ⟨T, u, v, rfl, hT, rfl, h1 xs q.1, h2 ys q.2⟩⟩
theorem ei_zipM {K : PySem.W.Frag} {σ : L2.St} {H : Hp} {ta tb : TE} {xs ys : List V} {n : Nat} (h1 : EvB ta σ H fun v G => ∃ p, v = .ref p ∧ SqT K G p xs) (h2 : EvB tb σ H fun v G => ∃ p, v = .ref p ∧ SqL K G p ys) (hn : n = min xs.length ys.length) :
    EvI (iZipM K (tCons ta (tCons tb tNil))) σ H n (YPair (fun i => xs[i]?) fun i => ys[i]?) := fun H1 e R r => h1 H1 e _ fun v H2 e2 hv => h2 H2 (e.trans e2) _ fun w H3 e3 hw => by
  have s3 := (e.trans e2).trans e3
  have pv : ∀ G, Ex H G → Since H1 H3 G → ∃ p, v = .ref p ∧ SqT K G p xs := fun G g gs => hv G g fun b o z1 z2 => gs b o z1 (e3 _ _ z2)
  have pw : ∀ G, Ex H G → Since H1 H3 G → ∃ p, w = .ref p ∧ SqL K G p ys := fun G g gs => hw G g fun b o z1 z2 => gs b o (fresh_back e2 z1) z2
  obtain ⟨a, ea, qa⟩ := pv H3 s3 fun _ _ _ z => z
  obtain ⟨b, eb, qb⟩ := pw H3 s3 fun _ _ _ z => z
  subst ea eb
  refine ⟨a, b, xs, ys, rfl, qa, qb, r _ _ (e2.trans e3) ((walk_zipM hn).mono (fun G g => ?_) fun _ _ _ _ _ _ y => y)⟩
  obtain ⟨a', ea, ha⟩ := pv G g.1 g.2
  obtain ⟨b', eb, hb⟩ := pw G g.1 g.2
  cases ea
  cases eb
  exact ⟨ha, hb⟩
end

/-! ### watches turned and stretched -/
theorem Shape.row' {n m : Nat} {xss : List (List Int)} (h : Shape (n : Int) m xss) : ∀ xs ∈ xss, xs.length = n := fun xs hx => by have := h.row xs hx; omega
theorem Shape.map {n m : Nat} {xss : List (List Int)} {f : List Int → List Int} (h : Shape (n : Int) m xss) (hl : ∀ xs, xs.length = n → (f xs).length = n) (hv : ∀ xs, ∀ y ∈ f xs, y ∈ xs ∨ y = 0) : Shape (n : Int) m (xss.map f) :=
  ⟨by rw [List.length_map]; exact h.len, fun xs hx => by
    obtain ⟨ys, hy, rfl⟩ := List.mem_map.mp hx
    rw [hl ys (h.row' ys hy)], fun xs hx y hm => by
    obtain ⟨ys, hy, rfl⟩ := List.mem_map.mp hx
    rcases hv ys y hm with h1 | h1
    · exact h.val ys hy y h1
    · omega⟩
def turnR (n : Nat) (k : Int) (xs : List Int) : List Int := (List.range n).map fun (i : Nat) => xs.getD (((i : Int) - k) % (n : Int)).toNat 0
theorem getD_or {xs : List Int} {i : Nat} : xs.getD i 0 ∈ xs ∨ xs.getD i 0 = 0 := by
  rw [List.getD_eq_getElem?_getD]
  cases e : xs[i]? with
  | none => exact .inr rfl
  | some y => exact .inl (List.mem_of_getElem? e)
theorem turn_shape {n m : Nat} {k : Int} {xss : List (List Int)} (h : Shape (n : Int) m xss) : Shape (n : Int) m (xss.map (turnR n k)) :=
  h.map (fun xs _ => by simp [turnR]) fun xs y hy => by
    obtain ⟨i, _, rfl⟩ := List.mem_map.mp hy
    exact getD_or
/-- each strength put at its place, one after the other -/
def moveP (n : Nat) (idx : Nat → Nat) (xs : List Int) (i : Nat) : List Int := (List.range i).foldl (fun acc h => acc.set (idx h) (xs.getD h 0)) (List.replicate n 0)
theorem moveP_succ {n : Nat} {idx : Nat → Nat} {xs : List Int} {i : Nat} : moveP n idx xs (i + 1) = (moveP n idx xs i).set (idx i) (xs.getD i 0) := by
  unfold moveP
  rw [List.range_succ, List.foldl_append]
  rfl
theorem moveP_len {n : Nat} {idx : Nat → Nat} {xs : List Int} : ∀ {i : Nat}, (moveP n idx xs i).length = n
  | 0 => by simp [moveP]
  | i + 1 => by rw [moveP_succ, List.length_set, moveP_len]
theorem moveP_or {n : Nat} {idx : Nat → Nat} {xs : List Int} : ∀ {i : Nat} {y : Int}, y ∈ moveP n idx xs i → y ∈ xs ∨ y = 0
  | 0, y, h => .inr (List.mem_replicate.mp (by simpa [moveP] using h)).2
  | i + 1, y, h => by
    rw [moveP_succ] at h
    rcases List.mem_or_eq_of_mem_set h with h | h
    · exact moveP_or h
    · rw [h]; exact getD_or
def moveR (n : Nat) (f b : Int) (xs : List Int) : List Int := moveP n (fun h => ((f * (h : Int) + b) % (n : Int)).toNat) xs n
theorem move_shape {n m : Nat} {f b : Int} {xss : List (List Int)} (h : Shape (n : Int) m xss) : Shape (n : Int) m (xss.map (moveR n f b)) := h.map (fun xs _ => moveP_len) fun xs y hy => moveP_or hy
/-- where no place is met twice, each place holds what was sent there -/
theorem moveP_at {n : Nat} {idx : Nat → Nat} {xs : List Int} : ∀ {i : Nat}, i ≤ n → (∀ h, h < i → idx h < n) → (∀ h h', h < i → h' < i → idx h = idx h' → h = h') → ∀ h, h < i → (moveP n idx xs i).getD (idx h) 0 = xs.getD h 0
  | 0, _, _, _, h, hh => absurd hh (Nat.not_lt_zero _)
  | i + 1, hi, hb, hinj, h, hh => by
    rw [moveP_succ, List.getD_eq_getElem?_getD]
    by_cases e : h = i
    · subst e
      rw [List.getElem?_set_self (by rw [moveP_len]; exact hb h hh)]
      rfl
    · rw [List.getElem?_set_ne (fun z => e (hinj i h (by omega) hh z).symm), ← List.getD_eq_getElem?_getD]
      exact moveP_at (by omega) (fun h hh => hb h (by omega)) (fun a b ha hb' => hinj a b (by omega) (by omega)) h (by omega)
/-- a walk while something that was made before it is changed -/
theorem s_forB {wi : TI} {g : TG} {tu : TS} {σ : L2.St} {H0 H : Hp} {D : Ends} {n : Nat} {Y : Nat → Hp → V → Hp → Prop} (e : Ex H0 H) (h : EvI wi σ H0 n Y) (k : ∀ H2, Ex H H2 → ∃ Pv : Nat → L2.St → Hp → Prop, Pv 0 σ H2 ∧ (∀ i σ' H', i ≤ n → Pv i σ' H' → Ex H0 H' ∧ Since H H2 H') ∧
    (∀ i x σ' H' H'', i < n → Pv i σ' H' → Y i H' x H'' → g x σ' H'' fun σ2 H3 => tu { D with nx := Pv (i + 1), ct := Pv (i + 1), bk := D.nx } σ2 H3) ∧ ∀ σ' H', Pv n σ' H' → D.nx σ' H') : tFor wi g tu D σ H :=
  h H e _ fun J H2 e2 w => by
    obtain ⟨Pv, h0, hG, hs, hd⟩ := k H2 e2
    exact for_it w Pv h0 hG (fun i x σ' H' H'' hi p y => hs i x σ' H' H'' hi p y) hd
theorem q_forB {wi : TI} {g : TG} {tu tz : TS} {σ : L2.St} {H0 H : Hp} {D : Ends} {n : Nat} {Y : Nat → Hp → V → Hp → Prop} (e : Ex H0 H) (h : EvI wi σ H0 n Y) (k : ∀ H2, Ex H H2 → ∃ Pv : Nat → L2.St → Hp → Prop, Pv 0 σ H2 ∧ (∀ i σ' H', i ≤ n → Pv i σ' H' → Ex H0 H' ∧ Since H H2 H') ∧
    (∀ i x σ' H' H'', i < n → Pv i σ' H' → Y i H' x H'' → g x σ' H'' fun σ2 H3 => tu { D with nx := Pv (i + 1), ct := Pv (i + 1), bk := tz D } σ2 H3) ∧ ∀ σ' H', Pv n σ' H' → tz D σ' H') : tSeq (tFor wi g tu) tz D σ H := s_forB (D := { D with nx := tz D }) e h k
theorem since_ex {H H2 G G' : Hp} (h : Since H H2 G) (e : Ex G G') : Since H H2 G' := fun b o h1 h2 => e _ _ (h b o h1 h2)
theorem since_mut {H H2 G : Hp} {a : Addr} {o o' : HO} (h : Since H H2 G) (ha : H a = some o) : Since H H2 (upd G a o') := fun b z h1 h2 => by
  rw [upd_ne (fun q => by rw [q, ha] at h1; cases h1)]
  exact h b z h1 h2
/-- one more row -/
theorem RowsM.more {H0 H : Hp} {p b : Addr} {qs : List (Addr × List Int)} {ys : List Int} (h : RowsM H0 H p qs) (hb : H0 b = none) (hp : b ≠ p) (hn : ∀ q ∈ qs, q.1 ≠ b) (hy : H b = some (.lst (ys.map V.int))) : RowsM H0 (upd H p (.lst ((qs.map fun q => V.ref q.1) ++ [V.ref b]))) p (qs ++ [(b, ys)]) := by
  refine ⟨h.1, by rw [upd_same, List.map_append]; rfl, ?_, fun q hq => ?_⟩
  · rw [List.map_append]
    refine List.nodup_append.mpr ⟨h.2.2.1, List.pairwise_singleton _ _, fun x hx y hy e => ?_⟩
    obtain ⟨q, hq, rfl⟩ := List.mem_map.mp hx
    rw [List.mem_singleton.mp hy] at e
    exact hn q hq e
  · rcases List.mem_append.mp hq with h' | h'
    · obtain ⟨z1, z2, z3⟩ := h.2.2.2 q h'
      exact ⟨z1, z2, by rw [upd_ne z1]; exact z3⟩
    · rw [List.mem_singleton.mp h']
      exact ⟨hp, hb, by rw [upd_ne hp]; exact hy⟩
theorem RowsM.mut {H0 H : Hp} {p b : Addr} {o : HO} {qs : List (Addr × List Int)} (h : RowsM H0 H p qs) (hp : b ≠ p) (hn : ∀ q ∈ qs, q.1 ≠ b) : RowsM H0 (upd H b o) p qs :=
  ⟨h.1, by rw [upd_ne (Ne.symm hp)]; exact h.2.1, h.2.2.1, fun q hq => ⟨(h.2.2.2 q hq).1, (h.2.2.2 q hq).2.1, by rw [upd_ne (hn q hq)]; exact (h.2.2.2 q hq).2.2⟩⟩
theorem el_isW {te : TE} {σ : L2.St} {H : Hp} {xs ys : List V} (h : EvL te σ H xs) (e : xs = ys) : EvL te σ H ys := by subst e; exact h
theorem el_rngY {σ : L2.St} {H : Hp} {te : TE} {ta : TA} {j n : Nat} {vs : List Nat} (v : Nat → V) (h : EvA ta σ H [.int (n : Int)]) (hn : n ≤ 40000) (hw : ∀ x, wipe ((wipe σ vs).set j (some x)) vs = wipe σ vs)
    (he : ∀ (i : Nat) H1, i < n → Ex H H1 → Ev te ((wipe σ vs).set j (some (.int (i : Int)))) H1 (v i)) : EvL (tLc (iRng1 ta) (gName j) tYes te vs) σ H ((List.range n).map v) := by
  have r := ei_rng1 h (by omega)
  rw [Int.toNat_natCast] at r
  rw [← given_all]
  exact el_lc (fun _ => true) v r hn bd_fn (fun i _ => hw _) (fun _ _ _ _ => yes_T) fun i H1 hi e _ => he i H1 hi e

/-! ### f-strings with a width -/
section
open Builtin Builtin.Str Builtin.Int Builtin.Float
theorem gives_cut {wd : Nat} {v : Value} {tn : String} {k : String → Sem Fin} {m : Made} (hT : ∀ s : Shared, s.TypeIs v tn) (hn : (Value.type tn == Value.type "builtin_function_or_method") = false) (g : ∀ nm, Gives (k nm) m) : Gives (do let nm ← typeNameOfCut wd v; k nm) m :=
  fun prog w' A R s hq => wpAny_bind (by
    unfold typeNameOfCut shownTypeOf
    refine wpAny_bind (wpAny_bind (wpAny_typeOf (hT s) ?_))
    rw [hn, if_neg Bool.false_ne_true]
    exact wpAny_pure (wpAny_pure (g _ prog w' A R s hq)))
def fld8 : FormatSpec := { align := 60, width := some 8 }
def fld3 : FormatSpec := { align := 62, width := some 3 }
theorem spec8 (nm : String) : parseFormatSpec ("<8" : Str).cps.toList nm 60 = .ok fld8 := rfl
theorem spec3 (nm : String) : parseFormatSpec (">3" : Str).cps.toList nm 62 = .ok fld3 := rfl
/-- blanks behind, up to eight signs -/
def pad8 (x : Str) : Str := ⟨(x.cps.toList ++ List.replicate (8 - x.length) 32).toArray⟩
def numD (n : Nat) : List Nat := (Nat.toDigits 10 n).map Char.toNat
/-- blanks ahead, up to three signs -/
def pad3 (n : Nat) : Str := ⟨(List.replicate (3 - (numD n).length) 32 ++ numD n).toArray⟩
theorem pad8_long {x : Str} (h : 8 ≤ x.length) : pad8 x = x := by
  unfold pad8
  rw [show 8 - x.length = 0 by omega]
  simp
def ask8 (x : Str) (nm : String) : Except String (Option (Option Str)) := do
  let f ← parseFormatSpec ("<8" : Str).cps.toList nm 60
  let f := if f.type.isNone && ("<8" : Str).cps.back? == some 0 then { f with type := some 0 } else f
  if tooLong (f.width.getD 0) then return none
  return some (← strField x f nm)
theorem ask8_is (x : Str) (nm : String) : ask8 x nm = if decide (8 ≤ x.length) = true then .ok (some none) else .ok (some (some (padded (strSub x 0 x.length) 0 (8 - (strSub x 0 x.length).length - 0) 32))) := by
  have e : ask8 x nm = (strField x fld8 nm).map some := rfl
  have e2 : strField x fld8 nm = if (decide (8 ≤ x.length) && true) = true then .ok none else .ok (some (padded (strSub x 0 x.length) 0 (8 - (strSub x 0 x.length).length - 0) 32)) := rfl
  rw [e, e2, Bool.and_true]
  split <;> rfl
def bad8 (name msg : String) : Sem PySem.Fin := do
  rule
    "str.__format__.bad-spec"
  if ("<8" : Str).cps.any Str.isSurrogate && quotesTheSpec msg then
    raiseErrorStr "ValueError"
      (invalidSpecWords ("<8" : Str) name)
  raiseError "ValueError" msg
def mem8 : Sem PySem.Fin := unsupported "str.__format__:memory"
def same8 (x : Str) (t : Tok) : Sem PySem.Fin := do
  rule
    "str.__format__.unchanged"
  ret (.str x t)
theorem gives_pad8 (x : Str) (t u : Tok) : Gives («str.__format__» ⟨[.str x t, .str "<8" u], []⟩) (if 8 ≤ x.length then .val (.str x t) else .str (pad8 x)) := by
  show Gives (do
    let name ← typeNameOfCut 200 (.str x t)
    match ask8 x name with
    | .error msg => bad8 name msg
    | .ok none => mem8
    | .ok (some none) => same8 x t
    | .ok (some (some text)) => retStr text) _
  refine gives_cut (tn := "str") (fun s => typeIs_str s _ _) (by decide) fun nm => ?_
  rw [ask8_is]
  by_cases h : 8 ≤ x.length
  · rw [if_pos h, decide_eq_true h]
    exact .rule (.of_eq rfl)
  · rw [if_neg h, decide_eq_false h]
    have e3 : strSub x 0 x.length = x := by
      show (⟨x.cps.extract 0 x.cps.size⟩ : Str) = x
      rw [Array.extract_size]
    have e4 : padded x 0 (8 - x.length - 0) 32 = pad8 x := by
      unfold padded pad8
      congr 1
      apply Array.toList_inj.mp
      simp
    rw [e3, e4]
    exact .of_eq rfl
theorem gives_pad3 (n : Nat) (h : n < 97) (t u : Tok) : Gives («int.__format__» ⟨[.int (n : Int) t, .str ">3" u], []⟩) (.str (pad3 n)) := by
  intro prog w A R s hq
  unfold «int.__format__»
  refine wpAny_bind ?_
  show wpAny _ _ (pure (Value.int (n : Int) t, Value.str ">3" u)) _ _ _
  refine wpAny_pure ?_
  refine wpAny_bind ?_
  show wpAny _ _ (pure (n : Int)) _ _ _
  refine wpAny_pure ?_
  rw [if_neg (show ¬ (Value.str (">3" : Str) u == Value.none) = true from Bool.false_ne_true)]
  refine wpAny_bind (wpAny_typeNameOf (T := "str") (typeIs_str _ _ _) (by decide) fun nm => ?_)
  refine wpAny_bind ?_
  show wpAny _ _ (pure (some (">3" : Str))) _ _ _
  refine wpAny_pure ?_
  dsimp only
  rw [if_neg (by decide +kernel), if_neg (by decide +kernel)]
  refine wpAny_bind ?_
  unfold typeNameOfCut shownTypeOf
  refine wpAny_bind (wpAny_bind (wpAny_typeOf (T := "int") (typeIs_int _ _ _) ?_))
  rw [show (Value.type "int" == Value.type "builtin_function_or_method") = false by decide, if_neg Bool.false_ne_true]
  refine wpAny_pure (wpAny_pure ?_)
  rw [spec3]
  dsimp only
  rw [if_pos (by decide +kernel)]
  suffices g : Gives _ (.str (pad3 n)) from g prog w A R s hq
  clear hq
  iterate 97 (rcases n with _ | n; · exact .of_eq rfl)
  omega
variable {prog : Program} {w : World} {A : Around} {E : Value → Shared → Prop} {s : Shared}
/-- a text that is wide enough stays itself -/
theorem fmt_same {x sp : Str} {t : Tok} {Q : Value → Shared → Prop} (hne : (sp.length == 0) = false) (g : ∀ u, Gives («str.__format__» ⟨[.str x t, .str sp u], []⟩) (.val (.str x t))) (hz : sp.length ≤ sizeLine) (h : Q (.str x t) { s with toks := s.toks + 1 }) : wpAny (model prog w) A (formatField (.str x t) sp) Q E s := by
  have e : formatField (.str x t) sp = holding [.str x t] (pyFormat (.str x t) sp) := by
    unfold formatField
    simp only [hne, Bool.false_eq_true, if_false]
  rw [e]
  refine wpAny_holding ?_
  unfold pyFormat
  refine wpAny_bind (wpAny_mkStr ?_ hz)
  refine wpAny_bind (m := callSpecial? (.str x t) (Str.ofString "__format__") [.str sp s.toks]) ?_
  refine wpAny_callSpecial?_slot (name := Str.ofString "__format__") (typeIs_str _ _ _) PySem.F.slot_str_format ?_
  refine call_gives PySem.F.slot_str_format (typeIs_str _ _ _) PySem.F.entry_str_format (PySem.F.args_str_format_2 _ _) (g _) ?_
  exact wpAny_bind (wpAny_isInstance (T := "str") (b := true) rfl isSubtype_str_str (wpAny_pure h))
end
section
open PySem.Spec PyProof.Rows
variable {X : Cx}
def tFmt8 (te : TE) : TE := fun σ H Q => te σ H fun x H1 => ∃ y : Str, x = .str y ∧ y.length ≤ 100000 ∧ Q (.str (pad8 y)) H1
theorem pad8_sz {y : Str} (h : y.length ≤ 100000) : (pad8 y).length ≤ 100008 := by
  show (y.cps.toList ++ List.replicate (8 - y.length) 32).toArray.size ≤ _
  have : y.cps.toList.length = y.length := by simp [Str.length]
  simp [this]
  omega
theorem pe_fmt8 {e : Expr} {te : TE} {pos p1 p2 : Pos} {j : Nat} (he : PE X e te) : PE X (.FormattedValue e (-1) (some (.JoinedStr [.Constant (.str "<8") j p1] p2)) pos) (tFmt8 te) := by
  refine ⟨fun pins s σ H Q I h => wpAny_FormattedValue_spec (thn (he.run pins s σ H _ I h) fun v s1 hv => ?_)⟩
  obtain ⟨x, H1, I1, r1, y, rfl, hz, q⟩ := hv
  obtain ⟨t, rfl⟩ := r1
  refine thn ((pe_joined1 pe_str).run pins s1 σ H1 (fun x H2 => x = .str "<8" ∧ H2 = H1) I1 ⟨rfl, rfl⟩) fun r s2 hr => ?_
  obtain ⟨x2, H2, I2, r2, rfl, rfl⟩ := hr
  obtain ⟨t2, rfl⟩ := r2
  refine ⟨"<8", t2, rfl, ?_⟩
  have hsz : (pad8 y).length ≤ sizeLine := Nat.le_trans (pad8_sz hz) (by decide)
  by_cases h8 : 8 ≤ y.length
  · rw [pad8_long h8] at q
    exact fmt_same (by decide +kernel) (fun u => by have := gives_pad8 y t u; rwa [if_pos h8] at this) (by decide +kernel) ⟨.str y, H2, I2.tok _, ⟨_, rfl⟩, q⟩
  · exact wpAny_formatField_spec (by decide +kernel) (fun s' => typeIs_str s' _ _) PySem.F.slot_str_format PySem.F.entry_str_format PySem.F.args_str_format_2 (fun u => by have := gives_pad8 y t u; rwa [if_neg h8] at this) ⟨.str (pad8 y), H2, I2.tok _, ⟨_, rfl⟩, q⟩ (by decide +kernel) hsz
def tFmt3 (te : TE) : TE := fun σ H Q => te σ H fun x H1 => ∃ n : Nat, x = .int (n : Int) ∧ n < 97 ∧ Q (.str (pad3 n)) H1
theorem numD_len {n : Nat} (h : n < 97) : (numD n).length ≤ 2 := by
  have : ∀ n, n < 97 → (numD n).length ≤ 2 := by decide +kernel
  exact this n h
theorem pad3_len {n : Nat} (h : n < 97) : (pad3 n).length = 3 := by
  have := numD_len h
  show (List.replicate (3 - (numD n).length) 32 ++ numD n).toArray.size = 3
  simp
  omega
theorem pe_fmt3 {e : Expr} {te : TE} {pos p1 p2 : Pos} {j : Nat} (he : PE X e te) : PE X (.FormattedValue e (-1) (some (.JoinedStr [.Constant (.str ">3") j p1] p2)) pos) (tFmt3 te) := by
  refine ⟨fun pins s σ H Q I h => wpAny_FormattedValue_spec (thn (he.run pins s σ H _ I h) fun v s1 hv => ?_)⟩
  obtain ⟨x, H1, I1, r1, n, rfl, hn, q⟩ := hv
  obtain ⟨t, rfl⟩ := r1
  refine thn ((pe_joined1 pe_str).run pins s1 σ H1 (fun x H2 => x = .str ">3" ∧ H2 = H1) I1 ⟨rfl, rfl⟩) fun r s2 hr => ?_
  obtain ⟨x2, H2, I2, r2, rfl, rfl⟩ := hr
  obtain ⟨t2, rfl⟩ := r2
  refine ⟨">3", t2, rfl, ?_⟩
  exact wpAny_formatField_spec (by decide +kernel) (fun s' => typeIs_int s' _ _) PySem.F.slot_int_format PySem.F.entry_int_format PySem.F.args_int_format_2 (fun u => gives_pad3 n hn t u) ⟨.str (pad3 n), H2, I2.tok _, ⟨_, rfl⟩, q⟩ (by decide +kernel) (by rw [pad3_len hn]; decide)
/-! ### texts joined, stripped -/
def rJoinK (K : PySem.W.Frag) : V → List V → Hp → VK → Prop := fun x xs H Q => ∃ a p, ∃ ys : List Str, x = .str a ∧ xs = [.ref p] ∧ (SqL K H p (ys.map V.str) ∨ SqT K H p (ys.map V.str)) ∧ (ys.map (·.length)).sum + ys.length * a.length ≤ 16777216 ∧ Q (.str (Txt.join a ys)) H
theorem mt_joinK {K : PySem.W.Frag} (h : X.K = K := by rfl) : MtR X "str.join" (rJoinK K) := by subst h; exact mt_join
end
/-- texts one behind the other -/
def catS (ys : List Str) : Str := ⟨(ys.flatMap fun y => y.cps.toList).toArray⟩
theorem join_cat {ys : List Str} : Txt.join (txt []) ys = catS ys := by
  rw [TL.join_eq]
  apply TL.ext_tl
  rw [TL.tl_join]
  show TL.joinL [] (ys.map TL.tl) = ys.flatMap TL.tl
  induction ys with
  | nil => rfl
  | cons y ys ih =>
    cases ys with
    | nil => simp [TL.joinL]
    | cons z zs =>
      rw [List.map_cons, List.flatMap_cons, ← ih]
      rfl
theorem ev_join {K : PySem.W.Frag} {to te : TE} {σ : L2.St} {H : Hp} {ys : List Str} (ho : Ev to σ H (.str (txt []))) (h : EvL te σ H (ys.map V.str)) (hz : (ys.map (·.length)).sum ≤ 100000) : Ev (tM1 (rJoinK K) to te) σ H (.str (catS ys)) := fun H1 e Q q =>
  ho H1 e _ fun H2 e2 => ⟨⟨_, rfl⟩, h H2 (e.trans e2) _ fun p H3 _ e3 hp => ⟨txt [], p, ys, rfl, rfl, .inl (sq_of hp), by rw [show (txt []).length = 0 from rfl]; omega, by rw [join_cat]; exact q H3 (e2.trans e3)⟩⟩

theorem ev_joinE {K : PySem.W.Frag} {te : TE} {σ : L2.St} {H : Hp} {ys : List Str} (h : EvL te σ H (ys.map V.str)) (hz : (ys.map (·.length)).sum ≤ 100000) : Ev (tM1 (rJoinK K) (tC (V.str (Str.ofString ""))) te) σ H (.str (catS ys)) := ev_join ev_c h hz
theorem ev_fmt8 {te : TE} {σ : L2.St} {H : Hp} {y : Str} (h : Ev te σ H (.str y)) (hz : y.length ≤ 100000) : Ev (tFmt8 te) σ H (.str (pad8 y)) := fun H1 e Q q => h H1 e _ fun H2 e2 => ⟨y, rfl, hz, q H2 e2⟩
theorem ev_fmt3 {te : TE} {σ : L2.St} {H : Hp} {x : Int} (h : Ev te σ H (.int x)) (hx : 0 ≤ x ∧ x ≤ 96) : Ev (tFmt3 te) σ H (.str (pad3 x.toNat)) := fun H1 e Q q => h H1 e _ fun H2 e2 => ⟨x.toNat, by rw [Int.toNat_of_nonneg hx.1], by omega, q H2 e2⟩
theorem ev_addS {ta tb : TE} {σ : L2.St} {H : Hp} {x y z : Str} (ha : Ev ta σ H (.str x)) (hb : Ev tb σ H (.str y)) (h : x.length + y.length ≤ 100000) (hz : x ++ y = z) : Ev (tOp (fun x y H Q => ∃ i j, x = .str i ∧ y = .str j ∧ i.length + j.length ≤ sizeLine ∧ Q (.str (i ++ j)) H) ta tb) σ H (.str z) := by
  subst hz
  exact ev_op ha hb (rv_addS h)
theorem cat_len (ys : List Str) : (catS ys).length = (ys.map (·.length)).sum := by
  show (ys.flatMap fun y => y.cps.toList).toArray.size = _
  rw [List.size_toArray, List.length_flatMap]
  congr 1
theorem cat_app (a b : List Str) : catS (a ++ b) = catS a ++ catS b := by
  apply TL.ext_tl
  rw [TL.tl_append]
  show List.flatMap _ (a ++ b) = _
  rw [List.flatMap_append]
  rfl
theorem cat_one (y : Str) : catS [y] = y := by
  apply TL.ext_tl
  show TL.tl (⟨([y].flatMap fun y => y.cps.toList).toArray⟩ : Str) = _
  rw [TL.tl_mk, List.flatMap_cons, List.flatMap_nil, List.append_nil]
theorem cat_none : catS [] = txt [] := rfl
theorem str_assoc (a b c : Str) : a ++ b ++ c = a ++ (b ++ c) := by
  apply TL.ext_tl
  simp only [TL.tl_append, List.append_assoc]
theorem str_nil (a : Str) : a ++ txt [] = a := by
  apply TL.ext_tl
  rw [TL.tl_append]
  exact List.append_nil _
theorem str_len (a b : Str) : (a ++ b).length = a.length + b.length := by
  rw [TL.len_tl, TL.len_tl a, TL.len_tl b, TL.tl_append, List.length_append]
theorem pad8_len {y : Str} (h : y.length ≤ 8) : (pad8 y).length = 8 := by
  show (y.cps.toList ++ List.replicate (8 - y.length) 32).toArray.size = _
  have : y.cps.toList.length = y.length := by simp [Str.length]
  simp [this]
  omega
theorem cat3_sum {ns : List Int} (h : ∀ x ∈ ns, 0 ≤ x ∧ x ≤ 96) : ((ns.map fun x => pad3 x.toNat).map (·.length)).sum = 3 * ns.length := by
  induction ns with
  | nil => rfl
  | cons x ns ih =>
    have := h x List.mem_cons_self
    rw [List.map_cons, List.map_cons, List.sum_cons, ih fun y hy => h y (List.mem_cons_of_mem _ hy), List.length_cons, pad3_len (by omega)]
    omega
/-- a comprehension over a list of ints -/
theorem el_mapI {K : PySem.W.Frag} {σ : L2.St} {H : Hp} {te tl : TE} {j : Nat} {vs : List Nat} {p : Addr} (xs : List Int) (f : Int → V) (h : Ev tl σ H (.ref p)) (hx : SqL K H p (xs.map V.int)) (hz : xs.length ≤ 40000) (hw : ∀ x, wipe ((wipe σ vs).set j (some x)) vs = wipe σ vs)
    (he : ∀ x H1, Ex H H1 → x ∈ xs → Ev te ((wipe σ vs).set j (some (.int x))) H1 (f x)) : EvL (tLc (iList K tl) (gName j) tYes te vs) σ H (xs.map f) := by
  have r := el_lstG (K := K) (tt := tYes) (g := gName j) (te := te) (0 : Int) (xs.map V.int) xs (fun _ => true) f (fun y => (wipe σ vs).set j (some (.int y))) h hx (List.length_map _) hz (fun i x y H1 k e h1 h2 hk => by
    rw [List.getElem?_map, h2] at h1
    cases h1
    exact hk) (fun y => hw _) (fun y H1 e hy => yes_T) (fun y H1 e hy _ => he y H1 e hy)
  rwa [List.filter_eq_self.mpr fun _ _ => rfl] at r
theorem el_mapIN {K : PySem.W.Frag} {σ : L2.St} {H : Hp} {te tl : TE} {j : Nat} {vs : List Nat} (xs : List Int) (f : Int → V) (h : EvL tl σ H (xs.map V.int)) (hz : xs.length ≤ 40000) (hw : ∀ x, wipe ((wipe σ vs).set j (some x)) vs = wipe σ vs)
    (he : ∀ x H1, Ex H H1 → x ∈ xs → Ev te ((wipe σ vs).set j (some (.int x))) H1 (f x)) : EvL (tLc (iList K tl) (gName j) tYes te vs) σ H (xs.map f) := by
  have r := el_lstN (K := K) (tt := tYes) (g := gName j) (te := te) (0 : Int) (xs.map V.int) xs (fun _ => true) f (fun y => (wipe σ vs).set j (some (.int y))) h (List.length_map _) hz (fun i x y H1 k e h1 h2 hk => by
    rw [List.getElem?_map, h2] at h1
    cases h1
    exact hk) (fun y => hw _) (fun y H1 e hy => yes_T) (fun y H1 e hy _ => he y H1 e hy)
  rwa [List.filter_eq_self.mpr fun _ _ => rfl] at r
theorem q_rev {K : PySem.W.Frag} {ta : TE} {tz : TS} {D : Ends} {σ : L2.St} {H : Hp} {l : Addr} {xs : List V} (hl : H l = some (.lst xs)) (ha : Ev ta σ H (.ref l)) (k : ∀ H1, Ex H H1 → tz D σ (upd H1 l (.lst xs.reverse))) : tSeq (tDrop (tBM0 K "list" rReverse ta)) tz D σ H :=
  ha H (Ex.refl H) _ fun H1 e1 => ⟨Or.inl ⟨rfl, xs, sq_of (e1 l _ hl)⟩, l, xs, rfl, rfl, e1 l _ hl, k H1 e1⟩
theorem dp_strs {K : PySem.W.Frag} {H : Hp} : ∀ ss : List Str, DpAll K H (ss.map V.str) (ss.map PyData.str)
  | [] => .nil
  | s :: ss => .cons (.str s) (dp_strs ss)
theorem flat_strs {ss : List Str} (h : ss.length ≤ 1000) : Flat 4 (.list (ss.map .str)) := ⟨by rw [List.length_map]; omega, fun d hd => by
  obtain ⟨i, _, rfl⟩ := List.mem_map.mp hd
  exact True.intro⟩
theorem ed_strs {K : PySem.W.Frag} {σ : L2.St} {H : Hp} {te : TE} {ss : List Str} (h : EvL te σ H (ss.map V.str)) : EvR te σ H fun v H1 => Dp K H1 v (.list (ss.map .str)) := (er_L h).imp fun v H1 q => by
  obtain ⟨p, rfl, hp⟩ := q
  exact .lst (sq_of hp) (dp_strs _)
/-- blanks are no letters and no figures -/
theorem space32 : Unicode.isSpace 32 = true := by decide +kernel
theorem space_no {c : Nat} (h : 33 ≤ c ∧ c ≤ 122) : Unicode.isSpace c = false := by
  have : ∀ c, c < 123 → 33 ≤ c → Unicode.isSpace c = false := by decide +kernel
  exact this c (by omega) h.1
theorem take_blanks {g : Nat → Bool} {n : Nat} {l : List Nat} (h : g 32 = true) (h2 : ∀ c, l.head? = some c → g c = false) : (List.replicate n 32 ++ l).takeWhile g = List.replicate n 32 := by
  induction n with
  | zero =>
    cases l with
    | nil => rfl
    | cons c l => simp [h2 c rfl]
  | succ n ih => rw [List.replicate_succ, List.cons_append, List.takeWhile_cons, if_pos h, ih]
theorem rstrip_pad8 {y : Str} (h : y.length ≤ 8) (h2 : ∀ c ∈ y.cps.toList, 33 ≤ c ∧ c ≤ 122) : Txt.rstrip (pad8 y) = y := by
  have ly : y.cps.toList.length = y.length := by simp [Str.length]
  have hi : stripHi Unicode.isSpace true (pad8 y) 0 = y.length := by
    unfold stripHi
    rw [if_pos rfl, pad8_len h]
    show 8 - (((y.cps.toList ++ List.replicate (8 - y.length) 32).drop 0).reverse.takeWhile _).length = _
    rw [List.drop_zero, List.reverse_append, List.reverse_replicate, take_blanks space32 fun c hc => space_no (h2 c ?_), List.length_replicate]
    · omega
    · rw [← List.mem_reverse]
      exact List.mem_of_head? hc
  unfold Txt.rstrip Txt.stripBy stripSame stripped
  rw [show stripLo Unicode.isSpace false (pad8 y) = 0 from rfl, hi]
  split
  · rename_i c
    have : y.length = (pad8 y).length := by simpa using c
    rw [pad8_len h] at this
    exact pad8_long (by omega)
  · apply TL.ext_tl
    rw [TL.tl_strSub]
    show (((y.cps.toList ++ List.replicate (8 - y.length) 32)).drop 0).take (y.length - 0) = _
    rw [List.drop_zero, Nat.sub_zero, ← ly, List.take_left]
theorem lstrip_pad3 {n : Nat} (h : n < 97) : Txt.lstrip (pad3 n) = Str.ofString (toString ((n : Nat) : Int)) := by
  have hd : ∀ c ∈ numD n, 48 ≤ c ∧ c ≤ 57 := fun c hc => by
    have f1 : ¬ (c < 48 ∨ 57 < c) := fun z => TL.numL_free (n := n) z hc
    omega
  have e : TL.tl (Str.ofString (toString ((n : Nat) : Int))) = numD n := TL.tl_num n
  have lo : stripLo Unicode.isSpace true (pad3 n) = 3 - (numD n).length := by
    unfold stripLo
    rw [if_pos rfl]
    show ((List.replicate (3 - (numD n).length) 32 ++ numD n).takeWhile _).length = _
    rw [take_blanks space32 fun c hc => space_no (by have := hd c (List.mem_of_head? hc); omega), List.length_replicate]
  have l2 := numD_len h
  apply TL.ext_tl
  rw [e]
  unfold Txt.lstrip Txt.stripBy stripSame stripped
  rw [lo, show ∀ k, stripHi Unicode.isSpace false (pad3 n) k = (pad3 n).length from fun _ => rfl, pad3_len h, if_neg (by simp; omega), TL.tl_strSub]
  show (((List.replicate (3 - (numD n).length) 32 ++ numD n)).drop (3 - (numD n).length)).take (3 - (3 - (numD n).length)) = _
  rw [List.drop_left' (by simp), List.take_of_length_le (by omega)]
structure Ads where
  f_BadNumber_init : Addr
  d_BadNumber_init : FuncData
  f_TooMany_init : Addr
  d_TooMany_init : FuncData
  f_SharedFactor_init : Addr
  d_SharedFactor_init : FuncData
  f_WrongLength_init : Addr
  d_WrongLength_init : FuncData
  f_BadName_init : Addr
  d_BadName_init : FuncData
  f_RepeatedName_init : Addr
  d_RepeatedName_init : FuncData
  f_check_name : Addr
  d_check_name : FuncData
  f_check_new_name : Addr
  d_check_new_name : FuncData
  f_House_init : Addr
  d_House_init : FuncData
  f_House_len : Addr
  d_House_len : FuncData
  f_is_gate : Addr
  d_is_gate : FuncData
  f_u_check_row : Addr
  d_u_check_row : FuncData
  f_Watch_init : Addr
  d_Watch_init : FuncData
  f_Watch_rows : Addr
  d_Watch_rows : FuncData
  f_Watch_lshift : Addr
  d_Watch_lshift : FuncData
  f_Watch_mul : Addr
  d_Watch_mul : FuncData
  f_Watch_neg : Addr
  d_Watch_neg : FuncData
  f_u_line : Addr
  d_u_line : FuncData
  f_chart : Addr
  d_chart : FuncData
  f_u_law_cell : Addr
  d_u_law_cell : FuncData
  f_u_law_draws : Addr
  d_u_law_draws : FuncData
  f_u_law_is_int : Addr
  d_u_law_is_int : FuncData
  f_u_law_same : Addr
  d_u_law_same : FuncData
  f_u_law_rows : Addr
  d_u_law_rows : FuncData
  f_u_law_drawn_names : Addr
  d_u_law_drawn_names : FuncData
  f_u_law_filled : Addr
  d_u_law_filled : FuncData
  f_u_law_line : Addr
  d_u_law_line : FuncData
  f_u_law_charted : Addr
  d_u_law_charted : FuncData
  f_law : Addr
  d_law : FuncData
  C_BadNumber : Addr
  C_TooMany : Addr
  C_SharedFactor : Addr
  C_WrongLength : Addr
  C_BadName : Addr
  C_RepeatedName : Addr
  C_House : Addr
  C_Watch : Addr
  p_Watch_rows : Addr
structure Txt (K : PySem.W.Frag) (mg : Str → Option Value) (A : Ads) : Prop where
  F_BadNumber_init : Fun K "__init__" "BadNumber.__init__" s_BadNumber_init A.f_BadNumber_init A.d_BadNumber_init
  F_TooMany_init : Fun K "__init__" "TooMany.__init__" s_TooMany_init A.f_TooMany_init A.d_TooMany_init
  F_SharedFactor_init : Fun K "__init__" "SharedFactor.__init__" s_SharedFactor_init A.f_SharedFactor_init A.d_SharedFactor_init
  F_WrongLength_init : Fun K "__init__" "WrongLength.__init__" s_WrongLength_init A.f_WrongLength_init A.d_WrongLength_init
  F_BadName_init : Fun K "__init__" "BadName.__init__" s_BadName_init A.f_BadName_init A.d_BadName_init
  F_RepeatedName_init : Fun K "__init__" "RepeatedName.__init__" s_RepeatedName_init A.f_RepeatedName_init A.d_RepeatedName_init
  F_check_name : Fun K "check_name" "check_name" s_check_name A.f_check_name A.d_check_name
  g_check_name : mg "check_name" = some (.ref A.f_check_name)
  k_check_name : PySem.W.keepIn K (.ref A.f_check_name) = true
  F_check_new_name : Fun K "check_new_name" "check_new_name" s_check_new_name A.f_check_new_name A.d_check_new_name
  g_check_new_name : mg "check_new_name" = some (.ref A.f_check_new_name)
  k_check_new_name : PySem.W.keepIn K (.ref A.f_check_new_name) = true
  F_House_init : Fun K "__init__" "House.__init__" s_House_init A.f_House_init A.d_House_init
  F_House_len : Fun K "__len__" "House.__len__" s_House_len A.f_House_len A.d_House_len
  F_is_gate : Fun K "is_gate" "is_gate" s_is_gate A.f_is_gate A.d_is_gate
  g_is_gate : mg "is_gate" = some (.ref A.f_is_gate)
  k_is_gate : PySem.W.keepIn K (.ref A.f_is_gate) = true
  F_u_check_row : Fun K "_check_row" "_check_row" s_u_check_row A.f_u_check_row A.d_u_check_row
  g_u_check_row : mg "_check_row" = some (.ref A.f_u_check_row)
  k_u_check_row : PySem.W.keepIn K (.ref A.f_u_check_row) = true
  F_Watch_init : Fun K "__init__" "Watch.__init__" s_Watch_init A.f_Watch_init A.d_Watch_init
  F_Watch_rows : Fun K "rows" "Watch.rows" s_Watch_rows A.f_Watch_rows A.d_Watch_rows
  F_Watch_lshift : Fun K "__lshift__" "Watch.__lshift__" s_Watch_lshift A.f_Watch_lshift A.d_Watch_lshift
  F_Watch_mul : Fun K "__mul__" "Watch.__mul__" s_Watch_mul A.f_Watch_mul A.d_Watch_mul
  F_Watch_neg : Fun K "__neg__" "Watch.__neg__" s_Watch_neg A.f_Watch_neg A.d_Watch_neg
  F_u_line : Fun K "_line" "_line" s_u_line A.f_u_line A.d_u_line
  g_u_line : mg "_line" = some (.ref A.f_u_line)
  k_u_line : PySem.W.keepIn K (.ref A.f_u_line) = true
  F_chart : Fun K "chart" "chart" s_chart A.f_chart A.d_chart
  g_chart : mg "chart" = some (.ref A.f_chart)
  k_chart : PySem.W.keepIn K (.ref A.f_chart) = true
  F_u_law_cell : Fun K "_law_cell" "_law_cell" s_u_law_cell A.f_u_law_cell A.d_u_law_cell
  g_u_law_cell : mg "_law_cell" = some (.ref A.f_u_law_cell)
  k_u_law_cell : PySem.W.keepIn K (.ref A.f_u_law_cell) = true
  F_u_law_draws : Fun K "_law_draws" "_law_draws" s_u_law_draws A.f_u_law_draws A.d_u_law_draws
  g_u_law_draws : mg "_law_draws" = some (.ref A.f_u_law_draws)
  k_u_law_draws : PySem.W.keepIn K (.ref A.f_u_law_draws) = true
  F_u_law_is_int : Fun K "_law_is_int" "_law_is_int" s_u_law_is_int A.f_u_law_is_int A.d_u_law_is_int
  g_u_law_is_int : mg "_law_is_int" = some (.ref A.f_u_law_is_int)
  k_u_law_is_int : PySem.W.keepIn K (.ref A.f_u_law_is_int) = true
  F_u_law_same : Fun K "_law_same" "_law_same" s_u_law_same A.f_u_law_same A.d_u_law_same
  g_u_law_same : mg "_law_same" = some (.ref A.f_u_law_same)
  k_u_law_same : PySem.W.keepIn K (.ref A.f_u_law_same) = true
  F_u_law_rows : Fun K "_law_rows" "_law_rows" s_u_law_rows A.f_u_law_rows A.d_u_law_rows
  g_u_law_rows : mg "_law_rows" = some (.ref A.f_u_law_rows)
  k_u_law_rows : PySem.W.keepIn K (.ref A.f_u_law_rows) = true
  F_u_law_drawn_names : Fun K "_law_drawn_names" "_law_drawn_names" s_u_law_drawn_names A.f_u_law_drawn_names A.d_u_law_drawn_names
  g_u_law_drawn_names : mg "_law_drawn_names" = some (.ref A.f_u_law_drawn_names)
  k_u_law_drawn_names : PySem.W.keepIn K (.ref A.f_u_law_drawn_names) = true
  F_u_law_filled : Fun K "_law_filled" "_law_filled" s_u_law_filled A.f_u_law_filled A.d_u_law_filled
  g_u_law_filled : mg "_law_filled" = some (.ref A.f_u_law_filled)
  k_u_law_filled : PySem.W.keepIn K (.ref A.f_u_law_filled) = true
  F_u_law_line : Fun K "_law_line" "_law_line" s_u_law_line A.f_u_law_line A.d_u_law_line
  g_u_law_line : mg "_law_line" = some (.ref A.f_u_law_line)
  k_u_law_line : PySem.W.keepIn K (.ref A.f_u_law_line) = true
  F_u_law_charted : Fun K "_law_charted" "_law_charted" s_u_law_charted A.f_u_law_charted A.d_u_law_charted
  g_u_law_charted : mg "_law_charted" = some (.ref A.f_u_law_charted)
  k_u_law_charted : PySem.W.keepIn K (.ref A.f_u_law_charted) = true
  F_law : Fun K "law" "law" s_law A.f_law A.d_law
  g_law : mg "law" = some (.ref A.f_law)
  k_law : PySem.W.keepIn K (.ref A.f_law) = true
  c_LONGEST_NAME : ∃ t, mg "_LONGEST_NAME" = some (.int 8 t)
  c_LETTERS : ∃ t, mg "_LETTERS" = some (.str "abcdefghijklmnopqrstuvwxyz" t)
  z_abs : mg "abs" = none
  z_len : mg "len" = none
  z_int : mg "int" = none
  z_str : mg "str" = none
  z_list : mg "list" = none
  z_tuple : mg "tuple" = none
  z_isinstance : mg "isinstance" = none
  z_range : mg "range" = none
  z_min : mg "min" = none
  z_enumerate : mg "enumerate" = none
  z_zip : mg "zip" = none
  z_bool : mg "bool" = none
  g_BadNumber : mg "BadNumber" = some (.ref A.C_BadNumber)
  g_TooMany : mg "TooMany" = some (.ref A.C_TooMany)
  g_SharedFactor : mg "SharedFactor" = some (.ref A.C_SharedFactor)
  g_WrongLength : mg "WrongLength" = some (.ref A.C_WrongLength)
  g_BadName : mg "BadName" = some (.ref A.C_BadName)
  g_RepeatedName : mg "RepeatedName" = some (.ref A.C_RepeatedName)
  g_House : mg "House" = some (.ref A.C_House)
  g_Watch : mg "Watch" = some (.ref A.C_Watch)
  g_gcd : mg "gcd" = some (.builtin "math.gcd")
  ox_BadNumber : OexC K A.C_BadNumber
  ni_BadNumber : PySem.W.findIn K (.ref A.C_BadNumber) "__init__" = some (some (.ref A.f_BadNumber_init))
  ti_BadNumber : PySem.W.typeIn K (.ref A.f_BadNumber_init) = some (.type "function")
  nf_BadNumber_name : PySem.W.findIn K (.ref A.C_BadNumber) "name" = some none
  nf_BadNumber_value : PySem.W.findIn K (.ref A.C_BadNumber) "value" = some none
  xf_BadNumber : XfC K A.C_BadNumber
  ex_BadNumber : ExcC K A.C_BadNumber
  ox_TooMany : OexC K A.C_TooMany
  ni_TooMany : PySem.W.findIn K (.ref A.C_TooMany) "__init__" = some (some (.ref A.f_TooMany_init))
  ti_TooMany : PySem.W.typeIn K (.ref A.f_TooMany_init) = some (.type "function")
  nf_TooMany_name : PySem.W.findIn K (.ref A.C_TooMany) "name" = some none
  nf_TooMany_most : PySem.W.findIn K (.ref A.C_TooMany) "most" = some none
  xf_TooMany : XfC K A.C_TooMany
  ex_TooMany : ExcC K A.C_TooMany
  ox_BadName : OexC K A.C_BadName
  ni_BadName : PySem.W.findIn K (.ref A.C_BadName) "__init__" = some (some (.ref A.f_BadName_init))
  ti_BadName : PySem.W.typeIn K (.ref A.f_BadName_init) = some (.type "function")
  nf_BadName_name : PySem.W.findIn K (.ref A.C_BadName) "name" = some none
  xf_BadName : XfC K A.C_BadName
  ex_BadName : ExcC K A.C_BadName
  ox_RepeatedName : OexC K A.C_RepeatedName
  ni_RepeatedName : PySem.W.findIn K (.ref A.C_RepeatedName) "__init__" = some (some (.ref A.f_RepeatedName_init))
  ti_RepeatedName : PySem.W.typeIn K (.ref A.f_RepeatedName_init) = some (.type "function")
  nf_RepeatedName_name : PySem.W.findIn K (.ref A.C_RepeatedName) "name" = some none
  xf_RepeatedName : XfC K A.C_RepeatedName
  ex_RepeatedName : ExcC K A.C_RepeatedName
  ox_WrongLength : OexC K A.C_WrongLength
  ni_WrongLength : PySem.W.findIn K (.ref A.C_WrongLength) "__init__" = some (some (.ref A.f_WrongLength_init))
  ti_WrongLength : PySem.W.typeIn K (.ref A.f_WrongLength_init) = some (.type "function")
  nf_WrongLength_length : PySem.W.findIn K (.ref A.C_WrongLength) "length" = some none
  xf_WrongLength : XfC K A.C_WrongLength
  ex_WrongLength : ExcC K A.C_WrongLength
  ox_SharedFactor : OexC K A.C_SharedFactor
  ni_SharedFactor : PySem.W.findIn K (.ref A.C_SharedFactor) "__init__" = some (some (.ref A.f_SharedFactor_init))
  ti_SharedFactor : PySem.W.typeIn K (.ref A.f_SharedFactor_init) = some (.type "function")
  nf_SharedFactor_factor : PySem.W.findIn K (.ref A.C_SharedFactor) "factor" = some none
  xf_SharedFactor : XfC K A.C_SharedFactor
  ex_SharedFactor : ExcC K A.C_SharedFactor
  cl_House : Cls K A.C_House
  mk_House : Mk K A.C_House A.f_House_init
  na_House_hours : NoAttr K A.C_House "hours"
  na_House_names : NoAttr K A.C_House "names"
  na_House_stakes : NoAttr K A.C_House "stakes"
  ty_House : ∀ (H : Hp) (a dx : Addr) (fs : List (Str × V)), H a = some (.ins A.C_House dx fs) → TyX K H (.ref a) (.ref A.C_House)
  rd_House : ∃ mc, ClX.CRead K A.C_House mc ∧ (∃ t, ClX.CVal K A.C_House mc "MOST_HOURS" (.int 24) (.int 24 t)) ∧ (∃ t, ClX.CVal K A.C_House mc "MOST_GATES" (.int 4) (.int 4 t)) ∧ (∃ t, ClX.CVal K A.C_House mc "MOST_CELLS" (.int 48) (.int 48 t)) ∧ (∃ t, ClX.CVal K A.C_House mc "MOST_STAKE" (.int 60) (.int 60 t))
  cl_Watch : Cls K A.C_Watch
  mk_Watch : Mk K A.C_Watch A.f_Watch_init
  na_Watch_house : NoAttr K A.C_Watch "house"
  na_Watch_rows : NoAttr K A.C_Watch "_rows"
  op_Watch : Ops K A.C_Watch
  D_Watch_lshift : Meth K A.C_Watch (PySem.dunder "lshift") A.f_Watch_lshift
  D_Watch_mul : Meth K A.C_Watch (PySem.dunder "mul") A.f_Watch_mul
  I_Watch_lshift : IntOp K A.C_Watch "lshift"
  I_Watch_mul : IntOp K A.C_Watch "mul"
  ty_Watch : ∀ (H : Hp) (a dx : Addr) (fs : List (Str × V)), H a = some (.ins A.C_Watch dx fs) → TyX K H (.ref a) (.ref A.C_Watch)
  rd_Watch : ∃ mc, ClX.CRead K A.C_Watch mc ∧ (∃ t, ClX.CVal K A.C_Watch mc "MOST" (.int 96) (.int 96 t))
  M_House_len : Meth K A.C_House "__len__" A.f_House_len
  P_Watch_rows : PropOf K A.C_Watch "rows" A.p_Watch_rows A.f_Watch_rows
  M_Watch_lshift : Meth K A.C_Watch "__lshift__" A.f_Watch_lshift
  M_Watch_mul : Meth K A.C_Watch "__mul__" A.f_Watch_mul
  M_Watch_neg : Meth K A.C_Watch "__neg__" A.f_Watch_neg
section
variable {P : Program} {w : World} {K : PySem.W.Frag} {mg : Str → Option Value} {base : Heap} {A : Ads}
theorem sc_BadNumber_init : FnScope N_BadNumber_init (["self", "name", "value"] : List Str) (defScope s_BadNumber_init) := ⟨rfl, rfl, rfl, by decide +kernel, rfl, by decide +kernel, by decide +kernel⟩
theorem b_BadNumber_init (T : Txt K mg A) : Binds K A.d_BadNumber_init (["self", "name", "value"] : List Str) [] := T.F_BadNumber_init.binds (ps := (["self", "name", "value"] : List Str)) fun _ _ _ _ _ _ us hl => match us, hl with | [_, _, _], _ => rfl
theorem sc_TooMany_init : FnScope N_TooMany_init (["self", "name", "most"] : List Str) (defScope s_TooMany_init) := ⟨rfl, rfl, rfl, by decide +kernel, rfl, by decide +kernel, by decide +kernel⟩
theorem b_TooMany_init (T : Txt K mg A) : Binds K A.d_TooMany_init (["self", "name", "most"] : List Str) [] := T.F_TooMany_init.binds (ps := (["self", "name", "most"] : List Str)) fun _ _ _ _ _ _ us hl => match us, hl with | [_, _, _], _ => rfl
theorem sc_SharedFactor_init : FnScope N_SharedFactor_init (["self", "factor"] : List Str) (defScope s_SharedFactor_init) := ⟨rfl, rfl, rfl, by decide +kernel, rfl, by decide +kernel, by decide +kernel⟩
theorem b_SharedFactor_init (T : Txt K mg A) : Binds K A.d_SharedFactor_init (["self", "factor"] : List Str) [] := T.F_SharedFactor_init.binds (ps := (["self", "factor"] : List Str)) fun _ _ _ _ _ _ us hl => match us, hl with | [_, _], _ => rfl
theorem sc_WrongLength_init : FnScope N_WrongLength_init (["self", "length"] : List Str) (defScope s_WrongLength_init) := ⟨rfl, rfl, rfl, by decide +kernel, rfl, by decide +kernel, by decide +kernel⟩
theorem b_WrongLength_init (T : Txt K mg A) : Binds K A.d_WrongLength_init (["self", "length"] : List Str) [] := T.F_WrongLength_init.binds (ps := (["self", "length"] : List Str)) fun _ _ _ _ _ _ us hl => match us, hl with | [_, _], _ => rfl
theorem sc_BadName_init : FnScope N_BadName_init (["self", "name"] : List Str) (defScope s_BadName_init) := ⟨rfl, rfl, rfl, by decide +kernel, rfl, by decide +kernel, by decide +kernel⟩
theorem b_BadName_init (T : Txt K mg A) : Binds K A.d_BadName_init (["self", "name"] : List Str) [] := T.F_BadName_init.binds (ps := (["self", "name"] : List Str)) fun _ _ _ _ _ _ us hl => match us, hl with | [_, _], _ => rfl
theorem sc_RepeatedName_init : FnScope N_RepeatedName_init (["self", "name"] : List Str) (defScope s_RepeatedName_init) := ⟨rfl, rfl, rfl, by decide +kernel, rfl, by decide +kernel, by decide +kernel⟩
theorem b_RepeatedName_init (T : Txt K mg A) : Binds K A.d_RepeatedName_init (["self", "name"] : List Str) [] := T.F_RepeatedName_init.binds (ps := (["self", "name"] : List Str)) fun _ _ _ _ _ _ us hl => match us, hl with | [_, _], _ => rfl
theorem sc_check_name : FnScope N_check_name (["name"] : List Str) (defScope s_check_name) := ⟨rfl, rfl, rfl, by decide +kernel, rfl, by decide +kernel, by decide +kernel⟩
theorem b_check_name (T : Txt K mg A) : Binds K A.d_check_name (["name"] : List Str) [] := T.F_check_name.binds (ps := (["name"] : List Str)) fun _ _ _ _ _ _ us hl => match us, hl with | [_], _ => rfl
theorem sc_check_new_name : FnScope N_check_new_name (["name", "names"] : List Str) (defScope s_check_new_name) := ⟨rfl, rfl, rfl, by decide +kernel, rfl, by decide +kernel, by decide +kernel⟩
theorem b_check_new_name (T : Txt K mg A) : Binds K A.d_check_new_name (["name", "names"] : List Str) [] := T.F_check_new_name.binds (ps := (["name", "names"] : List Str)) fun _ _ _ _ _ _ us hl => match us, hl with | [_, _], _ => rfl
theorem sc_House_init : FnScope N_House_init (["self", "hours", "gates"] : List Str) (defScope s_House_init) := ⟨rfl, rfl, rfl, by decide +kernel, rfl, by decide +kernel, by decide +kernel⟩
theorem b_House_init (T : Txt K mg A) : Binds K A.d_House_init (["self", "hours", "gates"] : List Str) [] := T.F_House_init.binds (ps := (["self", "hours", "gates"] : List Str)) fun _ _ _ _ _ _ us hl => match us, hl with | [_, _, _], _ => rfl
theorem sc_House_len : FnScope N_House_len (["self"] : List Str) (defScope s_House_len) := ⟨rfl, rfl, rfl, by decide +kernel, rfl, by decide +kernel, by decide +kernel⟩
theorem b_House_len (T : Txt K mg A) : Binds K A.d_House_len (["self"] : List Str) [] := T.F_House_len.binds (ps := (["self"] : List Str)) fun _ _ _ _ _ _ us hl => match us, hl with | [_], _ => rfl
theorem sc_is_gate : FnScope N_is_gate (["house", "gate"] : List Str) (defScope s_is_gate) := ⟨rfl, rfl, rfl, by decide +kernel, rfl, by decide +kernel, by decide +kernel⟩
theorem b_is_gate (T : Txt K mg A) : Binds K A.d_is_gate (["house", "gate"] : List Str) [] := T.F_is_gate.binds (ps := (["house", "gate"] : List Str)) fun _ _ _ _ _ _ us hl => match us, hl with | [_, _], _ => rfl
theorem sc_u_check_row : FnScope N_u_check_row (["house", "row"] : List Str) (defScope s_u_check_row) := ⟨rfl, rfl, rfl, by decide +kernel, rfl, by decide +kernel, by decide +kernel⟩
theorem b_u_check_row (T : Txt K mg A) : Binds K A.d_u_check_row (["house", "row"] : List Str) [] := T.F_u_check_row.binds (ps := (["house", "row"] : List Str)) fun _ _ _ _ _ _ us hl => match us, hl with | [_, _], _ => rfl
theorem sc_Watch_init : FnScope N_Watch_init (["self", "house", "rows"] : List Str) (defScope s_Watch_init) := ⟨rfl, rfl, rfl, by decide +kernel, rfl, by decide +kernel, by decide +kernel⟩
theorem b_Watch_init (T : Txt K mg A) : Binds K A.d_Watch_init (["self", "house", "rows"] : List Str) [] := T.F_Watch_init.binds (ps := (["self", "house", "rows"] : List Str)) fun _ _ _ _ _ _ us hl => match us, hl with | [_, _, _], _ => rfl
theorem sc_Watch_rows : FnScope N_Watch_rows (["self"] : List Str) (defScope s_Watch_rows) := ⟨rfl, rfl, rfl, by decide +kernel, rfl, by decide +kernel, by decide +kernel⟩
theorem b_Watch_rows (T : Txt K mg A) : Binds K A.d_Watch_rows (["self"] : List Str) [] := T.F_Watch_rows.binds (ps := (["self"] : List Str)) fun _ _ _ _ _ _ us hl => match us, hl with | [_], _ => rfl
theorem sc_Watch_lshift : FnScope N_Watch_lshift (["self", "other"] : List Str) (defScope s_Watch_lshift) := ⟨rfl, rfl, rfl, by decide +kernel, rfl, by decide +kernel, by decide +kernel⟩
theorem b_Watch_lshift (T : Txt K mg A) : Binds K A.d_Watch_lshift (["self", "other"] : List Str) [] := T.F_Watch_lshift.binds (ps := (["self", "other"] : List Str)) fun _ _ _ _ _ _ us hl => match us, hl with | [_, _], _ => rfl
theorem sc_Watch_mul : FnScope N_Watch_mul (["self", "other"] : List Str) (defScope s_Watch_mul) := ⟨rfl, rfl, rfl, by decide +kernel, rfl, by decide +kernel, by decide +kernel⟩
theorem b_Watch_mul (T : Txt K mg A) : Binds K A.d_Watch_mul (["self", "other"] : List Str) [] := T.F_Watch_mul.binds (ps := (["self", "other"] : List Str)) fun _ _ _ _ _ _ us hl => match us, hl with | [_, _], _ => rfl
theorem sc_Watch_neg : FnScope N_Watch_neg (["self"] : List Str) (defScope s_Watch_neg) := ⟨rfl, rfl, rfl, by decide +kernel, rfl, by decide +kernel, by decide +kernel⟩
theorem b_Watch_neg (T : Txt K mg A) : Binds K A.d_Watch_neg (["self"] : List Str) [] := T.F_Watch_neg.binds (ps := (["self"] : List Str)) fun _ _ _ _ _ _ us hl => match us, hl with | [_], _ => rfl
theorem sc_u_line : FnScope N_u_line (["name", "numbers"] : List Str) (defScope s_u_line) := ⟨rfl, rfl, rfl, by decide +kernel, rfl, by decide +kernel, by decide +kernel⟩
theorem b_u_line (T : Txt K mg A) : Binds K A.d_u_line (["name", "numbers"] : List Str) [] := T.F_u_line.binds (ps := (["name", "numbers"] : List Str)) fun _ _ _ _ _ _ us hl => match us, hl with | [_, _], _ => rfl
theorem sc_chart : FnScope N_chart (["watch"] : List Str) (defScope s_chart) := ⟨rfl, rfl, rfl, by decide +kernel, rfl, by decide +kernel, by decide +kernel⟩
theorem b_chart (T : Txt K mg A) : Binds K A.d_chart (["watch"] : List Str) [] := T.F_chart.binds (ps := (["watch"] : List Str)) fun _ _ _ _ _ _ us hl => match us, hl with | [_], _ => rfl
theorem sc_u_law_cell : FnScope N_u_law_cell (["script", "k"] : List Str) (defScope s_u_law_cell) := ⟨rfl, rfl, rfl, by decide +kernel, rfl, by decide +kernel, by decide +kernel⟩
theorem b_u_law_cell (T : Txt K mg A) : Binds K A.d_u_law_cell (["script", "k"] : List Str) [] := T.F_u_law_cell.binds (ps := (["script", "k"] : List Str)) fun _ _ _ _ _ _ us hl => match us, hl with | [_, _], _ => rfl
theorem sc_u_law_draws : FnScope N_u_law_draws (["cell", "salt", "menu"] : List Str) (defScope s_u_law_draws) := ⟨rfl, rfl, rfl, by decide +kernel, rfl, by decide +kernel, by decide +kernel⟩
theorem b_u_law_draws (T : Txt K mg A) : Binds K A.d_u_law_draws (["cell", "salt", "menu"] : List Str) [] := T.F_u_law_draws.binds (ps := (["cell", "salt", "menu"] : List Str)) fun _ _ _ _ _ _ us hl => match us, hl with | [_, _, _], _ => rfl
theorem sc_u_law_is_int : FnScope N_u_law_is_int (["x"] : List Str) (defScope s_u_law_is_int) := ⟨rfl, rfl, rfl, by decide +kernel, rfl, by decide +kernel, by decide +kernel⟩
theorem b_u_law_is_int (T : Txt K mg A) : Binds K A.d_u_law_is_int (["x"] : List Str) [] := T.F_u_law_is_int.binds (ps := (["x"] : List Str)) fun _ _ _ _ _ _ us hl => match us, hl with | [_], _ => rfl
theorem sc_u_law_same : FnScope N_u_law_same (["got", "due"] : List Str) (defScope s_u_law_same) := ⟨rfl, rfl, rfl, by decide +kernel, rfl, by decide +kernel, by decide +kernel⟩
theorem b_u_law_same (T : Txt K mg A) : Binds K A.d_u_law_same (["got", "due"] : List Str) [] := T.F_u_law_same.binds (ps := (["got", "due"] : List Str)) fun _ _ _ _ _ _ us hl => match us, hl with | [_, _], _ => rfl
theorem sc_u_law_rows : FnScope N_u_law_rows (["gates", "n", "numbers"] : List Str) (defScope s_u_law_rows) := ⟨rfl, rfl, rfl, by decide +kernel, rfl, by decide +kernel, by decide +kernel⟩
theorem b_u_law_rows (T : Txt K mg A) : Binds K A.d_u_law_rows (["gates", "n", "numbers"] : List Str) [] := T.F_u_law_rows.binds (ps := (["gates", "n", "numbers"] : List Str)) fun _ _ _ _ _ _ us hl => match us, hl with | [_, _, _], _ => rfl
theorem sc_u_law_drawn_names : FnScope N_u_law_drawn_names (["script", "count", "wide"] : List Str) (defScope s_u_law_drawn_names) := ⟨rfl, rfl, rfl, by decide +kernel, rfl, by decide +kernel, by decide +kernel⟩
theorem b_u_law_drawn_names (T : Txt K mg A) : Binds K A.d_u_law_drawn_names (["script", "count", "wide"] : List Str) [] := T.F_u_law_drawn_names.binds (ps := (["script", "count", "wide"] : List Str)) fun _ _ _ _ _ _ us hl => match us, hl with | [_, _, _], _ => rfl
theorem sc_u_law_filled : FnScope N_u_law_filled (["text", "width", "ahead"] : List Str) (defScope s_u_law_filled) := ⟨rfl, rfl, rfl, by decide +kernel, rfl, by decide +kernel, by decide +kernel⟩
theorem b_u_law_filled (T : Txt K mg A) : Binds K A.d_u_law_filled (["text", "width", "ahead"] : List Str) [] := T.F_u_law_filled.binds (ps := (["text", "width", "ahead"] : List Str)) fun _ _ _ _ _ _ us hl => match us, hl with | [_, _, _], _ => rfl
theorem sc_u_law_line : FnScope N_u_law_line (["word", "numbers"] : List Str) (defScope s_u_law_line) := ⟨rfl, rfl, rfl, by decide +kernel, rfl, by decide +kernel, by decide +kernel⟩
theorem b_u_law_line (T : Txt K mg A) : Binds K A.d_u_law_line (["word", "numbers"] : List Str) [] := T.F_u_law_line.binds (ps := (["word", "numbers"] : List Str)) fun _ _ _ _ _ _ us hl => match us, hl with | [_, _], _ => rfl
theorem sc_u_law_charted : FnScope N_u_law_charted (["watch", "names", "rows"] : List Str) (defScope s_u_law_charted) := ⟨rfl, rfl, rfl, by decide +kernel, rfl, by decide +kernel, by decide +kernel⟩
theorem b_u_law_charted (T : Txt K mg A) : Binds K A.d_u_law_charted (["watch", "names", "rows"] : List Str) [] := T.F_u_law_charted.binds (ps := (["watch", "names", "rows"] : List Str)) fun _ _ _ _ _ _ us hl => match us, hl with | [_, _, _], _ => rfl
theorem sc_law : FnScope N_law (["script"] : List Str) (defScope s_law) := ⟨rfl, rfl, rfl, by decide +kernel, rfl, by decide +kernel, by decide +kernel⟩
theorem b_law (T : Txt K mg A) : Binds K A.d_law (["script"] : List Str) [] := T.F_law.binds (ps := (["script"] : List Str)) fun _ _ _ _ _ _ us hl => match us, hl with | [_], _ => rfl
theorem ok_BadNumber_init (T : Txt K mg A) : FnOk P w K mg base CX0 1 A.f_BadNumber_init A.d_BadNumber_init (["self", "name", "value"] : List Str) (spErr2 K A.C_BadNumber "name" "value") := by
  refine T.F_BadNumber_init.ok sc_BadNumber_init (fun vs H Q E h => ?_) (fun cdv Ar outer s H vs Q E hr h => ?_)
  · obtain ⟨a, x, y, rfl, _⟩ := h
    rfl
  · obtain ⟨a, x, y, rfl, hC, ha, k⟩ := h
    refine ⟨_, (pss_cons (ps_ost (pv 0) (pv 1))
        (pss_one (ps_ost (pv 0) (pv 2)))), ?_⟩
    refine ⟨_, rfl, _, rfl, a, _, rfl, hC, T.nf_BadNumber_name, .inl ⟨ha, fun d hd hne => ?_⟩⟩
    refine ⟨_, rfl, _, rfl, a, _, rfl, hC, T.nf_BadNumber_value, .inr ⟨d, _, upd_same, ?_, by show (1 : Nat) ≤ 900; decide, k d hd hne⟩⟩
    rw [upd_ne hne, upd_same]
theorem ok_TooMany_init (T : Txt K mg A) : FnOk P w K mg base CX0 1 A.f_TooMany_init A.d_TooMany_init (["self", "name", "most"] : List Str) (spErr2 K A.C_TooMany "name" "most") := by
  refine T.F_TooMany_init.ok sc_TooMany_init (fun vs H Q E h => ?_) (fun cdv Ar outer s H vs Q E hr h => ?_)
  · obtain ⟨a, x, y, rfl, _⟩ := h
    rfl
  · obtain ⟨a, x, y, rfl, hC, ha, k⟩ := h
    refine ⟨_, (pss_cons (ps_ost (pv 0) (pv 1))
        (pss_one (ps_ost (pv 0) (pv 2)))), ?_⟩
    refine ⟨_, rfl, _, rfl, a, _, rfl, hC, T.nf_TooMany_name, .inl ⟨ha, fun d hd hne => ?_⟩⟩
    refine ⟨_, rfl, _, rfl, a, _, rfl, hC, T.nf_TooMany_most, .inr ⟨d, _, upd_same, ?_, by show (1 : Nat) ≤ 900; decide, k d hd hne⟩⟩
    rw [upd_ne hne, upd_same]
theorem ok_SharedFactor_init (T : Txt K mg A) : FnOk P w K mg base CX0 1 A.f_SharedFactor_init A.d_SharedFactor_init (["self", "factor"] : List Str) (spErr1 K A.C_SharedFactor "factor") := by
  refine T.F_SharedFactor_init.ok sc_SharedFactor_init (fun vs H Q E h => ?_) (fun cdv Ar outer s H vs Q E hr h => ?_)
  · obtain ⟨a, x, rfl, _⟩ := h
    rfl
  · obtain ⟨a, x, rfl, hC, ha, k⟩ := h
    refine ⟨_, (pss_one (ps_ost (pv 0) (pv 1))), ?_⟩
    exact ⟨_, rfl, _, rfl, a, _, rfl, hC, T.nf_SharedFactor_factor, .inl ⟨ha, fun d hd hne => k d hd hne⟩⟩
theorem ok_WrongLength_init (T : Txt K mg A) : FnOk P w K mg base CX0 1 A.f_WrongLength_init A.d_WrongLength_init (["self", "length"] : List Str) (spErr1 K A.C_WrongLength "length") := by
  refine T.F_WrongLength_init.ok sc_WrongLength_init (fun vs H Q E h => ?_) (fun cdv Ar outer s H vs Q E hr h => ?_)
  · obtain ⟨a, x, rfl, _⟩ := h
    rfl
  · obtain ⟨a, x, rfl, hC, ha, k⟩ := h
    refine ⟨_, (pss_one (ps_ost (pv 0) (pv 1))), ?_⟩
    exact ⟨_, rfl, _, rfl, a, _, rfl, hC, T.nf_WrongLength_length, .inl ⟨ha, fun d hd hne => k d hd hne⟩⟩
theorem ok_BadName_init (T : Txt K mg A) : FnOk P w K mg base CX0 1 A.f_BadName_init A.d_BadName_init (["self", "name"] : List Str) (spErr1 K A.C_BadName "name") := by
  refine T.F_BadName_init.ok sc_BadName_init (fun vs H Q E h => ?_) (fun cdv Ar outer s H vs Q E hr h => ?_)
  · obtain ⟨a, x, rfl, _⟩ := h
    rfl
  · obtain ⟨a, x, rfl, hC, ha, k⟩ := h
    refine ⟨_, (pss_one (ps_ost (pv 0) (pv 1))), ?_⟩
    exact ⟨_, rfl, _, rfl, a, _, rfl, hC, T.nf_BadName_name, .inl ⟨ha, fun d hd hne => k d hd hne⟩⟩
theorem ok_RepeatedName_init (T : Txt K mg A) : FnOk P w K mg base CX0 1 A.f_RepeatedName_init A.d_RepeatedName_init (["self", "name"] : List Str) (spErr1 K A.C_RepeatedName "name") := by
  refine T.F_RepeatedName_init.ok sc_RepeatedName_init (fun vs H Q E h => ?_) (fun cdv Ar outer s H vs Q E hr h => ?_)
  · obtain ⟨a, x, rfl, _⟩ := h
    rfl
  · obtain ⟨a, x, rfl, hC, ha, k⟩ := h
    refine ⟨_, (pss_one (ps_ost (pv 0) (pv 1))), ?_⟩
    exact ⟨_, rfl, _, rfl, a, _, rfl, hC, T.nf_RepeatedName_name, .inl ⟨ha, fun d hd hne => k d hd hne⟩⟩

def BadName (A : Ads) (z : Str) (H : Hp) (E : XK) : Prop := ∀ d H', Ex H H' → H' d = some (.xd [("name", .str z)]) → E (.ref A.C_BadName) (some d) H'
def spChkName (A : Ads) : Sp := fun vs H Q E => ∃ z : Str, vs = [.str z] ∧ z.length ≤ 100000 ∧ (goodName z = false → BadName A z H E) ∧ (goodName z = true → ∀ H', Ex H H' → Q .non H')
theorem ok_check_name (T : Txt K mg A) : FnOk P w K mg base (L2.CX P w) 4 A.f_check_name A.d_check_name (["name"] : List Str) (spChkName A) := by
  refine T.F_check_name.okX sc_check_name (fun vs H Q E h => ?_) (fun cdv Ar outer s H vs Q E hr h => ?_)
  · obtain ⟨z, rfl, _⟩ := h
    rfl
  · obtain ⟨z, rfl, hz, k1, k2⟩ := h
    obtain ⟨tc_LONGEST_NAME, gc_LONGEST_NAME⟩ := T.c_LONGEST_NAME
    obtain ⟨tc_LETTERS, gc_LETTERS⟩ := T.c_LETTERS
    refine ⟨_, (pss_cons (ps_if (PW.pt (pw_or (pt_cmpR op_lt (pe_callB len_K (by rfl) T.z_len (by decide +kernel) (pa_cons (pv 0) pa_nil)) pe_int (nomark _)) (pw_or1 (pt_cmpR op_gt (pe_callB len_K (by rfl) T.z_len (by decide +kernel) (pa_cons (pv 0) pa_nil)) (pe_glob (v := .int 8) rfl gc_LONGEST_NAME ⟨_, rfl⟩) (nomark _))))) (pss_one (ps_raise rfl (takes_of rfl rfl rfl rfl) (pmk_oex T.ox_BadName T.ni_BadName T.ti_BadName (ok_BadName_init T) (hr.mono (by omega)) (b_BadName_init T) .nil pass0 rfl T.g_BadName (pa_cons (pv 0) pa_nil)))) pss_nil)
        (pss_one (ps_for (passes_of rfl) rfl (pi_str (pv 0)) (pg_name (i := 1) sc_check_name.nd rfl (Or.inl rfl)) (pss_one (ps_if (pt_cmpR op_notIn_sign (pv 1) (pe_glob (v := .str "abcdefghijklmnopqrstuvwxyz") rfl gc_LETTERS ⟨_, rfl⟩) (by with_unfolding_all rfl)) (pss_one (ps_raise rfl (takes_of rfl rfl rfl rfl) (pmk_oex T.ox_BadName T.ni_BadName T.ti_BadName (ok_BadName_init T) (hr.mono (by omega)) (b_BadName_init T) .nil pass0 rfl T.g_BadName (pa_cons (pv 0) pa_nil)))) pss_nil))))), ?_⟩
    have ra : ∀ {σ : L2.St} {G : Hp}, σ[0]? = some (some (.str z)) → Ex H G → goodName z = false → tMkO A.C_BadName (spErr1 K A.C_BadName "name") [] (tCons (tVar 0) tNil) σ G E := fun h0 e hb => raise1 (C := A.C_BadName) (f := "name") (x := .str z) T.ox_BadName (fun Q q => ⟨_, h0, q⟩) (fun d H' e' hd => k1 hb d H' (e.trans e') hd)
    try dsimp only
    refine q_when (b := decide (((z.length : Nat) : Int) < 1) || decide (8 < ((z.length : Nat) : Int))) (et_or (et_test (ev_op (ev_lenS (K := K) (ev_var (i := 0) rfl) hz) ev_c rv_I0)) fun _ => et_test (ev_op (ev_lenS (K := K) (ev_var (i := 0) rfl) hz) ev_c rv_I0)) (fun h H1 e1 => ?_) (fun h H1 e1 => ?_)
    · refine ra rfl e1 ?_
      unfold goodName
      rw [Bool.or_eq_true, decide_eq_true_iff, decide_eq_true_iff] at h
      rw [decide_eq_false (by omega)]
      rfl
    have hl : 1 ≤ z.length ∧ z.length ≤ 8 := by
      rw [Bool.or_eq_false_iff, decide_eq_false_iff_not, decide_eq_false_iff_not] at h
      omega
    try dsimp only
    refine s_forI (ei_str (ev_var (i := 0) rfl)) fun H2 e2 => ⟨fun i σ' G => (∃ lv : Option V, σ' = [some (.str z), lv]) ∧ Ex H2 G ∧ ∀ j, j < i → ∀ c, z.cps[j]? = some c → c ∈ LET.cps.toList, ⟨⟨none, rfl⟩, Ex.refl _, fun j hj => absurd hj (Nat.not_lt_zero _)⟩, fun i σ' G _ p => p.2.1, ?_, ?_⟩
    · rintro i x σ' G G' hi ⟨⟨lv, rfl⟩, eG, hall⟩ ⟨rfl, c, hc, rfl⟩
      have e12 := (e1.trans e2).trans eG
      dsimp only [gName]
      refine s_when (b := !decide (c ∈ LET.cps.toList)) (et_test (ev_op (ev_var (i := 1) rfl) ev_c rv_niS)) (fun h G1 g1 => ?_) (fun h G1 g1 => ⟨⟨_, rfl⟩, eG.trans g1, fun j hj d hd => ?_⟩)
      · refine ra rfl (e12.trans g1) ?_
        unfold goodName
        rw [Bool.and_eq_false_iff]
        refine .inr (List.all_eq_false.mpr ⟨c, ?_, by simpa using h⟩)
        exact List.mem_of_getElem? (i := i) (by simpa using hc)
      · by_cases c' : j < i
        · exact hall j c' d hd
        · have : j = i := by omega
          subst this
          rw [hc] at hd
          cases hd
          simpa using h
    rintro σ' G ⟨⟨lv, rfl⟩, eG, hall⟩
    refine k2 ?_ G ((e1.trans e2).trans eG)
    unfold goodName
    rw [Bool.and_eq_true, decide_eq_true_iff, List.all_eq_true]
    refine ⟨hl, fun c hc => decide_eq_true ?_⟩
    obtain ⟨j, hj⟩ := List.getElem?_of_mem hc
    have hj' : z.cps[j]? = some c := by simpa using hj
    exact hall j (by have := (List.getElem?_eq_some_iff.mp hj).1; simpa using this) c hj' 

def Again (A : Ads) (z : Str) (H : Hp) (E : XK) : Prop := ∀ d H', Ex H H' → H' d = some (.xd [("name", .str z)]) → E (.ref A.C_RepeatedName) (some d) H'
def spChkNew (K : PySem.W.Frag) (A : Ads) : Sp := fun vs H Q E => ∃ (z : Str) (p : Addr) (ns : List Str), vs = [.str z, .ref p] ∧ z.length ≤ 100000 ∧ SqL K H p (ns.map V.str) ∧ (goodName z = false → BadName A z H E) ∧ (goodName z = true → z ∈ ns → Again A z H E) ∧ (goodName z = true → z ∉ ns → ∀ H', Ex H H' → Q .non H')
theorem ok_check_new_name (T : Txt K mg A) : FnOk P w K mg base (L2.CX P w) 5 A.f_check_new_name A.d_check_new_name (["name", "names"] : List Str) (spChkNew K A) := by
  refine T.F_check_new_name.okX sc_check_new_name (fun vs H Q E h => ?_) (fun cdv Ar outer s H vs Q E hr h => ?_)
  · obtain ⟨z, p, ns, rfl, _⟩ := h
    rfl
  · obtain ⟨z, p, ns, rfl, hz, hp, k1, k2, k3⟩ := h
    refine ⟨_, (pss_cons (ps_expr (pe_call (ok_check_name T) (hr.mono (by omega)) rfl T.g_check_name T.k_check_name (b_check_name T) .nil (passes_call (takes_of rfl rfl rfl rfl) (fun _ _ _ _ h => h)) (pa_cons (pv 0) pa_nil)))
        (pss_one (ps_if (pt_cmpR in_K (pv 0) (pv 1) (by with_unfolding_all rfl)) (pss_one (ps_raise rfl (takes_of rfl rfl rfl rfl) (pmk_oex T.ox_RepeatedName T.ni_RepeatedName T.ti_RepeatedName (ok_RepeatedName_init T) (hr.mono (by omega)) (b_RepeatedName_init T) .nil pass0 rfl T.g_RepeatedName (pa_cons (pv 0) pa_nil)))) pss_nil))), ?_⟩
    refine ⟨_, rfl, z, rfl, hz, k1, fun hg H1 e1 => ?_⟩
    try dsimp only
    refine s_when (b := decide (z ∈ ns)) (et_test (ev_is (ev_op (ev_var (i := 0) rfl) (ev_var (i := 1) rfl) (rv_inL (neg := false) (ex_l e1 hp) rfl (strs_flat ns))) (by rw [← inV_strs]; rfl))) (fun h H2 e2 => ?_) (fun h H2 e2 => k3 hg (of_decide_eq_false h) H2 (e1.trans e2))
    exact raise1 (C := A.C_RepeatedName) (f := "name") (x := .str z) T.ox_RepeatedName (fun Q q => ⟨_, rfl, q⟩) (fun d H' e' hd => k2 hg (of_decide_eq_true h) d H' ((e1.trans e2).trans e') hd)

theorem putF3 {y z u : V} : putF "stakes" u (putF "names" z (putF "hours" y [])) = [(("hours" : Str), y), (("names" : Str), z), (("stakes" : Str), u)] := by
  have h1 : ¬ ("hours" : Str) = "names" := by decide +kernel
  have h2 : ¬ ("hours" : Str) = "stakes" := by decide +kernel
  have h3 : ¬ ("names" : Str) = "stakes" := by decide +kernel
  have e : putF "names" z (putF "hours" y []) = [(("hours" : Str), y), (("names" : Str), z)] := by
    show (if ("hours" : Str) = "names" then _ else (("hours" : Str), y) :: putF "names" z []) = _
    rw [if_neg h1]
    rfl
  rw [e]
  show (if ("hours" : Str) = "stakes" then _ else (("hours" : Str), y) :: (if ("names" : Str) = "stakes" then _ else (("names" : Str), z) :: putF "stakes" u [])) = _
  rw [if_neg h2, if_neg h3]
  rfl
theorem he_scan {n : Int} {gs : List (Str × Int)} {e : HErr} (h1 : ¬ (n < 1 ∨ 24 < n)) (h2 : ¬ gs.length = 0) (h3 : ¬ 4 < gs.length) (hs : scanG [] gs = some e) : houseErr n gs = some e := by
  unfold houseErr
  rw [if_neg h1, if_neg h2, if_neg h3, hs]
def HE (A : Ads) (n : Int) (H : Hp) (E : XK) : HErr → Prop
  | .hours => ∀ d H', Ex H H' → H' d = some (.xd [("value", .int n), ("name", .str "hours")]) → E (.ref A.C_BadNumber) (some d) H'
  | .noGates => ∀ d H', Ex H H' → H' d = some (.xd [("value", .int 0), ("name", .str "gates")]) → E (.ref A.C_BadNumber) (some d) H'
  | .manyGates => ∀ d H', Ex H H' → H' d = some (.xd [("most", .int 4), ("name", .str "gates")]) → E (.ref A.C_TooMany) (some d) H'
  | .name z => BadName A z H E
  | .again z => Again A z H E
  | .stake s => ∀ d H', Ex H H' → H' d = some (.xd [("value", .int s), ("name", .str "stake")]) → E (.ref A.C_BadNumber) (some d) H'
  | .cells => ∀ d H', Ex H H' → H' d = some (.xd [("most", .int 48), ("name", .str "cells")]) → E (.ref A.C_TooMany) (some d) H'
def spHouse (K : PySem.W.Frag) (A : Ads) : Sp := fun vs H Q E => ∃ (x dx p : Addr) (n : Int) (gs : List (Str × Int)), vs = [.ref x, .int n, .ref p] ∧ H x = some (.ins A.C_House dx []) ∧ Gates K H p gs ∧ gs.length ≤ 100 ∧ (∀ g ∈ gs, g.1.length ≤ 100000) ∧ (∀ e, houseErr n gs = some e → HE A n H E e) ∧
  (houseErr n gs = none → ∀ q r H', (∀ b o, b ≠ x → H b = some o → H' b = some o) → H q = none → H r = none → H' x = some (.ins A.C_House dx (houF n q r)) → H' q = some (.tup ((gs.map (·.1)).map V.str)) → H' r = some (.tup ((gs.map (·.2)).map V.int)) → Q .non H')
theorem ok_House_init (T : Txt K mg A) : FnOk P w K mg base (L2.CX P w) 6 A.f_House_init A.d_House_init (["self", "hours", "gates"] : List Str) (spHouse K A) := by
  refine T.F_House_init.okX sc_House_init (fun vs H Q E h => ?_) (fun cdv Ar outer s H vs Q E hr h => ?_)
  · obtain ⟨x, dx, p, n, gs, rfl, _⟩ := h
    rfl
  · obtain ⟨x, dx, p, n, gs, rfl, hx, hG, hgl, hgz, k1, k2⟩ := h
    refine ⟨_, (pss_cons (ps_if (PW.pt (pw_or (pt_cmpR op_lt (pv 1) pe_int (nomark _)) (pw_or1 (pt_cmpR op_gt (pv 1) (ClX.pe_cval (pe_glob (v := .ref A.C_House) rfl T.g_House rfl)) (nomark _))))) (pss_one (ps_raise rfl (takes_of rfl rfl rfl rfl) (pmk_oex T.ox_BadNumber T.ni_BadNumber T.ti_BadNumber (ok_BadNumber_init T) (hr.mono (by omega)) (b_BadNumber_init T) .nil pass0 rfl T.g_BadNumber (pa_cons pe_str (pa_cons (pv 1) pa_nil))))) pss_nil)
        (pss_cons (ps_if (pt_cmpR op_eq (pe_callB len_K (by rfl) T.z_len (by decide +kernel) (pa_cons (pv 2) pa_nil)) pe_int (nomark _)) (pss_one (ps_raise rfl (takes_of rfl rfl rfl rfl) (pmk_oex T.ox_BadNumber T.ni_BadNumber T.ti_BadNumber (ok_BadNumber_init T) (hr.mono (by omega)) (b_BadNumber_init T) .nil pass0 rfl T.g_BadNumber (pa_cons pe_str (pa_cons pe_int pa_nil))))) pss_nil)
        (pss_cons (ps_if (pt_cmpR op_gt (pe_callB len_K (by rfl) T.z_len (by decide +kernel) (pa_cons (pv 2) pa_nil)) (ClX.pe_cval (pe_glob (v := .ref A.C_House) rfl T.g_House rfl)) (nomark _)) (pss_one (ps_raise rfl (takes_of rfl rfl rfl rfl) (pmk_oex T.ox_TooMany T.ni_TooMany T.ti_TooMany (ok_TooMany_init T) (hr.mono (by omega)) (b_TooMany_init T) .nil pass0 rfl T.g_TooMany (pa_cons pe_str (pa_cons (ClX.pe_cval (pe_glob (v := .ref A.C_House) rfl T.g_House rfl)) pa_nil))))) pss_nil)
        (pss_cons (ps_set (i := 3) sc_House_init.nd rfl (Or.inl rfl) (pe_lst pa_nil))
        (pss_cons (ps_set (i := 4) sc_House_init.nd rfl (Or.inl rfl) (pe_lst pa_nil))
        (pss_cons (ps_for (passes_of rfl) rfl (pi_listK (pv 2)) (pg_tup rfl (pgs_cons (pg_name (i := 5) sc_House_init.nd rfl (Or.inl rfl)) (pgs_cons (pg_name (i := 6) sc_House_init.nd rfl (Or.inl rfl)) pgs_nil))) (pss_cons (ps_expr (pe_call (ok_check_new_name T) (hr.mono (by omega)) rfl T.g_check_new_name T.k_check_new_name (b_check_new_name T) .nil (passes_call (takes_of rfl rfl rfl rfl) (fun _ _ _ _ h => h)) (pa_cons (pv 5) (pa_cons (pv 3) pa_nil))))
        (pss_cons (ps_if (PW.pt (pw_or (pt_cmpR op_lt (pv 6) pe_int (nomark _)) (pw_or1 (pt_cmpR op_gt (pv 6) (ClX.pe_cval (pe_glob (v := .ref A.C_House) rfl T.g_House rfl)) (nomark _))))) (pss_one (ps_raise rfl (takes_of rfl rfl rfl rfl) (pmk_oex T.ox_BadNumber T.ni_BadNumber T.ti_BadNumber (ok_BadNumber_init T) (hr.mono (by omega)) (b_BadNumber_init T) .nil pass0 rfl T.g_BadNumber (pa_cons pe_str (pa_cons (pv 6) pa_nil))))) pss_nil)
        (pss_cons (ps_expr (pe_bm PySem.F.plainAttrs_list PySem.F.slot_list_append PySem.F.type_list_append mt_append (pv 3) (pa_cons (pv 5) pa_nil)))
        (pss_one (ps_expr (pe_bm PySem.F.plainAttrs_list PySem.F.slot_list_append PySem.F.type_list_append mt_append (pv 4) (pa_cons (pv 6) pa_nil))))))))
        (pss_cons (ps_if (pt_cmpR op_gt (pe_op op_mul (pv 1) (pe_callB len_K (by rfl) T.z_len (by decide +kernel) (pa_cons (pv 2) pa_nil))) (ClX.pe_cval (pe_glob (v := .ref A.C_House) rfl T.g_House rfl)) (nomark _)) (pss_one (ps_raise rfl (takes_of rfl rfl rfl rfl) (pmk_oex T.ox_TooMany T.ni_TooMany T.ti_TooMany (ok_TooMany_init T) (hr.mono (by omega)) (b_TooMany_init T) .nil pass0 rfl T.g_TooMany (pa_cons pe_str (pa_cons (ClX.pe_cval (pe_glob (v := .ref A.C_House) rfl T.g_House rfl)) pa_nil))))) pss_nil)
        (pss_cons (ps_fld (pv 0) (pv 1) rfl)
        (pss_cons (ps_fld (pv 0) (pe_callTy tup_K (by rfl) T.z_tuple (by decide +kernel) (pa_cons (pv 3) pa_nil)) rfl)
        (pss_one (ps_fld (pv 0) (pe_callTy tup_K (by rfl) T.z_tuple (by decide +kernel) (pa_cons (pv 4) pa_nil)) rfl))))))))))), ?_⟩
    obtain ⟨mc, rdH, ⟨t1, c1⟩, ⟨t2, c2⟩, ⟨t3, c3⟩, ⟨t4, c4⟩⟩ := T.rd_House
    obtain ⟨vs, hvs, hvl, hall⟩ := hG.all
    have lenP : ∀ {σ : L2.St} {G : Hp}, σ[2]? = some (some (.ref p)) → Ex H G → Ev (tCB (rLenK K) (tCons (tVar 2) tNil)) σ G (.int (gs.length : Int)) := fun h2 e => ev_cb (r := rLenK K) (ea_cons (ev_var h2) ea_nil) fun H2 e2 Q q => ⟨.ref p, gs.length, rfl, .inl ⟨vs, ex_l (e.trans e2) hvs, hvl.symm⟩, q H2 (Ex.refl H2)⟩
    have cst : ∀ {f : Str} {z : Int} {t : Tok} {G : Hp} {σ : L2.St}, ClX.CVal K A.C_House mc f (V.int z) (Value.int z t) → Ev (ClX.tCVal K (tC (V.ref A.C_House)) f) σ G (.int z) := fun c H1 e Q q => ⟨A.C_House, mc, _, _, rfl, rdH, c, q H1 (Ex.refl H1)⟩
    try dsimp only
    refine q_when (b := decide (n < 1) || decide (24 < n)) (et_or (et_test (ev_op (ev_var (i := 1) rfl) ev_c rv_I0)) fun _ => et_test (ev_op (ev_var (i := 1) rfl) (cst c1) rv_I0)) (fun h H1 e1 => ?_) (fun h H1 e1 => ?_)
    · rw [Bool.or_eq_true, decide_eq_true_iff, decide_eq_true_iff] at h
      exact raise2 (C := A.C_BadNumber) (f := "name") (g := "value") (x := .str "hours") (y := .int n) T.ox_BadNumber (fun Q q => ⟨_, rfl, q⟩) (fun d H' e' hd => k1 .hours (if_pos h) d H' (e1.trans e') hd)
    rw [Bool.or_eq_false_iff, decide_eq_false_iff_not, decide_eq_false_iff_not] at h
    have a1 : ¬ (n < 1 ∨ 24 < n) := by omega
    try dsimp only
    refine q_when (b := decide ((gs.length : Int) = 0)) (et_test (ev_is (ev_op (lenP rfl e1) ev_c (rv_eq rfl)) (by rw [dec_ii]))) (fun h H2 e2 => ?_) (fun h H2 e2 => ?_)
    · have h := of_decide_eq_true h
      exact raise2 (C := A.C_BadNumber) (f := "name") (g := "value") (x := .str "gates") (y := .int 0) T.ox_BadNumber (fun Q q => q) (fun d H' e' hd => k1 .noGates ((if_neg a1).trans (if_pos (by omega))) d H' ((e1.trans e2).trans e') hd)
    have a2 : ¬ gs.length = 0 := by have := of_decide_eq_false h; omega
    replace e2 := e1.trans e2
    try dsimp only
    refine q_when (b := decide (4 < (gs.length : Int))) (et_test (ev_op (lenP rfl e2) (cst c2) rv_I0)) (fun h H3 e3 => ?_) (fun h H3 e3 => ?_)
    · have h := of_decide_eq_true h
      exact raise2 (C := A.C_TooMany) (f := "name") (g := "most") (x := .str "gates") (y := .int 4) T.ox_TooMany (fun Q q => ⟨A.C_House, mc, _, _, rfl, rdH, c2, q⟩) (fun d H' e' hd => k1 .manyGates ((if_neg a1).trans ((if_neg a2).trans (if_pos (by omega)))) d H' ((e2.trans e3).trans e') hd)
    have a3 : ¬ 4 < gs.length := by have := of_decide_eq_false h; omega
    replace e3 := e2.trans e3
    try dsimp only
    refine q_asgL (xs := []) (el_lst ea_nil (by decide)) fun np H4 hnp e4 h4 => ?_
    try dsimp only
    refine q_asgL (xs := []) (el_lst ea_nil (by decide)) fun sp H5 hsp e5 h5 => ?_
    have hne : np ≠ sp := ne_of_none h4 hsp
    have e05 := (e3.trans e4).trans e5
    have np0 : H np = none := fresh_back e3 hnp
    have sp0 : H sp = none := fresh_back (e3.trans e4) hsp
    try dsimp only
    refine q_forL (K := K) (a := p) (xs := vs) (ev_var (i := 2) rfl) (ex_l e05 hvs) (fun i σ' G => ∃ nv sv : Option V, σ' = [some (.ref x), some (.int n), some (.ref p), some (.ref np), some (.ref sp), nv, sv] ∧ Ex H G ∧ G np = some (.lst (((gs.take i).map (·.1)).map V.str)) ∧ G sp = some (.lst (((gs.take i).map (·.2)).map V.int)) ∧ scanG [] gs = scanG ((gs.take i).map (·.1)) (gs.drop i))
      (fun H6 e6 => ⟨none, none, rfl, e05.trans e6, (e5.trans e6) _ _ h4, e6 _ _ h5, rfl⟩) (fun i σ' G _ ⟨_, _, _, e, _⟩ => ex_l e hvs) ?_ ?_
    · rintro i v σ' G hv ⟨nv, sv, rfl, eG, hn, hs, hsc⟩
      obtain ⟨t, rfl, hall'⟩ := hall i v hv
      have hi : i < gs.length := by have := (List.getElem?_eq_some_iff.mp hv).1; omega
      have hg : gs[i]? = some gs[i] := List.getElem?_eq_getElem hi
      have ht := ex_t eG (hall' _ hg)
      have hz := hgz _ (List.getElem_mem hi)
      rw [List.drop_eq_getElem_cons hi] at hsc
      have htk : gs.take (i + 1) = gs.take i ++ [gs[i]] := List.take_succ_eq_append_getElem hi
      generalize gs[i] = g at *
      obtain ⟨z, st⟩ := g
      refine ⟨t, _, rfl, ht, rfl, .str z, _, rfl, .int st, _, rfl, rfl, ?_⟩
      have fault : ∀ e, scanG ((gs.take i).map (·.1)) ((z, st) :: gs.drop (i + 1)) = some e → houseErr n gs = some e := fun e he => he_scan a1 a2 a3 (by rw [hsc, he])
      try dsimp only
      refine ⟨_, rfl, _, rfl, z, np, (gs.take i).map (·.1), rfl, hz, sq_of hn, fun hb d H' e' hd => ?_, fun hb hm d H' e' hd => ?_, fun hb hm G1 g1 => ?_⟩
      · exact k1 (.name z) (fault _ (if_pos hb)) d H' (eG.trans e') hd
      · exact k1 (.again z) (fault _ ((if_neg (by rw [hb]; simp)).trans (if_pos hm))) d H' (eG.trans e') hd
      have f1 : ¬ goodName z = false := by rw [hb]; simp
      try dsimp only
      refine q_when (b := decide (st < 0) || decide (60 < st)) (et_or (et_test (ev_op (ev_var (i := 6) rfl) ev_c rv_I0)) fun _ => et_test (ev_op (ev_var (i := 6) rfl) (cst c4) rv_I0)) (fun h G2 g2 => ?_) (fun h G2 g2 => ?_)
      · rw [Bool.or_eq_true, decide_eq_true_iff, decide_eq_true_iff] at h
        exact raise2 (C := A.C_BadNumber) (f := "name") (g := "value") (x := .str "stake") (y := .int st) T.ox_BadNumber (fun Q q => ⟨_, rfl, q⟩) (fun d H' e' hd => k1 (.stake st) (fault _ ((if_neg f1).trans ((if_neg hm).trans (if_pos h)))) d H' (eG.trans (g1.trans (g2.trans e'))) hd)
      rw [Bool.or_eq_false_iff, decide_eq_false_iff_not, decide_eq_false_iff_not] at h
      have g12 := g1.trans g2
      have sz : ∀ {α : Type} (f : Str × Int → α) (V' : α → V), (((gs.take i).map f).map V').length < 100000 := fun f V' => by rw [List.length_map, List.length_map, List.length_take]; omega
      try dsimp only
      refine q_app (g12 _ _ hn) (ev_var (i := 3) rfl) (ev_var (i := 5) rfl) (sz _ _) fun G3 g3 => ?_
      try dsimp only
      refine s_app (xs := ((gs.take i).map (·.2)).map V.int) (by rw [upd_ne (Ne.symm hne)]; exact (g12.trans g3) _ _ hs) (ev_var (i := 4) rfl) (ev_var (i := 6) rfl) (sz _ _) fun G4 g4 => ?_
      refine ⟨_, _, rfl, Ex.mut ((Ex.mut (eG.trans (g12.trans g3)) np0).trans g4) sp0, ?_, ?_, ?_⟩
      · rw [upd_ne hne, g4 _ _ upd_same, htk, List.map_append, List.map_append]
        rfl
      · rw [upd_same, htk, List.map_append, List.map_append]
        rfl
      · rw [hsc, htk, List.map_append]
        exact (if_neg f1).trans ((if_neg hm).trans (if_neg (by omega)))
    rintro σ' G ⟨nv, sv, rfl, eG, hn, hs, hsc⟩
    rw [hvl, List.take_length] at hn hs hsc
    rw [List.drop_length] at hsc
    have hsc : scanG [] gs = none := hsc
    try dsimp only
    refine q_when (b := decide (48 < n * (gs.length : Int))) (et_test (ev_op (ev_op (ev_var (i := 1) rfl) (lenP rfl eG) (rv_I (show CMul n (gs.length : Int) from .inl ⟨by omega, by omega⟩))) (cst c3) rv_I0)) (fun h H7 e7 => ?_) (fun h H7 e7 => ?_)
    · exact raise2 (C := A.C_TooMany) (f := "name") (g := "most") (x := .str "cells") (y := .int 48) T.ox_TooMany (fun Q q => ⟨A.C_House, mc, _, _, rfl, rdH, c3, q⟩) (fun d H' e' hd => k1 .cells (by
        unfold houseErr
        rw [if_neg a1, if_neg a2, if_neg a3, hsc]
        exact if_pos (of_decide_eq_true h)) d H' (eG.trans (e7.trans e')) hd)
    have hno : houseErr n gs = none := by
      unfold houseErr
      rw [if_neg a1, if_neg a2, if_neg a3, hsc]
      exact if_neg (of_decide_eq_false h)
    have e07 := eG.trans e7
    have hx7 := e07 _ _ hx
    have hn7 := e7 _ _ hn
    have hs7 := e7 _ _ hs
    have xnp : x ≠ np := fun z => by rw [z, np0] at hx; cases hx
    have xsp : x ≠ sp := fun z => by rw [z, sp0] at hx; cases hx
    refine ⟨_, rfl, _, rfl, x, _, dx, [], rfl, hx7, T.cl_House, T.na_House_hours, by decide, ?_⟩
    refine ⟨_, rfl, np, _, rfl, .inl ⟨SqL.of (by rw [upd_ne (Ne.symm xnp)]; exact hn7), fun q hq => ?_⟩⟩
    have xq : q ≠ x := fun z => by rw [z, upd_same] at hq; cases hq
    have hq7 : H7 q = none := by rw [upd_ne xq] at hq; exact hq
    refine ⟨_, rfl, x, _, dx, _, rfl, by rw [upd_ne (Ne.symm xq), upd_same], T.cl_House, T.na_House_names, by show 1 < 1000; decide, ?_⟩
    have spq : sp ≠ q := fun z => by rw [← z, hs7] at hq7; cases hq7
    refine ⟨_, rfl, sp, _, rfl, .inl ⟨SqL.of (by rw [upd_ne (Ne.symm xsp), upd_ne spq, upd_ne (Ne.symm xsp)]; exact hs7), fun r hr => ?_⟩⟩
    have xr : r ≠ x := fun z => by rw [z, upd_same] at hr; cases hr
    have rq : r ≠ q := fun z => by rw [z, upd_ne xq, upd_same] at hr; cases hr
    have hr7 : H7 r = none := by rw [upd_ne xr, upd_ne rq, upd_ne xr] at hr; exact hr
    refine ⟨_, rfl, x, _, dx, _, rfl, by rw [upd_ne (Ne.symm xr), upd_same], T.cl_House, T.na_House_stakes, by show 2 < 1000; decide, ?_⟩
    refine k2 hno q r _ (fun b o hb ho => ?_) (fresh_back e07 hq7) (fresh_back e07 hr7) ?_ ?_ ?_
    · have h7 := e07 _ _ ho
      rw [upd_ne hb, upd_ne (ne_of_none h7 hr7), upd_ne hb, upd_ne (ne_of_none h7 hq7), upd_ne hb]
      exact h7
    · rw [upd_same, putF3]
      rfl
    · rw [upd_ne xq, upd_ne (Ne.symm rq), upd_ne xq, upd_same]
    · rw [upd_ne xr, upd_same]

def spHLen (A : Ads) : Sp := fun vs H Q _ => ∃ (v : V) (n : Int) (gs : List (Str × Int)), vs = [v] ∧ HouseIs A.C_House v H n gs ∧ gs.length ≤ 100 ∧ ∀ H', Ex H H' → Q (.int (gs.length : Int)) H'
theorem ev_hnames {K : PySem.W.Frag} {C : Addr} {te : TE} {σ : L2.St} {H : Hp} {a dx p q : Addr} {n : Int} (h : Ev te σ H (.ref a)) (hi : H a = some (.ins C dx (houF n p q))) (c : Cls K C) (na : NoAttr K C "names") : Ev (tFld K te "names") σ H (.ref p) := fun H1 e Q q' =>
  h H1 e _ fun H2 e2 => ⟨a, _, dx, _, _, rfl, e2 _ _ (e _ _ hi), c, na, rfl, q' H2 e2⟩
theorem ev_hhours {K : PySem.W.Frag} {C : Addr} {te : TE} {σ : L2.St} {H : Hp} {a dx p q : Addr} {n : Int} (h : Ev te σ H (.ref a)) (hi : H a = some (.ins C dx (houF n p q))) (c : Cls K C) (na : NoAttr K C "hours") : Ev (tFld K te "hours") σ H (.int n) := fun H1 e Q q' =>
  h H1 e _ fun H2 e2 => ⟨a, _, dx, _, _, rfl, e2 _ _ (e _ _ hi), c, na, rfl, q' H2 e2⟩
theorem ev_hstakes {K : PySem.W.Frag} {C : Addr} {te : TE} {σ : L2.St} {H : Hp} {a dx p q : Addr} {n : Int} (h : Ev te σ H (.ref a)) (hi : H a = some (.ins C dx (houF n p q))) (c : Cls K C) (na : NoAttr K C "stakes") : Ev (tFld K te "stakes") σ H (.ref q) := fun H1 e Q q' =>
  h H1 e _ fun H2 e2 => ⟨a, _, dx, _, _, rfl, e2 _ _ (e _ _ hi), c, na, rfl, q' H2 e2⟩
theorem ok_House_len (T : Txt K mg A) : FnOk P w K mg base CX0 1 A.f_House_len A.d_House_len (["self"] : List Str) (spHLen A) := by
  refine T.F_House_len.ok sc_House_len (fun vs H Q E h => ?_) (fun cdv Ar outer s H vs Q E hr h => ?_)
  · obtain ⟨v, n, gs, rfl, _⟩ := h
    rfl
  · obtain ⟨v, n, gs, rfl, ⟨a, dx, p, q, rfl, h1, h2, h3⟩, hl, k⟩ := h
    refine ⟨_, (pss_one (ps_ret (pe_callB len_K (by rfl) T.z_len (by decide +kernel) (pa_cons (pe_fldK (pv 0) rfl) pa_nil)))), ?_⟩
    try dsimp only
    exact s_ret (v := .int (gs.length : Int)) (ev_cb (r := rLenK K) (ea_cons (ev_hnames (ev_var (i := 0) rfl) h1 T.cl_House T.na_House_names) ea_nil) fun H2 e2 Q q' => ⟨.ref p, gs.length, rfl, .inr ⟨_, st_of (e2 _ _ h2), by rw [List.length_map, List.length_map]⟩, q' H2 (Ex.refl H2)⟩) fun H1 e1 => k H1 e1

theorem ev_houseLen {A : Ads} {E : XK} {ta : TE} {σ : L2.St} {H : Hp} {v : V} {n : Int} {gs : List (Str × Int)} (ha : Ev ta σ H v) (hv : HouseIs A.C_House v H n gs) (hl : gs.length ≤ 100) : Ev (tCB (rOwnLen A.C_House (spHLen A) E) (tCons ta tNil)) σ H (.int (gs.length : Int)) := fun H1 e Q q =>
  ha H1 e _ fun H2 e2 => by
    have h2 := hv.ex (e.trans e2)
    obtain ⟨a, dx, p, q', rfl, h1, _⟩ := id h2
    exact ⟨a, dx, _, rfl, h1, .ref a, n, gs, rfl, h2, hl, fun H' e' => ⟨_, rfl, ⟨by omega, by omega⟩, q H' (e2.trans e')⟩⟩
def spIsGate (A : Ads) : Sp := fun vs H Q _ => ∃ (v : V) (n g : Int) (gs : List (Str × Int)), vs = [v, .int g] ∧ HouseIs A.C_House v H n gs ∧ gs.length ≤ 100 ∧ ∀ H', Ex H H' → Q (.bl (decide (0 ≤ g ∧ g < (gs.length : Int)))) H' 
theorem ok_is_gate (T : Txt K mg A) : FnOk P w K mg base CX0 3 A.f_is_gate A.d_is_gate (["house", "gate"] : List Str) (spIsGate A) := by
  refine T.F_is_gate.ok sc_is_gate (fun vs H Q E h => ?_) (fun cdv Ar outer s H vs Q E hr h => ?_)
  · obtain ⟨v, n, g, gs, rfl, _⟩ := h
    rfl
  · obtain ⟨v, n, g, gs, rfl, hv, hl, k⟩ := h
    refine ⟨_, (pss_one (ps_ret (pe_and (pe_cmpR op_ge (pv 1) pe_int (nomark _)) (pe_one (pe_cmpR op_lt (pv 1) (pe_callB (call_lenO (E := E0) T.M_House_len (ok_House_len T) (hr.mono (by omega)) (b_House_len T) (pAt pass0)) (by rfl) T.z_len (by decide +kernel) (pa_cons (pv 0) pa_nil)) (nomark _)))))), ?_⟩
    try dsimp only
    exact s_ret (v := .bl (decide (0 ≤ g ∧ g < (gs.length : Int)))) (ev_is (ev_andV (a := decide (0 ≤ g)) (b := decide (g < (gs.length : Int))) (ev_op (ev_var (i := 1) rfl) ev_c rv_I0) fun _ => ev_op (ev_var (i := 1) rfl) (ev_houseLen (ev_var (i := 0) rfl) hv hl) rv_I0) (by rw [Bool.decide_and])) fun H1 e1 => k H1 e1

def spChkRow (K : PySem.W.Frag) (A : Ads) : Sp := fun vs H Q _ => ∃ (v : V) (n : Int) (gs : List (Str × Int)) (p : Addr) (xs : List Int), vs = [v, .ref p] ∧ HouseIs A.C_House v H n gs ∧ SqL K H p (xs.map V.int) ∧ (xs.length : Int) = n ∧ (∀ x ∈ xs, 0 ≤ x ∧ x ≤ 96) ∧ ∀ H', Ex H H' → Q .non H' 
theorem ok_u_check_row (T : Txt K mg A) : FnOk P w K mg base (L2.CX P w) 5 A.f_u_check_row A.d_u_check_row (["house", "row"] : List Str) (spChkRow K A) := by
  refine T.F_u_check_row.okX sc_u_check_row (fun vs H Q E h => ?_) (fun cdv Ar outer s H vs Q E hr h => ?_)
  · obtain ⟨v, n, gs, p, xs, rfl, _⟩ := h
    rfl
  · obtain ⟨v, n, gs, p, xs, rfl, hv, hp, hl, hx, k⟩ := h
    refine ⟨_, (pss_cons (ps_if (pt_cmpR op_ne (pe_callB len_K (by rfl) T.z_len (by decide +kernel) (pa_cons (pv 1) pa_nil)) (pe_fldK (pv 0) rfl) (nomark _)) (pss_one (ps_raise rfl (takes_of rfl rfl rfl rfl) (pmk_oex T.ox_WrongLength T.ni_WrongLength T.ti_WrongLength (ok_WrongLength_init T) (hr.mono (by omega)) (b_WrongLength_init T) .nil pass0 rfl T.g_WrongLength (pa_cons (pe_callB len_K (by rfl) T.z_len (by decide +kernel) (pa_cons (pv 1) pa_nil)) pa_nil)))) pss_nil)
        (pss_one (ps_for (passes_of rfl) rfl (pi_listK (pv 1)) (pg_name (i := 2) sc_u_check_row.nd rfl (Or.inl rfl)) (pss_one (ps_if (PW.pt (pw_or (pt_cmpR op_lt (pv 2) pe_int (nomark _)) (pw_or1 (pt_cmpR op_gt (pv 2) (ClX.pe_cval (pe_glob (v := .ref A.C_Watch) rfl T.g_Watch rfl)) (nomark _))))) (pss_one (ps_raise rfl (takes_of rfl rfl rfl rfl) (pmk_oex T.ox_BadNumber T.ni_BadNumber T.ti_BadNumber (ok_BadNumber_init T) (hr.mono (by omega)) (b_BadNumber_init T) .nil pass0 rfl T.g_BadNumber (pa_cons pe_str (pa_cons (pv 2) pa_nil))))) pss_nil))))), ?_⟩
    obtain ⟨mc, rdW, ⟨t1, c1⟩⟩ := T.rd_Watch
    obtain ⟨a, dx, p1, q1, rfl, h1, _⟩ := id hv
    try dsimp only
    refine q_skip (et_test (ev_is (ev_op (ev_cb (r := rLenK K) (ea_cons (ev_var (i := 1) rfl) ea_nil) fun H2 e2 Q q => ⟨.ref p, xs.length, rfl, .inl ⟨_, ex_l e2 hp, (List.length_map _).symm⟩, q H2 (Ex.refl H2)⟩) (ev_hhours (ev_var (i := 0) rfl) h1 T.cl_House T.na_House_hours) (rv_ne rfl)) (by rw [dec_ii, decide_eq_true hl]; rfl))) fun H1 e1 => ?_
    try dsimp only
    refine s_forLn (K := K) (a := p) (xs := xs.map V.int) (j := 2) (ev_var (i := 1) rfl) (ex_l e1 hp) (fun i σ' G => ∃ v2 : Option V, σ' = [some (.ref a), some (.ref p), v2] ∧ Ex H G) (fun H2 e2 => ⟨_, rfl, e1.trans e2⟩) (fun i σ' G _ ⟨_, _, e⟩ => ex_l e hp) ?_ ?_
    · rintro i y σ' G hy ⟨v2, rfl, eG⟩
      obtain ⟨m, rfl, hm⟩ := some_int hy
      have hb := hx m (List.mem_of_getElem? hm)
      try dsimp only
      exact s_when (b := false) (et_orF (et_test (ev_is (ev_op (ev_var (i := 2) rfl) ev_c rv_I0) (by rw [decide_eq_false (by omega)]))) (et_test (ev_is (ev_op (ev_var (i := 2) rfl) (fun H1 e Q q => ⟨A.C_Watch, mc, _, _, rfl, rdW, c1, q H1 (Ex.refl H1)⟩) rv_I0) (by rw [decide_eq_false (by omega)])))) (fun z => Bool.noConfusion z) fun _ G1 g1 => ⟨_, rfl, eG.trans g1⟩
    rintro σ' G ⟨v2, rfl, eG⟩
    exact k G eG

theorem putW {y z : V} : putF "_rows" z (putF "house" y []) = watF y z := by
  have h1 : ¬ ("house" : Str) = "_rows" := by decide +kernel
  show (if ("house" : Str) = "_rows" then _ else (("house" : Str), y) :: putF "_rows" z []) = _
  rw [if_neg h1]
  rfl
def spWatch (K : PySem.W.Frag) (A : Ads) : Sp := fun vs H Q _ => ∃ (x dx : Addr) (v : V) (p : Addr) (n : Int) (gs : List (Str × Int)) (xss : List (List Int)), vs = [.ref x, v, .ref p] ∧ H x = some (.ins A.C_Watch dx []) ∧ HouseIs A.C_House v H n gs ∧ gs.length ≤ 100 ∧ RowsL K H p xss ∧ Shape n gs.length xss ∧
  ∀ w H', (∀ b o, b ≠ x → H b = some o → H' b = some o) → (∀ G : Hp, (∀ b o, b ≠ x → H b = none → H' b = some o → G b = some o) → RowsU w G xss) → H' x = some (.ins A.C_Watch dx (watF v w)) → Q .non H' 
theorem ok_Watch_init (T : Txt K mg A) : FnOk P w K mg base (L2.CX P w) 6 A.f_Watch_init A.d_Watch_init (["self", "house", "rows"] : List Str) (spWatch K A) := by
  refine T.F_Watch_init.okX sc_Watch_init (fun vs H Q E h => ?_) (fun cdv Ar outer s H vs Q E hr h => ?_)
  · obtain ⟨x, dx, v, p, n, gs, xss, rfl, _⟩ := h
    rfl
  · obtain ⟨x, dx, v, p, n, gs, xss, rfl, hx, hv, hl, hR, hS, k⟩ := h
    refine ⟨_, (pss_cons (ps_if (pt_cmpR op_ne (pe_callB len_K (by rfl) T.z_len (by decide +kernel) (pa_cons (pv 2) pa_nil)) (pe_callB (call_lenO (E := E0) T.M_House_len (ok_House_len T) (hr.mono (by omega)) (b_House_len T) (pAt pass0)) (by rfl) T.z_len (by decide +kernel) (pa_cons (pv 1) pa_nil)) (nomark _)) (pss_one (ps_raise rfl (takes_of rfl rfl rfl rfl) (pmk_oex T.ox_WrongLength T.ni_WrongLength T.ti_WrongLength (ok_WrongLength_init T) (hr.mono (by omega)) (b_WrongLength_init T) .nil pass0 rfl T.g_WrongLength (pa_cons (pe_callB len_K (by rfl) T.z_len (by decide +kernel) (pa_cons (pv 2) pa_nil)) pa_nil)))) pss_nil)
        (pss_cons (ps_for (passes_of rfl) rfl (pi_listK (pv 2)) (pg_name (i := 3) sc_Watch_init.nd rfl (Or.inl rfl)) (pss_one (ps_expr (pe_call (ok_u_check_row T) (hr.mono (by omega)) rfl T.g_u_check_row T.k_u_check_row (b_u_check_row T) .nil (passes_call (takes_of rfl rfl rfl rfl) (fun _ _ _ _ h => h)) (pa_cons (pv 1) (pa_cons (pv 3) pa_nil))))))
        (pss_cons (ps_fld (pv 0) (pv 1) rfl)
        (pss_one (ps_fld (pv 0) (pe_callTy tup_K (by rfl) T.z_tuple (by decide +kernel) (pa_cons (pe_lc (own := [("row", 3)]) (g := gName 3) (tt := tYes) rfl sc_Watch_init.nd (pi_listK (pv 2)) (blkOk_by (own := [("row", 3)]) (N := N_Watch_init) (sc := defScope s_Watch_init) (by decide +kernel)) (fun _ _ _ _ _ => (pg_name (i := 3) sc_Watch_init.nd rfl (Or.inl rfl))) (fun _ _ _ _ _ => pts_nil) (fun _ _ _ _ _ => (pe_callTy tup_K (by rfl) T.z_tuple (by decide +kernel) (pa_cons (pv 3) pa_nil)))) pa_nil)) rfl))))), ?_⟩
    obtain ⟨vs, hvs, hvl, hall⟩ := hR.all
    have hln := hS.len
    try dsimp only
    refine q_skip (et_test (ev_is (ev_op (ev_cb (r := rLenK K) (ea_cons (ev_var (i := 2) rfl) ea_nil) fun H2 e2 Q q => ⟨.ref p, vs.length, rfl, .inl ⟨_, ex_l e2 hvs, rfl⟩, q H2 (Ex.refl H2)⟩) (ev_houseLen (ev_var (i := 1) rfl) hv hl) (rv_ne rfl)) (by rw [dec_ii, hvl, hln]; simp))) fun H1 e1 => ?_
    try dsimp only
    refine q_forLn (K := K) (a := p) (xs := vs) (j := 3) (ev_var (i := 2) rfl) (ex_l e1 hvs) (fun i σ' G => ∃ v3 : Option V, σ' = [some (.ref x), some v, some (.ref p), v3] ∧ Ex H G) (fun H2 e2 => ⟨_, rfl, e1.trans e2⟩) (fun i σ' G _ ⟨_, _, e⟩ => ex_l e hvs) ?_ ?_
    · rintro i y σ' G hy ⟨v3, rfl, eG⟩
      obtain ⟨t, rfl, ht⟩ := hall i y hy
      have hi : i < xss.length := by have := (List.getElem?_eq_some_iff.mp hy).1; omega
      have hm : xss.getD i [] ∈ xss := in_getD hi
      try dsimp only
      exact s_drop (ev_call (z := .non) (ea_cons (ev_var (i := 1) rfl) (ea_cons (ev_var (i := 3) rfl) ea_nil)) fun H2 e2 Q q _ => ⟨v, n, gs, t, xss.getD i [], rfl, hv.ex (eG.trans e2), ex_l (eG.trans e2) ht, hS.row _ hm, hS.val _ hm, fun H3 e3 => q H3 e3⟩) fun G1 g1 => ⟨_, rfl, eG.trans g1⟩
    rintro σ' G ⟨v3, rfl, eG⟩
    have hxG := eG _ _ hx
    refine ⟨_, rfl, _, rfl, x, _, dx, [], rfl, hxG, T.cl_Watch, T.na_Watch_house, by decide, ?_⟩
    try dsimp only
    have hR2 : RowsL K (upd G x (.ins A.C_Watch dx (putF "house" v []))) p xss := (hR.ex eG).ins hxG
    obtain ⟨us, hus, hul, hua⟩ := hR2.all
    generalize hHx : upd G x (.ins A.C_Watch dx (putF "house" v [])) = Hx at *
    have lc := en_tupN (K := K) (en_lc (wi := iList K (tVar 2)) (g := gName 3) (te := tCB (rTupOf K) (tCons (tVar 3) tNil)) (σ := [some (.ref x), some v, some (.ref p), v3]) (H := Hx) (vs := [3]) (fun i w G => ∃ t, w = .ref t ∧ G t = some (.tup ((xss.getD i []).map V.int))) (ei_list (K := K) (eb_held (i := 2) rfl hus)) (by rw [hul, hln]; omega) bd_at (fun i _ => rfl) (fun i H2 hi e2 => by
      have e : us[i]? = some us[i] := List.getElem?_eq_getElem hi
      obtain ⟨t, ht, hT⟩ := hua i _ e
      rw [e, ht]
      exact en_tupL (ev_var (i := 3) rfl) (ex_l e2 hT)))
    refine lc Hx (Ex.refl _) _ fun w H8 e8 hw => ?_
    have hx8 : H8 x = some (.ins A.C_Watch dx (putF "house" v [])) := e8 _ _ (by rw [← hHx, upd_same])
    refine ⟨_, rfl, x, _, dx, _, rfl, hx8, T.cl_Watch, T.na_Watch_rows, by show 1 < 1000; decide, ?_⟩
    refine k w _ (fun b o hb ho => ?_) (fun F hF => ?_) ?_
    · rw [upd_ne hb]
      exact e8 _ _ (by rw [← hHx, upd_ne hb]; exact eG _ _ ho)
    · obtain ⟨q, ws, rfl, h1, h2, h3⟩ := hw F fun b o h1 h2 => by
        have hb : b ≠ x := fun z => by rw [z, ← hHx, upd_same] at h1; cases h1
        refine hF b o hb ?_ (by rw [upd_ne hb]; exact h2)
        rw [← hHx, upd_ne hb] at h1
        exact fresh_back eG h1
      exact ⟨q, ws, rfl, h1, by rw [h2, hul], h3⟩
    · rw [upd_same, putW]

def spRows (K : PySem.W.Frag) (A : Ads) : Sp := fun vs H Q _ => ∃ (v h : V) (xss : List (List Int)), vs = [v] ∧ WatchIs A.C_Watch v H h xss ∧ xss.length ≤ 100 ∧ ∀ w H', Ex H H' → (∃ p, w = .ref p ∧ RowsL K H' p xss) → Q w H' 
theorem ok_Watch_rows (T : Txt K mg A) : FnOk P w K mg base CX0 1 A.f_Watch_rows A.d_Watch_rows (["self"] : List Str) (spRows K A) := by
  refine T.F_Watch_rows.ok sc_Watch_rows (fun vs H Q E h => ?_) (fun cdv Ar outer s H vs Q E hr h => ?_)
  · obtain ⟨v, h, xss, rfl, _⟩ := h
    rfl
  · obtain ⟨v, h, xss, rfl, ⟨a, dx, w, rfl, h1, p, vs, rfl, h2, h3, h4⟩, hl, k⟩ := h
    refine ⟨_, (pss_one (ps_ret (pe_lc (own := [("row", 1)]) (g := gName 1) (tt := tYes) rfl sc_Watch_rows.nd (pi_tup (pe_fldK (pv 0) rfl)) (blkOk_by (own := [("row", 1)]) (N := N_Watch_rows) (sc := defScope s_Watch_rows) (by decide +kernel)) (fun _ _ _ _ _ => (pg_name (i := 1) sc_Watch_rows.nd rfl (Or.inl rfl))) (fun _ _ _ _ _ => pts_nil) (fun _ _ _ _ _ => (pe_callTy list_K (by rfl) T.z_list (by decide +kernel) (pa_cons (pv 1) pa_nil)))))), ?_⟩
    try dsimp only
    have lc := en_lc (wi := iTup K (tFld K (tVar 0) "_rows")) (g := gName 1) (te := tCB (rListK K) (tCons (tVar 1) tNil)) (σ := [some (.ref a), none]) (H := H) (vs := [1]) (fun i w G => ∃ t, w = .ref t ∧ G t = some (.lst ((xss.getD i []).map V.int))) (ei_tup (K := K) (eb_ev (ev_wrows (ev_var (i := 0) rfl) h1 T.cl_Watch T.na_Watch_rows) fun G e => ⟨p, rfl, st_of (e _ _ h2)⟩)) (by rw [h3]; omega) bd_at (fun i _ => rfl) (fun i H2 hi e2 => by
      have e : vs[i]? = some vs[i] := List.getElem?_eq_getElem hi
      obtain ⟨t, ht, hT⟩ := h4 i _ e
      rw [e, ht]
      exact en_copyT (ev_var (i := 1) rfl) (st_of (e2 _ _ hT)))
    refine lc H (Ex.refl _) _ fun w H1 e1 hw => k w H1 e1 ?_
    obtain ⟨q, ws, rfl, g1, g2, g3⟩ := hw.self
    exact ⟨q, rfl, ws, sq_of g1, by rw [g2, h3], fun i v hv => (g3 i v hv).imp fun t ht => ⟨ht.1, sq_of ht.2⟩⟩

theorem en_watch {K : PySem.W.Frag} {A : Ads} {E : XK} {σ : L2.St} {H : Hp} {t1 t2 : TE} {v : V} {n : Int} {gs : List (Str × Int)} {xss : List (List Int)} (h1 : Ev t1 σ H v) (h2 : EvR t2 σ H fun v G => ∃ p, v = .ref p ∧ RowsL K G p xss) (hv : HouseIs A.C_House v H n gs) (hl : gs.length ≤ 100) (hS : Shape n gs.length xss) :
    EvNew (tMake A.C_Watch (spWatch K A) [] E (tCons t1 (tCons t2 tNil))) σ H fun w G => WatchIs A.C_Watch w G v xss := fun H1 e Q q =>
  h1 H1 e _ fun H2 e2 => h2 H2 (e.trans e2) _ fun w H3 e3 hw => by
    obtain ⟨p, rfl, hR⟩ := hw
    intro x dx hx hdx hne
    have eN : Ex H3 (upd (upd H3 dx (.own x)) x (.ins A.C_Watch dx [])) := (Ex.new hdx).trans (Ex.new (by rw [upd_ne (Ne.symm hne)]; exact hx))
    refine ⟨x, dx, v, p, n, gs, xss, rfl, upd_same, hv.ex (((e.trans e2).trans e3).trans eN), hl, hR.ex eN, hS, fun w H' hk hU hx' => ⟨rfl, ?_⟩⟩
    have e' : Ex H3 H' := fun c o hc => hk c o (fun z => by rw [z, hx] at hc; cases hc) (eN c o hc)
    exact q _ H' ((e2.trans e3).trans e') fun G g => ⟨x, dx, w, rfl, g _ _ (fresh_back (e2.trans e3) hx) hx', hU G fun b o _ h1' h2' => g b o (fresh_back ((e2.trans e3).trans eN) h1') h2'⟩

theorem q_asgN {te : TE} {tz : TS} {D : Ends} {σ : L2.St} {H : Hp} {i : Nat} {P : V → Hp → Prop} (h : EvNew te σ H P) (k : ∀ v H1, Ex H H1 → P v H1 → tz D (σ.set i (some v)) H1) : tSeq (tAsg te (gName i)) tz D σ H := q_asgR h.er k

structure WatchOk (K : PySem.W.Frag) (A : Ads) (v : V) (H : Hp) (h : V) (n : Nat) (gs : List (Str × Int)) (xss : List (List Int)) : Prop where
  w : WatchIs A.C_Watch v H h xss
  hs : HouseIs A.C_House h H (n : Int) gs
  gl : gs.length ≤ 100
  sh : Shape (n : Int) gs.length xss
  nb : 1 ≤ n ∧ n ≤ 1000
theorem WatchOk.ex {K : PySem.W.Frag} {A : Ads} {v h : V} {H H' : Hp} {n : Nat} {gs : List (Str × Int)} {xss : List (List Int)} (e : Ex H H') (q : WatchOk K A v H h n gs xss) : WatchOk K A v H' h n gs xss := ⟨q.w.ex e, q.hs.ex e, q.gl, q.sh, q.nb⟩

def spLsh (K : PySem.W.Frag) (A : Ads) : Sp := fun vs H Q _ => ∃ (v h : V) (k : Int) (n : Nat) (gs : List (Str × Int)) (xss : List (List Int)), vs = [v, .int k] ∧ WatchOk K A v H h n gs xss ∧ ∀ w H', Ex H H' → WatchOk K A w H' h n gs (xss.map (turnR n k)) → Q w H' 
theorem ok_Watch_lshift (T : Txt K mg A) : FnOk P w K mg base CX0 8 A.f_Watch_lshift A.d_Watch_lshift (["self", "other"] : List Str) (spLsh K A) := by
  refine T.F_Watch_lshift.ok sc_Watch_lshift (fun vs H Q E h => ?_) (fun cdv Ar outer s H vs Q E hr h => ?_)
  · obtain ⟨v, h, k, n, gs, xss, rfl, _⟩ := h
    rfl
  · obtain ⟨v, h, k, n, gs, xss, rfl, W, kq⟩ := h
    refine ⟨_, (pss_cons (ps_set (i := 2) sc_Watch_lshift.nd rfl (Or.inr rfl) (pe_fldK (pe_fldK (pv 0) rfl) rfl))
        (pss_cons (ps_setLc (i := 3) (own := [("row", 4)]) (g := gName 4) (tt := tYes) rfl sc_Watch_lshift.nd rfl rfl (sw_true rfl rfl rfl (by decide +kernel)) (pi_tup (pe_fldK (pv 0) rfl)) (blkOk_by (own := [("row", 4)]) (N := N_Watch_lshift) (sc := defScope s_Watch_lshift) (by decide +kernel)) (fun _ _ _ _ _ => (pg_name (i := 4) sc_Watch_lshift.nd rfl (Or.inr rfl))) (fun _ _ _ _ _ => pts_nil) (fun _ _ _ _ _ => (pe_lc (own := [("hour", 5)]) (g := gName 5) (tt := tYes) rfl sc_Watch_lshift.nd (pi_range1 rfl T.z_range (pa_cons (pv 2) pa_nil)) (by dsimp only [cxOf, Cx.nox, Cx.blk, compEnvC]; show BlkOk _ (relS _ (defScope s_Watch_lshift)) _ _; exact blkOk_by (own := [("hour", 5)]) (N := N_Watch_lshift) (by decide +kernel)) (fun _ _ _ _ _ => (pg_name (i := 5) sc_Watch_lshift.nd rfl (Or.inl rfl))) (fun _ _ _ _ _ => pts_nil) (fun _ _ _ _ _ => (pe_ix ix_tK (pv 4) (pe_op op_mod (pe_op op_sub (pv 5) (pv 1)) (pv 2)) (fun _ _ => rfl))))))
        (pss_one (ps_ret (pe_make T.mk_Watch (ok_Watch_init T) (hr.mono (by omega)) rfl T.g_Watch (b_Watch_init T) .nil passL (pa_cons (pe_fldK (pv 0) rfl) (pa_cons (pv 3) pa_nil))))))), ?_⟩
    obtain ⟨a, dx, w, rfl, h1, p, us, rfl, h2, h3, h4⟩ := id W.w
    obtain ⟨a3, dx3, p3, q3, rfl, h5, _⟩ := id W.hs
    have nb := W.nb
    have gl := W.gl
    have hln := W.sh.len
    try dsimp only
    refine q_asg (v := .int (n : Int)) (ev_hhours (ev_whouse (ev_var (i := 0) rfl) h1 T.cl_Watch T.na_Watch_house) h5 T.cl_House T.na_House_hours) fun H1 e1 => ?_
    try dsimp only
    refine q_asgN (en_lc (fun i w G => ∃ t, w = .ref t ∧ G t = some (.lst ((turnR n k (xss.getD i [])).map V.int))) (ei_tup (K := K) (eb_ev (ev_wrows (ev_var (i := 0) rfl) (e1 _ _ h1) T.cl_Watch T.na_Watch_rows) fun G e => ⟨p, rfl, st_of (e _ _ (e1 _ _ h2))⟩)) (by omega) bd_at (fun i _ => rfl) (fun i H2 hi e2 => ?_)) fun v H2 e2 hv => ?_
    · have e : us[i]? = some us[i] := List.getElem?_eq_getElem hi
      obtain ⟨t, ht, hT⟩ := h4 i _ e
      have hrow : (xss.getD i []).length = n := W.sh.row' _ (in_getD (by omega))
      rw [e, ht]
      try dsimp only
      refine en_L (el_isW (el_rngY (fun j => V.int ((xss.getD i []).getD (((j : Int) - k) % (n : Int)).toNat 0)) (ea_cons (ev_var (i := 2) rfl) ea_nil) (by omega) (fun x => rfl) fun j H3 hj e3 => ?_) (by unfold turnR; rw [List.map_map]; rfl))
      have m0 := Int.emod_nonneg ((j : Int) - k) (b := (n : Int)) (by omega)
      have m1 := Int.emod_lt_of_pos ((j : Int) - k) (b := (n : Int)) (by omega)
      exact ev_op (ev_var (i := 4) rfl) (ev_op (ev_op (ev_var (i := 5) rfl) (ev_var (i := 1) rfl) rv_I0) (ev_var (i := 2) rfl) (rv_I (show (0 : Int) < n by omega))) (rv_ixT (K := K) (st_of ((e1.trans (e2.trans e3)) _ _ hT)) (atI_ints m0 (by omega)))
    obtain ⟨q, ws, rfl, g1, g2, g3⟩ := hv
    have e12 := e1.trans e2
    refine s_retR (en_watch (K := K) (A := A) (xss := xss.map (turnR n k)) (ev_whouse (ev_var (i := 0) rfl) (e12 _ _ h1) T.cl_Watch T.na_Watch_house) (er_ev (ev_var (i := 3) rfl) fun G e => ⟨q, rfl, ws, sq_of (e _ _ g1), by rw [g2, h3, List.length_map], fun i v hv => ?_⟩) (W.hs.ex e12) gl (turn_shape W.sh)).er fun w H3 e3 hw => kq w H3 (e12.trans e3) ⟨hw, W.hs.ex (e12.trans e3), gl, turn_shape W.sh, nb⟩
    obtain ⟨t, rfl, ht⟩ := g3 i v hv
    have hi : i < xss.length := by have := (List.getElem?_eq_some_iff.mp hv).1; omega
    refine ⟨t, rfl, ?_⟩
    rw [List.getD_eq_getElem?_getD, List.getElem?_map, List.getElem?_eq_getElem hi]
    rw [List.getD_eq_getElem?_getD, List.getElem?_eq_getElem hi] at ht
    exact sq_of (e _ _ ht)

def spWMul (K : PySem.W.Frag) (A : Ads) : Sp := fun vs H Q E => ∃ (v h : V) (f : Int) (n : Nat) (gs : List (Str × Int)) (xss : List (List Int)), vs = [v, .int f] ∧ WatchOk K A v H h n gs xss ∧
  (1 < Nat.gcd f.natAbs n → ∀ d H', Ex H H' → H' d = some (.xd [("factor", .int ((Nat.gcd f.natAbs n : Nat) : Int))]) → E (.ref A.C_SharedFactor) (some d) H') ∧
  (Nat.gcd f.natAbs n ≤ 1 → ∀ w H', Ex H H' → WatchOk K A w H' h n gs (xss.map (moveR n f 0)) → Q w H')
theorem ok_Watch_mul (T : Txt K mg A) : FnOk P w K mg base (L2.CX P w) 8 A.f_Watch_mul A.d_Watch_mul (["self", "other"] : List Str) (spWMul K A) := by
  refine T.F_Watch_mul.okX sc_Watch_mul (fun vs H Q E h => ?_) (fun cdv Ar outer s H vs Q E hr h => ?_)
  · obtain ⟨v, h, f, n, gs, xss, rfl, _⟩ := h
    rfl
  · obtain ⟨v, h, f, n, gs, xss, rfl, W, kE, kq⟩ := h
    refine ⟨_, (pss_cons (ps_set (i := 2) sc_Watch_mul.nd rfl (Or.inl rfl) (pe_fldK (pe_fldK (pv 0) rfl) rfl))
        (pss_cons (ps_set (i := 3) sc_Watch_mul.nd rfl (Or.inl rfl) (pe_callBfun cr_gcd rfl T.g_gcd (pa_cons (pv 1) (pa_cons (pv 2) pa_nil))))
        (pss_cons (ps_if (pt_cmpR op_gt (pv 3) pe_int (nomark _)) (pss_one (ps_raise rfl (takes_of rfl rfl rfl rfl) (pmk_oex T.ox_SharedFactor T.ni_SharedFactor T.ti_SharedFactor (ok_SharedFactor_init T) (hr.mono (by omega)) (b_SharedFactor_init T) .nil pass0 rfl T.g_SharedFactor (pa_cons (pv 3) pa_nil)))) pss_nil)
        (pss_cons (ps_set (i := 4) sc_Watch_mul.nd rfl (Or.inl rfl) (pe_lst pa_nil))
        (pss_cons (ps_for (passes_of rfl) rfl (pi_tup (pe_fldK (pv 0) rfl)) (pg_name (i := 5) sc_Watch_mul.nd rfl (Or.inl rfl)) (pss_cons (ps_set (i := 6) sc_Watch_mul.nd rfl (Or.inl rfl) (pe_op op_rep (pe_lst (pa_cons pe_int pa_nil)) (pv 2)))
        (pss_cons (ps_for (passes_of rfl) rfl (pi_enumT (by rfl) T.z_enumerate (pa_cons (pv 5) pa_nil)) (pg_tup rfl (pgs_cons (pg_name (i := 7) sc_Watch_mul.nd rfl (Or.inl rfl)) (pgs_cons (pg_name (i := 8) sc_Watch_mul.nd rfl (Or.inl rfl)) pgs_nil))) (pss_one (ps_asg (pv 8) (pg_sub (pv 6) (pe_op op_mod (pe_op op_mul (pv 1) (pv 7)) (pv 2)) set_list))))
        (pss_one (ps_expr (pe_bm PySem.F.plainAttrs_list PySem.F.slot_list_append PySem.F.type_list_append mt_append (pv 4) (pa_cons (pv 6) pa_nil)))))))
        (pss_one (ps_ret (pe_make T.mk_Watch (ok_Watch_init T) (hr.mono (by omega)) rfl T.g_Watch (b_Watch_init T) .nil (passes_call (takes_of rfl rfl rfl rfl) (fun _ _ _ _ h => h)) (pa_cons (pe_fldK (pv 0) rfl) (pa_cons (pv 4) pa_nil)))))))))), ?_⟩
    obtain ⟨a, dx, w, rfl, h1, p, us, rfl, h2, h3, h4⟩ := id W.w
    obtain ⟨a3, dx3, p3, q3, rfl, h5, _⟩ := id W.hs
    have nb := W.nb
    have gl := W.gl
    have hln := W.sh.len
    try dsimp only
    refine q_asg (v := .int (n : Int)) (ev_hhours (ev_whouse (ev_var (i := 0) rfl) h1 T.cl_Watch T.na_Watch_house) h5 T.cl_House T.na_House_hours) fun H1 e1 => ?_
    try dsimp only
    refine q_asg (v := .int ((Nat.gcd f.natAbs n : Nat) : Int)) (ev_is (ev_gcd (a := f) (b := (n : Int)) (ea_cons (ev_var (i := 1) rfl) (ea_cons (ev_var (i := 2) rfl) ea_nil))) (by rw [Int.natAbs_natCast])) fun H2 e2 => ?_
    have e02 := e1.trans e2
    try dsimp only
    refine q_when (b := decide (1 < ((Nat.gcd f.natAbs n : Nat) : Int))) (et_test (ev_op (ev_var (i := 3) rfl) ev_c rv_I0)) (fun hb H3 e3 => ?_) (fun hb H3 e3 => ?_)
    · have hb := of_decide_eq_true hb
      exact raise1 (C := A.C_SharedFactor) (f := "factor") (x := .int ((Nat.gcd f.natAbs n : Nat) : Int)) T.ox_SharedFactor (fun Q q => ⟨_, rfl, q⟩) (fun d H' e' hd => kE (by omega) d H' ((e02.trans e3).trans e') hd)
    have hb := of_decide_eq_false hb
    have e03 := e02.trans e3
    try dsimp only
    refine q_asgL (xs := []) (el_lst ea_nil (by decide)) fun rp H4 hrp e4 h4' => ?_
    have e04 := e03.trans e4
    try dsimp only
    refine q_forB e4 (ei_tup (K := K) (eb_ev (ev_wrows (ev_var (i := 0) rfl) (e03 _ _ h1) T.cl_Watch T.na_Watch_rows) fun G e => ⟨p, rfl, st_of (e _ _ (e03 _ _ h2))⟩)) fun H5 e5 => ⟨fun i σ' G => ∃ (v5 v6 v7 v8 : Option V) (qs : List (Addr × List Int)), σ' = [some (.ref a), some (.int f), some (.int (n : Int)), some (.int ((Nat.gcd f.natAbs n : Nat) : Int)), some (.ref rp), v5, v6, v7, v8] ∧ (Ex H3 G ∧ Since H4 H5 G) ∧ RowsM H3 G rp qs ∧ qs.map (·.2) = (xss.take i).map (moveR n f 0),
      ⟨none, none, none, none, [], rfl, ⟨e4.trans e5, fun b o _ h => h⟩, ⟨hrp, e5 _ _ h4', .nil, fun q hq => by cases hq⟩, rfl⟩, fun i σ' G _ ⟨_, _, _, _, _, _, e, _⟩ => e, ?_, ?_⟩
    · rintro i x σ' G G' hi ⟨v5, v6, v7, v8, qs, rfl, ⟨eG, sG⟩, hM, hqs⟩ ⟨rfl, hx⟩
      obtain ⟨t, rfl, hT⟩ := h4 i _ hx
      have hix : i < xss.length := by omega
      have hrow : (xss.getD i []).length = n := W.sh.row' _ (in_getD hix)
      have htk : xss.take (i + 1) = xss.take i ++ [xss.getD i []] := by rw [List.take_succ_eq_append_getElem hix, List.getD_eq_getElem?_getD, List.getElem?_eq_getElem hix]; rfl
      generalize xss.getD i [] = xs at *
      have e0G := e03.trans eG
      dsimp only [gName]
      try dsimp only
      refine q_asgL (xs := (List.replicate n 0).map V.int) (el_isW (el_rep (z := 0) (k := (n : Int)) ev_c (ev_var (i := 2) rfl) (by omega)) (by rw [Int.toNat_natCast])) fun b G1 hb1 g1 hbl => ?_
      try dsimp only
      refine q_forB g1 (ei_enumT (K := K) (eb_ev (ev_var (i := 5) rfl) fun G e => ⟨t, rfl, st_of ((e0G.trans e) _ _ hT)⟩)) fun G2 g2 => ⟨fun j σ' F => ∃ (v7 v8 : Option V), σ' = [some (.ref a), some (.int f), some (.int (n : Int)), some (.int ((Nat.gcd f.natAbs n : Nat) : Int)), some (.ref rp), some (.ref t), some (.ref b), v7, v8] ∧ (Ex G' F ∧ Since G1 G2 F) ∧ F b = some (.lst ((moveP n (fun h => ((f * (h : Int) + 0) % (n : Int)).toNat) xs j).map V.int)),
        ⟨_, _, rfl, ⟨g1.trans g2, fun b o _ h => h⟩, g2 _ _ hbl⟩, fun j σ' F _ ⟨_, _, _, e, hF⟩ => e, ?_, ?_⟩
      · rintro j y σ' F F' hj ⟨v7', v8', rfl, ⟨eF, sF⟩, hF⟩ ⟨T', u, w', rfl, hT', rfl, hu, hw⟩
        cases hu
        have hj' : j < n := by rw [List.length_map] at hj; omega
        have ew : w' = .int (xs.getD j 0) := by
          have this : (xs.map V.int)[j]? = some w' := hw
          rw [List.getElem?_map, List.getElem?_eq_getElem (by omega)] at this
          rw [← Option.some.inj this, List.getD_eq_getElem?_getD, List.getElem?_eq_getElem (by omega)]
          rfl
        subst ew
        have eT : Ex F (upd F T' (.tup [.int (j : Int), .int (xs.getD j 0)])) := Ex.new hT'
        refine ⟨T', _, rfl, st_of upd_same, rfl, _, _, rfl, _, _, rfl, rfl, ?_⟩
        have m0 := Int.emod_nonneg (f * (j : Int) + 0) (b := (n : Int)) (by omega)
        have m1 := Int.emod_lt_of_pos (f * (j : Int) + 0) (b := (n : Int)) (by omega)
        try dsimp only
        refine s_setL (j := ((f * (j : Int) + 0) % (n : Int)).toNat) (v := .int (xs.getD j 0)) (eT _ _ hF) (ev_var (i := 8) rfl) (ev_var (i := 6) rfl) (ev_is (ev_op (ev_op (ev_var (i := 1) rfl) (ev_var (i := 7) rfl) (rv_I (show CMul f (j : Int) from .inr ⟨by omega, by omega⟩))) (ev_var (i := 2) rfl) (rv_I (show (0 : Int) < n by omega))) (by rw [Int.toNat_of_nonneg m0, Int.add_zero])) (by rw [List.length_map, moveP_len]; omega) fun F2 f2 => ?_
        exact ⟨_, _, rfl, ⟨Ex.mut (eF.trans (eT.trans f2)) hb1, since_mut (since_ex sF (eT.trans f2)) hbl⟩, by rw [upd_same, moveP_succ, List.map_set]⟩
      rintro σ' F ⟨v7', v8', rfl, ⟨eF, sF⟩, hF⟩
      rw [List.length_map, hrow] at hF
      have hM2 := hM.ex eF
      have hbr : b ≠ rp := fun z => by rw [z, hM.2.1] at hb1; cases hb1
      have hbq : ∀ q ∈ qs, q.1 ≠ b := fun q hq z => by have := (hM.2.2.2 q hq).2.2; rw [z, hb1] at this; cases this
      have hql : qs.length ≤ 100 := by
        have := congrArg List.length hqs
        rw [List.length_map, List.length_map, List.length_take] at this
        omega
      try dsimp only
      refine s_app (xs := qs.map fun q => V.ref q.1) hM2.2.1 (ev_var (i := 4) rfl) (ev_var (i := 6) rfl) (by rw [List.length_map]; omega) fun F2 f2 => ?_
      refine ⟨_, _, _, _, qs ++ [(b, moveR n f 0 xs)], rfl, ⟨Ex.mut (eG.trans (eF.trans f2)) hrp, since_mut (since_ex sG (eF.trans f2)) h4'⟩, (hM2.ex f2).more (fresh_back eG hb1) hbr hbq (f2 _ _ hF), ?_⟩
      rw [htk, List.map_append, List.map_append, hqs]
      rfl
    rintro σ' G ⟨v5, v6, v7, v8, qs, rfl, ⟨eG, sG⟩, hM, hqs⟩
    rw [h3, List.take_length] at hqs
    have e0G := e03.trans eG
    refine s_retR (en_watch (K := K) (A := A) (xss := xss.map (moveR n f 0)) (ev_whouse (ev_var (i := 0) rfl) (e0G _ _ h1) T.cl_Watch T.na_Watch_house) (er_ev (ev_var (i := 4) rfl) fun G' e => ⟨rp, rfl, by rw [← hqs]; exact (hM.ex e).rows⟩) (W.hs.ex e0G) gl (move_shape W.sh)).er fun w H6 e6 hw => kq (by omega) w H6 (e0G.trans e6) ⟨hw, W.hs.ex (e0G.trans e6), gl, move_shape W.sh, nb⟩

theorem er_lsh {K : PySem.W.Frag} {A : Ads} {E : L2.St → XK} {ta tb : TE} {σ : L2.St} {H : Hp} {h : V} {k : Int} {n : Nat} {gs : List (Str × Int)} {xss : List (List Int)} (ha : EvR ta σ H fun v G => WatchOk K A v G h n gs xss) (hb : Ev tb σ H (.int k)) :
    EvR (tOpS (rOwnI A.C_Watch (spLsh K A) E) ta tb) σ H fun v G => WatchOk K A v G h n gs (xss.map (turnR n k)) := fun H1 e Q q => ha H1 e _ fun v H2 e2 hv => hb H2 (e.trans e2) _ fun H3 e3 => by
  have h3 := hv.ex e3
  obtain ⟨a, dx, w, rfl, h1, _⟩ := id h3.w
  exact ⟨a, dx, _, k, rfl, h1, rfl, .ref a, h, k, n, gs, xss, rfl, h3, fun w H' e' hw => q w H' ((e2.trans e3).trans e') hw⟩
theorem er_wmul {K : PySem.W.Frag} {A : Ads} {E : L2.St → XK} {ta tb : TE} {σ : L2.St} {H : Hp} {h : V} {f : Int} {n : Nat} {gs : List (Str × Int)} {xss : List (List Int)} (ha : EvR ta σ H fun v G => WatchOk K A v G h n gs xss) (hb : Ev tb σ H (.int f)) (hg : Nat.gcd f.natAbs n ≤ 1) :
    EvR (tOpS (rOwnI A.C_Watch (spWMul K A) E) ta tb) σ H fun v G => WatchOk K A v G h n gs (xss.map (moveR n f 0)) := fun H1 e Q q => ha H1 e _ fun v H2 e2 hv => hb H2 (e.trans e2) _ fun H3 e3 => by
  have h3 := hv.ex e3
  obtain ⟨a, dx, w, rfl, h1, _⟩ := id h3.w
  exact ⟨a, dx, _, f, rfl, h1, rfl, .ref a, h, f, n, gs, xss, rfl, h3, fun hc => absurd hc (by omega), fun _ w H' e' hw => q w H' ((e2.trans e3).trans e') hw⟩
def spWNeg (K : PySem.W.Frag) (A : Ads) : Sp := fun vs H Q _ => ∃ (v h : V) (n : Nat) (gs : List (Str × Int)) (xss : List (List Int)), vs = [v] ∧ WatchOk K A v H h n gs xss ∧ ∀ w H', Ex H H' → WatchOk K A w H' h n gs (xss.map (moveR n (-1) 0)) → Q w H' 
theorem ok_Watch_neg (T : Txt K mg A) : FnOk P w K mg base CX0 9 A.f_Watch_neg A.d_Watch_neg (["self"] : List Str) (spWNeg K A) := by
  refine T.F_Watch_neg.ok sc_Watch_neg (fun vs H Q E h => ?_) (fun cdv Ar outer s H vs Q E hr h => ?_)
  · obtain ⟨v, h, n, gs, xss, rfl, _⟩ := h
    rfl
  · obtain ⟨v, h, n, gs, xss, rfl, W, kq⟩ := h
    refine ⟨_, (pss_one (ps_ret (pe_opS (op_ownJ (op := .Mult) (E := fun _ => E0) T.op_Watch T.D_Watch_mul T.I_Watch_mul (ok_Watch_mul T) (hr.mono (by omega)) (b_Watch_mul T) (pAt passL)) (pv 0) (pe_un un_neg pe_int)))), ?_⟩
    have nb := W.nb
    refine s_retR (er_wmul (A := A) (f := -1) (er_ev (ev_var (i := 0) rfl) fun G e => W.ex e) (ev_un ev_c ru_neg) (by simp)) fun w H1 e1 hw => kq w H1 e1 hw

def hrsL (n : Nat) : List Int := (List.range n).map fun (i : Nat) => (i : Int)
theorem hrsL_len {n : Nat} : (hrsL n).length = n := by simp [hrsL]
theorem hrsL_b {n : Nat} (h : n ≤ 24) : ∀ x ∈ hrsL n, 0 ≤ x ∧ x ≤ 96 := fun x hx => by
  obtain ⟨i, hi, rfl⟩ := List.mem_map.mp hx
  have := List.mem_range.mp hi
  omega
def lineS (z : Str) (ns : List Int) : Str := pad8 z ++ catS (ns.map fun x => pad3 x.toNat)
theorem lineS_len {z : Str} {ns : List Int} (hz : z.length ≤ 8) (h : ∀ x ∈ ns, 0 ≤ x ∧ x ≤ 96) : (lineS z ns).length = 8 + 3 * ns.length := by
  unfold lineS
  rw [str_len, pad8_len hz, cat_len, cat3_sum h]
def spLine (K : PySem.W.Frag) : Sp := fun vs H Q _ => ∃ (z : Str) (p : Addr) (ns : List Int), vs = [.str z, .ref p] ∧ z.length ≤ 8 ∧ SqL K H p (ns.map V.int) ∧ ns.length ≤ 100 ∧ (∀ x ∈ ns, 0 ≤ x ∧ x ≤ 96) ∧ ∀ H', Ex H H' → Q (.str (lineS z ns)) H'
theorem ev_line {K : PySem.W.Frag} {E : XK} {t1 t2 : TE} {σ : L2.St} {H : Hp} {z : Str} {ns : List Int} (h1 : Ev t1 σ H (.str z)) (h2 : EvR t2 σ H fun v G => ∃ p, v = .ref p ∧ SqL K G p (ns.map V.int)) (hz : z.length ≤ 8) (hl : ns.length ≤ 100) (hx : ∀ x ∈ ns, 0 ≤ x ∧ x ≤ 96) :
    Ev (tCall (spLine K) [] E (tCons t1 (tCons t2 tNil))) σ H (.str (lineS z ns)) := fun H1 e Q q => h1 H1 e _ fun H2 e2 => h2 H2 (e.trans e2) _ fun v H3 e3 hv => by
  obtain ⟨p, rfl, hp⟩ := hv
  exact ⟨z, p, ns, rfl, hz, hp, hl, hx, fun H' e' => q H' ((e2.trans e3).trans e')⟩
theorem ok_u_line (T : Txt K mg A) : FnOk P w K mg base CX0 2 A.f_u_line A.d_u_line (["name", "numbers"] : List Str) (spLine K) := by
  refine T.F_u_line.ok sc_u_line (fun vs H Q E h => ?_) (fun cdv Ar outer s H vs Q E hr h => ?_)
  · obtain ⟨z, p, ns, rfl, _⟩ := h
    rfl
  · obtain ⟨z, p, ns, rfl, hz, hp, hl, hx, k⟩ := h
    refine ⟨_, (pss_one (ps_ret (pe_op op_add_str (pe_joined1 (pe_fmt8 (pv 0))) (pe_m1 PySem.F.slot_str_join PySem.F.type_str_join mt_joinK pe_str (pe_lc (own := [("number", 2)]) (g := gName 2) (tt := tYes) rfl sc_u_line.nd (pi_listK (pv 1)) (blkOk_by (own := [("number", 2)]) (N := N_u_line) (sc := defScope s_u_line) (by decide +kernel)) (fun _ _ _ _ _ => (pg_name (i := 2) sc_u_line.nd rfl (Or.inl rfl))) (fun _ _ _ _ _ => pts_nil) (fun _ _ _ _ _ => (pe_joined1 (pe_fmt3 (pv 2))))))))), ?_⟩
    have h100 : 3 * ns.length ≤ 100000 := by omega
    have hadd : (pad8 z).length + (catS (ns.map fun x => pad3 x.toNat)).length ≤ 100000 := by
      have e1 := cat3_sum hx
      have e2 := cat_len (ns.map fun x => pad3 x.toNat)
      have e3 := pad8_len hz
      omega
    try dsimp only
    refine s_ret (v := .str (lineS z ns)) (ev_addS (ev_fmt8 (ev_var (i := 0) rfl) (by omega)) (by
      refine ev_joinE ?_ ?_
      rotate_left
      · exact Nat.le_trans (Nat.le_of_eq (cat3_sum hx)) h100
      exact el_isW (el_mapI (K := K) ns (fun x => V.str (pad3 x.toNat)) (ev_var (i := 1) rfl) hp (by omega) (fun x => rfl) fun x H1 e hxm => ev_fmt3 (ev_var (i := 2) rfl) (hx x hxm)) (by rw [List.map_map]; rfl)) hadd rfl) fun H1 e1 => k H1 e1

def chartS (names : List Str) (xss : List (List Int)) (n : Nat) : List Str := lineS "gate" (hrsL n) :: (List.range names.length).map fun i => lineS (names.getD i "") (xss.getD i [])
def spChart (K : PySem.W.Frag) (A : Ads) : Sp := fun vs H Q _ => ∃ (v h : V) (n : Nat) (gs : List (Str × Int)) (xss : List (List Int)), vs = [v] ∧ WatchOk K A v H h n gs xss ∧ n ≤ 24 ∧ (∀ g ∈ gs, g.1.length ≤ 8) ∧ ∀ p H', H p = none → Ex H H' → H' p = some (.lst ((chartS (gs.map (·.1)) xss n).map V.str)) → Q (.ref p) H'
theorem el_catF {ta tb : TE} {σ : L2.St} {H : Hp} {xs ys : List V} {a : Addr} (h2 : EvL ta σ H ys) (h1 : Ev tb σ H (.ref a)) (ha : H a = some (.lst xs)) (hz : ys.length + xs.length ≤ 100000) : EvL (tOp rCat ta tb) σ H (ys ++ xs) := fun H1 e Q q =>
  h2 H1 e _ fun b H2 hb e2 g2 => h1 H2 (e.trans e2) _ fun H3 e3 => ⟨b, a, ys, xs, rfl, rfl, e3 _ _ g2, (e3 _ _ (e2 _ _ (e _ _ ha))), sz_of hz, fun p hp => q p _ (fresh_back (e2.trans e3) hp) ((e2.trans e3).trans (Ex.new hp)) upd_same⟩
theorem er_wrows {K : PySem.W.Frag} {A : Ads} {E : XK} {σ : L2.St} {H : Hp} {te : TE} {v h : V} {xss : List (List Int)} (h1 : Ev te σ H v) (hw : WatchIs A.C_Watch v H h xss) (hl : xss.length ≤ 100) : EvR (tProp A.C_Watch (spRows K A) [] E te) σ H fun w H1 => ∃ p, w = .ref p ∧ RowsL K H1 p xss := fun H1 e Q q => h1 H1 e _ fun H2 e2 => by
  have w2 := hw.ex (e.trans e2)
  obtain ⟨a, dx, w, rfl, hi, _⟩ := id w2
  exact ⟨a, dx, _, rfl, hi, .ref a, h, xss, rfl, w2, hl, fun z H' e' hz => q z H' (e2.trans e') hz⟩
theorem el_zipVia {K : PySem.W.Frag} {ta tb te : TE} {tt : TT} {g : TG} {vs : List Nat} {σ : L2.St} {H : Hp} {p : Addr} {xs : List V} {P : V → Hp → Prop} (ha : Ev ta σ H (.ref p)) (hb : EvR tb σ H P) (k : ∀ v H1, Ex H H1 → P v H1 → EvL (tLc (iZipM K (tCons (tC (.ref p)) (tCons (tC v) tNil))) g tt te vs) σ H1 xs) :
    EvL (tLc (iZipM K (tCons ta (tCons tb tNil))) g tt te vs) σ H xs := fun H0 e Q q => ha H0 e _ fun H1 e1 => hb H1 (e.trans e1) _ fun v H2 e2 hv => k v H2 ((e.trans e1).trans e2) hv H2 (Ex.refl _) Q fun l H3 hl e3 h3 => q l H3 (fresh_back (e1.trans e2) hl) ((e1.trans e2).trans e3) h3
theorem er_rgN {K : PySem.W.Frag} {σ : L2.St} {H : Hp} {tn : TE} {n : Nat} (h1 : Ev tn σ H (.int (n : Int))) (hn : n ≤ 1000) : EvR (tLstRg (tRg1 tn)) σ H fun v H1 => ∃ p, v = .ref p ∧ SqL K H1 p ((hrsL n).map V.int) := fun H1 e Q q =>
  h1 H1 e _ fun H2 e2 => ⟨n, rfl, .of_le (by decide) (by omega) (by decide) (by omega), fun p hp => q _ _ (e2.trans (Ex.new hp)) ⟨p, rfl, SqL.of (by
    rw [upd_same]
    unfold rgV hrsL
    rw [List.map_map]
    simp)⟩⟩
theorem ok_chart (T : Txt K mg A) : FnOk P w K mg base CX0 4 A.f_chart A.d_chart (["watch"] : List Str) (spChart K A) := by
  refine T.F_chart.ok sc_chart (fun vs H Q E h => ?_) (fun cdv Ar outer s H vs Q E hr h => ?_)
  · obtain ⟨v, h, n, gs, xss, rfl, _⟩ := h
    rfl
  · obtain ⟨v, h, n, gs, xss, rfl, W, hn, hg, k⟩ := h
    refine ⟨_, (pss_cons (ps_set (i := 1) sc_chart.nd rfl (Or.inl rfl) (pe_fldK (pv 0) rfl))
        (pss_cons (ps_setLc (i := 2) (own := [("name", 3), ("row", 4)]) (g := gTup K 2 (gCons (gName 3) (gCons (gName 4) gNil))) (tt := tYes) rfl sc_chart.nd rfl rfl (sw_true rfl rfl rfl (by decide +kernel)) (pi_zipM (by rfl) T.z_zip (pa_cons (pe_fldK (pv 1) rfl) (pa_cons (pe_prop (pv 0) T.cl_Watch T.P_Watch_rows (ok_Watch_rows T) (hr.mono (by omega)) (b_Watch_rows T) .nil pass0 rfl) pa_nil))) (blkOk_by (own := [("name", 3), ("row", 4)]) (N := N_chart) (sc := defScope s_chart) (by decide +kernel)) (fun _ _ _ _ _ => (pg_tupK rfl rfl (pgs_cons (pg_name (i := 3) sc_chart.nd rfl (Or.inl rfl)) (pgs_cons (pg_name (i := 4) sc_chart.nd rfl (Or.inl rfl)) pgs_nil)))) (fun _ _ _ _ _ => pts_nil) (fun _ _ _ _ _ => (pe_call (ok_u_line T) (hr.mono (by omega)) rfl T.g_u_line T.k_u_line (b_u_line T) .nil pass0 (pa_cons (pv 3) (pa_cons (pv 4) pa_nil)))))
        (pss_one (ps_ret (pe_op op_cat (pe_lst (pa_cons (pe_call (ok_u_line T) (hr.mono (by omega)) rfl T.g_u_line T.k_u_line (b_u_line T) .nil pass0 (pa_cons pe_str (pa_cons (pe_listRg rfl rfl T.z_list (prg_1 rfl T.z_range (pe_fldK (pv 1) rfl))) pa_nil))) pa_nil)) (pv 2)))))), ?_⟩
    obtain ⟨a, dx, w, rfl, h1, p, us, rfl, h2, h3, h4⟩ := id W.w
    obtain ⟨a3, dx3, p3, q3, rfl, h5, h6, h7⟩ := id W.hs
    have gl := W.gl
    have hln := W.sh.len
    try dsimp only
    refine q_asg (v := .ref a3) (ev_whouse (ev_var (i := 0) rfl) h1 T.cl_Watch T.na_Watch_house) fun H1 e1 => ?_
    try dsimp only
    refine q_asgL (xs := (List.range gs.length).map fun i => V.str (lineS ((gs.map (·.1) : List Str).getD i "") (xss.getD i []))) (el_zipVia (K := K) (p := p3) (P := fun v G => ∃ p, v = .ref p ∧ RowsL K G p xss) (ev_hnames (ev_var (i := 1) rfl) (e1 _ _ h5) T.cl_House T.na_House_names) (er_wrows (K := K) (A := A) (ev_var (i := 0) rfl) (W.w.ex e1) (by omega)) fun v H2 e2 hv => ?_) fun rp H2 hrp e2 h2' => ?_
    · obtain ⟨q, rfl, hR⟩ := hv
      obtain ⟨vs, hvs, hvl, hall⟩ := hR.all
      rw [← given_all]
      refine el_lc (fun _ => true) _ (ei_zipM (K := K) (xs := (gs.map (·.1)).map V.str) (ys := vs) (n := gs.length) (eb_ev ev_c fun G e => ⟨p3, rfl, st_of ((e1.trans (e2.trans e)) _ _ h6)⟩) (eb_ev ev_c fun G e => ⟨q, rfl, ex_l e hvs⟩) (by rw [List.length_map, List.length_map, hvl]; omega)) (by omega) bd_pair (fun i hi => rfl) (fun _ _ _ _ => yes_T) fun i H3 hi e3 _ => ?_
      have e : vs[i]? = some vs[i] := List.getElem?_eq_getElem (by omega)
      have eg : ((gs.map (·.1)).map V.str)[i]? = some (.str ((gs.map (·.1) : List Str).getD i "")) := by
        rw [List.getElem?_map, List.getD_eq_getElem?_getD, List.getElem?_eq_getElem (by rw [List.length_map]; exact hi)]
        rfl
      obtain ⟨t, ht, hT⟩ := hall i _ e
      have hm : xss.getD i [] ∈ xss := in_getD (by omega)
      have hrow := W.sh.row' _ hm
      have hz : ((gs.map (·.1) : List Str).getD i "").length ≤ 8 := by
        rw [List.getD_eq_getElem?_getD, List.getElem?_map, List.getElem?_eq_getElem hi]
        exact hg _ (List.getElem_mem hi)
      rw [e, ht, eg]
      exact ev_line (K := K) (ev_var (i := 3) rfl) (er_ev (ev_var (i := 4) rfl) fun G e => ⟨t, rfl, ex_l (e3.trans e) hT⟩) hz (by omega) (W.sh.val _ hm)
    have e12 := e1.trans e2
    try dsimp only
    refine s_retL (el_catF (el_lst (ea_cons (ev_line (K := K) (z := "gate") (ns := hrsL n) ev_c (er_rgN (K := K) (ev_hhours (ev_var (i := 1) rfl) (e12 _ _ h5) T.cl_House T.na_House_hours) (by omega)) (by decide +kernel) (by rw [hrsL_len]; omega) (hrsL_b hn)) ea_nil) (by show 1 ≤ 100000; decide)) (ev_var (i := 2) rfl) h2' (by simp; omega)) fun q H3 hq e3 h3' => k q H3 (fresh_back e12 hq) (e12.trans e3) ?_
    rw [h3']
    unfold chartS
    simp

def sp_cell (K : PySem.W.Frag) : Sp := fun vs H Q _ => ∃ (a : Addr) (ns : List Int) (k : Nat), vs = [.ref a, .int (k : Int)] ∧ SqL K H a (ns.map V.int) ∧ Q (.int (cellA ns k)) H
theorem ev_cell {K : PySem.W.Frag} {E : XK} {σ : L2.St} {H : Hp} {ta tk : TE} {a : Addr} {ns : List Int} {k : Nat} {z : Int} (ha : Ev ta σ H (.ref a)) (hk : Ev tk σ H (.int z)) (hS : SqL K H a (ns.map V.int)) (hz : z = (k : Int) := by rfl) : Ev (tCall (sp_cell K) [] E (tCons ta (tCons tk tNil))) σ H (.int (cellA ns k)) := fun H1 e Q q =>
  ha H1 e _ fun H2 e2 => hk H2 (e.trans e2) _ fun H3 e3 => by subst hz; exact ⟨a, ns, k, rfl, ex_l ((e.trans e2).trans e3) hS, q H3 (e2.trans e3)⟩
theorem ok_u_law_cell (T : Txt K mg A) : FnOk P w K mg base CX0 1 A.f_u_law_cell A.d_u_law_cell (["script", "k"] : List Str) (sp_cell K) := by
  refine T.F_u_law_cell.ok sc_u_law_cell (fun vs H Q E h => ?_) (fun cdv Ar outer s H vs Q E hr h => ?_)
  · obtain ⟨a, ns, k, rfl, _⟩ := h
    rfl
  · obtain ⟨a, ns, k, rfl, hS, q⟩ := h
    refine ⟨_, (pss_cons (ps_if (pt_cmpR op_lt (pv 1) (pe_callB len_K (by rfl) T.z_len (by decide +kernel) (pa_cons (pv 0) pa_nil)) (nomark _)) (pss_one (ps_ret (pe_callB call_abs (by rfl) T.z_abs (by decide +kernel) (pa_cons (pe_ix ix_lK (pv 0) (pv 1) (fun _ _ => rfl)) pa_nil)))) pss_nil)
        (pss_one (ps_ret pe_int))), ?_⟩
    refine ⟨_, rfl, _, rfl, .ref a, _, rfl, .inl ⟨_, hS, rfl⟩, _, _, rfl, rfl, _, rfl, ?_⟩
    unfold cellA at q
    rw [List.length_map]
    by_cases hk : k < ns.length
    · refine wayT (show (k : Int) < (ns.length : Int) by omega) ?_
      rw [if_pos hk] at q
      refine ⟨_, rfl, _, rfl, a, _, _, .int (ns.getD k 0), rfl, rfl, hS, atI_nat ?_, _, rfl, q⟩
      rw [List.getElem?_map, List.getD_eq_getElem?_getD, List.getElem?_eq_getElem hk]
      rfl
    · refine wayF (show ¬ (k : Int) < (ns.length : Int) by omega) ?_
      rw [if_neg hk] at q
      exact q

def sp_draws (K : PySem.W.Frag) : Sp := fun vs H Q _ => ∃ (c s : Int) (m : Addr) (ms : List Int), vs = [.int c, .int s, .ref m] ∧ SqL K H m (ms.map V.int) ∧ 0 ≤ c ∧ (-1000000 ≤ s ∧ s ≤ 1000000) ∧ ms.length ≤ 64 ∧
  (∀ x ∈ ms, 1 ≤ x ∧ x.natAbs < 2 ^ 1000) ∧ ∀ p H' ds, H p = none → Ex H H' → H' p = some (.lst (ds.map V.int)) → Drawn ms ds → Q (.ref p) H'
theorem er_draws {K : PySem.W.Frag} {E : XK} {σ : L2.St} {H : Hp} {tc ts tm : TE} {c z : Int} {ms : List Int} (hc : Ev tc σ H (.int c)) (hs : Ev ts σ H (.int z)) (hm : EvL tm σ H (ms.map V.int)) (h0 : 0 ≤ c) (hz : -1000000 ≤ z ∧ z ≤ 1000000) (hl : ms.length ≤ 64)
    (hb : ∀ x ∈ ms, 1 ≤ x ∧ x.natAbs < 2 ^ 1000) : EvR (tCall (sp_draws K) [] E (tCons tc (tCons ts (tCons tm tNil)))) σ H fun v H1 => ∃ p ds, v = .ref p ∧ H1 p = some (.lst (ds.map V.int)) ∧ Drawn ms ds := fun H1 e Q q =>
  hc H1 e _ fun H2 e2 => hs H2 (e.trans e2) _ fun H3 e3 => hm H3 ((e.trans e2).trans e3) _ fun m H4 _ e4 h4 =>
    ⟨c, z, m, ms, rfl, sq_of h4, h0, hz, hl, hb, fun p H' ds hp e' h' hD => q _ H' ((e2.trans e3).trans (e4.trans e')) ⟨p, ds, rfl, h', hD⟩⟩
theorem drawn_more {ms ds : List Int} {i : Nat} {m d : Int} (h : Drawn (ms.take i) ds) (hm : ms[i]? = some m) (h0 : 0 ≤ d) (h1 : d < m) : Drawn (ms.take (i + 1)) (ds ++ [d]) := by
  have hi : i < ms.length := (List.getElem?_eq_some_iff.mp hm).1
  obtain ⟨hl, hd⟩ := h
  have hl' : ds.length = i := by rw [hl, List.length_take]; omega
  refine ⟨by rw [List.length_append, hl', List.length_take]; simp; omega, fun j x hj => ?_⟩
  by_cases hji : j < i
  · have hx : (ms.take i)[j]? = some x := by
      rw [List.getElem?_take_of_lt hji]
      rw [List.getElem?_take_of_lt (by omega)] at hj
      exact hj
    obtain ⟨d', e, z⟩ := hd j x hx
    exact ⟨d', by rw [List.getElem?_append_left (by omega)]; exact e, z⟩
  · have hlt : j < i + 1 := by
      have := (List.getElem?_eq_some_iff.mp hj).1
      rw [List.length_take] at this
      omega
    have ej : j = i := by omega
    subst ej
    rw [List.getElem?_take_of_lt hlt, hm] at hj
    cases hj
    exact ⟨d, by rw [List.getElem?_append_right (by omega), hl', Nat.sub_self]; rfl, h0, h1⟩
theorem ok_u_law_draws (T : Txt K mg A) : FnOk P w K mg base CX0 1 A.f_u_law_draws A.d_u_law_draws (["cell", "salt", "menu"] : List Str) (sp_draws K) := by
  refine T.F_u_law_draws.ok sc_u_law_draws (fun vs H Q E h => ?_) (fun cdv Ar outer s H vs Q E hr h => ?_)
  · obtain ⟨c, s, m, ms, rfl, _⟩ := h
    rfl
  · obtain ⟨c, sa, m, ms, rfl, hS, hc, hs, hl, hm, k⟩ := h
    refine ⟨_, (pss_cons (ps_set (i := 3) sc_u_law_draws.nd rfl (Or.inl rfl) (pe_lst pa_nil))
        (pss_cons (ps_set (i := 4) sc_u_law_draws.nd rfl (Or.inl rfl) (pe_op op_sub (pv 0) (pe_op op_pow pe_int pe_int)))
        (pss_cons (ps_set (i := 5) sc_u_law_draws.nd rfl (Or.inl rfl) (pe_op op_add (pv 0) (pe_op op_mul pe_int (pv 1))))
        (pss_cons (ps_for PassesOwn.never rfl (pi_range1 rfl T.z_range (pa_cons (pe_callB len_K (by rfl) T.z_len (by decide +kernel) (pa_cons (pv 2) pa_nil)) pa_nil)) (pg_name (i := 6) sc_u_law_draws.nd rfl (Or.inl rfl)) (pss_one (ps_if (pt_cmpR op_ge (pv 4) pe_int (nomark _)) (pss_cons (ps_expr (pe_bm PySem.F.plainAttrs_list PySem.F.slot_list_append PySem.F.type_list_append mt_append (pv 3) (pa_cons (pe_op op_mod (pe_callTy call_int1 (by rfl) T.z_int (by decide +kernel) (pa_cons (pv 4) pa_nil)) (pe_ix ix_lK (pv 2) (pv 6) (fun _ _ => rfl))) pa_nil)))
        (pss_one (ps_set (i := 4) sc_u_law_draws.nd rfl (Or.inl rfl) (pe_op op_fdivW (pv 4) (pe_ix ix_lK (pv 2) (pv 6) (fun _ _ => rfl)))))) (pss_cons (ps_set (i := 5) sc_u_law_draws.nd rfl (Or.inl rfl) (pe_op op_mod (pe_callTy call_int1 (by rfl) T.z_int (by decide +kernel) (pa_cons (pe_op op_add (pe_op op_add (pe_op op_mul (pv 5) (pv 5)) (pe_op op_mul pe_int (pe_op op_add (pv 6) pe_int))) pe_int) pa_nil)) pe_int))
        (pss_cons (ps_set (i := 5) sc_u_law_draws.nd rfl (Or.inl rfl) (pe_op op_mod (pe_callTy call_int1 (by rfl) T.z_int (by decide +kernel) (pa_cons (pe_op op_add (pe_op op_mul (pv 5) (pv 5)) (pe_op op_fdiv (pv 5) pe_int)) pa_nil)) pe_int))
        (pss_one (ps_expr (pe_bm PySem.F.plainAttrs_list PySem.F.slot_list_append PySem.F.type_list_append mt_append (pv 3) (pa_cons (pe_op op_mod (pe_callTy call_int1 (by rfl) T.z_int (by decide +kernel) (pa_cons (pe_op op_fdiv (pv 5) pe_int) pa_nil)) (pe_ix ix_lK (pv 2) (pv 6) (fun _ _ => rfl))) pa_nil)))))))))
        (pss_one (ps_ret (pv 3))))))), ?_⟩
    refine ⟨Nat.zero_le _, fun p hp => ?_⟩
    refine ⟨_, rfl, _, _, rfl, rfl, ⟨by decide, by decide, by decide⟩, _, _, rfl, rfl, ?_⟩
    refine ⟨_, rfl, _, rfl, _, _, rfl, rfl, .inl ⟨by decide, by decide⟩, _, _, rfl, rfl, ?_⟩
    have e10 : ((10 : Int) ^ (18 : Int).toNat) = 1000000000000000000 := by decide
    have hS1 : SqL K (upd H p (.lst [])) m (ms.map V.int) := ex_l (Ex.new hp) hS
    refine ⟨_, rfl, .ref m, _, rfl, .inl ⟨_, hS1, rfl⟩, _, rfl, by omega, by rw [List.length_map]; omega, ?_⟩
    refine for_range (lo := 0) (n := ((ms.map V.int).length : Int).toNat) (fun i σ H' => ∃ (ds : List Int) (rest mixed : Int) (kv : Option V), σ = [some (.int c), some (.int sa), some (.ref m), some (.ref p), some (.int rest), some (.int mixed), kv] ∧ Ex H H' ∧
        H' p = some (.lst (ds.map V.int)) ∧ Drawn (ms.take i) ds ∧ (0 ≤ rest ∨ (-18446744073709551616 < mixed ∧ mixed < 18446744073709551616))) ?_ ?_ ?_
    · refine ⟨[], _, _, none, rfl, Ex.new hp, upd_same, ⟨by simp, fun i x h => by simp at h⟩, ?_⟩
      rw [e10]
      omega
    · rintro i σ H' hi ⟨ds, rest, mixed, kv, rfl, ex, hH, hD, hr0⟩
      have hi' : i < ms.length := by simpa using hi
      obtain ⟨mi, hmi⟩ : ∃ mi, ms[i]? = some mi := ⟨ms[i], List.getElem?_eq_getElem hi'⟩
      have hmm := hm mi (List.mem_of_getElem? hmi)
      have hSi : SqL K H' m (ms.map V.int) := ex_l ex hS
      have hat : atI (ms.map V.int) (0 + (i : Int)) = some (.int mi) := by
        rw [Int.zero_add]
        refine atI_nat ?_
        rw [List.getElem?_map, hmi]
        rfl
      have hdl : ds.length ≤ 64 := by
        have := hD.1
        rw [List.length_take] at this
        omega
      have hsz : (ds.map V.int).length < sizeLine := by
        rw [List.length_map]
        exact Nat.lt_of_le_of_lt hdl (by decide)
      have e0 : (0 : Int) + (i : Int) = (i : Int) := Int.zero_add _
      refine ⟨_, rfl, _, _, rfl, rfl, _, rfl, way (fun hr => ?_) (fun hr => ?_)⟩
      · refine ⟨_, rfl, .inl ⟨rfl, _, SqL.of hH⟩, _, rfl, .inl ⟨rest, rfl, _, rfl, _, rfl, m, _, _, .int mi, rfl, rfl, hSi, hat, _, _, rfl, rfl, (by show (0 : Int) < mi; omega), p, _, _, rfl, rfl, hH, hsz, ?_⟩⟩
        have ex2 : Ex H (upd H' p (.lst (ds.map V.int ++ [.int (rest % mi)]))) := Ex.mut ex hp
        refine ⟨_, rfl, _, rfl, _, rfl, m, _, _, .int mi, rfl, rfl, ex_l ex2 hS, hat, _, _, rfl, rfl, wide_div (by omega) hmm.2 (by decide) (by decide), ?_⟩
        refine ⟨ds ++ [rest % mi], rest / mi, mixed, _, rfl, ex2, ?_, drawn_more hD hmi (Int.emod_nonneg _ (by omega)) (Int.emod_lt_of_pos _ (by omega)), .inl (Int.ediv_nonneg hr (by omega))⟩
        rw [upd_same, List.map_append]
        rfl
      · have hx : -18446744073709551616 < mixed ∧ mixed < 18446744073709551616 := by omega
        refine ⟨_, rfl, _, rfl, _, _, rfl, rfl, .inl ⟨hx.1, hx.2⟩, _, rfl, _, _, rfl, rfl, _, _, rfl, rfl, .inl ⟨by decide, by decide⟩, _, _, rfl, rfl, _, _, rfl, rfl, .inl ⟨_, rfl, _, _, rfl, rfl, (by show (0 : Int) < 2147483399; decide), ?_⟩⟩
        have b1 : ∀ z : Int, 0 ≤ z % 2147483399 ∧ z % 2147483399 < 2147483399 := fun z => ⟨Int.emod_nonneg _ (by decide), Int.emod_lt_of_pos _ (by decide)⟩
        have b2 : ∀ z : Int, 0 ≤ z % 2147483629 ∧ z % 2147483629 < 2147483629 := fun z => ⟨Int.emod_nonneg _ (by decide), Int.emod_lt_of_pos _ (by decide)⟩
        refine ⟨_, rfl, _, rfl, _, _, rfl, rfl, .inl ⟨Int.lt_of_lt_of_le (by decide) (b1 _).1, Int.lt_trans (b1 _).2 (by decide)⟩, _, rfl, _, _, rfl, rfl, ⟨by decide, by decide⟩, _, _, rfl, rfl, .inl ⟨_, rfl, _, _, rfl, rfl, (by show (0 : Int) < 2147483629; decide), ?_⟩⟩
        refine ⟨_, rfl, .inl ⟨rfl, _, SqL.of hH⟩, _, rfl, _, _, rfl, rfl, ⟨by decide, by decide⟩, .inl ⟨_, rfl, _, rfl, _, rfl, m, _, _, .int mi, rfl, rfl, hSi, hat, _, _, rfl, rfl, (by show (0 : Int) < mi; omega), p, _, _, rfl, rfl, hH, hsz, ?_⟩⟩
        refine ⟨ds ++ [((((mixed * mixed + 3571 * (0 + (i : Int) + 1) + 40692) % 2147483399) * ((mixed * mixed + 3571 * (0 + (i : Int) + 1) + 40692) % 2147483399) + ((mixed * mixed + 3571 * (0 + (i : Int) + 1) + 40692) % 2147483399) / 97) % 2147483629) / 8 % mi], rest, _, _, rfl, Ex.mut ex hp, ?_, drawn_more hD hmi (Int.emod_nonneg _ (by omega)) (Int.emod_lt_of_pos _ (by omega)), .inr ⟨Int.lt_of_lt_of_le (by decide) (b2 _).1, Int.lt_trans (b2 _).2 (by decide)⟩⟩
        rw [upd_same, List.map_append]
        rfl
    · rintro σ H' ⟨ds, rest, mixed, kv, rfl, ex, hH, hD, _⟩
      refine ⟨_, rfl, k p H' ds hp ex hH ?_⟩
      have e : ((ms.map V.int).length : Int).toNat = ms.length := by simp
      rw [e, List.take_length] at hD
      exact hD

theorem isi {K : PySem.W.Frag} {H : Hp} {x : V} {t n : String} {b : Bool} {Q : VK} (ty : TyX K H x (.type t)) (h : kitB t n = some b) (q : Q (.bl b) H) : rIsi K [x, .ty n] H Q := ⟨x, .ty n, _, _, b, rfl, .ty n, ty, kit_ty h, q⟩
def sp_is_int (K : PySem.W.Frag) : Sp := fun vs H Q _ => ∃ i : Int, vs = [.int i] ∧ Q (.bl true) H
theorem ok_u_law_is_int (T : Txt K mg A) : FnOk P w K mg base CX0 1 A.f_u_law_is_int A.d_u_law_is_int (["x"] : List Str) (sp_is_int K) := by
  refine T.F_u_law_is_int.ok sc_u_law_is_int (fun vs H Q E h => ?_) (fun cdv Ar outer s H vs Q E hr h => ?_)
  · obtain ⟨i, rfl, _⟩ := h
    rfl
  · obtain ⟨i, rfl, q⟩ := h
    refine ⟨_, (pss_one (ps_ret (pe_and (pe_callB isi_K (by rfl) T.z_isinstance (by decide +kernel) (pa_cons (pv 0) (pa_cons (pe_bltn (v := .ty "int") (by rfl) T.z_int (by decide +kernel) rfl) pa_nil))) (pe_one (pe_not (pe_callB isi_K (by rfl) T.z_isinstance (by decide +kernel) (pa_cons (pv 0) (pa_cons (pe_bltn (v := .ty "bool") (by rfl) T.z_bool (by decide +kernel) rfl) pa_nil)))))))), ?_⟩
    refine ⟨_, rfl, _, _, _, _, true, rfl, .ty _, .base (.int i), kit_ty (by decide +kernel), ⟨_, rfl, iteT ?_⟩⟩
    exact ⟨_, rfl, _, _, _, _, false, rfl, .ty _, .base (.int i), kit_ty (by decide +kernel), ⟨_, rfl, q⟩⟩
/-- like data are told alike -/
def sp_same (K : PySem.W.Frag) (n : Nat) : Sp := fun vs H Q _ => ∃ (x y : V) (d : PyData), vs = [x, y] ∧ Dp K H x d ∧ Dp K H y d ∧ Flat n d ∧ Q (.bl true) H
theorem same_loop {K : PySem.W.Frag} {H : Hp} {n k : Nat} {xs ys : List V} {ds : List PyData} {x y : V} {kv : Option V} {Q : VK} {N : L2.St → Hp → Prop} {tb : TS} (hk : k = ds.length) (hx : DpAll K H xs ds) (hy : DpAll K H ys ds) (hf : ∀ d ∈ ds, Flat n d) (hl : ds.length ≤ 40000)
    (hb : ∀ (i : Nat) (u v : V) (d : PyData) (kv : Option V) (D : Ends), i < ds.length → xs[i]? = some u → ys[i]? = some v → Dp K H u d → Dp K H v d → Flat n d → D.nx [some x, some y, some (.int (i : Int))] H → tb D ([some x, some y, kv].set 2 (some (.int (i : Int)))) H)
    (hq : ∀ kv, N [some x, some y, kv] H) :
    ∃ W : Nat → Nat → L2.St → Hp → Prop, (∃ m, W 0 m [some x, some y, kv] H) ∧ ∀ i m σ H, W i m σ H →
      ((Itr 0 k).stop i H ∧ N σ H) ∨ ((Itr 0 k).go i H ∧ ∃ N' : L2.St → Hp → Prop, (∀ σ' H', N' σ' H' → ∃ m', m' < m ∧ W (i + 1) m' σ' H') ∧ ∀ z H', (Itr 0 k).yld i H z H' → gName 2 z σ H' fun σ2 H2 => tb { nx := N', ct := N', bk := N, rt := Q } σ2 H2) := by
  subst hk
  refine for_range (D := { nx := N, rt := Q }) (fun i σ H' => H' = H ∧ ∃ kv, σ = [some x, some y, kv]) ⟨rfl, _, rfl⟩ ?_ ?_
  · rintro i σ H' hi ⟨rfl, kv, rfl⟩
    obtain ⟨_, gx⟩ := dp_get hx
    obtain ⟨_, gy⟩ := dp_get hy
    have ed := List.getElem?_eq_getElem hi
    obtain ⟨u, eu, du⟩ := gx i _ ed
    obtain ⟨v, ev, dv⟩ := gy i _ ed
    show tb _ ([some x, some y, kv].set 2 (some (.int (0 + (i : Int))))) H'
    rw [Int.zero_add]
    exact hb i u v _ kv _ hi eu ev du dv (hf _ (List.getElem_mem hi)) ⟨rfl, _, rfl⟩
  · rintro σ H' ⟨rfl, kv, rfl⟩
    exact hq kv
theorem ok_u_law_same_n (T : Txt K mg A) : ∀ n, FnOk P w K mg base CX0 (n + 2) A.f_u_law_same A.d_u_law_same (["got", "due"] : List Str) (sp_same K n) := by
  intro n
  induction n with
  | zero => exact ⟨fun vs H Q E h => by obtain ⟨x, y, d, rfl, _⟩ := h; rfl, fun Ar outer s H args us vs Q E _ _ _ _ h => by obtain ⟨x, y, d, _, _, _, hf, _⟩ := h; exact hf.elim⟩
  | succ n ih =>
    refine T.F_u_law_same.ok sc_u_law_same (fun vs H Q E h => ?_) (fun cdv Ar outer s H vs Q E hr h => ?_)
    · obtain ⟨x, y, d, rfl, _⟩ := h
      rfl
    · obtain ⟨x, y, d, rfl, hx, hy, hf, q⟩ := h
      have ihx := ih
      refine ⟨_, (pss_cons (ps_if (pt_cmpR op_isN (pv 1) pe_non (nomark _)) (pss_one (ps_ret (pe_cmpR op_isN (pv 0) pe_non (nomark _)))) pss_nil)
        (pss_cons (ps_if (pt_cmpR op_isK (pv 1) pe_bl (nomark _)) (pss_one (ps_ret (pe_cmpR op_isK (pv 0) pe_bl (nomark _)))) pss_nil)
        (pss_cons (ps_if (pt_cmpR op_isK (pv 1) pe_bl (nomark _)) (pss_one (ps_ret (pe_cmpR op_isK (pv 0) pe_bl (nomark _)))) pss_nil)
        (pss_cons (ps_if (pt_val (pe_callB isi_K (by rfl) T.z_isinstance (by decide +kernel) (pa_cons (pv 1) (pa_cons (pe_bltn (v := .ty "int") (by rfl) T.z_int (by decide +kernel) rfl) pa_nil)))) (pss_one (ps_ret (pe_and (pe_call (ok_u_law_is_int T) (hr.mono (by omega)) rfl T.g_u_law_is_int T.k_u_law_is_int (b_u_law_is_int T) .nil pass0 (pa_cons (pv 0) pa_nil)) (pe_one (pe_cmpR op_eq (pv 0) (pv 1) (nomark _)))))) pss_nil)
        (pss_cons (ps_if (pt_val (pe_callB isi_K (by rfl) T.z_isinstance (by decide +kernel) (pa_cons (pv 1) (pa_cons (pe_bltn (v := .ty "str") (by rfl) T.z_str (by decide +kernel) rfl) pa_nil)))) (pss_one (ps_ret (pe_and (pe_callB isi_K (by rfl) T.z_isinstance (by decide +kernel) (pa_cons (pv 0) (pa_cons (pe_bltn (v := .ty "str") (by rfl) T.z_str (by decide +kernel) rfl) pa_nil))) (pe_one (pe_cmpR op_eq (pv 0) (pv 1) (nomark _)))))) pss_nil)
        (pss_cons (ps_if (pt_val (pe_callB isi_K (by rfl) T.z_isinstance (by decide +kernel) (pa_cons (pv 1) (pa_cons (pe_bltn (v := .ty "tuple") (by rfl) T.z_tuple (by decide +kernel) rfl) pa_nil)))) (pss_one (ps_if (PW.pt (pw_or (pt_not (pt_val (pe_callB isi_K (by rfl) T.z_isinstance (by decide +kernel) (pa_cons (pv 0) (pa_cons (pe_bltn (v := .ty "tuple") (by rfl) T.z_tuple (by decide +kernel) rfl) pa_nil))))) (pw_or1 (pt_cmpR op_ne (pe_callB len_K (by rfl) T.z_len (by decide +kernel) (pa_cons (pv 0) pa_nil)) (pe_callB len_K (by rfl) T.z_len (by decide +kernel) (pa_cons (pv 1) pa_nil)) (nomark _))))) (pss_one (ps_ret pe_bl)) pss_nil)) (pss_one (ps_if (PW.pt (pw_or (pt_not (pt_val (pe_callB isi_K (by rfl) T.z_isinstance (by decide +kernel) (pa_cons (pv 0) (pa_cons (pe_bltn (v := .ty "list") (by rfl) T.z_list (by decide +kernel) rfl) pa_nil))))) (pw_or1 (pt_cmpR op_ne (pe_callB len_K (by rfl) T.z_len (by decide +kernel) (pa_cons (pv 0) pa_nil)) (pe_callB len_K (by rfl) T.z_len (by decide +kernel) (pa_cons (pv 1) pa_nil)) (nomark _))))) (pss_one (ps_ret pe_bl)) pss_nil)))
        (pss_cons (ps_for PassesOwn.never rfl (pi_range1 rfl T.z_range (pa_cons (pe_callB len_K (by rfl) T.z_len (by decide +kernel) (pa_cons (pv 1) pa_nil)) pa_nil)) (pg_name (i := 2) sc_u_law_same.nd rfl (Or.inl rfl)) (pss_one (ps_if (pt_not (pt_val (pe_call ih (hr.mono (by omega)) rfl T.g_u_law_same T.k_u_law_same (b_u_law_same T) .nil pass0 (pa_cons (pe_ix ix_sK (pv 0) (pv 2) (fun _ _ => rfl)) (pa_cons (pe_ix ix_sK (pv 1) (pv 2) (fun _ _ => rfl)) pa_nil))))) (pss_one (ps_ret pe_bl)) pss_nil)))
        (pss_one (ps_ret pe_bl))))))))), ?_⟩
      cases hx with
      | non => cases hy; exact ⟨_, rfl, rfl, _, rfl, wayT rfl ⟨_, rfl, rfl, q⟩⟩
      | bl b =>
        cases hy
        refine ⟨_, rfl, rfl, _, rfl, wayF (fun z => by cases z) ?_⟩
        cases b with
        | true => exact ⟨_, rfl, _, rfl, _, rfl, wayT rfl ⟨_, rfl, _, rfl, q⟩⟩
        | false => exact ⟨_, rfl, _, rfl, _, rfl, wayF (fun z => by cases z) ⟨_, rfl, _, rfl, _, rfl, wayT rfl ⟨_, rfl, _, rfl, q⟩⟩⟩
      | int i =>
        cases hy
        refine ⟨_, rfl, rfl, _, rfl, wayF (fun z => by cases z) ⟨_, rfl, _, rfl, _, rfl, wayF (fun z => by cases z) ⟨_, rfl, _, rfl, _, rfl, wayF (fun z => by cases z) ?_⟩⟩⟩
        refine ⟨_, rfl, _, _, _, _, true, rfl, .ty _, .base (.int i), kit_ty (by decide +kernel), ⟨_, rfl, iteT ?_⟩⟩
        refine ⟨_, rfl, i, rfl, _, rfl, iteT ?_⟩
        refine ⟨_, rfl, _, rfl, rfl, ?_⟩
        rw [decide_eq_true rfl]
        exact q
      | str z =>
        cases hy
        refine ⟨_, rfl, rfl, _, rfl, wayF (fun z => by cases z) ⟨_, rfl, _, rfl, _, rfl, wayF (fun z => by cases z) ⟨_, rfl, _, rfl, _, rfl, wayF (fun z => by cases z) ?_⟩⟩⟩
        refine ⟨_, rfl, _, _, _, _, false, rfl, .ty _, .base (.str z), kit_ty (by decide +kernel), ⟨_, rfl, iteF ?_⟩⟩
        refine ⟨_, rfl, _, _, _, _, true, rfl, .ty _, .base (.str z), kit_ty (by decide +kernel), ⟨_, rfl, iteT ?_⟩⟩
        refine ⟨_, rfl, _, _, _, _, true, rfl, .ty _, .base (.str z), kit_ty (by decide +kernel), ⟨_, rfl, iteT ?_⟩⟩
        refine ⟨_, rfl, _, rfl, rfl, ?_⟩
        rw [decide_eq_true rfl]
        exact q
      | lst sx ax =>
        cases hy with
        | lst sy ay =>
          refine ⟨_, rfl, rfl, _, rfl, wayF (fun z => by cases z) ⟨_, rfl, _, rfl, _, rfl, wayF (fun z => by cases z) ⟨_, rfl, _, rfl, _, rfl, wayF (fun z => by cases z) ?_⟩⟩⟩
          refine ⟨_, rfl, _, _, _, _, false, rfl, .ty _, tyx_l sy, kit_ty (by decide +kernel), ⟨_, rfl, iteF ?_⟩⟩
          refine ⟨_, rfl, _, _, _, _, false, rfl, .ty _, tyx_l sy, kit_ty (by decide +kernel), ⟨_, rfl, iteF ?_⟩⟩
          refine ⟨_, rfl, _, _, _, _, false, rfl, .ty _, tyx_l sy, kit_ty (by decide +kernel), ⟨_, rfl, iteF ?_⟩⟩
          refine ⟨_, rfl, _, _, _, _, true, rfl, .ty _, tyx_l sx, kit_ty (by decide +kernel), ⟨_, rfl, iteF ?_⟩⟩
          have lx := (dp_get ax).1
          have ly := (dp_get ay).1
          refine ⟨_, rfl, _, _, rfl, .inl ⟨_, sx, rfl⟩, _, rfl, _, _, rfl, .inl ⟨_, sy, rfl⟩, rfl, _, rfl, wayNT (by rw [lx, ly]) ?_⟩
          have h40 := hf.1
          refine ⟨_, rfl, _, _, rfl, .inl ⟨_, sy, rfl⟩, _, rfl, by omega, by omega, same_loop (by omega) ax ay hf.2 hf.1 (fun i u v d kv D hi eu ev du dv fd hn => ?_) (fun kv => q)⟩
          refine ⟨_, rfl, _, rfl, .inl ⟨_, _, _, u, rfl, rfl, sx, atI_nat eu, ?_⟩⟩
          refine ⟨_, rfl, _, rfl, .inl ⟨_, _, _, v, rfl, rfl, sy, atI_nat ev, ?_⟩⟩
          exact ⟨u, v, d, rfl, du, dv, fd, _, rfl, iteF hn⟩
      | tup sx ax =>
        cases hy with
        | tup sy ay =>
          refine ⟨_, rfl, rfl, _, rfl, wayF (fun z => by cases z) ⟨_, rfl, _, rfl, _, rfl, wayF (fun z => by cases z) ⟨_, rfl, _, rfl, _, rfl, wayF (fun z => by cases z) ?_⟩⟩⟩
          refine ⟨_, rfl, _, _, _, _, false, rfl, .ty _, tyx_t sy, kit_ty (by decide +kernel), ⟨_, rfl, iteF ?_⟩⟩
          refine ⟨_, rfl, _, _, _, _, false, rfl, .ty _, tyx_t sy, kit_ty (by decide +kernel), ⟨_, rfl, iteF ?_⟩⟩
          refine ⟨_, rfl, _, _, _, _, true, rfl, .ty _, tyx_t sy, kit_ty (by decide +kernel), ⟨_, rfl, iteT ?_⟩⟩
          refine ⟨_, rfl, _, _, _, _, true, rfl, .ty _, tyx_t sx, kit_ty (by decide +kernel), ⟨_, rfl, iteF ?_⟩⟩
          have lx := (dp_get ax).1
          have ly := (dp_get ay).1
          refine ⟨_, rfl, _, _, rfl, .inr ⟨_, sx, rfl⟩, _, rfl, _, _, rfl, .inr ⟨_, sy, rfl⟩, rfl, _, rfl, wayNT (by rw [lx, ly]) ?_⟩
          have h40 := hf.1
          refine ⟨_, rfl, _, _, rfl, .inr ⟨_, sy, rfl⟩, _, rfl, by omega, by omega, same_loop (by omega) ax ay hf.2 hf.1 (fun i u v d kv D hi eu ev du dv fd hn => ?_) (fun kv => q)⟩
          refine ⟨_, rfl, _, rfl, .inr (.inl ⟨_, _, _, u, rfl, rfl, sx, atI_nat eu, ?_⟩)⟩
          refine ⟨_, rfl, _, rfl, .inr (.inl ⟨_, _, _, v, rfl, rfl, sy, atI_nat ev, ?_⟩)⟩
          exact ⟨u, v, d, rfl, du, dv, fd, _, rfl, iteF hn⟩
theorem ok_u_law_same (T : Txt K mg A) : FnOk P w K mg base CX0 6 A.f_u_law_same A.d_u_law_same (["got", "due"] : List Str) (sp_same K 4) := ok_u_law_same_n T 4

def spLawRows (K : PySem.W.Frag) : Sp := fun vs H Q _ => ∃ (m n : Nat) (a : Addr) (ns : List Int), vs = [.int (m : Int), .int (n : Int), .ref a] ∧ SqL K H a (ns.map V.int) ∧ m * n ≤ ns.length ∧ m ≤ 100 ∧ n ≤ 100 ∧ ∀ p H' qs, Ex H H' → RowsM H H' p qs → qs.length = m → (∀ q ∈ qs, q.2.length = n ∧ ∀ x ∈ q.2, x ∈ ns) → Q (.ref p) H' 
theorem ok_u_law_rows (T : Txt K mg A) : FnOk P w K mg base CX0 1 A.f_u_law_rows A.d_u_law_rows (["gates", "n", "numbers"] : List Str) (spLawRows K) := by
  refine T.F_u_law_rows.ok sc_u_law_rows (fun vs H Q E h => ?_) (fun cdv Ar outer s H vs Q E hr h => ?_)
  · obtain ⟨m, n, a, ns, rfl, _⟩ := h
    rfl
  · obtain ⟨m, n, a, ns, rfl, hS, hl, hm, hn, k⟩ := h
    refine ⟨_, (pss_cons (ps_set (i := 3) sc_u_law_rows.nd rfl (Or.inl rfl) (pe_lst pa_nil))
        (pss_cons (ps_set (i := 4) sc_u_law_rows.nd rfl (Or.inl rfl) pe_int)
        (pss_cons (ps_for PassesOwn.never rfl (pi_range1 rfl T.z_range (pa_cons (pv 0) pa_nil)) (pg_name (i := 5) sc_u_law_rows.nd rfl (Or.inl rfl)) (pss_cons (ps_set (i := 6) sc_u_law_rows.nd rfl (Or.inl rfl) (pe_lst pa_nil))
        (pss_cons (ps_for PassesOwn.never rfl (pi_range1 rfl T.z_range (pa_cons (pv 1) pa_nil)) (pg_name (i := 7) sc_u_law_rows.nd rfl (Or.inl rfl)) (pss_cons (ps_expr (pe_bm PySem.F.plainAttrs_list PySem.F.slot_list_append PySem.F.type_list_append mt_append (pv 6) (pa_cons (pe_ix ix_lK (pv 2) (pv 4) (fun _ _ => rfl)) pa_nil)))
        (pss_one (ps_set (i := 4) sc_u_law_rows.nd rfl (Or.inl rfl) (pe_op op_add (pv 4) pe_int)))))
        (pss_one (ps_expr (pe_bm PySem.F.plainAttrs_list PySem.F.slot_list_append PySem.F.type_list_append mt_append (pv 3) (pa_cons (pv 6) pa_nil)))))))
        (pss_one (ps_ret (pv 3)))))), ?_⟩
    try dsimp only
    refine q_asgL (xs := []) (el_lst ea_nil (by decide)) fun rp H1 hrp e1 h1 => ?_
    try dsimp only
    refine q_asg (v := .int 0) ev_c fun H2 e2 => ?_
    try dsimp only
    refine q_forR1 (j := 5) (n := (m : Int)) (ea_cons (ev_var (i := 0) rfl) ea_nil) (by omega)
      (fun i σ' G => ∃ (v5 v6 v7 : Option V) (qs : List (Addr × List Int)), σ' = [some (.int (m : Int)), some (.int (n : Int)), some (.ref a), some (.ref rp), some (.int ((i * n : Nat) : Int)), v5, v6, v7] ∧ Ex H G ∧ RowsM H G rp qs ∧ qs.length = i ∧ ∀ q ∈ qs, q.2.length = n ∧ ∀ x ∈ q.2, x ∈ ns)
      (fun H3 e3 => ⟨none, none, none, [], by rw [Nat.zero_mul]; rfl, (e1.trans e2).trans e3, ⟨hrp, (e2.trans e3) _ _ h1, .nil, fun q hq => by cases hq⟩, rfl, fun q hq => by cases hq⟩) ?_ ?_
    · rintro i σ' G hi ⟨v5, v6, v7, qs, rfl, eG, hM, hql, hqs⟩
      try dsimp only
      refine q_asgL (xs := []) (el_lst ea_nil (by decide)) fun b G1 hb g1 hb1 => ?_
      have hi' : i + 1 ≤ m := by omega
      have him : (i + 1) * n ≤ m * n := Nat.mul_le_mul_right n hi'
      rw [Nat.add_mul, Nat.one_mul] at him
      try dsimp only
      refine q_forR1 (j := 7) (n := (n : Int)) (ea_cons (ev_var (i := 1) rfl) ea_nil) (by omega)
        (fun j σ' G' => ∃ (v7 : Option V) (zs : List Int), σ' = [some (.int (m : Int)), some (.int (n : Int)), some (.ref a), some (.ref rp), some (.int ((i * n + j : Nat) : Int)), some (.int (i : Int)), some (.ref b), v7] ∧ Ex G G' ∧ G' b = some (.lst (zs.map V.int)) ∧ zs.length = j ∧ ∀ x ∈ zs, x ∈ ns)
        (fun H3 e3 => ⟨_, [], rfl, g1.trans e3, e3 _ _ hb1, rfl, fun x hx => by cases hx⟩) ?_ ?_
      · rintro j σ' G' hj ⟨v7', zs, rfl, eG', hz, hzl, hzs⟩
        have hat : i * n + j < ns.length := by omega
        have x1 : (ns.map V.int)[i * n + j]? = some (.int ns[i * n + j]) := by rw [List.getElem?_map, List.getElem?_eq_getElem hat]; rfl
        try dsimp only
        refine q_app (xs := zs.map V.int) hz (ev_var (i := 6) rfl) (ev_op (ev_var (i := 2) rfl) (ev_var (i := 4) rfl) (rv_ixL (K := K) (ex_l (eG.trans eG') hS) (atI_nat x1))) (by rw [List.length_map]; omega) fun G2 g2 => ?_
        try dsimp only
        refine s_asg (v := .int ((i * n + (j + 1) : Nat) : Int)) (ev_is (ev_op (ev_var (i := 4) rfl) ev_c rv_I0) (congrArg V.int (by omega))) fun G3 g3 => ⟨_, zs ++ [ns[i * n + j]], rfl, (Ex.mut (eG'.trans g2) hb).trans g3, g3 _ _ (by rw [upd_same, List.map_append]; rfl), by rw [List.length_append, hzl]; rfl, fun x hx => ?_⟩
        rcases List.mem_append.mp hx with h | h
        · exact hzs x h
        · rw [List.mem_singleton.mp h]; exact List.getElem_mem hat
      rintro σ' G' ⟨v7', zs, rfl, eG', hz, hzl, hzs⟩
      rw [Int.toNat_natCast] at hzl
      have hrG := eG' _ _ hM.2.1
      have hbr : b ≠ rp := fun z => by rw [z, hM.2.1] at hb; cases hb
      try dsimp only
      refine s_app (xs := qs.map fun q => V.ref q.1) hrG (ev_var (i := 3) rfl) (ev_var (i := 6) rfl) (by rw [List.length_map]; omega) fun G3 g3 => ?_
      refine ⟨some (.int (i : Int)), some (.ref b), v7', qs ++ [(b, zs)], by rw [show i * n + (n : Int).toNat = (i + 1) * n by rw [Int.toNat_natCast, Nat.add_mul, Nat.one_mul]], Ex.mut (eG.trans (eG'.trans g3)) hM.1, ⟨hM.1, by rw [upd_same, List.map_append]; rfl, ?_, fun q hq => ?_⟩, by rw [List.length_append, hql]; rfl, fun q hq => ?_⟩
      · rw [List.map_append]
        refine List.nodup_append.mpr ⟨hM.2.2.1, List.pairwise_singleton _ _, fun x hx y hy e => ?_⟩
        obtain ⟨q, hq, rfl⟩ := List.mem_map.mp hx
        have hy : y = b := List.mem_singleton.mp hy
        rw [hy] at e
        have := (hM.2.2.2 q hq).2.2
        rw [e, hb] at this
        cases this
      · rcases List.mem_append.mp hq with h | h
        · obtain ⟨z1, z2, z3⟩ := hM.2.2.2 q h
          exact ⟨z1, z2, by rw [upd_ne z1]; exact (eG'.trans g3) _ _ z3⟩
        · rw [List.mem_singleton.mp h]
          exact ⟨hbr, fresh_back eG hb, by rw [upd_ne hbr]; exact g3 _ _ hz⟩
      · rcases List.mem_append.mp hq with h | h
        · exact hqs q h
        · rw [List.mem_singleton.mp h]; exact ⟨hzl, hzs⟩
    rintro σ' G ⟨v5, v6, v7, qs, rfl, eG, hM, hql, hqs⟩
    rw [Int.toNat_natCast] at hql
    exact ⟨_, rfl, k rp G qs eG hM hql hqs⟩

theorem cut_from {xs : List Int} {k m : Nat} (h : k + m ≤ xs.length) : cutV (xs.map V.int) (some (k : Int)) (some ((k : Int) + (m : Int))) = ((xs.drop k).take m).map V.int := by
  unfold cutV
  rw [show (k : Int) + (m : Int) = ((k + m : Nat) : Int) by omega, HT.sIx_nat, HT.sIx_nat, List.length_map, Nat.min_eq_left h, Nat.min_eq_left (by omega), List.map_take, List.map_drop, Nat.add_sub_cancel_left]

def spDrawn (K : PySem.W.Frag) : Sp := fun vs H Q _ => ∃ (a : Addr) (ns : List Int) (m : Nat) (wd : Bool), vs = [.ref a, .int (m : Int), .bl wd] ∧ SqL K H a (ns.map V.int) ∧ m ≤ 4 ∧ ∀ p H' (zs : List Str), Ex H H' → H' p = some (.lst (zs.map V.str)) → zs.length = m → zs.Nodup → (∀ z ∈ zs, Word z) → Q (.ref p) H'
/-- one letter on, at the front -/
def bumpF (p : List Nat) (c i : Nat) : Str := txt ((97 + (c + i) % 26) :: p)
theorem bumpF_inj {p : List Nat} {c i j : Nat} (hi : i < 26) (hj : j < 26) (h : bumpF p c i = bumpF p c j) : i = j := by
  have e := (List.cons.inj (txt_inj h)).1
  omega
theorem bumpF_word {p : List Nat} {c i : Nat} (hp : p.length ≤ 7) (ha : ∀ d ∈ p, 97 ≤ d ∧ d ≤ 122) : Word (bumpF p c i) := by
  refine ⟨?_, fun d hd => ?_⟩
  · unfold bumpF
    rw [txt_len, List.length_cons]
    omega
  · unfold bumpF at hd
    rw [txt_list] at hd
    rcases List.mem_cons.mp hd with h | h
    · omega
    · exact ha d h
theorem bumpF_out {p : List Nat} {c : Nat} {ns : List Str} (hn : ns.length ≤ 3) (h : ∀ s : Nat, s < 4 → bumpF p c s ∈ ns) : False := by
  have hd : ((List.range 4).map (bumpF p c)).Nodup := List.pairwise_map.mpr (List.Pairwise.imp_of_mem (fun {i j} hi hj hne e => hne (bumpF_inj (by have := List.mem_range.mp hi; omega) (by have := List.mem_range.mp hj; omega) e)) List.nodup_range)
  have := nodup_sub hd (m := ns) fun x hx => by
    obtain ⟨i, hi, rfl⟩ := List.mem_map.mp hx
    exact h i (List.mem_range.mp hi)
  rw [List.length_map, List.length_range] at this
  omega
theorem cut_tail {c : Nat} {p : List Nat} : cutS (txt (c :: p)) (some 1) none = txt p := by
  unfold cutS
  rw [HT.sIx_none, txt_len, txt_list]
  have : HT.sIx (c :: p).length 0 (some 1) = 1 := by
    have := HT.sIx_nat (c :: p).length 0 1
    rw [List.length_cons] at this ⊢
    rw [show (some (1 : Int)) = some ((1 : Nat) : Int) from rfl, this]
    omega
  rw [this]
  show txt (p.take _) = txt p
  rw [List.take_of_length_le (by simp)]
theorem cat_ones {xs : List Int} {f : Int → Nat} : catS (xs.map fun x => (⟨#[f x]⟩ : Str)) = txt (xs.map f) := by
  show txt _ = txt _
  congr 1
  induction xs with
  | nil => rfl
  | cons x xs ih => rw [List.map_cons, List.flatMap_cons, ih]; rfl
theorem ok_u_law_drawn_names (T : Txt K mg A) : FnOk P w K mg base CX0 3 A.f_u_law_drawn_names A.d_u_law_drawn_names (["script", "count", "wide"] : List Str) (spDrawn K) := by
  refine T.F_u_law_drawn_names.ok sc_u_law_drawn_names (fun vs H Q E h => ?_) (fun cdv Ar outer s H vs Q E hr h => ?_)
  · obtain ⟨a, ns, m, wd, rfl, _⟩ := h
    rfl
  · obtain ⟨a, ns, m, wd, rfl, hS, hm, k⟩ := h
    refine ⟨_, (pss_cons (ps_set (i := 3) sc_u_law_drawn_names.nd rfl (Or.inr rfl) pe_str)
        (pss_cons (ps_set (i := 4) sc_u_law_drawn_names.nd rfl (Or.inl rfl) (pe_lst pa_nil))
        (pss_cons (ps_for PassesOwn.never rfl (pi_range1 rfl T.z_range (pa_cons (pv 1) pa_nil)) (pg_name (i := 5) sc_u_law_drawn_names.nd rfl (Or.inl rfl)) (pss_cons (ps_set (i := 6) sc_u_law_drawn_names.nd rfl (Or.inl rfl) (pe_call (ok_u_law_draws T) (hr.mono (by omega)) rfl T.g_u_law_draws T.k_u_law_draws (b_u_law_draws T) .nil pass0 (pa_cons (pe_call (ok_u_law_cell T) (hr.mono (by omega)) rfl T.g_u_law_cell T.k_u_law_cell (b_u_law_cell T) .nil pass0 (pa_cons (pv 0) (pa_cons (pe_op op_add pe_int (pv 5)) pa_nil))) (pa_cons (pe_op op_add pe_int (pv 5)) (pa_cons (pe_lst (pa_cons pe_int (pa_cons pe_int (pa_cons pe_int (pa_cons pe_int (pa_cons pe_int (pa_cons pe_int (pa_cons pe_int (pa_cons pe_int (pa_cons pe_int pa_nil)))))))))) pa_nil)))))
        (pss_cons (ps_set (i := 7) sc_u_law_drawn_names.nd rfl (Or.inl rfl) (pe_op op_add pe_int (pe_ix ix_lK (pv 6) pe_int (fun _ _ => rfl))))
        (pss_cons (ps_if (pt_val (pv 2)) (pss_one (ps_set (i := 7) sc_u_law_drawn_names.nd rfl (Or.inl rfl) (pe_op op_add pe_int (pe_op op_mod (pe_callTy call_int1 (by rfl) T.z_int (by decide +kernel) (pa_cons (pe_ix ix_lK (pv 6) pe_int (fun _ _ => rfl)) pa_nil)) pe_int)))) pss_nil)
        (pss_cons (ps_set (i := 8) sc_u_law_drawn_names.nd rfl (Or.inl rfl) (pe_m1 PySem.F.slot_str_join PySem.F.type_str_join mt_joinK pe_str (pe_lc (own := [("number", 9)]) (g := gName 9) (tt := tYes) rfl sc_u_law_drawn_names.nd (pi_listK (pe_slice sl_listK (pv 6) (po_some pe_int) (po_some (pe_op op_add pe_int (pv 7))))) (blkOk_by (own := [("number", 9)]) (N := N_u_law_drawn_names) (sc := defScope s_u_law_drawn_names) (by decide +kernel)) (fun _ _ _ _ _ => (pg_name (i := 9) sc_u_law_drawn_names.nd rfl (Or.inl rfl))) (fun _ _ _ _ _ => pts_nil) (fun _ _ _ _ _ => (pe_ix ix_str (pv 3) (pv 9) (fun _ _ => rfl))))))
        (pss_cons (ps_for PassesOwn.never rfl (pi_range1 rfl T.z_range (pa_cons pe_int pa_nil)) (pg_name (i := 10) sc_u_law_drawn_names.nd rfl (Or.inl rfl)) (pss_one (ps_if (pt_cmpR in_K (pv 8) (pv 4) (by with_unfolding_all rfl)) (pss_one (ps_set (i := 8) sc_u_law_drawn_names.nd rfl (Or.inl rfl) (pe_op op_add_str (pe_ix ix_str (pv 3) (pe_op op_mod (pe_callTy call_int1 (by rfl) T.z_int (by decide +kernel) (pa_cons (pe_op op_add (pe_m1 PySem.F.slot_str_index PySem.F.type_str_index mt_sindex (pv 3) (pe_ix ix_str (pv 8) pe_int (fun _ _ => rfl))) pe_int) pa_nil)) pe_int) (fun _ _ => rfl)) (pe_slice sl_str (pv 8) (po_some pe_int) po_none)))) pss_nil)))
        (pss_one (ps_expr (pe_bm PySem.F.plainAttrs_list PySem.F.slot_list_append PySem.F.type_list_append mt_append (pv 4) (pa_cons (pv 8) pa_nil))))))))))
        (pss_one (ps_ret (pv 4)))))), ?_⟩
    try dsimp only
    refine q_asg (v := .str LET) ev_c fun H1 e1 => ?_
    try dsimp only
    refine q_asgL (xs := []) (el_lst ea_nil (by decide)) fun np H2 hnp e2 h2 => ?_
    have np0 : H np = none := fresh_back e1 hnp
    try dsimp only
    refine q_forR1 (j := 5) (n := (m : Int)) (ea_cons (ev_var (i := 1) rfl) ea_nil) (by omega)
      (fun i σ' G => ∃ (v5 v6 v7 v8 v9 v10 : Option V) (zs : List Str), σ' = [some (.ref a), some (.int (m : Int)), some (.bl wd), some (.str LET), some (.ref np), v5, v6, v7, v8, v9, v10] ∧ Ex H G ∧ G np = some (.lst (zs.map V.str)) ∧ zs.length = i ∧ zs.Nodup ∧ ∀ z ∈ zs, Word z)
      (fun H3 e3 => ⟨none, none, none, none, none, none, [], rfl, (e1.trans e2).trans e3, e3 _ _ h2, rfl, .nil, fun z hz => by cases hz⟩) ?_ ?_
    · rintro i σ' G hi ⟨v5, v6, v7, v8, v9, v10, zs, rfl, eG, hz, hzl, hzd, hzw⟩
      have hi : i < m := by omega
      try dsimp only
      refine q_asgR (er_draws (K := K) (ms := [8, 26, 26, 26, 26, 26, 26, 26, 26]) (ev_cell (k := 2 + i) (ev_var (i := 0) rfl) (ev_op ev_c (ev_var (i := 5) rfl) rv_I0) (ex_l eG hS) (by omega)) (ev_op ev_c (ev_var (i := 5) rfl) rv_I0) (el_lst (by repeat' first | exact ev_c | exact ev_var rfl | exact ea_nil | apply ea_cons | apply ev_int | apply ev_op | apply ev_un | exact ru_neg | exact rv_I0 | exact rv_eq rfl | exact rv_ne rfl | exact rv_I (by decide) | exact rv_I (.inl ⟨by decide, by decide⟩) | exact rv_I (.inr ⟨by decide, by decide⟩) | exact rv_I (by omega) | exact rv_I (.inl ⟨by omega, by omega⟩) | exact rv_I (.inr ⟨by omega, by omega⟩)) (by decide)) (cellA_nn _ _) (by omega) (by decide) (by decide +kernel)) fun v G1 g1 hp => ?_
      obtain ⟨dp, ds, rfl, hd, hD⟩ := hp
      have dl : ds.length = 9 := hD.1
      have d0 : 0 ≤ ds.getD 0 0 ∧ ds.getD 0 0 < 8 := drawn_at hD rfl
      have dI : ∀ j : Nat, 1 ≤ j → j < 9 → 0 ≤ ds.getD j 0 ∧ ds.getD j 0 < 26 := fun j h1 h2 => by
        have : j = 1 ∨ j = 2 ∨ j = 3 ∨ j = 4 ∨ j = 5 ∨ j = 6 ∨ j = 7 ∨ j = 8 := by omega
        rcases this with rfl | rfl | rfl | rfl | rfl | rfl | rfl | rfl <;> exact drawn_at hD rfl
      have dE : ∀ {σ : L2.St} {F : Hp}, σ[6]? = some (some (.ref dp)) → Ex G1 F → Ev (tOp (rIxL K) (tVar 6) (tC (.int 0))) σ F (.int (ds.getD 0 0)) := fun h e => ev_op (ev_var h) ev_c (rv_ixL (K := K) (sq_of (e _ _ hd)) (atI_ints (by decide) (by omega)))
      try dsimp only
      refine q_asg (v := .int (1 + ds.getD 0 0)) (ev_op ev_c (dE rfl (Ex.refl _)) rv_I0) fun G2 g2 => ?_
      try dsimp only
      refine q_ifAsg (i := 7) (b := wd) (v := .int (if wd = true then 7 + ds.getD 0 0 % 2 else 1 + ds.getD 0 0)) (et_B (ev_var (i := 2) rfl)) (fun hb => by
        rw [if_pos hb]
        exact ev_op ev_c (ev_op (ev_int (dE rfl g2)) ev_c (rv_I (show (0 : Int) < 2 by decide))) rv_I0) (fun hb => by rw [hb]; rfl) fun G3 g3 => ?_
      obtain ⟨sz, hsz, s1, s8⟩ : ∃ sz : Nat, (if wd = true then 7 + ds.getD 0 0 % 2 else 1 + ds.getD 0 0) = (sz : Int) ∧ 1 ≤ sz ∧ sz ≤ 8 := by
        refine ⟨(if wd = true then 7 + ds.getD 0 0 % 2 else 1 + ds.getD 0 0).toNat, ?_⟩
        split <;> omega
      rw [hsz]
      have g13 := g2.trans g3
      have hxs : ∀ x ∈ (ds.drop 1).take sz, 0 ≤ x ∧ x < 26 := fun x hx => by
        obtain ⟨j, hj, rfl⟩ := List.getElem_of_mem hx
        rw [List.length_take, List.length_drop] at hj
        have := dI (1 + j) (by omega) (by omega)
        rw [List.getD_eq_getElem?_getD, List.getElem?_eq_getElem (by omega)] at this
        rw [List.getElem_take, List.getElem_drop]
        exact this
      have hxl : ((ds.drop 1).take sz).length = sz := by rw [List.length_take, List.length_drop]; omega
      have hsl := cut_from (xs := ds) (k := 1) (m := sz) (by omega)
      generalize (ds.drop 1).take sz = xs at *
      obtain ⟨c, p, hc, hp, hpa, hw⟩ : ∃ (c : Nat) (p : List Nat), c < 26 ∧ p.length ≤ 7 ∧ (∀ d ∈ p, 97 ≤ d ∧ d ≤ 122) ∧ txt (xs.map fun x => 97 + x.toNat) = bumpF p c 0 := by
        match xs, hxl, hxs with
        | x :: xs, hl, hx =>
          have b := hx x List.mem_cons_self
          refine ⟨x.toNat, xs.map fun x => 97 + x.toNat, by omega, by rw [List.length_map]; rw [List.length_cons] at hl; omega, fun d hd => ?_, ?_⟩
          · obtain ⟨y, hy, rfl⟩ := List.mem_map.mp hd
            have := hx y (List.mem_cons_of_mem _ hy)
            omega
          · unfold bumpF
            rw [List.map_cons, show (x.toNat + 0) % 26 = x.toNat by omega]
        | [], hl, _ => simp at hl; omega
      try dsimp only
      have hj : ((xs.map fun x => (⟨#[97 + x.toNat]⟩ : Str)).map (·.length)).sum ≤ 100000 := by
        have : ((xs.map fun x => (⟨#[97 + x.toNat]⟩ : Str)).map (·.length)).sum = xs.length := by
          clear hw hsl hxl
          induction xs with
          | nil => rfl
          | cons x xs ih => rw [List.map_cons, List.map_cons, List.sum_cons, ih fun y hy => hxs y (List.mem_cons_of_mem _ hy), List.length_cons]; show 1 + _ = _; omega
        omega
      have hcat : catS (xs.map fun x => (⟨#[97 + x.toNat]⟩ : Str)) = bumpF p c 0 := by rw [cat_ones, hw]
      refine q_asg (v := .str (bumpF p c 0)) (by
        rw [← hcat]
        refine ev_joinE ?_ hj
        exact el_isW (el_mapIN (K := K) xs (fun x => V.str ⟨#[97 + x.toNat]⟩) (el_isW (el_sl (ev_var (i := 6) rfl) (eo_some ev_c) (eo_some (ev_op ev_c (ev_var (i := 7) rfl) rv_I0)) (sq_of (g13 _ _ hd))) hsl) (by omega) (fun x => rfl) fun x H1 e hx => ev_op (ev_var (i := 3) rfl) (ev_var (i := 9) rfl) (rv_ixS (w := LET) (by decide) (let_at (hxs x hx)))) (by rw [List.map_map]; rfl)) fun G4 g4 => ?_
      have g14 := g13.trans g4
      try dsimp only
      refine q_forR1 (j := 10) (n := 4) (ea_cons ev_c ea_nil) (by decide)
        (fun t σ' G' => ∃ (w : Str) (v10 : Option V), σ' = [some (.ref a), some (.int (m : Int)), some (.bl wd), some (.str LET), some (.ref np), some (.int (i : Int)), some (.ref dp), some (.int (sz : Int)), some (.str w), v9, v10] ∧ Ex G1 G' ∧ Word w ∧ (w ∉ zs ∨ (w = bumpF p c t ∧ ∀ s, s < t → bumpF p c s ∈ zs))) (fun H3 e3 => ⟨_, v10, rfl, g14.trans e3, bumpF_word hp hpa, .inr ⟨rfl, fun s hs => absurd hs (Nat.not_lt_zero _)⟩⟩) ?_ ?_
      · rintro t σ' G' ht ⟨w, v10', rfl, eG', hww, hor⟩
        try dsimp only
        refine s_when (b := decide (w ∈ zs)) (et_test (ev_is (ev_op (ev_var (i := 8) rfl) (ev_var (i := 4) rfl) (rv_inL (K := K) (neg := false) (sq_of ((g1.trans eG') _ _ hz)) rfl (strs_flat zs))) (by rw [← inV_strs]; rfl))) (fun h G2 g2 => ?_) (fun h G2 g2 => ⟨w, _, rfl, eG'.trans g2, hww, .inl (of_decide_eq_false h)⟩)
        have h := of_decide_eq_true h
        obtain ⟨rfl, hall⟩ := hor.resolve_left (fun z => z h)
        have l1 : (bumpF p c t).length ≤ 8 := hww.len.2
        have at1 : atI (bumpF p c t).cps.toList 0 = some (97 + (c + t) % 26) := atI_nat (j := 0) rfl
        have m0 : 0 ≤ (((97 + (c + t) % 26 - 97 : Nat) : Int) + 1) % 26 ∧ (((97 + (c + t) % 26 - 97 : Nat) : Int) + 1) % 26 < 26 := by omega
        try dsimp only
        refine s_asg (v := .str (bumpF p c (t + 1))) (ev_is (ev_op (ev_op (ev_var (i := 3) rfl) (ev_op (ev_int (ev_op (ev_letIx (ev_var (i := 3) rfl) (ev_op (ev_var (i := 8) rfl) ev_c (rv_ixS (by omega) at1)) (by omega)) ev_c rv_I0)) ev_c (rv_I (show (0 : Int) < 26 by decide))) (rv_ixS (w := LET) (by decide) (let_at m0))) (ev_is (ev_slS (ev_var (i := 8) rfl) (eo_some (i := 1) ev_c) eo_none (by omega)) (congrArg V.str (cut_tail (c := 97 + (c + t) % 26) (p := p)))) (rv_addS (by rw [txt_one, txt_len, txt_len]; show 1 + p.length ≤ 100000; omega))) ?_) fun G3 g3 => ⟨_, _, rfl, eG'.trans (g2.trans g3), bumpF_word hp hpa, .inr ⟨rfl, fun s hs => ?_⟩⟩
        · rw [txt_one, txt_add]
          unfold bumpF
          rw [show (97 + ((((97 + (c + t) % 26 - 97 : Nat) : Int) + 1) % 26).toNat) = 97 + (c + (t + 1)) % 26 by omega]
          rfl
        · by_cases e : s = t
          · subst e; exact h
          · exact hall s (by omega)
      rintro σ' G' ⟨w, v10', rfl, eG', hww, hor⟩
      have hnot : w ∉ zs := hor.resolve_right fun ⟨_, h⟩ => bumpF_out (by omega) h
      try dsimp only
      refine s_app (xs := zs.map V.str) ((g1.trans eG') _ _ hz) (ev_var (i := 4) rfl) (ev_var (i := 8) rfl) (by rw [List.length_map]; omega) fun G5 g5 => ?_
      exact ⟨_, _, _, _, _, _, zs ++ [w], rfl, Ex.mut (eG.trans (g1.trans (eG'.trans g5))) np0, by rw [upd_same, List.map_append]; rfl, by rw [List.length_append, hzl]; rfl, List.nodup_append.mpr ⟨hzd, List.pairwise_singleton _ _, fun x hx y hy e => hnot (by rw [← List.mem_singleton.mp hy, ← e]; exact hx)⟩, fun z hz => by
        rcases List.mem_append.mp hz with h | h
        · exact hzw z h
        · rw [List.mem_singleton.mp h]; exact hww⟩
    rintro σ' G ⟨v5, v6, v7, v8, v9, v10, zs, rfl, eG, hz, hzl, hzd, hzw⟩
    rw [Int.toNat_natCast] at hzl
    exact s_ret (ev_var (i := 4) rfl) fun G1 g1 => k np G1 zs (eG.trans g1) (g1 _ _ hz) hzl hzd hzw

def fillS (z : Str) (w : Nat) (b : Bool) : Str := if b = true then txt (List.replicate (w - z.length) 32) ++ z else z ++ txt (List.replicate (w - z.length) 32)
def spFilled : Sp := fun vs H Q _ => ∃ (z : Str) (w : Nat) (b : Bool), vs = [.str z, .int (w : Int), .bl b] ∧ z.length ≤ 1000 ∧ w ≤ 1000 ∧ ∀ H', Ex H H' → Q (.str (fillS z w b)) H'
theorem ev_filled {E : XK} {t1 t2 t3 : TE} {σ : L2.St} {H : Hp} {z : Str} {w : Nat} {b : Bool} (h1 : Ev t1 σ H (.str z)) (h2 : Ev t2 σ H (.int (w : Int))) (h3 : Ev t3 σ H (.bl b)) (hz : z.length ≤ 1000) (hw : w ≤ 1000) : Ev (tCall spFilled [] E (tCons t1 (tCons t2 (tCons t3 tNil)))) σ H (.str (fillS z w b)) :=
  ev_call (ea_cons h1 (ea_cons h2 (ea_cons h3 ea_nil))) fun H1 e Q q _ => ⟨z, w, b, rfl, hz, hw, fun H' e' => q H' e'⟩
theorem fill8 {z : Str} : fillS z 8 false = pad8 z := by
  unfold fillS pad8
  rw [if_neg (by simp)]
  apply TL.ext_tl
  rw [TL.tl_append]
  rfl
theorem fill3 {n : Nat} : fillS (Str.ofString (toString (n : Int))) 3 true = pad3 n := by
  unfold fillS pad3
  rw [if_pos rfl]
  apply TL.ext_tl
  rw [TL.tl_append, TL.len_tl, TL.tl_num]
  rfl
theorem ok_u_law_filled (T : Txt K mg A) : FnOk P w K mg base CX0 1 A.f_u_law_filled A.d_u_law_filled (["text", "width", "ahead"] : List Str) spFilled := by
  refine T.F_u_law_filled.ok sc_u_law_filled (fun vs H Q E h => ?_) (fun cdv Ar outer s H vs Q E hr h => ?_)
  · obtain ⟨z, w, b, rfl, _⟩ := h
    rfl
  · obtain ⟨z, w, b, rfl, hz, hw, k⟩ := h
    refine ⟨_, (pss_cons (ps_set (i := 3) sc_u_law_filled.nd rfl (Or.inl rfl) pe_str)
        (pss_cons (ps_for PassesOwn.never rfl (pi_range1 rfl T.z_range (pa_cons (pe_op op_sub (pv 1) (pe_callB len_K (by rfl) T.z_len (by decide +kernel) (pa_cons (pv 0) pa_nil))) pa_nil)) (pg_name (i := 4) sc_u_law_filled.nd rfl (Or.inl rfl)) (pss_one (ps_set (i := 3) sc_u_law_filled.nd rfl (Or.inl rfl) (pe_op op_add_str (pv 3) pe_str))))
        (pss_cons (ps_if (pt_val (pv 2)) (pss_one (ps_ret (pe_op op_add_str (pv 3) (pv 0)))) pss_nil)
        (pss_one (ps_ret (pe_op op_add_str (pv 0) (pv 3))))))), ?_⟩
    try dsimp only
    refine q_asg (v := .str (txt [])) ev_c fun H1 e1 => ?_
    try dsimp only
    refine q_forI (ei_rng1 (n := (w : Int) - (z.length : Int)) (ea_cons (ev_op (ev_var (i := 1) rfl) (ev_lenS (K := K) (ev_var (i := 0) rfl) (by omega)) rv_I0) ea_nil) (by omega)) fun H2 e2 => ⟨fun i σ' G => ∃ kv : Option V, σ' = [some (.str z), some (.int (w : Int)), some (.bl b), some (.str (txt (List.replicate i 32))), kv] ∧ Ex H2 G, ⟨none, rfl, Ex.refl _⟩, fun i σ' G _ ⟨_, _, e⟩ => e, ?_, ?_⟩
    · rintro i x σ' G G' hi ⟨kv, rfl, eG⟩ ⟨rfl, rfl⟩
      dsimp only [gName]
      try dsimp only
      exact s_asg (v := .str (txt (List.replicate (i + 1) 32))) (ev_is (ev_op (ev_var (i := 3) rfl) ev_c (rv_addS (x := txt (List.replicate i 32)) (y := txt [32]) (by rw [txt_len, txt_len, List.length_replicate]; show i + 1 ≤ 100000; omega))) (by rw [txt_add, List.replicate_succ'])) fun G1 g1 => ⟨_, rfl, eG.trans g1⟩
    rintro σ' G ⟨kv, rfl, eG⟩
    have e0 := (e1.trans e2).trans eG
    rw [show ((w : Int) - (z.length : Int)).toNat = w - z.length by omega]
    try dsimp only
    refine q_when (b := b) (et_B (ev_var (i := 2) rfl)) (fun hb H3 e3 => ?_) (fun hb H3 e3 => ?_)
    · exact s_ret (v := .str (fillS z w b)) (ev_is (ev_op (ev_var (i := 3) rfl) (ev_var (i := 0) rfl) (rv_addS (by rw [txt_len, List.length_replicate]; omega))) (by unfold fillS; rw [if_pos hb])) fun H4 e4 => k H4 (e0.trans (e3.trans e4))
    · exact s_ret (v := .str (fillS z w b)) (ev_is (ev_op (ev_var (i := 0) rfl) (ev_var (i := 3) rfl) (rv_addS (by rw [txt_len, List.length_replicate]; omega))) (by unfold fillS; rw [if_neg (by rw [hb]; simp)])) fun H4 e4 => k H4 (e0.trans (e3.trans e4))

def spLawLine (K : PySem.W.Frag) : Sp := fun vs H Q _ => ∃ (z : Str) (p : Addr) (ns : List Int), vs = [.str z, .ref p] ∧ z.length ≤ 8 ∧ SqL K H p (ns.map V.int) ∧ ns.length ≤ 100 ∧ (∀ x ∈ ns, 0 ≤ x ∧ x ≤ 96) ∧ ∀ H', Ex H H' → Q (.str (lineS z ns)) H'
theorem ev_lawLine {K : PySem.W.Frag} {E : XK} {t1 t2 : TE} {σ : L2.St} {H : Hp} {z : Str} {ns : List Int} (h1 : Ev t1 σ H (.str z)) (h2 : EvR t2 σ H fun v G => ∃ p, v = .ref p ∧ SqL K G p (ns.map V.int)) (hz : z.length ≤ 8) (hl : ns.length ≤ 100) (hx : ∀ x ∈ ns, 0 ≤ x ∧ x ≤ 96) :
    Ev (tCall (spLawLine K) [] E (tCons t1 (tCons t2 tNil))) σ H (.str (lineS z ns)) := fun H1 e Q q => h1 H1 e _ fun H2 e2 => h2 H2 (e.trans e2) _ fun v H3 e3 hv => by
  obtain ⟨p, rfl, hp⟩ := hv
  exact ⟨z, p, ns, rfl, hz, hp, hl, hx, fun H' e' => q H' ((e2.trans e3).trans e')⟩
theorem lineS_more {z : Str} {ns : List Int} {x : Int} : lineS z (ns ++ [x]) = lineS z ns ++ pad3 x.toNat := by
  unfold lineS
  rw [List.map_append, cat_app, str_assoc]
  show _ ++ (_ ++ catS [pad3 x.toNat]) = _
  rw [cat_one]
theorem num_len {x : Int} (h : 0 ≤ x ∧ x ≤ 96) : (Str.ofString (toString x)).length ≤ 2 := by
  obtain ⟨n, rfl⟩ := Int.eq_ofNat_of_zero_le h.1
  rw [TL.len_tl, TL.tl_num]
  exact numD_len (by omega)
theorem ev_strI {σ : L2.St} {H : Hp} {te : TE} {x : Int} (h : Ev te σ H (.int x)) (hx : 0 ≤ x ∧ x ≤ 96) : Ev (tCB (fun xs H Q => ∃ i : Int, xs = [V.int i] ∧ i.natAbs.log2 < 1920 ∧ Q (V.str (toString i)) H) (tCons te tNil)) σ H (.str (toString x)) := ev_cb (ea_cons h ea_nil) fun H2 e2 Q q => ⟨x, rfl, Nat.lt_of_le_of_lt (Nat.log2_le_self _) (by omega), q H2 (Ex.refl H2)⟩
theorem ok_u_law_line (T : Txt K mg A) : FnOk P w K mg base CX0 2 A.f_u_law_line A.d_u_law_line (["word", "numbers"] : List Str) (spLawLine K) := by
  refine T.F_u_law_line.ok sc_u_law_line (fun vs H Q E h => ?_) (fun cdv Ar outer s H vs Q E hr h => ?_)
  · obtain ⟨z, p, ns, rfl, _⟩ := h
    rfl
  · obtain ⟨z, p, ns, rfl, hz, hp, hl, hx, k⟩ := h
    refine ⟨_, (pss_cons (ps_set (i := 2) sc_u_law_line.nd rfl (Or.inl rfl) (pe_call (ok_u_law_filled T) (hr.mono (by omega)) rfl T.g_u_law_filled T.k_u_law_filled (b_u_law_filled T) .nil pass0 (pa_cons (pv 0) (pa_cons pe_int (pa_cons pe_bl pa_nil)))))
        (pss_cons (ps_for PassesOwn.never rfl (pi_listK (pv 1)) (pg_name (i := 3) sc_u_law_line.nd rfl (Or.inl rfl)) (pss_one (ps_set (i := 2) sc_u_law_line.nd rfl (Or.inl rfl) (pe_op op_add_str (pv 2) (pe_call (ok_u_law_filled T) (hr.mono (by omega)) rfl T.g_u_law_filled T.k_u_law_filled (b_u_law_filled T) .nil pass0 (pa_cons (pe_callTy call_str_int (by rfl) T.z_str (by decide +kernel) (pa_cons (pv 3) pa_nil)) (pa_cons pe_int (pa_cons pe_bl pa_nil))))))))
        (pss_one (ps_ret (pv 2))))), ?_⟩
    try dsimp only
    refine q_asg (v := .str (lineS z [])) (ev_is (ev_filled (w := 8) (b := false) (ev_var (i := 0) rfl) ev_c ev_c (by omega) (by decide)) (by rw [fill8]; unfold lineS; rw [List.map_nil, cat_none, str_nil])) fun H1 e1 => ?_
    try dsimp only
    refine q_forLn (K := K) (a := p) (xs := ns.map V.int) (j := 3) (ev_var (i := 1) rfl) (ex_l e1 hp) (fun i σ' G => ∃ v3 : Option V, σ' = [some (.str z), some (.ref p), some (.str (lineS z (ns.take i))), v3] ∧ Ex H G) (fun H2 e2 => ⟨_, rfl, e1.trans e2⟩) (fun i σ' G _ ⟨_, _, e⟩ => ex_l e hp) ?_ ?_
    · rintro i y σ' G hy ⟨v3, rfl, eG⟩
      obtain ⟨m, rfl, hm⟩ := some_int hy
      have hi : i < ns.length := (List.getElem?_eq_some_iff.mp hm).1
      have hb := hx m (List.mem_of_getElem? hm)
      have htk : ns.take (i + 1) = ns.take i ++ [m] := by
        rw [List.take_succ_eq_append_getElem hi]
        rw [List.getElem?_eq_getElem hi] at hm
        rw [Option.some.inj hm]
      have l2 := num_len hb
      obtain ⟨n, rfl⟩ := Int.eq_ofNat_of_zero_le hb.1
      have f3 : (fillS (Str.ofString (toString (n : Int))) 3 true).length = 3 := by rw [fill3]; exact pad3_len (by omega)
      try dsimp only
      refine s_asg (v := .str (lineS z (ns.take (i + 1)))) (ev_is (ev_op (ev_var (i := 2) rfl) (ev_filled (w := 3) (b := true) (ev_strI (ev_var (i := 3) rfl) hb) ev_c ev_c (by omega) (by decide)) (rv_addS (by rw [lineS_len hz fun x h => hx x (List.mem_of_mem_take h), List.length_take]; show _ + (fillS (Str.ofString (toString (n : Int))) 3 true).length ≤ _; omega))) (by rw [htk, lineS_more]; exact congrArg (fun q => V.str (lineS z (ns.take i) ++ q)) fill3)) fun G1 g1 => ⟨_, rfl, eG.trans g1⟩
    rintro σ' G ⟨v3, rfl, eG⟩
    rw [List.length_map, List.take_length]
    exact s_ret (ev_var (i := 2) rfl) fun G1 g1 => k G1 (eG.trans g1)

/-! ### data told twice -/
theorem ed_ev {K : PySem.W.Frag} {σ : L2.St} {H : Hp} {te : TE} {v : V} {d : PyData} (h : Ev te σ H v) (hd : ∀ H1, Ex H H1 → Dp K H1 v d) : EvR te σ H fun v H1 => Dp K H1 v d := er_ev h hd
theorem ed_int {K : PySem.W.Frag} {σ : L2.St} {H : Hp} {te : TE} {z : Int} (h : Ev te σ H (.int z)) : EvR te σ H fun v H1 => Dp K H1 v (.int z) := er_ev h fun _ _ => .int z
theorem ed_bl {K : PySem.W.Frag} {σ : L2.St} {H : Hp} {te : TE} {z : Bool} (h : Ev te σ H (.bl z)) : EvR te σ H fun v H1 => Dp K H1 v (.bool z) := er_ev h fun _ _ => .bl z
theorem ed_str {K : PySem.W.Frag} {σ : L2.St} {H : Hp} {te : TE} {z : Str} (h : Ev te σ H (.str z)) : EvR te σ H fun v H1 => Dp K H1 v (.str z) := er_ev h fun _ _ => .str z
theorem ed_L {K : PySem.W.Frag} {σ : L2.St} {H : Hp} {te : TE} {xs : List Int} (h : EvL te σ H (xs.map V.int)) : EvR te σ H fun v H1 => Dp K H1 v (.list (xs.map .int)) := (er_L h).imp fun v H1 q => by
  obtain ⟨p, rfl, hp⟩ := q
  exact .lst (sq_of hp) (dp_ints _)
theorem ed_held {K : PySem.W.Frag} {σ : L2.St} {H : Hp} {i : Nat} {p : Addr} {xs : List Int} (h : σ[i]? = some (some (.ref p))) (hp : SqL K H p (xs.map V.int)) : EvR (tVar i) σ H fun v H1 => Dp K H1 v (.list (xs.map .int)) := er_ev (ev_var h) fun H1 e => .lst (ex_l e hp) (dp_ints _)
def EvDs (K : PySem.W.Frag) (ta : TA) (σ : L2.St) (H : Hp) (ds : List PyData) : Prop := ∀ H1, Ex H H1 → ∀ Q : List V → Hp → Prop, (∀ vs H2, Ex H1 H2 → DpAll K H2 vs ds → Q vs H2) → ta σ H1 Q
theorem eds_nil {K : PySem.W.Frag} {σ : L2.St} {H : Hp} : EvDs K tNil σ H [] := fun H1 _ Q q => q [] H1 (Ex.refl H1) .nil
theorem eds_cons {K : PySem.W.Frag} {σ : L2.St} {H : Hp} {te : TE} {ta : TA} {d : PyData} {ds : List PyData} (h : EvR te σ H fun v H1 => Dp K H1 v d) (r : EvDs K ta σ H ds) : EvDs K (tCons te ta) σ H (d :: ds) := fun H1 e Q q =>
  h H1 e _ fun v H2 e2 hv => r H2 (e.trans e2) _ fun vs H3 e3 hs => q (v :: vs) H3 (e2.trans e3) (.cons (dp_ex e3 hv) hs)
theorem ed_tup {K : PySem.W.Frag} {σ : L2.St} {H : Hp} {ta : TA} {ds : List PyData} (h : EvDs K ta σ H ds) (hl : ds.length ≤ 1000) : EvR (tTup ta) σ H fun v H1 => Dp K H1 v (.tuple ds) := fun H1 e Q q =>
  h H1 e _ fun vs H2 e2 hs => by
    have l := (dp_get hs).1
    exact ⟨by rw [l]; exact Nat.le_trans hl (by decide), fun p hp => q _ _ (e2.trans (Ex.new hp)) (.tup (st_of upd_same) (dpa_ex (Ex.new hp) hs))⟩
theorem ed_lst {K : PySem.W.Frag} {σ : L2.St} {H : Hp} {ta : TA} {ds : List PyData} (h : EvDs K ta σ H ds) (hl : ds.length ≤ 1000) : EvR (tLst ta) σ H fun v H1 => Dp K H1 v (.list ds) := fun H1 e Q q =>
  h H1 e _ fun vs H2 e2 hs => by
    have l := (dp_get hs).1
    exact ⟨by rw [l]; exact Nat.le_trans hl (by decide), fun p hp => q _ _ (e2.trans (Ex.new hp)) (.lst (sq_of upd_same) (dpa_ex (Ex.new hp) hs))⟩
theorem ev_same {K : PySem.W.Frag} {E : XK} {σ : L2.St} {H : Hp} {ta tb : TE} {d : PyData} (ha : EvR ta σ H fun v H1 => Dp K H1 v d) (hb : EvR tb σ H fun v H1 => Dp K H1 v d) (hf : Flat 4 d) : Ev (tCall (sp_same K 4) [] E (tCons ta (tCons tb tNil))) σ H (.bl true) := fun H1 e Q q =>
  ha H1 e _ fun v H2 e2 hv => hb H2 (e.trans e2) _ fun w H3 e3 hw => ⟨v, w, d, rfl, dp_ex e3 hv, hw, hf, q H3 (e2.trans e3)⟩
theorem dp_rows {K : PySem.W.Frag} {H : Hp} : ∀ (vs : List V) (xss : List (List Int)), vs.length = xss.length → (∀ (i : Nat) v, vs[i]? = some v → ∃ p, v = .ref p ∧ SqL K H p ((xss.getD i []).map V.int)) → DpAll K H vs (xss.map fun xs => .list (xs.map .int))
  | [], [], _, _ => .nil
  | v :: vs, xs :: xss, hl, h => by
    obtain ⟨p, rfl, hp⟩ := h 0 v rfl
    exact .cons (.lst hp (dp_ints _)) (dp_rows vs xss (by simpa using hl) fun i u hu => h (i + 1) u hu)
theorem flat_rows {xss : List (List Int)} (h : xss.length ≤ 400) (hx : ∀ xs ∈ xss, xs.length ≤ 360) : Flat 4 (.list (xss.map fun xs => .list (xs.map .int))) :=
  ⟨by rw [List.length_map]; omega, fun d hd => by
    obtain ⟨xs, hm, rfl⟩ := List.mem_map.mp hd
    exact ⟨by rw [List.length_map]; have := hx xs hm; omega, fun d hd => by
      obtain ⟨i, _, rfl⟩ := List.mem_map.mp hd
      exact True.intro⟩⟩
/-- lists of ints within a list -/
structure Rows (K : PySem.W.Frag) (H : Hp) (a : Addr) (xss : List (List Int)) : Prop where
  all : ∃ vs : List V, SqL K H a vs ∧ vs.length = xss.length ∧ ∀ (i : Nat) v, vs[i]? = some v → ∃ p, v = .ref p ∧ SqL K H p ((xss.getD i []).map V.int)
theorem Rows.ex {K : PySem.W.Frag} {H H' : Hp} {a : Addr} {xss : List (List Int)} (e : Ex H H') (h : Rows K H a xss) : Rows K H' a xss := by
  obtain ⟨vs, h1, h2, h3⟩ := h.all
  exact ⟨vs, ex_l e h1, h2, fun i v hv => (h3 i v hv).imp fun p h => ⟨h.1, ex_l e h.2⟩⟩
theorem Rows.dp {K : PySem.W.Frag} {H : Hp} {a : Addr} {xss : List (List Int)} (h : Rows K H a xss) : Dp K H (.ref a) (.list (xss.map fun xs => .list (xs.map .int))) := by
  obtain ⟨vs, h1, h2, h3⟩ := h.all
  exact .lst h1 (dp_rows vs xss h2 h3)
theorem ed_rows {K : PySem.W.Frag} {σ : L2.St} {H : Hp} {i : Nat} {p : Addr} {xss : List (List Int)} (h : σ[i]? = some (some (.ref p))) (hp : Rows K H p xss) : EvR (tVar i) σ H fun v H1 => Dp K H1 v (.list (xss.map fun xs => .list (xs.map .int))) := er_ev (ev_var h) fun H1 e => (hp.ex e).dp
theorem getD_mem {α : Type} {xs : List α} {i : Nat} {d : α} (h : i < xs.length) : xs.getD i d ∈ xs := by
  rw [List.getD_eq_getElem?_getD, List.getElem?_eq_getElem h]
  exact List.getElem_mem _

theorem drop_at {α : Type} {l m : List α} {k : Nat} : (l ++ m).drop (l.length + k) = m.drop k := by
  rw [List.drop_append, List.drop_of_length_le (by omega), List.nil_append, Nat.add_sub_cancel_left]
theorem el_chart {K : PySem.W.Frag} {A : Ads} {E : XK} {σ : L2.St} {H : Hp} {t1 : TE} {v h : V} {n : Nat} {gs : List (Str × Int)} {xss : List (List Int)} (h1 : Ev t1 σ H v) (W : WatchOk K A v H h n gs xss) (hn : n ≤ 24) (hg : ∀ g ∈ gs, g.1.length ≤ 8) : EvL (tCall (spChart K A) [] E (tCons t1 tNil)) σ H ((chartS (gs.map (·.1)) xss n).map V.str) := fun H1 e Q q => h1 H1 e _ fun H2 e2 =>
  ⟨v, h, n, gs, xss, rfl, W.ex (e.trans e2), hn, hg, fun p H' hp e' h' => q p H' (fresh_back e2 hp) (e2.trans e') h'⟩
theorem chartS_len {names : List Str} {xss : List (List Int)} {n : Nat} : (chartS names xss n).length = 1 + names.length := by simp [chartS, Nat.add_comm]
theorem ev_rstrip {σ : L2.St} {H : Hp} {to : TE} {a : Str} (h : Ev to σ H (.str a)) (hz : a.length ≤ 100000) : Ev (tM0 (fun x xs H Q => ∃ a, x = .str a ∧ xs = [] ∧ a.length ≤ sizeLine ∧ Q (.str (Txt.rstrip a)) H) to) σ H (.str (Txt.rstrip a)) := fun H1 e Q q => h H1 e _ fun H2 e2 => ⟨⟨_, rfl⟩, a, rfl, rfl, sz_of hz, q H2 e2⟩
theorem ev_lstrip {σ : L2.St} {H : Hp} {to : TE} {a : Str} (h : Ev to σ H (.str a)) (hz : a.length ≤ 100000) : Ev (tM0 (fun x xs H Q => ∃ a, x = .str a ∧ xs = [] ∧ a.length ≤ sizeLine ∧ Q (.str (Txt.lstrip a)) H) to) σ H (.str (Txt.lstrip a)) := fun H1 e Q q => h H1 e _ fun H2 e2 => ⟨⟨_, rfl⟩, a, rfl, rfl, sz_of hz, q H2 e2⟩
theorem tl_line {z : Str} {ns : List Int} : (lineS z ns).cps.toList = (pad8 z).cps.toList ++ ns.flatMap fun x => (pad3 x.toNat).cps.toList := by
  show TL.tl (lineS z ns) = _
  unfold lineS
  rw [TL.tl_append]
  congr 1
  show List.flatMap _ (ns.map fun x => pad3 x.toNat) = _
  rw [List.flatMap_map]
theorem cut_nat {z : Str} {i j : Nat} (h : i ≤ j) (hj : j ≤ z.length) : cutS z (some (i : Int)) (some (j : Int)) = txt ((z.cps.toList.drop i).take (j - i)) := by
  unfold cutS
  rw [HT.sIx_nat, HT.sIx_nat, Nat.min_eq_left (by omega), Nat.min_eq_left (by omega)]
  rfl
theorem cut_pre {z : Str} {j : Nat} (hj : j ≤ z.length) : cutS z none (some (j : Int)) = txt (z.cps.toList.take j) := by
  unfold cutS
  rw [HT.sIx_nat, HT.sIx_none, Nat.min_eq_left (by omega), List.drop_zero, Nat.sub_zero]
  rfl
theorem cps_len (z : Str) : z.cps.toList.length = z.length := by simp [Str.length]
theorem line_head {z : Str} {ns : List Int} (hz : z.length ≤ 8) (h : ∀ x ∈ ns, 0 ≤ x ∧ x ≤ 96) : cutS (lineS z ns) none (some 8) = pad8 z := by
  have e := cut_pre (z := lineS z ns) (j := 8) (by rw [lineS_len hz h]; omega)
  rw [show ((8 : Nat) : Int) = 8 from rfl] at e
  rw [e, tl_line, List.take_left' (by rw [cps_len, pad8_len hz]), txt_of]
theorem chunk {f : Int → List Nat} : ∀ {ns : List Int} {i : Nat}, (∀ x ∈ ns, (f x).length = 3) → i < ns.length → ((ns.flatMap f).drop (3 * i)).take 3 = f (ns.getD i 0)
  | x :: ns, 0, h, _ => by
    have := h x List.mem_cons_self
    show ((f x ++ ns.flatMap f).drop 0).take 3 = f x
    rw [List.drop_zero, List.take_left' this]
  | x :: ns, i + 1, h, hi => by
    have hx := h x List.mem_cons_self
    have := chunk (i := i) (fun y hy => h y (List.mem_cons_of_mem _ hy)) (by simpa using hi)
    show ((f x ++ ns.flatMap f).drop (3 * (i + 1))).take 3 = _
    rw [show 3 * (i + 1) = (f x).length + 3 * i by omega, drop_at, this]
    rfl
theorem line_cell {z : Str} {ns : List Int} {i : Nat} (hz : z.length ≤ 8) (h : ∀ x ∈ ns, 0 ≤ x ∧ x ≤ 96) (hi : i < ns.length) : cutS (lineS z ns) (some (8 + 3 * (i : Int))) (some (11 + 3 * (i : Int))) = pad3 (ns.getD i 0).toNat := by
  have e := cut_nat (z := lineS z ns) (i := 8 + 3 * i) (j := 11 + 3 * i) (by omega) (by rw [lineS_len hz h]; omega)
  have e1 : ((8 + 3 * i : Nat) : Int) = 8 + 3 * (i : Int) := by omega
  have e2 : ((11 + 3 * i : Nat) : Int) = 11 + 3 * (i : Int) := by omega
  rw [e1, e2] at e
  have hl : (pad8 z).cps.toList.length = 8 := by rw [cps_len, pad8_len hz]
  rw [e, tl_line, show 8 + 3 * i = (pad8 z).cps.toList.length + 3 * i by omega, drop_at, show 11 + 3 * i - ((pad8 z).cps.toList.length + 3 * i) = 3 by omega, chunk (fun x hx => by
    have := h x hx
    rw [cps_len, pad3_len (by omega)]) hi, txt_of]
def spCharted (K : PySem.W.Frag) (A : Ads) : Sp := fun vs H Q _ => ∃ (v h : V) (pn pr : Addr) (n : Nat) (gs : List (Str × Int)) (xss : List (List Int)), vs = [v, .ref pn, .ref pr] ∧ WatchOk K A v H h n gs xss ∧ n ≤ 24 ∧ (1 ≤ gs.length ∧ gs.length ≤ 4) ∧ (∀ g ∈ gs, Word g.1) ∧ SqL K H pn ((gs.map (·.1)).map V.str) ∧ RowsL K H pr xss ∧ ∀ H', Ex H H' → Q (.bl true) H' 
theorem ok_u_law_charted (T : Txt K mg A) : FnOk P w K mg base CX0 8 A.f_u_law_charted A.d_u_law_charted (["watch", "names", "rows"] : List Str) (spCharted K A) := by
  refine T.F_u_law_charted.ok sc_u_law_charted (fun vs H Q E h => ?_) (fun cdv Ar outer s H vs Q E hr h => ?_)
  · obtain ⟨v, h, pn, pr, n, gs, xss, rfl, _⟩ := h
    rfl
  · obtain ⟨v, h, pn, pr, n, gs, xss, rfl, W, hn, hgl, hgw, hpn, hpr, k⟩ := h
    refine ⟨_, (pss_cons (ps_set (i := 3) sc_u_law_charted.nd rfl (Or.inl rfl) (pe_callB len_K (by rfl) T.z_len (by decide +kernel) (pa_cons (pe_ix ix_lK (pv 2) pe_int (fun _ _ => rfl)) pa_nil)))
        (pss_cons (ps_set (i := 4) sc_u_law_charted.nd rfl (Or.inl rfl) (pe_lst (pa_cons (pe_call (ok_u_law_line T) (hr.mono (by omega)) rfl T.g_u_law_line T.k_u_law_line (b_u_law_line T) .nil pass0 (pa_cons pe_str (pa_cons (pe_lc (own := [("h", 5)]) (g := gName 5) (tt := tYes) rfl sc_u_law_charted.nd (pi_range1 rfl T.z_range (pa_cons (pv 3) pa_nil)) (blkOk_by (own := [("h", 5)]) (N := N_u_law_charted) (sc := defScope s_u_law_charted) (by decide +kernel)) (fun _ _ _ _ _ => (pg_name (i := 5) sc_u_law_charted.nd rfl (Or.inl rfl))) (fun _ _ _ _ _ => pts_nil) (fun _ _ _ _ _ => (pv 5))) pa_nil))) pa_nil)))
        (pss_cons (ps_for PassesOwn.never rfl (pi_range1 rfl T.z_range (pa_cons (pe_callB len_K (by rfl) T.z_len (by decide +kernel) (pa_cons (pv 1) pa_nil)) pa_nil)) (pg_name (i := 6) sc_u_law_charted.nd rfl (Or.inl rfl)) (pss_one (ps_expr (pe_bm PySem.F.plainAttrs_list PySem.F.slot_list_append PySem.F.type_list_append mt_append (pv 4) (pa_cons (pe_call (ok_u_law_line T) (hr.mono (by omega)) rfl T.g_u_law_line T.k_u_law_line (b_u_law_line T) .nil pass0 (pa_cons (pe_ix ix_lK (pv 1) (pv 6) (fun _ _ => rfl)) (pa_cons (pe_ix ix_lK (pv 2) (pv 6) (fun _ _ => rfl)) pa_nil))) pa_nil)))))
        (pss_cons (ps_set (i := 7) sc_u_law_charted.nd rfl (Or.inl rfl) (pe_call (ok_chart T) (hr.mono (by omega)) rfl T.g_chart T.k_chart (b_chart T) .nil pass0 (pa_cons (pv 0) pa_nil)))
        (pss_cons (ps_if (pt_not (pt_val (pe_call (ok_u_law_same T) (hr.mono (by omega)) rfl T.g_u_law_same T.k_u_law_same (b_u_law_same T) .nil pass0 (pa_cons (pv 7) (pa_cons (pv 4) pa_nil))))) (pss_one (ps_ret pe_bl)) pss_nil)
        (pss_cons (ps_for PassesOwn.never rfl (pi_range1 rfl T.z_range (pa_cons (pe_callB len_K (by rfl) T.z_len (by decide +kernel) (pa_cons (pv 1) pa_nil)) pa_nil)) (pg_name (i := 6) sc_u_law_charted.nd rfl (Or.inl rfl)) (pss_cons (ps_set (i := 8) sc_u_law_charted.nd rfl (Or.inl rfl) (pe_ix ix_lK (pv 7) (pe_op op_add pe_int (pv 6)) (fun _ _ => rfl)))
        (pss_cons (ps_if (PW.pt (pw_or (pt_cmpR op_ne (pe_callB len_K (by rfl) T.z_len (by decide +kernel) (pa_cons (pv 8) pa_nil)) (pe_op op_add pe_int (pe_op op_mul pe_int (pv 3))) (nomark _)) (pw_or1 (pt_cmpR op_ne (pe_m0 PySem.F.slot_str_rstrip PySem.F.type_str_rstrip mt_rstrip (pe_slice sl_str (pv 8) po_none (po_some pe_int))) (pe_ix ix_lK (pv 1) (pv 6) (fun _ _ => rfl)) (nomark _))))) (pss_one (ps_ret pe_bl)) pss_nil)
        (pss_one (ps_for PassesOwn.never rfl (pi_range1 rfl T.z_range (pa_cons (pv 3) pa_nil)) (pg_name (i := 5) sc_u_law_charted.nd rfl (Or.inl rfl)) (pss_one (ps_if (pt_cmpR op_ne (pe_m0 PySem.F.slot_str_lstrip PySem.F.type_str_lstrip mt_lstrip (pe_slice sl_str (pv 8) (po_some (pe_op op_add pe_int (pe_op op_mul pe_int (pv 5)))) (po_some (pe_op op_add pe_int (pe_op op_mul pe_int (pv 5)))))) (pe_callTy call_str_int (by rfl) T.z_str (by decide +kernel) (pa_cons (pe_ix ix_lK (pe_ix ix_lK (pv 2) (pv 6) (fun _ _ => rfl)) (pv 5) (fun _ _ => rfl)) pa_nil)) (nomark _)) (pss_one (ps_ret pe_bl)) pss_nil)))))))
        (pss_cons (ps_expr (pe_bm0 PySem.F.plainAttrs_list PySem.F.slot_list_reverse PySem.F.type_list_reverse mt_reverse (pv 7)))
        (pss_cons (ps_expr (pe_bm PySem.F.plainAttrs_list PySem.F.slot_list_append PySem.F.type_list_append mt_append (pv 7) (pa_cons pe_str pa_nil)))
        (pss_one (ps_ret (pe_and (pe_call (ok_u_law_same T) (hr.mono (by omega)) rfl T.g_u_law_same T.k_u_law_same (b_u_law_same T) .nil pass0 (pa_cons (pe_call (ok_chart T) (hr.mono (by omega)) rfl T.g_chart T.k_chart (b_chart T) .nil pass0 (pa_cons (pv 0) pa_nil)) (pa_cons (pv 4) pa_nil))) (pe_one (pe_call (ok_u_law_same T) (hr.mono (by omega)) rfl T.g_u_law_same T.k_u_law_same (b_u_law_same T) .nil pass0 (pa_cons (pe_prop (pv 0) T.cl_Watch T.P_Watch_rows (ok_Watch_rows T) (hr.mono (by omega)) (b_Watch_rows T) .nil pass0 rfl) (pa_cons (pv 2) pa_nil))))))))))))))), ?_⟩
    obtain ⟨rvs, hrv, hrl, hra⟩ := hpr.all
    have hln := W.sh.len
    have nb := W.nb
    have hg : ∀ g ∈ gs, g.1.length ≤ 8 := fun g hm => (hgw g hm).len.2
    obtain ⟨nm, hnm⟩ : ∃ f : Nat → Str, f = fun i => (gs.map (·.1) : List Str).getD i "" := ⟨_, rfl⟩
    have nmW : ∀ i, i < gs.length → Word (nm i) ∧ ((gs.map (·.1)).map V.str)[i]? = some (.str (nm i)) := fun i hi => by
      rw [hnm]
      dsimp only
      rw [List.getElem?_map, List.getD_eq_getElem?_getD, List.getElem?_map, List.getElem?_eq_getElem hi]
      exact ⟨hgw _ (List.getElem_mem hi), rfl⟩
    have rowI : ∀ i, i < gs.length → ∃ t, rvs[i]? = some (.ref t) ∧ SqL K H t ((xss.getD i []).map V.int) ∧ (xss.getD i []).length = n ∧ ∀ x ∈ xss.getD i [], 0 ≤ x ∧ x ≤ 96 := fun i hi => by
      have e : rvs[i]? = some rvs[i] := List.getElem?_eq_getElem (by omega)
      obtain ⟨t, ht, hT⟩ := hra i _ e
      have hm : xss.getD i [] ∈ xss := in_getD (by omega)
      exact ⟨t, by rw [e, ht], hT, W.sh.row' _ hm, W.sh.val _ hm⟩
    have due_eq : chartS (gs.map (·.1)) xss n = lineS "gate" (hrsL n) :: (List.range gs.length).map fun i => lineS (nm i) (xss.getD i []) := by
      unfold chartS
      rw [List.length_map, hnm]
    obtain ⟨t0, a0, b0, c0, d0⟩ := rowI 0 (by omega)
    try dsimp only
    refine q_asg (v := .int (n : Int)) (ev_cb (r := rLenK K) (ea_cons (ev_op (ev_var (i := 2) rfl) ev_c (rv_ixL (K := K) hrv (atI_nat (j := 0) a0))) ea_nil) fun G e Q q => ⟨.ref t0, n, rfl, .inl ⟨_, ex_l e b0, by rw [List.length_map, c0]⟩, q G (Ex.refl G)⟩) fun H1 e1 => ?_
    try dsimp only
    refine q_asgL (xs := [V.str (lineS "gate" (hrsL n))]) (el_lst (ea_cons (ev_lawLine (K := K) (z := "gate") (ns := hrsL n) ev_c ((er_L (el_isW (el_rngY (n := n) (fun i => .int (i : Int)) (ea_cons (ev_var (i := 3) rfl) ea_nil) (by omega) (fun x => rfl) fun i H hi e => ev_var (i := 5) rfl) (by unfold hrsL; rw [List.map_map]; rfl))).imp fun v G ⟨p, z1, z2⟩ => ⟨p, z1, sq_of z2⟩) (by decide +kernel) (by rw [hrsL_len]; omega) (hrsL_b hn)) ea_nil) (by show 1 ≤ 100000; decide)) fun dp H2 hdp e2 h2 => ?_
    have dp0 : H dp = none := fresh_back e1 hdp
    have e02 := e1.trans e2
    try dsimp only
    refine q_forR1 (j := 6) (n := (gs.length : Int)) (ea_cons (ev_cb (r := rLenK K) (ea_cons (ev_var (i := 1) rfl) ea_nil) fun G e Q q => ⟨.ref pn, gs.length, rfl, .inl ⟨_, ex_l (e02.trans e) hpn, by simp⟩, q G (Ex.refl G)⟩) ea_nil) (by omega)
      (fun i σ' G => ∃ v6 : Option V, σ' = [some v, some (.ref pn), some (.ref pr), some (.int (n : Int)), some (.ref dp), none, v6, none, none] ∧ Ex H G ∧ G dp = some (.lst ((lineS "gate" (hrsL n) :: (List.range i).map fun i => lineS (nm i) (xss.getD i [])).map V.str)))
      (fun H3 e3 => ⟨none, rfl, e02.trans e3, e3 _ _ h2⟩) ?_ ?_
    · rintro i σ' G hi ⟨v6, rfl, eG, hd⟩
      have hi : i < gs.length := by omega
      obtain ⟨t, a1, b1, c1, d1⟩ := rowI i hi
      obtain ⟨w1, w2⟩ := nmW i hi
      try dsimp only
      refine s_app hd (ev_var (i := 4) rfl) (ev_lawLine (K := K) (z := nm i) (ns := xss.getD i []) (ev_op (ev_var (i := 1) rfl) (ev_var (i := 6) rfl) (rv_ixL (K := K) (ex_l eG hpn) (atI_nat w2))) (er_ev (ev_op (ev_var (i := 2) rfl) (ev_var (i := 6) rfl) (rv_ixL (K := K) (ex_l eG hrv) (atI_nat a1))) fun F e => ⟨t, rfl, ex_l (eG.trans e) b1⟩) w1.len.2 (by omega) d1) (by simp; omega) fun G1 g1 => ⟨_, rfl, Ex.mut (eG.trans g1) dp0, ?_⟩
      rw [upd_same, List.range_succ, List.map_append, List.map_cons, List.map_cons, List.map_append]
      rfl
    rintro σ' G ⟨v6, rfl, eG, hd⟩
    rw [Int.toNat_natCast, ← due_eq] at hd
    try dsimp only
    refine q_asgL (el_chart (K := K) (A := A) (ev_var (i := 0) rfl) (W.ex eG) hn hg) fun tp H3 htp e3 h3 => ?_
    have e03 := eG.trans e3
    have tp0 : H tp = none := fresh_back eG htp
    have fl : Flat 4 (.list ((chartS (gs.map (·.1)) xss n).map .str)) := flat_strs (by rw [chartS_len, List.length_map]; omega)
    try dsimp only
    refine q_skip (et_notT (et_B (ev_same (er_ev (ev_var (i := 7) rfl) fun F e => .lst (sq_of (e _ _ h3)) (dp_strs _)) (er_ev (ev_var (i := 4) rfl) fun F e => .lst (sq_of (e _ _ (e3 _ _ hd))) (dp_strs _)) fl))) fun H4 e4 => ?_
    have e04 := e03.trans e4
    try dsimp only
    refine q_forR1 (j := 6) (n := (gs.length : Int)) (ea_cons (ev_cb (r := rLenK K) (ea_cons (ev_var (i := 1) rfl) ea_nil) fun G e Q q => ⟨.ref pn, gs.length, rfl, .inl ⟨_, ex_l (e04.trans e) hpn, by simp⟩, q G (Ex.refl G)⟩) ea_nil) (by omega)
      (fun i σ' F => ∃ v5 v6 v8 : Option V, σ' = [some v, some (.ref pn), some (.ref pr), some (.int (n : Int)), some (.ref dp), v5, v6, some (.ref tp), v8] ∧ Ex H3 F)
      (fun H5 e5 => ⟨_, _, _, rfl, e4.trans e5⟩) ?_ ?_
    · rintro i σ' F hi ⟨v5, v6', v8, rfl, eF⟩
      have hi : i < gs.length := by omega
      obtain ⟨t, a1, b1, c1, d1⟩ := rowI i hi
      obtain ⟨w1, w2⟩ := nmW i hi
      have e0F := e03.trans eF
      have at1 : atI ((chartS (gs.map (·.1)) xss n).map V.str) (1 + (i : Int)) = some (.str (lineS (nm i) (xss.getD i []))) := by
        rw [show (1 : Int) + (i : Int) = ((1 + i : Nat) : Int) by omega]
        refine atI_nat ?_
        rw [due_eq, Nat.add_comm 1 i, List.map_cons, List.getElem?_cons_succ, List.getElem?_map, List.getElem?_map, List.getElem?_range hi]
        rfl
      generalize nm i = z at *
      generalize xss.getD i [] = ns at *
      have hz := w1.len.2
      have hL := lineS_len hz d1
      have hH := line_head hz d1
      have hC := fun (j : Nat) (hj : j < ns.length) => line_cell (i := j) hz d1 hj
      obtain ⟨L, eL⟩ : ∃ L, L = lineS z ns := ⟨_, rfl⟩
      rw [← eL] at at1 hL hH hC
      clear eL
      try dsimp only
      refine q_asg (v := .str L) (ev_op (ev_var (i := 7) rfl) (ev_op ev_c (ev_var (i := 6) rfl) rv_I0) (rv_ixL (K := K) (sq_of (eF _ _ h3)) at1)) fun F1 f1 => ?_
      have eF1 := eF.trans f1
      try dsimp only
      refine q_skip (et_orF (et_test (ev_is (ev_op (ev_lenS (K := K) (ev_var (i := 8) rfl) (by omega)) (ev_op ev_c (ev_op ev_c (ev_var (i := 3) rfl) (rv_I (show CMul 3 (n : Int) from .inl ⟨by decide, by decide⟩))) rv_I0) (rv_ne rfl)) (by rw [dec_ii, decide_eq_true (by omega)]; rfl)))
        (et_test (ev_is (ev_op (ev_is (ev_rstrip (ev_is (ev_slS (ev_var (i := 8) rfl) eo_none (eo_some (i := 8) ev_c) (by omega)) (congrArg V.str hH)) (by rw [pad8_len hz]; decide)) (congrArg V.str (rstrip_pad8 hz fun c hc => by have := w1.all c hc; omega))) (ev_op (ev_var (i := 1) rfl) (ev_var (i := 6) rfl) (rv_ixL (K := K) (ex_l (e03.trans eF1) hpn) (atI_nat w2))) (rv_ne rfl)) (by rw [decide_eq_true rfl]; rfl)))) fun F2 f2 => ?_
      have eF2 := eF1.trans f2
      try dsimp only
      refine s_forR1 (j := 5) (n := (n : Int)) (ea_cons (ev_var (i := 3) rfl) ea_nil) (by omega) (fun j σ' F' => ∃ v5 : Option V, σ' = [some v, some (.ref pn), some (.ref pr), some (.int (n : Int)), some (.ref dp), v5, some (.int (i : Int)), some (.ref tp), some (.str L)] ∧ Ex H3 F') (fun F3 f3 => ⟨_, rfl, eF2.trans f3⟩) ?_ ?_
      · rintro j σ' F' hj ⟨v5', rfl, eF'⟩
        have hj : j < ns.length := by omega
        have hb := d1 _ (in_getD (d := (0 : Int)) hj)
        have xj : (ns.map V.int)[j]? = some (.int (ns.getD j 0)) := by
          rw [List.getElem?_map, List.getD_eq_getElem?_getD, List.getElem?_eq_getElem hj]
          rfl
        have hc := hC j hj
        obtain ⟨m, em⟩ := Int.eq_ofNat_of_zero_le hb.1
        rw [em] at hb hc xj
        try dsimp only
        refine s_when (b := false) (et_test (ev_is (ev_op (ev_is (ev_lstrip (ev_is (ev_slS (ev_var (i := 8) rfl) (eo_some (i := 8 + 3 * (j : Int)) (ev_op ev_c (ev_op ev_c (ev_var (i := 5) rfl) (rv_I (show CMul 3 (j : Int) from .inl ⟨by decide, by decide⟩))) rv_I0)) (eo_some (i := 11 + 3 * (j : Int)) (ev_op ev_c (ev_op ev_c (ev_var (i := 5) rfl) (rv_I (show CMul 3 (j : Int) from .inl ⟨by decide, by decide⟩))) rv_I0)) (by omega)) (congrArg V.str hc)) (by rw [pad3_len (by omega)]; decide)) (congrArg V.str (lstrip_pad3 (n := m) (by omega))))
          (ev_strI (x := (m : Int)) (ev_op (ev_op (ev_var (i := 2) rfl) (ev_var (i := 6) rfl) (rv_ixL (K := K) (ex_l (e03.trans eF') hrv) (atI_nat a1))) (ev_var (i := 5) rfl) (rv_ixL (K := K) (ex_l (e03.trans eF') b1) (atI_nat xj))) hb) (rv_ne rfl)) (by rw [decide_eq_true rfl]; rfl))) (fun z => Bool.noConfusion z) fun _ F3 f3 => ⟨_, rfl, eF'.trans f3⟩
      rintro σ' F' ⟨v5', rfl, eF'⟩
      exact ⟨_, _, _, rfl, eF'⟩
    rintro σ' F ⟨v5, v6', v8, rfl, eF⟩
    try dsimp only
    refine q_rev (eF _ _ h3) (ev_var (i := 7) rfl) fun F1 f1 => ?_
    have e0F := e03.trans (eF.trans f1)
    have dF : F1 dp = some (.lst ((chartS (gs.map (·.1)) xss n).map V.str)) := (eF.trans f1) _ _ (e3 _ _ hd)
    have hdt : dp ≠ tp := fun q => by rw [← q, hd] at htp; cases htp
    try dsimp only
    refine q_app (xs := ((chartS (gs.map (·.1)) xss n).map V.str).reverse) upd_same (ev_var (i := 7) rfl) ev_c (by rw [List.length_reverse, List.length_map, chartS_len, List.length_map]; omega) fun F2 f2 => ?_
    have eF2 : Ex H (upd F2 tp (.lst (((chartS (gs.map (·.1)) xss n).map V.str).reverse ++ [V.str "gate"]))) := Ex.mut ((Ex.mut e0F tp0).trans f2) tp0
    have dF2 : (upd F2 tp (.lst (((chartS (gs.map (·.1)) xss n).map V.str).reverse ++ [V.str "gate"]))) dp = some (.lst ((chartS (gs.map (·.1)) xss n).map V.str)) := by
      rw [upd_ne hdt]
      exact f2 _ _ (by rw [upd_ne hdt]; exact dF)
    generalize upd F2 tp (.lst (((chartS (gs.map (·.1)) xss n).map V.str).reverse ++ [V.str "gate"])) = F3 at *
    try dsimp only
    exact s_ret (v := .bl true) (ev_andV (a := true) (b := true) (ev_same (ed_strs (el_chart (K := K) (A := A) (ev_var (i := 0) rfl) (W.ex eF2) hn hg)) (er_ev (ev_var (i := 4) rfl) fun F e => .lst (sq_of (e _ _ dF2)) (dp_strs _)) fl) fun _ => ev_same ((er_wrows (K := K) (A := A) (ev_var (i := 0) rfl) (W.w.ex eF2) (by omega)).imp fun v G ⟨p, z1, z2⟩ => by rw [z1]; exact Rows.dp ⟨z2.all⟩) (er_ev (ev_var (i := 2) rfl) fun F e => Rows.dp ⟨(hpr.ex (eF2.trans e)).all⟩) (flat_rows (by omega) fun xs hx => by have := W.sh.row' xs hx; omega)) fun F4 f4 => k F4 (eF2.trans f4)

structure GoodG (gs : List (Str × Int)) (m : Nat) : Prop where
  len : gs.length = m
  nd : (gs.map (·.1)).Nodup
  all : ∀ g ∈ gs, Word g.1 ∧ 0 ≤ g.2 ∧ g.2 ≤ 60

theorem er_wneg {K : PySem.W.Frag} {A : Ads} {E : L2.St → XK} {ta : TE} {σ : L2.St} {H : Hp} {h : V} {n : Nat} {gs : List (Str × Int)} {xss : List (List Int)} (ha : EvR ta σ H fun v G => WatchOk K A v G h n gs xss) :
    EvR (tUnS (rOwn1 A.C_Watch (spWNeg K A) E) ta) σ H fun v G => WatchOk K A v G h n gs (xss.map (moveR n (-1) 0)) := fun H1 e Q q => ha H1 e _ fun v H2 e2 hv => by
  obtain ⟨a, dx, w, rfl, h1, _⟩ := id hv.w
  exact ⟨a, dx, _, rfl, h1, .ref a, h, n, gs, xss, rfl, hv, fun w H' e' hw => q w H' (e2.trans e') hw⟩

theorem ei_rngN {σ : L2.St} {H : Hp} {ta : TA} {n : Nat} (h : EvA ta σ H [.int (n : Int)]) (hn : n ≤ 40000) : EvI (iRng1 ta) σ H n (YFn fun i => .int (i : Int)) := by
  have r := ei_rng1 h (by omega)
  rw [Int.toNat_natCast] at r
  exact r
theorem ev_ixl {K : PySem.W.Frag} {tl ti : TE} {σ : L2.St} {H : Hp} {xs : List Int} {i : Int} (hl : EvL tl σ H (xs.map V.int)) (hi : Ev ti σ H (.int i)) (hb : 0 ≤ i ∧ i < (xs.length : Int)) : Ev (tOp (rIxL K) tl ti) σ H (.int (xs.getD i.toNat 0)) := fun H1 e Q q => hl H1 e _ fun p H2 _ e2 h2 => hi H2 (e.trans e2) _ fun H3 e3 =>
  ⟨p, _, i, _, rfl, rfl, sq_of (e3 _ _ h2), atI_ints hb.1 hb.2, q H3 (e2.trans e3)⟩
theorem en_U {te : TE} {σ : L2.St} {H : Hp} {xs : List V} (h : EvU te σ H xs) : EvNew te σ H fun v G => ∃ t, v = .ref t ∧ G t = some (.tup xs) := fun H1 e Q q => h H1 e _ fun p H2 hp e2 h2 => q _ H2 e2 fun G g => ⟨p, rfl, g p _ hp h2⟩
theorem en_houseG {K : PySem.W.Frag} {A : Ads} {E : XK} {σ : L2.St} {H : Hp} {t1 t2 : TE} {n : Int} {m : Nat} {gs : List (Str × Int)} (h1 : Ev t1 σ H (.int n)) (h2 : EvNew t2 σ H fun v G => ∃ p, v = .ref p ∧ Gates K G p gs) (hg : GoodG gs m) (hn : 1 ≤ n ∧ n ≤ 24) (hm : 1 ≤ m ∧ m ≤ 4) (hc : n * (m : Int) ≤ 48) :
    EvNew (tMake A.C_House (spHouse K A) [] E (tCons t1 (tCons t2 tNil))) σ H fun v G => HouseIs A.C_House v G n gs := fun H1 e Q q => h1 H1 e _ fun H2 e2 => h2 H2 (e.trans e2) _ fun v H3 e3 hv => by
  obtain ⟨p, rfl, hG⟩ := hv.self
  intro x dx hx hdx hne
  have eN : Ex H3 (upd (upd H3 dx (.own x)) x (.ins A.C_House dx [])) := (Ex.new hdx).trans (Ex.new (by rw [upd_ne (Ne.symm hne)]; exact hx))
  have good := house_good hn (by rw [hg.len]; exact hm) hg.all hg.nd (by rw [hg.len]; exact hc)
  refine ⟨x, dx, p, n, gs, rfl, upd_same, hG.ex eN, by rw [hg.len]; omega, (fun g hm => by have := (hg.all g hm).1.len; omega), (fun er he => by rw [good] at he; cases he), fun _ np kp H' hk hn1 hn2 f1 f2 f3 => ⟨rfl, ?_⟩⟩
  have e' : Ex H3 H' := fun c o hc => hk c o (fun z => by rw [z, hx] at hc; cases hc) (eN c o hc)
  have e23 := e2.trans e3
  exact q _ H' (e23.trans e') fun G g => ⟨x, dx, np, kp, rfl, g _ _ (fresh_back e23 hx) f1, g _ _ (fresh_back (e23.trans eN) hn1) f2, g _ _ (fresh_back (e23.trans eN) hn2) f3⟩
/-- Watch(house, rows) -/
theorem en_watchH {K : PySem.W.Frag} {A : Ads} {E : XK} {σ : L2.St} {H : Hp} {t1 t2 : TE} {v : V} {n : Nat} {gs : List (Str × Int)} {xss : List (List Int)} (h1 : Ev t1 σ H v) (h2 : EvR t2 σ H fun v G => ∃ p, v = .ref p ∧ RowsL K G p xss) (hv : HouseIs A.C_House v H (n : Int) gs) (hl : gs.length ≤ 100) (hS : Shape (n : Int) gs.length xss) (hn : 1 ≤ n ∧ n ≤ 1000) :
    EvR (tMake A.C_Watch (spWatch K A) [] E (tCons t1 (tCons t2 tNil))) σ H fun w G => WatchOk K A w G v n gs xss := fun H1 e Q q => (en_watch (K := K) (A := A) h1 h2 hv hl hS).er H1 e Q fun w H2 e2 hw => q w H2 e2 ⟨hw, hv.ex (e.trans e2), hl, hS, hn⟩
theorem er_watchN {K : PySem.W.Frag} {A : Ads} {E : XK} {σ : L2.St} {H : Hp} {t1 t2 : TE} {n : Nat} {gs : List (Str × Int)} {xss : List (List Int)} (h1 : EvR t1 σ H fun v G => HouseIs A.C_House v G (n : Int) gs) (h2 : EvR t2 σ H fun v G => ∃ p, v = .ref p ∧ RowsL K G p xss) (hl : gs.length ≤ 100) (hS : Shape (n : Int) gs.length xss) (hn : 1 ≤ n ∧ n ≤ 1000) :
    EvR (tMake A.C_Watch (spWatch K A) [] E (tCons t1 (tCons t2 tNil))) σ H fun w G => ∃ h, WatchOk K A w G h n gs xss := fun H1 e Q q => h1 H1 e _ fun v H2 e2 hv =>
  en_watchH (K := K) (A := A) (E := E) (t1 := tC v) (t2 := t2) (σ := σ) (H := H2) ev_c (h2.mono (e.trans e2)) hv hl hS hn H2 (Ex.refl _) Q fun w H3 e3 hw => q w H3 (e2.trans e3) ⟨v, hw⟩
theorem rows_of {K : PySem.W.Frag} {G : Hp} {n : Nat} {xss : List (List Int)} {v : V} (h : ListP n (fun i w G => ∃ t, w = .ref t ∧ G t = some (.lst ((xss.getD i []).map V.int))) v G) (hn : n = xss.length) : ∃ p, v = .ref p ∧ RowsL K G p xss := by
  obtain ⟨p, ws, rfl, g1, g2, g3⟩ := h
  exact ⟨p, rfl, ws, sq_of g1, g2.trans hn, fun i v hv => (g3 i v hv).imp fun t ht => ⟨ht.1, sq_of ht.2⟩⟩
/-- a comprehension that makes a row of each row -/
theorem er_mapR {K : PySem.W.Frag} {σ : L2.St} {H : Hp} {te tl : TE} {j : Nat} {vs : List Nat} {p : Addr} {xss : List (List Int)} (f : List Int → List Int) (h : Ev tl σ H (.ref p)) (hR : RowsL K H p xss) (hz : xss.length ≤ 40000) (hw : ∀ x, wipe ((wipe σ vs).set j x) vs = wipe σ vs)
    (he : ∀ t xs H1, Ex H H1 → xs ∈ xss → SqL K H1 t (xs.map V.int) → EvNew te ((wipe σ vs).set j (some (.ref t))) H1 fun v G => ∃ t, v = .ref t ∧ G t = some (.lst ((f xs).map V.int))) :
    EvNew (tLc (iList K tl) (gName j) tYes te vs) σ H fun v G => ∃ p, v = .ref p ∧ RowsL K G p (xss.map f) := by
  obtain ⟨us, hus, hul, hua⟩ := hR.all
  refine (en_lc (fun i w G => ∃ t, w = .ref t ∧ G t = some (.lst (((xss.map f).getD i []).map V.int))) (ei_list (K := K) (eb_ev h fun G e => ⟨p, rfl, ex_l e hus⟩)) (by omega) bd_at (fun i _ => hw _) fun i H1 hi e1 => ?_).imp fun v G hv => rows_of hv (by rw [List.length_map, hul])
  have e : us[i]? = some us[i] := List.getElem?_eq_getElem hi
  obtain ⟨t, ht, hT⟩ := hua i _ e
  have hi' : i < xss.length := by omega
  have e2 : (xss.map f).getD i [] = f (xss.getD i []) := by
    rw [List.getD_eq_getElem?_getD, List.getElem?_map, List.getD_eq_getElem?_getD, List.getElem?_eq_getElem hi']
    rfl
  rw [e, ht, e2]
  exact he t _ H1 e1 (in_getD hi') (ex_l e1 hT)
theorem en_copyR {K : PySem.W.Frag} {te : TE} {σ : L2.St} {H : Hp} {p : Addr} {xs : List V} (h : Ev te σ H (.ref p)) (hp : SqL K H p xs) : EvNew (tCB (rListK K) (tCons te tNil)) σ H fun v G => ∃ t, v = .ref t ∧ G t = some (.lst xs) := fun H1 e Q q =>
  h H1 e _ fun H2 e2 => ⟨p, xs, rfl, .inl (ex_l (e.trans e2) hp), fun l hl => q _ _ (e2.trans (Ex.new hl)) fun G g => ⟨l, rfl, g l _ (fresh_back e2 hl) upd_same⟩⟩
/-- the places that the negative sends to -/
theorem neg_mod {n h : Nat} (hh : h < n) : ((-1 * (h : Int) + 0) % (n : Int)).toNat = if h = 0 then 0 else n - h := by
  by_cases e : h = 0
  · subst e
    simp
  · rw [if_neg e, show -1 * (h : Int) + 0 = ((n : Int) - h) + (n : Int) * (-1) by omega, Int.add_mul_emod_self_left, Int.emod_eq_of_lt (by omega) (by omega)]
    omega
theorem list_getD_ext {xs ys : List Int} {n : Nat} (hx : xs.length = n) (hy : ys.length = n) (h : ∀ i, i < n → xs.getD i 0 = ys.getD i 0) : xs = ys := by
  refine List.ext_getElem (by omega) fun i h1 h2 => ?_
  have := h i (by omega)
  rw [List.getD_eq_getElem?_getD, List.getD_eq_getElem?_getD, List.getElem?_eq_getElem h1, List.getElem?_eq_getElem h2] at this
  exact this
theorem move_back {n : Nat} {xs : List Int} (hl : xs.length = n) : moveR n (-1) 0 xs = (List.range n).map fun (i : Nat) => xs.getD (((0 : Int) - (i : Int)) % (n : Int)).toNat 0 := by
  refine list_getD_ext (n := n) moveP_len (by simp) fun i hi => ?_
  have h0 : ∀ h, h < n → (if h = 0 then 0 else n - h) < n := fun h hh => by split <;> omega
  have e0 : ∀ h, h < n → (if (if h = 0 then 0 else n - h) = 0 then 0 else n - (if h = 0 then 0 else n - h)) = h := fun h hh => by
    by_cases e : h = 0
    · subst e; rfl
    · rw [if_neg e, if_neg (by omega)]; omega
  have hat := moveP_at (n := n) (idx := fun h => ((-1 * (h : Int) + 0) % (n : Int)).toNat) (xs := xs) (Nat.le_refl n) (fun h hh => by rw [neg_mod hh]; exact h0 h hh)
    (fun a b ha hb hab => by rw [neg_mod ha, neg_mod hb] at hab; rw [← e0 a ha, ← e0 b hb, hab]) (if i = 0 then 0 else n - i) (h0 i hi)
  rw [neg_mod (h0 i hi), e0 i hi] at hat
  show (moveP n _ xs n).getD i 0 = _
  rw [hat, List.getD_eq_getElem?_getD (l := List.map _ _), List.getElem?_map, List.getElem?_range hi]
  show _ = xs.getD _ 0
  rw [show (0 : Int) - (i : Int) = -1 * (i : Int) + 0 by omega, neg_mod hi]

theorem er_drawn {K : PySem.W.Frag} {E : XK} {σ : L2.St} {H : Hp} {t1 t2 t3 : TE} {a : Addr} {ns : List Int} {m : Nat} {wd : Bool} (h1 : Ev t1 σ H (.ref a)) (h2 : Ev t2 σ H (.int (m : Int))) (h3 : Ev t3 σ H (.bl wd)) (hS : SqL K H a (ns.map V.int)) (hm : m ≤ 4) :
    EvR (tCall (spDrawn K) [] E (tCons t1 (tCons t2 (tCons t3 tNil)))) σ H fun v G => ∃ (p : Addr) (zs : List Str), v = .ref p ∧ G p = some (.lst (zs.map V.str)) ∧ zs.length = m ∧ zs.Nodup ∧ ∀ z ∈ zs, Word z :=
  er_call (ea_cons h1 (ea_cons h2 (ea_cons h3 ea_nil))) fun H1 e Q q => ⟨a, ns, m, wd, rfl, ex_l e hS, hm, fun p H' zs e' z1 z2 z3 z4 => q _ H' e' ⟨p, zs, rfl, z1, z2, z3, z4⟩⟩
theorem er_lawRows {K : PySem.W.Frag} {E : XK} {σ : L2.St} {H : Hp} {t1 t2 t3 : TE} {a : Addr} {ns : List Int} {m n : Nat} (h1 : Ev t1 σ H (.int (m : Int))) (h2 : Ev t2 σ H (.int (n : Int))) (h3 : Ev t3 σ H (.ref a)) (hS : SqL K H a (ns.map V.int)) (hl : m * n ≤ ns.length) (hm : m ≤ 100) (hn : n ≤ 100) (hx : ∀ x ∈ ns, 0 ≤ x ∧ x ≤ 96) :
    EvR (tCall (spLawRows K) [] E (tCons t1 (tCons t2 (tCons t3 tNil)))) σ H fun v G => ∃ (p : Addr) (xss : List (List Int)), v = .ref p ∧ RowsL K G p xss ∧ Shape (n : Int) m xss :=
  er_call (ea_cons h1 (ea_cons h2 (ea_cons h3 ea_nil))) fun H1 e Q q => ⟨m, n, a, ns, rfl, ex_l e hS, hl, hm, hn, fun p H' qs e' hM hql hqs => q _ H' e' ⟨p, qs.map (·.2), rfl, hM.rows, by rw [List.length_map, hql], fun xs hx' => by
    obtain ⟨q, hq, rfl⟩ := List.mem_map.mp hx'
    rw [(hqs q hq).1], fun xs hx' x hm' => by
    obtain ⟨q, hq, rfl⟩ := List.mem_map.mp hx'
    exact hx x ((hqs q hq).2 x hm')⟩⟩
theorem ev_charted {K : PySem.W.Frag} {A : Ads} {E : XK} {σ : L2.St} {H : Hp} {t1 t2 t3 : TE} {h : V} {pn pr : Addr} {n : Nat} {gs : List (Str × Int)} {xss : List (List Int)} (h1 : EvR t1 σ H fun v G => WatchOk K A v G h n gs xss) (h2 : Ev t2 σ H (.ref pn)) (h3 : Ev t3 σ H (.ref pr)) (hn : n ≤ 24) (hg : 1 ≤ gs.length ∧ gs.length ≤ 4) (hw : ∀ g ∈ gs, Word g.1) (hpn : SqL K H pn ((gs.map (·.1)).map V.str)) (hpr : RowsL K H pr xss) :
    Ev (tCall (spCharted K A) [] E (tCons t1 (tCons t2 (tCons t3 tNil)))) σ H (.bl true) := fun H1 e Q q => h1 H1 e _ fun v H2 e2 hv => h2 H2 (e.trans e2) _ fun H3 e3 => h3 H3 ((e.trans e2).trans e3) _ fun H4 e4 => by
  have e24 := e3.trans e4
  have e04 := (e.trans e2).trans e24
  exact ⟨v, h, pn, pr, n, gs, xss, rfl, hv.ex e24, hn, hg, hw, ex_l e04 hpn, hpr.ex e04, fun H' e' => q H' ((e2.trans e24).trans e')⟩
theorem get_zip {zs : List Str} {ss : List Int} {i : Nat} {g : Str × Int} (h : (zs.zip ss)[i]? = some g) : zs[i]? = some g.1 ∧ ss[i]? = some g.2 := by
  rw [List.getElem?_zip_eq_some] at h
  exact h
def spLaw (K : PySem.W.Frag) : Sp := fun vs H Q _ => ∃ (a : Addr) (ns : List Int), vs = [.ref a] ∧ SqL K H a (ns.map V.int) ∧ ns.length ≤ 63 ∧ ∀ H', Q (.bl true) H' 
theorem ok_law (T : Txt K mg A) : FnOk P w K mg base CX0 20 A.f_law A.d_law (["script"] : List Str) (spLaw K) := by
  refine T.F_law.ok sc_law (fun vs H Q E h => ?_) (fun cdv Ar outer s H vs Q E hr h => ?_)
  · obtain ⟨a, ns, rfl, _⟩ := h
    rfl
  · obtain ⟨sa, ns, rfl, hS, hl, k⟩ := h
    refine ⟨_, (pss_cons (ps_set (i := 1) sc_law.nd rfl (Or.inr rfl) (pe_call (ok_u_law_draws T) (hr.mono (by omega)) rfl T.g_u_law_draws T.k_u_law_draws (b_u_law_draws T) .nil pass0 (pa_cons (pe_call (ok_u_law_cell T) (hr.mono (by omega)) rfl T.g_u_law_cell T.k_u_law_cell (b_u_law_cell T) .nil pass0 (pa_cons (pv 0) (pa_cons pe_int pa_nil))) (pa_cons pe_int (pa_cons (pe_lst (pa_cons pe_int (pa_cons pe_int (pa_cons pe_int (pa_cons pe_int (pa_cons pe_int (pa_cons pe_int (pa_cons pe_int (pa_cons pe_int (pa_cons pe_int (pa_cons (pe_op op_pow pe_int pe_int) pa_nil))))))))))) pa_nil)))))
        (pss_cons (ps_set (i := 2) sc_law.nd rfl (Or.inl rfl) (pe_op op_add pe_int (pe_ix ix_lK (pv 1) pe_int (fun _ _ => rfl))))
        (pss_cons (ps_set (i := 3) sc_law.nd rfl (Or.inr rfl) (pe_op op_add pe_int (pe_op op_mod (pe_callTy call_int1 (by rfl) T.z_int (by decide +kernel) (pa_cons (pe_ix ix_lK (pv 1) pe_int (fun _ _ => rfl)) pa_nil)) (pe_callB (call_min2 rfl) (by rfl) T.z_min (by decide +kernel) (pa_cons pe_int (pa_cons (pe_op op_fdiv pe_int (pv 2)) pa_nil))))))
        (pss_cons (ps_set (i := 4) sc_law.nd rfl (Or.inr rfl) (pe_call (ok_u_law_drawn_names T) (hr.mono (by omega)) rfl T.g_u_law_drawn_names T.k_u_law_drawn_names (b_u_law_drawn_names T) .nil pass0 (pa_cons (pv 0) (pa_cons (pv 2) (pa_cons (pe_cmpR op_eq (pe_ix ix_lK (pv 1) pe_int (fun _ _ => rfl)) pe_int (nomark _)) pa_nil)))))
        (pss_cons (ps_set (i := 5) sc_law.nd rfl (Or.inl rfl) (pe_call (ok_u_law_draws T) (hr.mono (by omega)) rfl T.g_u_law_draws T.k_u_law_draws (b_u_law_draws T) .nil pass0 (pa_cons (pe_call (ok_u_law_cell T) (hr.mono (by omega)) rfl T.g_u_law_cell T.k_u_law_cell (b_u_law_cell T) .nil pass0 (pa_cons (pv 0) (pa_cons pe_int pa_nil))) (pa_cons pe_int (pa_cons (pe_lc (own := [("cell", 6)]) (g := gName 6) (tt := tYes) rfl sc_law.nd (pi_range1 rfl T.z_range (pa_cons (pe_op op_mul (pv 2) (pv 3)) pa_nil)) (blkOk_by (own := [("cell", 6)]) (N := N_law) (sc := defScope s_law) (by decide +kernel)) (fun _ _ _ _ _ => (pg_name (i := 6) sc_law.nd rfl (Or.inl rfl))) (fun _ _ _ _ _ => pts_nil) (fun _ _ _ _ _ => pe_int)) pa_nil)))))
        (pss_cons (ps_if (pt_cmpR op_eq (pe_ix ix_lK (pv 1) pe_int (fun _ _ => rfl)) pe_int (nomark _)) (pss_one (ps_setLc (i := 5) (own := [("x", 7)]) (g := gName 7) (tt := tYes) rfl sc_law.nd rfl rfl (sw_true rfl rfl rfl (by decide +kernel)) (pi_listK (pv 5)) (blkOk_by (own := [("x", 7)]) (N := N_law) (sc := defScope s_law) (by decide +kernel)) (fun _ _ _ _ _ => (pg_name (i := 7) sc_law.nd rfl (Or.inl rfl))) (fun _ _ _ _ _ => pts_nil) (fun _ _ _ _ _ => (pe_ix ix_lK (pe_lst (pa_cons pe_int (pa_cons pe_int (pa_cons pe_int (pa_cons pe_int pa_nil))))) (pe_op op_mod (pe_callTy call_int1 (by rfl) T.z_int (by decide +kernel) (pa_cons (pv 7) pa_nil)) pe_int) (fun _ _ => rfl))))) pss_nil)
        (pss_cons (ps_set (i := 8) sc_law.nd rfl (Or.inl rfl) (pe_call (ok_u_law_rows T) (hr.mono (by omega)) rfl T.g_u_law_rows T.k_u_law_rows (b_u_law_rows T) .nil pass0 (pa_cons (pv 2) (pa_cons (pv 3) (pa_cons (pv 5) pa_nil)))))
        (pss_cons (ps_set (i := 9) sc_law.nd rfl (Or.inl rfl) (pe_make T.mk_Watch (ok_Watch_init T) (hr.mono (by omega)) rfl T.g_Watch (b_Watch_init T) .nil passL (pa_cons (pe_make T.mk_House (ok_House_init T) (hr.mono (by omega)) rfl T.g_House (b_House_init T) .nil passL (pa_cons (pv 3) (pa_cons (pe_lc (own := [("g", 10)]) (g := gName 10) (tt := tYes) rfl sc_law.nd (pi_range1 rfl T.z_range (pa_cons (pv 2) pa_nil)) (blkOk_by (own := [("g", 10)]) (N := N_law) (sc := defScope s_law) (by decide +kernel)) (fun _ _ _ _ _ => (pg_name (i := 10) sc_law.nd rfl (Or.inl rfl))) (fun _ _ _ _ _ => pts_nil) (fun _ _ _ _ _ => (pe_tup (pa_cons (pe_ix ix_lK (pv 4) (pv 10) (fun _ _ => rfl)) (pa_cons (pe_ix ix_lK (pv 1) (pe_op op_add pe_int (pv 10)) (fun _ _ => rfl)) pa_nil))))) pa_nil))) (pa_cons (pe_lc (own := [("row", 11)]) (g := gName 11) (tt := tYes) rfl sc_law.nd (pi_listK (pv 8)) (blkOk_by (own := [("row", 11)]) (N := N_law) (sc := defScope s_law) (by decide +kernel)) (fun _ _ _ _ _ => (pg_name (i := 11) sc_law.nd rfl (Or.inl rfl))) (fun _ _ _ _ _ => pts_nil) (fun _ _ _ _ _ => (pe_callTy list_K (by rfl) T.z_list (by decide +kernel) (pa_cons (pv 11) pa_nil)))) pa_nil))))
        (pss_cons (ps_if (pt_not (pt_val (pe_call (ok_u_law_charted T) (hr.mono (by omega)) rfl T.g_u_law_charted T.k_u_law_charted (b_u_law_charted T) .nil pass0 (pa_cons (pv 9) (pa_cons (pv 4) (pa_cons (pv 8) pa_nil)))))) (pss_one (ps_ret pe_bl)) pss_nil)
        (pss_cons (ps_set (i := 12) sc_law.nd rfl (Or.inr rfl) (pe_ix ix_lK (pe_lst (pa_cons (pe_ix ix_lK (pv 1) pe_int (fun _ _ => rfl)) (pa_cons (pe_op op_sub pe_int (pe_ix ix_lK (pv 1) pe_int (fun _ _ => rfl))) pa_nil))) (pe_ix ix_lK (pv 1) pe_int (fun _ _ => rfl)) (fun _ _ => rfl)))
        (pss_cons (ps_setLc (i := 13) (own := [("row", 11)]) (g := gName 11) (tt := tYes) rfl sc_law.nd rfl rfl (sw_true rfl rfl rfl (by decide +kernel)) (pi_listK (pv 8)) (blkOk_by (own := [("row", 11)]) (N := N_law) (sc := defScope s_law) (by decide +kernel)) (fun _ _ _ _ _ => (pg_name (i := 11) sc_law.nd rfl (Or.inr rfl))) (fun _ _ _ _ _ => pts_nil) (fun _ _ _ _ _ => (pe_lc (own := [("h", 14)]) (g := gName 14) (tt := tYes) rfl sc_law.nd (pi_range1 rfl T.z_range (pa_cons (pv 3) pa_nil)) (by dsimp only [cxOf, Cx.nox, Cx.blk, compEnvC]; show BlkOk _ (relS _ (defScope s_law)) _ _; exact blkOk_by (own := [("h", 14)]) (N := N_law) (by decide +kernel)) (fun _ _ _ _ _ => (pg_name (i := 14) sc_law.nd rfl (Or.inl rfl))) (fun _ _ _ _ _ => pts_nil) (fun _ _ _ _ _ => (pe_ix ix_lK (pv 11) (pe_op op_mod (pe_callTy call_int1 (by rfl) T.z_int (by decide +kernel) (pa_cons (pe_op op_sub (pv 14) (pv 12)) pa_nil)) (pv 3)) (fun _ _ => rfl))))))
        (pss_cons (ps_setLc (i := 15) (own := [("row", 11)]) (g := gName 11) (tt := tYes) rfl sc_law.nd rfl rfl (sw_true rfl rfl rfl (by decide +kernel)) (pi_listK (pv 8)) (blkOk_by (own := [("row", 11)]) (N := N_law) (sc := defScope s_law) (by decide +kernel)) (fun _ _ _ _ _ => (pg_name (i := 11) sc_law.nd rfl (Or.inr rfl))) (fun _ _ _ _ _ => pts_nil) (fun _ _ _ _ _ => (pe_lc (own := [("h", 14)]) (g := gName 14) (tt := tYes) rfl sc_law.nd (pi_range1 rfl T.z_range (pa_cons (pv 3) pa_nil)) (by dsimp only [cxOf, Cx.nox, Cx.blk, compEnvC]; show BlkOk _ (relS _ (defScope s_law)) _ _; exact blkOk_by (own := [("h", 14)]) (N := N_law) (by decide +kernel)) (fun _ _ _ _ _ => (pg_name (i := 14) sc_law.nd rfl (Or.inl rfl))) (fun _ _ _ _ _ => pts_nil) (fun _ _ _ _ _ => (pe_ix ix_lK (pv 11) (pe_op op_mod (pe_callTy call_int1 (by rfl) T.z_int (by decide +kernel) (pa_cons (pe_op op_sub pe_int (pv 14)) pa_nil)) (pv 3)) (fun _ _ => rfl))))))
        (pss_cons (ps_if (PW.pt (pw_or (pt_not (pt_val (pe_call (ok_u_law_charted T) (hr.mono (by omega)) rfl T.g_u_law_charted T.k_u_law_charted (b_u_law_charted T) .nil pass0 (pa_cons (pe_opS (op_ownJ (op := .LShift) (E := fun _ => E0) T.op_Watch T.D_Watch_lshift T.I_Watch_lshift (ok_Watch_lshift T) (hr.mono (by omega)) (b_Watch_lshift T) (pAt pass0)) (pv 9) (pv 12)) (pa_cons (pv 4) (pa_cons (pv 13) pa_nil)))))) (pw_or1 (pt_not (pt_val (pe_call (ok_u_law_charted T) (hr.mono (by omega)) rfl T.g_u_law_charted T.k_u_law_charted (b_u_law_charted T) .nil pass0 (pa_cons (pe_unS (un_negO (E := fun _ => E0) T.M_Watch_neg (ok_Watch_neg T) (hr.mono (by omega)) (b_Watch_neg T) (pAt pass0)) (pv 9)) (pa_cons (pv 4) (pa_cons (pv 15) pa_nil))))))))) (pss_one (ps_ret pe_bl)) pss_nil)
        (pss_one (ps_ret (pe_call (ok_u_law_charted T) (hr.mono (by omega)) rfl T.g_u_law_charted T.k_u_law_charted (b_u_law_charted T) .nil pass0 (pa_cons (pv 9) (pa_cons (pv 4) (pa_cons (pv 8) pa_nil))))))))))))))))))), ?_⟩
    try dsimp only
    refine q_asgR (er_draws (K := K) (ms := [4, 24, 2, 2, 61, 61, 61, 61, 2, 10 ^ 60]) (ev_cell (k := 0) (ev_var rfl) ev_c hS) ev_c (el_lst (ea_cons ev_c (ea_cons ev_c (ea_cons ev_c (ea_cons ev_c (ea_cons ev_c (ea_cons ev_c (ea_cons ev_c (ea_cons ev_c (ea_cons ev_c (ea_cons (ev_op ev_c ev_c (rv_I (show CPow 10 60 from ⟨by decide, by decide, by decide⟩))) ea_nil)))))))))) (by show 10 ≤ 100000; decide)) (cellA_nn _ _) (by decide) (by decide) (by decide +kernel)) fun v H1 e1 hp => ?_
    obtain ⟨dp, ds, rfl, hd, hD⟩ := hp
    have dl : ds.length = 10 := hD.1
    have d0 : 0 ≤ ds.getD 0 0 ∧ ds.getD 0 0 < 4 := drawn_at hD rfl
    have d1 : 0 ≤ ds.getD 1 0 ∧ ds.getD 1 0 < 24 := drawn_at hD rfl
    have dS : ∀ i : Nat, i < 4 → 0 ≤ ds.getD (4 + i) 0 ∧ ds.getD (4 + i) 0 < 61 := fun i hi => by
      have : i = 0 ∨ i = 1 ∨ i = 2 ∨ i = 3 := by omega
      rcases this with rfl | rfl | rfl | rfl <;> exact drawn_at hD rfl
    have d8 : 0 ≤ ds.getD 8 0 ∧ ds.getD 8 0 < 2 := drawn_at hD rfl
    clear hD
    have dE : ∀ {σ : L2.St} {G : Hp} {te : TE} {i : Int}, σ[1]? = some (some (.ref dp)) → Ex H1 G → Ev te σ G (.int i) → 0 ≤ i → i < 10 → Ev (tOp (rIxL K) (tVar 1) te) σ G (.int (ds.getD i.toNat 0)) := fun h e he h0 h1 => ev_op (ev_var h) he (rv_ixL (K := K) (sq_of (e _ _ hd)) (atI_ints h0 (by rw [dl]; omega)))
    obtain ⟨m, hm⟩ : ∃ g : Nat, 1 + ds.getD 0 0 = (g : Int) := ⟨(1 + ds.getD 0 0).toNat, by omega⟩
    try dsimp only
    refine q_asg (v := .int (m : Int)) (ev_is (ev_op ev_c (dE rfl (Ex.refl _) ev_c (by decide) (by decide)) rv_I0) (congrArg V.int hm)) fun H2 e2 => ?_
    have hmb : 1 ≤ m ∧ m ≤ 4 := by omega
    obtain ⟨n, hn, hn1, hn2, hmn⟩ : ∃ n : Nat, 1 + ds.getD 1 0 % (if 48 / (m : Int) < 24 then 48 / (m : Int) else 24) = (n : Int) ∧ 1 ≤ n ∧ n ≤ 24 ∧ m * n ≤ 48 := by
      have b1 := Int.emod_nonneg (ds.getD 1 0) (b := if 48 / (m : Int) < 24 then 48 / (m : Int) else 24)
      have b2 := Int.emod_lt_of_pos (ds.getD 1 0) (b := if 48 / (m : Int) < 24 then 48 / (m : Int) else 24)
      have hmc : m = 1 ∨ m = 2 ∨ m = 3 ∨ m = 4 := by omega
      refine ⟨(1 + ds.getD 1 0 % (if 48 / (m : Int) < 24 then 48 / (m : Int) else 24)).toNat, ?_⟩
      generalize ds.getD 1 0 = x at *
      rcases hmc with rfl | rfl | rfl | rfl
      · have b1 : 0 ≤ x % 24 := b1 (by decide)
        have b2 : x % 24 < 24 := b2 (by decide)
        show 1 + x % 24 = ((1 + x % 24).toNat : Int) ∧ 1 ≤ (1 + x % 24).toNat ∧ (1 + x % 24).toNat ≤ 24 ∧ 1 * (1 + x % 24).toNat ≤ 48
        omega
      · have b1 : 0 ≤ x % 24 := b1 (by decide)
        have b2 : x % 24 < 24 := b2 (by decide)
        show 1 + x % 24 = ((1 + x % 24).toNat : Int) ∧ 1 ≤ (1 + x % 24).toNat ∧ (1 + x % 24).toNat ≤ 24 ∧ 2 * (1 + x % 24).toNat ≤ 48
        omega
      · have b1 : 0 ≤ x % 16 := b1 (by decide)
        have b2 : x % 16 < 16 := b2 (by decide)
        show 1 + x % 16 = ((1 + x % 16).toNat : Int) ∧ 1 ≤ (1 + x % 16).toNat ∧ (1 + x % 16).toNat ≤ 24 ∧ 3 * (1 + x % 16).toNat ≤ 48
        omega
      · have b1 : 0 ≤ x % 12 := b1 (by decide)
        have b2 : x % 12 < 12 := b2 (by decide)
        show 1 + x % 12 = ((1 + x % 12).toNat : Int) ∧ 1 ≤ (1 + x % 12).toNat ∧ (1 + x % 12).toNat ≤ 24 ∧ 4 * (1 + x % 12).toNat ≤ 48
        omega
    try dsimp only
    refine q_asg (v := .int (n : Int)) (ev_is (ev_op ev_c (ev_op (ev_int (dE rfl e2 ev_c (by decide) (by decide))) (ev_cb (ea_cons ev_c (ea_cons (ev_op ev_c (ev_var (i := 2) rfl) (rv_I (show CDiv 48 (m : Int) from ⟨by omega, by omega⟩))) ea_nil)) fun G e Q q => ⟨24, 48 / (m : Int), rfl, q G (Ex.refl G)⟩) (rv_I (show (0 : Int) < if 48 / (m : Int) < 24 then 48 / (m : Int) else 24 by
      have hmc : m = 1 ∨ m = 2 ∨ m = 3 ∨ m = 4 := by omega
      rcases hmc with rfl | rfl | rfl | rfl <;> decide))) rv_I0) (congrArg V.int hn)) fun H3 e3 => ?_
    clear hn
    have e13 := e2.trans e3
    try dsimp only
    refine q_asgR (er_drawn (K := K) (m := m) (wd := decide (ds.getD 2 0 = 1)) (ev_var (i := 0) rfl) (ev_var (i := 2) rfl) (ev_is (ev_op (dE rfl e13 ev_c (by decide) (by decide)) ev_c (rv_eq rfl)) (by rw [dec_ii]; rfl)) (ex_l (e1.trans e13) hS) hmb.2) fun v H4 e4 hv => ?_
    obtain ⟨np, zs, rfl, hz, hzl, hzd, hzw⟩ := hv
    have e14 := e13.trans e4
    have hS4 := ex_l (e1.trans e14) hS
    try dsimp only
    refine q_asgR (er_draws (K := K) (ms := List.replicate (m * n) 97) (ev_cell (k := 1) (ev_var rfl) ev_c hS4) ev_c (el_isW (el_rngY (n := m * n) (fun _ => .int 97) (ea_cons (ev_is (ev_op (ev_var (i := 2) rfl) (ev_var (i := 3) rfl) (rv_I (show CMul (m : Int) (n : Int) from .inl ⟨by omega, by omega⟩))) (by rw [← Int.natCast_mul])) ea_nil) (by omega) (fun x => rfl) fun i G hi e => ev_c) (by rw [List.map_replicate]; exact List.ext_getElem (by simp) fun i h1 h2 => by simp)) (cellA_nn _ _) (by decide) (by rw [List.length_replicate]; omega) (fun x hx => by rw [(List.mem_replicate.mp hx).2]; exact ⟨by decide, by decide +kernel⟩)) fun v H5 e5 hp => ?_
    obtain ⟨sp, ss, rfl, hs, hD2⟩ := hp
    have ssl : ss.length = m * n := by rw [hD2.1, List.length_replicate]
    have ssb : ∀ x ∈ ss, 0 ≤ x ∧ x ≤ 96 := fun x hx => by
      obtain ⟨i, hi, rfl⟩ := List.getElem_of_mem hx
      have := drawn_at hD2 (i := i) (m := 97) (by rw [List.getElem?_replicate, if_pos (by omega)])
      rw [List.getD_eq_getElem?_getD, List.getElem?_eq_getElem hi] at this
      have h : 0 ≤ ss[i] ∧ ss[i] < 97 := this
      omega
    clear hD2
    have e15 := e14.trans e5
    try dsimp only
    refine q_alt (b := decide (ds.getD 3 0 = 1)) (M := fun σ' G => ∃ (p : Addr) (ts : List Int), σ' = [some (.ref sa), some (.ref dp), some (.int (m : Int)), some (.int (n : Int)), some (.ref np), some (.ref p), none, none, none, none, none, none, none, none, none, none] ∧ Ex H5 G ∧ SqL K G p (ts.map V.int) ∧ ts.length = m * n ∧ ∀ x ∈ ts, 0 ≤ x ∧ x ≤ 96) (et_test (ev_is (ev_op (dE rfl e15 ev_c (by decide) (by decide)) ev_c (rv_eq rfl)) (by rw [dec_ii]; rfl))) (fun hb G1 g1 W hW => ?_) (fun hb G1 g1 => ⟨sp, ss, rfl, g1, sq_of (g1 _ _ hs), ssl, ssb⟩) fun σ' G ⟨rp0, ts, hσ, eG, hts, htl, htb⟩ => ?_
    · try dsimp only
      refine s_asgL (el_isW (ys := (ss.map fun x => ([0, 9, 10, 96] : List Int).getD (x % 4).toNat 0).map V.int) (el_mapI (K := K) ss (fun x => V.int (([0, 9, 10, 96] : List Int).getD (x % 4).toNat 0)) (ev_var (i := 5) rfl) (sq_of (g1 _ _ hs)) (by omega) (fun x => rfl) fun x G e hx => ?_) (by rw [List.map_map]; rfl)) fun p G2 _ g2 h2 => hW _ _ ⟨p, _, rfl, g1.trans g2, sq_of h2, by rw [List.length_map, ssl], fun y hy => ?_⟩
      · have m0 : 0 ≤ x % 4 ∧ x % 4 < 4 := by omega
        exact ev_ixl (K := K) (xs := [0, 9, 10, 96]) (el_lst (ea_cons ev_c (ea_cons ev_c (ea_cons ev_c (ea_cons ev_c ea_nil)))) (by show 4 ≤ 100000; decide)) (ev_op (ev_int (ev_var (i := 7) rfl)) ev_c (rv_I (show (0 : Int) < 4 by decide))) m0
      · obtain ⟨x, hx, rfl⟩ := List.mem_map.mp hy
        have m0 : x % 4 = 0 ∨ x % 4 = 1 ∨ x % 4 = 2 ∨ x % 4 = 3 := by omega
        rcases m0 with e | e | e | e <;> rw [e] <;> decide
    subst hσ
    have e1G := e15.trans eG
    try dsimp only
    refine q_asgR (er_lawRows (K := K) (m := m) (n := n) (ns := ts) (ev_var (i := 2) rfl) (ev_var (i := 3) rfl) (ev_var (i := 5) rfl) hts (by omega) (by omega) (by omega) htb) fun v H6 e6 hv => ?_
    obtain ⟨pr, xss, rfl, hR, hSh⟩ := hv
    have e16 := e1G.trans e6
    have hz6 := ((e5.trans eG).trans e6) _ _ hz
    obtain ⟨st, hst⟩ : ∃ st : List Int, st = (ds.drop 4).take m := ⟨_, rfl⟩
    have stl : st.length = m := by rw [hst, List.length_take, List.length_drop]; omega
    have stb : ∀ i, i < m → st[i]? = some (ds.getD (4 + i) 0) := fun i hi => by
      rw [hst, List.getElem?_take_of_lt hi, List.getElem?_drop, List.getD_eq_getElem?_getD, List.getElem?_eq_getElem (by omega)]
      rfl
    have gl : (zs.zip st).length = m := by rw [List.length_zip, hzl, stl]; omega
    have g1 : (zs.zip st).map (·.1) = zs := List.map_fst_zip (by omega)
    have hG : GoodG (zs.zip st) m := ⟨gl, by rw [g1]; exact hzd, fun g hg => by
      obtain ⟨i, hi⟩ := List.getElem?_of_mem hg
      obtain ⟨q1, q2⟩ := get_zip hi
      have hi' : i < m := by have := (List.getElem?_eq_some_iff.mp hi).1; omega
      rw [stb i hi'] at q2
      have := dS i (by omega)
      have q3 := Option.some.inj q2
      exact ⟨hzw _ (List.mem_of_getElem? q1), by omega, by omega⟩⟩
    try dsimp only
    refine q_asgR (er_watchN (K := K) (A := A) (n := n) (gs := zs.zip st) (xss := xss) ?_ ?_ (by omega) (by rw [gl]; exact hSh) ⟨hn1, by omega⟩) fun v H7 e7 hv => ?_
    · refine (en_houseG (K := K) (A := A) (m := m) (ev_var (i := 3) rfl) ?_ hG (by omega) hmb (by rw [← Int.natCast_mul, Nat.mul_comm]; omega)).er
      refine (en_lc (n := m) (fun i v G => ∃ t, v = .ref t ∧ G t = some (.tup [V.str (zs.getD i ""), .int (ds.getD (4 + i) 0)])) (ei_rngN (ea_cons (ev_var (i := 2) rfl) ea_nil) (by omega)) (by omega) bd_fn (fun i _ => rfl) (fun i F hi f => ?_)).imp fun v F hv => ?_
      · have x1 : (zs.map V.str)[i]? = some (.str (zs.getD i "")) := by
          rw [List.getElem?_map, List.getD_eq_getElem?_getD, List.getElem?_eq_getElem (by omega)]
          rfl
        try dsimp only
        refine en_U (eu_tup (ea_cons (ev_op (ev_var (i := 4) rfl) (ev_var (i := 10) rfl) (rv_ixL (K := K) (sq_of (f _ _ hz6)) (atI_nat x1))) (ea_cons (ev_is (dE rfl (e16.trans f) (ev_op ev_c (ev_var (i := 10) rfl) rv_I0) (by omega) (by omega)) (by rw [show ((4 : Int) + (i : Int)).toNat = 4 + i by omega])) ea_nil)) (by show 2 ≤ 100000; decide))
      · obtain ⟨p, ws, rfl, w1, w2, w3⟩ := hv
        refine ⟨p, rfl, ws, sq_of w1, by rw [w2, gl], fun i v hv => ?_⟩
        obtain ⟨t, rfl, ht⟩ := w3 i v hv
        refine ⟨t, rfl, fun g hg => ?_⟩
        have hi' : i < m := by have := (List.getElem?_eq_some_iff.mp hv).1; omega
        obtain ⟨q1, q2⟩ := get_zip hg
        rw [stb i hi'] at q2
        rw [List.getD_eq_getElem?_getD, q1, Option.some.inj q2] at ht
        exact st_of ht
    · exact (er_mapR (K := K) (xss := xss) id (ev_var (i := 8) rfl) hR (by rw [hSh.len]; omega) (fun x => rfl) fun t xs F f _ ht => en_copyR (K := K) (ev_var (i := 11) rfl) ht).er.imp fun v G ⟨p, z1, z2⟩ => ⟨p, z1, by rwa [List.map_id] at z2⟩
    obtain ⟨h, W⟩ := hv
    have e17 := e16.trans e7
    have wds : ∀ g ∈ zs.zip st, Word g.1 := fun g hg => (hG.all g hg).1
    have pnS : SqL K H7 np (((zs.zip st).map (·.1)).map V.str) := by rw [g1]; exact sq_of (e7 _ _ hz6)
    have hR7 := hR.ex e7
    have hg4 : 1 ≤ (zs.zip st).length ∧ (zs.zip st).length ≤ 4 := by omega
    generalize zs.zip st = gs at *
    try dsimp only
    refine q_skip (et_notT (et_B (ev_charted (K := K) (A := A) (er_ev (ev_var (i := 9) rfl) fun G e => W.ex e) (ev_var (i := 4) rfl) (ev_var (i := 8) rfl) hn2 hg4 wds pnS hR7))) fun H8 e8 => ?_
    have e18 := e17.trans e8
    try dsimp only
    refine q_asg (v := .int (([ds.getD 9 0, 0 - ds.getD 9 0] : List Int).getD (ds.getD 8 0).toNat 0)) (ev_ixl (K := K) (xs := [ds.getD 9 0, 0 - ds.getD 9 0]) (el_lst (ea_cons (dE rfl e18 ev_c (by decide) (by decide)) (ea_cons (ev_op ev_c (dE rfl e18 ev_c (by decide) (by decide)) rv_I0) ea_nil)) (by show 2 ≤ 100000; decide)) (dE rfl e18 ev_c (by decide) (by decide)) d8) fun H9 e9 => ?_
    obtain ⟨by', hby⟩ : ∃ z : Int, ([ds.getD 9 0, 0 - ds.getD 9 0] : List Int).getD (ds.getD 8 0).toNat 0 = z := ⟨_, rfl⟩
    rw [hby]
    have e79 := e8.trans e9
    have row' := W.sh.row'
    have wln := W.sh.len
    have wgl := W.gl
    have rowE : ∀ {σ : L2.St} {F : Hp} {te : TE} {z : Int} {t : Addr} {xs : List Int}, σ[11]? = some (some (.ref t)) → SqL K F t (xs.map V.int) → xs ∈ xss → Ev te σ F (.int z) → σ[3]? = some (some (.int (n : Int))) → Ev (tOp (rIxL K) (tVar 11) (tOp (rI (fun _ j => 0 < j) fun i j => V.int (i % j)) (tCB (fun xs H Q => (∃ i, xs = [V.int i] ∧ Q (V.int i) H) ∨ ∃ k, xs = [V.bl k] ∧ Q (V.int (if k = true then 1 else 0)) H) (tCons te tNil)) (tVar 3))) σ F (.int (xs.getD (z % (n : Int)).toNat 0)) := fun {σ F te z t xs} s11 ht hx he s3 => by
      have l := row' xs hx
      have m0 := Int.emod_nonneg z (b := (n : Int)) (by omega)
      have m1 := Int.emod_lt_of_pos z (b := (n : Int)) (by omega)
      exact ev_op (ev_var s11) (ev_op (ev_int he) (ev_var s3) (rv_I (show (0 : Int) < n by omega))) (rv_ixL (K := K) ht (atI_ints m0 (by omega)))
    try dsimp only
    refine q_asgR (er_mapR (K := K) (xss := xss) (turnR n by') (ev_var (i := 8) rfl) (hR7.ex e79) (by omega) (fun x => rfl) fun t xs F f hx ht => en_L (el_isW (el_rngY (n := n) (fun j => V.int (xs.getD (((j : Int) - by') % (n : Int)).toNat 0)) (ea_cons (ev_var (i := 3) rfl) ea_nil) (by omega) (fun x => rfl) fun j F' hj f' => rowE rfl (ex_l f' ht) hx (ev_op (ev_var (i := 14) rfl) (ev_var (i := 12) rfl) rv_I0) rfl) (by unfold turnR; rw [List.map_map]; rfl))).er fun v H10 e10 hv => ?_
    obtain ⟨pl, rfl, hRl⟩ := hv
    try dsimp only
    refine q_asgR (er_mapR (K := K) (xss := xss) (fun xs => (List.range n).map fun (i : Nat) => xs.getD (((0 : Int) - (i : Int)) % (n : Int)).toNat 0) (ev_var (i := 8) rfl) (hR7.ex (e79.trans e10)) (by omega) (fun x => rfl) fun t xs F f hx ht => en_L (el_isW (el_rngY (n := n) (fun j => V.int (xs.getD (((0 : Int) - (j : Int)) % (n : Int)).toNat 0)) (ea_cons (ev_var (i := 3) rfl) ea_nil) (by omega) (fun x => rfl) fun j F' hj f' => rowE rfl (ex_l f' ht) hx (ev_op ev_c (ev_var (i := 14) rfl) rv_I0) rfl) (by rw [List.map_map]; rfl))).er fun v H11 e11 hv => ?_
    obtain ⟨pb, rfl, hRb⟩ := hv
    rw [show xss.map (fun xs => (List.range n).map fun (i : Nat) => xs.getD (((0 : Int) - (i : Int)) % (n : Int)).toNat 0) = xss.map (moveR n (-1) 0) from List.map_congr_left fun xs hx => (move_back (row' xs hx)).symm] at hRb
    have e711 := (e79.trans e10).trans e11
    try dsimp only
    refine q_skip (et_orF (et_notT (et_B (ev_charted (K := K) (A := A) (er_lsh (K := K) (A := A) (er_ev (ev_var (i := 9) rfl) fun G e => W.ex (e711.trans e)) (ev_var (i := 12) rfl)) (ev_var (i := 4) rfl) (ev_var (i := 13) rfl) hn2 hg4 wds (ex_l e711 pnS) (hRl.ex e11))))
      (et_notT (et_B (ev_charted (K := K) (A := A) (er_wneg (K := K) (A := A) (er_ev (ev_var (i := 9) rfl) fun G e => W.ex (e711.trans e))) (ev_var (i := 4) rfl) (ev_var (i := 15) rfl) hn2 hg4 wds (ex_l e711 pnS) hRb)))) fun H12 e12 => ?_
    exact s_ret (ev_charted (K := K) (A := A) (er_ev (ev_var (i := 9) rfl) fun G e => W.ex ((e711.trans e12).trans e)) (ev_var (i := 4) rfl) (ev_var (i := 8) rfl) hn2 hg4 wds (ex_l (e711.trans e12) pnS) (hR7.ex (e711.trans e12))) fun G e => k G
theorem all_mk {l : PySem.W.OpenLaw} {w : World} {K : PySem.W.Frag} {h : Heap} {mg : Str → Option Value} {fa : Addr} (X : K.In h) (G : h.Ns mainGlobals mg) (hfa : mg "law" = some (.ref fa))
    {od0 an0 : Option Addr} {sl0 : Array (Option Value)} {oc0 kV0 dc0 pm0 cd0 ct0 : Value} {f0 : Addr}
    {od1 an1 : Option Addr} {sl1 : Array (Option Value)} {oc1 kV1 dc1 pm1 cd1 ct1 : Value} {f1 : Addr}
    {od2 an2 : Option Addr} {sl2 : Array (Option Value)} {oc2 kV2 dc2 pm2 cd2 ct2 : Value} {f2 : Addr}
    {od3 an3 : Option Addr} {sl3 : Array (Option Value)} {oc3 kV3 dc3 pm3 cd3 ct3 : Value} {f3 : Addr}
    {od4 an4 : Option Addr} {sl4 : Array (Option Value)} {oc4 kV4 dc4 pm4 cd4 ct4 : Value} {f4 : Addr}
    {od5 an5 : Option Addr} {sl5 : Array (Option Value)} {oc5 kV5 dc5 pm5 cd5 ct5 : Value} {f5 : Addr}
    {od6 an6 : Option Addr} {sl6 : Array (Option Value)} {oc6 kV6 dc6 pm6 cd6 ct6 : Value} {f6 : Addr}
    {od7 an7 : Option Addr} {sl7 : Array (Option Value)} {oc7 kV7 dc7 pm7 cd7 ct7 : Value} {f7 : Addr}
    {od8 an8 : Option Addr} {sl8 : Array (Option Value)} {oc8 kV8 dc8 pm8 cd8 ct8 : Value} {f8 : Addr}
    {od9 an9 : Option Addr} {sl9 : Array (Option Value)} {oc9 kV9 dc9 pm9 cd9 ct9 : Value} {f9 : Addr}
    {od10 an10 : Option Addr} {sl10 : Array (Option Value)} {oc10 kV10 dc10 pm10 cd10 ct10 : Value} {f10 : Addr}
    {od11 an11 : Option Addr} {sl11 : Array (Option Value)} {oc11 kV11 dc11 pm11 cd11 ct11 : Value} {f11 : Addr}
    {od12 an12 : Option Addr} {sl12 : Array (Option Value)} {oc12 kV12 dc12 pm12 cd12 ct12 : Value} {f12 : Addr}
    {od13 an13 : Option Addr} {sl13 : Array (Option Value)} {oc13 kV13 dc13 pm13 cd13 ct13 : Value} {f13 : Addr}
    {od14 an14 : Option Addr} {sl14 : Array (Option Value)} {oc14 kV14 dc14 pm14 cd14 ct14 : Value} {f14 : Addr}
    {od15 an15 : Option Addr} {sl15 : Array (Option Value)} {oc15 kV15 dc15 pm15 cd15 ct15 : Value} {f15 : Addr}
    {od16 an16 : Option Addr} {sl16 : Array (Option Value)} {oc16 kV16 dc16 pm16 cd16 ct16 : Value} {f16 : Addr}
    {od17 an17 : Option Addr} {sl17 : Array (Option Value)} {oc17 kV17 dc17 pm17 cd17 ct17 : Value} {f17 : Addr}
    {od18 an18 : Option Addr} {sl18 : Array (Option Value)} {oc18 kV18 dc18 pm18 cd18 ct18 : Value} {f18 : Addr}
    {od19 an19 : Option Addr} {sl19 : Array (Option Value)} {oc19 kV19 dc19 pm19 cd19 ct19 : Value} {f19 : Addr}
    {od20 an20 : Option Addr} {sl20 : Array (Option Value)} {oc20 kV20 dc20 pm20 cd20 ct20 : Value} {f20 : Addr}
    {od21 an21 : Option Addr} {sl21 : Array (Option Value)} {oc21 kV21 dc21 pm21 cd21 ct21 : Value} {f21 : Addr}
    {od22 an22 : Option Addr} {sl22 : Array (Option Value)} {oc22 kV22 dc22 pm22 cd22 ct22 : Value} {f22 : Addr}
    {od23 an23 : Option Addr} {sl23 : Array (Option Value)} {oc23 kV23 dc23 pm23 cd23 ct23 : Value} {f23 : Addr}
    {od24 an24 : Option Addr} {sl24 : Array (Option Value)} {oc24 kV24 dc24 pm24 cd24 ct24 : Value} {f24 : Addr}
    {od25 an25 : Option Addr} {sl25 : Array (Option Value)} {oc25 kV25 dc25 pm25 cd25 ct25 : Value} {f25 : Addr}
    {od26 an26 : Option Addr} {sl26 : Array (Option Value)} {oc26 kV26 dc26 pm26 cd26 ct26 : Value} {f26 : Addr}
    {od27 an27 : Option Addr} {sl27 : Array (Option Value)} {oc27 kV27 dc27 pm27 cd27 ct27 : Value} {f27 : Addr}
    {od28 an28 : Option Addr} {sl28 : Array (Option Value)} {oc28 kV28 dc28 pm28 cd28 ct28 : Value} {f28 : Addr}
    {C_BadNumber : Addr} {C_TooMany : Addr} {C_SharedFactor : Addr} {C_WrongLength : Addr} {C_BadName : Addr} {C_RepeatedName : Addr} {C_House : Addr} {C_Watch : Addr}
    {t_LONGEST_NAME : Tok} {t_LETTERS : Tok}
    {nm_BadNumber q_BadNumber : Str} {N_BadNumber : Addr} {bs_BadNumber : List Value} {sn_BadNumber : List Str} {sub_BadNumber : List Value} {ab_BadNumber : Bool} {col_BadNumber : Option Bool} {dd_BadNumber : Option Addr} {m0_BadNumber m1_BadNumber m2_BadNumber m3_BadNumber m5_BadNumber : Option Value}
    {nm_TooMany q_TooMany : Str} {N_TooMany : Addr} {bs_TooMany : List Value} {sn_TooMany : List Str} {sub_TooMany : List Value} {ab_TooMany : Bool} {col_TooMany : Option Bool} {dd_TooMany : Option Addr} {m0_TooMany m1_TooMany m2_TooMany m3_TooMany m5_TooMany : Option Value}
    {nm_BadName q_BadName : Str} {N_BadName : Addr} {bs_BadName : List Value} {sn_BadName : List Str} {sub_BadName : List Value} {ab_BadName : Bool} {col_BadName : Option Bool} {dd_BadName : Option Addr} {m0_BadName m1_BadName m2_BadName m3_BadName m5_BadName : Option Value}
    {nm_RepeatedName q_RepeatedName : Str} {N_RepeatedName : Addr} {bs_RepeatedName : List Value} {sn_RepeatedName : List Str} {sub_RepeatedName : List Value} {ab_RepeatedName : Bool} {col_RepeatedName : Option Bool} {dd_RepeatedName : Option Addr} {m0_RepeatedName m1_RepeatedName m2_RepeatedName m3_RepeatedName m5_RepeatedName : Option Value}
    {nm_WrongLength q_WrongLength : Str} {N_WrongLength : Addr} {bs_WrongLength : List Value} {sn_WrongLength : List Str} {sub_WrongLength : List Value} {ab_WrongLength : Bool} {col_WrongLength : Option Bool} {dd_WrongLength : Option Addr} {m0_WrongLength m1_WrongLength m2_WrongLength m3_WrongLength m5_WrongLength : Option Value}
    {nm_SharedFactor q_SharedFactor : Str} {N_SharedFactor : Addr} {bs_SharedFactor : List Value} {sn_SharedFactor : List Str} {sub_SharedFactor : List Value} {ab_SharedFactor : Bool} {col_SharedFactor : Option Bool} {dd_SharedFactor : Option Addr} {m0_SharedFactor m1_SharedFactor m2_SharedFactor m3_SharedFactor m5_SharedFactor : Option Value}
    {tk_House_MOST_HOURS : Tok}
    {tk_House_MOST_GATES : Tok}
    {tk_House_MOST_CELLS : Tok}
    {tk_House_MOST_STAKE : Tok}
    {fo_Watch_lshift ro_Watch_lshift : Option Value}
    {fo_Watch_mul ro_Watch_mul : Option Value} {rf_Watch_mul : Addr}
    {tk_Watch_MOST : Tok}
    {p13 : Addr} {rest13 : List Value}
    (g_BadNumber : PySem.W.nsIn K mainGlobals "BadNumber" = some (some (.ref C_BadNumber)))
    (g_TooMany : PySem.W.nsIn K mainGlobals "TooMany" = some (some (.ref C_TooMany)))
    (g_SharedFactor : PySem.W.nsIn K mainGlobals "SharedFactor" = some (some (.ref C_SharedFactor)))
    (g_WrongLength : PySem.W.nsIn K mainGlobals "WrongLength" = some (some (.ref C_WrongLength)))
    (g_BadName : PySem.W.nsIn K mainGlobals "BadName" = some (some (.ref C_BadName)))
    (g_RepeatedName : PySem.W.nsIn K mainGlobals "RepeatedName" = some (some (.ref C_RepeatedName)))
    (g_House : PySem.W.nsIn K mainGlobals "House" = some (some (.ref C_House)))
    (g_Watch : PySem.W.nsIn K mainGlobals "Watch" = some (some (.ref C_Watch)))
    (a0 : PySem.W.findIn K (.ref C_BadNumber) "__init__" = some (some (.ref f0)))
    (l0 : K.lookup f0 = some ⟨oc0, od0, .func (PySem.W.fnOf "__init__" "BadNumber.__init__" (defArgs s_BadNumber_init) (defBody s_BadNumber_init) (defScope s_BadNumber_init) .none kV0 dc0 pm0 an0 cd0 ct0), sl0⟩)
    (c0 : PySem.W.codeIn K cd0 "BadNumber.__init__" = true)
    (k0 : PySem.W.keepIn K (.ref f0) = true)
    (a1 : PySem.W.findIn K (.ref C_TooMany) "__init__" = some (some (.ref f1)))
    (l1 : K.lookup f1 = some ⟨oc1, od1, .func (PySem.W.fnOf "__init__" "TooMany.__init__" (defArgs s_TooMany_init) (defBody s_TooMany_init) (defScope s_TooMany_init) .none kV1 dc1 pm1 an1 cd1 ct1), sl1⟩)
    (c1 : PySem.W.codeIn K cd1 "TooMany.__init__" = true)
    (k1 : PySem.W.keepIn K (.ref f1) = true)
    (a2 : PySem.W.findIn K (.ref C_SharedFactor) "__init__" = some (some (.ref f2)))
    (l2 : K.lookup f2 = some ⟨oc2, od2, .func (PySem.W.fnOf "__init__" "SharedFactor.__init__" (defArgs s_SharedFactor_init) (defBody s_SharedFactor_init) (defScope s_SharedFactor_init) .none kV2 dc2 pm2 an2 cd2 ct2), sl2⟩)
    (c2 : PySem.W.codeIn K cd2 "SharedFactor.__init__" = true)
    (k2 : PySem.W.keepIn K (.ref f2) = true)
    (a3 : PySem.W.findIn K (.ref C_WrongLength) "__init__" = some (some (.ref f3)))
    (l3 : K.lookup f3 = some ⟨oc3, od3, .func (PySem.W.fnOf "__init__" "WrongLength.__init__" (defArgs s_WrongLength_init) (defBody s_WrongLength_init) (defScope s_WrongLength_init) .none kV3 dc3 pm3 an3 cd3 ct3), sl3⟩)
    (c3 : PySem.W.codeIn K cd3 "WrongLength.__init__" = true)
    (k3 : PySem.W.keepIn K (.ref f3) = true)
    (a4 : PySem.W.findIn K (.ref C_BadName) "__init__" = some (some (.ref f4)))
    (l4 : K.lookup f4 = some ⟨oc4, od4, .func (PySem.W.fnOf "__init__" "BadName.__init__" (defArgs s_BadName_init) (defBody s_BadName_init) (defScope s_BadName_init) .none kV4 dc4 pm4 an4 cd4 ct4), sl4⟩)
    (c4 : PySem.W.codeIn K cd4 "BadName.__init__" = true)
    (k4 : PySem.W.keepIn K (.ref f4) = true)
    (a5 : PySem.W.findIn K (.ref C_RepeatedName) "__init__" = some (some (.ref f5)))
    (l5 : K.lookup f5 = some ⟨oc5, od5, .func (PySem.W.fnOf "__init__" "RepeatedName.__init__" (defArgs s_RepeatedName_init) (defBody s_RepeatedName_init) (defScope s_RepeatedName_init) .none kV5 dc5 pm5 an5 cd5 ct5), sl5⟩)
    (c5 : PySem.W.codeIn K cd5 "RepeatedName.__init__" = true)
    (k5 : PySem.W.keepIn K (.ref f5) = true)
    (a6 : PySem.W.nsIn K mainGlobals "check_name" = some (some (.ref f6)))
    (l6 : K.lookup f6 = some ⟨oc6, od6, .func (PySem.W.fnOf "check_name" "check_name" (defArgs s_check_name) (defBody s_check_name) (defScope s_check_name) .none kV6 dc6 pm6 an6 cd6 ct6), sl6⟩)
    (c6 : PySem.W.codeIn K cd6 "check_name" = true)
    (k6 : PySem.W.keepIn K (.ref f6) = true)
    (a7 : PySem.W.nsIn K mainGlobals "check_new_name" = some (some (.ref f7)))
    (l7 : K.lookup f7 = some ⟨oc7, od7, .func (PySem.W.fnOf "check_new_name" "check_new_name" (defArgs s_check_new_name) (defBody s_check_new_name) (defScope s_check_new_name) .none kV7 dc7 pm7 an7 cd7 ct7), sl7⟩)
    (c7 : PySem.W.codeIn K cd7 "check_new_name" = true)
    (k7 : PySem.W.keepIn K (.ref f7) = true)
    (a8 : PySem.W.findIn K (.ref C_House) "__init__" = some (some (.ref f8)))
    (l8 : K.lookup f8 = some ⟨oc8, od8, .func (PySem.W.fnOf "__init__" "House.__init__" (defArgs s_House_init) (defBody s_House_init) (defScope s_House_init) .none kV8 dc8 pm8 an8 cd8 ct8), sl8⟩)
    (c8 : PySem.W.codeIn K cd8 "House.__init__" = true)
    (k8 : PySem.W.keepIn K (.ref f8) = true)
    (a9 : PySem.W.findIn K (.ref C_House) "__len__" = some (some (.ref f9)))
    (l9 : K.lookup f9 = some ⟨oc9, od9, .func (PySem.W.fnOf "__len__" "House.__len__" (defArgs s_House_len) (defBody s_House_len) (defScope s_House_len) .none kV9 dc9 pm9 an9 cd9 ct9), sl9⟩)
    (c9 : PySem.W.codeIn K cd9 "House.__len__" = true)
    (k9 : PySem.W.keepIn K (.ref f9) = true)
    (a10 : PySem.W.nsIn K mainGlobals "is_gate" = some (some (.ref f10)))
    (l10 : K.lookup f10 = some ⟨oc10, od10, .func (PySem.W.fnOf "is_gate" "is_gate" (defArgs s_is_gate) (defBody s_is_gate) (defScope s_is_gate) .none kV10 dc10 pm10 an10 cd10 ct10), sl10⟩)
    (c10 : PySem.W.codeIn K cd10 "is_gate" = true)
    (k10 : PySem.W.keepIn K (.ref f10) = true)
    (a11 : PySem.W.nsIn K mainGlobals "_check_row" = some (some (.ref f11)))
    (l11 : K.lookup f11 = some ⟨oc11, od11, .func (PySem.W.fnOf "_check_row" "_check_row" (defArgs s_u_check_row) (defBody s_u_check_row) (defScope s_u_check_row) .none kV11 dc11 pm11 an11 cd11 ct11), sl11⟩)
    (c11 : PySem.W.codeIn K cd11 "_check_row" = true)
    (k11 : PySem.W.keepIn K (.ref f11) = true)
    (a12 : PySem.W.findIn K (.ref C_Watch) "__init__" = some (some (.ref f12)))
    (l12 : K.lookup f12 = some ⟨oc12, od12, .func (PySem.W.fnOf "__init__" "Watch.__init__" (defArgs s_Watch_init) (defBody s_Watch_init) (defScope s_Watch_init) .none kV12 dc12 pm12 an12 cd12 ct12), sl12⟩)
    (c12 : PySem.W.codeIn K cd12 "Watch.__init__" = true)
    (k12 : PySem.W.keepIn K (.ref f12) = true)
    (pa_13 : PySem.W.findIn K (.ref C_Watch) "rows" = some (some (.ref p13)))
    (a13 : PySem.W.recIn K p13 "property" = some (.ref f13 :: rest13))
    (l13 : K.lookup f13 = some ⟨oc13, od13, .func (PySem.W.fnOf "rows" "Watch.rows" (defArgs s_Watch_rows) (defBody s_Watch_rows) (defScope s_Watch_rows) .none kV13 dc13 pm13 an13 cd13 ct13), sl13⟩)
    (c13 : PySem.W.codeIn K cd13 "Watch.rows" = true)
    (k13 : PySem.W.keepIn K (.ref f13) = true)
    (a14 : PySem.W.findIn K (.ref C_Watch) "__lshift__" = some (some (.ref f14)))
    (l14 : K.lookup f14 = some ⟨oc14, od14, .func (PySem.W.fnOf "__lshift__" "Watch.__lshift__" (defArgs s_Watch_lshift) (defBody s_Watch_lshift) (defScope s_Watch_lshift) .none kV14 dc14 pm14 an14 cd14 ct14), sl14⟩)
    (c14 : PySem.W.codeIn K cd14 "Watch.__lshift__" = true)
    (k14 : PySem.W.keepIn K (.ref f14) = true)
    (a15 : PySem.W.findIn K (.ref C_Watch) "__mul__" = some (some (.ref f15)))
    (l15 : K.lookup f15 = some ⟨oc15, od15, .func (PySem.W.fnOf "__mul__" "Watch.__mul__" (defArgs s_Watch_mul) (defBody s_Watch_mul) (defScope s_Watch_mul) .none kV15 dc15 pm15 an15 cd15 ct15), sl15⟩)
    (c15 : PySem.W.codeIn K cd15 "Watch.__mul__" = true)
    (k15 : PySem.W.keepIn K (.ref f15) = true)
    (a16 : PySem.W.findIn K (.ref C_Watch) "__neg__" = some (some (.ref f16)))
    (l16 : K.lookup f16 = some ⟨oc16, od16, .func (PySem.W.fnOf "__neg__" "Watch.__neg__" (defArgs s_Watch_neg) (defBody s_Watch_neg) (defScope s_Watch_neg) .none kV16 dc16 pm16 an16 cd16 ct16), sl16⟩)
    (c16 : PySem.W.codeIn K cd16 "Watch.__neg__" = true)
    (k16 : PySem.W.keepIn K (.ref f16) = true)
    (a17 : PySem.W.nsIn K mainGlobals "_line" = some (some (.ref f17)))
    (l17 : K.lookup f17 = some ⟨oc17, od17, .func (PySem.W.fnOf "_line" "_line" (defArgs s_u_line) (defBody s_u_line) (defScope s_u_line) .none kV17 dc17 pm17 an17 cd17 ct17), sl17⟩)
    (c17 : PySem.W.codeIn K cd17 "_line" = true)
    (k17 : PySem.W.keepIn K (.ref f17) = true)
    (a18 : PySem.W.nsIn K mainGlobals "chart" = some (some (.ref f18)))
    (l18 : K.lookup f18 = some ⟨oc18, od18, .func (PySem.W.fnOf "chart" "chart" (defArgs s_chart) (defBody s_chart) (defScope s_chart) .none kV18 dc18 pm18 an18 cd18 ct18), sl18⟩)
    (c18 : PySem.W.codeIn K cd18 "chart" = true)
    (k18 : PySem.W.keepIn K (.ref f18) = true)
    (a19 : PySem.W.nsIn K mainGlobals "_law_cell" = some (some (.ref f19)))
    (l19 : K.lookup f19 = some ⟨oc19, od19, .func (PySem.W.fnOf "_law_cell" "_law_cell" (defArgs s_u_law_cell) (defBody s_u_law_cell) (defScope s_u_law_cell) .none kV19 dc19 pm19 an19 cd19 ct19), sl19⟩)
    (c19 : PySem.W.codeIn K cd19 "_law_cell" = true)
    (k19 : PySem.W.keepIn K (.ref f19) = true)
    (a20 : PySem.W.nsIn K mainGlobals "_law_draws" = some (some (.ref f20)))
    (l20 : K.lookup f20 = some ⟨oc20, od20, .func (PySem.W.fnOf "_law_draws" "_law_draws" (defArgs s_u_law_draws) (defBody s_u_law_draws) (defScope s_u_law_draws) .none kV20 dc20 pm20 an20 cd20 ct20), sl20⟩)
    (c20 : PySem.W.codeIn K cd20 "_law_draws" = true)
    (k20 : PySem.W.keepIn K (.ref f20) = true)
    (a21 : PySem.W.nsIn K mainGlobals "_law_is_int" = some (some (.ref f21)))
    (l21 : K.lookup f21 = some ⟨oc21, od21, .func (PySem.W.fnOf "_law_is_int" "_law_is_int" (defArgs s_u_law_is_int) (defBody s_u_law_is_int) (defScope s_u_law_is_int) .none kV21 dc21 pm21 an21 cd21 ct21), sl21⟩)
    (c21 : PySem.W.codeIn K cd21 "_law_is_int" = true)
    (k21 : PySem.W.keepIn K (.ref f21) = true)
    (a22 : PySem.W.nsIn K mainGlobals "_law_same" = some (some (.ref f22)))
    (l22 : K.lookup f22 = some ⟨oc22, od22, .func (PySem.W.fnOf "_law_same" "_law_same" (defArgs s_u_law_same) (defBody s_u_law_same) (defScope s_u_law_same) .none kV22 dc22 pm22 an22 cd22 ct22), sl22⟩)
    (c22 : PySem.W.codeIn K cd22 "_law_same" = true)
    (k22 : PySem.W.keepIn K (.ref f22) = true)
    (a23 : PySem.W.nsIn K mainGlobals "_law_rows" = some (some (.ref f23)))
    (l23 : K.lookup f23 = some ⟨oc23, od23, .func (PySem.W.fnOf "_law_rows" "_law_rows" (defArgs s_u_law_rows) (defBody s_u_law_rows) (defScope s_u_law_rows) .none kV23 dc23 pm23 an23 cd23 ct23), sl23⟩)
    (c23 : PySem.W.codeIn K cd23 "_law_rows" = true)
    (k23 : PySem.W.keepIn K (.ref f23) = true)
    (a24 : PySem.W.nsIn K mainGlobals "_law_drawn_names" = some (some (.ref f24)))
    (l24 : K.lookup f24 = some ⟨oc24, od24, .func (PySem.W.fnOf "_law_drawn_names" "_law_drawn_names" (defArgs s_u_law_drawn_names) (defBody s_u_law_drawn_names) (defScope s_u_law_drawn_names) .none kV24 dc24 pm24 an24 cd24 ct24), sl24⟩)
    (c24 : PySem.W.codeIn K cd24 "_law_drawn_names" = true)
    (k24 : PySem.W.keepIn K (.ref f24) = true)
    (a25 : PySem.W.nsIn K mainGlobals "_law_filled" = some (some (.ref f25)))
    (l25 : K.lookup f25 = some ⟨oc25, od25, .func (PySem.W.fnOf "_law_filled" "_law_filled" (defArgs s_u_law_filled) (defBody s_u_law_filled) (defScope s_u_law_filled) .none kV25 dc25 pm25 an25 cd25 ct25), sl25⟩)
    (c25 : PySem.W.codeIn K cd25 "_law_filled" = true)
    (k25 : PySem.W.keepIn K (.ref f25) = true)
    (a26 : PySem.W.nsIn K mainGlobals "_law_line" = some (some (.ref f26)))
    (l26 : K.lookup f26 = some ⟨oc26, od26, .func (PySem.W.fnOf "_law_line" "_law_line" (defArgs s_u_law_line) (defBody s_u_law_line) (defScope s_u_law_line) .none kV26 dc26 pm26 an26 cd26 ct26), sl26⟩)
    (c26 : PySem.W.codeIn K cd26 "_law_line" = true)
    (k26 : PySem.W.keepIn K (.ref f26) = true)
    (a27 : PySem.W.nsIn K mainGlobals "_law_charted" = some (some (.ref f27)))
    (l27 : K.lookup f27 = some ⟨oc27, od27, .func (PySem.W.fnOf "_law_charted" "_law_charted" (defArgs s_u_law_charted) (defBody s_u_law_charted) (defScope s_u_law_charted) .none kV27 dc27 pm27 an27 cd27 ct27), sl27⟩)
    (c27 : PySem.W.codeIn K cd27 "_law_charted" = true)
    (k27 : PySem.W.keepIn K (.ref f27) = true)
    (a28 : PySem.W.nsIn K mainGlobals "law" = some (some (.ref f28)))
    (l28 : K.lookup f28 = some ⟨oc28, od28, .func (PySem.W.fnOf "law" "law" (defArgs s_law) (defBody s_law) (defScope s_law) .none kV28 dc28 pm28 an28 cd28 ct28), sl28⟩)
    (c28 : PySem.W.codeIn K cd28 "law" = true)
    (k28 : PySem.W.keepIn K (.ref f28) = true)
    (kc_LONGEST_NAME : PySem.W.nsIn K mainGlobals "_LONGEST_NAME" = some (some (.int 8 t_LONGEST_NAME)))
    (kc_LETTERS : PySem.W.nsIn K mainGlobals "_LETTERS" = some (some (.str "abcdefghijklmnopqrstuvwxyz" t_LETTERS)))
    (z_abs : PySem.W.nsIn K mainGlobals "abs" = some none)
    (z_len : PySem.W.nsIn K mainGlobals "len" = some none)
    (z_int : PySem.W.nsIn K mainGlobals "int" = some none)
    (z_str : PySem.W.nsIn K mainGlobals "str" = some none)
    (z_list : PySem.W.nsIn K mainGlobals "list" = some none)
    (z_tuple : PySem.W.nsIn K mainGlobals "tuple" = some none)
    (z_isinstance : PySem.W.nsIn K mainGlobals "isinstance" = some none)
    (z_range : PySem.W.nsIn K mainGlobals "range" = some none)
    (z_min : PySem.W.nsIn K mainGlobals "min" = some none)
    (z_enumerate : PySem.W.nsIn K mainGlobals "enumerate" = some none)
    (z_zip : PySem.W.nsIn K mainGlobals "zip" = some none)
    (z_bool : PySem.W.nsIn K mainGlobals "bool" = some none)
    (gG : PySem.W.nsIn K mainGlobals "gcd" = some (some (.builtin "math.gcd")))
    (exC_BadNumber : PySem.W.subIn K (.ref C_BadNumber) (.type "BaseException") = some true)
    (hdC_BadNumber : PySem.W.hasDictIn K C_BadNumber = true)
    (tyC_BadNumber : PySem.W.typeIn K (.ref C_BadNumber) = some (.type "type"))
    (meC_BadNumber : PySem.W.subIn K (.ref C_BadNumber) (.ref C_BadNumber) = some true)
    (xL_BadNumber : K.lookup C_BadNumber = some (excClassObj nm_BadNumber q_BadNumber C_BadNumber N_BadNumber bs_BadNumber [.ref C_WatchError, .type "ValueError", .type "Exception", .type "BaseException", .type "object"] true sn_BadNumber sub_BadNumber ab_BadNumber col_BadNumber dd_BadNumber m0_BadNumber m1_BadNumber m2_BadNumber m3_BadNumber m5_BadNumber "ValueError.__new__"))
    (sa_BadNumber : PySem.W.findIn K (.ref C_BadNumber) "__setattr__" = some (some (.builtin "object.__setattr__")))
    (kC_BadNumber : PySem.W.keepIn K (.ref C_BadNumber) = true)
    (ti_BadNumber : PySem.W.typeIn K (.ref f0) = some (.type "function"))
    (ga_BadNumber : PySem.W.findIn K (.ref C_BadNumber) "__getattribute__" = some (some (.builtin "BaseException.__getattribute__")))
    (gg_BadNumber : PySem.W.findIn K (.ref C_BadNumber) "__getattr__" = some none)
    (ha_BadNumber : PySem.W.findIn K (.ref C_BadNumber) "__class__" = some (some (.builtin "object.__class__")))
    (hn_ : PySem.W.specialIn K (.builtin "object.__class__") "__get__" = some (some (.builtin "getset_descriptor.__get__")))
    (ht_ : PySem.W.takesIn K (.builtin "object.__class__") = some true)
    (hm_BadNumber : PySem.W.mroIn K C_BadNumber (.type "object") = some true)
    (nf_BadNumber_name : PySem.W.findIn K (.ref C_BadNumber) "name" = some none)
    (nf_BadNumber_value : PySem.W.findIn K (.ref C_BadNumber) "value" = some none)
    (exC_TooMany : PySem.W.subIn K (.ref C_TooMany) (.type "BaseException") = some true)
    (hdC_TooMany : PySem.W.hasDictIn K C_TooMany = true)
    (tyC_TooMany : PySem.W.typeIn K (.ref C_TooMany) = some (.type "type"))
    (meC_TooMany : PySem.W.subIn K (.ref C_TooMany) (.ref C_TooMany) = some true)
    (xL_TooMany : K.lookup C_TooMany = some (excClassObj nm_TooMany q_TooMany C_TooMany N_TooMany bs_TooMany [.ref C_WatchError, .type "ValueError", .type "Exception", .type "BaseException", .type "object"] true sn_TooMany sub_TooMany ab_TooMany col_TooMany dd_TooMany m0_TooMany m1_TooMany m2_TooMany m3_TooMany m5_TooMany "ValueError.__new__"))
    (sa_TooMany : PySem.W.findIn K (.ref C_TooMany) "__setattr__" = some (some (.builtin "object.__setattr__")))
    (kC_TooMany : PySem.W.keepIn K (.ref C_TooMany) = true)
    (ti_TooMany : PySem.W.typeIn K (.ref f1) = some (.type "function"))
    (ga_TooMany : PySem.W.findIn K (.ref C_TooMany) "__getattribute__" = some (some (.builtin "BaseException.__getattribute__")))
    (gg_TooMany : PySem.W.findIn K (.ref C_TooMany) "__getattr__" = some none)
    (ha_TooMany : PySem.W.findIn K (.ref C_TooMany) "__class__" = some (some (.builtin "object.__class__")))
    (hm_TooMany : PySem.W.mroIn K C_TooMany (.type "object") = some true)
    (nf_TooMany_name : PySem.W.findIn K (.ref C_TooMany) "name" = some none)
    (nf_TooMany_most : PySem.W.findIn K (.ref C_TooMany) "most" = some none)
    (exC_BadName : PySem.W.subIn K (.ref C_BadName) (.type "BaseException") = some true)
    (hdC_BadName : PySem.W.hasDictIn K C_BadName = true)
    (tyC_BadName : PySem.W.typeIn K (.ref C_BadName) = some (.type "type"))
    (meC_BadName : PySem.W.subIn K (.ref C_BadName) (.ref C_BadName) = some true)
    (xL_BadName : K.lookup C_BadName = some (excClassObj nm_BadName q_BadName C_BadName N_BadName bs_BadName [.ref C_WatchError, .type "ValueError", .type "Exception", .type "BaseException", .type "object"] true sn_BadName sub_BadName ab_BadName col_BadName dd_BadName m0_BadName m1_BadName m2_BadName m3_BadName m5_BadName "ValueError.__new__"))
    (sa_BadName : PySem.W.findIn K (.ref C_BadName) "__setattr__" = some (some (.builtin "object.__setattr__")))
    (kC_BadName : PySem.W.keepIn K (.ref C_BadName) = true)
    (ti_BadName : PySem.W.typeIn K (.ref f4) = some (.type "function"))
    (ga_BadName : PySem.W.findIn K (.ref C_BadName) "__getattribute__" = some (some (.builtin "BaseException.__getattribute__")))
    (gg_BadName : PySem.W.findIn K (.ref C_BadName) "__getattr__" = some none)
    (ha_BadName : PySem.W.findIn K (.ref C_BadName) "__class__" = some (some (.builtin "object.__class__")))
    (hm_BadName : PySem.W.mroIn K C_BadName (.type "object") = some true)
    (nf_BadName_name : PySem.W.findIn K (.ref C_BadName) "name" = some none)
    (exC_RepeatedName : PySem.W.subIn K (.ref C_RepeatedName) (.type "BaseException") = some true)
    (hdC_RepeatedName : PySem.W.hasDictIn K C_RepeatedName = true)
    (tyC_RepeatedName : PySem.W.typeIn K (.ref C_RepeatedName) = some (.type "type"))
    (meC_RepeatedName : PySem.W.subIn K (.ref C_RepeatedName) (.ref C_RepeatedName) = some true)
    (xL_RepeatedName : K.lookup C_RepeatedName = some (excClassObj nm_RepeatedName q_RepeatedName C_RepeatedName N_RepeatedName bs_RepeatedName [.ref C_WatchError, .type "ValueError", .type "Exception", .type "BaseException", .type "object"] true sn_RepeatedName sub_RepeatedName ab_RepeatedName col_RepeatedName dd_RepeatedName m0_RepeatedName m1_RepeatedName m2_RepeatedName m3_RepeatedName m5_RepeatedName "ValueError.__new__"))
    (sa_RepeatedName : PySem.W.findIn K (.ref C_RepeatedName) "__setattr__" = some (some (.builtin "object.__setattr__")))
    (kC_RepeatedName : PySem.W.keepIn K (.ref C_RepeatedName) = true)
    (ti_RepeatedName : PySem.W.typeIn K (.ref f5) = some (.type "function"))
    (ga_RepeatedName : PySem.W.findIn K (.ref C_RepeatedName) "__getattribute__" = some (some (.builtin "BaseException.__getattribute__")))
    (gg_RepeatedName : PySem.W.findIn K (.ref C_RepeatedName) "__getattr__" = some none)
    (ha_RepeatedName : PySem.W.findIn K (.ref C_RepeatedName) "__class__" = some (some (.builtin "object.__class__")))
    (hm_RepeatedName : PySem.W.mroIn K C_RepeatedName (.type "object") = some true)
    (nf_RepeatedName_name : PySem.W.findIn K (.ref C_RepeatedName) "name" = some none)
    (exC_WrongLength : PySem.W.subIn K (.ref C_WrongLength) (.type "BaseException") = some true)
    (hdC_WrongLength : PySem.W.hasDictIn K C_WrongLength = true)
    (tyC_WrongLength : PySem.W.typeIn K (.ref C_WrongLength) = some (.type "type"))
    (meC_WrongLength : PySem.W.subIn K (.ref C_WrongLength) (.ref C_WrongLength) = some true)
    (xL_WrongLength : K.lookup C_WrongLength = some (excClassObj nm_WrongLength q_WrongLength C_WrongLength N_WrongLength bs_WrongLength [.ref C_WatchError, .type "ValueError", .type "Exception", .type "BaseException", .type "object"] true sn_WrongLength sub_WrongLength ab_WrongLength col_WrongLength dd_WrongLength m0_WrongLength m1_WrongLength m2_WrongLength m3_WrongLength m5_WrongLength "ValueError.__new__"))
    (sa_WrongLength : PySem.W.findIn K (.ref C_WrongLength) "__setattr__" = some (some (.builtin "object.__setattr__")))
    (kC_WrongLength : PySem.W.keepIn K (.ref C_WrongLength) = true)
    (ti_WrongLength : PySem.W.typeIn K (.ref f3) = some (.type "function"))
    (ga_WrongLength : PySem.W.findIn K (.ref C_WrongLength) "__getattribute__" = some (some (.builtin "BaseException.__getattribute__")))
    (gg_WrongLength : PySem.W.findIn K (.ref C_WrongLength) "__getattr__" = some none)
    (ha_WrongLength : PySem.W.findIn K (.ref C_WrongLength) "__class__" = some (some (.builtin "object.__class__")))
    (hm_WrongLength : PySem.W.mroIn K C_WrongLength (.type "object") = some true)
    (nf_WrongLength_length : PySem.W.findIn K (.ref C_WrongLength) "length" = some none)
    (exC_SharedFactor : PySem.W.subIn K (.ref C_SharedFactor) (.type "BaseException") = some true)
    (hdC_SharedFactor : PySem.W.hasDictIn K C_SharedFactor = true)
    (tyC_SharedFactor : PySem.W.typeIn K (.ref C_SharedFactor) = some (.type "type"))
    (meC_SharedFactor : PySem.W.subIn K (.ref C_SharedFactor) (.ref C_SharedFactor) = some true)
    (xL_SharedFactor : K.lookup C_SharedFactor = some (excClassObj nm_SharedFactor q_SharedFactor C_SharedFactor N_SharedFactor bs_SharedFactor [.ref C_WatchError, .type "ValueError", .type "Exception", .type "BaseException", .type "object"] true sn_SharedFactor sub_SharedFactor ab_SharedFactor col_SharedFactor dd_SharedFactor m0_SharedFactor m1_SharedFactor m2_SharedFactor m3_SharedFactor m5_SharedFactor "ValueError.__new__"))
    (sa_SharedFactor : PySem.W.findIn K (.ref C_SharedFactor) "__setattr__" = some (some (.builtin "object.__setattr__")))
    (kC_SharedFactor : PySem.W.keepIn K (.ref C_SharedFactor) = true)
    (ti_SharedFactor : PySem.W.typeIn K (.ref f2) = some (.type "function"))
    (ga_SharedFactor : PySem.W.findIn K (.ref C_SharedFactor) "__getattribute__" = some (some (.builtin "BaseException.__getattribute__")))
    (gg_SharedFactor : PySem.W.findIn K (.ref C_SharedFactor) "__getattr__" = some none)
    (ha_SharedFactor : PySem.W.findIn K (.ref C_SharedFactor) "__class__" = some (some (.builtin "object.__class__")))
    (hm_SharedFactor : PySem.W.mroIn K C_SharedFactor (.type "object") = some true)
    (nf_SharedFactor_factor : PySem.W.findIn K (.ref C_SharedFactor) "factor" = some none)
    (pg_House : PySem.W.plainGet K C_House Str.empty = true)
    (hd_House : PySem.W.hasDictIn K C_House = true)
    (po_House : PySem.W.plainOver K C_House = true)
    (sa_House : PySem.W.findIn K (.ref C_House) "__setattr__" = some (some (.builtin "object.__setattr__")))
    (mk_House : PySem.W.makesIn K C_House = true)
    (kc_House : PySem.W.keepIn K (.ref C_House) = true)
    (if_8 : PySem.W.isFn K (.ref f8) = true)
    (na_House_hours : PySem.W.findIn K (.ref C_House) "hours" = some none)
    (na_House_names : PySem.W.findIn K (.ref C_House) "names" = some none)
    (na_House_stakes : PySem.W.findIn K (.ref C_House) "stakes" = some none)
    (ha_House : PySem.W.findIn K (.ref C_House) "__class__" = some (some (.builtin "object.__class__")))
    (hm_House : PySem.W.mroIn K C_House (.type "object") = some true)
    (rd_House : PySem.W.readsIn K C_House (.type "type") = true)
    (gt_House : PySem.W.specialIn K (.ref C_House) "__getattribute__" = some (some (.builtin "type.__getattribute__")))
    (cv_House_MOST_HOURS : PySem.W.findCls K (.ref C_House) (.type "type") "MOST_HOURS" = some (.val (.int 24 tk_House_MOST_HOURS)))
    (cv_House_MOST_GATES : PySem.W.findCls K (.ref C_House) (.type "type") "MOST_GATES" = some (.val (.int 4 tk_House_MOST_GATES)))
    (cv_House_MOST_CELLS : PySem.W.findCls K (.ref C_House) (.type "type") "MOST_CELLS" = some (.val (.int 48 tk_House_MOST_CELLS)))
    (cv_House_MOST_STAKE : PySem.W.findCls K (.ref C_House) (.type "type") "MOST_STAKE" = some (.val (.int 60 tk_House_MOST_STAKE)))
    (pg_Watch : PySem.W.plainGet K C_Watch Str.empty = true)
    (hd_Watch : PySem.W.hasDictIn K C_Watch = true)
    (po_Watch : PySem.W.plainOver K C_Watch = true)
    (sa_Watch : PySem.W.findIn K (.ref C_Watch) "__setattr__" = some (some (.builtin "object.__setattr__")))
    (mk_Watch : PySem.W.makesIn K C_Watch = true)
    (kc_Watch : PySem.W.keepIn K (.ref C_Watch) = true)
    (if_12 : PySem.W.isFn K (.ref f12) = true)
    (na_Watch_house : PySem.W.findIn K (.ref C_Watch) "house" = some none)
    (na_Watch_rows : PySem.W.findIn K (.ref C_Watch) "_rows" = some none)
    (sf_Watch : PySem.W.selfFirst K C_Watch = true)
    (si_Watch : PySem.W.subIn K (.type "int") (.ref C_Watch) = some false)
    (dn_Watch_lshift : PySem.W.findIn K (.ref C_Watch) (PySem.dunder "lshift") = some (some (.ref f14)))
    (dn_Watch_mul : PySem.W.findIn K (.ref C_Watch) (PySem.dunder "mul") = some (some (.ref f15)))
    (rc_Watch_lshift : PySem.W.findIn K (.ref C_Watch) (dunderR "lshift") = some none)
    (lo_Watch_lshift : PySem.W.findIn K (.type "int") (PySem.dunder "lshift") = some fo_Watch_lshift)
    (ro_Watch_lshift : PySem.W.findIn K (.type "int") (dunderR "lshift") = some ro_Watch_lshift)
    (rc_Watch_mul : PySem.W.findIn K (.ref C_Watch) (dunderR "mul") = some (some (.ref rf_Watch_mul)))
    (lo_Watch_mul : PySem.W.findIn K (.type "int") (PySem.dunder "mul") = some fo_Watch_mul)
    (ro_Watch_mul : PySem.W.findIn K (.type "int") (dunderR "mul") = some ro_Watch_mul)
    (ha_Watch : PySem.W.findIn K (.ref C_Watch) "__class__" = some (some (.builtin "object.__class__")))
    (hm_Watch : PySem.W.mroIn K C_Watch (.type "object") = some true)
    (rd_Watch : PySem.W.readsIn K C_Watch (.type "type") = true)
    (gt_Watch : PySem.W.specialIn K (.ref C_Watch) "__getattribute__" = some (some (.builtin "type.__getattribute__")))
    (cv_Watch_MOST : PySem.W.findCls K (.ref C_Watch) (.type "type") "MOST" = some (.val (.int 96 tk_Watch_MOST)))
    (if_9 : PySem.W.isFn K (.ref f9) = true)
    (pg_13 : PySem.W.specialIn K (.ref p13) "__get__" = some (some (.builtin "property.__get__")))
    (pt_13 : PySem.W.takesIn K (.ref p13) = some true)
    (if_14 : PySem.W.isFn K (.ref f14) = true)
    (if_15 : PySem.W.isFn K (.ref f15) = true)
    (if_16 : PySem.W.isFn K (.ref f16) = true)
    : ∃ fd : FuncData, (∀ (s : Shared) (v : Value), BindsTo s fd ⟨[v], []⟩ [("script", v)]) ∧ ∀ base : Heap, K.In base → base.Ns mainGlobals mg → FnOk l.prog w K mg base CX0 20 fa fd ["script"] ((spLaw K)) := by
  have e := hfa.symm.trans (PySem.W.mg_of X G a28)
  cases e
  let A : Ads := {
    f_BadNumber_init := f0,
    d_BadNumber_init := PySem.W.fnOf "__init__" "BadNumber.__init__" (defArgs s_BadNumber_init) (defBody s_BadNumber_init) (defScope s_BadNumber_init) .none kV0 dc0 pm0 an0 cd0 ct0,
    f_TooMany_init := f1,
    d_TooMany_init := PySem.W.fnOf "__init__" "TooMany.__init__" (defArgs s_TooMany_init) (defBody s_TooMany_init) (defScope s_TooMany_init) .none kV1 dc1 pm1 an1 cd1 ct1,
    f_SharedFactor_init := f2,
    d_SharedFactor_init := PySem.W.fnOf "__init__" "SharedFactor.__init__" (defArgs s_SharedFactor_init) (defBody s_SharedFactor_init) (defScope s_SharedFactor_init) .none kV2 dc2 pm2 an2 cd2 ct2,
    f_WrongLength_init := f3,
    d_WrongLength_init := PySem.W.fnOf "__init__" "WrongLength.__init__" (defArgs s_WrongLength_init) (defBody s_WrongLength_init) (defScope s_WrongLength_init) .none kV3 dc3 pm3 an3 cd3 ct3,
    f_BadName_init := f4,
    d_BadName_init := PySem.W.fnOf "__init__" "BadName.__init__" (defArgs s_BadName_init) (defBody s_BadName_init) (defScope s_BadName_init) .none kV4 dc4 pm4 an4 cd4 ct4,
    f_RepeatedName_init := f5,
    d_RepeatedName_init := PySem.W.fnOf "__init__" "RepeatedName.__init__" (defArgs s_RepeatedName_init) (defBody s_RepeatedName_init) (defScope s_RepeatedName_init) .none kV5 dc5 pm5 an5 cd5 ct5,
    f_check_name := f6,
    d_check_name := PySem.W.fnOf "check_name" "check_name" (defArgs s_check_name) (defBody s_check_name) (defScope s_check_name) .none kV6 dc6 pm6 an6 cd6 ct6,
    f_check_new_name := f7,
    d_check_new_name := PySem.W.fnOf "check_new_name" "check_new_name" (defArgs s_check_new_name) (defBody s_check_new_name) (defScope s_check_new_name) .none kV7 dc7 pm7 an7 cd7 ct7,
    f_House_init := f8,
    d_House_init := PySem.W.fnOf "__init__" "House.__init__" (defArgs s_House_init) (defBody s_House_init) (defScope s_House_init) .none kV8 dc8 pm8 an8 cd8 ct8,
    f_House_len := f9,
    d_House_len := PySem.W.fnOf "__len__" "House.__len__" (defArgs s_House_len) (defBody s_House_len) (defScope s_House_len) .none kV9 dc9 pm9 an9 cd9 ct9,
    f_is_gate := f10,
    d_is_gate := PySem.W.fnOf "is_gate" "is_gate" (defArgs s_is_gate) (defBody s_is_gate) (defScope s_is_gate) .none kV10 dc10 pm10 an10 cd10 ct10,
    f_u_check_row := f11,
    d_u_check_row := PySem.W.fnOf "_check_row" "_check_row" (defArgs s_u_check_row) (defBody s_u_check_row) (defScope s_u_check_row) .none kV11 dc11 pm11 an11 cd11 ct11,
    f_Watch_init := f12,
    d_Watch_init := PySem.W.fnOf "__init__" "Watch.__init__" (defArgs s_Watch_init) (defBody s_Watch_init) (defScope s_Watch_init) .none kV12 dc12 pm12 an12 cd12 ct12,
    f_Watch_rows := f13,
    d_Watch_rows := PySem.W.fnOf "rows" "Watch.rows" (defArgs s_Watch_rows) (defBody s_Watch_rows) (defScope s_Watch_rows) .none kV13 dc13 pm13 an13 cd13 ct13,
    f_Watch_lshift := f14,
    d_Watch_lshift := PySem.W.fnOf "__lshift__" "Watch.__lshift__" (defArgs s_Watch_lshift) (defBody s_Watch_lshift) (defScope s_Watch_lshift) .none kV14 dc14 pm14 an14 cd14 ct14,
    f_Watch_mul := f15,
    d_Watch_mul := PySem.W.fnOf "__mul__" "Watch.__mul__" (defArgs s_Watch_mul) (defBody s_Watch_mul) (defScope s_Watch_mul) .none kV15 dc15 pm15 an15 cd15 ct15,
    f_Watch_neg := f16,
    d_Watch_neg := PySem.W.fnOf "__neg__" "Watch.__neg__" (defArgs s_Watch_neg) (defBody s_Watch_neg) (defScope s_Watch_neg) .none kV16 dc16 pm16 an16 cd16 ct16,
    f_u_line := f17,
    d_u_line := PySem.W.fnOf "_line" "_line" (defArgs s_u_line) (defBody s_u_line) (defScope s_u_line) .none kV17 dc17 pm17 an17 cd17 ct17,
    f_chart := f18,
    d_chart := PySem.W.fnOf "chart" "chart" (defArgs s_chart) (defBody s_chart) (defScope s_chart) .none kV18 dc18 pm18 an18 cd18 ct18,
    f_u_law_cell := f19,
    d_u_law_cell := PySem.W.fnOf "_law_cell" "_law_cell" (defArgs s_u_law_cell) (defBody s_u_law_cell) (defScope s_u_law_cell) .none kV19 dc19 pm19 an19 cd19 ct19,
    f_u_law_draws := f20,
    d_u_law_draws := PySem.W.fnOf "_law_draws" "_law_draws" (defArgs s_u_law_draws) (defBody s_u_law_draws) (defScope s_u_law_draws) .none kV20 dc20 pm20 an20 cd20 ct20,
    f_u_law_is_int := f21,
    d_u_law_is_int := PySem.W.fnOf "_law_is_int" "_law_is_int" (defArgs s_u_law_is_int) (defBody s_u_law_is_int) (defScope s_u_law_is_int) .none kV21 dc21 pm21 an21 cd21 ct21,
    f_u_law_same := f22,
    d_u_law_same := PySem.W.fnOf "_law_same" "_law_same" (defArgs s_u_law_same) (defBody s_u_law_same) (defScope s_u_law_same) .none kV22 dc22 pm22 an22 cd22 ct22,
    f_u_law_rows := f23,
    d_u_law_rows := PySem.W.fnOf "_law_rows" "_law_rows" (defArgs s_u_law_rows) (defBody s_u_law_rows) (defScope s_u_law_rows) .none kV23 dc23 pm23 an23 cd23 ct23,
    f_u_law_drawn_names := f24,
    d_u_law_drawn_names := PySem.W.fnOf "_law_drawn_names" "_law_drawn_names" (defArgs s_u_law_drawn_names) (defBody s_u_law_drawn_names) (defScope s_u_law_drawn_names) .none kV24 dc24 pm24 an24 cd24 ct24,
    f_u_law_filled := f25,
    d_u_law_filled := PySem.W.fnOf "_law_filled" "_law_filled" (defArgs s_u_law_filled) (defBody s_u_law_filled) (defScope s_u_law_filled) .none kV25 dc25 pm25 an25 cd25 ct25,
    f_u_law_line := f26,
    d_u_law_line := PySem.W.fnOf "_law_line" "_law_line" (defArgs s_u_law_line) (defBody s_u_law_line) (defScope s_u_law_line) .none kV26 dc26 pm26 an26 cd26 ct26,
    f_u_law_charted := f27,
    d_u_law_charted := PySem.W.fnOf "_law_charted" "_law_charted" (defArgs s_u_law_charted) (defBody s_u_law_charted) (defScope s_u_law_charted) .none kV27 dc27 pm27 an27 cd27 ct27,
    f_law := fa,
    d_law := PySem.W.fnOf "law" "law" (defArgs s_law) (defBody s_law) (defScope s_law) .none kV28 dc28 pm28 an28 cd28 ct28,
    C_BadNumber := C_BadNumber,
    C_TooMany := C_TooMany,
    C_SharedFactor := C_SharedFactor,
    C_WrongLength := C_WrongLength,
    C_BadName := C_BadName,
    C_RepeatedName := C_RepeatedName,
    C_House := C_House,
    C_Watch := C_Watch,
    p_Watch_rows := p13 }
  have T : Txt K mg A := {
    F_BadNumber_init := fun_mk (st := s_BadNumber_init) l0 c0 k0,
    F_TooMany_init := fun_mk (st := s_TooMany_init) l1 c1 k1,
    F_SharedFactor_init := fun_mk (st := s_SharedFactor_init) l2 c2 k2,
    F_WrongLength_init := fun_mk (st := s_WrongLength_init) l3 c3 k3,
    F_BadName_init := fun_mk (st := s_BadName_init) l4 c4 k4,
    F_RepeatedName_init := fun_mk (st := s_RepeatedName_init) l5 c5 k5,
    F_check_name := fun_mk (st := s_check_name) l6 c6 k6,
    g_check_name := PySem.W.mg_of X G a6,
    k_check_name := k6,
    F_check_new_name := fun_mk (st := s_check_new_name) l7 c7 k7,
    g_check_new_name := PySem.W.mg_of X G a7,
    k_check_new_name := k7,
    F_House_init := fun_mk (st := s_House_init) l8 c8 k8,
    F_House_len := fun_mk (st := s_House_len) l9 c9 k9,
    F_is_gate := fun_mk (st := s_is_gate) l10 c10 k10,
    g_is_gate := PySem.W.mg_of X G a10,
    k_is_gate := k10,
    F_u_check_row := fun_mk (st := s_u_check_row) l11 c11 k11,
    g_u_check_row := PySem.W.mg_of X G a11,
    k_u_check_row := k11,
    F_Watch_init := fun_mk (st := s_Watch_init) l12 c12 k12,
    F_Watch_rows := fun_mk (st := s_Watch_rows) l13 c13 k13,
    F_Watch_lshift := fun_mk (st := s_Watch_lshift) l14 c14 k14,
    F_Watch_mul := fun_mk (st := s_Watch_mul) l15 c15 k15,
    F_Watch_neg := fun_mk (st := s_Watch_neg) l16 c16 k16,
    F_u_line := fun_mk (st := s_u_line) l17 c17 k17,
    g_u_line := PySem.W.mg_of X G a17,
    k_u_line := k17,
    F_chart := fun_mk (st := s_chart) l18 c18 k18,
    g_chart := PySem.W.mg_of X G a18,
    k_chart := k18,
    F_u_law_cell := fun_mk (st := s_u_law_cell) l19 c19 k19,
    g_u_law_cell := PySem.W.mg_of X G a19,
    k_u_law_cell := k19,
    F_u_law_draws := fun_mk (st := s_u_law_draws) l20 c20 k20,
    g_u_law_draws := PySem.W.mg_of X G a20,
    k_u_law_draws := k20,
    F_u_law_is_int := fun_mk (st := s_u_law_is_int) l21 c21 k21,
    g_u_law_is_int := PySem.W.mg_of X G a21,
    k_u_law_is_int := k21,
    F_u_law_same := fun_mk (st := s_u_law_same) l22 c22 k22,
    g_u_law_same := PySem.W.mg_of X G a22,
    k_u_law_same := k22,
    F_u_law_rows := fun_mk (st := s_u_law_rows) l23 c23 k23,
    g_u_law_rows := PySem.W.mg_of X G a23,
    k_u_law_rows := k23,
    F_u_law_drawn_names := fun_mk (st := s_u_law_drawn_names) l24 c24 k24,
    g_u_law_drawn_names := PySem.W.mg_of X G a24,
    k_u_law_drawn_names := k24,
    F_u_law_filled := fun_mk (st := s_u_law_filled) l25 c25 k25,
    g_u_law_filled := PySem.W.mg_of X G a25,
    k_u_law_filled := k25,
    F_u_law_line := fun_mk (st := s_u_law_line) l26 c26 k26,
    g_u_law_line := PySem.W.mg_of X G a26,
    k_u_law_line := k26,
    F_u_law_charted := fun_mk (st := s_u_law_charted) l27 c27 k27,
    g_u_law_charted := PySem.W.mg_of X G a27,
    k_u_law_charted := k27,
    F_law := fun_mk (st := s_law) l28 c28 k28,
    g_law := hfa,
    k_law := k28,
    c_LONGEST_NAME := ⟨_, PySem.W.mg_of X G kc_LONGEST_NAME⟩,
    c_LETTERS := ⟨_, PySem.W.mg_of X G kc_LETTERS⟩,
    z_abs := PySem.W.mg_none_of X G z_abs,
    z_len := PySem.W.mg_none_of X G z_len,
    z_int := PySem.W.mg_none_of X G z_int,
    z_str := PySem.W.mg_none_of X G z_str,
    z_list := PySem.W.mg_none_of X G z_list,
    z_tuple := PySem.W.mg_none_of X G z_tuple,
    z_isinstance := PySem.W.mg_none_of X G z_isinstance,
    z_range := PySem.W.mg_none_of X G z_range,
    z_min := PySem.W.mg_none_of X G z_min,
    z_enumerate := PySem.W.mg_none_of X G z_enumerate,
    z_zip := PySem.W.mg_none_of X G z_zip,
    z_bool := PySem.W.mg_none_of X G z_bool,
    g_BadNumber := PySem.W.mg_of X G g_BadNumber,
    g_TooMany := PySem.W.mg_of X G g_TooMany,
    g_SharedFactor := PySem.W.mg_of X G g_SharedFactor,
    g_WrongLength := PySem.W.mg_of X G g_WrongLength,
    g_BadName := PySem.W.mg_of X G g_BadName,
    g_RepeatedName := PySem.W.mg_of X G g_RepeatedName,
    g_House := PySem.W.mg_of X G g_House,
    g_Watch := PySem.W.mg_of X G g_Watch,
    g_gcd := PySem.W.mg_of X G gG,
    ox_BadNumber := ⟨⟨nm_BadNumber, q_BadNumber, N_BadNumber, bs_BadNumber, _, sn_BadNumber, sub_BadNumber, ab_BadNumber, col_BadNumber, dd_BadNumber, m0_BadNumber, m1_BadNumber, m2_BadNumber, m3_BadNumber, m5_BadNumber, xL_BadNumber, rfl⟩, sa_BadNumber, exC_BadNumber, tyC_BadNumber, kC_BadNumber⟩,
    ni_BadNumber := a0,
    ti_BadNumber := ti_BadNumber,
    nf_BadNumber_name := nf_BadNumber_name,
    nf_BadNumber_value := nf_BadNumber_value,
    xf_BadNumber := ⟨ga_BadNumber, gg_BadNumber, exC_BadNumber, hdC_BadNumber⟩,
    ex_BadNumber := ⟨ga_BadNumber, gg_BadNumber, exC_BadNumber, hdC_BadNumber, ha_BadNumber, hn_, ht_, hm_BadNumber⟩,
    ox_TooMany := ⟨⟨nm_TooMany, q_TooMany, N_TooMany, bs_TooMany, _, sn_TooMany, sub_TooMany, ab_TooMany, col_TooMany, dd_TooMany, m0_TooMany, m1_TooMany, m2_TooMany, m3_TooMany, m5_TooMany, xL_TooMany, rfl⟩, sa_TooMany, exC_TooMany, tyC_TooMany, kC_TooMany⟩,
    ni_TooMany := a1,
    ti_TooMany := ti_TooMany,
    nf_TooMany_name := nf_TooMany_name,
    nf_TooMany_most := nf_TooMany_most,
    xf_TooMany := ⟨ga_TooMany, gg_TooMany, exC_TooMany, hdC_TooMany⟩,
    ex_TooMany := ⟨ga_TooMany, gg_TooMany, exC_TooMany, hdC_TooMany, ha_TooMany, hn_, ht_, hm_TooMany⟩,
    ox_BadName := ⟨⟨nm_BadName, q_BadName, N_BadName, bs_BadName, _, sn_BadName, sub_BadName, ab_BadName, col_BadName, dd_BadName, m0_BadName, m1_BadName, m2_BadName, m3_BadName, m5_BadName, xL_BadName, rfl⟩, sa_BadName, exC_BadName, tyC_BadName, kC_BadName⟩,
    ni_BadName := a4,
    ti_BadName := ti_BadName,
    nf_BadName_name := nf_BadName_name,
    xf_BadName := ⟨ga_BadName, gg_BadName, exC_BadName, hdC_BadName⟩,
    ex_BadName := ⟨ga_BadName, gg_BadName, exC_BadName, hdC_BadName, ha_BadName, hn_, ht_, hm_BadName⟩,
    ox_RepeatedName := ⟨⟨nm_RepeatedName, q_RepeatedName, N_RepeatedName, bs_RepeatedName, _, sn_RepeatedName, sub_RepeatedName, ab_RepeatedName, col_RepeatedName, dd_RepeatedName, m0_RepeatedName, m1_RepeatedName, m2_RepeatedName, m3_RepeatedName, m5_RepeatedName, xL_RepeatedName, rfl⟩, sa_RepeatedName, exC_RepeatedName, tyC_RepeatedName, kC_RepeatedName⟩,
    ni_RepeatedName := a5,
    ti_RepeatedName := ti_RepeatedName,
    nf_RepeatedName_name := nf_RepeatedName_name,
    xf_RepeatedName := ⟨ga_RepeatedName, gg_RepeatedName, exC_RepeatedName, hdC_RepeatedName⟩,
    ex_RepeatedName := ⟨ga_RepeatedName, gg_RepeatedName, exC_RepeatedName, hdC_RepeatedName, ha_RepeatedName, hn_, ht_, hm_RepeatedName⟩,
    ox_WrongLength := ⟨⟨nm_WrongLength, q_WrongLength, N_WrongLength, bs_WrongLength, _, sn_WrongLength, sub_WrongLength, ab_WrongLength, col_WrongLength, dd_WrongLength, m0_WrongLength, m1_WrongLength, m2_WrongLength, m3_WrongLength, m5_WrongLength, xL_WrongLength, rfl⟩, sa_WrongLength, exC_WrongLength, tyC_WrongLength, kC_WrongLength⟩,
    ni_WrongLength := a3,
    ti_WrongLength := ti_WrongLength,
    nf_WrongLength_length := nf_WrongLength_length,
    xf_WrongLength := ⟨ga_WrongLength, gg_WrongLength, exC_WrongLength, hdC_WrongLength⟩,
    ex_WrongLength := ⟨ga_WrongLength, gg_WrongLength, exC_WrongLength, hdC_WrongLength, ha_WrongLength, hn_, ht_, hm_WrongLength⟩,
    ox_SharedFactor := ⟨⟨nm_SharedFactor, q_SharedFactor, N_SharedFactor, bs_SharedFactor, _, sn_SharedFactor, sub_SharedFactor, ab_SharedFactor, col_SharedFactor, dd_SharedFactor, m0_SharedFactor, m1_SharedFactor, m2_SharedFactor, m3_SharedFactor, m5_SharedFactor, xL_SharedFactor, rfl⟩, sa_SharedFactor, exC_SharedFactor, tyC_SharedFactor, kC_SharedFactor⟩,
    ni_SharedFactor := a2,
    ti_SharedFactor := ti_SharedFactor,
    nf_SharedFactor_factor := nf_SharedFactor_factor,
    xf_SharedFactor := ⟨ga_SharedFactor, gg_SharedFactor, exC_SharedFactor, hdC_SharedFactor⟩,
    ex_SharedFactor := ⟨ga_SharedFactor, gg_SharedFactor, exC_SharedFactor, hdC_SharedFactor, ha_SharedFactor, hn_, ht_, hm_SharedFactor⟩,
    cl_House := ⟨pg_House, hd_House, po_House, sa_House⟩,
    mk_House := ⟨mk_House, a8, if_8, kc_House⟩,
    na_House_hours := na_House_hours,
    na_House_names := na_House_names,
    na_House_stakes := na_House_stakes,
    ty_House := fun H a dx fs e => .base (.ins e ⟨pg_House, hd_House, po_House, sa_House⟩ ha_House hn_ ht_ hm_House),
    rd_House := ⟨.type "type", ⟨rd_House, gt_House⟩, ⟨_, cv_House_MOST_HOURS, ⟨_, rfl⟩⟩, ⟨_, cv_House_MOST_GATES, ⟨_, rfl⟩⟩, ⟨_, cv_House_MOST_CELLS, ⟨_, rfl⟩⟩, ⟨_, cv_House_MOST_STAKE, ⟨_, rfl⟩⟩⟩,
    cl_Watch := ⟨pg_Watch, hd_Watch, po_Watch, sa_Watch⟩,
    mk_Watch := ⟨mk_Watch, a12, if_12, kc_Watch⟩,
    na_Watch_house := na_Watch_house,
    na_Watch_rows := na_Watch_rows,
    op_Watch := ⟨sf_Watch, si_Watch⟩,
    D_Watch_lshift := ⟨dn_Watch_lshift, if_14, k14⟩,
    D_Watch_mul := ⟨dn_Watch_mul, if_15, k15⟩,
    I_Watch_lshift := ⟨⟨_, rc_Watch_lshift, .inl rfl⟩, ⟨_, lo_Watch_lshift⟩, ⟨_, ro_Watch_lshift⟩⟩,
    I_Watch_mul := ⟨⟨_, rc_Watch_mul, .inr ⟨_, rfl⟩⟩, ⟨_, lo_Watch_mul⟩, ⟨_, ro_Watch_mul⟩⟩,
    ty_Watch := fun H a dx fs e => .base (.ins e ⟨pg_Watch, hd_Watch, po_Watch, sa_Watch⟩ ha_Watch hn_ ht_ hm_Watch),
    rd_Watch := ⟨.type "type", ⟨rd_Watch, gt_Watch⟩, ⟨_, cv_Watch_MOST, ⟨_, rfl⟩⟩⟩,
    M_House_len := ⟨a9, if_9, k9⟩,
    P_Watch_rows := ⟨pa_13, pg_13, pt_13, ⟨_, a13⟩⟩,
    M_Watch_lshift := ⟨a14, if_14, k14⟩,
    M_Watch_mul := ⟨a15, if_15, k15⟩,
    M_Watch_neg := ⟨a16, if_16, k16⟩ }
  exact ⟨A.d_law, fun s v => .of_eq rfl, fun base _ _ => ok_law T⟩
end
theorem walk {l : PySem.W.OpenLaw} {q : Program} {loose : List Str} {XP : (Str → Option Value) → Heap → Prop} {YP : World → Heap → Prop} {d : DefRec} {K : Params → PySem.W.Frag} (hn : l.most = some 63) (hdf : d.params.defaults = [])
    (hY : ∀ (w : World) (h : Heap), YP w h → (K w.params).In h)
    (F : ∀ (w : World) (mg : Str → Option Value) (fa : Addr) (h : Heap), (K w.params).In h → h.Ns mainGlobals mg → mg d.name = some (.ref fa) →
      ∃ fd : FuncData, (∀ (s : Shared) (u : Value), BindsTo s fd ⟨[u], []⟩ [("script", u)]) ∧ ∀ base : Heap, (K w.params).In base → base.Ns mainGlobals mg → FnOk l.prog w (K w.params) mg base CX0 20 fa fd ["script"] ((spLaw) (K w.params))) :
    PySem.W.WalkO q loose XP YP l.row.toRowW d [] (fun f vs => PySem.call f vs) :=
  L2.walk_of (n := 63) (k := 20) (x := "script") (CX := fun _ => CX0) (sp := fun w => (spLaw) (K w.params)) hn (by decide) hdf ⟨rfl, by decide, by decide⟩ hY F (fun _ _ a ns hl _ hS => ⟨a, ns, rfl, hS, hl, fun _ => rfl⟩) fun _ _ _ _ _ z => z
end Pf
open PySem PySem.W PyProof.Rows
set_option maxRecDepth 100000 in
set_option maxHeartbeats 0 in
theorem PySem.Challenge.cw_watchbeats_k32_chart_printed_holds : PySem.Challenge.rw_watchbeats_k32_chart_printed.Holds := by
  w_on; o_law; k_head; (case hw => w_witness2)
  k_fill
  refine Pf.walk (l := PySem.Challenge.rw_watchbeats_k32_chart_printed) rfl rfl (fun w h Y => PySem.W.kIn_of Y) ?F
  case F =>
    intro w mg fa h KX G hmg
    refine' Pf.all_mk KX G hmg ?g_BadNumber ?g_TooMany ?g_SharedFactor ?g_WrongLength ?g_BadName ?g_RepeatedName ?g_House ?g_Watch ?a0 ?l0 ?c0 ?k0 ?a1 ?l1 ?c1 ?k1 ?a2 ?l2 ?c2 ?k2 ?a3 ?l3 ?c3 ?k3 ?a4 ?l4 ?c4 ?k4 ?a5 ?l5 ?c5 ?k5 ?a6 ?l6 ?c6 ?k6 ?a7 ?l7 ?c7 ?k7 ?a8 ?l8 ?c8 ?k8 ?a9 ?l9 ?c9 ?k9 ?a10 ?l10 ?c10 ?k10 ?a11 ?l11 ?c11 ?k11 ?a12 ?l12 ?c12 ?k12 ?pa_13 ?a13 ?l13 ?c13 ?k13 ?a14 ?l14 ?c14 ?k14 ?a15 ?l15 ?c15 ?k15 ?a16 ?l16 ?c16 ?k16 ?a17 ?l17 ?c17 ?k17 ?a18 ?l18 ?c18 ?k18 ?a19 ?l19 ?c19 ?k19 ?a20 ?l20 ?c20 ?k20 ?a21 ?l21 ?c21 ?k21 ?a22 ?l22 ?c22 ?k22 ?a23 ?l23 ?c23 ?k23 ?a24 ?l24 ?c24 ?k24 ?a25 ?l25 ?c25 ?k25 ?a26 ?l26 ?c26 ?k26 ?a27 ?l27 ?c27 ?k27 ?a28 ?l28 ?c28 ?k28 ?kc_LONGEST_NAME ?kc_LETTERS ?z_abs ?z_len ?z_int ?z_str ?z_list ?z_tuple ?z_isinstance ?z_range ?z_min ?z_enumerate ?z_zip ?z_bool ?gG ?exC_BadNumber ?hdC_BadNumber ?tyC_BadNumber ?meC_BadNumber ?xL_BadNumber ?sa_BadNumber ?kC_BadNumber ?ti_BadNumber ?ga_BadNumber ?gg_BadNumber ?ha_BadNumber ?hn_ ?ht_ ?hm_BadNumber ?nf_BadNumber_name ?nf_BadNumber_value ?exC_TooMany ?hdC_TooMany ?tyC_TooMany ?meC_TooMany ?xL_TooMany ?sa_TooMany ?kC_TooMany ?ti_TooMany ?ga_TooMany ?gg_TooMany ?ha_TooMany ?hm_TooMany ?nf_TooMany_name ?nf_TooMany_most ?exC_BadName ?hdC_BadName ?tyC_BadName ?meC_BadName ?xL_BadName ?sa_BadName ?kC_BadName ?ti_BadName ?ga_BadName ?gg_BadName ?ha_BadName ?hm_BadName ?nf_BadName_name ?exC_RepeatedName ?hdC_RepeatedName ?tyC_RepeatedName ?meC_RepeatedName ?xL_RepeatedName ?sa_RepeatedName ?kC_RepeatedName ?ti_RepeatedName ?ga_RepeatedName ?gg_RepeatedName ?ha_RepeatedName ?hm_RepeatedName ?nf_RepeatedName_name ?exC_WrongLength ?hdC_WrongLength ?tyC_WrongLength ?meC_WrongLength ?xL_WrongLength ?sa_WrongLength ?kC_WrongLength ?ti_WrongLength ?ga_WrongLength ?gg_WrongLength ?ha_WrongLength ?hm_WrongLength ?nf_WrongLength_length ?exC_SharedFactor ?hdC_SharedFactor ?tyC_SharedFactor ?meC_SharedFactor ?xL_SharedFactor ?sa_SharedFactor ?kC_SharedFactor ?ti_SharedFactor ?ga_SharedFactor ?gg_SharedFactor ?ha_SharedFactor ?hm_SharedFactor ?nf_SharedFactor_factor ?pg_House ?hd_House ?po_House ?sa_House ?mk_House ?kc_House ?if_8 ?na_House_hours ?na_House_names ?na_House_stakes ?ha_House ?hm_House ?rd_House ?gt_House ?cv_House_MOST_HOURS ?cv_House_MOST_GATES ?cv_House_MOST_CELLS ?cv_House_MOST_STAKE ?pg_Watch ?hd_Watch ?po_Watch ?sa_Watch ?mk_Watch ?kc_Watch ?if_12 ?na_Watch_house ?na_Watch_rows ?sf_Watch ?si_Watch ?dn_Watch_lshift ?dn_Watch_mul ?rc_Watch_lshift ?lo_Watch_lshift ?ro_Watch_lshift ?rc_Watch_mul ?lo_Watch_mul ?ro_Watch_mul ?ha_Watch ?hm_Watch ?rd_Watch ?gt_Watch ?cv_Watch_MOST ?if_9 ?pg_13 ?pt_13 ?if_14 ?if_15 ?if_16
    (case g_BadNumber => k_is)
    (case g_TooMany => k_is)
    (case g_SharedFactor => k_is)
    (case g_WrongLength => k_is)
    (case g_BadName => k_is)
    (case g_RepeatedName => k_is)
    (case g_House => k_is)
    (case g_Watch => k_is)
    (case a0 => k_is)
    (case l0 => k_is)
    (case c0 => k_is)
    (case k0 => k_is)
    (case a1 => k_is)
    (case l1 => k_is)
    (case c1 => k_is)
    (case k1 => k_is)
    (case a2 => k_is)
    (case l2 => k_is)
    (case c2 => k_is)
    (case k2 => k_is)
    (case a3 => k_is)
    (case l3 => k_is)
    (case c3 => k_is)
    (case k3 => k_is)
    (case a4 => k_is)
    (case l4 => k_is)
    (case c4 => k_is)
    (case k4 => k_is)
    (case a5 => k_is)
    (case l5 => k_is)
    (case c5 => k_is)
    (case k5 => k_is)
    (case a6 => k_is)
    (case l6 => k_is)
    (case c6 => k_is)
    (case k6 => k_is)
    (case a7 => k_is)
    (case l7 => k_is)
    (case c7 => k_is)
    (case k7 => k_is)
    (case a8 => k_is)
    (case l8 => k_is)
    (case c8 => k_is)
    (case k8 => k_is)
    (case a9 => k_is)
    (case l9 => k_is)
    (case c9 => k_is)
    (case k9 => k_is)
    (case a10 => k_is)
    (case l10 => k_is)
    (case c10 => k_is)
    (case k10 => k_is)
    (case a11 => k_is)
    (case l11 => k_is)
    (case c11 => k_is)
    (case k11 => k_is)
    (case a12 => k_is)
    (case l12 => k_is)
    (case c12 => k_is)
    (case k12 => k_is)
    (case pa_13 => k_is)
    (case a13 => k_is)
    (case l13 => k_is)
    (case c13 => k_is)
    (case k13 => k_is)
    (case a14 => k_is)
    (case l14 => k_is)
    (case c14 => k_is)
    (case k14 => k_is)
    (case a15 => k_is)
    (case l15 => k_is)
    (case c15 => k_is)
    (case k15 => k_is)
    (case a16 => k_is)
    (case l16 => k_is)
    (case c16 => k_is)
    (case k16 => k_is)
    (case a17 => k_is)
    (case l17 => k_is)
    (case c17 => k_is)
    (case k17 => k_is)
    (case a18 => k_is)
    (case l18 => k_is)
    (case c18 => k_is)
    (case k18 => k_is)
    (case a19 => k_is)
    (case l19 => k_is)
    (case c19 => k_is)
    (case k19 => k_is)
    (case a20 => k_is)
    (case l20 => k_is)
    (case c20 => k_is)
    (case k20 => k_is)
    (case a21 => k_is)
    (case l21 => k_is)
    (case c21 => k_is)
    (case k21 => k_is)
    (case a22 => k_is)
    (case l22 => k_is)
    (case c22 => k_is)
    (case k22 => k_is)
    (case a23 => k_is)
    (case l23 => k_is)
    (case c23 => k_is)
    (case k23 => k_is)
    (case a24 => k_is)
    (case l24 => k_is)
    (case c24 => k_is)
    (case k24 => k_is)
    (case a25 => k_is)
    (case l25 => k_is)
    (case c25 => k_is)
    (case k25 => k_is)
    (case a26 => k_is)
    (case l26 => k_is)
    (case c26 => k_is)
    (case k26 => k_is)
    (case a27 => k_is)
    (case l27 => k_is)
    (case c27 => k_is)
    (case k27 => k_is)
    (case a28 => k_is)
    (case l28 => k_is)
    (case c28 => k_is)
    (case k28 => k_is)
    (case kc_LONGEST_NAME => k_is)
    (case kc_LETTERS => k_is)
    (case z_abs => k_is)
    (case z_len => k_is)
    (case z_int => k_is)
    (case z_str => k_is)
    (case z_list => k_is)
    (case z_tuple => k_is)
    (case z_isinstance => k_is)
    (case z_range => k_is)
    (case z_min => k_is)
    (case z_enumerate => k_is)
    (case z_zip => k_is)
    (case z_bool => k_is)
    (case gG => k_is)
    (case exC_BadNumber => k_is)
    (case hdC_BadNumber => k_is)
    (case tyC_BadNumber => k_is)
    (case meC_BadNumber => first | rfl | k_is)
    (case xL_BadNumber => k_is)
    (case sa_BadNumber => k_is)
    (case kC_BadNumber => k_is)
    (case ti_BadNumber => k_is)
    (case ga_BadNumber => k_is)
    (case gg_BadNumber => k_is)
    (case ha_BadNumber => k_is)
    (case hn_ => k_is)
    (case ht_ => k_is)
    (case hm_BadNumber => k_is)
    (case nf_BadNumber_name => k_is)
    (case nf_BadNumber_value => k_is)
    (case exC_TooMany => k_is)
    (case hdC_TooMany => k_is)
    (case tyC_TooMany => k_is)
    (case meC_TooMany => first | rfl | k_is)
    (case xL_TooMany => k_is)
    (case sa_TooMany => k_is)
    (case kC_TooMany => k_is)
    (case ti_TooMany => k_is)
    (case ga_TooMany => k_is)
    (case gg_TooMany => k_is)
    (case ha_TooMany => k_is)
    (case hm_TooMany => k_is)
    (case nf_TooMany_name => k_is)
    (case nf_TooMany_most => k_is)
    (case exC_BadName => k_is)
    (case hdC_BadName => k_is)
    (case tyC_BadName => k_is)
    (case meC_BadName => first | rfl | k_is)
    (case xL_BadName => k_is)
    (case sa_BadName => k_is)
    (case kC_BadName => k_is)
    (case ti_BadName => k_is)
    (case ga_BadName => k_is)
    (case gg_BadName => k_is)
    (case ha_BadName => k_is)
    (case hm_BadName => k_is)
    (case nf_BadName_name => k_is)
    (case exC_RepeatedName => k_is)
    (case hdC_RepeatedName => k_is)
    (case tyC_RepeatedName => k_is)
    (case meC_RepeatedName => first | rfl | k_is)
    (case xL_RepeatedName => k_is)
    (case sa_RepeatedName => k_is)
    (case kC_RepeatedName => k_is)
    (case ti_RepeatedName => k_is)
    (case ga_RepeatedName => k_is)
    (case gg_RepeatedName => k_is)
    (case ha_RepeatedName => k_is)
    (case hm_RepeatedName => k_is)
    (case nf_RepeatedName_name => k_is)
    (case exC_WrongLength => k_is)
    (case hdC_WrongLength => k_is)
    (case tyC_WrongLength => k_is)
    (case meC_WrongLength => first | rfl | k_is)
    (case xL_WrongLength => k_is)
    (case sa_WrongLength => k_is)
    (case kC_WrongLength => k_is)
    (case ti_WrongLength => k_is)
    (case ga_WrongLength => k_is)
    (case gg_WrongLength => k_is)
    (case ha_WrongLength => k_is)
    (case hm_WrongLength => k_is)
    (case nf_WrongLength_length => k_is)
    (case exC_SharedFactor => k_is)
    (case hdC_SharedFactor => k_is)
    (case tyC_SharedFactor => k_is)
    (case meC_SharedFactor => first | rfl | k_is)
    (case xL_SharedFactor => k_is)
    (case sa_SharedFactor => k_is)
    (case kC_SharedFactor => k_is)
    (case ti_SharedFactor => k_is)
    (case ga_SharedFactor => k_is)
    (case gg_SharedFactor => k_is)
    (case ha_SharedFactor => k_is)
    (case hm_SharedFactor => k_is)
    (case nf_SharedFactor_factor => k_is)
    (case pg_House => k_is)
    (case hd_House => k_is)
    (case po_House => k_is)
    (case sa_House => k_is)
    (case mk_House => k_is)
    (case kc_House => k_is)
    (case if_8 => k_is)
    (case na_House_hours => k_is)
    (case na_House_names => k_is)
    (case na_House_stakes => k_is)
    (case ha_House => k_is)
    (case hm_House => k_is)
    (case rd_House => k_is)
    (case gt_House => k_is)
    (case cv_House_MOST_HOURS => k_is)
    (case cv_House_MOST_GATES => k_is)
    (case cv_House_MOST_CELLS => k_is)
    (case cv_House_MOST_STAKE => k_is)
    (case pg_Watch => k_is)
    (case hd_Watch => k_is)
    (case po_Watch => k_is)
    (case sa_Watch => k_is)
    (case mk_Watch => k_is)
    (case kc_Watch => k_is)
    (case if_12 => k_is)
    (case na_Watch_house => k_is)
    (case na_Watch_rows => k_is)
    (case sf_Watch => k_is)
    (case si_Watch => k_is)
    (case dn_Watch_lshift => k_is)
    (case dn_Watch_mul => k_is)
    (case rc_Watch_lshift => k_is)
    (case lo_Watch_lshift => k_is)
    (case ro_Watch_lshift => k_is)
    (case rc_Watch_mul => k_is)
    (case lo_Watch_mul => k_is)
    (case ro_Watch_mul => k_is)
    (case ha_Watch => k_is)
    (case hm_Watch => k_is)
    (case rd_Watch => k_is)
    (case gt_Watch => k_is)
    (case cv_Watch_MOST => k_is)
    (case if_9 => k_is)
    (case pg_13 => k_is)
    (case pt_13 => k_is)
    (case if_14 => k_is)
    (case if_15 => k_is)
    (case if_16 => k_is)
#print axioms PySem.Challenge.cw_watchbeats_k32_chart_printed_holds
