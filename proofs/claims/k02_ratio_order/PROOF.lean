import PyProof.Rows.All
import Wide.All
import OpenK.AllK
import Wide.FinOn
import HandS.ForMost
import HandS.Exc
import HandS.ExcInit
import HandS.ExcField
import HandS.ExcIs
import KE.KExcIs
import HandS.IsInst
import HandS.CallSlots
import HandS.WordsExc
import HandS.Style
import HandS.Evl
import HandS.Property
import HandS.ClsMeth
import HandS.Deep
import HandS.IterVal
import HandS.OwnIter
import HandS.Conv
import KE.KOwnIter
import HandS.SortInts
import KE.KOpsOwn
import HandS.OwnEq
import HandS.SlotsOwn
import KE.DataCmp
import KE.SortData
import HandS.Walk
import HandS.Defaults
import HandS.MakeKwOnly
import HandS.Gcd
import HandS.Wide
import KE.KCallOwn
import PyProof.InstNe
import PyProof.Conv_bool
import HandS.FStr
import PySem.Challenge.RW_watchbeats_k02_ratio_order
set_option Elab.async false
set_option linter.all false
set_option maxRecDepth 100000
set_option maxHeartbeats 4000000
/-! the order of fractions and their quotients, def by def -/
namespace Pf
open PySem L2 Evl

def topS (i : Nat) : Stmt := PySem.Challenge.pw_watchbeats_k02_ratio_order.main.body.getD i (.Pass ⟨0, 0, 0, 0⟩)
abbrev s_Ratio_init : Stmt := inClass (topS 6) 1
abbrev N_Ratio_init : List Str := ["self", "top", "under", "shared"]
abbrev s_as_ratio : Stmt := topS 8
abbrev N_as_ratio : List Str := ["number"]
abbrev s_Ratio_add : Stmt := inClass (topS 6) 6
abbrev N_Ratio_add : List Str := ["self", "other", "second"]
abbrev s_Ratio_mul : Stmt := inClass (topS 6) 10
abbrev N_Ratio_mul : List Str := ["self", "other", "second"]
abbrev s_Ratio_neg : Stmt := inClass (topS 6) 15
abbrev N_Ratio_neg : List Str := ["self"]
abbrev s_Ratio_sub : Stmt := inClass (topS 6) 8
abbrev N_Ratio_sub : List Str := ["self", "other"]
abbrev s_Ratio_over : Stmt := inClass (topS 6) 3
abbrev N_Ratio_over : List Str := ["self", "number", "divisor"]
abbrev s_Ratio_floor : Stmt := inClass (topS 6) 4
abbrev N_Ratio_floor : List Str := ["self"]
abbrev s_Ratio_ceiling : Stmt := inClass (topS 6) 5
abbrev N_Ratio_ceiling : List Str := ["self"]
abbrev s_u_lead : Stmt := topS 7
abbrev N_u_lead : List Str := ["ratio", "number", "second"]
abbrev s_Ratio_lt : Stmt := inClass (topS 6) 19
abbrev N_Ratio_lt : List Str := ["self", "other"]
abbrev s_Ratio_le : Stmt := inClass (topS 6) 20
abbrev N_Ratio_le : List Str := ["self", "other"]
abbrev s_Ratio_gt : Stmt := inClass (topS 6) 21
abbrev N_Ratio_gt : List Str := ["self", "other"]
abbrev s_Ratio_ge : Stmt := inClass (topS 6) 22
abbrev N_Ratio_ge : List Str := ["self", "other"]
abbrev s_Ratio_bool : Stmt := inClass (topS 6) 17
abbrev N_Ratio_bool : List Str := ["self"]
abbrev s_Ratio_floordiv : Stmt := inClass (topS 6) 12
abbrev N_Ratio_floordiv : List Str := ["self", "other"]
abbrev s_Ratio_mod : Stmt := inClass (topS 6) 13
abbrev N_Ratio_mod : List Str := ["self", "other"]
abbrev s_Ratio_eq : Stmt := inClass (topS 6) 18
abbrev N_Ratio_eq : List Str := ["self", "other"]
abbrev s_Ratio_str : Stmt := inClass (topS 6) 23
abbrev N_Ratio_str : List Str := ["self"]
abbrev s_u_law_cell : Stmt := topS 10
abbrev N_u_law_cell : List Str := ["script", "k"]
abbrev s_u_law_draws : Stmt := topS 11
abbrev N_u_law_draws : List Str := ["cell", "salt", "menu", "found", "rest", "mixed", "k"]
abbrev s_u_law_gcd : Stmt := topS 12
abbrev N_u_law_gcd : List Str := ["a", "b"]
abbrev s_u_law_is_int : Stmt := topS 13
abbrev N_u_law_is_int : List Str := ["x"]
abbrev s_u_law_is_ratio : Stmt := topS 14
abbrev N_u_law_is_ratio : List Str := ["x"]
abbrev s_u_law_worth : Stmt := topS 15
abbrev N_u_law_worth : List Str := ["x", "top", "under"]
abbrev s_u_law_digits : Stmt := topS 16
abbrev N_u_law_digits : List Str := ["cell", "salt", "number", "piece"]
abbrev s_u_law_fraction : Stmt := topS 17
abbrev N_u_law_fraction : List Str := ["script", "k", "size", "top", "under"]
abbrev s_u_law_two_fractions : Stmt := topS 18
abbrev N_u_law_two_fractions : List Str := ["script", "ways", "size", "a", "b", "c", "d", "factor"]
abbrev s_u_law_orders : Stmt := topS 19
abbrev N_u_law_orders : List Str := ["one", "two", "left", "right", "found", "due", "k"]
abbrev s_u_law_rounded : Stmt := topS 20
abbrev N_u_law_rounded : List Str := ["one", "a", "b", "low", "high"]
abbrev s_u_law_zero_refused : Stmt := topS 21
abbrev N_u_law_zero_refused : List Str := ["x", "r", "way", "told", "found", "e"]
abbrev s_u_law_quotients : Stmt := topS 22
abbrev N_u_law_quotients : List Str := ["x", "r", "a", "b", "c", "d", "upper", "lower", "times"]
abbrev s_u_law_unlike : Stmt := topS 23
abbrev N_u_law_unlike : List Str := ["one", "a", "b", "other"]
abbrev s_law : Stmt := topS 24
abbrev N_law : List Str := ["script", "a", "b", "c", "d", "one", "two", "rest"]

theorem some_int {ns : List Int} {i : Nat} {y : V} (h : (ns.map V.int)[i]? = some y) : ∃ u, y = V.int u ∧ ns[i]? = some u := by
  rw [List.getElem?_map] at h
  cases e : ns[i]? with
  | none => rw [e] at h; cases h
  | some u => rw [e] at h; exact ⟨u, (Option.some.inj h).symm, rfl⟩
theorem wayT {c A B : Prop} [Decidable c] (h : c) (a : A) : if decide c = true then A else B := by rw [decide_eq_true h]; exact iteT a
theorem wayF {c A B : Prop} [Decidable c] (h : ¬ c) (b : B) : if decide c = true then A else B := by rw [decide_eq_false h]; exact iteF b
theorem way {c A B : Prop} [Decidable c] (a : c → A) (b : ¬ c → B) : if decide c = true then A else B := by
  by_cases h : c
  · exact wayT h (a h)
  · exact wayF h (b h)
theorem wayNT {c A B : Prop} [Decidable c] (h : c) (b : B) : if (!decide c) = true then A else B := by rw [decide_eq_true h]; exact iteF b
theorem wayNF {c A B : Prop} [Decidable c] (h : ¬ c) (a : A) : if (!decide c) = true then A else B := by rw [decide_eq_false h]; exact iteT a
theorem dec_ii {a b : Int} : decide (V.int a = V.int b) = decide (a = b) := by simp
theorem dec_bb {a b : Bool} : decide (V.bl a = V.bl b) = decide (a = b) := by simp
/-- the ints that a comprehension over a range gives -/
def pick (n : Nat) (f : Nat → Bool) (g : Nat → Int) : List Int := ((List.range n).filter f).map g
theorem given_pick (n : Nat) (f : Nat → Bool) (g : Nat → Int) : given n f (fun i => V.int (g i)) = (pick n f g).map V.int := by
  unfold given pick
  rw [List.map_map]
  rfl
theorem pick_len (n : Nat) (f : Nat → Bool) (g : Nat → Int) : (pick n f g).length ≤ n := by
  unfold pick
  rw [List.length_map]
  have := List.length_filter_le f (List.range n)
  rwa [List.length_range] at this
theorem pick_congr {n : Nat} {f f' : Nat → Bool} {g : Nat → Int} (h : ∀ i, i < n → f i = f' i) : pick n f g = pick n f' g := by
  unfold pick
  rw [List.filter_congr fun i hi => h i (List.mem_range.mp hi)]
theorem el_rng2 {σ : L2.St} {H : Hp} {te : TE} {tt : TT} {ta : TA} {j : Nat} {vs : List Nat} {lo hi : Int} (f : Nat → Bool) (v : Nat → V) (h : EvA ta σ H [.int lo, .int hi]) (hn : 0 ≤ lo ∧ lo ≤ 40000 ∧ -40000 ≤ hi ∧ hi ≤ 40000)
    (hw : ∀ x, wipe ((wipe σ vs).set j (some x)) vs = wipe σ vs)
    (ht : ∀ (i : Nat) H1, Ex H H1 → lo + (i : Int) < hi → EvT tt ((wipe σ vs).set j (some (.int (lo + (i : Int))))) H1 (f i))
    (he : ∀ (i : Nat) H1, Ex H H1 → lo + (i : Int) < hi → f i = true → Ev te ((wipe σ vs).set j (some (.int (lo + (i : Int))))) H1 (v i)) :
    EvL (tLc (iRng2 ta) (gName j) tt te vs) σ H (given (hi - lo).toNat f v) := by
  intro H0 e Q q
  refine h H0 e _ fun H1 e1 => ⟨lo, hi, rfl, ⟨by omega, by omega, by omega, by omega⟩, fun D hD => ?_⟩
  exact lc_range (lo := lo) (n := (hi - lo).toNat) (Cw H1 f v D) ⟨hD, Ex.new hD, upd_same⟩
    (fun i H' hi' p => ⟨hw _, cw_turn p (by omega) (ht i H1 (e.trans e1) (by omega)) (fun hf => he i H1 (e.trans e1) (by omega) hf)⟩)
    (fun H' p => q D H' (fresh_back e1 p.1) (e1.trans p.2.1) p.2.2)
theorem given_list (xs : List Int) (p : Int → Bool) : given (xs.map V.int).length (fun i => p (xs.getD i 0)) (fun i => V.int (xs.getD i 0)) = (xs.filter p).map V.int := by
  rw [List.length_map]
  induction xs with
  | nil => rfl
  | cons x xs ih =>
    unfold given at ih ⊢
    rw [List.length_cons, List.range_succ_eq_map, List.filter_cons, List.filter_map]
    have e : ∀ (z : List Nat), (z.filter ((fun i => p ((x :: xs).getD i 0)) ∘ Nat.succ)) = z.filter fun i => p (xs.getD i 0) := fun z => List.filter_congr fun i _ => by simp
    rw [e]
    by_cases hp : p x = true
    · rw [if_pos (by simpa using hp), List.filter_cons, if_pos hp, List.map_cons, List.map_cons, ← ih, List.map_map]
      simp
    · rw [if_neg (by simpa using hp), List.filter_cons, if_neg hp, ← ih, List.map_map]
      simp
theorem el_lst1 {K : PySem.W.Frag} {σ : L2.St} {H : Hp} {te tl : TE} {tt : TT} {j : Nat} {vs : List Nat} {a : Addr} (xs : List Int) (p : Int → Bool) (h : Ev tl σ H (.ref a)) (hx : SqL K H a (xs.map V.int)) (hz : xs.length ≤ 40000)
    (hw : ∀ x, wipe ((wipe σ vs).set j (some x)) vs = wipe σ vs)
    (ht : ∀ (x : Int) H1, Ex H H1 → x ∈ xs → EvT tt ((wipe σ vs).set j (some (.int x))) H1 (p x))
    (he : ∀ (x : Int) H1, Ex H H1 → x ∈ xs → Ev te ((wipe σ vs).set j (some (.int x))) H1 (.int x)) :
    EvL (tLc (iList K tl) (gName j) tt te vs) σ H ((xs.filter p).map V.int) := by
  rw [← given_list]
  have get : ∀ (i : Nat) (x : V), (xs.map V.int)[i]? = some x → x = .int (xs.getD i 0) ∧ xs.getD i 0 ∈ xs := fun i x hi => by
    obtain ⟨u, e, hu⟩ := some_int hi
    rw [List.getD_eq_getElem?_getD, hu]
    exact ⟨e, List.mem_of_getElem? hu⟩
  refine el_lcL _ _ h hx (by rw [List.length_map]; exact hz) hw (fun i x H1 e1 hi => ?_) (fun i x H1 e1 hi _ => ?_)
  · obtain ⟨rfl, hm⟩ := get i x hi
    exact ht _ H1 e1 hm
  · obtain ⟨rfl, hm⟩ := get i x hi
    exact he _ H1 e1 hm
theorem given_gen {α : Type} (d : α) (ps : List α) (p : α → Bool) (v : α → V) : given ps.length (fun i => p (ps.getD i d)) (fun i => v (ps.getD i d)) = (ps.filter p).map v := by
  induction ps with
  | nil => rfl
  | cons x xs ih =>
    unfold given at ih ⊢
    rw [List.length_cons, List.range_succ_eq_map, List.filter_cons, List.filter_map]
    have e : ∀ (z : List Nat), (z.filter ((fun i => p ((x :: xs).getD i d)) ∘ Nat.succ)) = z.filter fun i => p (xs.getD i d) := fun z => List.filter_congr fun i _ => by simp
    rw [e]
    by_cases hp : p x = true
    · rw [if_pos (by simpa using hp), List.filter_cons, if_pos hp, List.map_cons, List.map_cons, ← ih, List.map_map]
      simp
    · rw [if_neg (by simpa using hp), List.filter_cons, if_neg hp, ← ih, List.map_map]
      simp
/-- a comprehension over a list whose items stand for the things of ps, the target of any form -/
theorem el_lstG {α : Type} (d : α) {K : PySem.W.Frag} {σ : L2.St} {H : Hp} {te tl : TE} {tt : TT} {g : TG} {vs : List Nat} {a : Addr} (xs : List V) (ps : List α) (p : α → Bool) (v : α → V) (τ : α → L2.St)
    (h : Ev tl σ H (.ref a)) (hx : SqL K H a xs) (hl : xs.length = ps.length) (hz : ps.length ≤ 40000)
    (hg : ∀ (i : Nat) x y H1 (k : L2.St → Hp → Prop), Ex H H1 → xs[i]? = some x → ps[i]? = some y → k (τ y) H1 → g x (wipe σ vs) H1 k)
    (hw : ∀ y, wipe (τ y) vs = wipe σ vs) (ht : ∀ y H1, Ex H H1 → y ∈ ps → EvT tt (τ y) H1 (p y)) (he : ∀ y H1, Ex H H1 → y ∈ ps → p y = true → Ev te (τ y) H1 (v y)) :
    EvL (tLc (iList K tl) g tt te vs) σ H ((ps.filter p).map v) := by
  rw [← given_gen d ps p v]
  intro H0 e0 Q q
  refine h H0 e0 _ fun H1 e1 => ⟨a, rfl, ⟨xs, ex_l (e0.trans e1) hx⟩, fun D hD => ?_⟩
  refine lc_list (xs := xs) (Cw H1 (fun i => p (ps.getD i d)) (fun i => v (ps.getD i d)) D) ⟨hD, Ex.new hD, upd_same⟩ (fun i H' _ c => ex_l ((e0.trans e1).trans c.2.1) hx) (fun i x H' hi c => ?_)
    (fun H' c => by rw [hl] at c; exact q D H' (fresh_back e1 c.1) (e1.trans c.2.1) c.2.2)
  have hil : i < ps.length := by
    have := (List.getElem?_eq_some_iff.mp hi).1
    omega
  have hy : ps[i]? = some (ps.getD i d) := by rw [List.getD_eq_getElem?_getD, List.getElem?_eq_getElem hil]; rfl
  refine hg i x _ H' _ ((e0.trans e1).trans c.2.1) hi hy ⟨hw _, ?_⟩
  exact cw_turn c (by omega) (ht _ H1 (e0.trans e1) (List.mem_of_getElem? hy)) (fun hf => he _ H1 (e0.trans e1) (List.mem_of_getElem? hy) hf)
/-- an if without else, then what follows where M holds -/
theorem q_alt {b : Bool} {t : TT} {tu tz : TS} {D : Ends} {σ : L2.St} {H : Hp} (M : L2.St → Hp → Prop) (h : EvT t σ H b) (h1 : b = true → ∀ H1, Ex H H1 → ∀ W : L2.St → Hp → Prop, (∀ σ' H', M σ' H' → W σ' H') → tu { D with nx := W } σ H1)
    (h2 : b = false → ∀ H1, Ex H H1 → M σ H1) (k : ∀ σ' H', M σ' H' → tz D σ' H') : tSeq (tIfS t tu tNext) tz D σ H :=
  q_when h (fun hb H1 e1 => h1 hb H1 e1 _ k) (fun hb H1 e1 => k _ _ (h2 hb H1 e1))
theorem q_two {b : Bool} {t : TT} {tu tw tz : TS} {D : Ends} {σ : L2.St} {H : Hp} (M : L2.St → Hp → Prop) (h : EvT t σ H b) (h1 : b = true → ∀ H1, Ex H H1 → ∀ W : L2.St → Hp → Prop, (∀ σ' H', M σ' H' → W σ' H') → tu { D with nx := W } σ H1)
    (h2 : b = false → ∀ H1, Ex H H1 → ∀ W : L2.St → Hp → Prop, (∀ σ' H', M σ' H' → W σ' H') → tw { D with nx := W } σ H1) (k : ∀ σ' H', M σ' H' → tz D σ' H') : tSeq (tIfS t tu tw) tz D σ H :=
  q_if h (fun hb H1 e1 => h1 hb H1 e1 _ k) (fun hb H1 e1 => h2 hb H1 e1 _ k)
/-- .. over a list that was just made -/
theorem el_lstN {α : Type} (d : α) {K : PySem.W.Frag} {σ : L2.St} {H : Hp} {te tl : TE} {tt : TT} {g : TG} {vs : List Nat} (xs : List V) (ps : List α) (p : α → Bool) (v : α → V) (τ : α → L2.St)
    (h : EvL tl σ H xs) (hl : xs.length = ps.length) (hz : ps.length ≤ 40000) (hg : ∀ (i : Nat) x y H1 (k : L2.St → Hp → Prop), Ex H H1 → xs[i]? = some x → ps[i]? = some y → k (τ y) H1 → g x (wipe σ vs) H1 k)
    (hw : ∀ y, wipe (τ y) vs = wipe σ vs) (ht : ∀ y H1, Ex H H1 → y ∈ ps → EvT tt (τ y) H1 (p y)) (he : ∀ y H1, Ex H H1 → y ∈ ps → p y = true → Ev te (τ y) H1 (v y)) :
    EvL (tLc (iList K tl) g tt te vs) σ H ((ps.filter p).map v) := by
  intro H0 e0 Q q
  refine h H0 e0 _ fun a H1 ha e1 h1 => ?_
  refine el_lstG (K := K) (te := te) (tl := tC (.ref a)) (tt := tt) (g := g) (vs := vs) (σ := σ) (H := H1) d xs ps p v τ ev_c (sq_of h1) hl hz (fun i x y H2 k e2 => hg i x y H2 k ((e0.trans e1).trans e2)) hw (fun y H2 e2 => ht y H2 ((e0.trans e1).trans e2)) (fun y H2 e2 => he y H2 ((e0.trans e1).trans e2)) H1 (Ex.refl _) Q fun b H2 hb e2 h2 => q b H2 (fresh_back e1 hb) (e1.trans e2) h2
theorem pick_succ {n : Nat} {f : Nat → Bool} {g : Nat → Int} : pick (n + 1) f g = pick n f g ++ (if f n = true then [g n] else []) := by
  unfold pick
  rw [List.range_succ, List.filter_append, List.map_append, List.filter_cons]
  by_cases h : f n = true
  · rw [if_pos h, if_pos h]; rfl
  · rw [if_neg h, if_neg h]; rfl
theorem ev_gcd {σ : L2.St} {H : Hp} {ta : TA} {a b : Int} (h : EvA ta σ H [.int a, .int b]) : Ev (tCB rGcd ta) σ H (.int ((Nat.gcd a.natAbs b.natAbs : Nat) : Int)) :=
  ev_cb h fun H1 _ _ q => ⟨a, b, rfl, q H1 (Ex.refl H1)⟩
/-! ### rules whose reading says K by its own letter (within a comprehension's block too) -/
theorem ix_lK {X : Cx} {K : PySem.W.Frag} (h : X.K = K := by rfl) : IxR X (rIxL K) := by subst h; exact ix_list
theorem ix_tK {X : Cx} {K : PySem.W.Frag} (h : X.K = K := by rfl) : IxR X (rIxT K) := by subst h; exact ix_tup
theorem ix_sK {X : Cx} {K : PySem.W.Frag} (h : X.K = K := by rfl) : IxR X (rIx K) := by subst h; exact ix_seq
def rLenK (K : PySem.W.Frag) : List V → Hp → VK → Prop := fun xs H Q => ∃ x n, xs = [x] ∧ LenV K x H n ∧ Q (.int (n : Nat)) H
theorem len_K {X : Cx} {K : PySem.W.Frag} (h : X.K = K := by rfl) : CallR X (.builtin "len") (rLenK K) := by subst h; exact call_len
def rListK (K : PySem.W.Frag) : List V → Hp → VK → Prop := fun zs H Q => ∃ p ys, zs = [.ref p] ∧ (SqL K H p ys ∨ SqT K H p ys) ∧
  ∀ l, H l = none → Q (.ref l) (upd H l (.lst ys))
theorem list_K {X : Cx} {K : PySem.W.Frag} (h : X.K = K := by rfl) : CallR X (.type "list") (rListK K) := by subst h; exact call_list_of
theorem in_K {X : Cx} {K : PySem.W.Frag} (h : X.K = K := by rfl) : OpR X (compareOp .In) (rIn K false) := by subst h; exact op_in_seq
theorem notin_K {X : Cx} {K : PySem.W.Frag} (h : X.K = K := by rfl) : OpR X (compareOp .NotIn) (rIn K true) := by subst h; exact op_notIn_seq
theorem pg_tupK {X : Cx} {K : PySem.W.Frag} {pos : Pos} {es : List Expr} {k : Nat} {t : TGs} {n : Nat} (hk : X.K = K) (hc : X.calm = true) (h : PGs X es t)
    (hn : (assignEach es X.env).length = n := by rfl) (hst : (assignEach es X.env).findIdx? (·.1) = none := by rfl) : PG X (.Tuple es k pos) (gTup K n t) := by subst hk; exact pg_tup hc h hn hst
theorem pe_fldK {X : Cx} {K : PySem.W.Frag} {e : Expr} {f : Str} {pos : Pos} {ta : TE} (he : PE X e ta) (hb : attributeBase e f X.env (eval e X.env) = eval e X.env) (hk : X.K = K := by rfl) : PE X (.Attribute e f pos) (tFld K ta f) := by subst hk; exact pe_fld he hb
theorem eqD_K {X : Cx} {K : PySem.W.Frag} (hu : X.A.units + 64 < cLine) (hk : X.K = K := by rfl) : OpR X (compareOp .Eq) (rEqD K) := by subst hk; exact op_eqD hu
theorem neD_K {X : Cx} {K : PySem.W.Frag} (hu : X.A.units + 64 < cLine) (hk : X.K = K := by rfl) : OpR X (compareOp .NotEq) (rNeD K) := by subst hk; exact op_neD hu
theorem isi_K {X : Cx} {K : PySem.W.Frag} (h : X.K = K := by rfl) : CallR X (.builtin "isinstance") (rIsi K) := by subst h; exact call_isi
/-! ### data -/
/-- data of a depth below n, of lists and tuples that are not too long -/
def Flat : Nat → PyData → Prop
  | 0, _ => False
  | n + 1, .list ds => ds.length ≤ 40000 ∧ ∀ d ∈ ds, Flat n d
  | n + 1, .tuple ds => ds.length ≤ 40000 ∧ ∀ d ∈ ds, Flat n d
  | _ + 1, .dict _ => False
  | _ + 1, _ => True
theorem dp_get {K : PySem.W.Frag} {H : Hp} : ∀ {xs : List V} {ds : List PyData}, DpAll K H xs ds → xs.length = ds.length ∧ ∀ (i : Nat) (d : PyData), ds[i]? = some d → ∃ x, xs[i]? = some x ∧ Dp K H x d
  | _, _, .nil => ⟨rfl, fun i d h => by simp at h⟩
  | _, _, .cons a r => by
    obtain ⟨l, g⟩ := dp_get r
    refine ⟨by simp [l], fun i d h => ?_⟩
    cases i with
    | zero => exact ⟨_, rfl, by simp at h; subst h; exact a⟩
    | succ i => simpa using g i d (by simpa using h)
theorem flatI {ns : List Int} (h : ns.length ≤ 360) : Flat 4 (.list (ns.map .int)) :=
  ⟨by rw [List.length_map]; omega, fun d hd => by
    obtain ⟨i, _, rfl⟩ := List.mem_map.mp hd
    exact True.intro⟩
theorem dp_ints {K : PySem.W.Frag} {H : Hp} : ∀ ns : List Int, DpAll K H (ns.map V.int) (ns.map PyData.int)
  | [] => .nil
  | n :: ns => .cons (.int n) (dp_ints ns)
mutual
theorem dp_ex {K : PySem.W.Frag} {H H' : Hp} (e : Ex H H') : ∀ {v : V} {d : PyData}, Dp K H v d → Dp K H' v d
  | _, _, .non => .non
  | _, _, .bl b => .bl b
  | _, _, .int i => .int i
  | _, _, .str x => .str x
  | _, _, .lst s a => .lst (ex_l e s) (dpa_ex e a)
  | _, _, .tup s a => .tup (ex_t e s) (dpa_ex e a)
theorem dpa_ex {K : PySem.W.Frag} {H H' : Hp} (e : Ex H H') : ∀ {vs : List V} {ds : List PyData}, DpAll K H vs ds → DpAll K H' vs ds
  | _, _, .nil => .nil
  | _, _, .cons a r => .cons (dp_ex e a) (dpa_ex e r)
end
theorem tyx_l {K : PySem.W.Frag} {H : Hp} {a : Addr} {xs : List V} (h : SqL K H a xs) : TyX K H (.ref a) (.type "list") := by
  rcases h with (h | ⟨o, h⟩) | ⟨o, its, n, h, c, _⟩
  · exact .base (.lst h)
  · exact .base (.frz h)
  · exact .kList h c
theorem tyx_t {K : PySem.W.Frag} {H : Hp} {a : Addr} {xs : List V} (h : SqT K H a xs) : TyX K H (.ref a) (.type "tuple") := by
  rcases h with (h | ⟨o, h⟩) | ⟨o, its, n, h, c, _⟩
  · exact .base (.tup h)
  · exact .fTuple h
  · exact .kTuple h c
/-- x is True, x is False, whatever x is -/
def rIsK : R2 := fun x y H Q => ∃ b : Bool, y = .bl b ∧ Q (.bl (decide (x = .bl b))) H
theorem op_isK {X : Cx} : OpR X (compareOp .Is) rIsK := by
  intro pins s σ H x y v u Q I rx ry h
  obtain ⟨b, hy, q⟩ := h
  subst hy
  cases (show u = Value.bool b from ry)
  have fin : ∀ k : Bool, k = decide (x = V.bl b) → EP X pins σ Q (.bool k) s := fun k e => ⟨.bl k, H, I, rfl, by rw [e]; exact q⟩
  cases x with
  | non => cases (show v = Value.none from rx); exact wpAny_is_other rfl (fun z => by cases z) (fin _ (by simp))
  | bl a =>
    cases (show v = Value.bool a from rx)
    by_cases e : a = b
    · subst e; exact wpAny_is_self rfl (fin _ (by simp))
    · exact wpAny_is_other rfl (fun z => e (Value.bool.inj z)) (fin _ (by simp [e]))
  | int i => obtain ⟨t, ev⟩ := rx; subst ev; exact wpAny_is_other rfl (fun z => by cases z) (fin _ (by simp))
  | str i => obtain ⟨t, ev⟩ := rx; subst ev; exact wpAny_is_other rfl (fun z => by cases z) (fin _ (by simp))
  | byt i => obtain ⟨t, ev⟩ := rx; subst ev; exact wpAny_is_other rfl (fun z => by cases z) (fin _ (by simp))
  | flt i => obtain ⟨t, ev⟩ := rx; subst ev; exact wpAny_is_other rfl (fun z => by cases z) (fin _ (by simp))
  | ref a => cases (show v = Value.ref a from rx); exact wpAny_is_other rfl (fun z => by cases z) (fin _ (by simp))
  | ty n => cases (show v = Value.type n from rx); exact wpAny_is_other rfl (fun z => by cases z) (fin _ (by simp))
theorem atI_ints {ns : List Int} {i : Int} (h0 : 0 ≤ i) (h1 : i < (ns.length : Int)) : atI (ns.map V.int) i = some (.int (ns.getD i.toNat 0)) := by
  obtain ⟨j, rfl⟩ : ∃ j : Nat, i = (j : Int) := ⟨i.toNat, by omega⟩
  refine atI_nat ?_
  have hj : j < ns.length := by omega
  rw [List.getElem?_map, Int.toNat_natCast, List.getD_eq_getElem?_getD, List.getElem?_eq_getElem hj]
  rfl
/-! ### a caught error with fields -/
def rIsX (K : PySem.W.Frag) (D a : Addr) (cls : Value) (d : Option Addr) : List V → Hp → VK → Prop := fun xs H Q => cls = .ref D ∧ ∃ (dd : Addr) (fs : List (Str × V)) (c : V) (cv : Value) (b : Bool),
  d = some dd ∧ H dd = some (.xd fs) ∧ xs = [.ref a, c] ∧ (∀ u, RelV c u → u = cv) ∧ PySem.W.kitOne K (.ref D) cv = some b ∧ Q (.bl b) H
theorem call_isX {X : Cx} {a D : Addr} {oe : Obj} {cls : Value} {d : Option Addr} {pn : List (Addr × Obj)} (C : ExcC X.K D) (hz : Zc cls d oe) (hf : ∃ vs, oe.data = .fields vs) : CallR (X.suite a ((a, oe) :: pn)) (.builtin "isinstance") (rIsX X.K D a cls d) := by
  intro pins sh σ H zs us Q I rr hq
  obtain ⟨ec, dd, fs, c, cv, b, ed, hx, ez, hcv, hk, q⟩ := hq
  subst ez
  obtain ⟨u1, u2, eu, r1, r2⟩ := vals2 rr
  subst eu
  cases (show u1 = Value.ref a from r1)
  have e2 := hcv _ r2
  subst e2
  obtain ⟨hget, _⟩ := I.pin (a, oe) (List.mem_append.mpr (.inl List.mem_cons_self))
  obtain ⟨vs, hv⟩ := hf
  have ho : ObjOk X.prog X.w H sh.heap dd (.xd fs) := I.hok dd _ hx
  obtain ⟨mA, hns, _⟩ := ho
  obtain ⟨od, hod, _⟩ := lookIn_ns hns
  obtain ⟨cd, hcd, _⟩ := PySem.W.any_some C.hd
  have hcl : (PySem.W.clsIn X.K D).isSome = true := by rw [hcd]; rfl
  have J : PySem.W.InstAt sh.heap a oe D (some od) := ⟨hget, hz.1.trans ec, by unfold PySem.W.notCls; rw [hv], by rw [hz.2, ed]; exact hod⟩
  exact PySem.W.kia_one (PySem.W.kitx_exc hcl C.hg C.hk C.hs C.ha C.hn C.ht C.hm) I.kIn J hk (fun z => nomatch z) fun tk => ⟨.bl b, H, I.tok tk, rfl, q⟩
def rIsN (K : PySem.W.Frag) (D a : Addr) (cls : Value) (d : Option Addr) : List V → Hp → VK → Prop := fun xs H Q => cls = .ref D ∧ d = none ∧ rIsE K D a xs H Q
theorem call_isN {X : Cx} {a D : Addr} {oe : Obj} {cls : Value} {d : Option Addr} {pn : List (Addr × Obj)} (C : ExcC X.K D) (hz : Zc cls d oe) (hf : ∃ vs, oe.data = .fields vs) : CallR (X.suite a ((a, oe) :: pn)) (.builtin "isinstance") (rIsN X.K D a cls d) := by
  intro pins s σ H xs us Q I r h
  obtain ⟨e1, e2, h⟩ := h
  subst e1 e2
  exact call_isE C hz hf pins s σ H xs us Q I r h
/-- X(), X an error class without __init__ -/
theorem pmk_none {X : Cx} {C : Addr} {bmB : List Value} {B newId initId : String} {x : Str} {p pos : Pos} (F : PySem.ExcBaseFacts B newId initId bmB) (q : PySem.W.excIn X.K C bmB newId = true) (gC : X.mg x = some (.ref C)) (kC : PySem.W.keepIn X.K (.ref C) = true)
    (r : Raises X (.ref C)) (hg : Gl X x) (hdb : (x == ("__debug__" : Str)) = false := by decide) : PMk X (.Call (.Name x p) [] [] pos) (fun _ H Q => Q (.ref C) none H) := by
  intro pins s σ H Q I h
  refine wpAny_Call_Name_kw (ld_glob I hg gC ?_ hdb)
  refine PySem.W.callWith_K0 I.kIn kC ?_
  obtain ⟨bm, N, nm, qn, bs, hdct, sn, sub, ab, col, dd, k0, k1, k2, k3, k5, mN, hC, hN, hni, T⟩ := exc_obj I.kIn q
  refine wpAny_call_exc_subT F T hC hN hni (fun h' e hm => ?_) (Nat.zero_le _)
  exact mk_of I hm r h (I.hok.gone hm.new)
/-- a list drawn by a menu -/
def Drawn (ms ds : List Int) : Prop := ds.length = ms.length ∧ ∀ (i : Nat) (m : Int), ms[i]? = some m → ∃ d : Int, ds[i]? = some d ∧ 0 ≤ d ∧ d < m
theorem kitCls_own {K : PySem.W.Frag} {t : Value} {C : Addr} (hd : PySem.W.hasDictIn K C = true) (ty : PySem.W.typeIn K (.ref C) = some (.type "type")) : PySem.W.kitCls K t (.ref C) = PySem.W.subIn K t (.ref C) := by
  obtain ⟨cd, hc, _⟩ := PySem.W.any_some hd
  unfold PySem.W.kitCls
  simp [hc, ty]
theorem kit_self {K : PySem.W.Frag} {t : Value} : PySem.W.kitOne K t t = some true := by
  unfold PySem.W.kitOne
  rw [if_pos (beq_self_eq_true t)]
theorem kit_yes {K : PySem.W.Frag} {t : Value} {C : Addr} (hd : PySem.W.hasDictIn K C = true) (ty : PySem.W.typeIn K (.ref C) = some (.type "type")) (s : PySem.W.subIn K t (.ref C) = some true) : PySem.W.kitOne K t (.ref C) = some true := by
  unfold PySem.W.kitOne
  split
  · rfl
  · rw [kitCls_own hd ty]; exact s
theorem kit_no {K : PySem.W.Frag} {t : Value} {C : Addr} (hd : PySem.W.hasDictIn K C = true) (ty : PySem.W.typeIn K (.ref C) = some (.type "type")) (me : PySem.W.subIn K (.ref C) (.ref C) = some true) (s : PySem.W.subIn K t (.ref C) = some false) : PySem.W.kitOne K t (.ref C) = some false := by
  unfold PySem.W.kitOne
  split
  · rename_i e
    rw [beq_iff_eq] at e
    rw [e, me] at s
    cases s
  · rw [kitCls_own hd ty]; exact s
theorem kit_bi {K : PySem.W.Frag} {C : Addr} {n : String} {b : Bool} (hm : PySem.W.kitMeta n = true) (s : PySem.W.subIn K (.ref C) (.type n) = some b) : PySem.W.kitOne K (.ref C) (.type n) = some b := by
  unfold PySem.W.kitOne PySem.W.kitCls
  rw [if_neg (by simp)]
  show (if PySem.W.kitMeta n = true then PySem.W.subIn K (.ref C) (.type n) else none) = some b
  rw [if_pos hm]
  exact s
theorem drawn4 {a b c d : Int} {ds : List Int} (h : Drawn [a, b, c, d] ds) : ∃ w x y z, ds = [w, x, y, z] ∧ (0 ≤ w ∧ w < a) ∧ (0 ≤ x ∧ x < b) ∧ (0 ≤ y ∧ y < c) ∧ (0 ≤ z ∧ z < d) := by
  obtain ⟨hl, g⟩ := h
  match ds, hl with
  | [w, x, y, z], _ =>
    obtain ⟨w', e0, h0⟩ := g 0 a rfl
    obtain ⟨x', e1, h1⟩ := g 1 b rfl
    obtain ⟨y', e2, h2⟩ := g 2 c rfl
    obtain ⟨z', e3, h3⟩ := g 3 d rfl
    cases e0; cases e1; cases e2; cases e3
    exact ⟨_, _, _, _, rfl, h0, h1, h2, h3⟩
/-! ### own errors with one field and with two -/
def spErr1 (K : PySem.W.Frag) (C : Addr) (f : Str) : Sp := fun vs H Q _ => ∃ (a : Addr) (x : V), vs = [.ref a, x] ∧ OexC K C ∧ H a = some (exo a C none) ∧ ∀ d, H d = none → d ≠ a → Q .non (upd (upd H d (exd d [(f, x)])) a (exo a C (some d)))
def spErr2 (K : PySem.W.Frag) (C : Addr) (f g : Str) : Sp := fun vs H Q _ => ∃ (a : Addr) (x y : V), vs = [.ref a, x, y] ∧ OexC K C ∧ H a = some (exo a C none) ∧
  ∀ d, H d = none → d ≠ a → Q .non (upd (upd (upd H d (exd d [(f, x)])) a (exo a C (some d))) d (exd d [(g, y), (f, x)]))
theorem raise1 {K : PySem.W.Frag} {C : Addr} {f : Str} {H : Hp} {E : XK} {σ : L2.St} {ta : TA} {x : V} (hC : OexC K C) (hta : ∀ Q : List V → Hp → Prop, Q [x] H → ta σ H Q)
    (k : ∀ d H', Ex H H' → H' d = some (.xd [(f, x)]) → E (.ref C) (some d) H') : tMkO C (spErr1 K C f) [] ta σ H E := by
  refine hta _ ⟨by show (1 : Nat) ≤ 1000; decide, fun a ha => ⟨a, x, rfl, hC, upd_same, fun d hd hne => ?_⟩⟩
  have hd' : H d = none := by rw [upd_ne hne] at hd; exact hd
  have han : a ≠ d := fun e => hne e.symm
  refine ⟨rfl, d, _, upd_same, ?_, hd', k d _ (fun b o hb => ?_) upd_same⟩
  · rw [upd_ne hne, upd_same]
  · have h1 : b ≠ a := ne_of_none hb ha
    have h2 : b ≠ d := ne_of_none hb hd'
    rw [upd_ne h2, del_ne h1, upd_ne h1, upd_ne h2, upd_ne h1]
    exact hb
theorem raise2 {K : PySem.W.Frag} {C : Addr} {f g : Str} {H : Hp} {E : XK} {σ : L2.St} {ta : TA} {x y : V} (hC : OexC K C) (hta : ∀ Q : List V → Hp → Prop, Q [x, y] H → ta σ H Q)
    (k : ∀ d H', Ex H H' → H' d = some (.xd [(g, y), (f, x)]) → E (.ref C) (some d) H') : tMkO C (spErr2 K C f g) [] ta σ H E := by
  refine hta _ ⟨by show (2 : Nat) ≤ 1000; decide, fun a ha => ⟨a, x, y, rfl, hC, upd_same, fun d hd hne => ?_⟩⟩
  have hd' : H d = none := by rw [upd_ne hne] at hd; exact hd
  have han : a ≠ d := fun e => hne e.symm
  refine ⟨rfl, d, _, ?_, upd_same, hd', k d _ (fun b o hb => ?_) upd_same⟩
  · rw [upd_ne han, upd_same]
  · have h1 : b ≠ a := ne_of_none hb ha
    have h2 : b ≠ d := ne_of_none hb hd'
    rw [upd_ne h2, del_ne h1, upd_ne h2, upd_ne h1, upd_ne h2, upd_ne h1]
    exact hb
/-- what a cell of the script is worth -/
def cellA (ns : List Int) (k : Nat) : Int := if k < ns.length then (if ns.getD k 0 < 0 then - ns.getD k 0 else ns.getD k 0) else 0
theorem cellA_nn (ns : List Int) (k : Nat) : 0 ≤ cellA ns k := by
  unfold cellA
  split
  · split <;> omega
  · omega
/-! ### evaluation with a property; loops over what a call gives -/
def EvR (te : TE) (σ : L2.St) (H : Hp) (P : V → Hp → Prop) : Prop := ∀ H1, Ex H H1 → ∀ Q : VK, (∀ v H2, Ex H1 H2 → P v H2 → Q v H2) → te σ H1 Q
theorem er_ev {te : TE} {σ : L2.St} {H : Hp} {v : V} {P : V → Hp → Prop} (h : Ev te σ H v) (hp : ∀ H1, Ex H H1 → P v H1) : EvR te σ H P := fun H1 e Q q => h H1 e Q fun H2 e2 => q v H2 e2 (hp H2 (e.trans e2))
theorem EvR.mono {te : TE} {σ : L2.St} {H H' : Hp} {P : V → Hp → Prop} (e : Ex H H') (h : EvR te σ H P) : EvR te σ H' P := fun H1 a Q q => h H1 (e.trans a) Q q
theorem EvR.imp {te : TE} {σ : L2.St} {H : Hp} {P P' : V → Hp → Prop} (h : EvR te σ H P) (i : ∀ v H1, P v H1 → P' v H1) : EvR te σ H P' := fun H1 a Q q => h H1 a Q fun v H2 e p => q v H2 e (i v H2 p)
theorem er_L {te : TE} {σ : L2.St} {H : Hp} {xs : List V} (h : EvL te σ H xs) : EvR te σ H fun v H1 => ∃ p, v = .ref p ∧ H1 p = some (.lst xs) := fun H1 e Q q => h H1 e Q fun p H2 _ e2 hp => q _ H2 e2 ⟨p, rfl, hp⟩
theorem s_asgR {te : TE} {D : Ends} {σ : L2.St} {H : Hp} {i : Nat} {P : V → Hp → Prop} (h : EvR te σ H P) (k : ∀ v H1, Ex H H1 → P v H1 → D.nx (σ.set i (some v)) H1) : tAsg te (gName i) D σ H := h H (Ex.refl H) _ fun v H1 e p => k v H1 e p
theorem q_asgR {te : TE} {tz : TS} {D : Ends} {σ : L2.St} {H : Hp} {i : Nat} {P : V → Hp → Prop} (h : EvR te σ H P) (k : ∀ v H1, Ex H H1 → P v H1 → tz D (σ.set i (some v)) H1) : tSeq (tAsg te (gName i)) tz D σ H := s_asgR (D := { D with nx := tz D }) h k
theorem s_retR {te : TE} {D : Ends} {σ : L2.St} {H : Hp} {P : V → Hp → Prop} (h : EvR te σ H P) (k : ∀ v H1, Ex H H1 → P v H1 → D.rt v H1) : tRet te D σ H := h H (Ex.refl H) _ fun v H1 e p => k v H1 e p
theorem for_via {K : PySem.W.Frag} {tl : TE} {g : TG} {tu : TS} {D : Ends} {σ : L2.St} {H : Hp} {P : V → Hp → Prop} (h : EvR tl σ H P) (k : ∀ v H1, Ex H H1 → P v H1 → tFor (iList K (tC v)) g tu D σ H1) : tFor (iList K tl) g tu D σ H :=
  h H (Ex.refl H) _ fun v H1 e p => k v H1 e p
theorem q_forVia {K : PySem.W.Frag} {tl : TE} {g : TG} {tu tz : TS} {D : Ends} {σ : L2.St} {H : Hp} {P : V → Hp → Prop} (h : EvR tl σ H P) (k : ∀ v H1, Ex H H1 → P v H1 → tSeq (tFor (iList K (tC v)) g tu) tz D σ H1) : tSeq (tFor (iList K tl) g tu) tz D σ H :=
  h H (Ex.refl H) _ fun v H1 e p => k v H1 e p
theorem ev_int {σ : L2.St} {H : Hp} {te : TE} {z : Int} (h : Ev te σ H (.int z)) : Ev (tCB (fun xs H Q => (∃ i, xs = [V.int i] ∧ Q (V.int i) H) ∨ ∃ k, xs = [V.bl k] ∧ Q (V.int (if k = true then 1 else 0)) H) (tCons te tNil)) σ H (.int z) :=
  ev_cb (ea_cons h ea_nil) fun H1 _ _ q => .inl ⟨_, rfl, q H1 (Ex.refl H1)⟩
theorem el_rep {σ : L2.St} {H : Hp} {te tn : TE} {z k : Int} (h : Ev te σ H (.int z)) (hn : Ev tn σ H (.int k)) (hk : 0 ≤ k ∧ k ≤ 100000) : EvL (tOp rRep (tLst (tCons te tNil)) tn) σ H ((List.replicate k.toNat z).map V.int) := fun H1 e Q q =>
  el_lst (ea_cons h ea_nil) (by show 1 ≤ 100000; decide) H1 e _ fun p H2 hp e2 h2 => hn H2 (e.trans e2) _ fun H3 e3 => ⟨p, k, [.int z], rfl, rfl, e3 _ _ h2, by omega, by omega, by
    show 1 * k.toNat ≤ sizeLine
    exact Nat.le_trans (show 1 * k.toNat ≤ 100000 by omega) (by decide), fun l hl => q l _ (fresh_back (e2.trans e3) hl) ((e2.trans e3).trans (Ex.new hl)) (by
    rw [upd_same]
    have rp : ∀ m : Nat, (List.replicate m [V.int z]).flatten = (List.replicate m z).map V.int := fun m => by
      induction m with
      | zero => rfl
      | succ m ih => rw [List.replicate_succ, List.flatten_cons, ih, List.replicate_succ, List.map_cons]; rfl
    rw [rp])⟩
theorem er_call {sp : Sp} {dvs vs : List V} {E : XK} {ta : TA} {σ : L2.St} {H : Hp} {P : V → Hp → Prop} (h : EvA ta σ H vs) (hs : ∀ H1, Ex H H1 → ∀ Q : VK, (∀ v H2, Ex H1 H2 → P v H2 → Q v H2) → sp (vs ++ dvs) H1 Q E) : EvR (tCall sp dvs E ta) σ H P :=
  fun H1 e Q q => h H1 e _ fun H2 e2 => hs H2 (e.trans e2) Q fun v H3 e3 p => q v H3 (e2.trans e3) p
theorem el_cat {σ : L2.St} {H : Hp} {ta tb : TE} {xs ys : List V} (h1 : EvL ta σ H xs) (h2 : EvL tb σ H ys) (hz : xs.length + ys.length ≤ 100000) : EvL (tOp rCat ta tb) σ H (xs ++ ys) := fun H1 e Q q =>
  h1 H1 e _ fun a H2 ha e2 g2 => h2 H2 (e.trans e2) _ fun b H3 hb e3 g3 => ⟨a, b, xs, ys, rfl, rfl, e3 _ _ g2, g3, sz_of hz, fun p hp => q p _ (fresh_back (e2.trans e3) hp) ((e2.trans e3).trans (Ex.new hp)) upd_same⟩
theorem atI_last {α : Type} {xs : List α} {z : α} (h : xs.getLast? = some z) : atI xs (-1) = some z := by
  cases xs with
  | nil => cases h
  | cons x r =>
    rw [List.getLast?_eq_getElem?] at h
    unfold atI ixN
    rw [if_neg (by omega), if_pos (by rw [List.length_cons]; omega)]
    show (x :: r)[((-1 : Int) + ((x :: r).length : Int)).toNat]? = some z
    rw [← h]
    congr 1
    rw [List.length_cons]
    omega
/-- an if whose test fails -/
theorem q_skip {t : TT} {tu tz : TS} {D : Ends} {σ : L2.St} {H : Hp} (h : EvT t σ H false) (k : ∀ H1, Ex H H1 → tz D σ H1) : tSeq (tIfS t tu tNext) tz D σ H := q_when h (fun z => Bool.noConfusion z) fun _ H1 e => k H1 e
/-- .. whose test holds and that returns -/
theorem q_take {t : TT} {tu tz : TS} {D : Ends} {σ : L2.St} {H : Hp} (h : EvT t σ H true) (k : ∀ H1, Ex H H1 → tu { D with nx := tz D } σ H1) : tSeq (tIfS t tu tNext) tz D σ H := q_when h (fun _ H1 e => k H1 e) fun z => Bool.noConfusion z
theorem et_notT {t : TT} {σ : L2.St} {H : Hp} (h : EvT t σ H true) : EvT (tNot t) σ H false := et_not h
theorem et_orF {t u : TT} {σ : L2.St} {H : Hp} (h : EvT t σ H false) (h2 : EvT u σ H false) : EvT (tOr t u) σ H false := et_or h fun _ => h2
theorem et_andF {t u : TT} {σ : L2.St} {H : Hp} (h : EvT t σ H false) : EvT (tAnd t u) σ H false := et_and (b := true) h fun z => Bool.noConfusion z
theorem et_andT {t u : TT} {σ : L2.St} {H : Hp} {b : Bool} (h : EvT t σ H true) (h2 : EvT u σ H b) : EvT (tAnd t u) σ H b := et_and h fun _ => h2
theorem ev_ix {K : PySem.W.Frag} {σ : L2.St} {H : Hp} {ta tb : TE} {p : Addr} {xs : List V} {i : Int} {v : V} (ha : Ev ta σ H (.ref p)) (hb : Ev tb σ H (.int i)) (h : SqL K H p xs) (hv : atI xs i = some v) : Ev (tOp (rIxL K) ta tb) σ H v := ev_op ha hb (rv_ixL h hv)
theorem rv_isK {x : V} {H : Hp} {b : Bool} : RV rIsK x (.bl b) H (.bl (decide (x = .bl b))) := fun H1 _ _ q => ⟨b, rfl, q H1 (Ex.refl H1)⟩
def rIsNotK : R2 := fun x y H Q => ∃ b : Bool, y = .bl b ∧ Q (.bl (!decide (x = .bl b))) H
theorem op_isNotK {X : Cx} : OpR X (compareOp .IsNot) rIsNotK := by
  intro pins s σ H x y v u Q I rx ry h
  obtain ⟨b, hy, q⟩ := h
  subst hy
  cases (show u = Value.bool b from ry)
  have fin : ∀ k : Bool, k = (!decide (x = V.bl b)) → EP X pins σ Q (.bool k) s := fun k e => ⟨.bl k, H, I, rfl, by rw [e]; exact q⟩
  cases x with
  | non => cases (show v = Value.none from rx); exact wpAny_isNot_other rfl (fun z => by cases z) (fin _ (by simp))
  | bl a =>
    cases (show v = Value.bool a from rx)
    by_cases e : a = b
    · subst e; exact wpAny_isNot_self rfl (fin _ (by simp))
    · exact wpAny_isNot_other rfl (fun z => e (Value.bool.inj z)) (fin _ (by simp [e]))
  | int i => obtain ⟨t, ev⟩ := rx; subst ev; exact wpAny_isNot_other rfl (fun z => by cases z) (fin _ (by simp))
  | str i => obtain ⟨t, ev⟩ := rx; subst ev; exact wpAny_isNot_other rfl (fun z => by cases z) (fin _ (by simp))
  | byt i => obtain ⟨t, ev⟩ := rx; subst ev; exact wpAny_isNot_other rfl (fun z => by cases z) (fin _ (by simp))
  | flt i => obtain ⟨t, ev⟩ := rx; subst ev; exact wpAny_isNot_other rfl (fun z => by cases z) (fin _ (by simp))
  | ref a => cases (show v = Value.ref a from rx); exact wpAny_isNot_other rfl (fun z => by cases z) (fin _ (by simp))
  | ty n => cases (show v = Value.type n from rx); exact wpAny_isNot_other rfl (fun z => by cases z) (fin _ (by simp))
theorem rv_isNotK {x : V} {H : Hp} {b : Bool} : RV rIsNotK x (.bl b) H (.bl (!decide (x = .bl b))) := fun H1 _ _ q => ⟨b, rfl, q H1 (Ex.refl H1)⟩
theorem drawn_cons {m : Int} {ms ds : List Int} (h : Drawn (m :: ms) ds) : ∃ d r, ds = d :: r ∧ (0 ≤ d ∧ d < m) ∧ Drawn ms r := by
  obtain ⟨hl, g⟩ := h
  cases ds with
  | nil => cases hl
  | cons d r =>
    obtain ⟨d', e, h0, h1⟩ := g 0 m rfl
    cases e
    exact ⟨d, r, rfl, ⟨h0, h1⟩, by simpa using hl, fun i x hx => g (i + 1) x hx⟩
theorem drawn_nil {ds : List Int} (h : Drawn [] ds) : ds = [] := List.length_eq_zero_iff.mp h.1
/-! ### new things: what holds of them in each heap that has what is new -/
def NewP (P : Hp → Prop) (H H' : Hp) : Prop := ∀ G : Hp, (∀ b o, H b = none → H' b = some o → G b = some o) → P G
def EvNew (te : TE) (σ : L2.St) (H : Hp) (P : V → Hp → Prop) : Prop := ∀ H1, Ex H H1 → ∀ Q : VK, (∀ v H2, Ex H1 H2 → NewP (P v) H1 H2 → Q v H2) → te σ H1 Q
theorem NewP.self {P : Hp → Prop} {H H' : Hp} (h : NewP P H H') : P H' := h H' fun _ _ _ e => e
theorem NewP.out {P : Hp → Prop} {H H1 H2 H3 : Hp} (h : NewP P H1 H2) (e : Ex H H1) (e' : Ex H2 H3) : NewP P H H3 := fun G g => h G fun b o h1 h2 => g b o (fresh_back e h1) (e' _ _ h2)
theorem EvNew.er {te : TE} {σ : L2.St} {H : Hp} {P : V → Hp → Prop} (h : EvNew te σ H P) : EvR te σ H P := fun H1 e Q q => h H1 e Q fun v H2 e2 n => q v H2 e2 n.self
theorem EvNew.imp {te : TE} {σ : L2.St} {H : Hp} {P P' : V → Hp → Prop} (h : EvNew te σ H P) (i : ∀ v G, P v G → P' v G) : EvNew te σ H P' := fun H1 e Q q => h H1 e Q fun v H2 e2 n => q v H2 e2 fun G g => i v G (n G g)
theorem en_L {te : TE} {σ : L2.St} {H : Hp} {xs : List V} (h : EvL te σ H xs) : EvNew te σ H fun v G => ∃ p, v = .ref p ∧ G p = some (.lst xs) := fun H1 e Q q => h H1 e Q fun p H2 hp e2 h2 => q _ H2 e2 fun G g => ⟨p, rfl, g p _ hp h2⟩
theorem en_ev {te : TE} {σ : L2.St} {H : Hp} {v : V} {P : V → Prop} (h : Ev te σ H v) (p : P v) : EvNew te σ H fun v _ => P v := fun H1 e Q q => h H1 e Q fun H2 e2 => q v H2 e2 fun _ _ => p
/-- what a comprehension keeps: its list at D, each item with its property whatever D holds -/
def Kept (P : Nat → V → Hp → Prop) (H1 : Hp) (D : Addr) (i : Nat) (H : Hp) : Prop := H1 D = none ∧ Ex H1 H ∧ ∃ vs : List V, H D = some (.lst vs) ∧ vs.length = i ∧ ∀ (k : Nat) x, vs[k]? = some x → ∀ G : Hp, (∀ b o, b ≠ D → H1 b = none → H b = some o → G b = some o) → P k x G
theorem kept_turn {P : Nat → V → Hp → Prop} {H1 H : Hp} {D : Addr} {i : Nat} {te : TE} {σ2 : L2.St} (p : Kept P H1 D i H) (hi : i < 50000) (he : EvNew te σ2 H1 (P i)) :
    tYes σ2 H fun b H3 => if b = true then te σ2 H3 fun y H4 => ∃ acc, H4 D = some (.lst acc) ∧ acc.length < sizeLine ∧ Kept P H1 D (i + 1) (upd H4 D (.lst (acc ++ [y]))) else Kept P H1 D (i + 1) H3 := by
  obtain ⟨p1, p2, vs, p3, p4, p5⟩ := p
  show te σ2 H fun y H4 => ∃ acc, H4 D = some (.lst acc) ∧ acc.length < sizeLine ∧ Kept P H1 D (i + 1) (upd H4 D (.lst (acc ++ [y])))
  refine he H p2 _ fun y H4 e4 hy => ⟨vs, e4 _ _ p3, sz_lt (by omega), p1, Ex.mut (p2.trans e4) p1, vs ++ [y], upd_same, by simp [p4], fun k x hk G g => ?_⟩
  by_cases hki : k < vs.length
  · rw [List.getElem?_append_left hki] at hk
    exact p5 k x hk G fun b o hb h1 h2 => g b o hb h1 (by rw [upd_ne hb]; exact e4 _ _ h2)
  · have hlt := (List.getElem?_eq_some_iff.mp hk).1
    rw [List.length_append] at hlt
    have hlt' : k < vs.length + 1 := hlt
    have e : k = i := by omega
    subst e
    rw [List.getElem?_append_right (by omega), ← p4, Nat.sub_self] at hk
    cases hk
    refine hy G fun b o h1 h2 => ?_
    have hb : b ≠ D := fun e => by rw [e, p3] at h1; cases h1
    exact g b o hb (fresh_back p2 h1) (by rw [upd_ne hb]; exact h2)
theorem kept_end {P : Nat → V → Hp → Prop} {H1 H : Hp} {D : Addr} {n : Nat} (p : Kept P H1 D n H) : NewP (fun G => ∃ vs : List V, G D = some (.lst vs) ∧ vs.length = n ∧ ∀ (k : Nat) x, vs[k]? = some x → P k x G) H1 H := fun G g => by
  obtain ⟨p1, p2, vs, p3, p4, p5⟩ := p
  exact ⟨vs, g D _ p1 p3, p4, fun k x hk => p5 k x hk G fun b o _ h1 h2 => g b o h1 h2⟩
/-- a list whose items have a property -/
def ListP (n : Nat) (P : Nat → V → Hp → Prop) (v : V) (G : Hp) : Prop := ∃ (p : Addr) (vs : List V), v = .ref p ∧ G p = some (.lst vs) ∧ vs.length = n ∧ ∀ (k : Nat) x, vs[k]? = some x → P k x G
theorem en_lcR1 {σ : L2.St} {H : Hp} {te : TE} {ta : TA} {j : Nat} {vs : List Nat} {n : Int} (P : Nat → V → Hp → Prop) (h : EvA ta σ H [.int n]) (hn : 0 ≤ n ∧ n ≤ 40000) (hw : ∀ x, wipe ((wipe σ vs).set j (some x)) vs = wipe σ vs)
    (he : ∀ (i : Nat) H1, Ex H H1 → (i : Int) < n → EvNew te ((wipe σ vs).set j (some (.int (i : Int)))) H1 (P i)) : EvNew (tLc (iRng1 ta) (gName j) tYes te vs) σ H (ListP n.toNat P) := fun H0 e Q q => h H0 e _ fun H1 e1 => ⟨n, rfl, by omega, by omega, fun Dl hD =>
  lc_range (lo := 0) (n := n.toNat) (Kept P H1 Dl) ⟨hD, Ex.new hD, [], upd_same, rfl, fun k x hk => by cases hk⟩ (fun i H' hi p => by
    have e0 : (0 : Int) + (i : Int) = (i : Int) := Int.zero_add _
    show wipe ((wipe σ vs).set j (some (.int ((0 : Int) + (i : Int))))) vs = wipe σ vs ∧ tYes ((wipe σ vs).set j (some (.int ((0 : Int) + (i : Int))))) H' fun b H3 => if b = true then te ((wipe σ vs).set j (some (.int ((0 : Int) + (i : Int))))) H3 fun y H4 => ∃ acc, H4 Dl = some (.lst acc) ∧ acc.length < sizeLine ∧ Kept P H1 Dl (i + 1) (upd H4 Dl (.lst (acc ++ [y]))) else Kept P H1 Dl (i + 1) H3
    rw [e0]
    exact ⟨hw _, kept_turn p (by omega) (he i H1 (e.trans e1) (by omega))⟩)
    (fun H' p => q _ H' (e1.trans p.2.1) fun G g => by
      obtain ⟨ws, h1, h2, h3⟩ := (kept_end p).out e1 (Ex.refl _) G g
      exact ⟨Dl, ws, rfl, h1, h2, h3⟩)⟩
theorem en_lcL {K : PySem.W.Frag} {σ : L2.St} {H : Hp} {te tl : TE} {j : Nat} {vs : List Nat} {xs : List V} (P : Nat → V → Hp → Prop) (h : EvR tl σ H fun v H1 => ∃ a, v = .ref a ∧ SqL K H1 a xs) (hz : xs.length ≤ 40000) (hw : ∀ x, wipe ((wipe σ vs).set j (some x)) vs = wipe σ vs)
    (he : ∀ (i : Nat) (x : V) H1, Ex H H1 → xs[i]? = some x → EvNew te ((wipe σ vs).set j (some x)) H1 (P i)) : EvNew (tLc (iList K tl) (gName j) tYes te vs) σ H (ListP xs.length P) := fun H0 e Q q => h H0 e _ fun v H1 e1 hv => by
  obtain ⟨a, rfl, hx⟩ := hv
  exact ⟨a, rfl, ⟨xs, hx⟩, fun Dl hD =>
    lc_list (xs := xs) (Kept P H1 Dl) ⟨hD, Ex.new hD, [], upd_same, rfl, fun k x hk => by cases hk⟩ (fun i H' _ p => ex_l p.2.1 hx) (fun i x H' hi p => ⟨hw x, kept_turn p (by have := (List.getElem?_eq_some_iff.mp hi).1; omega) (he i x H1 (e.trans e1) hi)⟩)
    (fun H' p => q _ H' (e1.trans p.2.1) fun G g => by
      obtain ⟨ws, h1, h2, h3⟩ := (kept_end p).out e1 (Ex.refl _) G g
      exact ⟨Dl, ws, rfl, h1, h2, h3⟩)⟩

/-! ### order of data -/
def rLtD (K : PySem.W.Frag) : R2 := fun x y H Q => ∃ d e, Dp K H x d ∧ Dp K H y e ∧ PySem.W.alike d e = true ∧ d ≠ .none ∧ d.depth ≤ 64 ∧ Q (.bl (PySem.W.dataLt d e)) H
def rLeD (K : PySem.W.Frag) : R2 := fun x y H Q => ∃ d e, Dp K H x d ∧ Dp K H y e ∧ PySem.W.alike d e = true ∧ d ≠ .none ∧ d.depth ≤ 64 ∧ Q (.bl (!PySem.W.dataLt e d)) H
theorem op_ltD {X : Cx} {K : PySem.W.Frag} (hu : X.A.units + 64 < cLine) (hk : X.K = K := by rfl) : OpR X (compareOp .Lt) (rLtD K) := by
  subst hk
  intro pins s σ H x y v u Q I rx ry h
  obtain ⟨d, e, hd, he, al, dn, dp, q⟩ := h
  obtain ⟨as, r1⟩ := Dp.reads I d x v hd rx
  obtain ⟨bs, r2⟩ := Dp.reads I e y u he ry
  exact PySem.W.rcLt_alike d e X.A s v u as bs r1 r2 al dn (by have := Nat.min_le_left d.depth e.depth; omega) X.prog X.w X.xe (EP X pins σ Q) ⟨.bl _, H, I, rfl, q⟩
theorem op_leD {X : Cx} {K : PySem.W.Frag} (hu : X.A.units + 64 < cLine) (hk : X.K = K := by rfl) : OpR X (compareOp .LtE) (rLeD K) := by
  subst hk
  intro pins s σ H x y v u Q I rx ry h
  obtain ⟨d, e, hd, he, al, dn, dp, q⟩ := h
  obtain ⟨as, r1⟩ := Dp.reads I d x v hd rx
  obtain ⟨bs, r2⟩ := Dp.reads I e y u he ry
  exact PySem.W.rcLe_alike d e X.A s v u as bs r1 r2 al dn (by have := Nat.min_le_left d.depth e.depth; omega) X.prog X.w X.xe (EP X pins σ Q) ⟨.bl _, H, I, rfl, q⟩
theorem alike_ints : ∀ xs ys : List Int, PySem.W.alikeAll (xs.map PyData.int) (ys.map PyData.int) = true
  | [], [] => by simp [PySem.W.alikeAll]
  | [], y :: ys => by simp [PySem.W.alikeAll]
  | x :: xs, [] => by simp [PySem.W.alikeAll]
  | x :: xs, y :: ys => by simp [PySem.W.alikeAll, PySem.W.alike, alike_ints xs ys]

/-! ### what holds of a value in each heap that has what stood before and what is new -/
def Since (H H' G : Hp) : Prop := ∀ b o, H b = none → H' b = some o → G b = some o
def EvB (te : TE) (σ : L2.St) (H : Hp) (P : V → Hp → Prop) : Prop := ∀ H1, Ex H H1 → ∀ Q : VK, (∀ v H2, Ex H1 H2 → (∀ G, Ex H G → Since H1 H2 G → P v G) → Q v H2) → te σ H1 Q
theorem EvNew.eb {te : TE} {σ : L2.St} {H : Hp} {P : V → Hp → Prop} (h : EvNew te σ H P) : EvB te σ H P := fun H1 e Q q => h H1 e Q fun v H2 e2 n => q v H2 e2 fun G _ g => n G g
theorem EvB.er {te : TE} {σ : L2.St} {H : Hp} {P : V → Hp → Prop} (h : EvB te σ H P) : EvR te σ H P := fun H1 e Q q => h H1 e Q fun v H2 e2 n => q v H2 e2 (n H2 (e.trans e2) fun _ _ _ z => z)
theorem EvB.imp {te : TE} {σ : L2.St} {H : Hp} {P P' : V → Hp → Prop} (h : EvB te σ H P) (i : ∀ v G, Ex H G → P v G → P' v G) : EvB te σ H P' := fun H1 e Q q => h H1 e Q fun v H2 e2 n => q v H2 e2 fun G a g => i v G a (n G a g)
theorem eb_ev {te : TE} {σ : L2.St} {H : Hp} {v : V} {P : V → Hp → Prop} (h : Ev te σ H v) (p : ∀ G, Ex H G → P v G) : EvB te σ H P := fun H1 e Q q => h H1 e Q fun H2 e2 => q v H2 e2 fun G a _ => p G a
theorem eb_L {K : PySem.W.Frag} {te : TE} {σ : L2.St} {H : Hp} {xs : List V} (h : EvL te σ H xs) : EvB te σ H fun v G => ∃ p, v = .ref p ∧ SqL K G p xs := ((en_L h).imp fun v G ⟨p, a, b⟩ => ⟨p, a, sq_of b⟩).eb
theorem eb_held {K : PySem.W.Frag} {σ : L2.St} {H : Hp} {i : Nat} {p : Addr} {xs : List V} (h : σ[i]? = some (some (.ref p))) (hp : SqL K H p xs) : EvB (tVar i) σ H fun v G => ∃ p, v = .ref p ∧ SqL K G p xs := eb_ev (ev_var h) fun G e => ⟨p, rfl, ex_l e hp⟩
/-! ### what is walked, whatever it is -/
def EvI (wi : TI) (σ : L2.St) (H : Hp) (n : Nat) (Y : Nat → Hp → V → Hp → Prop) : Prop := ∀ H1, Ex H H1 → ∀ R : It → Hp → Prop, (∀ J H2, Ex H1 H2 → Walk J n (fun G => Ex H G ∧ Since H1 H2 G) Y → R J H2) → wi σ H1 R
theorem ei_list {K : PySem.W.Frag} {σ : L2.St} {H : Hp} {tl : TE} {xs : List V} (h : EvB tl σ H fun v G => ∃ p, v = .ref p ∧ SqL K G p xs) : EvI (iList K tl) σ H xs.length (YAt xs) := fun H1 e R r => h H1 e _ fun v H2 e2 hv => by
  obtain ⟨a, rfl, hx⟩ := hv H2 (e.trans e2) fun _ _ _ z => z
  exact ⟨a, rfl, ⟨xs, hx⟩, r _ _ e2 (walk_list.mono (fun G g => by
    obtain ⟨b, eb, hb⟩ := hv G g.1 g.2
    cases eb
    exact hb) fun _ _ _ _ _ _ y => y)⟩
theorem ei_tup {K : PySem.W.Frag} {σ : L2.St} {H : Hp} {tl : TE} {xs : List V} (h : EvB tl σ H fun v G => ∃ p, v = .ref p ∧ SqT K G p xs) : EvI (iTup K tl) σ H xs.length (YAt xs) := fun H1 e R r => h H1 e _ fun v H2 e2 hv => by
  obtain ⟨a, rfl, hx⟩ := hv H2 (e.trans e2) fun _ _ _ z => z
  exact ⟨a, rfl, ⟨xs, hx⟩, r _ _ e2 (walk_tup.mono (fun G g => by
    obtain ⟨b, eb, hb⟩ := hv G g.1 g.2
    cases eb
    exact hb) fun _ _ _ _ _ _ y => y)⟩
theorem ei_rng1 {σ : L2.St} {H : Hp} {ta : TA} {n : Int} (h : EvA ta σ H [.int n]) (hn : -100000 ≤ n ∧ n ≤ 100000) : EvI (iRng1 ta) σ H n.toNat (YFn fun i => .int (i : Int)) := fun H1 e R r => h H1 e _ fun H2 e2 =>
  ⟨n, rfl, by omega, by omega, r _ _ e2 (walk_range.mono (fun _ _ => True.intro) fun i G x G' _ _ y => ⟨y.1, by rw [y.2]; simp⟩)⟩
theorem ei_rng2 {σ : L2.St} {H : Hp} {ta : TA} {lo hi : Int} (h : EvA ta σ H [.int lo, .int hi]) (hn : (-100000 ≤ lo ∧ lo ≤ 100000) ∧ -100000 ≤ hi ∧ hi ≤ 100000) : EvI (iRng2 ta) σ H (hi - lo).toNat (YFn fun i => .int (lo + (i : Int))) := fun H1 e R r => h H1 e _ fun H2 e2 =>
  ⟨lo, hi, rfl, by omega, r _ _ e2 (walk_range.mono (fun _ _ => True.intro) fun i G x G' _ _ y => y)⟩
theorem ei_zip {K : PySem.W.Frag} {σ : L2.St} {H : Hp} {ta tb : TE} {xs ys : List V} {n : Nat} (h1 : EvB ta σ H fun v G => ∃ p, v = .ref p ∧ SqL K G p xs) (h2 : EvB tb σ H fun v G => ∃ p, v = .ref p ∧ SqL K G p ys) (hn : n = min xs.length ys.length) :
    EvI (iZip K (tCons ta (tCons tb tNil))) σ H n (YPair (fun i => xs[i]?) fun i => ys[i]?) := fun H1 e R r => h1 H1 e _ fun v H2 e2 hv => h2 H2 (e.trans e2) _ fun w H3 e3 hw => by
  have p1 : ∀ G, Ex H G → Since H1 H3 G → ∃ p, v = .ref p ∧ SqL K G p xs := fun G a g => hv G a fun b o z1 z2 => g b o z1 (e3 _ _ z2)
  have p2 : ∀ G, Ex H G → Since H1 H3 G → ∃ p, w = .ref p ∧ SqL K G p ys := fun G a g => hw G a fun b o z1 z2 => g b o (fresh_back e2 z1) z2
  have e3' := (e.trans e2).trans e3
  obtain ⟨a, rfl, hx⟩ := p1 H3 e3' fun _ _ _ z => z
  obtain ⟨b, rfl, hy⟩ := p2 H3 e3' fun _ _ _ z => z
  exact ⟨a, b, xs, ys, rfl, hx, hy, r _ _ (e2.trans e3) ((walk_zip hn).mono (fun G g => by
    obtain ⟨a', ea, ha⟩ := p1 G g.1 g.2
    obtain ⟨b', eb, hb⟩ := p2 G g.1 g.2
    cases ea
    cases eb
    exact ⟨ha, hb⟩) fun _ _ _ _ _ _ y => y)⟩
theorem ei_enum {K : PySem.W.Frag} {σ : L2.St} {H : Hp} {ta : TE} {xs : List V} (h : EvB ta σ H fun v G => ∃ p, v = .ref p ∧ SqL K G p xs) : EvI (iEnum K (tCons ta tNil)) σ H xs.length (YPair (fun i => some (.int (i : Int))) fun i => xs[i]?) := fun H1 e R r => h H1 e _ fun v H2 e2 hv => by
  obtain ⟨a, rfl, hx⟩ := hv H2 (e.trans e2) fun _ _ _ z => z
  exact ⟨a, xs, rfl, hx, r _ _ e2 (walk_enum.mono (fun G g => by
    obtain ⟨b, eb, hb⟩ := hv G g.1 g.2
    cases eb
    exact hb) fun _ _ _ _ _ _ y => y)⟩
theorem walk_ex {J : It} {n : Nat} {H H1 H2 : Hp} {Y : Nat → Hp → V → Hp → Prop} (e : Ex H H1) (e2 : Ex H1 H2) (w : Walk J n (fun G => Ex H G ∧ Since H1 H2 G) Y) : Walk J n (Ex H2) Y := w.mono (fun G g => ⟨(e.trans e2).trans g, fun b o _ z => g _ _ z⟩) fun _ _ _ _ _ _ y => y
/-- what a target binds at each turn -/
def BdG (g : TG) (σ : L2.St) (n : Nat) (Y : Nat → Hp → V → Hp → Prop) (τ : Nat → L2.St) : Prop := ∀ i H x H' (k : L2.St → Hp → Prop), i < n → Y i H x H' → (Ex H H' → k (τ i) H') → g x σ H' k
theorem bd_at {σ : L2.St} {n j : Nat} {xs : List V} : BdG (gName j) σ n (YAt xs) fun i => σ.set j (xs[i]?) := fun i H x H' k _ y c => by
  obtain ⟨rfl, hx⟩ := y
  show k (σ.set j (some x)) H'
  rw [← hx]
  exact c (Ex.refl _)
theorem bd_fn {σ : L2.St} {n j : Nat} {f : Nat → V} : BdG (gName j) σ n (YFn f) fun i => σ.set j (some (f i)) := fun i H x H' k _ y c => by
  obtain ⟨rfl, rfl⟩ := y
  exact c (Ex.refl _)
theorem bd_pair {K : PySem.W.Frag} {σ : L2.St} {n a b : Nat} {xs ys : Nat → Option V} : BdG (gTup K 2 (gCons (gName a) (gCons (gName b) gNil))) σ n (YPair xs ys) fun i => (σ.set a (xs i)).set b (ys i) := fun i H x H' k _ y c => by
  obtain ⟨T, u, v, rfl, hT, rfl, hu, hv⟩ := y
  refine ⟨T, [u, v], rfl, st_of upd_same, rfl, u, [v], rfl, v, [], rfl, rfl, ?_⟩
  rw [← hu, ← hv]
  exact c (Ex.new hT)
section
variable {wi : TI} {g : TG} {tt : TT} {te : TE} {tu tz : TS} {σ : L2.St} {H : Hp} {D : Ends} {n : Nat} {Y : Nat → Hp → V → Hp → Prop} {vs : List Nat} {τ : Nat → L2.St}
theorem s_forI (h : EvI wi σ H n Y) (k : ∀ H2, Ex H H2 → ∃ Pv : Nat → L2.St → Hp → Prop, Pv 0 σ H2 ∧ (∀ i σ' H', i ≤ n → Pv i σ' H' → Ex H2 H') ∧
    (∀ i x σ' H' H'', i < n → Pv i σ' H' → Y i H' x H'' → g x σ' H'' fun σ2 H3 => tu { D with nx := Pv (i + 1), ct := Pv (i + 1), bk := D.nx } σ2 H3) ∧ ∀ σ' H', Pv n σ' H' → D.nx σ' H') : tFor wi g tu D σ H :=
  h H (Ex.refl H) _ fun J H2 e2 w => by
    obtain ⟨Pv, h0, hG, hs, hd⟩ := k H2 e2
    exact for_it (walk_ex (Ex.refl H) e2 w) Pv h0 hG (fun i x σ' H' H'' hi p y => hs i x σ' H' H'' hi p y) hd
theorem q_forI (h : EvI wi σ H n Y) (k : ∀ H2, Ex H H2 → ∃ Pv : Nat → L2.St → Hp → Prop, Pv 0 σ H2 ∧ (∀ i σ' H', i ≤ n → Pv i σ' H' → Ex H2 H') ∧
    (∀ i x σ' H' H'', i < n → Pv i σ' H' → Y i H' x H'' → g x σ' H'' fun σ2 H3 => tu { D with nx := Pv (i + 1), ct := Pv (i + 1), bk := tz D } σ2 H3) ∧ ∀ σ' H', Pv n σ' H' → tz D σ' H') : tSeq (tFor wi g tu) tz D σ H := s_forI (D := { D with nx := tz D }) h k
/-- a comprehension that tests and tells plain values -/
theorem el_lc (f : Nat → Bool) (v : Nat → V) (h : EvI wi σ H n Y) (hn : n ≤ 40000) (hb : BdG g (wipe σ vs) n Y τ) (hw : ∀ i, i < n → wipe (τ i) vs = wipe σ vs)
    (ht : ∀ i H1, i < n → Ex H H1 → EvT tt (τ i) H1 (f i)) (he : ∀ i H1, i < n → Ex H H1 → f i = true → Ev te (τ i) H1 (v i)) : EvL (tLc wi g tt te vs) σ H (given n f v) := fun H0 e0 Q q =>
  h H0 e0 _ fun J H2 e2 w Dl hD => lc_it (walk_ex e0 e2 w) (Cw H2 f v Dl) ⟨hD, Ex.new hD, upd_same⟩ (fun i H' _ c => c.2.1)
    (fun i x H' H'' hi c y => hb i H' x H'' _ hi y fun e => ⟨hw i hi, by
      have c' : Cw H2 f v Dl i H'' := ⟨c.1, c.2.1.trans e, e _ _ c.2.2⟩
      exact cw_turn c' (by omega) (ht i H2 hi (e0.trans e2)) (fun hf => he i H2 hi (e0.trans e2) hf)⟩)
    (fun H' c => q Dl H' (fresh_back e2 c.1) (e2.trans c.2.1) c.2.2)
/-- .. that tells new things -/
theorem en_lc (P : Nat → V → Hp → Prop) (h : EvI wi σ H n Y) (hn : n ≤ 40000) (hb : BdG g (wipe σ vs) n Y τ) (hw : ∀ i, i < n → wipe (τ i) vs = wipe σ vs)
    (he : ∀ i H1, i < n → Ex H H1 → EvNew te (τ i) H1 (P i)) : EvNew (tLc wi g tYes te vs) σ H (ListP n P) := fun H0 e0 Q q =>
  h H0 e0 _ fun J H2 e2 w Dl hD => lc_it (walk_ex e0 e2 w) (Kept P H2 Dl) ⟨hD, Ex.new hD, [], upd_same, rfl, fun k x hk => by cases hk⟩ (fun i H' _ c => c.2.1)
    (fun i x H' H'' hi c y => hb i H' x H'' _ hi y fun e => ⟨hw i hi, by
      obtain ⟨c1, c2, us, c3, c4, c5⟩ := c
      have c' : Kept P H2 Dl i H'' := ⟨c1, c2.trans e, us, e _ _ c3, c4, fun k z hk G gg => c5 k z hk G fun b o hb h1 h2 => gg b o hb h1 (e _ _ h2)⟩
      exact kept_turn c' (by omega) (he i H2 hi (e0.trans e2))⟩)
    (fun H' c => q _ H' (e2.trans c.2.1) fun G gg => by
      obtain ⟨ws, h1, h2, h3⟩ := (kept_end c).out e2 (Ex.refl _) G gg
      exact ⟨Dl, ws, rfl, h1, h2, h3⟩)
theorem given_all {n : Nat} {v : Nat → V} : given n (fun _ => true) v = (List.range n).map v := by
  unfold given
  rw [List.filter_eq_self.mpr fun _ _ => rfl]
theorem yes_T : EvT tYes σ H true := fun H1 _ Q q => q H1 (Ex.refl H1)
/-- two sources, one within the other: all values in their order -/
theorem el_lc2 {wi1 : TI} {g1 : TG} {vs1 : List Nat} {n1 : Nat → Nat} {Y1 : Nat → Nat → Hp → V → Hp → Prop} {τ1 : Nat → Nat → L2.St} (v : Nat → Nat → V) (N : Nat) (h : EvI wi σ H n Y) (hN : N ≤ 40000) (hz : ∀ i, i ≤ n → ((List.range i).flatMap fun i => (List.range (n1 i)).map (v i)).length ≤ N) (hb : BdG g (wipe σ vs) n Y τ) (hw : ∀ i, i < n → wipe (τ i) vs = wipe σ vs)
    (h1 : ∀ i H1, i < n → Ex H H1 → EvI wi1 (τ i) H1 (n1 i) (Y1 i)) (hb1 : ∀ i, i < n → BdG g1 (wipe (τ i) vs1) (n1 i) (Y1 i) (τ1 i)) (hw1 : ∀ i j, i < n → j < n1 i → wipe (τ1 i j) vs1 = wipe (τ i) vs1)
    (he : ∀ i j H1, i < n → j < n1 i → Ex H H1 → Ev te (τ1 i j) H1 (v i j)) : EvL (tLc2 wi g tYes wi1 g1 tYes te vs vs1) σ H ((List.range n).flatMap fun i => (List.range (n1 i)).map (v i)) := fun H0 e0 Q q =>
  h H0 e0 _ fun J H2 e2 w Dl hD => by
    let All : Nat → List V := fun i => (List.range i).flatMap fun i => (List.range (n1 i)).map (v i)
    have all_succ : ∀ i, All (i + 1) = All i ++ (List.range (n1 i)).map (v i) := fun i => by
      show List.flatMap _ (List.range (i + 1)) = _
      rw [List.range_succ, List.flatMap_append]
      simp [All]
    let Pv : Nat → Hp → Prop := fun i H' => H2 Dl = none ∧ Ex H2 H' ∧ H' Dl = some (.lst (All i))
    refine ⟨fun i m H' => m = n - i ∧ i ≤ n ∧ Pv i H', ⟨n, by simp, Nat.zero_le _, hD, Ex.new hD, upd_same⟩, ?_⟩
    have w' := walk_ex e0 e2 w
    rintro i m H' ⟨rfl, hi, p⟩
    by_cases hlt : i < n
    · refine .inr ⟨w'.goes i H' hlt p.2.1, Pv (i + 1), fun H'' p' => ⟨n - (i + 1), by omega, rfl, hlt, p'⟩, fun x H'' y => hb i H' x H'' _ hlt (w'.yields i H' x H'' hlt p.2.1 y) fun e => ⟨hw i hlt, ?_⟩⟩
      show wi1 (τ i) H'' _
      refine h1 i H2 hlt (e0.trans e2) H'' (p.2.1.trans e) _ fun J1 H3 e3 w1 => ?_
      let Pw : Nat → Hp → Prop := fun j G => (∀ b o, b ≠ Dl → H3 b = some o → G b = some o) ∧ Ex H2 G ∧ G Dl = some (.lst (All i ++ (List.range j).map (v i)))
      have q3 : Ex H2 H3 := (p.2.1.trans e).trans e3
      have inner : ∀ j G, Pw j G → Ex H2 G ∧ Since H'' H3 G := fun j G pw => ⟨pw.2.1, fun b o z1 z2 => pw.1 b o (fun z => by rw [z, e _ _ p.2.2] at z1; cases z1) z2⟩
      refine ⟨fun j m G => m = n1 i - j ∧ j ≤ n1 i ∧ Pw j G, ⟨n1 i, by simp, Nat.zero_le _, fun b o _ z => z, q3, by rw [(e.trans e3) _ _ p.2.2]; simp⟩, ?_⟩
      rintro j m G ⟨rfl, hj, pw⟩
      by_cases hjl : j < n1 i
      · refine .inr ⟨w1.goes j G hjl (inner j G pw), Pw (j + 1), fun G' pw' => ⟨n1 i - (j + 1), by omega, rfl, hjl, pw'⟩, fun x1 G' y1 => ?_⟩
        refine hb1 i hlt j G x1 G' _ hjl (w1.yields j G x1 G' hjl (inner j G pw) y1) fun eG => ⟨hw1 i j hlt hjl, ?_⟩
        show te (τ1 i j) G' _
        refine he i j H2 hlt hjl (e0.trans e2) G' (pw.2.1.trans eG) _ fun G4 e4 => ⟨_, (eG.trans e4) _ _ pw.2.2, ?_, ?_⟩
        · have s1 := hz (i + 1) (by omega)
          have s2 : (All (i + 1)).length ≤ N := s1
          rw [all_succ] at s2
          simp only [List.length_append, List.length_map, List.length_range] at s2 ⊢
          exact sz_lt (by omega)
        · refine ⟨fun b o hb' z => by rw [upd_ne hb']; exact (eG.trans e4) _ _ (pw.1 b o hb' z), Ex.mut (pw.2.1.trans (eG.trans e4)) hD, ?_⟩
          rw [upd_same, List.range_succ, List.map_append, ← List.append_assoc]
          rfl
      · have ej : j = n1 i := by omega
        subst ej
        refine .inl ⟨w1.stops G (inner _ G pw), p.1, pw.2.1, ?_⟩
        rw [pw.2.2, all_succ]
    · have e : i = n := by omega
      subst e
      exact .inl ⟨w'.stops H' p.2.1, q Dl H' (fresh_back e2 p.1) (e2.trans p.2.1) p.2.2⟩
end

theorem pi_listK {X : Cx} {K : PySem.W.Frag} {tg l : Expr} {tl : TE} (hl : PE X l tl) (hk : X.K = K := by rfl) : PI X tg l (iList K tl) := by subst hk; exact pi_list hl
theorem cr_allK {X : Cx} {K : PySem.W.Frag} (hc : X.calm = true) (hk : X.K = K := by rfl) : CallR X (.builtin "all") (rAll K) := by subst hk; exact cr_all hc
/-- either of two rules of a call -/
def rOr (r1 r2 : List V → Hp → VK → Prop) : List V → Hp → VK → Prop := fun xs H Q => r1 xs H Q ∨ r2 xs H Q
theorem call_or {X : Cx} {f : Value} {r1 r2 : List V → Hp → VK → Prop} (h1 : CallR X f r1) (h2 : CallR X f r2) : CallR X f (rOr r1 r2) := fun pins s σ H xs us Q I r h => h.elim (h1 pins s σ H xs us Q I r) (h2 pins s σ H xs us Q I r)

/-! ### operators of own classes -/
section
variable {X : Cx} {CX : CXT} {pins : List (Addr × Obj)} {σ : L2.St} {H : Hp} {s : Shared} {f C : Addr} {fd : FuncData} {ps : List Str} {n : Nat} {sp : Sp}
theorem run_own {E : XK} {Q : VK} {us : List Value} {vs : List V} (F : FnOk X.prog X.w X.K X.mg X.base CX n f fd ps sp) (hr : Room n X.A) (hb : Binds X.K fd ps []) (hx : PassesAt CX X σ E)
    (I : Inv X pins σ H s) (r : Vals vs us) (h : sp vs H Q E) : wpAny (model X.prog X.w) X.A (call (.ref f) us) (PySem.W.CmpBack (EP X pins σ Q)) X.xe s := by
  have hl : us.length = ps.length := by rw [← r.length]; exact F.len _ _ _ _ h
  have b := hb s us I.kIn (by rw [List.append_nil]; exact hl)
  rw [List.append_nil] at b
  refine wpAny_call (codeAny_mono (F.run X.A X.stack s H ⟨us, []⟩ us vs Q E hr I.env0 b r h) fun r s' hq => ?_)
  cases r with
  | error e => exact hx pins H s e s' I hq
  | ok fl =>
    cases fl with
    | ret u =>
      obtain ⟨v, H', I', rv, q⟩ := I.after hq
      exact SlX.cmpback rv ⟨v, H', I', rv, q⟩
    | next => exact False.elim hq
    | brk => exact False.elim hq
    | cont => exact False.elim hq
end
/-- what an own operator asks: x an object of the class at C -/
def rOwn1 (C : Addr) (sp : Sp) (E : L2.St → XK) (σ : L2.St) : V → Hp → VK → Prop := fun x H Q => ∃ a dx fs, x = .ref a ∧ H a = some (.ins C dx fs) ∧ sp [x] H Q (E σ)
/-- .. y an object of the same class -/
def rOwn2 (C : Addr) (sp : Sp) (E : L2.St → XK) (σ : L2.St) : R2 := fun x y H Q => ∃ a dx fs b dy gs, x = .ref a ∧ H a = some (.ins C dx fs) ∧ y = .ref b ∧ H b = some (.ins C dy gs) ∧ sp [x, y] H Q (E σ)
/-- .. y an int -/
def rOwnI (C : Addr) (sp : Sp) (E : L2.St → XK) (σ : L2.St) : R2 := fun x y H Q => ∃ a dx fs i, x = .ref a ∧ H a = some (.ins C dx fs) ∧ y = .int i ∧ sp [x, y] H Q (E σ)
def OpS (X : Cx) (f : Value → Value → Sem Value) (r : L2.St → R2) : Prop :=
  ∀ (pins : List (Addr × Obj)) (s : Shared) (σ : L2.St) (H : Hp) (x y : V) (v u : Value) (Q : VK), Inv X pins σ H s → RelV x v → RelV y u → r σ x y H Q → wpAny (model X.prog X.w) X.A (f v u) (EP X pins σ Q) X.xe s
def UnS (X : Cx) (f : Value → Sem Value) (r : L2.St → V → Hp → VK → Prop) : Prop :=
  ∀ (pins : List (Addr × Obj)) (s : Shared) (σ : L2.St) (H : Hp) (x : V) (v : Value) (Q : VK), Inv X pins σ H s → RelV x v → r σ x H Q → wpAny (model X.prog X.w) X.A (f v) (EP X pins σ Q) X.xe s
def tOpS (r : L2.St → R2) (ta tb : TE) : TE := fun σ H Q => ta σ H fun x H1 => tb σ H1 fun y H2 => r σ x y H2 Q
def tUnS (r : L2.St → V → Hp → VK → Prop) (ta : TE) : TE := fun σ H Q => ta σ H fun x H1 => r σ x H1 Q
section
variable {X : Cx} {CX : CXT} {f C : Addr} {fd : FuncData} {ps : List Str} {n : Nat} {sp : Sp} {E : L2.St → XK} {op : Operator} {a b : Expr} {ta tb : TE} {pos : Pos}
theorem pe_opS {r : L2.St → R2} (ho : OpS X (binaryOp op) r) (ha : PE X a ta) (hb : PE X b tb) : PE X (.BinOp a op b pos) (tOpS r ta tb) := by
  refine ⟨fun pins s σ H Q I h => ?_⟩
  exact wpAny_BinOp (binT ha hb I h fun v u s2 x y H2 I2 rx ry q => ho pins s2 σ H2 x y v u Q I2 rx ry q)
theorem pe_unS {op : UnaryOp} {r : L2.St → V → Hp → VK → Prop} (ho : UnS X (unaryOp op) r) (ha : PE X a ta) : PE X (.UnaryOp op a pos) (tUnS r ta) := by
  refine ⟨fun pins s σ H Q I h => ?_⟩
  exact PyProof.Rows.UnaryOp_ (thn (ha.run pins s σ H _ I h) fun v s1 ⟨x, H1, I1, r1, q1⟩ => ho pins s1 σ H1 x v Q I1 r1 q1)
/-- the facts of a class with operators -/
structure Ops (K : PySem.W.Frag) (C : Addr) : Prop where
  first : PySem.W.selfFirst K C = true
  sub : PySem.W.subIn K (.type "int") (.ref C) = some false
theorem un_negO (m : Meth X.K C "__neg__" f) (F : FnOk X.prog X.w X.K X.mg X.base CX n f fd ps sp) (hr : Room n X.A) (hb : Binds X.K fd ps []) (hx : ∀ σ, PassesAt CX X σ (E σ)) : UnS X (unaryOp .USub) (rOwn1 C sp E) := by
  intro pins s σ H x v Q I rx h
  obtain ⟨a, dx, fs, rfl, ha, h⟩ := h
  cases rx
  obtain ⟨mA, J, _⟩ := ins_get I.hok ha
  obtain ⟨od, J, _⟩ := J.look
  obtain ⟨m', hF⟩ := I.fr
  refine PySem.W.ksp_neg hF I.ok.mod.kin J m.at_ m.fn (wpAny_mono (run_own (vs := [V.ref a]) F hr hb (hx σ) I (.cons rfl .nil) h) (fun v s' hv => ?_) fun _ _ e => e)
  cases v <;> first | exact hv.elim | exact hv
theorem un_invO (m : Meth X.K C "__invert__" f) (F : FnOk X.prog X.w X.K X.mg X.base CX n f fd ps sp) (hr : Room n X.A) (hb : Binds X.K fd ps []) (hx : ∀ σ, PassesAt CX X σ (E σ)) : UnS X (unaryOp .Invert) (rOwn1 C sp E) := by
  intro pins s σ H x v Q I rx h
  obtain ⟨a, dx, fs, rfl, ha, h⟩ := h
  cases rx
  obtain ⟨mA, J, _⟩ := ins_get I.hok ha
  obtain ⟨od, J, _⟩ := J.look
  obtain ⟨m', hF⟩ := I.fr
  refine PySem.W.ksp_inv hF I.ok.mod.kin J m.at_ m.fn (wpAny_mono (run_own (vs := [V.ref a]) F hr hb (hx σ) I (.cons rfl .nil) h) (fun v s' hv => ?_) fun _ _ e => e)
  cases v <;> first | exact hv.elim | exact hv
theorem op_own2 (o : Ops X.K C) (m : Meth X.K C (PySem.dunder op.info.2) f) (F : FnOk X.prog X.w X.K X.mg X.base CX n f fd ps sp) (hr : Room n X.A) (hb : Binds X.K fd ps []) (hx : ∀ σ, PassesAt CX X σ (E σ)) : OpS X (binaryOp op) (rOwn2 C sp E) := by
  intro pins s σ H x y v u Q I rx ry h
  obtain ⟨a, dx, fs, b, dy, gs, rfl, ha, rfl, hb', h⟩ := h
  cases rx
  cases ry
  obtain ⟨mA, J, _⟩ := ins_get I.hok ha
  obtain ⟨od, J, _⟩ := J.look
  obtain ⟨mB, J', _⟩ := ins_get I.hok hb'
  obtain ⟨od', J', _⟩ := J'.look
  obtain ⟨m', hF⟩ := I.fr
  exact PySem.W.binop_K hF I.ok.mod.kin J J'.type o.first m.at_ m.fn (run_own (vs := [V.ref a, V.ref b]) F hr hb (hx σ) I (.cons rfl (.cons rfl .nil)) h)
theorem op_ownI {rc : Option Value} {fo ro : Option Value} (o : Ops X.K C) (m : Meth X.K C (PySem.dunder op.info.2) f) (hrc : PySem.W.findIn X.K (.ref C) (dunderR op.info.2) = some rc) (hp : rc = none ∨ ∃ g : Addr, rc = some (.ref g))
    (h1 : PySem.W.findIn X.K (.type "int") (PySem.dunder op.info.2) = some fo) (h2 : PySem.W.findIn X.K (.type "int") (dunderR op.info.2) = some ro)
    (F : FnOk X.prog X.w X.K X.mg X.base CX n f fd ps sp) (hr : Room n X.A) (hb : Binds X.K fd ps []) (hx : ∀ σ, PassesAt CX X σ (E σ)) : OpS X (binaryOp op) (rOwnI C sp E) := by
  intro pins s σ H x y v u Q I rx ry h
  obtain ⟨a, dx, fs, i, rfl, ha, rfl, h⟩ := h
  cases rx
  obtain ⟨t, rfl⟩ := (show ∃ t, u = Value.int i t from ry)
  obtain ⟨mA, J, _⟩ := ins_get I.hok ha
  obtain ⟨od, J, _⟩ := J.look
  obtain ⟨m', hF⟩ := I.fr
  exact PySem.W.ksp_binT hF I.ok.mod.kin J rfl o.first m.at_ m.fn hrc hp h1 h2 o.sub (run_own (vs := [V.ref a, V.int i]) F hr hb (hx σ) I (.cons rfl (.cons ⟨t, rfl⟩ .nil)) h)
end
section
variable {X : Cx} {CX : CXT} {pins : List (Addr × Obj)} {σ : L2.St} {H : Hp} {s : Shared} {f C : Addr} {fd : FuncData} {ps : List Str} {n : Nat} {sp : Sp}
/-- .. called from a place A below the running body -/
theorem run_ownA {A : Around} {E : XK} {Q : VK} {us : List Value} {vs : List V} (F : FnOk X.prog X.w X.K X.mg X.base CX n f fd ps sp) (hr : Room n A) (hf : A.frames = X.A.frames) (hb : Binds X.K fd ps []) (hx : PassesAt CX X σ E)
    (I : Inv X pins σ H s) (r : Vals vs us) (h : sp vs H Q E) : wpAny (model X.prog X.w) A (call (.ref f) us) (EP X pins σ Q) X.xe s := by
  have hl : us.length = ps.length := by rw [← r.length]; exact F.len _ _ _ _ h
  have b := hb s us I.kIn (by rw [List.append_nil]; exact hl)
  rw [List.append_nil] at b
  have e0 : Env0 X.prog X.w X.K X.mg X.base A X.stack s H := by
    have e := I.env0
    exact ⟨by rw [hf]; exact e.frames, e.mod, e.bs, e.bsz, e.funs, e.frf, e.hok, e.bare⟩
  refine wpAny_call (codeAny_mono (F.run A X.stack s H ⟨us, []⟩ us vs Q E hr e0 b r h) fun r s' hq => ?_)
  cases r with
  | error e => exact hx pins H s e s' I hq
  | ok fl =>
    cases fl with
    | ret u => exact I.after hq
    | next => exact False.elim hq
    | brk => exact False.elim hq
    | cont => exact False.elim hq
theorem ty_looks {x : V} {u t : Value} (I : Inv X pins σ H s) (rx : RelV x u) (ty : TyX X.K H x t) : PySem.W.Looks (model X.prog X.w) s.heap (typeOf u) t := by
  obtain ⟨P, kx, hp, _⟩ := kit_of I rx ty
  exact kx.ty _ _ I.kIn hp
end
/-- x an object of the class at C, y of any known type -/
def rOwnC (K : PySem.W.Frag) (C : Addr) (sp : Sp) (E : L2.St → XK) (σ : L2.St) : R2 := fun x y H Q => ∃ a dx fs tb, x = .ref a ∧ H a = some (.ins C dx fs) ∧ TyX K H y tb ∧ PySem.W.notFirst K C tb = true ∧ sp [x, y] H Q (E σ)
/-- not ==: the other answer -/
def rOwnN (K : PySem.W.Frag) (C : Addr) (sp : Sp) (E : L2.St → XK) (σ : L2.St) : R2 := fun x y H Q => ∃ a dx fs tb, x = .ref a ∧ H a = some (.ins C dx fs) ∧ TyX K H y tb ∧ PySem.W.notFirst K C tb = true ∧ sp [x, y] H (fun v H' => ∃ b, v = .bl b ∧ Q (.bl (!b)) H') (E σ)
/-- y in x, x an object of the class at C -/
def rOwnIn (C : Addr) (sp : Sp) (E : L2.St → XK) (σ : L2.St) : R2 := fun y x H Q => ∃ a dx fs, x = .ref a ∧ H a = some (.ins C dx fs) ∧ sp [x, y] H (fun v H' => ∃ b, v = .bl b ∧ Q (.bl b) H') (E σ)
section
variable {X : Cx} {CX : CXT} {f C : Addr} {fd : FuncData} {ps : List Str} {n : Nat} {sp : Sp} {E : L2.St → XK} {a b : Expr} {ta tb : TE} {pos : Pos}
theorem pe_cmpS {op : CmpOp} {r : L2.St → R2} (ho : OpS X (compareOp op) r) (ha : PE X a ta) (hb : PE X b tb) (hm : behindInMarks op b = false) : PE X (.Compare a [op] [b] pos) (tOpS r ta tb) := by
  refine ⟨fun pins s σ H Q I h => ?_⟩
  exact wpAny_Compare1 (binT ha hb I h fun v u s2 x y H2 I2 rx ry q => ho pins s2 σ H2 x y v u Q I2 rx ry q) hm
theorem pt_cmpS {op : CmpOp} {r : L2.St → R2} (ho : OpS X (compareOp op) r) (ha : PE X a ta) (hb : PE X b tb) (hm : behindInMarks op b = false) : PT X (.Compare a [op] [b] pos) (tTest (tOpS r ta tb)) := by
  refine ⟨fun pins s σ H Q I h => ?_⟩
  refine wpAny_isTrue_Compare1 (thn (ha.run pins s σ H _ I h) fun v s1 ⟨x, H1, I1, r1, q1⟩ => thn (hb.run pins s1 σ H1 _ I1 q1) fun u s2 ⟨y, H2, I2, r2, q2⟩ =>
    thn (ho pins s2 σ H2 x y v u _ I2 r1 r2 q2) fun c s3 ⟨z, H3, I3, r3, k, e, q3⟩ => ?_) hm
  subst e
  cases r3
  exact wpAny_truthy_bool ⟨H3, I3, q3⟩
theorem op_ownC {K : PySem.W.Frag} {op : CmpOp} (hop : ∀ v u, compareOp op v u = richCompare op v u) (m : Meth X.K C (cmpInfo op).2.1 f) (F : FnOk X.prog X.w X.K X.mg X.base CX n f fd ps sp) (hr : Room n X.A) (hb : Binds X.K fd ps []) (hx : ∀ σ, PassesAt CX X σ (E σ))
    (hk : X.K = K := by rfl) : OpS X (compareOp op) (rOwnC K C sp E) := by
  subst hk
  intro pins s σ H x y v u Q I rx ry h
  obtain ⟨a, dx, fs, tb, rfl, ha, ty, nf, h⟩ := h
  cases rx
  obtain ⟨mA, J, _⟩ := ins_get I.hok ha
  obtain ⟨od, J, _⟩ := J.look
  obtain ⟨m', hF⟩ := I.fr
  rw [hop]
  exact PySem.W.cmp_K hr.units0 hF I.ok.mod.kin J (ty_looks I ry ty) nf m.at_ m.fn (run_own (vs := [V.ref a, y]) F hr hb (hx σ) I (.cons rfl (.cons ry .nil)) h)
/-- len of an object with an own __len__ -/
def rOwnLen (C : Addr) (sp : Sp) (E : XK) : List V → Hp → VK → Prop := fun xs H Q => ∃ a dx fs, xs = [.ref a] ∧ H a = some (.ins C dx fs) ∧ sp [.ref a] H (fun v H' => ∃ i : Int, v = .int i ∧ (0 ≤ i ∧ i < 2 ^ 63) ∧ Q (.int i) H') E
theorem call_lenO {E : XK} (m : Meth X.K C "__len__" f) (F : FnOk X.prog X.w X.K X.mg X.base CX n f fd ps sp) (hr : Room (n + 1) X.A) (hb : Binds X.K fd ps []) (hx : ∀ σ, PassesAt CX X σ E) : CallR X (.builtin "len") (rOwnLen C sp E) := by
  intro pins s σ H xs us Q I r h
  obtain ⟨a, dx, fs, rfl, ha, h⟩ := h
  obtain ⟨u, rfl, rx⟩ := vals1 r
  cases rx
  obtain ⟨mA, J, _⟩ := ins_get I.hok ha
  obtain ⟨od, J, _⟩ := J.look
  obtain ⟨m', hF⟩ := I.fr
  refine PySem.W.len_K hF I.ok.mod.kin J m.at_ m.fn (wpAny_mono (run_ownA (vs := [V.ref a]) F hr.in1 rfl hb (hx σ) I (.cons rfl .nil) h) (fun v s' hv => ?_) fun _ _ e => e)
  obtain ⟨z, H', I', rv, i, rfl, hi, q⟩ := hv
  obtain ⟨t, rfl⟩ := (show ∃ t, v = Value.int i t from rv)
  exact ⟨hi, ⟨.int i, H', I'.tok _, ⟨_, rfl⟩, q⟩⟩
theorem op_ownIn (m : Meth X.K C "__contains__" f) (F : FnOk X.prog X.w X.K X.mg X.base CX n f fd ps sp) (hr : Room n X.A) (hb : Binds X.K fd ps []) (hx : ∀ σ, PassesAt CX X σ (E σ)) : OpS X (compareOp .In) (rOwnIn C sp E) := by
  intro pins s σ H y x u v Q I ry rx h
  obtain ⟨a, dx, fs, rfl, ha, h⟩ := h
  cases rx
  obtain ⟨mA, J, _⟩ := ins_get I.hok ha
  obtain ⟨od, J, _⟩ := J.look
  have hX := I.kIn
  have one := run_own (vs := [V.ref a, y]) F hr hb (hx σ) I (.cons rfl (.cons ry .nil)) h
  show wpAny _ _ (do return Value.bool (← contains (.ref a) u)) _ X.xe s
  refine wpAny_bind ?_
  unfold contains
  refine wpAny_holding ?_
  refine wpAny_bind (wpAny_bind (J.type.here ((PySem.W.looks_findIn hX m.at_).here ?_)))
  show wpAny _ _ (if (some (Value.ref f) == some Value.none) = true then _ else _) _ X.xe s
  rw [if_neg (by simp)]
  unfold callSpecialUnlessNone?
  refine wpAny_bind (wpAny_bind (wpAny_bind (J.type.here ((PySem.W.looks_findIn hX m.at_).here ?_))))
  refine wpAny_holding (wpAny_bind ((PySem.W.bind_fn hX _ (beq_iff_eq.mp m.fn)).here ?_))
  show wpAny _ _ (if (Value.ref f == Value.none) = true then _ else _) _ X.xe s
  rw [if_neg (by simp)]
  refine wpAny_bind (wpAny_mono one (fun z s' hz => ?_) fun _ _ e => e)
  have hz' : (EP X pins σ fun v H' => ∃ b, v = .bl b ∧ Q (.bl b) H') z s' := by
    cases z <;> first | exact hz.elim | exact hz
  obtain ⟨v, H', I', rv, b, rfl, q⟩ := hz'
  cases (show z = Value.bool b from rv)
  refine wpAny_pure ?_
  exact wpAny_truthy_bool (wpAny_pure ⟨.bl b, H', I', rfl, q⟩)
end
/-! ### x op= y for classes without the in-place method -/
section
variable {prog : Program} {w : World} {A : Around} {R : Value → Shared → Prop} {s : Shared} {K : PySem.W.Frag} {x C f : Addr} {ox : Obj} {od : Option Obj} {y : Value} {nm : String}
/-- the first class of a class at C is the class itself -/
theorem mro_first (hc : PySem.W.selfFirst K C = true) : ∃ (d : ClassData) (r : List Value), PySem.W.clsIn K C = some d ∧ d.mro = .ref C :: r := by
  obtain ⟨d, hd, e⟩ := PySem.W.any_some hc
  cases q : d.mro with
  | nil => rw [q] at e; cases e
  | cons u r =>
    rw [q] at e
    cases (beq_iff_eq.mp e)
    exact ⟨d, r, hd, q⟩
theorem bin1_own {Q : Option Value → Shared → Prop} (X : K.In s.heap) (I : PySem.W.InstAt s.heap x ox C od) (hy : PySem.W.Looks (model prog w) s.heap (typeOf y) (.ref C)) (hc : PySem.W.selfFirst K C = true)
    (hs : PySem.W.findIn K (.ref C) (PySem.dunder nm) = some (some (.ref f))) (hf : PySem.W.isFn K (.ref f) = true) (h : wpAny (model prog w) A (call (.ref f) [.ref x, y]) (PySem.W.CmpBack fun v => Q (some v)) R s) :
    wpAny (model prog w) A (binaryOp1 nm (.ref x) y) Q R s := by
  obtain ⟨d, r, hd, hm⟩ := mro_first hc
  have fl := PySem.W.fills_K (M := model prog w) X hd hm hs
  unfold binaryOp1
  refine wpAny_bind (I.type.here ?_)
  refine wpAny_bind (hy.here ?_)
  refine wpAny_bind (fl.here ?_)
  simp only [beq_self_eq_true, if_true]
  refine wpAny_bind (wpAny_pure ?_)
  simp only [Bool.and_false, Bool.false_and, Bool.false_eq_true, if_false]
  refine wpAny_bind (wpAny_pure ?_)
  simp only [Bool.false_eq_true, if_false]
  refine wpAny_bind (m := tryMethod (.ref x) _ y) ?_
  unfold tryMethod
  refine wpAny_bind ?_
  refine PySem.W.special_fn X I hs (beq_iff_eq.mp hf) (wpAny_mono h (fun v t hv => ?_) fun _ _ z => z)
  cases v <;> first | exact hv.elim | exact wpAny_pure (wpAny_pure hv)
theorem no_inplace {M : Model} {h : Heap} {add : Bool} (X : K.In h) {d : ClassData} (hd : PySem.W.clsIn K C = some d) (hm : d.mro = [.ref C, .type "object"]) (hc : PySem.W.findIn K (.ref C) (dunderI nm) = some none)
    (ho : PySem.W.findIn K (.type "object") (dunderI nm) = some none) : PySem.W.Looks M h (fillsInplaceSlot (.ref C) nm add) false := by
  intro A Q E s k q
  have Lm : PySem.W.Looks M h (mroOf (.ref C)) d.mro := (PySem.W.looks_clsIn X hd).andThen (f := fun d => pure d.mro) .now
  have X' : K.In s.heap := X.keeps k
  have L1 : PySem.W.Looks M s.heap (typeLookup (.ref C) (dunderI nm)) none := PySem.W.looks_findIn X' hc
  have L2 : PySem.W.Looks M s.heap (typeLookup (.type "object") (dunderI nm)) none := PySem.W.looks_findIn X' ho
  unfold fillsInplaceSlot
  refine wpAny_bind ((Lm.keeps k).here ?_)
  rw [hm, List.anyM_cons]
  refine wpAny_bind (wpAny_bind (L1.here (wpAny_pure ?_)))
  simp only [Bool.false_eq_true, if_false]
  rw [List.anyM_cons]
  refine wpAny_bind (wpAny_bind (L2.here (wpAny_pure ?_)))
  simp only [Bool.false_eq_true, if_false]
  exact wpAny_pure q
theorem inplace_by {op : Operator} {Q : Value → Shared → Prop} (I : PySem.W.InstAt s.heap x ox C od) (L : PySem.W.Looks (model prog w) s.heap (fillsInplaceSlot (.ref C) op.info.2 (op == .Add)) false)
    (h : wpAny (model prog w) A (binaryOp1 op.info.2 (.ref x) y) (fun r t => ∃ v, r = some v ∧ Q v t) R s) : wpAny (model prog w) A (inplaceOp op (.ref x) y) Q R s := by
  unfold inplaceOp
  refine wpAny_holding ?_
  refine wpAny_bind (I.type.here ?_)
  refine wpAny_bind (L.here ?_)
  simp only [Bool.false_eq_true, if_false]
  refine wpAny_bind (wpAny_mono h (fun r t hr => ?_) fun _ _ z => z)
  obtain ⟨v, rfl, q⟩ := hr
  exact wpAny_pure q
theorem bin1_int {i : Int} {t : Tok} {Q : Option Value → Shared → Prop} {rc fo ro : Option Value} (X : K.In s.heap) (I : PySem.W.InstAt s.heap x ox C od) (hc : PySem.W.selfFirst K C = true)
    (hs : PySem.W.findIn K (.ref C) (PySem.dunder nm) = some (some (.ref f))) (hf : PySem.W.isFn K (.ref f) = true) (hr : PySem.W.findIn K (.ref C) (dunderR nm) = some rc) (hp : rc = none ∨ ∃ g : Addr, rc = some (.ref g))
    (h1 : PySem.W.findIn K (.type "int") (PySem.dunder nm) = some fo) (h2 : PySem.W.findIn K (.type "int") (dunderR nm) = some ro) (hsub : PySem.W.subIn K (.type "int") (.ref C) = some false)
    (h : wpAny (model prog w) A (call (.ref f) [.ref x, .int i t]) (PySem.W.CmpBack fun v => Q (some v)) R s) : wpAny (model prog w) A (binaryOp1 nm (.ref x) (.int i t)) Q R s := by
  obtain ⟨d, r, hd, hm⟩ := mro_first hc
  have la : PySem.W.Looks (model prog w) s.heap (fillsNumberSlot (.ref C) nm) true := PySem.W.fills_K X hd hm hs
  have lb : PySem.W.Looks (model prog w) s.heap (fillsNumberSlot (.type "int") nm) ((fo.isSome && !isSeqSlot fo) || (ro.isSome && !isSeqSlot ro)) := PySem.W.ksp_fillsT X h1 h2
  have ls : PySem.W.Looks (model prog w) s.heap (isSubtype (.type "int") (.ref C)) false := PySem.W.looks_subIn X hsub
  have lp : PySem.W.Looks (model prog w) s.heap (numberSlotInPython (.ref C) nm) true := PySem.W.ksp_inPy X hs hr hp
  have lq : PySem.W.Looks (model prog w) s.heap (numberSlotInPython (.type "int") nm) false := PySem.W.Looks.of_pure rfl
  have lt : PySem.W.Looks (model prog w) s.heap (typeLookup (.type "int") (dunderR nm)) ro := PySem.W.looks_findIn X h2
  have ly : PySem.W.Looks (model prog w) s.heap (typeOf (.int i t)) (.type "int") := PySem.W.Looks.of_pure rfl
  generalize ((fo.isSome && !isSeqSlot fo) || (ro.isSome && !isSeqSlot ro)) = right at lb
  have ne : (Value.ref C == Value.type "int") = false := by simp
  have one : wpAny (model prog w) A (tryMethod (.ref x) (PySem.dunder nm) (.int i t)) (fun r s' => ∃ v, r = some v ∧ Q (some v) s') R s := by
    unfold tryMethod
    refine wpAny_bind (PySem.W.special_fn X I hs (beq_iff_eq.mp hf) (wpAny_mono h (fun v s' hv => ?_) fun _ _ z => z))
    cases v <;> first | exact hv.elim | exact wpAny_pure ⟨_, rfl, hv⟩
  unfold binaryOp1
  refine wpAny_bind (I.type.here ?_)
  refine wpAny_bind (ly.here ?_)
  refine wpAny_bind (la.here ?_)
  simp only [ne, Bool.false_eq_true, if_false]
  refine wpAny_bind (lb.here ?_)
  cases right with
  | false =>
    simp only [Bool.and_false, Bool.false_and, Bool.false_eq_true, if_false, if_true]
    refine wpAny_bind (wpAny_pure ?_)
    simp only [Bool.false_eq_true, if_false]
    refine wpAny_bind (wpAny_mono one (fun r s' hr' => ?_) fun _ _ z => z)
    obtain ⟨v, rfl, q⟩ := hr'
    exact wpAny_pure q
  | true =>
    simp only [Bool.and_true, Bool.not_false, if_true]
    refine wpAny_bind (ls.here ?_)
    simp only [Bool.false_eq_true, if_false]
    refine wpAny_bind (lp.here ?_)
    simp only [if_true]
    refine wpAny_bind (lq.here ?_)
    simp only [Bool.not_false, if_true]
    refine wpAny_bind (lt.here ?_)
    refine wpAny_bind (wpAny_mono one (fun r s' hr' => ?_) fun _ _ z => z)
    obtain ⟨v, rfl, q⟩ := hr'
    exact wpAny_pure q
end
/-- what a class without in-place methods has -/
structure NoIn (K : PySem.W.Frag) (C : Addr) (d : ClassData) : Prop where
  at_ : PySem.W.clsIn K C = some d
  mro : d.mro = [.ref C, .type "object"]
section
variable {X : Cx} {CX : CXT} {f C : Addr} {fd : FuncData} {ps : List Str} {n : Nat} {sp : Sp} {E : XK} {op : Operator} {d : ClassData}
theorem ip_own2 (o : Ops X.K C) (ni : NoIn X.K C d) (m : Meth X.K C (PySem.dunder op.info.2) f) (h1 : PySem.W.findIn X.K (.ref C) (dunderI op.info.2) = some none) (h2 : PySem.W.findIn X.K (.type "object") (dunderI op.info.2) = some none)
    (F : FnOk X.prog X.w X.K X.mg X.base CX n f fd ps sp) (hr : Room n X.A) (hb : Binds X.K fd ps []) (hx : ∀ σ, PassesAt CX X σ E) : OpR X (inplaceOp op) (rOwn2 C sp (fun _ => E) []) := by
  intro pins s σ H x y v u Q I rx ry h
  obtain ⟨a, dx, fs, b, dy, gs, rfl, ha, rfl, hb', h⟩ := h
  cases rx
  cases ry
  obtain ⟨mA, J, _⟩ := ins_get I.hok ha
  obtain ⟨od, J, _⟩ := J.look
  obtain ⟨mB, J', _⟩ := ins_get I.hok hb'
  obtain ⟨od', J', _⟩ := J'.look
  refine inplace_by J (no_inplace I.kIn ni.at_ ni.mro h1 h2) (bin1_own I.kIn J J'.type o.first m.at_ m.fn (wpAny_mono (run_own (vs := [V.ref a, V.ref b]) F hr hb (hx σ) I (.cons rfl (.cons rfl .nil)) h) (fun v s' hv => ?_) fun _ _ e => e))
  cases v <;> first | exact hv.elim | exact ⟨_, rfl, hv⟩
theorem ip_ownI {rc fo ro : Option Value} (o : Ops X.K C) (ni : NoIn X.K C d) (m : Meth X.K C (PySem.dunder op.info.2) f) (hi1 : PySem.W.findIn X.K (.ref C) (dunderI op.info.2) = some none) (hi2 : PySem.W.findIn X.K (.type "object") (dunderI op.info.2) = some none)
    (hrc : PySem.W.findIn X.K (.ref C) (dunderR op.info.2) = some rc) (hp : rc = none ∨ ∃ g : Addr, rc = some (.ref g)) (h1 : PySem.W.findIn X.K (.type "int") (PySem.dunder op.info.2) = some fo) (h2 : PySem.W.findIn X.K (.type "int") (dunderR op.info.2) = some ro)
    (F : FnOk X.prog X.w X.K X.mg X.base CX n f fd ps sp) (hr : Room n X.A) (hb : Binds X.K fd ps []) (hx : ∀ σ, PassesAt CX X σ E) : OpR X (inplaceOp op) (rOwnI C sp (fun _ => E) []) := by
  intro pins s σ H x y v u Q I rx ry h
  obtain ⟨a, dx, fs, i, rfl, ha, rfl, h⟩ := h
  cases rx
  obtain ⟨t, rfl⟩ := (show ∃ t, u = Value.int i t from ry)
  obtain ⟨mA, J, _⟩ := ins_get I.hok ha
  obtain ⟨od, J, _⟩ := J.look
  refine inplace_by J (no_inplace I.kIn ni.at_ ni.mro hi1 hi2) (bin1_int I.kIn J o.first m.at_ m.fn hrc hp h1 h2 o.sub (wpAny_mono (run_own (vs := [V.ref a, V.int i]) F hr hb (hx σ) I (.cons rfl (.cons ⟨t, rfl⟩ .nil)) h) (fun v s' hv => ?_) fun _ _ e => e))
  cases v <;> first | exact hv.elim | exact ⟨_, rfl, hv⟩
end
theorem pAt {X : Cx} {CX : CXT} {E : XK} (h : Passes CX X E) : ∀ σ : L2.St, PassesAt CX X σ E := fun σ pins H s e s' I c => h pins σ H s e s' I c
/-- what a binary operator with an int on the right asks of the class at C -/
structure IntOp (K : PySem.W.Frag) (C : Addr) (nm : String) : Prop where
  rc : ∃ rc, PySem.W.findIn K (.ref C) (dunderR nm) = some rc ∧ (rc = none ∨ ∃ g : Addr, rc = some (.ref g))
  lo : ∃ fo, PySem.W.findIn K (.type "int") (PySem.dunder nm) = some fo
  ro : ∃ ro, PySem.W.findIn K (.type "int") (dunderR nm) = some ro
section
variable {X : Cx} {CX : CXT} {f C : Addr} {fd : FuncData} {ps : List Str} {n : Nat} {sp : Sp} {op : Operator}
theorem op_ownJ {E : L2.St → XK} (o : Ops X.K C) (m : Meth X.K C (PySem.dunder op.info.2) f) (j : IntOp X.K C op.info.2) (F : FnOk X.prog X.w X.K X.mg X.base CX n f fd ps sp) (hr : Room n X.A) (hb : Binds X.K fd ps []) (hx : ∀ σ, PassesAt CX X σ (E σ)) :
    OpS X (binaryOp op) (rOwnI C sp E) := by
  obtain ⟨⟨rc, h1, h2⟩, ⟨fo, h3⟩, ⟨ro, h4⟩⟩ := j
  exact op_ownI o m h1 h2 h3 h4 F hr hb hx
theorem ip_ownK {E : XK} (o : Ops X.K C) (ni : ∃ d, NoIn X.K C d) (m : Meth X.K C (PySem.dunder op.info.2) f) (h : PySem.W.findIn X.K (.ref C) (dunderI op.info.2) = some none ∧ PySem.W.findIn X.K (.type "object") (dunderI op.info.2) = some none)
    (F : FnOk X.prog X.w X.K X.mg X.base CX n f fd ps sp) (hr : Room n X.A) (hb : Binds X.K fd ps []) (hx : ∀ σ, PassesAt CX X σ E) : OpR X (inplaceOp op) (rOwn2 C sp (fun _ => E) []) := by
  obtain ⟨d, ni⟩ := ni
  exact ip_own2 o ni m h.1 h.2 F hr hb hx
theorem ip_ownJ {E : XK} (o : Ops X.K C) (ni : ∃ d, NoIn X.K C d) (m : Meth X.K C (PySem.dunder op.info.2) f) (j : IntOp X.K C op.info.2) (h : PySem.W.findIn X.K (.ref C) (dunderI op.info.2) = some none ∧ PySem.W.findIn X.K (.type "object") (dunderI op.info.2) = some none)
    (F : FnOk X.prog X.w X.K X.mg X.base CX n f fd ps sp) (hr : Room n X.A) (hb : Binds X.K fd ps []) (hx : ∀ σ, PassesAt CX X σ E) : OpR X (inplaceOp op) (rOwnI C sp (fun _ => E) []) := by
  obtain ⟨d, ni⟩ := ni
  obtain ⟨⟨rc, h1, h2⟩, ⟨fo, h3⟩, ⟨ro, h4⟩⟩ := j
  exact ip_ownI o ni m h.1 h.2 h1 h2 h3 h4 F hr hb hx
end

/-! ### try with several except clauses, each with a name or without -/
def endsA (D : Ends) : Option Nat → Ends
  | none => D
  | some i => { nx := fun σ H => D.nx (σ.set i none) H, rt := D.rt, bk := fun σ H => D.bk (σ.set i none) H, ct := fun σ H => D.ct (σ.set i none) H }
def putA (σ : L2.St) (a : Addr) : Option Nat → L2.St
  | none => σ
  | some i => σ.set i (some (.ref a))
abbrev Clause := Value × Option Nat × (Addr → Value → Option Addr → TS)
/-- what the clauses wish of what the body raises, one behind another -/
def wMas (K : PySem.W.Frag) (Wo : WX) (D : Ends) : List Clause → WX
  | [] => Wo
  | q :: r => fun cls d σ H => ∃ b, PySem.W.exmOne K cls q.1 = some b ∧ (b = true → ∀ a, H a = none → q.2.2 a cls d (endsA D q.2.1) (putA σ a q.2.1) H) ∧ (b = false → wMas K Wo D r cls d σ H)
inductive Clauses (X : Cx) : List ExceptHandler → List Clause → Prop
  | nil : Clauses X [] []
  | bare {x : Str} {c : Value} {ts : Addr → Value → Option Addr → TS} {s0 : Stmt} {sr : List Stmt} {p p' : Pos} {hs : List ExceptHandler} {l : List Clause} (hc : Names X x c)
      (hb : ∀ (a : Addr) (oe : Obj) (cls : Value) (d : Option Addr) (pn : List (Addr × Obj)), Zc cls d oe → (∃ vs, oe.data = .fields vs) → PSs (X.suite a ((a, oe) :: pn)) (s0 :: sr) (ts a cls d)) (r : Clauses X hs l) :
      Clauses X (.ExceptHandler (some (.Name x p)) none (s0 :: sr) p' :: hs) ((c, none, ts) :: l)
  | named {x n : Str} {i : Nat} {c : Value} {ts : Addr → Value → Option Addr → TS} {s0 : Stmt} {sr : List Stmt} {p p' : Pos} {hs : List ExceptHandler} {l : List Clause} (hi : X.N[i]? = some n) (hl : X.env.kindOf n = some .local) (hc : Names X x c)
      (hb : ∀ (a : Addr) (oe : Obj) (cls : Value) (d : Option Addr) (pn : List (Addr × Obj)), Zc cls d oe → (∃ vs, oe.data = .fields vs) → PSs (X.suite a ((a, oe) :: pn)) (s0 :: sr) (ts a cls d)) (r : Clauses X hs l) :
      Clauses X (.ExceptHandler (some (.Name x p)) (some n) (s0 :: sr) p' :: hs) ((c, some i, ts) :: l)
section
open PySem.Spec PyProof.Rows
variable {X : Cx} {body : List Stmt} {h0 : ExceptHandler} {hs : List ExceptHandler} {l : List Clause} {pos : Pos} {tb : WX → TS} {Wo : WX}
theorem ps_try_mas (hst : X.stack = X.env :: X.outer) (hfm : X.env.frame = some X.env.locals) (hND : X.N.Nodup) (tk : Takes X Wo)
    (hbody : ∀ (W : WX) (pn : List (Addr × Obj)) (xe : Value → Shared → Prop), Takes (X.tr pn xe) W → PassesOwn (model X.prog X.w) X.A X.env xe → PSs (X.tr pn xe) body (tb W))
    (hcl : Clauses X (h0 :: hs) l) : PS X (.Try body (h0 :: hs) [] [] pos) (fun D σ H => tb (wMas X.K Wo D l) D σ H) := by
  refine ⟨fun pins s σ H D I hq => ?_⟩
  have okX := I.ok
  have frX : X.A.frames = some (X.env :: X.outer) := by rw [okX.frames, hst]
  let fly : Value → Shared → Prop := fun e s1 => wpAny (model X.prog X.w) X.A (noteFrame e X.env) (fun _ s2 => wpAny (model X.prog X.w) X.A (setFlight e none) (fun _ s3 => wpAny (model X.prog X.w) X.A (handleBy e X.env (h0 :: hs)) (SP X pins D) X.xe s3) X.xe s2) X.xe s1
  refine wpAny_Try_except (wpAny_mono ((hbody (wMas X.K Wo D l) (X.pn ++ pins) fly (fun u t flown => ?_) PassesOwn.looking).run [] s σ H D (I.toTry _) hq) (fun f t done => ?_) fun e t z => z)
  · obtain ⟨a, B, sI, pins', σ1, G, cls, d, rfl, J0, nb, up, sky, na, os, ag, wish⟩ := flown
    have J : Inv X pins σ1 G sI := J0.ofTry okX
    show wpAny (model X.prog X.w) X.A (noteFrame (.ref a) X.env) _ _ _
    refine Sky.land Zc.steady frX hfm (show Sky B (X.env :: X.outer) a (Zc cls d) X.env.locals t.heap by rw [← hst]; exact sky) fun g fl upg => ?_
    have Jg : Inv X pins σ1 G { t with heap := g } := J.landed nb fl.1 (up.trans upg) os ag
    obtain ⟨ob, vb, at_b, zc_b, da_b⟩ := fl.there
    have apart : ∀ {g' : Heap} {o : Obj} {us : Array Value}, g'.FunFrames B (X.env :: X.outer) → g'.get? a = some o → o.data = .fields us → a ∉ frs (X.env :: X.outer) := fun {g' o us} ff ea da hm => by
      obtain ⟨_, o2, e2, nf⟩ := ff.mem hm
      rw [ea] at e2
      cases e2
      exact nf _ da
    have out1 := apart fl.2.2.1 at_b da_b
    have out2 : a ≠ X.env.locals := fun z => out1 (List.mem_filterMap.mpr ⟨X.env, List.mem_cons_self, by rw [hfm, z]⟩)
    have out3 : a ∉ X.fs := fun hm => by
      obtain ⟨e, he, q⟩ := List.mem_filterMap.mp hm
      exact out1 (List.mem_filterMap.mpr ⟨e, List.mem_cons_of_mem _ he, q⟩)
    have Sb := Jg.suite at_b da_b na out2 out3
    have look : ∀ {x : Str} {c : Value} {p : Pos} {R : Value → Shared → Prop} {R' : Value → Shared → Prop}, Names X x c → R c { t with heap := g } → wpAny (model X.prog X.w) (X.A.mark (some (.ref a))) (eval (.Name x p) X.env) R R' { t with heap := g } := fun {x c p R R'} hc q => by
      obtain ⟨hg, hdb, hm | ⟨hm, hv, hn⟩⟩ := hc
      · exact ld_glob (X := X.suite a ((a, ob) :: (X.pn ++ pins))) Sb hg hm q hdb
      · exact ld_blt (X := X.suite a ((a, ob) :: (X.pn ++ pins))) Sb hg hm hv q hn hdb
    have kind : PySem.W.Looks (model X.prog X.w) g (typeOf (.ref a)) cls := fun A Q E s k q => wpAny_typeOf_ref (k _ _ at_b) (by rw [zc_b.1]; exact q)
    have each : ∀ {hs' : List ExceptHandler} {l' : List Clause}, Clauses X hs' l' → wMas X.K Wo D l' cls d σ1 G → wpAny (model X.prog X.w) X.A (handleBy (.ref a) X.env hs') (SP X pins D) X.xe { t with heap := g } := by
      intro hs' l' hk
      induction hk with
      | nil =>
        intro wi
        refine wpAny_handleBy_nil ?_
        obtain ⟨_, _, _, oe, ue, TB, oT, te, g1, g2, g3, g4, g5⟩ := id fl
        unfold PySem.passOn
        refine wpAny_bind (wpAny_field g1 g3 g4 ?_)
        rw [if_neg (show ¬ ((Value.ref TB == Value.none) = true) from by simp)]
        have away : wpAny (model X.prog X.w) X.A (setFlight (.ref a) X.env.frame) (fun _ s4 => wpAny (model X.prog X.w) X.A (throw (.ref a) : Sem Flow) (SP X pins D) X.xe s4) X.xe { t with heap := g } := by
          rw [hfm]
          refine HandSPX.setFlight_upZ fl fun k hk up4 => wpAny_throw (tk _ _ ?_)
          exact ⟨a, B, sI, pins, σ1, G, cls, d, rfl, J, nb, (up.trans upg).trans up4, .inr (.inr (by rw [hst]; exact hk)), na, os, ag, wi⟩
        first
          | exact wpAny_bind (wpAny_pure (wpAny_bind away))
          | exact wpAny_bind away
      | @bare x c ts s0 sr p p' hs2 l2 hc hb r ih =>
        intro wi
        obtain ⟨b, hb1, yes, no⟩ := wi
        refine wpAny_handleBy_cons (codeAny_handlers_test ?_) (by intro q; cases q)
        refine look hc ((PySem.W.exm_one (M := model X.prog X.w) Jg.kIn kind hb1).here ?_)
        cases b with
        | false => exact ih (no rfl)
        | true =>
          refine codeAny_handlers_suite (HandSPX.lands_againZ fl fun k fl4 up4 => ?_)
          have J4 : Inv X pins σ1 G { t with heap := k } := J.landed nb fl4.1 ((up.trans upg).trans up4) os ag
          obtain ⟨o4, v4, e4, z4, d4⟩ := fl4.there
          refine wpAny_mono ((hb a o4 cls d (X.pn ++ pins) z4 ⟨_, d4⟩).run [] _ _ G _ (J4.suite e4 d4 na out2 out3) (yes rfl a na)) (fun f s6 r6 => ?_) (fun _ _ z => False.elim z)
          cases f with
          | ret u => obtain ⟨v6, σ6, H6, S6, rv, q6⟩ := r6; exact ⟨_, _, _, S6.unsuite okX, rv, q6⟩
          | next => obtain ⟨σ6, H6, S6, q6⟩ := r6; exact ⟨_, _, S6.unsuite okX, q6⟩
          | brk => obtain ⟨σ6, H6, S6, q6⟩ := r6; exact ⟨_, _, S6.unsuite okX, q6⟩
          | cont => obtain ⟨σ6, H6, S6, q6⟩ := r6; exact ⟨_, _, S6.unsuite okX, q6⟩
      | @named x n i c ts s0 sr p p' hs2 l2 hi hl hc hb r ih =>
        intro wi
        obtain ⟨b, hb1, yes, no⟩ := wi
        refine wpAny_handleBy_cons (codeAny_handlers_test ?_) (by intro q; cases q)
        refine look hc ((PySem.W.exm_one (M := model X.prog X.w) Jg.kIn kind hb1).here ?_)
        cases b with
        | false => exact ih (no rfl)
        | true =>
          refine codeAny_handlers_suite_as (HandSPX.lands_againZ fl fun k fl4 up4 => ?_)
          have J4 : Inv X pins σ1 G { t with heap := k } := J.landed nb fl4.1 ((up.trans upg).trans up4) os ag
          obtain ⟨o4, v4, e4, z4, d4⟩ := fl4.there
          refine store_ok (X := X.suite a ((a, o4) :: (X.pn ++ pins))) (v := .ref a) (J4.suite e4 d4 na out2 out3) hND hi (.inl hl) rfl (fun s5 S5 => ?_) (.inr hl)
          refine wpAny_mono ((hb a o4 cls d (X.pn ++ pins) z4 ⟨_, d4⟩).run [] s5 _ G _ S5 (yes rfl a na)) (fun f s6 r6 => ?_) (fun _ _ z => False.elim z)
          have leave : ∀ {σ6 : L2.St} {H6 : Hp} {R : Shared → Prop}, Inv (X.suite a ((a, o4) :: (X.pn ++ pins))) [] σ6 H6 s6 → (∀ s7, Inv X pins (σ6.set i none) H6 s7 → R s7) → wpAny (model X.prog X.w) X.A (do bindName X.env n .none; unbindBehindTheSuite X.env n p') (fun _ s7 => R s7) X.xe s6 :=
            fun {σ6 H6 R} S6 hr => gone_ok (S6.unsuite okX) hND hi hl hr
          cases f with
          | ret u => obtain ⟨v6, σ6, H6, S6, rv, q6⟩ := r6; exact leave S6 fun s7 J7 => ⟨_, _, _, J7, rv, q6⟩
          | next => obtain ⟨σ6, H6, S6, q6⟩ := r6; exact leave S6 fun s7 J7 => ⟨_, _, J7, q6⟩
          | brk => obtain ⟨σ6, H6, S6, q6⟩ := r6; exact leave S6 fun s7 J7 => ⟨_, _, J7, q6⟩
          | cont => obtain ⟨σ6, H6, S6, q6⟩ := r6; exact leave S6 fun s7 J7 => ⟨_, _, J7, q6⟩
    exact each hcl wish
  · cases f with
    | ret u => obtain ⟨v, σ', G', J', rv, q⟩ := done; exact ⟨v, σ', G', J'.ofTry okX, rv, q⟩
    | next => obtain ⟨σ', G', J', q⟩ := done; exact wpAny_execs_nil ⟨σ', G', J'.ofTry okX, q⟩
    | brk => obtain ⟨σ', G', J', q⟩ := done; exact ⟨σ', G', J'.ofTry okX, q⟩
    | cont => obtain ⟨σ', G', J', q⟩ := done; exact ⟨σ', G', J'.ofTry okX, q⟩
end

/-! ### fractions -/
def CDivV (_ j : Int) : Prop := j ≠ 0 ∧ j.natAbs.log2 < 9000
theorem op_fdivV {X : Cx} : OpR X (binaryOp .FloorDiv) (rI CDivV fun i j => .int (i.fdiv j)) := opI fun _ _ _ _ _ _ _ hc q => PyProof.Rows.floordiv_int hc.1 q (.inl (PyProof.noPylong_of_log2 hc.2))
def tCallNS (n m : Nat) (sp : Sp) (gV : List V → List V → List V) (E : L2.St → XK) (t tk : TA) : TE := fun σ H Q => t σ H fun vs H1 => tk σ H1 fun zs H2 =>
  vs.length = n ∧ zs.length = m ∧ sp (gV vs zs) H2 Q (E σ)
section
open PySem.Spec PyProof.Rows
variable {X : Cx} {CX : CXT} {k n : Nat} {f : Addr} {fd : FuncData} {ps ks : List Str} {sp : Sp} {E : L2.St → XK} {x : Str} {p pos : Pos} {e : Expr} {es : List Expr} {kws : List Keyword} {t tk : TA} {g : List Value → List Value → List Value} {gV : List V → List V → List V}
/-- f(e, .., k = v, ..) within a try -/
theorem pe_callNS (F : FnOk X.prog X.w X.K X.mg X.base CX k f fd ps sp) (hr : Room k X.A) (hg : Gl X x) (hm : X.mg x = some (.ref f)) (hk : PySem.W.keepIn X.K (.ref f) = true) (hb : KBn X.K fd ps n ks g gV) (hx : ∀ σ, PassesAt CX X σ (E σ))
    (ha : PA X (e :: es) t) (hkw : PK X kws tk) (hall : (backToKw pos (keywordEach kws X.env)).all (·.1.isSome) = true := by rfl) (hks : (backToKw pos (keywordEach kws X.env)).filterMap (·.1) = ks := by rfl)
    (hdb : (x == ("__debug__" : Str)) = false := by decide) (he : starEach (e :: es) X.env = (false, eval e X.env) :: starEach es X.env := by rfl) (hpl : ((backTo pos (starEach (e :: es) X.env)).any (·.1) || (backToKw pos (keywordEach kws X.env)).any (·.1.isNone)) = false := by rfl) :
    PE X (.Call (.Name x p) (e :: es) kws pos) (tCallNS n ks.length sp gV E t tk) := by
  refine ⟨fun pins s σ H Q I h => wpAny_Call_Name_kw (ld_glob I hg hm ?_ hdb)⟩
  refine PySem.W.callWith_KW (h₀ := X.base) I.ok.mod.kin hk hall (thn (ha.run pos pins s σ H _ I h) fun us s1 hu => ?_) hpl he
  obtain ⟨vs, H1, I1, r, q⟩ := hu
  refine thn (hkw.run pos pins s1 σ H1 _ I1 q) fun ws s2 hw => ?_
  obtain ⟨zs, H2, I2, rz, l1, l2, q2⟩ := hw
  refine ⟨I2.kIn, ?_⟩
  rw [hks]
  have r2 := hb.rel r rz
  refine wpAny_call (codeAny_mono (F.run X.A X.stack s2 H2 ⟨us, ks.zip ws⟩ (g us ws) (gV vs zs) Q (E σ) hr I2.env0 (hb.to s2 us ws I2.kIn (r.length.symm.trans l1) (rz.length.symm.trans l2)) r2 q2) fun r s' hq => ?_)
  cases r with
  | error e => exact hx σ pins H2 s2 e s' I2 hq
  | ok fl => cases fl with
    | ret u => exact I2.after hq
    | next => exact hq.elim
    | brk => exact hq.elim
    | cont => exact hq.elim
end
/-- t / u is p / q in lowest terms -/
structure Low (p q t u : Int) : Prop where
  pos : 0 < u
  cop : Nat.gcd t.natAbs u.natAbs = 1
  eq : t * q = p * u
  lt : t.natAbs ≤ p.natAbs
  lu : u.natAbs ≤ q.natAbs
def gc (p q : Int) : Int := if q < 0 then -((Nat.gcd p.natAbs q.natAbs : Nat) : Int) else ((Nat.gcd p.natAbs q.natAbs : Nat) : Int)
theorem gc_dvd (p q : Int) : gc p q ∣ p ∧ gc p q ∣ q := by
  have h1 : ((Nat.gcd p.natAbs q.natAbs : Nat) : Int) ∣ p := Int.ofNat_dvd_left.mpr (Nat.gcd_dvd_left _ _)
  have h2 : ((Nat.gcd p.natAbs q.natAbs : Nat) : Int) ∣ q := Int.ofNat_dvd_left.mpr (Nat.gcd_dvd_right _ _)
  unfold gc
  split
  · exact ⟨Int.neg_dvd.mpr h1, Int.neg_dvd.mpr h2⟩
  · exact ⟨h1, h2⟩
theorem gc_abs (p q : Int) : (gc p q).natAbs = Nat.gcd p.natAbs q.natAbs := by
  unfold gc
  split <;> omega
theorem gc_ne {p q : Int} (h : q ≠ 0) : gc p q ≠ 0 := by
  have g0 : 0 < Nat.gcd p.natAbs q.natAbs := Nat.gcd_pos_of_pos_right _ (by omega)
  have := gc_abs p q
  intro z
  rw [z] at this
  simp at this
  omega
theorem gc_le {p q : Int} (h : q ≠ 0) : (gc p q).natAbs ≤ q.natAbs := by
  rw [gc_abs]
  exact Nat.le_of_dvd (by omega) (Nat.gcd_dvd_right _ _)
theorem low_gc {p q : Int} (h : q ≠ 0) : Low p q (p.fdiv (gc p q)) (q.fdiv (gc p q)) := by
  obtain ⟨⟨a, ha⟩, ⟨b, hb⟩⟩ := gc_dvd p q
  have g0 := gc_ne (p := p) h
  have e1 : p.fdiv (gc p q) = a := by
    conv => lhs; arg 1; rw [ha]
    exact Int.mul_fdiv_cancel_left a g0
  have e2 : q.fdiv (gc p q) = b := by
    conv => lhs; arg 1; rw [hb]
    exact Int.mul_fdiv_cancel_left b g0
  rw [e1, e2]
  have ga := gc_abs p q
  have gp : 0 < Nat.gcd p.natAbs q.natAbs := Nat.gcd_pos_of_pos_right _ (by omega)
  have na : p.natAbs = Nat.gcd p.natAbs q.natAbs * a.natAbs := by
    conv => lhs; rw [ha]
    rw [Int.natAbs_mul, ga]
  have nb : q.natAbs = Nat.gcd p.natAbs q.natAbs * b.natAbs := by
    conv => lhs; rw [hb]
    rw [Int.natAbs_mul, ga]
  refine ⟨?_, ?_, ?_, ?_, ?_⟩
  · by_cases hq : q < 0
    · have hg : gc p q < 0 := by unfold gc; rw [if_pos hq]; omega
      rcases Int.lt_trichotomy b 0 with hb0 | hb0 | hb0
      · have := Int.mul_pos_of_neg_of_neg hg hb0
        omega
      · rw [hb0] at hb; simp at hb; omega
      · exact hb0
    · have hg : 0 < gc p q := by unfold gc; rw [if_neg hq]; omega
      rcases Int.lt_trichotomy b 0 with hb0 | hb0 | hb0
      · have := Int.mul_neg_of_pos_of_neg hg hb0
        omega
      · rw [hb0] at hb; simp at hb; omega
      · exact hb0
  · have e : Nat.gcd p.natAbs q.natAbs * Nat.gcd a.natAbs b.natAbs = Nat.gcd p.natAbs q.natAbs * 1 := by
      rw [← Nat.gcd_mul_left, ← na, ← nb, Nat.mul_one]
    exact Nat.eq_of_mul_eq_mul_left gp e
  · conv => lhs; rw [hb]
    conv => rhs; rw [ha]
    rw [← Int.mul_assoc, Int.mul_comm a]
  · rw [na]; exact Nat.le_mul_of_pos_left _ gp
  · rw [nb]; exact Nat.le_mul_of_pos_left _ gp
def ratF (t u : Int) : List (Str × V) := [("top", .int t), ("under", .int u)]
theorem putR {y z : V} : putF "under" z (putF "top" y []) = [(("top" : Str), y), (("under" : Str), z)] := by
  have h : ¬ ("top" : Str) = "under" := by decide +kernel
  show (if ("top" : Str) = "under" then _ else (("top" : Str), y) :: putF "under" z []) = _
  rw [if_neg h]
  rfl
def RatAt (C : Addr) (v : V) (H : Hp) (t u : Int) : Prop := ∃ a dx, v = .ref a ∧ H a = some (.ins C dx (ratF t u))
theorem RatAt.ex {C : Addr} {v : V} {H H' : Hp} {t u : Int} (e : Ex H H') (h : RatAt C v H t u) : RatAt C v H' t u := by
  obtain ⟨a, dx, rfl, h⟩ := h
  exact ⟨a, dx, rfl, e _ _ h⟩
theorem ev_top {K : PySem.W.Frag} {C : Addr} {te : TE} {σ : L2.St} {H : Hp} {v : V} {t u : Int} (h : Ev te σ H v) (hv : RatAt C v H t u) (c : Cls K C) (na : NoAttr K C "top") : Ev (tFld K te "top") σ H (.int t) := fun H1 e Q q => by
  obtain ⟨a, dx, rfl, hi⟩ := hv
  exact h H1 e _ fun H2 e2 => ⟨a, _, dx, _, _, rfl, e2 _ _ (e _ _ hi), c, na, rfl, q H2 e2⟩
theorem ev_under {K : PySem.W.Frag} {C : Addr} {te : TE} {σ : L2.St} {H : Hp} {v : V} {t u : Int} (h : Ev te σ H v) (hv : RatAt C v H t u) (c : Cls K C) (na : NoAttr K C "under") : Ev (tFld K te "under") σ H (.int u) := fun H1 e Q q => by
  obtain ⟨a, dx, rfl, hi⟩ := hv
  exact h H1 e _ fun H2 e2 => ⟨a, _, dx, _, _, rfl, e2 _ _ (e _ _ hi), c, na, by rfl, q H2 e2⟩
theorem log_lt {z : Int} {b : Nat} (h : z.natAbs < 2 ^ b) (h0 : 0 < b) : z.natAbs.log2 < b := PySem.Flt.log2_lt_of h0 h

/-! ### an object made within a try -/
section
open PySem.Spec PyProof.Rows
variable {X : Cx} {CX : CXT} {k : Nat} {f C : Addr} {fd : FuncData} {ps : List Str} {sp : Sp} {dvs : List V} {ds : List Value} {E : L2.St → XK} {x : Str} {p pos : Pos} {e : Expr} {es : List Expr} {t : TA}
def tMakeS (C : Addr) (sp : Sp) (dvs : List V) (E : L2.St → XK) (t : TA) : TE := fun σ H Q => t σ H fun vs H1 => ∀ x dx, H1 x = none → H1 dx = none → dx ≠ x →
  sp (.ref x :: (vs ++ dvs)) (upd (upd H1 dx (.own x)) x (.ins C dx [])) (fun v H2 => v = .non ∧ Q (.ref x) H2) (E σ)
theorem pe_makeS (M : Mk X.K C f) (F : FnOk X.prog X.w X.K X.mg X.base CX k f fd ps sp) (hr : Room (k + 1) X.A) (hg : Gl X x) (hm : X.mg x = some (.ref C)) (hb : Binds X.K fd ps ds) (hd : Vals dvs ds) (hx : ∀ σ, PassesAt CX X σ (E σ))
    (ha : PA X (e :: es) t) (hdb : (x == ("__debug__" : Str)) = false := by decide) (he : starEach (e :: es) X.env = (false, eval e X.env) :: starEach es X.env := by rfl) (hpl : (backTo pos (starEach es X.env)).any (·.1) = false := by rfl) :
    PE X (.Call (.Name x p) (e :: es) [] pos) (tMakeS C sp dvs E t) := by
  refine ⟨fun pins s σ H Q I h => wpAny_Call_Name_kw (ld_glob I hg hm ?_ hdb)⟩
  refine PySem.W.callWith_K (h₀ := X.base) I.ok.mod.kin M.kp (thn (ha.run pos pins s σ H _ I h) fun us s1 hu => ?_) he hpl
  obtain ⟨vs, H1, J, r, q⟩ := hu
  refine ⟨J.kIn, ?_⟩
  have hq := q (s1.heap.objs.size + 1) s1.heap.objs.size (J.hok.fresh (Nat.le_succ _)) (J.hok.fresh (Nat.le_refl _)) (Nat.ne_of_lt (Nat.lt_succ_self _))
  have J2 := Inv.made (C := C) J
  have r2 : Vals (V.ref (s1.heap.objs.size + 1) :: (vs ++ dvs)) (Value.ref (s1.heap.objs.size + 1) :: (us ++ ds)) := .cons rfl (r.append hd)
  have hl : (Value.ref (s1.heap.objs.size + 1) :: us ++ ds).length = ps.length := by
    have e0 := r2.length
    rw [F.len _ _ _ _ hq] at e0
    exact e0.symm
  have go := F.run _ X.stack _ _ ⟨Value.ref (s1.heap.objs.size + 1) :: us, []⟩ (Value.ref (s1.heap.objs.size + 1) :: (us ++ ds)) _ _ (E σ) (hr.make C us []) (J2.env0.make C us []) (hb _ (Value.ref (s1.heap.objs.size + 1) :: us) J2.kIn hl) r2 hq
  refine wpAny_call (make_map (f := f) J.kIn M.makes M.init (beq_iff_eq.mp M.fn) (codeAny_mono go fun r3 s3 hq3 => ?_))
  cases r3 with
  | error e => exact hx σ pins _ _ e s3 J2 hq3
  | ok fl => cases fl with
    | ret u =>
      obtain ⟨v, H3, J3, rv, ev, q3⟩ := J2.after hq3
      subst ev
      exact ⟨rv, ⟨V.ref (s1.heap.objs.size + 1), H3, J3, rfl, q3⟩⟩
    | next => exact hq3.elim
    | brk => exact hq3.elim
    | cont => exact hq3.elim
end

/-! ### an int on the left, an own object on the right -/
section
open PySem.Spec PyProof.Rows
variable {prog : Program} {w : World} {A : Around} {E : Value → Shared → Prop} {s : Shared} {K : PySem.W.Frag}
theorem no_int {i : Int} {t : Tok} {a C dx : Addr} {f : Int → Int → Sem Fin} {nm : String} {Q : Fin → Shared → Prop} (hg : s.heap.get? a = some (PySem.W.instObj C dx)) (q : Q (.done (.ret .notImplemented)) s) :
    wpAny (model prog w) A (Builtin.Int.intBinary nm f false ⟨[.int i t, .ref a], []⟩) Q E s := by
  unfold Builtin.Int.intBinary
  refine wpAny_bind (wpAny_pure (wpAny_bind (wpAny_pure (wpAny_bind ?_))))
  unfold asInt?
  exact wpAny_bind (wpAny_load hg (wpAny_pure (wpAny_bind (wpAny_rule (wpAny_pure q)))))
theorem call_no {i : Int} {t : Tok} {a C dx : Addr} {f : Int → Int → Sem Fin} {nm id : String} {name : Str} {Q : Value → Shared → Prop} (slot : Slot "int" name id) (entry : entryFor table id = some (Builtin.Int.intBinary nm f false))
    (ha : argsOk id ⟨[.int i t, .ref a], []⟩) (hg : s.heap.get? a = some (PySem.W.instObj C dx)) (q : Q .notImplemented s) : wpAny (model prog w) A (call (.builtin id) [.int i t, .ref a]) Q E s :=
  wpAny_call_entry slot (typeIs_int s i t) entry (no_int hg ⟨_, rfl, q⟩) ha
open PySem.W in
/-- i op o: what int gives up, the class's reflected method tells -/
theorem binop_refl {op : Operator} {o C fr fl dx : Addr} {ox : Obj} {od : Option Obj} {i : Int} {t : Tok} {hb : Heap} {L : Addr} {m : Str → Option Value} {f : Int → Int → Sem Fin} {nb id : String} {Q : Value → Shared → Prop} (F : Fr hb L s.heap m) (Xb : K.In hb) (I : InstAt s.heap o ox C od)
    (hg : s.heap.get? o = some (instObj C dx)) (hc : selfFirst K C = true) (hl : findIn K (.ref C) (PySem.dunder op.info.2) = some (some (.ref fl))) (hs : findIn K (.ref C) (dunderR op.info.2) = some (some (.ref fr))) (hf : isFn K (.ref fr) = true)
    (hsub : subIn K (.ref C) (.type "int") = some false) (fills : fillsNumberSlot (.type "int") op.info.2 = pure true) (slot : Slot "int" (PySem.dunder op.info.2) id) (entry : entryFor table id = some (Builtin.Int.intBinary nb f false)) (ha : argsOk id ⟨[.int i t, .ref o], []⟩)
    (h : wpAny (model prog w) A (call (.ref fr) [.ref o, .int i t]) (PySem.W.CmpBack Q) E s) : wpAny (model prog w) A (binaryOp op (.int i t) (.ref o)) Q E s := by
  have X1 := Xb.keeps F.keep
  obtain ⟨kd, more, hkd, hkm⟩ := ksp_first hc
  rcases hi : op.info with ⟨sy, n2⟩
  rw [hi] at hs hl fills slot
  dsimp only at hs hl fills slot
  have two := ksp_try X1 I hs hf h
  have one : wpAny (model prog w) A (tryMethod (.int i t) (PySem.dunder n2) (.ref o)) (fun r s' => r = none ∧ s' = s) E s := wpAny_tryMethod_declines (typeIs_int s i t) slot (call_no slot entry ha hg ⟨rfl, rfl, rfl⟩)
  obtain ⟨h2, g2, d2, t2, o2⟩ := s
  have M1 : Looks (model prog w) h2 (typeOf (.ref o)) (.ref C) := I.type
  have M2 : Looks (model prog w) h2 (typeOf (.int i t)) (.type "int") := Looks.of_pure rfl
  have M3 : Looks (model prog w) h2 (fillsNumberSlot (.ref C) n2) true := fills_K X1 hkd hkm hl
  have M4 : Looks (model prog w) h2 (fillsNumberSlot (.type "int") n2) true := Looks.of_pure fills
  have M5 : Looks (model prog w) h2 (isSubtype (.ref C) (.type "int")) false := looks_subIn X1 hsub
  have M6 : Looks (model prog w) h2 (numberSlotInPython (.type "int") n2) false := Looks.of_pure rfl
  have unlike : (Value.type "int" == Value.ref C) = false := Bool.eq_false_iff.mpr fun z => by cases beq_iff_eq.mp z
  simp only [binaryOp, hi]
  refine wpAny_holding (wpAny_bind ?_)
  unfold binaryOp1
  refine wpAny_bind (M2.at (wpAny_bind (M1.at (wpAny_bind (M4.at ?_)))))
  simp only [unlike, Bool.false_eq_true, if_false]
  ksp_lk
  refine wpAny_mono one (fun r s' z => ?_) fun _ _ e => e
  obtain ⟨rfl, rfl⟩ := z
  ksp_lk
  refine wpAny_mono two (fun r s' z => ?_) fun _ _ e => e
  obtain ⟨v, rfl, q⟩ := z
  ksp_lk
  exact q
open PySem.Calls in
theorem abs_own {o C f : Addr} {ox : Obj} {od : Option Obj} {Q : Value → Shared → Prop} (X1 : K.In s.heap) (I : PySem.W.InstAt s.heap o ox C od) (hs : PySem.W.findIn K (.ref C) "__abs__" = some (some (.ref f))) (hf : PySem.W.isFn K (.ref f) = true)
    (h : wpAny (model prog w) A.in1 (call (.ref f) [.ref o]) Q E s) : wpAny (model prog w) A (call (.builtin "abs") [.ref o]) Q E s := by
  refine call_function_entry kind_abs plain_abs entry_abs (args_abs _) ?_
  unfold Builtin.«abs»
  refine wpAny_bind (m := PySem.oneArg "abs" _) (wpAny_pure ?_)
  exact wpAny_bind (m := callSpecial? (.ref o) (Str.ofString "__abs__")) (PySem.W.special_fn X1 I hs (beq_iff_eq.mp hf) (wpAny_mono h (fun r s' hr => wpAny_pure ⟨_, rfl, hr⟩) fun _ _ y => y))
end
/-- the int's side of an operator: the method that gives up -/
structure IntSide (op : Operator) : Prop where
  fills : fillsNumberSlot (.type "int") op.info.2 = pure true
  gives : ∃ (id nb : String) (f : Int → Int → Sem Fin), Slot "int" (PySem.dunder op.info.2) id ∧ entryFor table id = some (Builtin.Int.intBinary nb f false) ∧ ∀ a b, argsOk id ⟨[a, b], []⟩
theorem side_add : IntSide .Add := ⟨PySem.F.fills_int_add, "int.__add__", "__add__", _, PySem.F.slot_int_add, PySem.F.entry_int_add, PySem.F.args_int_add_2⟩
theorem side_sub : IntSide .Sub := ⟨PySem.F.fills_int_sub, "int.__sub__", "__sub__", _, PySem.F.slot_int_sub, PySem.F.entry_int_sub, PySem.F.args_int_sub_2⟩
theorem side_mul : IntSide .Mult := ⟨PySem.F.fills_int_mul, "int.__mul__", "__mul__", _, PySem.F.slot_int_mul, PySem.F.entry_int_mul, PySem.F.args_int_mul_2⟩
/-- an int, then an object of the class -/
def rOwnR (C : Addr) (sp : Sp) (E : L2.St → XK) (σ : L2.St) : R2 := fun x y H Q => ∃ a dx fs i, y = .ref a ∧ H a = some (.ins C dx fs) ∧ x = .int i ∧ sp [y, x] H Q (E σ)
def rAlt (r1 r2 : L2.St → R2) (σ : L2.St) : R2 := fun x y H Q => r1 σ x y H Q ∨ r2 σ x y H Q
def uOr (r1 r2 : L2.St → V → Hp → VK → Prop) (σ : L2.St) : V → Hp → VK → Prop := fun x H Q => r1 σ x H Q ∨ r2 σ x H Q
def rNegI (_ : L2.St) : V → Hp → VK → Prop := fun x H Q => ∃ i, x = .int i ∧ Q (.int (-i)) H
section
open PySem.Spec PyProof.Rows
variable {X : Cx} {CX : CXT} {f fl C : Addr} {fd : FuncData} {ps : List Str} {n : Nat} {sp : Sp} {op : Operator} {E : L2.St → XK}
theorem op_ownR (o : Ops X.K C) (li : PySem.W.subIn X.K (.ref C) (.type "int") = some false) (ml : Meth X.K C (PySem.dunder op.info.2) fl) (m : Meth X.K C (dunderR op.info.2) f) (si : IntSide op) (F : FnOk X.prog X.w X.K X.mg X.base CX n f fd ps sp) (hr : Room n X.A) (hb : Binds X.K fd ps []) (hx : ∀ σ, PassesAt CX X σ (E σ)) :
    OpS X (binaryOp op) (rOwnR C sp E) := by
  intro pins s σ H x y v u Q I rx ry h
  obtain ⟨a, dx, fs, i, rfl, ha, rfl, h⟩ := h
  cases ry
  obtain ⟨t, rfl⟩ := (show ∃ t, v = Value.int i t from rx)
  obtain ⟨mA, J0, _⟩ := ins_get I.hok ha
  have hg := J0.1
  obtain ⟨od, J, _⟩ := J0.look
  obtain ⟨m', hF⟩ := I.fr
  obtain ⟨id, nb, g, h1, h2, h3⟩ := si.gives
  exact binop_refl hF I.ok.mod.kin J hg o.first ml.at_ m.at_ m.fn li si.fills h1 h2 (h3 _ _) (run_own (vs := [V.ref a, V.int i]) F hr hb (hx σ) I (.cons rfl (.cons ⟨t, rfl⟩ .nil)) h)
theorem ops_or {g : Value → Value → Sem Value} {r1 r2 : L2.St → R2} (h1 : OpS X g r1) (h2 : OpS X g r2) : OpS X g (rAlt r1 r2) := fun pins s σ H x y v u Q I rx ry h => h.elim (h1 pins s σ H x y v u Q I rx ry) (h2 pins s σ H x y v u Q I rx ry)
theorem uns_or {g : Value → Sem Value} {r1 r2 : L2.St → V → Hp → VK → Prop} (h1 : UnS X g r1) (h2 : UnS X g r2) : UnS X g (uOr r1 r2) := fun pins s σ H x v Q I rx h => h.elim (h1 pins s σ H x v Q I rx) (h2 pins s σ H x v Q I rx)
theorem un_negI : UnS X (unaryOp .USub) rNegI := by
  intro pins s σ H x v Q I rx h
  obtain ⟨i, rfl, q⟩ := h
  obtain ⟨t, rfl⟩ := (show ∃ t, v = Value.int i t from rx)
  exact neg_int ⟨.int (-i), H, I.tok _, ⟨_, rfl⟩, q⟩
def rOwnAbs (C : Addr) (sp : Sp) (E : XK) : List V → Hp → VK → Prop := fun xs H Q => ∃ a dx fs, xs = [.ref a] ∧ H a = some (.ins C dx fs) ∧ sp [.ref a] H Q E
theorem call_absO {E : XK} (m : Meth X.K C "__abs__" f) (F : FnOk X.prog X.w X.K X.mg X.base CX n f fd ps sp) (hr : Room (n + 1) X.A) (hb : Binds X.K fd ps []) (hx : ∀ σ, PassesAt CX X σ E) : CallR X (.builtin "abs") (rOwnAbs C sp E) := by
  intro pins s σ H xs us Q I r h
  obtain ⟨a, dx, fs, rfl, ha, h⟩ := h
  obtain ⟨u, rfl, rx⟩ := vals1 r
  cases rx
  obtain ⟨mA, J, _⟩ := ins_get I.hok ha
  obtain ⟨od, J, _⟩ := J.look
  exact abs_own I.kIn J m.at_ m.fn (run_ownA (vs := [V.ref a]) F hr.in1 rfl hb (hx σ) I (.cons rfl .nil) h)
theorem callr_or {b : Value} {r1 r2 : List V → Hp → VK → Prop} (h1 : CallR X b r1) (h2 : CallR X b r2) : CallR X b (fun xs H Q => r1 xs H Q ∨ r2 xs H Q) := fun pins s σ H xs us Q I r h => h.elim (h1 pins s σ H xs us Q I r) (h2 pins s σ H xs us Q I r)
/-- a term that is never reached -/
theorem pe_never {e : Expr} : PE X e (fun _ _ _ => False) := ⟨fun _ _ _ _ _ _ h => h.elim⟩
end

/-! ### str of own objects -/
section
variable {X : Cx} {CX : CXT} {f C : Addr} {fd : FuncData} {ps : List Str} {n : Nat} {sp : Sp}
def rOwnStr (C : Addr) (sp : Sp) (E : XK) : List V → Hp → VK → Prop := fun xs H Q => ∃ a dx fs, xs = [.ref a] ∧ H a = some (.ins C dx fs) ∧ sp [.ref a] H (fun v H' => ∃ z : Str, v = .str z ∧ Q (.str z) H') E
theorem call_strO {E : XK} (m : Meth X.K C "__str__" f) (F : FnOk X.prog X.w X.K X.mg X.base CX n f fd ps sp) (hr : Room (n + 2) X.A) (hb : Binds X.K fd ps []) (hx : ∀ σ, PassesAt CX X σ E) : CallR X (.type "str") (rOwnStr C sp E) := by
  intro pins s σ H xs us Q I r h
  obtain ⟨a, dx, fs, rfl, ha, h⟩ := h
  obtain ⟨u, rfl, rx⟩ := vals1 r
  cases rx
  obtain ⟨mA, J, _⟩ := ins_get I.hok ha
  obtain ⟨od, J, _⟩ := J.look
  refine PySem.W.kso_call hr.in1.in1.units0 I.kIn J m.at_ m.fn (wpAny_mono (run_ownA (vs := [V.ref a]) F hr.in1.in1 rfl hb (hx σ) I (.cons rfl .nil) h) (fun v s' hv => ?_) fun _ _ e => e)
  obtain ⟨z, H', I', rv, y, rfl, q⟩ := hv
  obtain ⟨t, rfl⟩ := (show ∃ t, v = Value.str y t from rv)
  exact ⟨.str y, H', I', ⟨t, rfl⟩, q⟩
end
def tx (z : Int) : Str := toString z
def ratS (t u : Int) : Str := if u = 1 then tx t else tx t ++ "/" ++ tx u
theorem tx_len {z : Int} (h : z.natAbs.log2 < 1920) : (tx z).length ≤ 1921 := by
  have e := int_text_length_le (k := 1920) (by decide) h
  show (Str.ofString (toString z)).length ≤ 1921
  rw [ofString_length]
  exact e
theorem str_nil (a : Str) : Str.empty ++ a = a := by
  have ext : ∀ x y : Str, x.cps = y.cps → x = y := fun ⟨_⟩ ⟨_⟩ h => congrArg Str.mk h
  refine ext _ _ ?_
  rw [PySem.Str.cps_append]
  simp [Str.empty]
theorem ev_slash {σ : L2.St} {H : Hp} {ta tb : TE} {t u : Int} (ha : Ev ta σ H (.int t)) (hb : Ev tb σ H (.int u)) (ht : t.natAbs.log2 < 1920) (hu : u.natAbs.log2 < 1920) :
    Ev (fun σ H Q => tJs [tFmt ta, tC (.str "/"), tFmt tb] Str.empty σ H fun out H1 => Q (.str out) H1) σ H (.str (tx t ++ "/" ++ tx u)) := fun H1 e1 Q q => by
  have l1 := tx_len ht
  have l2 := tx_len hu
  have l3 : ("/" : Str).length = 1 := by decide
  refine ha H1 e1 _ fun H2 e2 => .inr ⟨t, rfl, ht, tx t, rfl, ?_, ?_⟩
  · rw [str_nil]
    exact Nat.le_trans l1 (by decide)
  rw [str_nil]
  refine ⟨"/", rfl, ?_, ?_⟩
  · rw [PySem.Str.length_append, l3]
    exact Nat.le_trans (Nat.add_le_add_right l1 1) (by decide)
  refine hb H2 (e1.trans e2) _ fun H3 e3 => .inr ⟨u, rfl, hu, tx u, rfl, ?_, ?_⟩
  · rw [PySem.Str.length_append, PySem.Str.length_append, l3]
    exact Nat.le_trans (show (tx t).length + 1 + (tx u).length ≤ 4000 by omega) (by decide)
  exact q H3 (e2.trans e3)

/-! ### comparisons: an int on the left; != -/
section
open PySem.Spec PyProof.Rows
variable {prog : Program} {w : World} {A : Around} {E : Value → Shared → Prop} {s : Shared} {K : PySem.W.Frag} {o C f dx : Addr} {ox : Obj} {od : Option Obj} {i : Int} {t : Tok} {hb : Heap} {L : Addr} {m : Str → Option Value}
theorem try_no {g : Int → Int → Sem Fin} {nb id : String} {name : Str} (slot : Slot "int" name id) (entry : entryFor table id = some (Builtin.Int.intBinary nb g false)) (ha : argsOk id ⟨[.int i t, .ref o], []⟩) (hg : s.heap.get? o = some (PySem.W.instObj C dx)) :
    wpAny (model prog w) A (tryCompare (.int i t) name (.ref o)) (fun r s' => r = none ∧ s' = s) E s := wpAny_tryCompare_declines (typeIs_int s i t) slot (call_no slot entry ha hg ⟨rfl, rfl, rfl⟩)
open PySem.W in
theorem try_own {name : Str} {b : Value} {Q : Value → Shared → Prop} (X1 : K.In s.heap) (I : InstAt s.heap o ox C od) (hs : findIn K (.ref C) name = some (some (.ref f))) (hf : isFn K (.ref f) = true) (h : wpAny (model prog w) A (call (.ref f) [.ref o, b]) (PySem.W.CmpBack Q) E s) :
    wpAny (model prog w) A (tryCompare (.ref o) name b) (fun r s' => ∃ v, r = some v ∧ Q v s') E s := by
  unfold tryCompare
  refine wpAny_bind (ifBound_K X1 I hs hf (wpAny_mono h (fun v s' z => ?_) fun _ _ e => e))
  cases v <;> first | exact z.elim | exact wpAny_pure ⟨_, rfl, z⟩
open PySem.W in
theorem cmp_refl {op : CmpOp} {g : Int → Int → Sem Fin} {nb id : String} {Q : Value → Shared → Prop} (hu : A.units < cLine) (X1 : K.In s.heap) (I : InstAt s.heap o ox C od) (hg : s.heap.get? o = some (instObj C dx)) (hsub : subIn K (.ref C) (.type "int") = some false)
    (slot : Slot "int" (cmpInfo op).2.1 id) (entry : entryFor table id = some (Builtin.Int.intBinary nb g false)) (ha : argsOk id ⟨[.int i t, .ref o], []⟩) (hot : oneThing? op (.int i t) (.ref o) = none)
    (two : wpAny (model prog w) A (tryCompare (.ref o) (cmpInfo op).2.2 (.int i t)) (fun r s' => ∃ v, r = some v ∧ Q v s') E s) : wpAny (model prog w) A (richCompare op (.int i t) (.ref o)) Q E s := by
  have one := try_no (prog := prog) (w := w) (A := A) (E := E) slot entry ha hg
  unfold richCompare
  simp only [hot]
  refine wpAny_holding (wpAny_bind (wpAny_cRoomFor hu ?_))
  refine wpAny_bind ((Looks.of_pure (show typeOf (.int i t) = pure (.type "int") from rfl)).here (wpAny_bind (I.type.here ?_)))
  have unlike : (Value.type "int" != Value.ref C) = true := by simp
  simp only [unlike, if_true]
  refine wpAny_bind ((looks_subIn X1 hsub).here ?_)
  simp only [Bool.false_eq_true, if_false, Bool.not_false, if_true]
  refine wpAny_bind (wpAny_mono one (fun r s' z => ?_) fun _ _ e => e)
  obtain ⟨rfl, rfl⟩ := z
  refine wpAny_bind (wpAny_mono two (fun r s' z => ?_) fun _ _ e => e)
  obtain ⟨v, rfl, q⟩ := z
  exact wpAny_pure q
open PySem.W in
theorem ifBound_B {name : Str} {id : String} {args : List Value} {Q : Option Value → Shared → Prop} (X1 : K.In s.heap) (I : InstAt s.heap o ox C od) (hs : findIn K (.ref C) name = some (some (.builtin id))) (bd : ∀ self, bindSpecial (.builtin id) self = pure (.builtin id, [self]))
    (h : wpAny (model prog w) A (call (.builtin id) (.ref o :: args)) (fun v => Q (some v)) E s) : wpAny (model prog w) A (callSpecialIfBound? (.ref o) name args) Q E s := by
  simp only [callSpecialIfBound?, bindSpecialIfBound?]
  refine wpAny_holding (wpAny_bind (wpAny_bind (wpAny_bind (I.type.here ((looks_findIn X1 hs).here (wpAny_bind (wpAny_askSetting (wpAny_ite ?_))))))))
  have last : wpAny (model prog w) A (call (.builtin id) ([.ref o] ++ args) >>= fun v => pure (some v)) Q E s := wpAny_bind (wpAny_mono h (fun v s' z => wpAny_pure z) fun _ _ z => z)
  split
  · exact wpAny_bind ((Looks.of_pure (bd _)).here (wpAny_pure (by exact last)))
  · exact wpAny_tryCatch (wpAny_bind ((Looks.of_pure (bd _)).here (wpAny_pure (by exact last))))
open PySem.W in
theorem ne_own {b : Value} {Q : Value → Shared → Prop} (hu : A.units + 1 < cLine) (X1 : K.In s.heap) (I : InstAt s.heap o ox C od) (hm : mroIn K C (.type "object") = some true) (hn : findIn K (.ref C) "__ne__" = some (some (.builtin "object.__ne__"))) (hs : findIn K (.ref C) "__eq__" = some (some (.ref f))) (hf : isFn K (.ref f) = true)
    (h : wpAny (model prog w) A.in1 (call (.ref f) [.ref o, b]) (fun v s' => ∃ k, v = .bool k ∧ Q (.bool (!k)) s') E s) : wpAny (model prog w) A (tryCompare (.ref o) "__ne__" b) (fun r s' => ∃ v, r = some v ∧ Q v s') E s := by
  unfold tryCompare
  refine wpAny_bind (ifBound_B (id := "object.__ne__") X1 I hn (fun _ => rfl) ?_)
  refine wpAny_call (codeAny_call_builtin PySem.F.cmp_object.ne.plain PySem.F.cmpEntry_ne (check_slot (i := "object.__ne__") (owner := "object") (n := "__ne__") PySem.F.cmpKind_ne PySem.F.cmpSplit_ne (I.type.andThen (looks_mroIn X1 hm)) (PySem.F.cmpArgs_ne _ _) ?_))
  unfold Builtin.«object.__ne__»
  refine wpAny_bind (m := slotArgs "__ne__" 1 _) (wpAny_pure ?_)
  refine wpAny_bind (m := cRoomFor _ _) (wpAny_cRoomFor (show A.units + 1 < cLine from hu) ?_)
  refine wpAny_bind (m := callSpecialIfBound? (.ref o) (Str.ofString "__eq__") _) (ifBound_K X1 I hs hf (wpAny_mono h (fun r s' z => ?_) fun _ _ y => y))
  obtain ⟨k, rfl, q⟩ := z
  exact wpAny_bind (wpAny_truthy_bool (wpAny_pure (wpAny_pure ⟨_, rfl, q⟩)))
open PySem.W in
theorem ne_left {b tb : Value} {Q : Value → Shared → Prop} (hu : A.units + 1 < cLine) (X1 : K.In s.heap) (I : InstAt s.heap o ox C od) (lb : Looks (model prog w) s.heap (typeOf b) tb) (nf : notFirst K C tb = true)
    (one : wpAny (model prog w) A (tryCompare (.ref o) "__ne__" b) (fun r s' => ∃ v, r = some v ∧ Q v s') E s) : wpAny (model prog w) A (richCompare .NotEq (.ref o) b) Q E s := by
  unfold richCompare
  simp only [oneThing_ref]
  refine wpAny_holding (wpAny_bind (wpAny_cRoomFor (by omega) (wpAny_bind (I.type.here (wpAny_bind (lb.here ?_))))))
  split
  · rename_i q
    have e : subIn K tb (.ref C) = some false := by
      rcases Bool.or_eq_true_iff.mp nf with e | e
      · rw [beq_iff_eq.mp e] at q
        simp at q
      · exact beq_iff_eq.mp e
    refine wpAny_bind ((looks_subIn X1 e).here ?_)
    simp only [Bool.false_eq_true, if_false]
    refine wpAny_bind (wpAny_mono one (fun r s' z => ?_) fun _ _ e => e)
    obtain ⟨v, rfl, z⟩ := z
    exact wpAny_pure z
  · refine wpAny_bind (wpAny_pure ?_)
    simp only [Bool.false_eq_true, if_false]
    refine wpAny_bind (wpAny_mono one (fun r s' z => ?_) fun _ _ e => e)
    obtain ⟨v, rfl, z⟩ := z
    exact wpAny_pure z
open PySem.W in
theorem bool_own {Q : Value → Shared → Prop} (F : Fr hb L s.heap m) (Xb : K.In hb) (I : InstAt s.heap o ox C od) (hs : findIn K (.ref C) "__bool__" = some (some (.ref f))) (hf : isFn K (.ref f) = true)
    (h : wpAny (model prog w) A.in1.in1 (call (.ref f) [.ref o]) (fun v s' => ∃ k, v = .bool k ∧ Q (.bool k) s') E s) : wpAny (model prog w) A (call (.type "bool") [.ref o]) Q E s := by
  refine callType_codes (T := "bool") (Bi := Builtin.«object.__init__») (Q₁ := fun r s₁ => ∃ k, r = .bool k ∧ Q r s₁) PySem.F.called_bool (PySem.F.typeCall_bool_1 _) PySem.F.entry_object_init ?_ ?_
  · refine codeAny_of_tree ?_
    show wpAny _ A.in1.in1 (do checkBuiltinCall "bool.__new__" ⟨[.type "bool", .ref o], []⟩; again (.builtin "bool.__new__" ⟨[.type "bool", .ref o], []⟩)) _ _ s
    refine wpAny_bind (wpAny_of_eq (PySem.F.newCall_bool_1 _) (wpAny_pure ⟨plainId_quiet (by decide +kernel) _, codeAny_builtin PySem.F.entry_bool_new ?_⟩))
    rw [Around.under_plainId (by decide +kernel) _]
    unfold Builtin.«bool.__new__»
    refine wpAny_bind (wpAny_of_eq (show isType (.type "bool") = pure true from rfl) ?_)
    simp only [Bool.not_true, Bool.false_eq_true, if_false]
    refine wpAny_bind (wpAny_of_eq PySem.F.conv_sub_bool ?_)
    simp only [Bool.not_true, Bool.false_eq_true, if_false]
    refine wpAny_bind (wpAny_pure ?_)
    refine wpAny_bind (truthy_K F Xb I hs hf (wpAny_mono h (fun v s' z => ?_) fun _ _ y => y))
    obtain ⟨k, rfl, q⟩ := z
    exact wpAny_pure ⟨k, rfl, q⟩
  · rintro obj s₁ ⟨k, rfl, q⟩
    exact ⟨PySem.typeIs_bool _ _, PySem.F.args_object_init_2 _ _, object_init_meets PySem.F.called_bool.init.lookup PySem.F.called_bool.made (by decide) prog w A.in1 _ s₁ ⟨PySem.typeIs_bool _ _, rfl, q⟩⟩
end
structure CmpSide (op : CmpOp) : Prop where
  gives : ∃ (id nb : String) (f : Int → Int → Sem Fin), Slot "int" (cmpInfo op).2.1 id ∧ entryFor table id = some (Builtin.Int.intBinary nb f false) ∧ ∀ a b, argsOk id ⟨[a, b], []⟩
  one : ∀ (i : Int) (t : Tok) (a : Addr), oneThing? op (.int i t) (.ref a) = none
theorem side_lt : CmpSide .Lt := ⟨⟨"int.__lt__", "__lt__", _, PySem.F.slot_int_lt, PySem.F.entry_int_lt, PySem.F.args_int_lt_2⟩, fun _ _ _ => rfl⟩
theorem side_le : CmpSide .LtE := ⟨⟨"int.__le__", "__le__", _, PySem.F.slot_int_le, PySem.F.entry_int_le, PySem.F.args_int_le_2⟩, fun _ _ _ => rfl⟩
theorem side_gt : CmpSide .Gt := ⟨⟨"int.__gt__", "__gt__", _, PySem.F.slot_int_gt, PySem.F.entry_int_gt, PySem.F.args_int_gt_2⟩, fun _ _ _ => rfl⟩
theorem side_ge : CmpSide .GtE := ⟨⟨"int.__ge__", "__ge__", _, PySem.F.slot_int_ge, PySem.F.entry_int_ge, PySem.F.args_int_ge_2⟩, fun _ _ _ => rfl⟩
theorem side_eq : CmpSide .Eq := ⟨⟨"int.__eq__", "__eq__", _, PySem.F.slot_int_eq, PySem.F.entry_int_eq, PySem.F.args_int_eq_2⟩, fun _ _ _ => rfl⟩
theorem side_ne : CmpSide .NotEq := ⟨⟨"int.__ne__", "__ne__", _, PySem.F.slot_int_ne, PySem.F.entry_int_ne, PySem.F.args_int_ne_2⟩, fun _ _ _ => rfl⟩
/-- the opposite of what a promise of a truth value tells -/
def notK (Q : VK) : VK := fun v H => ∃ k : Bool, v = .bl k ∧ Q (.bl (!k)) H
def rOwnNe (K : PySem.W.Frag) (C : Addr) (sp : Sp) (E : L2.St → XK) (σ : L2.St) : R2 := fun x y H Q => ∃ a dx fs tb, x = .ref a ∧ H a = some (.ins C dx fs) ∧ TyX K H y tb ∧ PySem.W.notFirst K C tb = true ∧ sp [x, y] H (notK Q) (E σ)
def rOwnNeR (C : Addr) (sp : Sp) (E : L2.St → XK) (σ : L2.St) : R2 := fun x y H Q => ∃ a dx fs i, y = .ref a ∧ H a = some (.ins C dx fs) ∧ x = .int i ∧ sp [y, x] H (notK Q) (E σ)
/-- what != asks of a class with an own __eq__ and no __ne__ -/
structure NeOf (K : PySem.W.Frag) (C : Addr) : Prop where
  ob : PySem.W.mroIn K C (.type "object") = some true
  ne : PySem.W.findIn K (.ref C) "__ne__" = some (some (.builtin "object.__ne__"))
section
open PySem.Spec PyProof.Rows
variable {X : Cx} {CX : CXT} {f C : Addr} {fd : FuncData} {ps : List Str} {n : Nat} {sp : Sp} {op : CmpOp} {E : L2.St → XK}
theorem op_ownCR (hop : ∀ v u, compareOp op v u = richCompare op v u) (li : PySem.W.subIn X.K (.ref C) (.type "int") = some false) (m : Meth X.K C (cmpInfo op).2.2 f) (si : CmpSide op) (F : FnOk X.prog X.w X.K X.mg X.base CX n f fd ps sp) (hr : Room n X.A) (hb : Binds X.K fd ps []) (hx : ∀ σ, PassesAt CX X σ (E σ)) :
    OpS X (compareOp op) (rOwnR C sp E) := by
  intro pins s σ H x y v u Q I rx ry h
  obtain ⟨a, dx, fs, i, rfl, ha, rfl, h⟩ := h
  cases ry
  obtain ⟨t, rfl⟩ := (show ∃ t, v = Value.int i t from rx)
  obtain ⟨mA, J0, _⟩ := ins_get I.hok ha
  have hg := J0.1
  obtain ⟨od, J, _⟩ := J0.look
  obtain ⟨id, nb, g, h1, h2, h3⟩ := si.gives
  rw [hop]
  exact cmp_refl hr.units0 I.kIn J hg li h1 h2 (h3 _ _) (si.one _ _ _) (try_own I.kIn J m.at_ m.fn (run_own (vs := [V.ref a, V.int i]) F hr hb (hx σ) I (.cons rfl (.cons ⟨t, rfl⟩ .nil)) h))
theorem back_not {pins : List (Addr × Obj)} {σ : L2.St} {Q : VK} {v : Value} {s' : Shared} (h : EP X pins σ (notK Q) v s') : ∃ k, v = Value.bool k ∧ EP X pins σ Q (.bool (!k)) s' := by
  obtain ⟨x, H', I', rv, k, rfl, q⟩ := h
  exact ⟨k, rv, .bl (!k), H', I', rfl, q⟩
theorem op_neO {K : PySem.W.Frag} (d : NeOf X.K C) (m : Meth X.K C "__eq__" f) (F : FnOk X.prog X.w X.K X.mg X.base CX n f fd ps sp) (hr : Room (n + 1) X.A) (hb : Binds X.K fd ps []) (hx : ∀ σ, PassesAt CX X σ (E σ)) (hk : X.K = K := by rfl) : OpS X (compareOp .NotEq) (rOwnNe K C sp E) := by
  subst hk
  intro pins s σ H x y v u Q I rx ry h
  obtain ⟨a, dx, fs, tb, rfl, ha, ty, nf, h⟩ := h
  cases rx
  obtain ⟨mA, J, _⟩ := ins_get I.hok ha
  obtain ⟨od, J, _⟩ := J.look
  have hu : X.A.units + 1 < cLine := by have := hr.un; omega
  show wpAny _ _ (richCompare .NotEq (.ref a) u) _ _ _
  exact ne_left hu I.kIn J (ty_looks I ry ty) nf (ne_own hu I.kIn J d.ob d.ne m.at_ m.fn (wpAny_mono (run_ownA (vs := [V.ref a, y]) F hr.in1 rfl hb (hx σ) I (.cons rfl (.cons ry .nil)) h) (fun v s' z => back_not z) fun _ _ e => e))
theorem op_neR (d : NeOf X.K C) (li : PySem.W.subIn X.K (.ref C) (.type "int") = some false) (m : Meth X.K C "__eq__" f) (F : FnOk X.prog X.w X.K X.mg X.base CX n f fd ps sp) (hr : Room (n + 1) X.A) (hb : Binds X.K fd ps []) (hx : ∀ σ, PassesAt CX X σ (E σ)) : OpS X (compareOp .NotEq) (rOwnNeR C sp E) := by
  intro pins s σ H x y v u Q I rx ry h
  obtain ⟨a, dx, fs, i, rfl, ha, rfl, h⟩ := h
  cases ry
  obtain ⟨t, rfl⟩ := (show ∃ t, v = Value.int i t from rx)
  obtain ⟨mA, J0, _⟩ := ins_get I.hok ha
  have hg := J0.1
  obtain ⟨od, J, _⟩ := J0.look
  obtain ⟨id, nb, g, h1, h2, h3⟩ := side_ne.gives
  have hu : X.A.units + 1 < cLine := by have := hr.un; omega
  show wpAny _ _ (richCompare .NotEq (.int i t) (.ref a)) _ _ _
  exact cmp_refl hr.units0 I.kIn J hg li h1 h2 (h3 _ _) rfl (ne_own hu I.kIn J d.ob d.ne m.at_ m.fn (wpAny_mono (run_ownA (vs := [V.ref a, V.int i]) F hr.in1 rfl hb (hx σ) I (.cons rfl (.cons ⟨t, rfl⟩ .nil)) h) (fun v s' z => back_not z) fun _ _ e => e))
def rOwnBool (C : Addr) (sp : Sp) (E : XK) : List V → Hp → VK → Prop := fun xs H Q => ∃ a dx fs, xs = [.ref a] ∧ H a = some (.ins C dx fs) ∧ sp [.ref a] H (fun v H' => ∃ k : Bool, v = .bl k ∧ Q (.bl k) H') E
theorem call_boolO {E : XK} (m : Meth X.K C "__bool__" f) (F : FnOk X.prog X.w X.K X.mg X.base CX n f fd ps sp) (hr : Room (n + 2) X.A) (hb : Binds X.K fd ps []) (hx : ∀ σ, PassesAt CX X σ E) : CallR X (.type "bool") (rOwnBool C sp E) := by
  intro pins s σ H xs us Q I r h
  obtain ⟨a, dx, fs, rfl, ha, h⟩ := h
  obtain ⟨u, rfl, rx⟩ := vals1 r
  cases rx
  obtain ⟨mA, J, _⟩ := ins_get I.hok ha
  obtain ⟨od, J, _⟩ := J.look
  obtain ⟨m', hF⟩ := I.fr
  refine bool_own hF I.ok.mod.kin J m.at_ m.fn (wpAny_mono (run_ownA (vs := [V.ref a]) F hr.in1.in1 rfl hb (hx σ) I (.cons rfl .nil) h) (fun v s' hv => ?_) fun _ _ e => e)
  obtain ⟨z, H', I', rv, k, rfl, q⟩ := hv
  exact ⟨k, rv, .bl k, H', I', rfl, q⟩
end
/-- o.m(e, ..) within a try -/
def tMethS (C : Addr) (m : Str) (sp : Sp) (dvs : List V) (E : L2.St → XK) (ta : TE) (t : TA) : TE := fun σ H Q => ta σ H fun x H1 => ∃ a dx fs, x = .ref a ∧ H1 a = some (.ins C dx fs) ∧ fs.lookup m = none ∧
  t σ H1 fun vs H2 => sp (x :: (vs ++ dvs)) H2 Q (E σ)
section
open PySem.Spec PyProof.Rows
variable {X : Cx} {CX : CXT} {k : Nat} {f C : Addr} {fd : FuncData} {ps : List Str} {sp : Sp} {dvs : List V} {ds : List Value} {E : L2.St → XK} {m : Str} {pos apos : Pos} {e o : Expr} {es : List Expr} {ta : TE} {t : TA}
theorem pe_methS {pl : Sem Bool} (he : PE X o ta) (c : Cls X.K C) (hm : Meth X.K C m f) (F : FnOk X.prog X.w X.K X.mg X.base CX k f fd ps sp) (hr : Room k X.A) (hb : Binds X.K fd ps ds) (hd : Vals dvs ds) (hx : ∀ σ, PassesAt CX X σ (E σ)) (ha : PA X (e :: es) t)
    (hst : starEach (e :: es) X.env = (false, eval e X.env) :: starEach es X.env := by rfl) (hpl : (backTo pos (starEach es X.env)).any (·.1) = false := by rfl)
    (ht : eval (.Call (.Attribute o m apos) (e :: es) [] pos) X.env = (do
      let v0 ← eval o X.env
      standAt apos.atName
      let (g0, first0) ← holding [v0] (getMethod v0 m pl)
      callWith pos g0 first0 (backTo pos (starEach (e :: es) X.env)) (backToKw pos (keywordEach [] X.env))) := by rfl) :
    PE X (.Call (.Attribute o m apos) (e :: es) [] pos) (tMethS C m sp dvs E ta t) := by
  refine ⟨fun pins s σ H Q I h => PySem.W.methodCall_KW (pl := pl) (thn (he.run pins s σ H _ I h) fun u s1 hu => ?_) ht⟩
  obtain ⟨x, H1, I1, rx, a, dx, fs, ex, ea, l, q⟩ := hu
  subst ex
  obtain rfl : u = Value.ref a := rx
  refine getmeth_ok I1 ea c hm l ?_
  refine PySem.W.callWith_K (first := [.ref a]) (h₀ := X.base) I.ok.mod.kin hm.kp (thn (ha.run pos pins s1 σ H1 _ I1 q) fun us s2 hw => ?_) hst hpl
  obtain ⟨vs, H2, I2, r, q2⟩ := hw
  exact ⟨I2.kIn, run_fnSD (us := .ref a :: us) (vs := .ref a :: vs) F hr hb hd (hx σ) I2 (.cons rfl r) q2⟩
end

structure Sz (z : Int) : Prop where
  lt : z.natAbs < 2 ^ 3900
theorem sz_of {z : Int} {b : Nat} (h : z.natAbs < 2 ^ b) (hb : b ≤ 3900) : Sz z := ⟨Nat.lt_of_lt_of_le h (Nat.pow_le_pow_right (by decide) hb)⟩
theorem Sz.le {y z : Int} (h : Sz z) (hy : y.natAbs ≤ z.natAbs) : Sz y := ⟨Nat.lt_of_le_of_lt hy h.lt⟩
theorem Sz.mul {y z : Int} (h : Sz y) (g : Sz z) : CMulW y z := wide_mul h.lt g.lt (by decide) (by decide) (by decide)
theorem Sz.low {y z : Int} (h : Sz y) (g : Sz z) : (y * z).natAbs < 2 ^ 8000 := Nat.lt_of_lt_of_le (wide_lt h.lt g.lt) (Nat.pow_le_pow_right (by decide) (by decide))
theorem sz_neg {z : Int} (h : Sz z) : Sz (-z) := h.le (by omega)
theorem low_of {p q t u : Int} (hu : 0 < u) (hg : Nat.gcd t.natAbs u.natAbs = 1) (he : t * q = p * u) (hq : q ≠ 0) : Low p q t u := by
  have e : t.natAbs * q.natAbs = p.natAbs * u.natAbs := by rw [← Int.natAbs_mul, he, Int.natAbs_mul]
  refine ⟨hu, hg, he, ?_, ?_⟩
  · have d : t.natAbs ∣ p.natAbs := Nat.Coprime.dvd_of_dvd_mul_right (k := t.natAbs) (n := u.natAbs) hg ⟨q.natAbs, e.symm⟩
    by_cases hp : p = 0
    · subst hp
      rw [Int.zero_mul] at he
      have : t = 0 := (Int.mul_eq_zero.mp he).resolve_right hq
      omega
    · exact Nat.le_of_dvd (by omega) d
  · have d : u.natAbs ∣ q.natAbs := Nat.Coprime.dvd_of_dvd_mul_left (k := u.natAbs) (m := t.natAbs) (by rw [Nat.Coprime, Nat.gcd_comm]; exact hg) ⟨p.natAbs, by rw [e, Nat.mul_comm]⟩
    exact Nat.le_of_dvd (by omega) d
theorem low_same {p q p' q' t u : Int} (h : Low p q t u) (e : p * q' = p' * q) (hq : q ≠ 0) (hq' : q' ≠ 0) : Low p' q' t u := by
  refine low_of h.pos h.cop ?_ hq'
  have h1 := h.eq
  have : q * (t * q') = q * (p' * u) := by grind
  exact Int.eq_of_mul_eq_mul_left hq this
theorem low_int {c : Int} : Low c 1 c 1 := ⟨by decide, by simp, rfl, Nat.le_refl _, Nat.le_refl _⟩
theorem mul_ne {b d : Int} (hb : b ≠ 0) (hd : d ≠ 0) : b * d ≠ 0 := fun z => (Int.mul_eq_zero.mp z).elim hb hd
theorem low_add {a b c d t u t' u' T U : Int} (h1 : Low a b t u) (h2 : Low c d t' u') (h : Low (t * u' + t' * u) (u * u') T U) (hb : b ≠ 0) (hd : d ≠ 0) : Low (a * d + c * b) (b * d) T U := by
  have e1 := h1.eq
  have e2 := h2.eq
  have p1 := h1.pos
  have p2 := h2.pos
  exact low_same h (by grind) (mul_ne (by omega) (by omega)) (mul_ne hb hd)
theorem low_mul {a b c d t u t' u' T U : Int} (h1 : Low a b t u) (h2 : Low c d t' u') (h : Low (t * t') (u * u') T U) (hb : b ≠ 0) (hd : d ≠ 0) : Low (a * c) (b * d) T U := by
  have e1 := h1.eq
  have e2 := h2.eq
  have p1 := h1.pos
  have p2 := h2.pos
  exact low_same h (by grind) (mul_ne (by omega) (by omega)) (mul_ne hb hd)
theorem low_neg {a b t u T U : Int} (h1 : Low a b t u) (h : Low (-t) u T U) (hb : b ≠ 0) : Low (-a) b T U := by
  have e1 := h1.eq
  have p1 := h1.pos
  exact low_same h (by grind) (by omega) hb
theorem low_abs {a b t u T U : Int} (h1 : Low a b t u) (h : Low (t.natAbs : Int) u T U) (hb : 0 < b) : Low (a.natAbs : Int) b T U := by
  have p1 := h1.pos
  refine low_same h ?_ (by omega) (by omega)
  have e : t.natAbs * b.natAbs = a.natAbs * u.natAbs := by rw [← Int.natAbs_mul, h1.eq, Int.natAbs_mul]
  have e2 : ((t.natAbs * b.natAbs : Nat) : Int) = ((a.natAbs * u.natAbs : Nat) : Int) := by rw [e]
  rw [Int.natCast_mul, Int.natCast_mul] at e2
  rwa [show (b.natAbs : Int) = b by omega, show (u.natAbs : Int) = u by omega] at e2
structure Ads where
  f_Ratio_init : Addr
  d_Ratio_init : FuncData
  f_as_ratio : Addr
  d_as_ratio : FuncData
  f_Ratio_add : Addr
  d_Ratio_add : FuncData
  f_Ratio_mul : Addr
  d_Ratio_mul : FuncData
  f_Ratio_neg : Addr
  d_Ratio_neg : FuncData
  f_Ratio_sub : Addr
  d_Ratio_sub : FuncData
  f_Ratio_over : Addr
  d_Ratio_over : FuncData
  f_Ratio_floor : Addr
  d_Ratio_floor : FuncData
  f_Ratio_ceiling : Addr
  d_Ratio_ceiling : FuncData
  f_u_lead : Addr
  d_u_lead : FuncData
  f_Ratio_lt : Addr
  d_Ratio_lt : FuncData
  f_Ratio_le : Addr
  d_Ratio_le : FuncData
  f_Ratio_gt : Addr
  d_Ratio_gt : FuncData
  f_Ratio_ge : Addr
  d_Ratio_ge : FuncData
  f_Ratio_bool : Addr
  d_Ratio_bool : FuncData
  f_Ratio_floordiv : Addr
  d_Ratio_floordiv : FuncData
  f_Ratio_mod : Addr
  d_Ratio_mod : FuncData
  f_Ratio_eq : Addr
  d_Ratio_eq : FuncData
  f_Ratio_str : Addr
  d_Ratio_str : FuncData
  f_u_law_cell : Addr
  d_u_law_cell : FuncData
  f_u_law_draws : Addr
  d_u_law_draws : FuncData
  f_u_law_gcd : Addr
  d_u_law_gcd : FuncData
  f_u_law_is_int : Addr
  d_u_law_is_int : FuncData
  f_u_law_is_ratio : Addr
  d_u_law_is_ratio : FuncData
  f_u_law_worth : Addr
  d_u_law_worth : FuncData
  f_u_law_digits : Addr
  d_u_law_digits : FuncData
  f_u_law_fraction : Addr
  d_u_law_fraction : FuncData
  f_u_law_two_fractions : Addr
  d_u_law_two_fractions : FuncData
  f_u_law_orders : Addr
  d_u_law_orders : FuncData
  f_u_law_rounded : Addr
  d_u_law_rounded : FuncData
  f_u_law_zero_refused : Addr
  d_u_law_zero_refused : FuncData
  f_u_law_quotients : Addr
  d_u_law_quotients : FuncData
  f_u_law_unlike : Addr
  d_u_law_unlike : FuncData
  f_law : Addr
  d_law : FuncData
  C_WatchError : Addr
  C_ZeroUnder : Addr
  C_BadNumber : Addr
  C_Ratio : Addr
structure Txt (K : PySem.W.Frag) (mg : Str → Option Value) (A : Ads) : Prop where
  F_Ratio_init : FunD K "__init__" "Ratio.__init__" (defArgs s_Ratio_init) (defBody s_Ratio_init) (defScope s_Ratio_init) ([.int 1] : List V) ([] : List (Str × V)) A.f_Ratio_init A.d_Ratio_init
  F_as_ratio : Fun K "as_ratio" "as_ratio" s_as_ratio A.f_as_ratio A.d_as_ratio
  g_as_ratio : mg "as_ratio" = some (.ref A.f_as_ratio)
  k_as_ratio : PySem.W.keepIn K (.ref A.f_as_ratio) = true
  F_Ratio_add : Fun K "__add__" "Ratio.__add__" s_Ratio_add A.f_Ratio_add A.d_Ratio_add
  F_Ratio_mul : Fun K "__mul__" "Ratio.__mul__" s_Ratio_mul A.f_Ratio_mul A.d_Ratio_mul
  F_Ratio_neg : Fun K "__neg__" "Ratio.__neg__" s_Ratio_neg A.f_Ratio_neg A.d_Ratio_neg
  F_Ratio_sub : Fun K "__sub__" "Ratio.__sub__" s_Ratio_sub A.f_Ratio_sub A.d_Ratio_sub
  F_Ratio_over : Fun K "over" "Ratio.over" s_Ratio_over A.f_Ratio_over A.d_Ratio_over
  F_Ratio_floor : Fun K "floor" "Ratio.floor" s_Ratio_floor A.f_Ratio_floor A.d_Ratio_floor
  F_Ratio_ceiling : Fun K "ceiling" "Ratio.ceiling" s_Ratio_ceiling A.f_Ratio_ceiling A.d_Ratio_ceiling
  F_u_lead : Fun K "_lead" "_lead" s_u_lead A.f_u_lead A.d_u_lead
  g_u_lead : mg "_lead" = some (.ref A.f_u_lead)
  k_u_lead : PySem.W.keepIn K (.ref A.f_u_lead) = true
  F_Ratio_lt : Fun K "__lt__" "Ratio.__lt__" s_Ratio_lt A.f_Ratio_lt A.d_Ratio_lt
  F_Ratio_le : Fun K "__le__" "Ratio.__le__" s_Ratio_le A.f_Ratio_le A.d_Ratio_le
  F_Ratio_gt : Fun K "__gt__" "Ratio.__gt__" s_Ratio_gt A.f_Ratio_gt A.d_Ratio_gt
  F_Ratio_ge : Fun K "__ge__" "Ratio.__ge__" s_Ratio_ge A.f_Ratio_ge A.d_Ratio_ge
  F_Ratio_bool : Fun K "__bool__" "Ratio.__bool__" s_Ratio_bool A.f_Ratio_bool A.d_Ratio_bool
  F_Ratio_floordiv : Fun K "__floordiv__" "Ratio.__floordiv__" s_Ratio_floordiv A.f_Ratio_floordiv A.d_Ratio_floordiv
  F_Ratio_mod : Fun K "__mod__" "Ratio.__mod__" s_Ratio_mod A.f_Ratio_mod A.d_Ratio_mod
  F_Ratio_eq : Fun K "__eq__" "Ratio.__eq__" s_Ratio_eq A.f_Ratio_eq A.d_Ratio_eq
  F_Ratio_str : Fun K "__str__" "Ratio.__str__" s_Ratio_str A.f_Ratio_str A.d_Ratio_str
  F_u_law_cell : Fun K "_law_cell" "_law_cell" s_u_law_cell A.f_u_law_cell A.d_u_law_cell
  g_u_law_cell : mg "_law_cell" = some (.ref A.f_u_law_cell)
  k_u_law_cell : PySem.W.keepIn K (.ref A.f_u_law_cell) = true
  F_u_law_draws : Fun K "_law_draws" "_law_draws" s_u_law_draws A.f_u_law_draws A.d_u_law_draws
  g_u_law_draws : mg "_law_draws" = some (.ref A.f_u_law_draws)
  k_u_law_draws : PySem.W.keepIn K (.ref A.f_u_law_draws) = true
  F_u_law_gcd : Fun K "_law_gcd" "_law_gcd" s_u_law_gcd A.f_u_law_gcd A.d_u_law_gcd
  g_u_law_gcd : mg "_law_gcd" = some (.ref A.f_u_law_gcd)
  k_u_law_gcd : PySem.W.keepIn K (.ref A.f_u_law_gcd) = true
  F_u_law_is_int : Fun K "_law_is_int" "_law_is_int" s_u_law_is_int A.f_u_law_is_int A.d_u_law_is_int
  g_u_law_is_int : mg "_law_is_int" = some (.ref A.f_u_law_is_int)
  k_u_law_is_int : PySem.W.keepIn K (.ref A.f_u_law_is_int) = true
  F_u_law_is_ratio : Fun K "_law_is_ratio" "_law_is_ratio" s_u_law_is_ratio A.f_u_law_is_ratio A.d_u_law_is_ratio
  g_u_law_is_ratio : mg "_law_is_ratio" = some (.ref A.f_u_law_is_ratio)
  k_u_law_is_ratio : PySem.W.keepIn K (.ref A.f_u_law_is_ratio) = true
  F_u_law_worth : Fun K "_law_worth" "_law_worth" s_u_law_worth A.f_u_law_worth A.d_u_law_worth
  g_u_law_worth : mg "_law_worth" = some (.ref A.f_u_law_worth)
  k_u_law_worth : PySem.W.keepIn K (.ref A.f_u_law_worth) = true
  F_u_law_digits : Fun K "_law_digits" "_law_digits" s_u_law_digits A.f_u_law_digits A.d_u_law_digits
  g_u_law_digits : mg "_law_digits" = some (.ref A.f_u_law_digits)
  k_u_law_digits : PySem.W.keepIn K (.ref A.f_u_law_digits) = true
  F_u_law_fraction : Fun K "_law_fraction" "_law_fraction" s_u_law_fraction A.f_u_law_fraction A.d_u_law_fraction
  g_u_law_fraction : mg "_law_fraction" = some (.ref A.f_u_law_fraction)
  k_u_law_fraction : PySem.W.keepIn K (.ref A.f_u_law_fraction) = true
  F_u_law_two_fractions : Fun K "_law_two_fractions" "_law_two_fractions" s_u_law_two_fractions A.f_u_law_two_fractions A.d_u_law_two_fractions
  g_u_law_two_fractions : mg "_law_two_fractions" = some (.ref A.f_u_law_two_fractions)
  k_u_law_two_fractions : PySem.W.keepIn K (.ref A.f_u_law_two_fractions) = true
  F_u_law_orders : Fun K "_law_orders" "_law_orders" s_u_law_orders A.f_u_law_orders A.d_u_law_orders
  g_u_law_orders : mg "_law_orders" = some (.ref A.f_u_law_orders)
  k_u_law_orders : PySem.W.keepIn K (.ref A.f_u_law_orders) = true
  F_u_law_rounded : Fun K "_law_rounded" "_law_rounded" s_u_law_rounded A.f_u_law_rounded A.d_u_law_rounded
  g_u_law_rounded : mg "_law_rounded" = some (.ref A.f_u_law_rounded)
  k_u_law_rounded : PySem.W.keepIn K (.ref A.f_u_law_rounded) = true
  F_u_law_zero_refused : Fun K "_law_zero_refused" "_law_zero_refused" s_u_law_zero_refused A.f_u_law_zero_refused A.d_u_law_zero_refused
  g_u_law_zero_refused : mg "_law_zero_refused" = some (.ref A.f_u_law_zero_refused)
  k_u_law_zero_refused : PySem.W.keepIn K (.ref A.f_u_law_zero_refused) = true
  F_u_law_quotients : Fun K "_law_quotients" "_law_quotients" s_u_law_quotients A.f_u_law_quotients A.d_u_law_quotients
  g_u_law_quotients : mg "_law_quotients" = some (.ref A.f_u_law_quotients)
  k_u_law_quotients : PySem.W.keepIn K (.ref A.f_u_law_quotients) = true
  F_u_law_unlike : Fun K "_law_unlike" "_law_unlike" s_u_law_unlike A.f_u_law_unlike A.d_u_law_unlike
  g_u_law_unlike : mg "_law_unlike" = some (.ref A.f_u_law_unlike)
  k_u_law_unlike : PySem.W.keepIn K (.ref A.f_u_law_unlike) = true
  F_law : Fun K "law" "law" s_law A.f_law A.d_law
  g_law : mg "law" = some (.ref A.f_law)
  k_law : PySem.W.keepIn K (.ref A.f_law) = true
  z_abs : mg "abs" = none
  z_len : mg "len" = none
  z_int : mg "int" = none
  z_bool : mg "bool" = none
  z_str : mg "str" = none
  z_list : mg "list" = none
  z_tuple : mg "tuple" = none
  z_isinstance : mg "isinstance" = none
  z_range : mg "range" = none
  z_ValueError : mg "ValueError" = none
  g_WatchError : mg "WatchError" = some (.ref A.C_WatchError)
  g_ZeroUnder : mg "ZeroUnder" = some (.ref A.C_ZeroUnder)
  g_BadNumber : mg "BadNumber" = some (.ref A.C_BadNumber)
  g_Ratio : mg "Ratio" = some (.ref A.C_Ratio)
  g_gcd : mg "gcd" = some (.builtin "math.gcd")
  kit_int_Ratio : PySem.W.kitOne K (.type "int") (.ref A.C_Ratio) = some false
  si_str : PySem.W.subIn K (.type "str") (.ref A.C_Ratio) = some false
  kit_str_Ratio : PySem.W.kitOne K (.type "str") (.ref A.C_Ratio) = some false
  si_NoneType : PySem.W.subIn K (.type "NoneType") (.ref A.C_Ratio) = some false
  kit_NoneType_Ratio : PySem.W.kitOne K (.type "NoneType") (.ref A.C_Ratio) = some false
  si_list : PySem.W.subIn K (.type "list") (.ref A.C_Ratio) = some false
  kit_list_Ratio : PySem.W.kitOne K (.type "list") (.ref A.C_Ratio) = some false
  si_tuple : PySem.W.subIn K (.type "tuple") (.ref A.C_Ratio) = some false
  kit_tuple_Ratio : PySem.W.kitOne K (.type "tuple") (.ref A.C_Ratio) = some false
  xP_ZeroUnder : PySem.W.excIn K A.C_ZeroUnder [.type "ValueError", .type "Exception", .type "BaseException", .type "object"] "ValueError.__new__" = true
  kP_ZeroUnder : PySem.W.keepIn K (.ref A.C_ZeroUnder) = true
  bP_ZeroUnder : PySem.W.subIn K (.ref A.C_ZeroUnder) (.type "BaseException") = some true
  tP_ZeroUnder : PySem.W.typeIn K (.ref A.C_ZeroUnder) = some (.type "type")
  ex_ZeroUnder : ExcC K A.C_ZeroUnder
  xm_ZeroUnder_WatchError : PySem.W.exmOne K (.ref A.C_ZeroUnder) (.ref A.C_WatchError) = some true
  kit_Ratio_int : PySem.W.kitOne K (.ref A.C_Ratio) (.type "int") = some false
  kit_Ratio_Ratio : PySem.W.kitOne K (.ref A.C_Ratio) (.ref A.C_Ratio) = some true
  kit_ZeroUnder_ZeroUnder : PySem.W.kitOne K (.ref A.C_ZeroUnder) (.ref A.C_ZeroUnder) = some true
  kit_ZeroUnder_ValueError : PySem.W.kitOne K (.ref A.C_ZeroUnder) (.type "ValueError") = some true
  kit_ZeroUnder_BadNumber : PySem.W.kitOne K (.ref A.C_ZeroUnder) (.ref A.C_BadNumber) = some false
  cl_Ratio : Cls K A.C_Ratio
  mk_Ratio : Mk K A.C_Ratio A.f_Ratio_init
  na_Ratio_top : NoAttr K A.C_Ratio "top"
  na_Ratio_under : NoAttr K A.C_Ratio "under"
  op_Ratio : Ops K A.C_Ratio
  D_Ratio_add : Meth K A.C_Ratio (PySem.dunder "add") A.f_Ratio_add
  D_Ratio_mul : Meth K A.C_Ratio (PySem.dunder "mul") A.f_Ratio_mul
  D_Ratio_sub : Meth K A.C_Ratio (PySem.dunder "sub") A.f_Ratio_sub
  D_Ratio_floordiv : Meth K A.C_Ratio (PySem.dunder "floordiv") A.f_Ratio_floordiv
  D_Ratio_mod : Meth K A.C_Ratio (PySem.dunder "mod") A.f_Ratio_mod
  li_Ratio : PySem.W.subIn K (.ref A.C_Ratio) (.type "int") = some false
  I_Ratio_add : IntOp K A.C_Ratio "add"
  I_Ratio_sub : IntOp K A.C_Ratio "sub"
  I_Ratio_mul : IntOp K A.C_Ratio "mul"
  I_Ratio_floordiv : IntOp K A.C_Ratio "floordiv"
  I_Ratio_mod : IntOp K A.C_Ratio "mod"
  no_Ratio : ∃ d, NoIn K A.C_Ratio d
  ip_Ratio_floordiv : PySem.W.findIn K (.ref A.C_Ratio) (dunderI "floordiv") = some none ∧ PySem.W.findIn K (.type "object") (dunderI "floordiv") = some none
  ip_Ratio_mod : PySem.W.findIn K (.ref A.C_Ratio) (dunderI "mod") = some none ∧ PySem.W.findIn K (.type "object") (dunderI "mod") = some none
  ne_Ratio : NeOf K A.C_Ratio
  ty_Ratio : ∀ (H : Hp) (a dx : Addr) (fs : List (Str × V)), H a = some (.ins A.C_Ratio dx fs) → TyX K H (.ref a) (.ref A.C_Ratio)
  M_Ratio_add : Meth K A.C_Ratio "__add__" A.f_Ratio_add
  M_Ratio_mul : Meth K A.C_Ratio "__mul__" A.f_Ratio_mul
  M_Ratio_neg : Meth K A.C_Ratio "__neg__" A.f_Ratio_neg
  M_Ratio_sub : Meth K A.C_Ratio "__sub__" A.f_Ratio_sub
  M_Ratio_over : Meth K A.C_Ratio "over" A.f_Ratio_over
  M_Ratio_floor : Meth K A.C_Ratio "floor" A.f_Ratio_floor
  M_Ratio_ceiling : Meth K A.C_Ratio "ceiling" A.f_Ratio_ceiling
  M_Ratio_lt : Meth K A.C_Ratio "__lt__" A.f_Ratio_lt
  M_Ratio_le : Meth K A.C_Ratio "__le__" A.f_Ratio_le
  M_Ratio_gt : Meth K A.C_Ratio "__gt__" A.f_Ratio_gt
  M_Ratio_ge : Meth K A.C_Ratio "__ge__" A.f_Ratio_ge
  M_Ratio_bool : Meth K A.C_Ratio "__bool__" A.f_Ratio_bool
  M_Ratio_floordiv : Meth K A.C_Ratio "__floordiv__" A.f_Ratio_floordiv
  M_Ratio_mod : Meth K A.C_Ratio "__mod__" A.f_Ratio_mod
  M_Ratio_eq : Meth K A.C_Ratio "__eq__" A.f_Ratio_eq
  M_Ratio_str : Meth K A.C_Ratio "__str__" A.f_Ratio_str
section
variable {P : Program} {w : World} {K : PySem.W.Frag} {mg : Str → Option Value} {base : Heap} {A : Ads}
theorem sc_Ratio_init : FnScope N_Ratio_init (["self", "top", "under"] : List Str) (defScope s_Ratio_init) := ⟨rfl, rfl, rfl, by decide +kernel, rfl, by decide +kernel, by decide +kernel⟩
theorem bF_Ratio_init (T : Txt K mg A) : ∃ ds, Vals ([] : List V) ds ∧ Binds K A.d_Ratio_init (["self", "top", "under"] : List Str) ds := T.F_Ratio_init.binds1 (ps := (["self", "top", "under"] : List Str)) 3 1 (by simp) rfl fun _ _ _ _ _ _ _ us its hl hi => match us, its, hl, hi with | [_, _, _], [_], _, _ => ⟨_, rfl, rfl⟩
theorem b2_Ratio_init (T : Txt K mg A) : ∃ ds, Vals ([.int 1] : List V) ds ∧ Binds K A.d_Ratio_init (["self", "top", "under"] : List Str) ds := T.F_Ratio_init.binds1 (ps := (["self", "top", "under"] : List Str)) 2 0 (by simp) rfl fun _ _ _ _ _ _ _ us its hl hi => match us, its, hl, hi with | [_, _], [_], _, _ => ⟨_, rfl, rfl⟩
theorem b_Ratio_init (T : Txt K mg A) : Binds K A.d_Ratio_init (["self", "top", "under"] : List Str) [] := by
  obtain ⟨ds, hv, hb⟩ := bF_Ratio_init T
  cases hv
  exact hb
theorem sc_as_ratio : FnScope N_as_ratio (["number"] : List Str) (defScope s_as_ratio) := ⟨rfl, rfl, rfl, by decide +kernel, rfl, by decide +kernel, by decide +kernel⟩
theorem b_as_ratio (T : Txt K mg A) : Binds K A.d_as_ratio (["number"] : List Str) [] := T.F_as_ratio.binds (ps := (["number"] : List Str)) fun _ _ _ _ _ _ us hl => match us, hl with | [_], _ => rfl
theorem sc_Ratio_add : FnScope N_Ratio_add (["self", "other"] : List Str) (defScope s_Ratio_add) := ⟨rfl, rfl, rfl, by decide +kernel, rfl, by decide +kernel, by decide +kernel⟩
theorem b_Ratio_add (T : Txt K mg A) : Binds K A.d_Ratio_add (["self", "other"] : List Str) [] := T.F_Ratio_add.binds (ps := (["self", "other"] : List Str)) fun _ _ _ _ _ _ us hl => match us, hl with | [_, _], _ => rfl
theorem sc_Ratio_mul : FnScope N_Ratio_mul (["self", "other"] : List Str) (defScope s_Ratio_mul) := ⟨rfl, rfl, rfl, by decide +kernel, rfl, by decide +kernel, by decide +kernel⟩
theorem b_Ratio_mul (T : Txt K mg A) : Binds K A.d_Ratio_mul (["self", "other"] : List Str) [] := T.F_Ratio_mul.binds (ps := (["self", "other"] : List Str)) fun _ _ _ _ _ _ us hl => match us, hl with | [_, _], _ => rfl
theorem sc_Ratio_neg : FnScope N_Ratio_neg (["self"] : List Str) (defScope s_Ratio_neg) := ⟨rfl, rfl, rfl, by decide +kernel, rfl, by decide +kernel, by decide +kernel⟩
theorem b_Ratio_neg (T : Txt K mg A) : Binds K A.d_Ratio_neg (["self"] : List Str) [] := T.F_Ratio_neg.binds (ps := (["self"] : List Str)) fun _ _ _ _ _ _ us hl => match us, hl with | [_], _ => rfl
theorem sc_Ratio_sub : FnScope N_Ratio_sub (["self", "other"] : List Str) (defScope s_Ratio_sub) := ⟨rfl, rfl, rfl, by decide +kernel, rfl, by decide +kernel, by decide +kernel⟩
theorem b_Ratio_sub (T : Txt K mg A) : Binds K A.d_Ratio_sub (["self", "other"] : List Str) [] := T.F_Ratio_sub.binds (ps := (["self", "other"] : List Str)) fun _ _ _ _ _ _ us hl => match us, hl with | [_, _], _ => rfl
theorem sc_Ratio_over : FnScope N_Ratio_over (["self", "number"] : List Str) (defScope s_Ratio_over) := ⟨rfl, rfl, rfl, by decide +kernel, rfl, by decide +kernel, by decide +kernel⟩
theorem b_Ratio_over (T : Txt K mg A) : Binds K A.d_Ratio_over (["self", "number"] : List Str) [] := T.F_Ratio_over.binds (ps := (["self", "number"] : List Str)) fun _ _ _ _ _ _ us hl => match us, hl with | [_, _], _ => rfl
theorem sc_Ratio_floor : FnScope N_Ratio_floor (["self"] : List Str) (defScope s_Ratio_floor) := ⟨rfl, rfl, rfl, by decide +kernel, rfl, by decide +kernel, by decide +kernel⟩
theorem b_Ratio_floor (T : Txt K mg A) : Binds K A.d_Ratio_floor (["self"] : List Str) [] := T.F_Ratio_floor.binds (ps := (["self"] : List Str)) fun _ _ _ _ _ _ us hl => match us, hl with | [_], _ => rfl
theorem sc_Ratio_ceiling : FnScope N_Ratio_ceiling (["self"] : List Str) (defScope s_Ratio_ceiling) := ⟨rfl, rfl, rfl, by decide +kernel, rfl, by decide +kernel, by decide +kernel⟩
theorem b_Ratio_ceiling (T : Txt K mg A) : Binds K A.d_Ratio_ceiling (["self"] : List Str) [] := T.F_Ratio_ceiling.binds (ps := (["self"] : List Str)) fun _ _ _ _ _ _ us hl => match us, hl with | [_], _ => rfl
theorem sc_u_lead : FnScope N_u_lead (["ratio", "number"] : List Str) (defScope s_u_lead) := ⟨rfl, rfl, rfl, by decide +kernel, rfl, by decide +kernel, by decide +kernel⟩
theorem b_u_lead (T : Txt K mg A) : Binds K A.d_u_lead (["ratio", "number"] : List Str) [] := T.F_u_lead.binds (ps := (["ratio", "number"] : List Str)) fun _ _ _ _ _ _ us hl => match us, hl with | [_, _], _ => rfl
theorem sc_Ratio_lt : FnScope N_Ratio_lt (["self", "other"] : List Str) (defScope s_Ratio_lt) := ⟨rfl, rfl, rfl, by decide +kernel, rfl, by decide +kernel, by decide +kernel⟩
theorem b_Ratio_lt (T : Txt K mg A) : Binds K A.d_Ratio_lt (["self", "other"] : List Str) [] := T.F_Ratio_lt.binds (ps := (["self", "other"] : List Str)) fun _ _ _ _ _ _ us hl => match us, hl with | [_, _], _ => rfl
theorem sc_Ratio_le : FnScope N_Ratio_le (["self", "other"] : List Str) (defScope s_Ratio_le) := ⟨rfl, rfl, rfl, by decide +kernel, rfl, by decide +kernel, by decide +kernel⟩
theorem b_Ratio_le (T : Txt K mg A) : Binds K A.d_Ratio_le (["self", "other"] : List Str) [] := T.F_Ratio_le.binds (ps := (["self", "other"] : List Str)) fun _ _ _ _ _ _ us hl => match us, hl with | [_, _], _ => rfl
theorem sc_Ratio_gt : FnScope N_Ratio_gt (["self", "other"] : List Str) (defScope s_Ratio_gt) := ⟨rfl, rfl, rfl, by decide +kernel, rfl, by decide +kernel, by decide +kernel⟩
theorem b_Ratio_gt (T : Txt K mg A) : Binds K A.d_Ratio_gt (["self", "other"] : List Str) [] := T.F_Ratio_gt.binds (ps := (["self", "other"] : List Str)) fun _ _ _ _ _ _ us hl => match us, hl with | [_, _], _ => rfl
theorem sc_Ratio_ge : FnScope N_Ratio_ge (["self", "other"] : List Str) (defScope s_Ratio_ge) := ⟨rfl, rfl, rfl, by decide +kernel, rfl, by decide +kernel, by decide +kernel⟩
theorem b_Ratio_ge (T : Txt K mg A) : Binds K A.d_Ratio_ge (["self", "other"] : List Str) [] := T.F_Ratio_ge.binds (ps := (["self", "other"] : List Str)) fun _ _ _ _ _ _ us hl => match us, hl with | [_, _], _ => rfl
theorem sc_Ratio_bool : FnScope N_Ratio_bool (["self"] : List Str) (defScope s_Ratio_bool) := ⟨rfl, rfl, rfl, by decide +kernel, rfl, by decide +kernel, by decide +kernel⟩
theorem b_Ratio_bool (T : Txt K mg A) : Binds K A.d_Ratio_bool (["self"] : List Str) [] := T.F_Ratio_bool.binds (ps := (["self"] : List Str)) fun _ _ _ _ _ _ us hl => match us, hl with | [_], _ => rfl
theorem sc_Ratio_floordiv : FnScope N_Ratio_floordiv (["self", "other"] : List Str) (defScope s_Ratio_floordiv) := ⟨rfl, rfl, rfl, by decide +kernel, rfl, by decide +kernel, by decide +kernel⟩
theorem b_Ratio_floordiv (T : Txt K mg A) : Binds K A.d_Ratio_floordiv (["self", "other"] : List Str) [] := T.F_Ratio_floordiv.binds (ps := (["self", "other"] : List Str)) fun _ _ _ _ _ _ us hl => match us, hl with | [_, _], _ => rfl
theorem sc_Ratio_mod : FnScope N_Ratio_mod (["self", "other"] : List Str) (defScope s_Ratio_mod) := ⟨rfl, rfl, rfl, by decide +kernel, rfl, by decide +kernel, by decide +kernel⟩
theorem b_Ratio_mod (T : Txt K mg A) : Binds K A.d_Ratio_mod (["self", "other"] : List Str) [] := T.F_Ratio_mod.binds (ps := (["self", "other"] : List Str)) fun _ _ _ _ _ _ us hl => match us, hl with | [_, _], _ => rfl
theorem sc_Ratio_eq : FnScope N_Ratio_eq (["self", "other"] : List Str) (defScope s_Ratio_eq) := ⟨rfl, rfl, rfl, by decide +kernel, rfl, by decide +kernel, by decide +kernel⟩
theorem b_Ratio_eq (T : Txt K mg A) : Binds K A.d_Ratio_eq (["self", "other"] : List Str) [] := T.F_Ratio_eq.binds (ps := (["self", "other"] : List Str)) fun _ _ _ _ _ _ us hl => match us, hl with | [_, _], _ => rfl
theorem sc_Ratio_str : FnScope N_Ratio_str (["self"] : List Str) (defScope s_Ratio_str) := ⟨rfl, rfl, rfl, by decide +kernel, rfl, by decide +kernel, by decide +kernel⟩
theorem b_Ratio_str (T : Txt K mg A) : Binds K A.d_Ratio_str (["self"] : List Str) [] := T.F_Ratio_str.binds (ps := (["self"] : List Str)) fun _ _ _ _ _ _ us hl => match us, hl with | [_], _ => rfl
theorem sc_u_law_cell : FnScope N_u_law_cell (["script", "k"] : List Str) (defScope s_u_law_cell) := ⟨rfl, rfl, rfl, by decide +kernel, rfl, by decide +kernel, by decide +kernel⟩
theorem b_u_law_cell (T : Txt K mg A) : Binds K A.d_u_law_cell (["script", "k"] : List Str) [] := T.F_u_law_cell.binds (ps := (["script", "k"] : List Str)) fun _ _ _ _ _ _ us hl => match us, hl with | [_, _], _ => rfl
theorem sc_u_law_draws : FnScope N_u_law_draws (["cell", "salt", "menu"] : List Str) (defScope s_u_law_draws) := ⟨rfl, rfl, rfl, by decide +kernel, rfl, by decide +kernel, by decide +kernel⟩
theorem b_u_law_draws (T : Txt K mg A) : Binds K A.d_u_law_draws (["cell", "salt", "menu"] : List Str) [] := T.F_u_law_draws.binds (ps := (["cell", "salt", "menu"] : List Str)) fun _ _ _ _ _ _ us hl => match us, hl with | [_, _, _], _ => rfl
theorem sc_u_law_gcd : FnScope N_u_law_gcd (["a", "b"] : List Str) (defScope s_u_law_gcd) := ⟨rfl, rfl, rfl, by decide +kernel, rfl, by decide +kernel, by decide +kernel⟩
theorem b_u_law_gcd (T : Txt K mg A) : Binds K A.d_u_law_gcd (["a", "b"] : List Str) [] := T.F_u_law_gcd.binds (ps := (["a", "b"] : List Str)) fun _ _ _ _ _ _ us hl => match us, hl with | [_, _], _ => rfl
theorem sc_u_law_is_int : FnScope N_u_law_is_int (["x"] : List Str) (defScope s_u_law_is_int) := ⟨rfl, rfl, rfl, by decide +kernel, rfl, by decide +kernel, by decide +kernel⟩
theorem b_u_law_is_int (T : Txt K mg A) : Binds K A.d_u_law_is_int (["x"] : List Str) [] := T.F_u_law_is_int.binds (ps := (["x"] : List Str)) fun _ _ _ _ _ _ us hl => match us, hl with | [_], _ => rfl
theorem sc_u_law_is_ratio : FnScope N_u_law_is_ratio (["x"] : List Str) (defScope s_u_law_is_ratio) := ⟨rfl, rfl, rfl, by decide +kernel, rfl, by decide +kernel, by decide +kernel⟩
theorem b_u_law_is_ratio (T : Txt K mg A) : Binds K A.d_u_law_is_ratio (["x"] : List Str) [] := T.F_u_law_is_ratio.binds (ps := (["x"] : List Str)) fun _ _ _ _ _ _ us hl => match us, hl with | [_], _ => rfl
theorem sc_u_law_worth : FnScope N_u_law_worth (["x", "top", "under"] : List Str) (defScope s_u_law_worth) := ⟨rfl, rfl, rfl, by decide +kernel, rfl, by decide +kernel, by decide +kernel⟩
theorem b_u_law_worth (T : Txt K mg A) : Binds K A.d_u_law_worth (["x", "top", "under"] : List Str) [] := T.F_u_law_worth.binds (ps := (["x", "top", "under"] : List Str)) fun _ _ _ _ _ _ us hl => match us, hl with | [_, _, _], _ => rfl
theorem sc_u_law_digits : FnScope N_u_law_digits (["cell", "salt"] : List Str) (defScope s_u_law_digits) := ⟨rfl, rfl, rfl, by decide +kernel, rfl, by decide +kernel, by decide +kernel⟩
theorem b_u_law_digits (T : Txt K mg A) : Binds K A.d_u_law_digits (["cell", "salt"] : List Str) [] := T.F_u_law_digits.binds (ps := (["cell", "salt"] : List Str)) fun _ _ _ _ _ _ us hl => match us, hl with | [_, _], _ => rfl
theorem sc_u_law_fraction : FnScope N_u_law_fraction (["script", "k", "size"] : List Str) (defScope s_u_law_fraction) := ⟨rfl, rfl, rfl, by decide +kernel, rfl, by decide +kernel, by decide +kernel⟩
theorem b_u_law_fraction (T : Txt K mg A) : Binds K A.d_u_law_fraction (["script", "k", "size"] : List Str) [] := T.F_u_law_fraction.binds (ps := (["script", "k", "size"] : List Str)) fun _ _ _ _ _ _ us hl => match us, hl with | [_, _, _], _ => rfl
theorem sc_u_law_two_fractions : FnScope N_u_law_two_fractions (["script"] : List Str) (defScope s_u_law_two_fractions) := ⟨rfl, rfl, rfl, by decide +kernel, rfl, by decide +kernel, by decide +kernel⟩
theorem b_u_law_two_fractions (T : Txt K mg A) : Binds K A.d_u_law_two_fractions (["script"] : List Str) [] := T.F_u_law_two_fractions.binds (ps := (["script"] : List Str)) fun _ _ _ _ _ _ us hl => match us, hl with | [_], _ => rfl
theorem sc_u_law_orders : FnScope N_u_law_orders (["one", "two", "left", "right"] : List Str) (defScope s_u_law_orders) := ⟨rfl, rfl, rfl, by decide +kernel, rfl, by decide +kernel, by decide +kernel⟩
theorem b_u_law_orders (T : Txt K mg A) : Binds K A.d_u_law_orders (["one", "two", "left", "right"] : List Str) [] := T.F_u_law_orders.binds (ps := (["one", "two", "left", "right"] : List Str)) fun _ _ _ _ _ _ us hl => match us, hl with | [_, _, _, _], _ => rfl
theorem sc_u_law_rounded : FnScope N_u_law_rounded (["one", "a", "b"] : List Str) (defScope s_u_law_rounded) := ⟨rfl, rfl, rfl, by decide +kernel, rfl, by decide +kernel, by decide +kernel⟩
theorem b_u_law_rounded (T : Txt K mg A) : Binds K A.d_u_law_rounded (["one", "a", "b"] : List Str) [] := T.F_u_law_rounded.binds (ps := (["one", "a", "b"] : List Str)) fun _ _ _ _ _ _ us hl => match us, hl with | [_, _, _], _ => rfl
theorem sc_u_law_zero_refused : FnScope N_u_law_zero_refused (["x", "r", "way"] : List Str) (defScope s_u_law_zero_refused) := ⟨rfl, rfl, rfl, by decide +kernel, rfl, by decide +kernel, by decide +kernel⟩
theorem b_u_law_zero_refused (T : Txt K mg A) : Binds K A.d_u_law_zero_refused (["x", "r", "way"] : List Str) [] := T.F_u_law_zero_refused.binds (ps := (["x", "r", "way"] : List Str)) fun _ _ _ _ _ _ us hl => match us, hl with | [_, _, _], _ => rfl
theorem sc_u_law_quotients : FnScope N_u_law_quotients (["x", "r", "a", "b", "c", "d"] : List Str) (defScope s_u_law_quotients) := ⟨rfl, rfl, rfl, by decide +kernel, rfl, by decide +kernel, by decide +kernel⟩
theorem b_u_law_quotients (T : Txt K mg A) : Binds K A.d_u_law_quotients (["x", "r", "a", "b", "c", "d"] : List Str) [] := T.F_u_law_quotients.binds (ps := (["x", "r", "a", "b", "c", "d"] : List Str)) fun _ _ _ _ _ _ us hl => match us, hl with | [_, _, _, _, _, _], _ => rfl
theorem sc_u_law_unlike : FnScope N_u_law_unlike (["one", "a", "b"] : List Str) (defScope s_u_law_unlike) := ⟨rfl, rfl, rfl, by decide +kernel, rfl, by decide +kernel, by decide +kernel⟩
theorem b_u_law_unlike (T : Txt K mg A) : Binds K A.d_u_law_unlike (["one", "a", "b"] : List Str) [] := T.F_u_law_unlike.binds (ps := (["one", "a", "b"] : List Str)) fun _ _ _ _ _ _ us hl => match us, hl with | [_, _, _], _ => rfl
theorem sc_law : FnScope N_law (["script"] : List Str) (defScope s_law) := ⟨rfl, rfl, rfl, by decide +kernel, rfl, by decide +kernel, by decide +kernel⟩
theorem b_law (T : Txt K mg A) : Binds K A.d_law (["script"] : List Str) [] := T.F_law.binds (ps := (["script"] : List Str)) fun _ _ _ _ _ _ us hl => match us, hl with | [_], _ => rfl

def spRatInit (A : Ads) : Sp := fun vs H Q E => ∃ (x dx : Addr) (p q : Int), vs = [.ref x, .int p, .int q] ∧ H x = some (.ins A.C_Ratio dx []) ∧ q.natAbs < 2 ^ 8000 ∧ (q = 0 → ∀ H', Ex H H' → E (.ref A.C_ZeroUnder) none H') ∧
  (q ≠ 0 → ∀ t u, Low p q t u → ∀ H', (∀ b o, b ≠ x → H b = some o → H' b = some o) → H' x = some (.ins A.C_Ratio dx (ratF t u)) → Q .non H')
theorem ok_Ratio_init (T : Txt K mg A) : FnOk P w K mg base (L2.CX P w) 3 A.f_Ratio_init A.d_Ratio_init (["self", "top", "under"] : List Str) (spRatInit A) := by
  refine FunD.ok (CX := L2.CX P w) T.F_Ratio_init sc_Ratio_init (fun vs H Q E h => ?_) (fun cdv Ar outer s H vs Q E hr h => ?_)
  · obtain ⟨x, dx, p, q, rfl, _⟩ := h
    rfl
  · obtain ⟨x, dx, p, q, rfl, hx, hz, k1, k2⟩ := h
    refine ⟨_, (pss_cons (ps_if (pt_cmpR op_eq (pv 2) pe_int (nomark _)) (pss_one (ps_raise rfl (takes_of rfl rfl rfl rfl) (pmk_none PySem.F.excBase_ValueError T.xP_ZeroUnder T.g_ZeroUnder T.kP_ZeroUnder (raises_own T.bP_ZeroUnder T.tP_ZeroUnder) rfl))) pss_nil)
        (pss_cons (ps_set (i := 3) sc_Ratio_init.nd rfl (Or.inl rfl) (pe_callBfun cr_gcd rfl T.g_gcd (pa_cons (pv 1) (pa_cons (pv 2) pa_nil))))
        (pss_cons (ps_if (pt_cmpR op_lt (pv 2) pe_int (nomark _)) (pss_one (ps_set (i := 3) sc_Ratio_init.nd rfl (Or.inl rfl) (pe_un un_neg (pv 3)))) pss_nil)
        (pss_cons (ps_fld (pv 0) (pe_op op_fdivV (pv 1) (pv 3)) rfl)
        (pss_one (ps_fld (pv 0) (pe_op op_fdivV (pv 2) (pv 3)) rfl)))))), ?_⟩
    try dsimp only
    refine q_when (b := decide (q = 0)) (et_is (et_test (ev_op (ev_var (i := 2) rfl) ev_c (rv_eq rfl))) dec_ii) (fun hq H1 e1 => ?_) (fun hq H1 e1 => ?_)
    · exact k1 (of_decide_eq_true hq) H1 e1
    have hq := of_decide_eq_false hq
    try dsimp only
    refine q_asg (v := .int ((Nat.gcd p.natAbs q.natAbs : Nat) : Int)) (ev_gcd (ea_cons (ev_var (i := 1) rfl) (ea_cons (ev_var (i := 2) rfl) ea_nil))) fun H2 e2 => ?_
    replace e2 := e1.trans e2
    try dsimp only
    refine q_alt (b := decide (q < 0)) (fun σ' H' => σ' = [some (.ref x), some (.int p), some (.int q), some (.int (gc p q))] ∧ Ex H H') (et_test (ev_op (ev_var (i := 2) rfl) ev_c rv_I0)) (fun h H3 e3 W hW => ?_) (fun h H3 e3 => ?_) ?_
    · refine s_asg (v := .int (-((Nat.gcd p.natAbs q.natAbs : Nat) : Int))) (ev_un (ev_var (i := 3) rfl) ru_neg) fun H4 e4 => hW _ _ ⟨?_, e2.trans (e3.trans e4)⟩
      unfold gc
      rw [if_pos (of_decide_eq_true h)]
      rfl
    · refine ⟨?_, e2.trans e3⟩
      unfold gc
      rw [if_neg (of_decide_eq_false h)]
      rfl
    rintro σ' H3 ⟨rfl, e3⟩
    have gb : CDivV p (gc p q) := ⟨gc_ne hq, Nat.lt_of_lt_of_le (log_lt (Nat.lt_of_le_of_lt (gc_le hq) hz) (by decide)) (by decide)⟩
    have hx3 := e3 _ _ hx
    refine ⟨_, rfl, _, rfl, p, gc p q, rfl, rfl, gb, _, rfl, x, _, dx, [], rfl, hx3, T.cl_Ratio, T.na_Ratio_top, by decide, ?_⟩
    refine ⟨_, rfl, _, rfl, q, gc p q, rfl, rfl, gb, _, rfl, x, _, dx, _, rfl, upd_same, T.cl_Ratio, T.na_Ratio_under, by show (1 : Nat) < 1000; decide, ?_⟩
    refine k2 hq _ _ (low_gc hq) _ (fun b o hb h => ?_) ?_
    · rw [upd_ne hb, upd_ne hb]; exact e3 _ _ h
    · rw [upd_same, putR]; rfl

theorem ex_made {H H' : Hp} {x dx C : Addr} (hx : H x = none) (hdx : H dx = none) (h : ∀ b o, b ≠ x → (upd (upd H dx (.own x)) x (.ins C dx [])) b = some o → H' b = some o) : Ex H H' := fun b o hb => by
  have h1 : b ≠ x := ne_of_none hb hx
  refine h b o h1 ?_
  rw [upd_ne h1, upd_ne (ne_of_none hb hdx)]
  exact hb
/-- Ratio(p, q) -/
theorem er_rat {K : PySem.W.Frag} {A : Ads} {E : XK} {σ : L2.St} {H : Hp} {tp tq : TE} {p q : Int} (hp : Ev tp σ H (.int p)) (hq : Ev tq σ H (.int q)) (h0 : q ≠ 0) (hz : q.natAbs < 2 ^ 8000) :
    EvR (tMake A.C_Ratio (spRatInit A) [] E (tCons tp (tCons tq tNil))) σ H fun v H1 => ∃ t u, Low p q t u ∧ RatAt A.C_Ratio v H1 t u := fun H1 e Q k =>
  hp H1 e _ fun H2 e2 => hq H2 (e.trans e2) _ fun H3 e3 x dx hx hdx hne => ⟨x, dx, p, q, rfl, upd_same, hz, fun z => absurd z h0, fun _ t u hl H' ho hv =>
    ⟨rfl, k _ H' ((e2.trans e3).trans (ex_made hx hdx ho)) ⟨t, u, hl, x, dx, rfl, hv⟩⟩⟩
/-- Ratio(p) -/
theorem er_rat1 {K : PySem.W.Frag} {A : Ads} {E : XK} {σ : L2.St} {H : Hp} {tp : TE} {p : Int} (hp : Ev tp σ H (.int p)) :
    EvR (tMake A.C_Ratio (spRatInit A) [.int 1] E (tCons tp tNil)) σ H fun v H1 => ∃ t u, Low p 1 t u ∧ RatAt A.C_Ratio v H1 t u := fun H1 e Q k =>
  hp H1 e _ fun H2 e2 x dx hx hdx hne => ⟨x, dx, p, 1, rfl, upd_same, Nat.lt_of_lt_of_le (show (1 : Int).natAbs < 2 ^ 1 by decide) (Nat.pow_le_pow_right (by decide) (by decide)), fun z => absurd z (by decide), fun _ t u hl H' ho hv =>
    ⟨rfl, k _ H' (e2.trans (ex_made hx hdx ho)) ⟨t, u, hl, x, dx, rfl, hv⟩⟩⟩

/-- t / u in lowest terms, of the worth p / q -/
def IsRt (A : Ads) (v : V) (H : Hp) (p q : Int) : Prop := ∃ t u, Low p q t u ∧ RatAt A.C_Ratio v H t u
theorem IsRt.ex {A : Ads} {v : V} {H H' : Hp} {p q : Int} (e : Ex H H') (h : IsRt A v H p q) : IsRt A v H' p q := by
  obtain ⟨t, u, h1, h2⟩ := h
  exact ⟨t, u, h1, h2.ex e⟩
theorem IsRt.as {A : Ads} {v : V} {H : Hp} {p q p' q' : Int} (h : IsRt A v H p q) (hp : p = p') (hq : q = q') : IsRt A v H p' q' := by
  subst hp hq
  exact h
theorem IsRt.worth {A : Ads} {v : V} {H : Hp} {p q p' q' : Int} (h : IsRt A v H p q) (e : p * q' = p' * q) (hq : q ≠ 0) (hq' : q' ≠ 0) : IsRt A v H p' q' := by
  obtain ⟨t, u, h1, h2⟩ := h
  exact ⟨t, u, low_same h1 e hq hq', h2⟩
theorem IsRt.low {A : Ads} {v : V} {H : Hp} {p q : Int} (h : IsRt A v H p q) (hq : q ≠ 0) : ∃ t u, Low p q t u ∧ RatAt A.C_Ratio v H t u := h
/-- .. or a whole number -/
def IsN (A : Ads) (v : V) (H : Hp) (p q : Int) : Prop := IsRt A v H p q ∨ (v = .int p ∧ q = 1)
theorem IsN.ex {A : Ads} {v : V} {H H' : Hp} {p q : Int} (e : Ex H H') (h : IsN A v H p q) : IsN A v H' p q := h.imp (fun h => h.ex e) id
def spAsRat (A : Ads) : Sp := fun vs H Q E => ∃ (v : V) (p q : Int), vs = [v] ∧ IsN A v H p q ∧ ∀ w H', Ex H H' → IsRt A w H' p q → Q w H'
theorem er_asN {A : Ads} {E : XK} {σ : L2.St} {H : Hp} {ta : TE} {p q : Int} (h : EvR ta σ H fun v H1 => IsN A v H1 p q) : EvR (tCall (spAsRat A) [] E (tCons ta tNil)) σ H fun v H1 => IsRt A v H1 p q := fun H1 e Q k =>
  h H1 e _ fun v H2 e2 hv => ⟨v, p, q, rfl, hv, fun w H3 e3 hw => k w H3 (e2.trans e3) hw⟩
theorem er_at {A : Ads} {σ : L2.St} {H : Hp} {i : Nat} {v : V} {p q : Int} (h : σ[i]? = some (some v)) (hv : IsRt A v H p q) : EvR (tVar i) σ H fun v H1 => IsRt A v H1 p q := er_ev (ev_var h) fun G e => hv.ex e
theorem er_nat {A : Ads} {σ : L2.St} {H : Hp} {i : Nat} {v : V} {p q : Int} (h : σ[i]? = some (some v)) (hv : IsN A v H p q) : EvR (tVar i) σ H fun v H1 => IsN A v H1 p q := er_ev (ev_var h) fun G e => hv.ex e
theorem er_ofI {A : Ads} {σ : L2.St} {H : Hp} {te : TE} {z : Int} (h : Ev te σ H (.int z)) : EvR te σ H fun v H1 => IsN A v H1 z 1 := er_ev h fun _ _ => .inr ⟨rfl, rfl⟩
theorem er_ofR {A : Ads} {σ : L2.St} {H : Hp} {te : TE} {p q : Int} (h : EvR te σ H fun v H1 => IsRt A v H1 p q) : EvR te σ H fun v H1 => IsN A v H1 p q := h.imp fun _ _ h => .inl h
theorem ok_as_ratio (T : Txt K mg A) : FnOk P w K mg base (L2.CX P w) 5 A.f_as_ratio A.d_as_ratio (["number"] : List Str) (spAsRat A) := by
  refine T.F_as_ratio.okX sc_as_ratio (fun vs H Q E h => ?_) (fun cdv Ar outer s H vs Q E hr h => ?_)
  · obtain ⟨v, p, q, rfl, _⟩ := h
    rfl
  · obtain ⟨v, p, q, rfl, h, k⟩ := h
    refine ⟨_, (pss_cons (ps_if (pt_val (pe_callB isi_K (by rfl) T.z_isinstance (by decide +kernel) (pa_cons (pv 0) (pa_cons (pe_glob (v := .ref A.C_Ratio) rfl T.g_Ratio rfl) pa_nil)))) (pss_one (ps_ret (pv 0))) pss_nil)
        (pss_one (ps_ret (pe_make T.mk_Ratio (ok_Ratio_init T) (hr.mono (by omega)) rfl T.g_Ratio (b2_Ratio_init T).choose_spec.2 (b2_Ratio_init T).choose_spec.1 (passes_call (takes_of rfl rfl rfl rfl) (fun _ _ _ _ h => h)) (pa_cons (pv 0) pa_nil))))), ?_⟩
    rcases h with h | ⟨rfl, rfl⟩
    · obtain ⟨t, u, hl, hR⟩ := id h
      obtain ⟨a, dx, rfl, hi⟩ := hR
      try dsimp only
      exact q_take (et_B fun H1 e1 Q q => ⟨_, rfl, _, _, _, _, true, rfl, .own _, T.ty_Ratio H1 a dx _ (e1 _ _ hi), kit_self, q H1 (Ex.refl H1)⟩) fun H1 e1 => s_ret (v := .ref a) (ev_var rfl) fun H2 e2 => k _ H2 (e1.trans e2) (h.ex (e1.trans e2))
    · try dsimp only
      refine q_skip (et_B fun H1 e1 Q q => ⟨_, rfl, _, _, _, _, false, rfl, .own _, .base (.int p), T.kit_int_Ratio, q H1 (Ex.refl H1)⟩) fun H1 e1 => ?_
      try dsimp only
      exact s_retR (er_rat1 (K := K) (ev_var (i := 0) rfl)) fun v H2 e2 hv => k v H2 (e1.trans e2) hv

def pAdd (a b c d : Int) : Int × Int := (a * d + c * b, b * d)
def pSub (a b c d : Int) : Int × Int := (a * d - c * b, b * d)
def pMul (a b c d : Int) : Int × Int := (a * c, b * d)
def pRev (P : Int → Int → Int → Int → Int × Int) (a b c d : Int) : Int × Int := P c d a b
def spArith (A : Ads) (P : Int → Int → Int → Int → Int × Int) : Sp := fun vs H Q E => ∃ (x y : V) (a b c d : Int), vs = [x, y] ∧ IsRt A x H a b ∧ IsN A y H c d ∧ (Sz a ∧ Sz b ∧ Sz c ∧ Sz d) ∧ (b ≠ 0 ∧ d ≠ 0) ∧
  ∀ v H', Ex H H' → IsRt A v H' (P a b c d).1 (P a b c d).2 → Q v H'
theorem kit_num {K : PySem.W.Frag} {t c1 c2 : Value} {b1 : Bool} (h1 : PySem.W.kitOne K t c1 = some b1) (h2 : b1 = false → PySem.W.kitOne K t c2 = some true) : PySem.W.kitAny K t [c1, c2] = some true := by
  unfold PySem.W.kitAny
  rw [h1]
  cases b1 with
  | true => rfl
  | false =>
    show PySem.W.kitAny K t [c2] = some true
    unfold PySem.W.kitAny
    rw [h2 rfl]
theorem ev_isNum {K : PySem.W.Frag} {A : Ads} {σ : L2.St} {H : Hp} {i : Nat} {y : V} {c d : Int} (hy : IsN A y H c d) (ty : ∀ (H : Hp) (a dx : Addr) (fs : List (Str × V)), H a = some (.ins A.C_Ratio dx fs) → TyX K H (.ref a) (.ref A.C_Ratio))
    (k1 : PySem.W.kitOne K (.ref A.C_Ratio) (.type "int") = some false) (k2 : PySem.W.kitOne K (.ref A.C_Ratio) (.ref A.C_Ratio) = some true) (k3 : PySem.W.kitOne K (.type "int") (.type "int") = some true) (hσ : σ[i]? = some (some y)) :
    Ev (tCB (rIsiT K) (tCons (tVar i) (tCons (tTup (tCons (tC (.ty "int")) (tCons (tC (.ref A.C_Ratio)) tNil))) tNil))) σ H (.bl true) := fun H1 e Q q =>
  ⟨y, hσ, by show 2 ≤ sizeLine; decide, fun tp htp => by
    have e2 : Ex H1 (upd H1 tp (.tup [.ty "int", .ref A.C_Ratio])) := Ex.new htp
    rcases hy with h | ⟨rfl, rfl⟩
    · obtain ⟨t, u, hl, a, dx, rfl, hi⟩ := h
      exact ⟨_, tp, _, _, _, true, rfl, upd_same, .cons (.ty _) (.cons (.own _) .nil), ty _ a dx _ (e2 _ _ (e _ _ hi)), kit_num k1 fun _ => k2, q _ e2⟩
    · exact ⟨_, tp, _, _, _, true, rfl, upd_same, .cons (.ty _) (.cons (.own _) .nil), .base (.int c), kit_num k3 (fun z => Bool.noConfusion z), q _ e2⟩⟩
theorem ok_Ratio_add (T : Txt K mg A) : FnOk P w K mg base (L2.CX P w) 7 A.f_Ratio_add A.d_Ratio_add (["self", "other"] : List Str) (spArith A pAdd) := by
  refine T.F_Ratio_add.okX sc_Ratio_add (fun vs H Q E h => ?_) (fun cdv Ar outer s H vs Q E hr h => ?_)
  · obtain ⟨x, y, a, b, c, d, rfl, _⟩ := h
    rfl
  · obtain ⟨x, y, a, b, c, d, rfl, hx, hy, ⟨sa, sb, sc, sd⟩, ⟨hb, hd⟩, k⟩ := h
    refine ⟨_, (pss_cons (ps_if (pt_not (pt_val (pe_callB call_isiT (by rfl) T.z_isinstance (by decide +kernel) (pa_cons (pv 1) (pa_cons (pe_tup (pa_cons (pe_bltn (v := .ty "int") (by rfl) T.z_int (by decide +kernel) rfl) (pa_cons (pe_glob (v := .ref A.C_Ratio) rfl T.g_Ratio rfl) pa_nil))) pa_nil))))) (pss_one (ps_ret pe_never)) pss_nil)
        (pss_cons (ps_set (i := 2) sc_Ratio_add.nd rfl (Or.inl rfl) (pe_call (ok_as_ratio T) (hr.mono (by omega)) rfl T.g_as_ratio T.k_as_ratio (b_as_ratio T) .nil (passes_call (takes_of rfl rfl rfl rfl) (fun _ _ _ _ h => h)) (pa_cons (pv 1) pa_nil)))
        (pss_one (ps_ret (pe_make T.mk_Ratio (ok_Ratio_init T) (hr.mono (by omega)) rfl T.g_Ratio (b_Ratio_init T) .nil (passes_call (takes_of rfl rfl rfl rfl) (fun _ _ _ _ h => h)) (pa_cons (pe_op op_add (pe_op op_mulW (pe_fldK (pv 0) rfl) (pe_fldK (pv 2) rfl)) (pe_op op_mulW (pe_fldK (pv 2) rfl) (pe_fldK (pv 0) rfl))) (pa_cons (pe_op op_mulW (pe_fldK (pv 0) rfl) (pe_fldK (pv 2) rfl)) pa_nil))))))), ?_⟩
    try dsimp only
    refine q_skip (et_notT (et_B (ev_isNum hy T.ty_Ratio T.kit_Ratio_int T.kit_Ratio_Ratio (kit_ty (by decide +kernel)) (i := 1) rfl))) fun H1 e1 => ?_
    replace hx := hx.ex e1
    replace hy := hy.ex e1
    try dsimp only
    refine q_asgR (er_asN (er_nat (i := 1) rfl hy)) fun v H2 e2 hv => ?_
    replace hx := hx.ex e2
    obtain ⟨t, u, l1, r1⟩ := hx
    obtain ⟨t', u', l2, r2⟩ := hv
    have st := sa.le l1.lt
    have su := sb.le l1.lu
    have st' := sc.le l2.lt
    have su' := sd.le l2.lu
    have p1 := l1.pos
    have p2 := l2.pos
    have ft : ∀ G, Ex H2 G → Ev (tFld K (tVar 0) "top") [some x, some y, some v] G (.int t) := fun G e => ev_top (ev_var rfl) (r1.ex e) T.cl_Ratio T.na_Ratio_top
    have fu : ∀ G, Ex H2 G → Ev (tFld K (tVar 0) "under") [some x, some y, some v] G (.int u) := fun G e => ev_under (ev_var rfl) (r1.ex e) T.cl_Ratio T.na_Ratio_under
    have ft' : ∀ G, Ex H2 G → Ev (tFld K (tVar 2) "top") [some x, some y, some v] G (.int t') := fun G e => ev_top (ev_var rfl) (r2.ex e) T.cl_Ratio T.na_Ratio_top
    have fu' : ∀ G, Ex H2 G → Ev (tFld K (tVar 2) "under") [some x, some y, some v] G (.int u') := fun G e => ev_under (ev_var rfl) (r2.ex e) T.cl_Ratio T.na_Ratio_under
    try dsimp only
    exact s_retR (er_rat (K := K) (ev_op (ev_op (ft _ (Ex.refl _)) (fu' _ (Ex.refl _)) (rv_I (st.mul su'))) (ev_op (ft' _ (Ex.refl _)) (fu _ (Ex.refl _)) (rv_I (st'.mul su))) rv_I0) (ev_op (fu _ (Ex.refl _)) (fu' _ (Ex.refl _)) (rv_I (su.mul su'))) (mul_ne (by omega) (by omega)) (su.low su')) fun w H3 e3 hw => by
      obtain ⟨T', U', hl, hR⟩ := hw
      exact k w H3 ((e1.trans e2).trans e3) ⟨T', U', low_add l1 l2 hl hb hd, hR⟩
theorem ok_Ratio_mul (T : Txt K mg A) : FnOk P w K mg base (L2.CX P w) 7 A.f_Ratio_mul A.d_Ratio_mul (["self", "other"] : List Str) (spArith A pMul) := by
  refine T.F_Ratio_mul.okX sc_Ratio_mul (fun vs H Q E h => ?_) (fun cdv Ar outer s H vs Q E hr h => ?_)
  · obtain ⟨x, y, a, b, c, d, rfl, _⟩ := h
    rfl
  · obtain ⟨x, y, a, b, c, d, rfl, hx, hy, ⟨sa, sb, sc, sd⟩, ⟨hb, hd⟩, k⟩ := h
    refine ⟨_, (pss_cons (ps_if (pt_not (pt_val (pe_callB call_isiT (by rfl) T.z_isinstance (by decide +kernel) (pa_cons (pv 1) (pa_cons (pe_tup (pa_cons (pe_bltn (v := .ty "int") (by rfl) T.z_int (by decide +kernel) rfl) (pa_cons (pe_glob (v := .ref A.C_Ratio) rfl T.g_Ratio rfl) pa_nil))) pa_nil))))) (pss_one (ps_ret pe_never)) pss_nil)
        (pss_cons (ps_set (i := 2) sc_Ratio_mul.nd rfl (Or.inl rfl) (pe_call (ok_as_ratio T) (hr.mono (by omega)) rfl T.g_as_ratio T.k_as_ratio (b_as_ratio T) .nil (passes_call (takes_of rfl rfl rfl rfl) (fun _ _ _ _ h => h)) (pa_cons (pv 1) pa_nil)))
        (pss_one (ps_ret (pe_make T.mk_Ratio (ok_Ratio_init T) (hr.mono (by omega)) rfl T.g_Ratio (b_Ratio_init T) .nil (passes_call (takes_of rfl rfl rfl rfl) (fun _ _ _ _ h => h)) (pa_cons (pe_op op_mulW (pe_fldK (pv 0) rfl) (pe_fldK (pv 2) rfl)) (pa_cons (pe_op op_mulW (pe_fldK (pv 0) rfl) (pe_fldK (pv 2) rfl)) pa_nil))))))), ?_⟩
    try dsimp only
    refine q_skip (et_notT (et_B (ev_isNum hy T.ty_Ratio T.kit_Ratio_int T.kit_Ratio_Ratio (kit_ty (by decide +kernel)) (i := 1) rfl))) fun H1 e1 => ?_
    replace hx := hx.ex e1
    replace hy := hy.ex e1
    try dsimp only
    refine q_asgR (er_asN (er_nat (i := 1) rfl hy)) fun v H2 e2 hv => ?_
    replace hx := hx.ex e2
    obtain ⟨t, u, l1, r1⟩ := hx
    obtain ⟨t', u', l2, r2⟩ := hv
    have st := sa.le l1.lt
    have su := sb.le l1.lu
    have st' := sc.le l2.lt
    have su' := sd.le l2.lu
    have p1 := l1.pos
    have p2 := l2.pos
    have ft : ∀ G, Ex H2 G → Ev (tFld K (tVar 0) "top") [some x, some y, some v] G (.int t) := fun G e => ev_top (ev_var rfl) (r1.ex e) T.cl_Ratio T.na_Ratio_top
    have fu : ∀ G, Ex H2 G → Ev (tFld K (tVar 0) "under") [some x, some y, some v] G (.int u) := fun G e => ev_under (ev_var rfl) (r1.ex e) T.cl_Ratio T.na_Ratio_under
    have ft' : ∀ G, Ex H2 G → Ev (tFld K (tVar 2) "top") [some x, some y, some v] G (.int t') := fun G e => ev_top (ev_var rfl) (r2.ex e) T.cl_Ratio T.na_Ratio_top
    have fu' : ∀ G, Ex H2 G → Ev (tFld K (tVar 2) "under") [some x, some y, some v] G (.int u') := fun G e => ev_under (ev_var rfl) (r2.ex e) T.cl_Ratio T.na_Ratio_under
    try dsimp only
    exact s_retR (er_rat (K := K) (ev_op (ft _ (Ex.refl _)) (ft' _ (Ex.refl _)) (rv_I (st.mul st'))) (ev_op (fu _ (Ex.refl _)) (fu' _ (Ex.refl _)) (rv_I (su.mul su'))) (mul_ne (by omega) (by omega)) (su.low su')) fun w H3 e3 hw => by
      obtain ⟨T', U', hl, hR⟩ := hw
      exact k w H3 ((e1.trans e2).trans e3) ⟨T', U', low_mul l1 l2 hl hb hd, hR⟩

def spNeg (A : Ads) : Sp := fun vs H Q E => ∃ (x : V) (a b : Int), vs = [x] ∧ IsRt A x H a b ∧ (Sz a ∧ Sz b) ∧ b ≠ 0 ∧ ∀ v H', Ex H H' → IsRt A v H' (-a) b → Q v H' 
theorem ok_Ratio_neg (T : Txt K mg A) : FnOk P w K mg base (L2.CX P w) 5 A.f_Ratio_neg A.d_Ratio_neg (["self"] : List Str) (spNeg A) := by
  refine T.F_Ratio_neg.okX sc_Ratio_neg (fun vs H Q E h => ?_) (fun cdv Ar outer s H vs Q E hr h => ?_)
  · obtain ⟨x, a, b, rfl, _⟩ := h
    rfl
  · obtain ⟨x, a, b, rfl, ⟨t, u, l1, r1⟩, ⟨sa, sb⟩, hb, k⟩ := h
    refine ⟨_, (pss_one (ps_ret (pe_make T.mk_Ratio (ok_Ratio_init T) (hr.mono (by omega)) rfl T.g_Ratio (b_Ratio_init T) .nil (passes_call (takes_of rfl rfl rfl rfl) (fun _ _ _ _ h => h)) (pa_cons (pe_un un_neg (pe_fldK (pv 0) rfl)) (pa_cons (pe_fldK (pv 0) rfl) pa_nil))))), ?_⟩
    have p1 := l1.pos
    try dsimp only
    exact s_retR (er_rat (K := K) (ev_un (ev_top (ev_var (i := 0) rfl) r1 T.cl_Ratio T.na_Ratio_top) ru_neg) (ev_under (ev_var (i := 0) rfl) r1 T.cl_Ratio T.na_Ratio_under) (by omega) (Nat.lt_of_lt_of_le (sb.le l1.lu).lt (Nat.pow_le_pow_right (by decide) (by decide)))) fun w H1 e1 hw => by
      obtain ⟨T', U', hl, hR⟩ := hw
      exact k w H1 e1 ⟨T', U', low_neg l1 hl hb, hR⟩

theorem er_binL {A : Ads} {P : Int → Int → Int → Int → Int × Int} {E : L2.St → XK} {σ : L2.St} {H : Hp} {ta tb : TE} {a b c d : Int} (hx : EvR ta σ H fun v H1 => IsRt A v H1 a b) (hy : EvR tb σ H fun v H1 => IsN A v H1 c d) (hs : Sz a ∧ Sz b ∧ Sz c ∧ Sz d) (hn : b ≠ 0 ∧ d ≠ 0) :
    EvR (tOpS (rAlt (rOwn2 A.C_Ratio (spArith A P) E) (rOwnI A.C_Ratio (spArith A P) E)) ta tb) σ H fun v H1 => IsRt A v H1 (P a b c d).1 (P a b c d).2 := fun H1 e Q q =>
  hx H1 e _ fun x H2 e2 hX => hy H2 (e.trans e2) _ fun y H3 e3 hY => by
    have hX3 := hX.ex e3
    obtain ⟨t, u, l1, xa, xd, rfl, hi⟩ := id hX3
    rcases hY with hY | ⟨rfl, rfl⟩
    · obtain ⟨t', u', l2, ya, yd, rfl, hj⟩ := id hY
      exact .inl ⟨xa, xd, _, ya, yd, _, rfl, hi, rfl, hj, _, _, a, b, c, d, rfl, hX3, .inl hY, hs, hn, fun v H4 e4 hv => q v H4 ((e2.trans e3).trans e4) hv⟩
    · exact .inr ⟨xa, xd, _, c, rfl, hi, rfl, _, _, a, b, c, 1, rfl, hX3, .inr ⟨rfl, rfl⟩, hs, hn, fun v H4 e4 hv => q v H4 ((e2.trans e3).trans e4) hv⟩
theorem er_neg {A : Ads} {E : L2.St → XK} {σ : L2.St} {H : Hp} {ta : TE} {a b : Int} (hx : EvR ta σ H fun v H1 => IsN A v H1 a b) (hs : Sz a ∧ Sz b) (hb : b ≠ 0) : EvR (tUnS (uOr (rOwn1 A.C_Ratio (spNeg A) E) rNegI) ta) σ H fun v H1 => IsN A v H1 (-a) b := fun H1 e Q q =>
  hx H1 e _ fun x H2 e2 hX => by
    rcases hX with hX | ⟨rfl, rfl⟩
    · obtain ⟨t, u, l1, xa, xd, rfl, hi⟩ := id hX
      exact .inl ⟨xa, xd, _, rfl, hi, _, a, b, rfl, hX, hs, hb, fun v H4 e4 hv => q v H4 (e2.trans e4) (.inl hv)⟩
    · exact .inr ⟨a, rfl, q _ H2 e2 (.inr ⟨rfl, rfl⟩)⟩
theorem er_negO {A : Ads} {E : L2.St → XK} {σ : L2.St} {H : Hp} {ta : TE} {a b : Int} (hx : EvR ta σ H fun v H1 => IsRt A v H1 a b) (hs : Sz a ∧ Sz b) (hb : b ≠ 0) : EvR (tUnS (rOwn1 A.C_Ratio (spNeg A) E) ta) σ H fun v H1 => IsRt A v H1 (-a) b := fun H1 e Q q =>
  hx H1 e _ fun x H2 e2 hX => by
    obtain ⟨t, u, l1, xa, xd, rfl, hi⟩ := id hX
    exact ⟨xa, xd, _, rfl, hi, _, a, b, rfl, hX, hs, hb, fun v H4 e4 hv => q v H4 (e2.trans e4) hv⟩

theorem ok_Ratio_sub (T : Txt K mg A) : FnOk P w K mg base (L2.CX P w) 9 A.f_Ratio_sub A.d_Ratio_sub (["self", "other"] : List Str) (spArith A pSub) := by
  refine T.F_Ratio_sub.okX sc_Ratio_sub (fun vs H Q E h => ?_) (fun cdv Ar outer s H vs Q E hr h => ?_)
  · obtain ⟨x, y, a, b, c, d, rfl, _⟩ := h
    rfl
  · obtain ⟨x, y, a, b, c, d, rfl, hx, hy, ⟨sa, sb, sc, sd⟩, ⟨hb, hd⟩, k⟩ := h
    refine ⟨_, (pss_one (ps_ret (pe_opS (ops_or (op_own2 (op := .Add) (E := fun _ => E) T.op_Ratio T.D_Ratio_add (ok_Ratio_add T) (hr.mono (by omega)) (b_Ratio_add T) (pAt (passes_call (takes_of rfl rfl rfl rfl) (fun _ _ _ _ h => h)))) (op_ownJ (op := .Add) (E := fun _ => E) T.op_Ratio T.D_Ratio_add T.I_Ratio_add (ok_Ratio_add T) (hr.mono (by omega)) (b_Ratio_add T) (pAt (passes_call (takes_of rfl rfl rfl rfl) (fun _ _ _ _ h => h))))) (pv 0) (pe_unS (uns_or (un_negO (E := fun _ => E) T.M_Ratio_neg (ok_Ratio_neg T) (hr.mono (by omega)) (b_Ratio_neg T) (pAt (passes_call (takes_of rfl rfl rfl rfl) (fun _ _ _ _ h => h)))) un_negI) (pv 1))))), ?_⟩
    exact s_retR (er_binL (P := pAdd) (er_at (i := 0) rfl hx) (er_neg (er_nat (i := 1) rfl hy) ⟨sc, sd⟩ hd) ⟨sa, sb, sz_neg sc, sd⟩ ⟨hb, hd⟩) fun v H1 e1 hv => k v H1 e1 (hv.as (show a * d + -c * b = a * d - c * b by rw [Int.neg_mul]; omega) rfl)

def spOver (A : Ads) : Sp := fun vs H Q E => ∃ (x y : V) (a b c d : Int), vs = [x, y] ∧ IsRt A x H a b ∧ IsN A y H c d ∧ (Sz a ∧ Sz b ∧ Sz c ∧ Sz d) ∧ (b ≠ 0 ∧ d ≠ 0) ∧ (c = 0 → ∀ H', Ex H H' → E (.ref A.C_ZeroUnder) none H') ∧
  (c ≠ 0 → ∀ v H', Ex H H' → IsRt A v H' (a * d) (b * c) → Q v H')
theorem low_over {a b c d t u t' u' T U : Int} (h1 : Low a b t u) (h2 : Low c d t' u') (h : Low (t * u') (u * t') T U) (hb : b ≠ 0) (hd : d ≠ 0) (hc : c ≠ 0) (ht : t' ≠ 0) : Low (a * d) (b * c) T U := by
  have e1 := h1.eq
  have e2 := h2.eq
  have p1 := h1.pos
  have p2 := h2.pos
  exact low_same h (by grind) (mul_ne (by omega) ht) (mul_ne hb hc)
theorem low_zero {c d t u : Int} (h : Low c d t u) (hd : d ≠ 0) : t = 0 ↔ c = 0 := by
  have e := h.eq
  have p := h.pos
  constructor
  · intro z
    rw [z, Int.zero_mul] at e
    exact (Int.mul_eq_zero.mp e.symm).resolve_right (by omega)
  · intro z
    rw [z, Int.zero_mul] at e
    exact (Int.mul_eq_zero.mp e).resolve_right hd
theorem ok_Ratio_over (T : Txt K mg A) : FnOk P w K mg base (L2.CX P w) 7 A.f_Ratio_over A.d_Ratio_over (["self", "number"] : List Str) (spOver A) := by
  refine T.F_Ratio_over.okX sc_Ratio_over (fun vs H Q E h => ?_) (fun cdv Ar outer s H vs Q E hr h => ?_)
  · obtain ⟨x, y, a, b, c, d, rfl, _⟩ := h
    rfl
  · obtain ⟨x, y, a, b, c, d, rfl, hx, hy, ⟨sa, sb, sc, sd⟩, ⟨hb, hd⟩, k1, k2⟩ := h
    refine ⟨_, (pss_cons (ps_set (i := 2) sc_Ratio_over.nd rfl (Or.inl rfl) (pe_call (ok_as_ratio T) (hr.mono (by omega)) rfl T.g_as_ratio T.k_as_ratio (b_as_ratio T) .nil (passes_call (takes_of rfl rfl rfl rfl) (fun _ _ _ _ h => h)) (pa_cons (pv 1) pa_nil)))
        (pss_one (ps_ret (pe_make T.mk_Ratio (ok_Ratio_init T) (hr.mono (by omega)) rfl T.g_Ratio (b_Ratio_init T) .nil (passes_call (takes_of rfl rfl rfl rfl) (fun _ _ _ _ h => h)) (pa_cons (pe_op op_mulW (pe_fldK (pv 0) rfl) (pe_fldK (pv 2) rfl)) (pa_cons (pe_op op_mulW (pe_fldK (pv 0) rfl) (pe_fldK (pv 2) rfl)) pa_nil)))))), ?_⟩
    try dsimp only
    refine q_asgR (er_asN (er_nat (i := 1) rfl hy)) fun v H2 e2 hv => ?_
    replace hx := hx.ex e2
    obtain ⟨t, u, l1, r1⟩ := hx
    obtain ⟨t', u', l2, r2⟩ := hv
    have st := sa.le l1.lt
    have su := sb.le l1.lu
    have st' := sc.le l2.lt
    have su' := sd.le l2.lu
    have p1 := l1.pos
    have z0 := low_zero l2 hd
    try dsimp only
    refine ev_op (ev_top (ev_var (i := 0) rfl) r1 T.cl_Ratio T.na_Ratio_top) (ev_under (ev_var (i := 2) rfl) r2 T.cl_Ratio T.na_Ratio_under) (rv_I (st.mul su')) H2 (Ex.refl _) _ fun H3 e3 => ev_op (ev_under (ev_var (i := 0) rfl) r1 T.cl_Ratio T.na_Ratio_under) (ev_top (ev_var (i := 2) rfl) r2 T.cl_Ratio T.na_Ratio_top) (rv_I (su.mul st')) H3 e3 _ fun H4 e4 => fun n dx hn hdx hne => ?_
    have e24 := e2.trans (e3.trans e4)
    refine ⟨n, dx, _, _, rfl, upd_same, su.low st', fun h0 H' e' => k1 (z0.mp ((Int.mul_eq_zero.mp h0).resolve_left (by omega))) H' (e24.trans ((ex_made hn hdx fun b o _ h => h).trans e')), fun h0 T' U' hl H' ho hv => ⟨rfl, ?_⟩⟩
    have t0 : t' ≠ 0 := fun z => h0 (by rw [z, Int.mul_zero])
    have c0 : c ≠ 0 := fun z => t0 (z0.mpr z)
    exact k2 c0 _ H' (e24.trans (ex_made hn hdx ho)) ⟨T', U', low_over l1 l2 hl hb hd c0 t0, n, dx, rfl, hv⟩

/-- z is p / q, rounded down; rounded up -/
def IsFl (z p q : Int) : Prop := ∃ t u, Low p q t u ∧ z * u ≤ t ∧ t < (z + 1) * u ∧ z.natAbs ≤ p.natAbs + 1
def IsCl (z p q : Int) : Prop := ∃ t u, Low p q t u ∧ t ≤ z * u ∧ (z - 1) * u < t ∧ z.natAbs ≤ p.natAbs + 1
def spFloorOf (A : Ads) : Sp := fun vs H Q E => ∃ (x : V) (a b : Int), vs = [x] ∧ IsRt A x H a b ∧ Sz b ∧ ∀ z H', Ex H H' → IsFl z a b → Q (.int z) H'
theorem div_abs {t u : Int} (hu : 0 < u) : (t / u).natAbs ≤ t.natAbs + 1 := by
  have h1 := Int.mul_ediv_add_emod t u
  have h2 := Int.emod_nonneg t (show u ≠ 0 by omega)
  have h3 := Int.emod_lt_of_pos t hu
  rcases Int.lt_or_le (t / u) 0 with h | h
  · have : u * (t / u) ≤ 1 * (t / u) := Int.mul_le_mul_of_nonpos_right (by omega) (by omega)
    have h4 : u * (t / u + 1) ≤ 1 * (t / u + 1) := Int.mul_le_mul_of_nonpos_right (by omega) (by omega)
    rw [Int.mul_add] at h4
    omega
  · have : 1 * (t / u) ≤ u * (t / u) := Int.mul_le_mul_of_nonneg_right (by omega) h
    omega
theorem fdiv_fl {p q t u : Int} (h : Low p q t u) : IsFl (t.fdiv u) p q := by
  have hu := h.pos
  have e : t.fdiv u = t / u := Int.fdiv_eq_ediv_of_nonneg t (by omega)
  rw [e]
  have h1 := Int.mul_ediv_add_emod t u
  have h2 := Int.emod_nonneg t (show u ≠ 0 by omega)
  have h3 := Int.emod_lt_of_pos t hu
  refine ⟨t, u, h, ?_, ?_, Nat.le_trans (div_abs hu) (Nat.succ_le_succ h.lt)⟩
  · rw [Int.mul_comm]; omega
  · rw [Int.add_mul, Int.mul_comm]; omega
theorem fdiv_cl {p q t u : Int} (h : Low p q t u) : IsCl (-((-t).fdiv u)) p q := by
  have hu := h.pos
  have e : (-t).fdiv u = (-t) / u := Int.fdiv_eq_ediv_of_nonneg (-t) (by omega)
  rw [e]
  have h1 := Int.mul_ediv_add_emod (-t) u
  have h2 := Int.emod_nonneg (-t) (show u ≠ 0 by omega)
  have h3 := Int.emod_lt_of_pos (-t) hu
  refine ⟨t, u, h, ?_, ?_, ?_⟩
  · rw [Int.neg_mul, Int.mul_comm]; omega
  · rw [Int.sub_mul, Int.neg_mul, Int.mul_comm]; omega
  · have := div_abs (t := -t) hu
    have := h.lt
    omega
theorem cdiv {p z : Int} (h0 : 0 < z) (h : Sz z) : CDivV p z := ⟨by omega, Nat.lt_of_lt_of_le (log_lt h.lt (by decide)) (by decide)⟩
theorem er_floor {A : Ads} {E : XK} {σ : L2.St} {H : Hp} {ta : TE} {a b : Int} (hx : EvR ta σ H fun v H1 => IsRt A v H1 a b) (hb : Sz b) : EvR (tMeth A.C_Ratio "floor" (spFloorOf A) [] E ta tNil) σ H fun v _ => ∃ z : Int, v = .int z ∧ IsFl z a b := fun H1 e Q q =>
  hx H1 e _ fun x H2 e2 hX => by
    obtain ⟨t, u, l1, xa, xd, rfl, hi⟩ := id hX
    exact ⟨xa, xd, _, rfl, hi, by rfl, _, a, b, rfl, hX, hb, fun z H' e' hz => q _ H' (e2.trans e') ⟨z, rfl, hz⟩⟩
theorem ok_Ratio_floor (T : Txt K mg A) : FnOk P w K mg base CX0 1 A.f_Ratio_floor A.d_Ratio_floor (["self"] : List Str) (spFloorOf A) := by
  refine T.F_Ratio_floor.ok sc_Ratio_floor (fun vs H Q E h => ?_) (fun cdv Ar outer s H vs Q E hr h => ?_)
  · obtain ⟨x, a, b, rfl, _⟩ := h
    rfl
  · obtain ⟨x, a, b, rfl, ⟨t, u, l1, r1⟩, hb, k⟩ := h
    refine ⟨_, (pss_one (ps_ret (pe_op op_fdivV (pe_fldK (pv 0) rfl) (pe_fldK (pv 0) rfl)))), ?_⟩
    exact s_ret (v := .int (t.fdiv u)) (ev_op (ev_top (ev_var (i := 0) rfl) r1 T.cl_Ratio T.na_Ratio_top) (ev_under (ev_var (i := 0) rfl) r1 T.cl_Ratio T.na_Ratio_under) (rv_I (cdiv l1.pos (hb.le l1.lu)))) fun H1 e1 => k _ H1 e1 (fdiv_fl l1)

def spCeil (A : Ads) : Sp := fun vs H Q E => ∃ (x : V) (a b : Int), vs = [x] ∧ IsRt A x H a b ∧ Sz b ∧ ∀ z H', Ex H H' → IsCl z a b → Q (.int z) H' 
theorem ok_Ratio_ceiling (T : Txt K mg A) : FnOk P w K mg base CX0 1 A.f_Ratio_ceiling A.d_Ratio_ceiling (["self"] : List Str) (spCeil A) := by
  refine T.F_Ratio_ceiling.ok sc_Ratio_ceiling (fun vs H Q E h => ?_) (fun cdv Ar outer s H vs Q E hr h => ?_)
  · obtain ⟨x, a, b, rfl, _⟩ := h
    rfl
  · obtain ⟨x, a, b, rfl, ⟨t, u, l1, r1⟩, hb, k⟩ := h
    refine ⟨_, (pss_one (ps_ret (pe_un un_neg (pe_op op_fdivV (pe_un un_neg (pe_fldK (pv 0) rfl)) (pe_fldK (pv 0) rfl))))), ?_⟩
    exact s_ret (v := .int (-((-t).fdiv u))) (ev_un (ev_op (ev_un (ev_top (ev_var (i := 0) rfl) r1 T.cl_Ratio T.na_Ratio_top) ru_neg) (ev_under (ev_var (i := 0) rfl) r1 T.cl_Ratio T.na_Ratio_under) (rv_I (cdiv l1.pos (hb.le l1.lu)))) ru_neg) fun H1 e1 => k _ H1 e1 (fdiv_cl l1)

/-- z has the sign of l - r -/
def Sg (z l r : Int) : Prop := (z < 0 ↔ l < r) ∧ (z = 0 ↔ l = r)
def spLead (A : Ads) : Sp := fun vs H Q E => ∃ (x y : V) (a b c d : Int), vs = [x, y] ∧ IsRt A x H a b ∧ IsN A y H c d ∧ (Sz a ∧ Sz b ∧ Sz c ∧ Sz d) ∧ (0 < b ∧ 0 < d) ∧ ∀ z H', Ex H H' → Sg z (a * d) (c * b) → Q (.int z) H'
theorem low_sg {a b c d t u t' u' : Int} (h1 : Low a b t u) (h2 : Low c d t' u') (hb : 0 < b) (hd : 0 < d) : Sg (t * u' - t' * u) (a * d) (c * b) := by
  have e1 := h1.eq
  have e2 := h2.eq
  have m1 : 0 < b * d := Int.mul_pos hb hd
  have m2 : 0 < u * u' := Int.mul_pos h1.pos h2.pos
  have e : (t * u' - t' * u) * (b * d) = (a * d - c * b) * (u * u') := by grind
  generalize b * d = B at m1 e
  generalize u * u' = U at m2 e
  generalize t * u' - t' * u = z at e ⊢
  have hz : z < 0 ↔ z * B < 0 := ⟨fun h => Int.mul_neg_of_neg_of_pos h m1, fun h => Int.lt_of_not_ge fun g => absurd (Int.mul_nonneg g (Int.le_of_lt m1)) (by omega)⟩
  have hw : a * d - c * b < 0 ↔ (a * d - c * b) * U < 0 := ⟨fun h => Int.mul_neg_of_neg_of_pos h m2, fun h => Int.lt_of_not_ge fun g => absurd (Int.mul_nonneg g (Int.le_of_lt m2)) (by omega)⟩
  refine ⟨?_, ?_⟩
  · rw [hz, e, ← hw]
    omega
  · constructor
    · intro h
      rw [h, Int.zero_mul] at e
      have := (Int.mul_eq_zero.mp e.symm).resolve_right (by omega)
      omega
    · intro h
      rw [h, Int.sub_self, Int.zero_mul] at e
      exact (Int.mul_eq_zero.mp e).resolve_right (by omega)
theorem ok_u_lead (T : Txt K mg A) : FnOk P w K mg base (L2.CX P w) 7 A.f_u_lead A.d_u_lead (["ratio", "number"] : List Str) (spLead A) := by
  refine T.F_u_lead.okX sc_u_lead (fun vs H Q E h => ?_) (fun cdv Ar outer s H vs Q E hr h => ?_)
  · obtain ⟨x, y, a, b, c, d, rfl, _⟩ := h
    rfl
  · obtain ⟨x, y, a, b, c, d, rfl, hx, hy, ⟨sa, sb, sc, sd⟩, ⟨hb, hd⟩, k⟩ := h
    refine ⟨_, (pss_cons (ps_set (i := 2) sc_u_lead.nd rfl (Or.inl rfl) (pe_call (ok_as_ratio T) (hr.mono (by omega)) rfl T.g_as_ratio T.k_as_ratio (b_as_ratio T) .nil (passes_call (takes_of rfl rfl rfl rfl) (fun _ _ _ _ h => h)) (pa_cons (pv 1) pa_nil)))
        (pss_one (ps_ret (pe_op op_sub (pe_op op_mulW (pe_fldK (pv 0) rfl) (pe_fldK (pv 2) rfl)) (pe_op op_mulW (pe_fldK (pv 2) rfl) (pe_fldK (pv 0) rfl)))))), ?_⟩
    try dsimp only
    refine q_asgR (er_asN (er_nat (i := 1) rfl hy)) fun v H2 e2 hv => ?_
    replace hx := hx.ex e2
    obtain ⟨t, u, l1, r1⟩ := hx
    obtain ⟨t', u', l2, r2⟩ := hv
    have st := sa.le l1.lt
    have su := sb.le l1.lu
    have st' := sc.le l2.lt
    have su' := sd.le l2.lu
    try dsimp only
    exact s_ret (v := .int (t * u' - t' * u)) (ev_op (ev_op (ev_top (ev_var (i := 0) rfl) r1 T.cl_Ratio T.na_Ratio_top) (ev_under (ev_var (i := 2) rfl) r2 T.cl_Ratio T.na_Ratio_under) (rv_I (st.mul su'))) (ev_op (ev_top (ev_var (i := 2) rfl) r2 T.cl_Ratio T.na_Ratio_top) (ev_under (ev_var (i := 0) rfl) r1 T.cl_Ratio T.na_Ratio_under) (rv_I (st'.mul su))) rv_I0) fun H3 e3 => k _ H3 (e2.trans e3) (low_sg l1 l2 hb hd)

def spCmp (A : Ads) (R : Int → Int → Bool) : Sp := fun vs H Q E => ∃ (x y : V) (a b c d : Int), vs = [x, y] ∧ IsRt A x H a b ∧ IsN A y H c d ∧ (Sz a ∧ Sz b ∧ Sz c ∧ Sz d) ∧ (0 < b ∧ 0 < d) ∧ ∀ H', Ex H H' → Q (.bl (R (a * d) (c * b))) H'
def cLt (l r : Int) : Bool := decide (l < r)
def cLe (l r : Int) : Bool := decide (l ≤ r)
def cGt (l r : Int) : Bool := decide (r < l)
def cGe (l r : Int) : Bool := decide (r ≤ l)
def cEq (l r : Int) : Bool := decide (l = r)
theorem er_lead {A : Ads} {E : XK} {σ : L2.St} {H : Hp} {x y : V} {a b c d : Int} (h0 : σ[0]? = some (some x)) (h1 : σ[1]? = some (some y)) (hx : IsRt A x H a b) (hy : IsN A y H c d) (hs : Sz a ∧ Sz b ∧ Sz c ∧ Sz d) (hb : 0 < b ∧ 0 < d) :
    EvR (tCall (spLead A) [] E (tCons (tVar 0) (tCons (tVar 1) tNil))) σ H fun v _ => ∃ z : Int, v = .int z ∧ Sg z (a * d) (c * b) :=
  er_call (ea_cons (ev_var h0) (ea_cons (ev_var h1) ea_nil)) fun H1 e Q q => ⟨x, y, a, b, c, d, rfl, hx.ex e, hy.ex e, hs, hb, fun z H' e' hz => q _ H' e' ⟨z, rfl, hz⟩⟩
theorem ok_Ratio_lt (T : Txt K mg A) : FnOk P w K mg base (L2.CX P w) 9 A.f_Ratio_lt A.d_Ratio_lt (["self", "other"] : List Str) (spCmp A cLt) := by
  refine T.F_Ratio_lt.okX sc_Ratio_lt (fun vs H Q E h => ?_) (fun cdv Ar outer s H vs Q E hr h => ?_)
  · obtain ⟨x, y, a, b, c, d, rfl, _⟩ := h
    rfl
  · obtain ⟨x, y, a, b, c, d, rfl, hx, hy, hs, hb, k⟩ := h
    refine ⟨_, (pss_cons (ps_if (pt_not (pt_val (pe_callB call_isiT (by rfl) T.z_isinstance (by decide +kernel) (pa_cons (pv 1) (pa_cons (pe_tup (pa_cons (pe_bltn (v := .ty "int") (by rfl) T.z_int (by decide +kernel) rfl) (pa_cons (pe_glob (v := .ref A.C_Ratio) rfl T.g_Ratio rfl) pa_nil))) pa_nil))))) (pss_one (ps_ret pe_never)) pss_nil)
        (pss_one (ps_ret (pe_cmpR op_lt (pe_call (ok_u_lead T) (hr.mono (by omega)) rfl T.g_u_lead T.k_u_lead (b_u_lead T) .nil (passes_call (takes_of rfl rfl rfl rfl) (fun _ _ _ _ h => h)) (pa_cons (pv 0) (pa_cons (pv 1) pa_nil))) pe_int (nomark _))))), ?_⟩
    try dsimp only
    refine q_skip (et_notT (et_B (ev_isNum hy T.ty_Ratio T.kit_Ratio_int T.kit_Ratio_Ratio (kit_ty (by decide +kernel)) (i := 1) rfl))) fun H1 e1 => ?_
    try dsimp only
    refine er_lead (σ := [some x, some y]) rfl rfl (hx.ex e1) (hy.ex e1) hs hb H1 (Ex.refl _) _ fun v H2 e2 hv => ?_
    obtain ⟨z, rfl, h1, h2⟩ := hv
    have q := k H2 (e1.trans e2)
    refine ⟨z, 0, rfl, rfl, ?_⟩
    rw [show cLt (a * d) (c * b) = decide (z < 0) by unfold cLt; exact decide_eq_decide.mpr (by omega)] at q
    exact q
theorem ok_Ratio_le (T : Txt K mg A) : FnOk P w K mg base (L2.CX P w) 9 A.f_Ratio_le A.d_Ratio_le (["self", "other"] : List Str) (spCmp A cLe) := by
  refine T.F_Ratio_le.okX sc_Ratio_le (fun vs H Q E h => ?_) (fun cdv Ar outer s H vs Q E hr h => ?_)
  · obtain ⟨x, y, a, b, c, d, rfl, _⟩ := h
    rfl
  · obtain ⟨x, y, a, b, c, d, rfl, hx, hy, hs, hb, k⟩ := h
    refine ⟨_, (pss_cons (ps_if (pt_not (pt_val (pe_callB call_isiT (by rfl) T.z_isinstance (by decide +kernel) (pa_cons (pv 1) (pa_cons (pe_tup (pa_cons (pe_bltn (v := .ty "int") (by rfl) T.z_int (by decide +kernel) rfl) (pa_cons (pe_glob (v := .ref A.C_Ratio) rfl T.g_Ratio rfl) pa_nil))) pa_nil))))) (pss_one (ps_ret pe_never)) pss_nil)
        (pss_one (ps_ret (pe_cmpR op_le (pe_call (ok_u_lead T) (hr.mono (by omega)) rfl T.g_u_lead T.k_u_lead (b_u_lead T) .nil (passes_call (takes_of rfl rfl rfl rfl) (fun _ _ _ _ h => h)) (pa_cons (pv 0) (pa_cons (pv 1) pa_nil))) pe_int (nomark _))))), ?_⟩
    try dsimp only
    refine q_skip (et_notT (et_B (ev_isNum hy T.ty_Ratio T.kit_Ratio_int T.kit_Ratio_Ratio (kit_ty (by decide +kernel)) (i := 1) rfl))) fun H1 e1 => ?_
    try dsimp only
    refine er_lead (σ := [some x, some y]) rfl rfl (hx.ex e1) (hy.ex e1) hs hb H1 (Ex.refl _) _ fun v H2 e2 hv => ?_
    obtain ⟨z, rfl, h1, h2⟩ := hv
    have q := k H2 (e1.trans e2)
    refine ⟨z, 0, rfl, rfl, ?_⟩
    rw [show cLe (a * d) (c * b) = decide (z ≤ 0) by unfold cLe; exact decide_eq_decide.mpr (by omega)] at q
    exact q
theorem ok_Ratio_gt (T : Txt K mg A) : FnOk P w K mg base (L2.CX P w) 9 A.f_Ratio_gt A.d_Ratio_gt (["self", "other"] : List Str) (spCmp A cGt) := by
  refine T.F_Ratio_gt.okX sc_Ratio_gt (fun vs H Q E h => ?_) (fun cdv Ar outer s H vs Q E hr h => ?_)
  · obtain ⟨x, y, a, b, c, d, rfl, _⟩ := h
    rfl
  · obtain ⟨x, y, a, b, c, d, rfl, hx, hy, hs, hb, k⟩ := h
    refine ⟨_, (pss_cons (ps_if (pt_not (pt_val (pe_callB call_isiT (by rfl) T.z_isinstance (by decide +kernel) (pa_cons (pv 1) (pa_cons (pe_tup (pa_cons (pe_bltn (v := .ty "int") (by rfl) T.z_int (by decide +kernel) rfl) (pa_cons (pe_glob (v := .ref A.C_Ratio) rfl T.g_Ratio rfl) pa_nil))) pa_nil))))) (pss_one (ps_ret pe_never)) pss_nil)
        (pss_one (ps_ret (pe_cmpR op_gt (pe_call (ok_u_lead T) (hr.mono (by omega)) rfl T.g_u_lead T.k_u_lead (b_u_lead T) .nil (passes_call (takes_of rfl rfl rfl rfl) (fun _ _ _ _ h => h)) (pa_cons (pv 0) (pa_cons (pv 1) pa_nil))) pe_int (nomark _))))), ?_⟩
    try dsimp only
    refine q_skip (et_notT (et_B (ev_isNum hy T.ty_Ratio T.kit_Ratio_int T.kit_Ratio_Ratio (kit_ty (by decide +kernel)) (i := 1) rfl))) fun H1 e1 => ?_
    try dsimp only
    refine er_lead (σ := [some x, some y]) rfl rfl (hx.ex e1) (hy.ex e1) hs hb H1 (Ex.refl _) _ fun v H2 e2 hv => ?_
    obtain ⟨z, rfl, h1, h2⟩ := hv
    have q := k H2 (e1.trans e2)
    refine ⟨z, 0, rfl, rfl, ?_⟩
    rw [show cGt (a * d) (c * b) = decide (0 < z) by unfold cGt; exact decide_eq_decide.mpr (by omega)] at q
    exact q
theorem ok_Ratio_ge (T : Txt K mg A) : FnOk P w K mg base (L2.CX P w) 9 A.f_Ratio_ge A.d_Ratio_ge (["self", "other"] : List Str) (spCmp A cGe) := by
  refine T.F_Ratio_ge.okX sc_Ratio_ge (fun vs H Q E h => ?_) (fun cdv Ar outer s H vs Q E hr h => ?_)
  · obtain ⟨x, y, a, b, c, d, rfl, _⟩ := h
    rfl
  · obtain ⟨x, y, a, b, c, d, rfl, hx, hy, hs, hb, k⟩ := h
    refine ⟨_, (pss_cons (ps_if (pt_not (pt_val (pe_callB call_isiT (by rfl) T.z_isinstance (by decide +kernel) (pa_cons (pv 1) (pa_cons (pe_tup (pa_cons (pe_bltn (v := .ty "int") (by rfl) T.z_int (by decide +kernel) rfl) (pa_cons (pe_glob (v := .ref A.C_Ratio) rfl T.g_Ratio rfl) pa_nil))) pa_nil))))) (pss_one (ps_ret pe_never)) pss_nil)
        (pss_one (ps_ret (pe_cmpR op_ge (pe_call (ok_u_lead T) (hr.mono (by omega)) rfl T.g_u_lead T.k_u_lead (b_u_lead T) .nil (passes_call (takes_of rfl rfl rfl rfl) (fun _ _ _ _ h => h)) (pa_cons (pv 0) (pa_cons (pv 1) pa_nil))) pe_int (nomark _))))), ?_⟩
    try dsimp only
    refine q_skip (et_notT (et_B (ev_isNum hy T.ty_Ratio T.kit_Ratio_int T.kit_Ratio_Ratio (kit_ty (by decide +kernel)) (i := 1) rfl))) fun H1 e1 => ?_
    try dsimp only
    refine er_lead (σ := [some x, some y]) rfl rfl (hx.ex e1) (hy.ex e1) hs hb H1 (Ex.refl _) _ fun v H2 e2 hv => ?_
    obtain ⟨z, rfl, h1, h2⟩ := hv
    have q := k H2 (e1.trans e2)
    refine ⟨z, 0, rfl, rfl, ?_⟩
    rw [show cGe (a * d) (c * b) = decide (0 ≤ z) by unfold cGe; exact decide_eq_decide.mpr (by omega)] at q
    exact q

def spBool (A : Ads) : Sp := fun vs H Q E => ∃ (x : V) (a b : Int), vs = [x] ∧ IsRt A x H a b ∧ b ≠ 0 ∧ ∀ H', Ex H H' → Q (.bl (!decide (a = 0))) H' 
theorem ok_Ratio_bool (T : Txt K mg A) : FnOk P w K mg base CX0 1 A.f_Ratio_bool A.d_Ratio_bool (["self"] : List Str) (spBool A) := by
  refine T.F_Ratio_bool.ok sc_Ratio_bool (fun vs H Q E h => ?_) (fun cdv Ar outer s H vs Q E hr h => ?_)
  · obtain ⟨x, a, b, rfl, _⟩ := h
    rfl
  · obtain ⟨x, a, b, rfl, ⟨t, u, l1, r1⟩, hb, k⟩ := h
    refine ⟨_, (pss_one (ps_ret (pe_callTy call_bool1 (by rfl) T.z_bool (by decide +kernel) (pa_cons (pe_cmpR op_ne (pe_fldK (pv 0) rfl) pe_int (nomark _)) pa_nil)))), ?_⟩
    have z0 := low_zero l1 hb
    refine ev_op (r := rNe) (z := .bl (!decide (V.int t = V.int 0))) (ev_top (ev_var (i := 0) rfl) r1 T.cl_Ratio T.na_Ratio_top) ev_c (rv_ne rfl) H (Ex.refl _) _ fun H1 e1 => .inr ⟨_, rfl, ?_⟩
    rw [dec_ii, decide_eq_decide.mpr z0]
    exact k H1 e1

def spFdiv (A : Ads) : Sp := fun vs H Q E => ∃ (x y : V) (a b c d : Int), vs = [x, y] ∧ IsRt A x H a b ∧ IsN A y H c d ∧ (Sz a ∧ Sz b ∧ Sz c ∧ Sz d) ∧ (b ≠ 0 ∧ d ≠ 0) ∧ Sz (b * c) ∧ (c = 0 → ∀ H', Ex H H' → E (.ref A.C_ZeroUnder) none H') ∧
  (c ≠ 0 → ∀ z H', Ex H H' → IsFl z (a * d) (b * c) → Q (.int z) H')
theorem ok_Ratio_floordiv (T : Txt K mg A) : FnOk P w K mg base (L2.CX P w) 9 A.f_Ratio_floordiv A.d_Ratio_floordiv (["self", "other"] : List Str) (spFdiv A) := by
  refine T.F_Ratio_floordiv.okX sc_Ratio_floordiv (fun vs H Q E h => ?_) (fun cdv Ar outer s H vs Q E hr h => ?_)
  · obtain ⟨x, y, a, b, c, d, rfl, _⟩ := h
    rfl
  · obtain ⟨x, y, a, b, c, d, rfl, hx, hy, hs, hn, hbc, k1, k2⟩ := h
    refine ⟨_, (pss_cons (ps_if (pt_not (pt_val (pe_callB call_isiT (by rfl) T.z_isinstance (by decide +kernel) (pa_cons (pv 1) (pa_cons (pe_tup (pa_cons (pe_bltn (v := .ty "int") (by rfl) T.z_int (by decide +kernel) rfl) (pa_cons (pe_glob (v := .ref A.C_Ratio) rfl T.g_Ratio rfl) pa_nil))) pa_nil))))) (pss_one (ps_ret pe_never)) pss_nil)
        (pss_one (ps_ret (pe_meth0 (pe_meth (pv 0) T.cl_Ratio T.M_Ratio_over (ok_Ratio_over T) (hr.mono (by omega)) (b_Ratio_over T) .nil (passes_call (takes_of rfl rfl rfl rfl) (fun _ _ _ _ h => h)) (pa_cons (pv 1) pa_nil)) T.cl_Ratio T.M_Ratio_floor (ok_Ratio_floor T) (hr.mono (by omega)) (b_Ratio_floor T) .nil pass0)))), ?_⟩
    try dsimp only
    refine q_skip (et_notT (et_B (ev_isNum hy T.ty_Ratio T.kit_Ratio_int T.kit_Ratio_Ratio (kit_ty (by decide +kernel)) (i := 1) rfl))) fun H1 e1 => ?_
    have hX := hx.ex e1
    obtain ⟨t, u, l1, xa, xd, rfl, hi⟩ := id hX
    try dsimp only
    refine ⟨_, rfl, xa, xd, _, rfl, hi, by rfl, _, rfl, _, _, a, b, c, d, rfl, hX, hy.ex e1, hs, hn, fun c0 H2 e2 => k1 c0 H2 (e1.trans e2), fun c0 w H2 e2 hw => ?_⟩
    obtain ⟨t2, u2, l2, wa, wd, rfl, hj⟩ := id hw
    exact ⟨wa, wd, _, rfl, hj, by rfl, _, _, _, rfl, hw, hbc, fun z H3 e3 hz => k2 c0 z H3 (e1.trans (e2.trans e3)) hz⟩

def spMod (A : Ads) : Sp := fun vs H Q E => ∃ (x y : V) (a b c d : Int), vs = [x, y] ∧ IsRt A x H a b ∧ IsN A y H c d ∧ (Sz a ∧ Sz b ∧ Sz c ∧ Sz d) ∧ (b ≠ 0 ∧ d ≠ 0) ∧ Sz (b * c) ∧ (c = 0 → ∀ H', Ex H H' → E (.ref A.C_ZeroUnder) none H') ∧
  (c ≠ 0 → (∀ z, IsFl z (a * d) (b * c) → Sz z ∧ Sz (c * z)) ∧ ∀ z v H', Ex H H' → IsFl z (a * d) (b * c) → IsRt A v H' (a * d - c * b * z) (b * d) → Q v H')
theorem alt_num {A : Ads} {sp : Sp} {E : L2.St → XK} {σ : L2.St} {H : Hp} {Q : VK} {x y : V} {a b c d : Int} (hx : IsRt A x H a b) (hy : IsN A y H c d) (h : sp [x, y] H Q (E σ)) : rAlt (rOwn2 A.C_Ratio sp E) (rOwnI A.C_Ratio sp E) σ x y H Q := by
  obtain ⟨t, u, l1, xa, xd, rfl, hi⟩ := id hx
  rcases hy with hY | ⟨rfl, rfl⟩
  · obtain ⟨t', u', l2, ya, yd, rfl, hj⟩ := id hY
    exact .inl ⟨xa, xd, _, ya, yd, _, rfl, hi, rfl, hj, h⟩
  · exact .inr ⟨xa, xd, _, c, rfl, hi, rfl, h⟩
theorem ok_Ratio_mod (T : Txt K mg A) : FnOk P w K mg base (L2.CX P w) 11 A.f_Ratio_mod A.d_Ratio_mod (["self", "other"] : List Str) (spMod A) := by
  refine T.F_Ratio_mod.okX sc_Ratio_mod (fun vs H Q E h => ?_) (fun cdv Ar outer s H vs Q E hr h => ?_)
  · obtain ⟨x, y, a, b, c, d, rfl, _⟩ := h
    rfl
  · obtain ⟨x, y, a, b, c, d, rfl, hx, hy, hs, hn, hbc, k1, k2⟩ := h
    refine ⟨_, (pss_cons (ps_if (pt_not (pt_val (pe_callB call_isiT (by rfl) T.z_isinstance (by decide +kernel) (pa_cons (pv 1) (pa_cons (pe_tup (pa_cons (pe_bltn (v := .ty "int") (by rfl) T.z_int (by decide +kernel) rfl) (pa_cons (pe_glob (v := .ref A.C_Ratio) rfl T.g_Ratio rfl) pa_nil))) pa_nil))))) (pss_one (ps_ret pe_never)) pss_nil)
        (pss_one (ps_ret (pe_opS (op_own2 (op := .Sub) (E := fun _ => E) T.op_Ratio T.D_Ratio_sub (ok_Ratio_sub T) (hr.mono (by omega)) (b_Ratio_sub T) (pAt (passes_call (takes_of rfl rfl rfl rfl) (fun _ _ _ _ h => h)))) (pv 0) (pe_opS (op_ownJ (op := .Mult) (E := fun _ => E) T.op_Ratio T.D_Ratio_mul T.I_Ratio_mul (ok_Ratio_mul T) (hr.mono (by omega)) (b_Ratio_mul T) (pAt (passes_call (takes_of rfl rfl rfl rfl) (fun _ _ _ _ h => h)))) (pe_call (ok_as_ratio T) (hr.mono (by omega)) rfl T.g_as_ratio T.k_as_ratio (b_as_ratio T) .nil (passes_call (takes_of rfl rfl rfl rfl) (fun _ _ _ _ h => h)) (pa_cons (pv 1) pa_nil)) (pe_opS (ops_or (op_own2 (op := .FloorDiv) (E := fun _ => E) T.op_Ratio T.D_Ratio_floordiv (ok_Ratio_floordiv T) (hr.mono (by omega)) (b_Ratio_floordiv T) (pAt (passes_call (takes_of rfl rfl rfl rfl) (fun _ _ _ _ h => h)))) (op_ownJ (op := .FloorDiv) (E := fun _ => E) T.op_Ratio T.D_Ratio_floordiv T.I_Ratio_floordiv (ok_Ratio_floordiv T) (hr.mono (by omega)) (b_Ratio_floordiv T) (pAt (passes_call (takes_of rfl rfl rfl rfl) (fun _ _ _ _ h => h))))) (pv 0) (pv 1))))))), ?_⟩
    try dsimp only
    refine q_skip (et_notT (et_B (ev_isNum hy T.ty_Ratio T.kit_Ratio_int T.kit_Ratio_Ratio (kit_ty (by decide +kernel)) (i := 1) rfl))) fun H1 e1 => ?_
    have hX := hx.ex e1
    have hY := hy.ex e1
    have s1 : Sz 1 := sz_of (b := 1) (by decide) (by decide)
    try dsimp only
    refine ⟨x, rfl, er_asN (er_nat (i := 1) rfl hY) H1 (Ex.refl _) _ fun w H2 e2 hw => ⟨x, rfl, y, rfl, alt_num (hX.ex e2) (hY.ex e2) ⟨x, y, a, b, c, d, rfl, hX.ex e2, hY.ex e2, hs, hn, hbc, fun c0 H3 e3 => k1 c0 H3 ((e1.trans e2).trans e3), fun c0 z H3 e3 hz => ?_⟩⟩⟩
    obtain ⟨k3, k4⟩ := k2 c0
    obtain ⟨sz, scz⟩ := k3 z hz
    have hw3 := hw.ex e3
    obtain ⟨t, u, l1, wa, wd, rfl, hj⟩ := id hw3
    refine ⟨wa, wd, _, z, rfl, hj, rfl, _, _, c, d, z, 1, rfl, hw3, .inr ⟨rfl, rfl⟩, ⟨hs.2.2.1, hs.2.2.2, sz, s1⟩, ⟨hn.2, by decide⟩, fun v H4 e4 hv => ?_⟩
    have hX4 := hX.ex (e2.trans (e3.trans e4))
    obtain ⟨t', u', l2, xa, xd, rfl, hi⟩ := id hX4
    obtain ⟨t2, u2, l3, va, vd, rfl, hk⟩ := id hv
    refine ⟨xa, xd, _, va, vd, _, rfl, hi, rfl, hk, _, _, a, b, c * z, d * 1, rfl, hX4, .inl hv, ⟨hs.1, hs.2.1, scz, by rw [Int.mul_one]; exact hs.2.2.2⟩, ⟨hn.1, by rw [Int.mul_one]; exact hn.2⟩, fun v5 H5 e5 hv5 => k4 z v5 H5 (e1.trans (e2.trans (e3.trans (e4.trans e5)))) hz (hv5.as ?_ ?_)⟩
    · show a * (d * 1) - c * z * b = a * d - c * b * z
      grind
    · show b * (d * 1) = b * d
      rw [Int.mul_one]

theorem tyof_ex {K : PySem.W.Frag} {H H' : Hp} (e : Ex H H') {x : V} {t : Value} (h : TyOf K H x t) : TyOf K H' x t := by
  cases h with
  | non => exact .non
  | bl b => exact .bl b
  | int i => exact .int i
  | str z => exact .str z
  | flt z => exact .flt z
  | lst h => exact .lst (e _ _ h)
  | frz h => exact .frz (e _ _ h)
  | tup h => exact .tup (e _ _ h)
  | dK h => exact .dK (e _ _ h)
  | dT h => exact .dT (e _ _ h)
  | ins h c a n k m => exact .ins (e _ _ h) c a n k m
theorem tyx_ex {K : PySem.W.Frag} {H H' : Hp} (e : Ex H H') {x : V} {t : Value} (h : TyX K H x t) : TyX K H' x t := by
  cases h with
  | base h => exact .base (tyof_ex e h)
  | byt b => exact .byt b
  | set h => exact .set (e _ _ h)
  | kList h c => exact .kList h c
  | kTuple h c => exact .kTuple h c
  | kDict h c => exact .kDict h c
  | fTuple h => exact .fTuple (e _ _ h)
  | fDict h => exact .fDict (e _ _ h)
theorem low_uniq {a b c d t u t' u' : Int} (h1 : Low a b t u) (h2 : Low c d t' u') (hb : 0 < b) (hd : 0 < d) : (t = t' ∧ u = u') ↔ a * d = c * b := by
  have e1 := h1.eq
  have e2 := h2.eq
  have p1 := h1.pos
  have p2 := h2.pos
  constructor
  · rintro ⟨rfl, rfl⟩
    have : u * (a * d) = u * (c * b) := by grind
    exact Int.eq_of_mul_eq_mul_left (by omega) this
  · intro h
    have z := (low_sg h1 h2 hb hd).2.mpr h
    have e : t * u' = t' * u := by omega
    have en : t.natAbs * u'.natAbs = t'.natAbs * u.natAbs := by rw [← Int.natAbs_mul, e, Int.natAbs_mul]
    have d1 : u.natAbs ∣ u'.natAbs := Nat.Coprime.dvd_of_dvd_mul_left (k := u.natAbs) (m := t.natAbs) (by rw [Nat.Coprime, Nat.gcd_comm]; exact h1.cop) ⟨t'.natAbs, by rw [en, Nat.mul_comm]⟩
    have d2 : u'.natAbs ∣ u.natAbs := Nat.Coprime.dvd_of_dvd_mul_left (k := u'.natAbs) (m := t'.natAbs) (by rw [Nat.Coprime, Nat.gcd_comm]; exact h2.cop) ⟨t.natAbs, by rw [← en, Nat.mul_comm]⟩
    have eu : u = u' := by have := Nat.dvd_antisymm d1 d2; omega
    subst eu
    exact ⟨Int.eq_of_mul_eq_mul_right (by omega) e, rfl⟩
/-- something that is no number -/
def Odd (K : PySem.W.Frag) (A : Ads) (H : Hp) (y : V) : Prop := ∃ n : String, TyX K H y (.type n) ∧ PySem.W.subIn K (.type n) (.ref A.C_Ratio) = some false ∧ PySem.W.kitOne K (.type n) (.ref A.C_Ratio) = some false ∧ kitB n "bool" = some false ∧ kitB n "int" = some false
def spEqR (K : PySem.W.Frag) (A : Ads) : Sp := fun vs H Q E => ∃ (x y : V) (a b : Int), vs = [x, y] ∧ IsRt A x H a b ∧ 0 < b ∧ ((∃ c d, IsN A y H c d ∧ 0 < d ∧ ∀ H', Ex H H' → Q (.bl (cEq (a * d) (c * b))) H') ∨ (Odd K A H y ∧ ∀ H', Ex H H' → Q (.bl false) H'))
theorem odd_ex {K : PySem.W.Frag} {A : Ads} {H H' : Hp} {y : V} (ty : ∀ n, TyX K H y (.type n) → TyX K H' y (.type n)) (h : Odd K A H y) : Odd K A H' y := by
  obtain ⟨n, h1, h2⟩ := h
  exact ⟨n, ty n h1, h2⟩
theorem ok_Ratio_eq (T : Txt K mg A) : FnOk P w K mg base CX0 1 A.f_Ratio_eq A.d_Ratio_eq (["self", "other"] : List Str) (spEqR K A) := by
  refine T.F_Ratio_eq.ok sc_Ratio_eq (fun vs H Q E h => ?_) (fun cdv Ar outer s H vs Q E hr h => ?_)
  · obtain ⟨x, y, a, b, rfl, _⟩ := h
    rfl
  · obtain ⟨x, y, a, b, rfl, hx, hb, h⟩ := h
    refine ⟨_, (pss_cons (ps_if (pt_val (pe_callB isi_K (by rfl) T.z_isinstance (by decide +kernel) (pa_cons (pv 1) (pa_cons (pe_glob (v := .ref A.C_Ratio) rfl T.g_Ratio rfl) pa_nil)))) (pss_one (ps_ret (pe_and (pe_cmpR op_eq (pe_fldK (pv 0) rfl) (pe_fldK (pv 1) rfl) (nomark _)) (pe_one (pe_cmpR op_eq (pe_fldK (pv 0) rfl) (pe_fldK (pv 1) rfl) (nomark _)))))) pss_nil)
        (pss_cons (ps_if (pt_val (pe_callB isi_K (by rfl) T.z_isinstance (by decide +kernel) (pa_cons (pv 1) (pa_cons (pe_bltn (v := .ty "bool") (by rfl) T.z_bool (by decide +kernel) rfl) pa_nil)))) (pss_one (ps_ret pe_bl)) pss_nil)
        (pss_one (ps_ret (pe_and (pe_callB isi_K (by rfl) T.z_isinstance (by decide +kernel) (pa_cons (pv 1) (pa_cons (pe_bltn (v := .ty "int") (by rfl) T.z_int (by decide +kernel) rfl) pa_nil))) (pe_and (pe_cmpR op_eq (pe_fldK (pv 0) rfl) pe_int (nomark _)) (pe_one (pe_cmpR op_eq (pe_fldK (pv 0) rfl) (pv 1) (nomark _))))))))), ?_⟩
    obtain ⟨t, u, l1, r1⟩ := id hx
    rcases h with ⟨c, d, hy, hd, k⟩ | ⟨⟨n, ty, hs, h1, h2, h3⟩, k⟩
    · rcases hy with hy | ⟨rfl, rfl⟩
      · obtain ⟨t', u', l2, r2⟩ := id hy
        obtain ⟨ya, yd, rfl, hj⟩ := id r2
        try dsimp only
        refine q_take (et_B fun H1 e1 Q q => ⟨_, rfl, _, _, _, _, true, rfl, .own _, T.ty_Ratio H1 ya yd _ (e1 _ _ hj), kit_self, q H1 (Ex.refl H1)⟩) fun H1 e1 => ?_
        refine s_ret (v := .bl (decide (t = t') && decide (u = u'))) (ev_andV (a := decide (t = t')) (ev_is (ev_op (ev_top (ev_var (i := 0) rfl) (r1.ex e1) T.cl_Ratio T.na_Ratio_top) (ev_top (ev_var (i := 1) rfl) (r2.ex e1) T.cl_Ratio T.na_Ratio_top) (rv_eq rfl)) (by rw [dec_ii])) fun _ => ev_is (ev_op (ev_under (ev_var (i := 0) rfl) (r1.ex e1) T.cl_Ratio T.na_Ratio_under) (ev_under (ev_var (i := 1) rfl) (r2.ex e1) T.cl_Ratio T.na_Ratio_under) (rv_eq rfl)) (by rw [dec_ii])) fun H2 e2 => ?_
        have q := k H2 (e1.trans e2)
        rw [show cEq (a * d) (c * b) = (decide (t = t') && decide (u = u')) by unfold cEq; rw [← Bool.decide_and, decide_eq_decide]; exact (low_uniq l1 l2 hb hd).symm] at q
        exact q
      · try dsimp only
        refine q_skip (et_B fun H1 e1 Q q => ⟨_, rfl, _, _, _, _, false, rfl, .own _, .base (.int c), T.kit_int_Ratio, q H1 (Ex.refl H1)⟩) fun H1 e1 => ?_
        try dsimp only
        refine q_skip (et_B fun H2 e2 Q q => ⟨_, rfl, _, _, _, _, false, rfl, .ty _, .base (.int c), kit_ty (by decide +kernel), q H2 (Ex.refl H2)⟩) fun H2 e2 => ?_
        replace e2 := e1.trans e2
        try dsimp only
        refine s_ret (v := .bl (decide (u = 1) && decide (t = c))) (ev_andV (a := true) (fun H3 e3 Q q => ⟨_, rfl, _, _, _, _, true, rfl, .ty _, .base (.int c), kit_ty (by decide +kernel), q H3 (Ex.refl H3)⟩) fun _ => ev_andV (a := decide (u = 1)) (ev_is (ev_op (ev_under (ev_var (i := 0) rfl) (r1.ex e2) T.cl_Ratio T.na_Ratio_under) ev_c (rv_eq rfl)) (by rw [dec_ii])) fun _ => ev_is (ev_op (ev_top (ev_var (i := 0) rfl) (r1.ex e2) T.cl_Ratio T.na_Ratio_top) (ev_var (i := 1) rfl) (rv_eq rfl)) (by rw [dec_ii])) fun H3 e3 => ?_
        have q := k H3 (e2.trans e3)
        rw [show cEq (a * 1) (c * b) = (decide (u = 1) && decide (t = c)) by unfold cEq; rw [← Bool.decide_and, decide_eq_decide, ← low_uniq l1 (low_int (c := c)) hb (by decide)]; exact And.comm] at q
        exact q
    · try dsimp only
      refine q_skip (et_B fun H1 e1 Q q => ⟨_, rfl, _, _, _, _, false, rfl, .own _, tyx_ex e1 ty, h1, q H1 (Ex.refl H1)⟩) fun H1 e1 => ?_
      try dsimp only
      refine q_skip (et_B fun H2 e2 Q q => ⟨_, rfl, _, _, _, _, false, rfl, .ty _, tyx_ex (e1.trans e2) ty, kit_ty h2, q H2 (Ex.refl H2)⟩) fun H2 e2 => ?_
      replace e2 := e1.trans e2
      try dsimp only
      refine s_ret (v := .bl false) (ev_is (ev_andV (a := false) (b := false) (fun H3 e3 Q q => ⟨_, rfl, _, _, _, _, false, rfl, .ty _, tyx_ex (e2.trans e3) ty, kit_ty h3, q H3 (Ex.refl H3)⟩) fun z => Bool.noConfusion z) rfl) fun H3 e3 => k H3 (e2.trans e3)

def spStr (A : Ads) : Sp := fun vs H Q _ => ∃ (v : V) (t u : Int), vs = [v] ∧ RatAt A.C_Ratio v H t u ∧ t.natAbs.log2 < 1920 ∧ u.natAbs.log2 < 1920 ∧ ∀ H', Ex H H' → Q (.str (ratS t u)) H'
theorem ev_strO {A : Ads} {te : TE} {σ : L2.St} {H : Hp} {v : V} {t u : Int} (h : Ev te σ H v) (hv : RatAt A.C_Ratio v H t u) (ht : t.natAbs.log2 < 1920) (hu : u.natAbs.log2 < 1920) : Ev (tCB (rOwnStr A.C_Ratio (spStr A) E0) (tCons te tNil)) σ H (.str (ratS t u)) :=
  ev_cb (ea_cons h ea_nil) fun H1 e Q q => by
    obtain ⟨a, dx, rfl, hi⟩ := hv.ex e
    exact ⟨a, dx, _, rfl, hi, .ref a, t, u, rfl, ⟨a, dx, rfl, hi⟩, ht, hu, fun H' e' => ⟨_, rfl, q H' e'⟩⟩
theorem ev_strI {σ : L2.St} {H : Hp} {te : TE} {z : Int} (h : Ev te σ H (.int z)) (hz : z.natAbs.log2 < 1920) : Ev (tCB (fun xs H Q => ∃ i, xs = [V.int i] ∧ i.natAbs.log2 < 1920 ∧ Q (.str (toString i)) H) (tCons te tNil)) σ H (.str (tx z)) := ev_cb (ea_cons h ea_nil) fun H1 _ _ q => ⟨z, rfl, hz, q H1 (Ex.refl H1)⟩
theorem ok_Ratio_str (T : Txt K mg A) : FnOk P w K mg base CX0 1 A.f_Ratio_str A.d_Ratio_str (["self"] : List Str) (spStr A) := by
  refine T.F_Ratio_str.ok sc_Ratio_str (fun vs H Q E h => ?_) (fun cdv Ar outer s H vs Q E hr h => ?_)
  · obtain ⟨v, t, u, rfl, _⟩ := h
    rfl
  · obtain ⟨v, t, u, rfl, hv, ht, hu, k⟩ := h
    refine ⟨_, (pss_cons (ps_if (pt_cmpR op_eq (pe_fldK (pv 0) rfl) pe_int (nomark _)) (pss_one (ps_ret (pe_callTy call_str_int (by rfl) T.z_str (by decide +kernel) (pa_cons (pe_fldK (pv 0) rfl) pa_nil)))) pss_nil)
        (pss_one (ps_ret (pe_joined (PJ.cons (pe_fmt (pe_fldK (pv 0) rfl)) (PJ.cons pe_str (PJ.cons (pe_fmt (pe_fldK (pv 0) rfl)) PJ.nil))))))), ?_⟩
    try dsimp only
    refine q_when (b := decide (u = 1)) (et_is (et_test (ev_op (ev_under (ev_var (i := 0) rfl) hv T.cl_Ratio T.na_Ratio_under) ev_c (rv_eq rfl))) dec_ii) (fun hb H1 e1 => ?_) (fun hb H1 e1 => ?_)
    · refine s_ret (v := .str (ratS t u)) (ev_is (ev_strI (ev_top (ev_var (i := 0) rfl) (hv.ex e1) T.cl_Ratio T.na_Ratio_top) ht) ?_) fun H2 e2 => k H2 (e1.trans e2)
      unfold ratS
      rw [if_pos (of_decide_eq_true hb)]
    refine s_ret (v := .str (ratS t u)) (ev_is (ev_slash (ev_top (ev_var (i := 0) rfl) (hv.ex e1) T.cl_Ratio T.na_Ratio_top) (ev_under (ev_var (i := 0) rfl) (hv.ex e1) T.cl_Ratio T.na_Ratio_under) ht hu) ?_) fun H2 e2 => k H2 (e1.trans e2)
    unfold ratS
    rw [if_neg (of_decide_eq_false hb)]

def sp_cell (K : PySem.W.Frag) : Sp := fun vs H Q _ => ∃ (a : Addr) (ns : List Int) (k : Nat), vs = [.ref a, .int (k : Int)] ∧ SqL K H a (ns.map V.int) ∧ Q (.int (cellA ns k)) H
theorem ev_cell {K : PySem.W.Frag} {E : XK} {σ : L2.St} {H : Hp} {ta tk : TE} {a : Addr} {ns : List Int} {k : Nat} {z : Int} (ha : Ev ta σ H (.ref a)) (hk : Ev tk σ H (.int z)) (hS : SqL K H a (ns.map V.int)) (hz : z = (k : Int) := by rfl) : Ev (tCall (sp_cell K) [] E (tCons ta (tCons tk tNil))) σ H (.int (cellA ns k)) := fun H1 e Q q =>
  ha H1 e _ fun H2 e2 => hk H2 (e.trans e2) _ fun H3 e3 => by subst hz; exact ⟨a, ns, k, rfl, ex_l ((e.trans e2).trans e3) hS, q H3 (e2.trans e3)⟩
theorem ok_u_law_cell (T : Txt K mg A) : FnOk P w K mg base CX0 1 A.f_u_law_cell A.d_u_law_cell (["script", "k"] : List Str) (sp_cell K) := by
  refine T.F_u_law_cell.ok sc_u_law_cell (fun vs H Q E h => ?_) (fun cdv Ar outer s H vs Q E hr h => ?_)
  · obtain ⟨a, ns, k, rfl, _⟩ := h
    rfl
  · obtain ⟨a, ns, k, rfl, hS, q⟩ := h
    refine ⟨_, (pss_cons (ps_if (pt_cmpR op_lt (pv 1) (pe_callB len_K (by rfl) T.z_len (by decide +kernel) (pa_cons (pv 0) pa_nil)) (nomark _)) (pss_one (ps_ret (pe_callB call_abs (by rfl) T.z_abs (by decide +kernel) (pa_cons (pe_ix ix_lK (pv 0) (pv 1) (fun _ _ => rfl)) pa_nil)))) pss_nil)
        (pss_one (ps_ret pe_int))), ?_⟩
    refine ⟨_, rfl, _, rfl, .ref a, _, rfl, .inl ⟨_, hS, rfl⟩, _, _, rfl, rfl, _, rfl, ?_⟩
    unfold cellA at q
    rw [List.length_map]
    by_cases hk : k < ns.length
    · refine wayT (show (k : Int) < (ns.length : Int) by omega) ?_
      rw [if_pos hk] at q
      refine ⟨_, rfl, _, rfl, a, _, _, .int (ns.getD k 0), rfl, rfl, hS, atI_nat ?_, _, rfl, q⟩
      rw [List.getElem?_map, List.getD_eq_getElem?_getD, List.getElem?_eq_getElem hk]
      rfl
    · refine wayF (show ¬ (k : Int) < (ns.length : Int) by omega) ?_
      rw [if_neg hk] at q
      exact q

def sp_draws (K : PySem.W.Frag) : Sp := fun vs H Q _ => ∃ (c s : Int) (m : Addr) (ms : List Int), vs = [.int c, .int s, .ref m] ∧ SqL K H m (ms.map V.int) ∧ 0 ≤ c ∧ (-1000000 ≤ s ∧ s ≤ 1000000) ∧ ms.length ≤ 64 ∧
  (∀ x ∈ ms, 1 ≤ x ∧ x.natAbs < 2 ^ 1000) ∧ ∀ p H' ds, H p = none → Ex H H' → H' p = some (.lst (ds.map V.int)) → Drawn ms ds → Q (.ref p) H'
theorem er_draws {K : PySem.W.Frag} {E : XK} {σ : L2.St} {H : Hp} {tc ts tm : TE} {c z : Int} {ms : List Int} (hc : Ev tc σ H (.int c)) (hs : Ev ts σ H (.int z)) (hm : EvL tm σ H (ms.map V.int)) (h0 : 0 ≤ c) (hz : -1000000 ≤ z ∧ z ≤ 1000000) (hl : ms.length ≤ 64)
    (hb : ∀ x ∈ ms, 1 ≤ x ∧ x.natAbs < 2 ^ 1000) : EvR (tCall (sp_draws K) [] E (tCons tc (tCons ts (tCons tm tNil)))) σ H fun v H1 => ∃ p ds, v = .ref p ∧ H1 p = some (.lst (ds.map V.int)) ∧ Drawn ms ds := fun H1 e Q q =>
  hc H1 e _ fun H2 e2 => hs H2 (e.trans e2) _ fun H3 e3 => hm H3 ((e.trans e2).trans e3) _ fun m H4 _ e4 h4 =>
    ⟨c, z, m, ms, rfl, sq_of h4, h0, hz, hl, hb, fun p H' ds hp e' h' hD => q _ H' ((e2.trans e3).trans (e4.trans e')) ⟨p, ds, rfl, h', hD⟩⟩
theorem drawn_more {ms ds : List Int} {i : Nat} {m d : Int} (h : Drawn (ms.take i) ds) (hm : ms[i]? = some m) (h0 : 0 ≤ d) (h1 : d < m) : Drawn (ms.take (i + 1)) (ds ++ [d]) := by
  have hi : i < ms.length := (List.getElem?_eq_some_iff.mp hm).1
  obtain ⟨hl, hd⟩ := h
  have hl' : ds.length = i := by rw [hl, List.length_take]; omega
  refine ⟨by rw [List.length_append, hl', List.length_take]; simp; omega, fun j x hj => ?_⟩
  by_cases hji : j < i
  · have hx : (ms.take i)[j]? = some x := by
      rw [List.getElem?_take_of_lt hji]
      rw [List.getElem?_take_of_lt (by omega)] at hj
      exact hj
    obtain ⟨d', e, z⟩ := hd j x hx
    exact ⟨d', by rw [List.getElem?_append_left (by omega)]; exact e, z⟩
  · have hlt : j < i + 1 := by
      have := (List.getElem?_eq_some_iff.mp hj).1
      rw [List.length_take] at this
      omega
    have ej : j = i := by omega
    subst ej
    rw [List.getElem?_take_of_lt hlt, hm] at hj
    cases hj
    exact ⟨d, by rw [List.getElem?_append_right (by omega), hl', Nat.sub_self]; rfl, h0, h1⟩
theorem ok_u_law_draws (T : Txt K mg A) : FnOk P w K mg base CX0 1 A.f_u_law_draws A.d_u_law_draws (["cell", "salt", "menu"] : List Str) (sp_draws K) := by
  refine T.F_u_law_draws.ok sc_u_law_draws (fun vs H Q E h => ?_) (fun cdv Ar outer s H vs Q E hr h => ?_)
  · obtain ⟨c, s, m, ms, rfl, _⟩ := h
    rfl
  · obtain ⟨c, sa, m, ms, rfl, hS, hc, hs, hl, hm, k⟩ := h
    refine ⟨_, (pss_cons (ps_set (i := 3) sc_u_law_draws.nd rfl (Or.inl rfl) (pe_lst pa_nil))
        (pss_cons (ps_set (i := 4) sc_u_law_draws.nd rfl (Or.inl rfl) (pe_op op_sub (pv 0) (pe_op op_pow pe_int pe_int)))
        (pss_cons (ps_set (i := 5) sc_u_law_draws.nd rfl (Or.inl rfl) (pe_op op_add (pv 0) (pe_op op_mul pe_int (pv 1))))
        (pss_cons (ps_for PassesOwn.never rfl (pi_range1 rfl T.z_range (pa_cons (pe_callB len_K (by rfl) T.z_len (by decide +kernel) (pa_cons (pv 2) pa_nil)) pa_nil)) (pg_name (i := 6) sc_u_law_draws.nd rfl (Or.inl rfl)) (pss_one (ps_if (pt_cmpR op_ge (pv 4) pe_int (nomark _)) (pss_cons (ps_expr (pe_bm PySem.F.plainAttrs_list PySem.F.slot_list_append PySem.F.type_list_append mt_append (pv 3) (pa_cons (pe_op op_mod (pe_callTy call_int1 (by rfl) T.z_int (by decide +kernel) (pa_cons (pv 4) pa_nil)) (pe_ix ix_lK (pv 2) (pv 6) (fun _ _ => rfl))) pa_nil)))
        (pss_one (ps_set (i := 4) sc_u_law_draws.nd rfl (Or.inl rfl) (pe_op op_fdivW (pv 4) (pe_ix ix_lK (pv 2) (pv 6) (fun _ _ => rfl)))))) (pss_cons (ps_set (i := 5) sc_u_law_draws.nd rfl (Or.inl rfl) (pe_op op_mod (pe_callTy call_int1 (by rfl) T.z_int (by decide +kernel) (pa_cons (pe_op op_add (pe_op op_add (pe_op op_mul (pv 5) (pv 5)) (pe_op op_mul pe_int (pe_op op_add (pv 6) pe_int))) pe_int) pa_nil)) pe_int))
        (pss_cons (ps_set (i := 5) sc_u_law_draws.nd rfl (Or.inl rfl) (pe_op op_mod (pe_callTy call_int1 (by rfl) T.z_int (by decide +kernel) (pa_cons (pe_op op_add (pe_op op_mul (pv 5) (pv 5)) (pe_op op_fdiv (pv 5) pe_int)) pa_nil)) pe_int))
        (pss_one (ps_expr (pe_bm PySem.F.plainAttrs_list PySem.F.slot_list_append PySem.F.type_list_append mt_append (pv 3) (pa_cons (pe_op op_mod (pe_callTy call_int1 (by rfl) T.z_int (by decide +kernel) (pa_cons (pe_op op_fdiv (pv 5) pe_int) pa_nil)) (pe_ix ix_lK (pv 2) (pv 6) (fun _ _ => rfl))) pa_nil)))))))))
        (pss_one (ps_ret (pv 3))))))), ?_⟩
    refine ⟨Nat.zero_le _, fun p hp => ?_⟩
    refine ⟨_, rfl, _, _, rfl, rfl, ⟨by decide, by decide, by decide⟩, _, _, rfl, rfl, ?_⟩
    refine ⟨_, rfl, _, rfl, _, _, rfl, rfl, .inl ⟨by decide, by decide⟩, _, _, rfl, rfl, ?_⟩
    have e10 : ((10 : Int) ^ (18 : Int).toNat) = 1000000000000000000 := by decide
    have hS1 : SqL K (upd H p (.lst [])) m (ms.map V.int) := ex_l (Ex.new hp) hS
    refine ⟨_, rfl, .ref m, _, rfl, .inl ⟨_, hS1, rfl⟩, _, rfl, by omega, by rw [List.length_map]; omega, ?_⟩
    refine for_range (lo := 0) (n := ((ms.map V.int).length : Int).toNat) (fun i σ H' => ∃ (ds : List Int) (rest mixed : Int) (kv : Option V), σ = [some (.int c), some (.int sa), some (.ref m), some (.ref p), some (.int rest), some (.int mixed), kv] ∧ Ex H H' ∧
        H' p = some (.lst (ds.map V.int)) ∧ Drawn (ms.take i) ds ∧ (0 ≤ rest ∨ (-18446744073709551616 < mixed ∧ mixed < 18446744073709551616))) ?_ ?_ ?_
    · refine ⟨[], _, _, none, rfl, Ex.new hp, upd_same, ⟨by simp, fun i x h => by simp at h⟩, ?_⟩
      rw [e10]
      omega
    · rintro i σ H' hi ⟨ds, rest, mixed, kv, rfl, ex, hH, hD, hr0⟩
      have hi' : i < ms.length := by simpa using hi
      obtain ⟨mi, hmi⟩ : ∃ mi, ms[i]? = some mi := ⟨ms[i], List.getElem?_eq_getElem hi'⟩
      have hmm := hm mi (List.mem_of_getElem? hmi)
      have hSi : SqL K H' m (ms.map V.int) := ex_l ex hS
      have hat : atI (ms.map V.int) (0 + (i : Int)) = some (.int mi) := by
        rw [Int.zero_add]
        refine atI_nat ?_
        rw [List.getElem?_map, hmi]
        rfl
      have hdl : ds.length ≤ 64 := by
        have := hD.1
        rw [List.length_take] at this
        omega
      have hsz : (ds.map V.int).length < sizeLine := by
        rw [List.length_map]
        exact Nat.lt_of_le_of_lt hdl (by decide)
      have e0 : (0 : Int) + (i : Int) = (i : Int) := Int.zero_add _
      refine ⟨_, rfl, _, _, rfl, rfl, _, rfl, way (fun hr => ?_) (fun hr => ?_)⟩
      · refine ⟨_, rfl, .inl ⟨rfl, _, SqL.of hH⟩, _, rfl, .inl ⟨rest, rfl, _, rfl, _, rfl, m, _, _, .int mi, rfl, rfl, hSi, hat, _, _, rfl, rfl, (by show (0 : Int) < mi; omega), p, _, _, rfl, rfl, hH, hsz, ?_⟩⟩
        have ex2 : Ex H (upd H' p (.lst (ds.map V.int ++ [.int (rest % mi)]))) := Ex.mut ex hp
        refine ⟨_, rfl, _, rfl, _, rfl, m, _, _, .int mi, rfl, rfl, ex_l ex2 hS, hat, _, _, rfl, rfl, wide_div (by omega) hmm.2 (by decide) (by decide), ?_⟩
        refine ⟨ds ++ [rest % mi], rest / mi, mixed, _, rfl, ex2, ?_, drawn_more hD hmi (Int.emod_nonneg _ (by omega)) (Int.emod_lt_of_pos _ (by omega)), .inl (Int.ediv_nonneg hr (by omega))⟩
        rw [upd_same, List.map_append]
        rfl
      · have hx : -18446744073709551616 < mixed ∧ mixed < 18446744073709551616 := by omega
        refine ⟨_, rfl, _, rfl, _, _, rfl, rfl, .inl ⟨hx.1, hx.2⟩, _, rfl, _, _, rfl, rfl, _, _, rfl, rfl, .inl ⟨by decide, by decide⟩, _, _, rfl, rfl, _, _, rfl, rfl, .inl ⟨_, rfl, _, _, rfl, rfl, (by show (0 : Int) < 2147483399; decide), ?_⟩⟩
        have b1 : ∀ z : Int, 0 ≤ z % 2147483399 ∧ z % 2147483399 < 2147483399 := fun z => ⟨Int.emod_nonneg _ (by decide), Int.emod_lt_of_pos _ (by decide)⟩
        have b2 : ∀ z : Int, 0 ≤ z % 2147483629 ∧ z % 2147483629 < 2147483629 := fun z => ⟨Int.emod_nonneg _ (by decide), Int.emod_lt_of_pos _ (by decide)⟩
        refine ⟨_, rfl, _, rfl, _, _, rfl, rfl, .inl ⟨Int.lt_of_lt_of_le (by decide) (b1 _).1, Int.lt_trans (b1 _).2 (by decide)⟩, _, rfl, _, _, rfl, rfl, ⟨by decide, by decide⟩, _, _, rfl, rfl, .inl ⟨_, rfl, _, _, rfl, rfl, (by show (0 : Int) < 2147483629; decide), ?_⟩⟩
        refine ⟨_, rfl, .inl ⟨rfl, _, SqL.of hH⟩, _, rfl, _, _, rfl, rfl, ⟨by decide, by decide⟩, .inl ⟨_, rfl, _, rfl, _, rfl, m, _, _, .int mi, rfl, rfl, hSi, hat, _, _, rfl, rfl, (by show (0 : Int) < mi; omega), p, _, _, rfl, rfl, hH, hsz, ?_⟩⟩
        refine ⟨ds ++ [((((mixed * mixed + 3571 * (0 + (i : Int) + 1) + 40692) % 2147483399) * ((mixed * mixed + 3571 * (0 + (i : Int) + 1) + 40692) % 2147483399) + ((mixed * mixed + 3571 * (0 + (i : Int) + 1) + 40692) % 2147483399) / 97) % 2147483629) / 8 % mi], rest, _, _, rfl, Ex.mut ex hp, ?_, drawn_more hD hmi (Int.emod_nonneg _ (by omega)) (Int.emod_lt_of_pos _ (by omega)), .inr ⟨Int.lt_of_lt_of_le (by decide) (b2 _).1, Int.lt_trans (b2 _).2 (by decide)⟩⟩
        rw [upd_same, List.map_append]
        rfl
    · rintro σ H' ⟨ds, rest, mixed, kv, rfl, ex, hH, hD, _⟩
      refine ⟨_, rfl, k p H' ds hp ex hH ?_⟩
      have e : ((ms.map V.int).length : Int).toNat = ms.length := by simp
      rw [e, List.take_length] at hD
      exact hD

def spGcd : Sp := fun vs H Q _ => ∃ a b : Int, vs = [.int a, .int b] ∧ ∀ H', Ex H H' → Q (.int ((Nat.gcd a.natAbs b.natAbs : Nat) : Int)) H'
theorem ev_abs {σ : L2.St} {H : Hp} {te : TE} {z : Int} (h : Ev te σ H (.int z)) : Ev (tCB (fun xs H Q => ∃ i, xs = [V.int i] ∧ Q (V.int (if i < 0 then -i else i)) H) (tCons te tNil)) σ H (.int (z.natAbs : Int)) :=
  ev_is (ev_cb (ea_cons h ea_nil) fun H1 _ _ q => ⟨z, rfl, q H1 (Ex.refl H1)⟩) (by congr 1; split <;> omega)
theorem ev_lawGcd {E : XK} {σ : L2.St} {H : Hp} {ta tb : TE} {a b : Int} (ha : Ev ta σ H (.int a)) (hb : Ev tb σ H (.int b)) : Ev (tCall spGcd [] E (tCons ta (tCons tb tNil))) σ H (.int ((Nat.gcd a.natAbs b.natAbs : Nat) : Int)) :=
  ev_call (ea_cons ha (ea_cons hb ea_nil)) fun H1 e Q q E => ⟨a, b, rfl, fun H' e' => q H' e'⟩
theorem ok_u_law_gcd (T : Txt K mg A) : FnOk P w K mg base CX0 1 A.f_u_law_gcd A.d_u_law_gcd (["a", "b"] : List Str) spGcd := by
  refine T.F_u_law_gcd.ok sc_u_law_gcd (fun vs H Q E h => ?_) (fun cdv Ar outer s H vs Q E hr h => ?_)
  · obtain ⟨a, b, rfl, _⟩ := h
    rfl
  · obtain ⟨a, b, rfl, k⟩ := h
    refine ⟨_, (pss_cons (ps_set (i := 0) sc_u_law_gcd.nd rfl (Or.inl rfl) (pe_callB call_abs (by rfl) T.z_abs (by decide +kernel) (pa_cons (pv 0) pa_nil)))
        (pss_cons (ps_set (i := 1) sc_u_law_gcd.nd rfl (Or.inl rfl) (pe_callB call_abs (by rfl) T.z_abs (by decide +kernel) (pa_cons (pv 1) pa_nil)))
        (pss_cons (ps_while PassesOwn.never (pt_cmpR op_gt (pv 1) pe_int (nomark _)) (pss_one (ps_par (i := 0) (j := 1) (by rfl) sc_u_law_gcd.nd rfl rfl (by decide) rfl rfl (pa_cons (pv 1) (pa_cons (pe_op op_mod (pe_callTy call_int1 (by rfl) T.z_int (by decide +kernel) (pa_cons (pv 0) pa_nil)) (pv 1)) pa_nil)) (by rfl))))
        (pss_one (ps_ret (pv 0)))))), ?_⟩
    try dsimp only
    refine q_asg (v := .int (a.natAbs : Int)) (ev_abs (ev_var (i := 0) rfl)) fun H1 e1 => ?_
    try dsimp only
    refine q_asg (v := .int (b.natAbs : Int)) (ev_abs (ev_var (i := 1) rfl)) fun H2 e2 => ?_
    replace e2 := e1.trans e2
    try dsimp only
    refine q_while (fun m σ' H' => ∃ x y : Nat, σ' = [some (.int (x : Int)), some (.int (y : Int))] ∧ Ex H H' ∧ Nat.gcd x y = Nat.gcd a.natAbs b.natAbs ∧ m = y) b.natAbs ⟨a.natAbs, b.natAbs, rfl, e2, rfl, rfl⟩ ?_
    rintro m σ' H' ⟨x, y, rfl, e, hg, rfl⟩
    refine ⟨decide ((0 : Int) < (m : Int)), et_test (ev_op (ev_var (i := 1) rfl) ev_c rv_I0), fun hb H3 e3 => ?_, fun hb H3 e3 => ?_⟩
    · have hm : 0 < m := by have := of_decide_eq_true hb; omega
      refine ⟨fun σ2 H4 => σ2 = [some (.int (m : Int)), some (.int ((x % m : Nat) : Int))] ∧ Ex H H4, fun σ2 H4 h => ⟨x % m, Nat.mod_lt _ hm, m, x % m, h.1, h.2, ?_, rfl⟩, ?_⟩
      · rw [← hg, Nat.gcd_comm, ← Nat.gcd_rec, Nat.gcd_comm]
      · refine ea_cons (ev_var (i := 1) rfl) (ea_cons (ev_op (ev_int (ev_var (i := 0) rfl)) (ev_var (i := 1) rfl) (rv_I (by omega))) ea_nil) H3 (Ex.refl _) _ fun H4 e4 => ⟨_, _, rfl, ?_, e.trans (e3.trans e4)⟩
        rw [Int.natCast_emod]
        rfl
    · have hm : m = 0 := by have := of_decide_eq_false hb; omega
      subst hm
      rw [Nat.gcd_zero_right] at hg
      refine s_ret (v := .int (x : Int)) (ev_var (i := 0) rfl) fun H4 e4 => ?_
      rw [hg]
      exact k H4 (e.trans (e3.trans e4))

theorem isi {K : PySem.W.Frag} {H : Hp} {x : V} {t n : String} {b : Bool} {Q : VK} (ty : TyX K H x (.type t)) (h : kitB t n = some b) (q : Q (.bl b) H) : rIsi K [x, .ty n] H Q := ⟨x, .ty n, _, _, b, rfl, .ty n, ty, kit_ty h, q⟩
def sp_is_int (K : PySem.W.Frag) : Sp := fun vs H Q _ => ∃ i : Int, vs = [.int i] ∧ Q (.bl true) H
theorem ok_u_law_is_int (T : Txt K mg A) : FnOk P w K mg base CX0 1 A.f_u_law_is_int A.d_u_law_is_int (["x"] : List Str) (sp_is_int K) := by
  refine T.F_u_law_is_int.ok sc_u_law_is_int (fun vs H Q E h => ?_) (fun cdv Ar outer s H vs Q E hr h => ?_)
  · obtain ⟨i, rfl, _⟩ := h
    rfl
  · obtain ⟨i, rfl, q⟩ := h
    refine ⟨_, (pss_one (ps_ret (pe_and (pe_callB isi_K (by rfl) T.z_isinstance (by decide +kernel) (pa_cons (pv 0) (pa_cons (pe_bltn (v := .ty "int") (by rfl) T.z_int (by decide +kernel) rfl) pa_nil))) (pe_one (pe_not (pe_callB isi_K (by rfl) T.z_isinstance (by decide +kernel) (pa_cons (pv 0) (pa_cons (pe_bltn (v := .ty "bool") (by rfl) T.z_bool (by decide +kernel) rfl) pa_nil)))))))), ?_⟩
    refine ⟨_, rfl, _, _, _, _, true, rfl, .ty _, .base (.int i), kit_ty (by decide +kernel), ⟨_, rfl, iteT ?_⟩⟩
    exact ⟨_, rfl, _, _, _, _, false, rfl, .ty _, .base (.int i), kit_ty (by decide +kernel), ⟨_, rfl, q⟩⟩

def spIsRat (A : Ads) : Sp := fun vs H Q _ => ∃ (v : V) (t u : Int), vs = [v] ∧ RatAt A.C_Ratio v H t u ∧ 0 < u ∧ Nat.gcd t.natAbs u.natAbs = 1 ∧ ∀ H', Ex H H' → Q (.bl true) H'
theorem ev_isInt {K : PySem.W.Frag} {E : XK} {σ : L2.St} {H : Hp} {te : TE} {z : Int} (h : Ev te σ H (.int z)) : Ev (tCall (sp_is_int K) [] E (tCons te tNil)) σ H (.bl true) := fun H1 e Q q => h H1 e _ fun H2 e2 => ⟨z, rfl, q H2 e2⟩
theorem ok_u_law_is_ratio (T : Txt K mg A) : FnOk P w K mg base CX0 2 A.f_u_law_is_ratio A.d_u_law_is_ratio (["x"] : List Str) (spIsRat A) := by
  refine T.F_u_law_is_ratio.ok sc_u_law_is_ratio (fun vs H Q E h => ?_) (fun cdv Ar outer s H vs Q E hr h => ?_)
  · obtain ⟨v, t, u, rfl, _⟩ := h
    rfl
  · obtain ⟨v, t, u, rfl, hv, hu, hg, k⟩ := h
    refine ⟨_, (pss_cons (ps_if (PW.pt (pw_or (pt_not (pt_val (pe_callB isi_K (by rfl) T.z_isinstance (by decide +kernel) (pa_cons (pv 0) (pa_cons (pe_glob (v := .ref A.C_Ratio) rfl T.g_Ratio rfl) pa_nil))))) (pw_or (pt_not (pt_val (pe_call (ok_u_law_is_int T) (hr.mono (by omega)) rfl T.g_u_law_is_int T.k_u_law_is_int (b_u_law_is_int T) .nil pass0 (pa_cons (pe_fldK (pv 0) rfl) pa_nil)))) (pw_or1 (pt_not (pt_val (pe_call (ok_u_law_is_int T) (hr.mono (by omega)) rfl T.g_u_law_is_int T.k_u_law_is_int (b_u_law_is_int T) .nil pass0 (pa_cons (pe_fldK (pv 0) rfl) pa_nil)))))))) (pss_one (ps_ret pe_bl)) pss_nil)
        (pss_one (ps_ret (pe_and (pe_cmpR op_ge (pe_fldK (pv 0) rfl) pe_int (nomark _)) (pe_one (pe_cmpR op_eq (pe_call (ok_u_law_gcd T) (hr.mono (by omega)) rfl T.g_u_law_gcd T.k_u_law_gcd (b_u_law_gcd T) .nil pass0 (pa_cons (pe_fldK (pv 0) rfl) (pa_cons (pe_fldK (pv 0) rfl) pa_nil))) pe_int (nomark _))))))), ?_⟩
    obtain ⟨a, dx, rfl, hi⟩ := id hv
    try dsimp only
    refine q_skip (et_orF (et_notT (et_B fun H1 e1 Q q => ⟨_, rfl, _, _, _, _, true, rfl, .own _, T.ty_Ratio H1 a dx _ (e1 _ _ hi), kit_self, q H1 (Ex.refl H1)⟩)) (et_orF (et_notT (et_B (ev_isInt (ev_top (ev_var rfl) hv T.cl_Ratio T.na_Ratio_top)))) (et_notT (et_B (ev_isInt (ev_under (ev_var rfl) hv T.cl_Ratio T.na_Ratio_under)))))) fun H1 e1 => ?_
    try dsimp only
    refine s_ret (v := .bl true) (ev_andV (a := true) (ev_is (ev_op (ev_under (ev_var rfl) (hv.ex e1) T.cl_Ratio T.na_Ratio_under) ev_c rv_I0) (by congr 1; exact decide_eq_true (by omega))) fun _ => ev_is (ev_op (ev_lawGcd (ev_top (ev_var rfl) (hv.ex e1) T.cl_Ratio T.na_Ratio_top) (ev_under (ev_var rfl) (hv.ex e1) T.cl_Ratio T.na_Ratio_under)) ev_c (rv_eq rfl)) (by rw [hg]; simp)) fun H2 e2 => k H2 (e1.trans e2)
def spWorth (A : Ads) : Sp := fun vs H Q _ => ∃ (v : V) (p q : Int), vs = [v, .int p, .int q] ∧ IsRt A v H p q ∧ p.natAbs < 2 ^ 4000 ∧ q.natAbs < 2 ^ 4000 ∧ ∀ H', Ex H H' → Q (.bl true) H'
theorem ev_worth {A : Ads} {E : XK} {σ : L2.St} {H : Hp} {ta tb tc : TE} {p q : Int} (ha : EvR ta σ H fun v H1 => IsRt A v H1 p q) (hb : Ev tb σ H (.int p)) (hc : Ev tc σ H (.int q)) (zp : p.natAbs < 2 ^ 4000) (zq : q.natAbs < 2 ^ 4000) :
    Ev (tCall (spWorth A) [] E (tCons ta (tCons tb (tCons tc tNil)))) σ H (.bl true) := fun H1 e Q k =>
  ha H1 e _ fun v H2 e2 hv => hb H2 (e.trans e2) _ fun H3 e3 => hc H3 ((e.trans e2).trans e3) _ fun H4 e4 => ⟨v, p, q, rfl, hv.ex (e3.trans e4), zp, zq, fun H' e' => k H' (((e2.trans e3).trans e4).trans e')⟩
theorem ok_u_law_worth (T : Txt K mg A) : FnOk P w K mg base CX0 3 A.f_u_law_worth A.d_u_law_worth (["x", "top", "under"] : List Str) (spWorth A) := by
  refine T.F_u_law_worth.ok sc_u_law_worth (fun vs H Q E h => ?_) (fun cdv Ar outer s H vs Q E hr h => ?_)
  · obtain ⟨v, p, q, rfl, _⟩ := h
    rfl
  · obtain ⟨v, p, q, rfl, hv, zp, zq, k⟩ := h
    refine ⟨_, (pss_one (ps_ret (pe_and (pe_call (ok_u_law_is_ratio T) (hr.mono (by omega)) rfl T.g_u_law_is_ratio T.k_u_law_is_ratio (b_u_law_is_ratio T) .nil pass0 (pa_cons (pv 0) pa_nil)) (pe_one (pe_cmpR op_eq (pe_op op_mulW (pe_fldK (pv 0) rfl) (pv 2)) (pe_op op_mulW (pv 1) (pe_fldK (pv 0) rfl)) (nomark _)))))), ?_⟩
    obtain ⟨t, u, hl, hr⟩ := hv
    have m1 : CMulW t q := wide_mul (Nat.lt_of_le_of_lt hl.lt zp) zq (by decide) (by decide) (by decide)
    have m2 : CMulW p u := wide_mul zp (Nat.lt_of_le_of_lt hl.lu zq) (by decide) (by decide) (by decide)
    try dsimp only
    refine s_ret (v := .bl true) (ev_andV (a := true) (ev_call (ea_cons (ev_var (i := 0) rfl) ea_nil) fun H1 e Q q E => ⟨v, t, u, rfl, hr.ex e, hl.pos, hl.cop, fun H' e' => q H' e'⟩) fun _ =>
      ev_is (ev_op (ev_op (ev_top (ev_var (i := 0) rfl) hr T.cl_Ratio T.na_Ratio_top) (ev_var (i := 2) rfl) (rv_I m1)) (ev_op (ev_var (i := 1) rfl) (ev_under (ev_var (i := 0) rfl) hr T.cl_Ratio T.na_Ratio_under) (rv_I m2)) (rv_eq rfl)) (by rw [hl.eq]; simp)) fun H2 e2 => k H2 e2

theorem el_is {te : TE} {σ : L2.St} {H : Hp} {xs ys : List V} (h : EvL te σ H xs) (e : xs = ys) : EvL te σ H ys := e ▸ h
theorem big200 {x : Int} (h : x.natAbs ≤ 10 ^ 60) : x.natAbs < 2 ^ 200 := Nat.lt_of_le_of_lt h (by decide)
theorem mw {i j : Int} (h0 : 0 ≤ i) (h1 : i ≤ 10 ^ 60) (h2 : 0 ≤ j) (h3 : j ≤ 10 ^ 60) : CMulW i j := wide_mul (big200 (by omega)) (big200 (by omega)) (by decide) (by decide) (by decide)
theorem mb {x y a b c : Int} (h0 : 0 ≤ x) (h1 : x ≤ a) (h2 : 0 ≤ y) (h3 : y ≤ b) (hc : a * b ≤ c) : 0 ≤ x * y ∧ x * y ≤ c := ⟨Int.mul_nonneg h0 h2, Int.le_trans (Int.mul_le_mul h1 h3 h2 (by omega)) hc⟩
theorem ev_pow {σ : L2.St} {H : Hp} {z : Int} {k : Nat} (h : 0 ≤ z ∧ z ≤ 1000000) (hk : z.toNat = k := by rfl) : Ev (tOp (rI CPow fun i j => .int (i ^ j.toNat)) (tC (.int 10)) (tC (.int z))) σ H (.int (10 ^ k)) := hk ▸ ev_op ev_c ev_c (rv_I ⟨h.1, h.2, by decide⟩)
def spDigits : Sp := fun vs H Q _ => ∃ c s : Int, vs = [.int c, .int s] ∧ 0 ≤ c ∧ (-1000000 ≤ s ∧ s ≤ 1000000) ∧ ∀ z H', Ex H H' → 0 ≤ z → z < 10 ^ 60 → Q (.int z) H'
theorem er_digits {E : XK} {σ : L2.St} {H : Hp} {ta tb : TE} {c s : Int} (ha : Ev ta σ H (.int c)) (hb : Ev tb σ H (.int s)) (hc : 0 ≤ c) (hs : -1000000 ≤ s ∧ s ≤ 1000000) : EvR (tCall spDigits [] E (tCons ta (tCons tb tNil))) σ H fun v _ => ∃ z : Int, v = .int z ∧ 0 ≤ z ∧ z < 10 ^ 60 :=
  er_call (ea_cons ha (ea_cons hb ea_nil)) fun H1 e Q q => ⟨c, s, rfl, hc, hs, fun z H' e' h0 h1 => q _ H' e' ⟨z, rfl, h0, h1⟩⟩
theorem ok_u_law_digits (T : Txt K mg A) : FnOk P w K mg base CX0 3 A.f_u_law_digits A.d_u_law_digits (["cell", "salt"] : List Str) spDigits := by
  refine T.F_u_law_digits.ok sc_u_law_digits (fun vs H Q E h => ?_) (fun cdv Ar outer s H vs Q E hr h => ?_)
  · obtain ⟨c, s, rfl, _⟩ := h
    rfl
  · obtain ⟨c, s, rfl, hc, hs, k⟩ := h
    refine ⟨_, (pss_cons (ps_set (i := 2) sc_u_law_digits.nd rfl (Or.inl rfl) pe_int)
        (pss_cons (ps_for PassesOwn.never rfl (pi_listK (pe_call (ok_u_law_draws T) (hr.mono (by omega)) rfl T.g_u_law_draws T.k_u_law_draws (b_u_law_draws T) .nil pass0 (pa_cons (pv 0) (pa_cons (pv 1) (pa_cons (pe_op op_rep (pe_lst (pa_cons (pe_op op_pow pe_int pe_int) pa_nil)) pe_int) pa_nil))))) (pg_name (i := 3) sc_u_law_digits.nd rfl (Or.inl rfl)) (pss_one (ps_set (i := 2) sc_u_law_digits.nd rfl (Or.inl rfl) (pe_op op_add (pe_op op_mul (pv 2) (pe_op op_pow pe_int pe_int)) (pv 3)))))
        (pss_one (ps_ret (pv 2))))), ?_⟩
    have ten : Ev (tOp (rI CPow fun i j => .int (i ^ j.toNat)) (tC (.int 10)) (tC (.int 10))) [some (.int c), some (.int s), some (.int 0), none] H (.int 10000000000) := ev_is (ev_op ev_c ev_c (rv_I ⟨by decide, by decide, by decide⟩)) (by decide +kernel)
    try dsimp only
    refine q_asg (v := .int 0) ev_c fun H1 e1 => ?_
    try dsimp only
    refine q_forVia (er_draws (K := K) (ms := [10000000000, 10000000000, 10000000000, 10000000000, 10000000000, 10000000000]) (ev_var (i := 0) rfl) (ev_var (i := 1) rfl) (el_is (el_rep (z := 10000000000) (k := 6) (ten.mono e1) ev_c (by decide)) rfl) hc hs (by decide) (by decide +kernel)) fun v H2 e2 hv => ?_
    obtain ⟨p, ds, rfl, hds, hD⟩ := hv
    have h6 : ds.length = 6 := hD.1
    refine q_forLn (K := K) (a := p) (xs := ds.map V.int) ev_c (sq_of hds) (fun i σ' H' => ∃ (z : Int) (kv : Option V), σ' = [some (.int c), some (.int s), some (.int z), kv] ∧ Ex H H' ∧ H' p = some (.lst (ds.map V.int)) ∧ 0 ≤ z ∧ z < 10000000000 ^ i)
      (fun H3 e3 => ⟨0, none, rfl, (e1.trans e2).trans e3, e3 _ _ hds, by decide, by decide⟩) (fun i σ' H' _ ⟨_, _, _, _, h, _⟩ => sq_of h) ?_ ?_
    · rintro i v σ' H' hv ⟨z, kv, rfl, e, hp, z0, z1⟩
      obtain ⟨d, rfl, hd⟩ := some_int hv
      obtain ⟨d', e', d0, d1⟩ := hD.2 i 10000000000 (by
        have : i < 6 := by have := (List.getElem?_eq_some_iff.mp hd).1; omega
        match i, this with
        | 0, _ => rfl
        | 1, _ => rfl
        | 2, _ => rfl
        | 3, _ => rfl
        | 4, _ => rfl
        | 5, _ => rfl)
      rw [hd] at e'
      cases e'
      try dsimp only
      refine s_asg (v := .int (z * 10000000000 + d)) (ev_op (ev_op (ev_var (i := 2) rfl) (ev_is (ev_op ev_c ev_c (rv_I ⟨by decide, by decide, by decide⟩)) (by decide +kernel)) (rv_I (.inr ⟨by decide, by decide⟩))) (ev_var (i := 3) rfl) rv_I0) fun H3 e3 => ⟨_, _, rfl, e.trans e3, e3 _ _ hp, by omega, ?_⟩
      rw [Int.pow_succ]
      generalize (10000000000 : Int) ^ i = P at z1 ⊢
      omega
    rintro σ' H' ⟨z, kv, rfl, e, hp, z0, z1⟩
    rw [List.length_map, h6] at z1
    refine s_ret (v := .int z) (ev_var (i := 2) rfl) fun H3 e3 => k z H3 (e.trans e3) z0 ?_
    have : (10000000000 : Int) ^ 6 = 10 ^ 60 := by decide
    omega

def FracS (a : Addr) (kk : Nat) (z : Int) (H : Hp) (σ' : L2.St) (H' : Hp) : Prop := ∃ t u : Int, σ' = [some (.ref a), some (.int (kk : Int)), some (.int z), some (.int t), some (.int u)] ∧ Ex H H' ∧ (0 ≤ t ∧ t < 10 ^ 60) ∧ (0 ≤ u ∧ u < 10 ^ 60)
def spFrac (K : PySem.W.Frag) : Sp := fun vs H Q _ => ∃ (a : Addr) (ns : List Int) (k : Nat) (z : Int), vs = [.ref a, .int (k : Int), .int z] ∧ SqL K H a (ns.map V.int) ∧ k ≤ 1000 ∧
  ∀ p H' t u, H p = none → Ex H H' → H' p = some (.tup [.int t, .int u]) → 0 ≤ t → t ≤ 10 ^ 60 → 1 ≤ u → u ≤ 10 ^ 60 → Q (.ref p) H'
theorem er_frac {K : PySem.W.Frag} {E : XK} {σ : L2.St} {H : Hp} {ta tk tz : TE} {a : Addr} {ns : List Int} {k : Nat} {z : Int} (ha : Ev ta σ H (.ref a)) (hk : Ev tk σ H (.int (k : Int))) (hz : Ev tz σ H (.int z)) (hS : SqL K H a (ns.map V.int)) (hk1 : k ≤ 1000) :
    EvR (tCall (spFrac K) [] E (tCons ta (tCons tk (tCons tz tNil)))) σ H fun v H1 => ∃ p t u, v = .ref p ∧ H1 p = some (.tup [.int t, .int u]) ∧ 0 ≤ t ∧ t ≤ 10 ^ 60 ∧ 1 ≤ u ∧ u ≤ 10 ^ 60 :=
  er_call (ea_cons ha (ea_cons hk (ea_cons hz ea_nil))) fun H1 e Q q => ⟨a, ns, k, z, rfl, ex_l e hS, hk1, fun p H' t u hp e' h b0 b1 b2 b3 => q _ H' e' ⟨p, t, u, rfl, h, b0, b1, b2, b3⟩⟩
theorem ok_u_law_fraction (T : Txt K mg A) : FnOk P w K mg base CX0 4 A.f_u_law_fraction A.d_u_law_fraction (["script", "k", "size"] : List Str) (spFrac K) := by
  refine T.F_u_law_fraction.ok sc_u_law_fraction (fun vs H Q E h => ?_) (fun cdv Ar outer s H vs Q E hr h => ?_)
  · obtain ⟨a, ns, kk, z, rfl, _⟩ := h
    rfl
  · obtain ⟨a, ns, kk, z, rfl, hS, hk, k⟩ := h
    refine ⟨_, (pss_cons (ps_set (i := 3) sc_u_law_fraction.nd rfl (Or.inl rfl) (pe_call (ok_u_law_digits T) (hr.mono (by omega)) rfl T.g_u_law_digits T.k_u_law_digits (b_u_law_digits T) .nil pass0 (pa_cons (pe_call (ok_u_law_cell T) (hr.mono (by omega)) rfl T.g_u_law_cell T.k_u_law_cell (b_u_law_cell T) .nil pass0 (pa_cons (pv 0) (pa_cons (pv 1) pa_nil))) (pa_cons (pe_op op_add pe_int (pv 1)) pa_nil))))
        (pss_cons (ps_set (i := 4) sc_u_law_fraction.nd rfl (Or.inl rfl) (pe_call (ok_u_law_digits T) (hr.mono (by omega)) rfl T.g_u_law_digits T.k_u_law_digits (b_u_law_digits T) .nil pass0 (pa_cons (pe_call (ok_u_law_cell T) (hr.mono (by omega)) rfl T.g_u_law_cell T.k_u_law_cell (b_u_law_cell T) .nil pass0 (pa_cons (pv 0) (pa_cons (pe_op op_add (pv 1) pe_int) pa_nil))) (pa_cons (pe_op op_add pe_int (pv 1)) pa_nil))))
        (pss_cons (ps_if (pt_cmpR op_eq (pv 2) pe_int (nomark _)) (pss_cons (ps_set (i := 3) sc_u_law_fraction.nd rfl (Or.inl rfl) (pe_op op_mod (pe_callTy call_int1 (by rfl) T.z_int (by decide +kernel) (pa_cons (pv 3) pa_nil)) pe_int))
        (pss_one (ps_set (i := 4) sc_u_law_fraction.nd rfl (Or.inl rfl) (pe_op op_mod (pe_callTy call_int1 (by rfl) T.z_int (by decide +kernel) (pa_cons (pv 4) pa_nil)) pe_int)))) pss_nil)
        (pss_cons (ps_if (pt_cmpR op_eq (pv 2) pe_int (nomark _)) (pss_cons (ps_set (i := 3) sc_u_law_fraction.nd rfl (Or.inl rfl) (pe_op op_mod (pe_callTy call_int1 (by rfl) T.z_int (by decide +kernel) (pa_cons (pv 3) pa_nil)) (pe_op op_pow pe_int pe_int)))
        (pss_one (ps_set (i := 4) sc_u_law_fraction.nd rfl (Or.inl rfl) (pe_op op_mod (pe_callTy call_int1 (by rfl) T.z_int (by decide +kernel) (pa_cons (pv 4) pa_nil)) (pe_op op_pow pe_int pe_int))))) pss_nil)
        (pss_cons (ps_if (pt_cmpR op_eq (pv 2) pe_int (nomark _)) (pss_cons (ps_set (i := 3) sc_u_law_fraction.nd rfl (Or.inl rfl) (pe_op op_mod (pe_callTy call_int1 (by rfl) T.z_int (by decide +kernel) (pa_cons (pv 3) pa_nil)) (pe_op op_pow pe_int pe_int)))
        (pss_one (ps_set (i := 4) sc_u_law_fraction.nd rfl (Or.inl rfl) (pe_op op_mod (pe_callTy call_int1 (by rfl) T.z_int (by decide +kernel) (pa_cons (pv 4) pa_nil)) (pe_op op_pow pe_int pe_int))))) pss_nil)
        (pss_one (ps_ret (pe_tup (pa_cons (pv 3) (pa_cons (pe_op op_add pe_int (pe_op op_mod (pe_callTy call_int1 (by rfl) T.z_int (by decide +kernel) (pa_cons (pv 4) pa_nil)) (pe_op op_sub (pe_op op_pow pe_int pe_int) pe_int))) pa_nil)))))))))), ?_⟩
    have r12 : ∀ z : Int, 0 ≤ z % 10 ^ 12 ∧ z % 10 ^ 12 < 10 ^ 60 := fun z => ⟨Int.emod_nonneg _ (by decide), Int.lt_trans (Int.emod_lt_of_pos _ (by decide)) (by decide)⟩
    have r30 : ∀ z : Int, 0 ≤ z % 10 ^ 30 ∧ z % 10 ^ 30 < 10 ^ 60 := fun z => ⟨Int.emod_nonneg _ (by decide), Int.lt_trans (Int.emod_lt_of_pos _ (by decide)) (by decide)⟩
    have r100 : ∀ z : Int, 0 ≤ z % 100 ∧ z % 100 < 10 ^ 60 := fun z => ⟨Int.emod_nonneg _ (by decide), Int.lt_trans (Int.emod_lt_of_pos _ (by decide)) (by decide)⟩
    try dsimp only
    refine q_asgR (er_digits (ev_cell (k := kk) (ev_var (i := 0) rfl) (ev_var (i := 1) rfl) hS) (ev_op ev_c (ev_var (i := 1) rfl) rv_I0) (cellA_nn _ _) (by omega)) fun v H1 e1 hv => ?_
    obtain ⟨t, rfl, t0, t1⟩ := hv
    try dsimp only
    refine q_asgR (er_digits (ev_cell (k := kk + 1) (ev_var (i := 0) rfl) (ev_op (ev_var (i := 1) rfl) ev_c rv_I0) (ex_l e1 hS)) (ev_op ev_c (ev_var (i := 1) rfl) rv_I0) (cellA_nn _ _) (by omega)) fun v H2 e2 hv => ?_
    obtain ⟨u, rfl, u0, u1⟩ := hv
    have e := e1.trans e2
    have ht : 0 ≤ t ∧ t < 10 ^ 60 := ⟨t0, t1⟩
    have hu : 0 ≤ u ∧ u < 10 ^ 60 := ⟨u0, u1⟩
    clear t0 t1 u0 u1 e1 e2
    
    try dsimp only
    refine q_alt (b := decide (z = 1)) (FracS a kk z H) (et_is (et_test (ev_op (ev_var (i := 2) rfl) ev_c (rv_eq rfl))) dec_ii) (fun hb H3 e3 W hW => ?_) (fun hb H3 e3 => ⟨t, u, rfl, e.trans e3, ht, hu⟩) ?_
    · try dsimp only
      refine q_asg (v := .int (t % 100)) (ev_op (ev_int (ev_var (i := 3) rfl)) ev_c (rv_I (by decide))) fun H4 e4 => ?_
      try dsimp only
      refine s_asg (v := .int (u % 100)) (ev_op (ev_int (ev_var (i := 4) rfl)) ev_c (rv_I (by decide))) fun H5 e5 => hW _ _ ⟨_, _, rfl, e.trans (e3.trans (e4.trans e5)), r100 t, r100 u⟩
    clear e ht hu
    rintro σ' H3 ⟨t, u, rfl, e, ht, hu⟩
    
    try dsimp only
    refine q_alt (b := decide (z = 2)) (FracS a kk z H) (et_is (et_test (ev_op (ev_var (i := 2) rfl) ev_c (rv_eq rfl))) dec_ii) (fun hb H3 e3 W hW => ?_) (fun hb H3 e3 => ⟨t, u, rfl, e.trans e3, ht, hu⟩) ?_
    · try dsimp only
      refine q_asg (v := .int (t % 10 ^ 12)) (ev_op (ev_int (ev_var (i := 3) rfl)) (ev_pow (z := 12) (k := 12) (by decide)) (rv_I (by decide))) fun H4 e4 => ?_
      try dsimp only
      refine s_asg (v := .int (u % 10 ^ 12)) (ev_op (ev_int (ev_var (i := 4) rfl)) (ev_pow (z := 12) (k := 12) (by decide)) (rv_I (by decide))) fun H5 e5 => hW _ _ ⟨_, _, rfl, e.trans (e3.trans (e4.trans e5)), r12 t, r12 u⟩
    clear e ht hu
    rintro σ' H3 ⟨t, u, rfl, e, ht, hu⟩
    
    try dsimp only
    refine q_alt (b := decide (z = 3)) (FracS a kk z H) (et_is (et_test (ev_op (ev_var (i := 2) rfl) ev_c (rv_eq rfl))) dec_ii) (fun hb H3 e3 W hW => ?_) (fun hb H3 e3 => ⟨t, u, rfl, e.trans e3, ht, hu⟩) ?_
    · try dsimp only
      refine q_asg (v := .int (t % 10 ^ 30)) (ev_op (ev_int (ev_var (i := 3) rfl)) (ev_pow (z := 30) (k := 30) (by decide)) (rv_I (by decide))) fun H4 e4 => ?_
      try dsimp only
      refine s_asg (v := .int (u % 10 ^ 30)) (ev_op (ev_int (ev_var (i := 4) rfl)) (ev_pow (z := 30) (k := 30) (by decide)) (rv_I (by decide))) fun H5 e5 => hW _ _ ⟨_, _, rfl, e.trans (e3.trans (e4.trans e5)), r30 t, r30 u⟩
    clear e ht hu
    rintro σ' H3 ⟨t, u, rfl, e, ht, hu⟩
    
    have m0 := Int.emod_nonneg u (show (10 ^ 60 - 1 : Int) ≠ 0 by decide)
    have m1 := Int.emod_lt_of_pos u (show (0 : Int) < 10 ^ 60 - 1 by decide)
    try dsimp only
    exact s_retU (xs := [.int t, .int (1 + u % (10 ^ 60 - 1))]) (eu_tup (ea_cons (ev_var (i := 3) rfl) (ea_cons (ev_op ev_c (ev_op (ev_int (ev_var (i := 4) rfl)) (ev_op (ev_pow (z := 60) (k := 60) (by decide)) ev_c rv_I0) (rv_I (by decide))) rv_I0) ea_nil)) (by show 2 ≤ 100000; decide)) fun p H5 hp e5 h5 => k p H5 t _ (fresh_back e hp) (e.trans e5) h5 ht.1 (by omega) (by omega) (by omega)

def NumT (a0 wp : Addr) (z f : Int) (ws : List V) (H : Hp) (σ' : L2.St) (H' : Hp) : Prop := ∃ a b c d : Int, σ' = [some (.ref a0), some (.ref wp), some (.int z), some (.int a), some (.int b), some (.int c), some (.int d), some (.int f)] ∧ Ex H H' ∧ H' wp = some (.lst ws) ∧
  a.natAbs ≤ 10 ^ 120 ∧ (1 ≤ b ∧ b ≤ 10 ^ 60) ∧ c.natAbs ≤ 10 ^ 150 ∧ (1 ≤ d ∧ d ≤ 10 ^ 90)
def spTwo (K : PySem.W.Frag) : Sp := fun vs H Q _ => ∃ (a0 : Addr) (ns : List Int), vs = [.ref a0] ∧ SqL K H a0 (ns.map V.int) ∧ ∀ p H' a b c d, H p = none → Ex H H' → H' p = some (.tup [.int a, .int b, .int c, .int d]) →
  a.natAbs ≤ 10 ^ 120 → (1 ≤ b ∧ b ≤ 10 ^ 60) → c.natAbs ≤ 10 ^ 150 → (1 ≤ d ∧ d ≤ 10 ^ 90) → Q (.ref p) H'
theorem lt500 {z : Int} (h : z.natAbs ≤ 10 ^ 150) : z.natAbs < 2 ^ 500 := Nat.lt_of_le_of_lt h (by decide)
theorem mw5 {x y : Int} (h : x.natAbs ≤ 10 ^ 150) (g : y.natAbs ≤ 10 ^ 150) : CMulW x y := wide_mul (lt500 h) (lt500 g) (by decide) (by decide) (by decide)
theorem mabs {x y : Int} {a b c : Nat} (h : x.natAbs ≤ a) (g : y.natAbs ≤ b) (hc : a * b ≤ c) : (x * y).natAbs ≤ c := by rw [Int.natAbs_mul]; exact Nat.le_trans (Nat.mul_le_mul h g) hc
theorem ok_u_law_two_fractions (T : Txt K mg A) : FnOk P w K mg base CX0 5 A.f_u_law_two_fractions A.d_u_law_two_fractions (["script"] : List Str) (spTwo K) := by
  refine T.F_u_law_two_fractions.ok sc_u_law_two_fractions (fun vs H Q E h => ?_) (fun cdv Ar outer s H vs Q E hr h => ?_)
  · obtain ⟨a0, ns, rfl, _⟩ := h
    rfl
  · obtain ⟨a0, ns, rfl, hS, k⟩ := h
    refine ⟨_, (pss_cons (ps_set (i := 1) sc_u_law_two_fractions.nd rfl (Or.inl rfl) (pe_call (ok_u_law_draws T) (hr.mono (by omega)) rfl T.g_u_law_draws T.k_u_law_draws (b_u_law_draws T) .nil pass0 (pa_cons (pe_call (ok_u_law_cell T) (hr.mono (by omega)) rfl T.g_u_law_cell T.k_u_law_cell (b_u_law_cell T) .nil pass0 (pa_cons (pv 0) (pa_cons pe_int pa_nil))) (pa_cons pe_int (pa_cons (pe_lst (pa_cons pe_int (pa_cons pe_int (pa_cons pe_int (pa_cons pe_int pa_nil))))) pa_nil)))))
        (pss_cons (ps_set (i := 2) sc_u_law_two_fractions.nd rfl (Or.inl rfl) (pe_ix ix_lK (pv 1) pe_int (fun _ _ => rfl)))
        (pss_cons (ps_if (PW.pt (pw_and (pt_cmpR op_le (pe_ix ix_lK (pv 1) pe_int (fun _ _ => rfl)) pe_int (nomark _)) (pw_and1 (pt_cmpR op_eq (pv 2) pe_int (nomark _))))) (pss_one (ps_set (i := 2) sc_u_law_two_fractions.nd rfl (Or.inl rfl) pe_int)) pss_nil)
        (pss_cons (ps_asg (pe_call (ok_u_law_fraction T) (hr.mono (by omega)) rfl T.g_u_law_fraction T.k_u_law_fraction (b_u_law_fraction T) .nil pass0 (pa_cons (pv 0) (pa_cons pe_int (pa_cons (pv 2) pa_nil)))) (pg_tup rfl (pgs_cons (pg_name (i := 3) sc_u_law_two_fractions.nd rfl (Or.inl rfl)) (pgs_cons (pg_name (i := 4) sc_u_law_two_fractions.nd rfl (Or.inl rfl)) pgs_nil))))
        (pss_cons (ps_asg (pe_call (ok_u_law_fraction T) (hr.mono (by omega)) rfl T.g_u_law_fraction T.k_u_law_fraction (b_u_law_fraction T) .nil pass0 (pa_cons (pv 0) (pa_cons pe_int (pa_cons (pv 2) pa_nil)))) (pg_tup rfl (pgs_cons (pg_name (i := 5) sc_u_law_two_fractions.nd rfl (Or.inl rfl)) (pgs_cons (pg_name (i := 6) sc_u_law_two_fractions.nd rfl (Or.inl rfl)) pgs_nil))))
        (pss_cons (ps_set (i := 7) sc_u_law_two_fractions.nd rfl (Or.inl rfl) (pe_op op_add pe_int (pe_op op_mod (pe_callTy call_int1 (by rfl) T.z_int (by decide +kernel) (pa_cons (pe_call (ok_u_law_digits T) (hr.mono (by omega)) rfl T.g_u_law_digits T.k_u_law_digits (b_u_law_digits T) .nil pass0 (pa_cons (pe_call (ok_u_law_cell T) (hr.mono (by omega)) rfl T.g_u_law_cell T.k_u_law_cell (b_u_law_cell T) .nil pass0 (pa_cons (pv 0) (pa_cons pe_int pa_nil))) (pa_cons pe_int pa_nil))) pa_nil)) (pe_op op_pow pe_int pe_int))))
        (pss_cons (ps_if (pt_cmpR op_eq (pv 2) pe_int (nomark _)) (pss_one (ps_set (i := 7) sc_u_law_two_fractions.nd rfl (Or.inl rfl) (pe_op op_add pe_int (pe_op op_mod (pe_callTy call_int1 (by rfl) T.z_int (by decide +kernel) (pa_cons (pv 7) pa_nil)) pe_int)))) pss_nil)
        (pss_cons (ps_if (pt_cmpR op_eq (pe_ix ix_lK (pv 1) pe_int (fun _ _ => rfl)) pe_int (nomark _)) (pss_cons (ps_set (i := 5) sc_u_law_two_fractions.nd rfl (Or.inl rfl) (pv 3))
        (pss_cons (ps_set (i := 3) sc_u_law_two_fractions.nd rfl (Or.inl rfl) (pe_op op_mulW (pv 3) (pv 4)))
        (pss_one (ps_set (i := 6) sc_u_law_two_fractions.nd rfl (Or.inl rfl) pe_int)))) pss_nil)
        (pss_cons (ps_if (pt_cmpR op_eq (pe_ix ix_lK (pv 1) pe_int (fun _ _ => rfl)) pe_int (nomark _)) (pss_cons (ps_set (i := 3) sc_u_law_two_fractions.nd rfl (Or.inl rfl) (pe_op op_sub pe_int (pv 3)))
        (pss_one (ps_set (i := 5) sc_u_law_two_fractions.nd rfl (Or.inl rfl) (pe_op op_sub pe_int (pv 5))))) pss_nil)
        (pss_cons (ps_if (PW.pt (pw_and (pt_cmpR op_eq (pe_ix ix_lK (pv 1) pe_int (fun _ _ => rfl)) pe_int (nomark _)) (pw_and1 (pt_cmpR op_ge (pe_ix ix_lK (pv 1) pe_int (fun _ _ => rfl)) pe_int (nomark _))))) (pss_one (ps_set (i := 5) sc_u_law_two_fractions.nd rfl (Or.inl rfl) (pe_op op_sub pe_int (pv 5)))) pss_nil)
        (pss_cons (ps_if (pt_cmpR op_le (pe_ix ix_lK (pv 1) pe_int (fun _ _ => rfl)) pe_int (nomark _)) (pss_cons (ps_set (i := 5) sc_u_law_two_fractions.nd rfl (Or.inl rfl) (pe_op op_add (pe_op op_mulW (pv 3) (pv 7)) (pe_ix ix_lK (pv 1) pe_int (fun _ _ => rfl))))
        (pss_one (ps_set (i := 6) sc_u_law_two_fractions.nd rfl (Or.inl rfl) (pe_op op_mulW (pv 4) (pv 7))))) pss_nil)
        (pss_cons (ps_if (pt_cmpR op_eq (pe_ix ix_lK (pv 1) pe_int (fun _ _ => rfl)) pe_int (nomark _)) (pss_one (ps_set (i := 5) sc_u_law_two_fractions.nd rfl (Or.inl rfl) pe_int)) pss_nil)
        (pss_one (ps_ret (pe_tup (pa_cons (pv 3) (pa_cons (pv 4) (pa_cons (pv 5) (pa_cons (pv 6) pa_nil))))))))))))))))))), ?_⟩
    try dsimp only
    refine q_asgR (er_draws (K := K) (ms := [4, 2, 2, 6]) (ev_cell (k := 5) (ev_var rfl) ev_c hS) ev_c (el_lst (by repeat' first | exact ev_c | exact ev_var rfl | exact ea_nil | apply ea_cons | apply ev_int | apply ev_op | apply ev_un | exact ru_neg | exact rv_I0 | exact rv_eq rfl | exact rv_ne rfl | exact rv_I (by decide) | exact rv_I (.inl ⟨by decide, by decide⟩) | exact rv_I (.inr ⟨by decide, by decide⟩) | exact rv_I (by omega) | exact rv_I (.inl ⟨by omega, by omega⟩) | exact rv_I (.inr ⟨by omega, by omega⟩)) (by decide)) (cellA_nn _ _) (by decide) (by decide) (by decide +kernel)) fun v H1 e hp => ?_
    obtain ⟨wp, ds, rfl, hw, hD⟩ := hp
    obtain ⟨d0, ds, rfl, c0, hD⟩ := drawn_cons hD
    obtain ⟨d1, ds, rfl, _, hD⟩ := drawn_cons hD
    obtain ⟨d2, ds, rfl, _, hD⟩ := drawn_cons hD
    obtain ⟨d3, ds, rfl, c3, hD⟩ := drawn_cons hD
    obtain rfl := drawn_nil hD
    clear hD
    obtain ⟨ws, hws⟩ : ∃ ws : List V, ws = [d0, d1, d2, d3].map V.int := ⟨_, rfl⟩
    rw [← hws] at hw
    try dsimp only
    refine q_asg (v := .int d0) (ev_op (ev_var (i := 1) rfl) ev_c (rv_ixL (sq_of hw) (by rw [hws]; rfl))) fun H2 e2 => ?_
    replace hw := e2 _ _ hw
    replace e := e.trans e2
    clear e2
    try dsimp only
    refine q_alt (b := decide (d3 ≤ 2) && decide (d0 = 0)) (fun σ' H' => ∃ z : Int, σ' = [some (.ref a0), some (.ref wp), some (.int z), none, none, none, none, none] ∧ Ex H H' ∧ H' wp = some (.lst ws))
      (et_and (et_test (ev_op (ev_op (ev_var (i := 1) rfl) ev_c (rv_ixL (sq_of hw) (by rw [hws]; rfl))) ev_c rv_I0)) fun _ => et_is (et_test (ev_op (ev_var (i := 2) rfl) ev_c (rv_eq rfl))) dec_ii) (fun hb H2 e2 W hW => s_asg (v := .int 3) ev_c fun H3 e3 => hW _ _ ⟨3, rfl, e.trans (e2.trans e3), e3 _ _ (e2 _ _ hw)⟩) (fun hb H2 e2 => ⟨d0, rfl, e.trans e2, e2 _ _ hw⟩) ?_
    clear hw e
    rintro σ' H' ⟨z, rfl, e, hw⟩
    
    try dsimp only
    refine er_frac (K := K) (k := 0) (ev_var (i := 0) rfl) ev_c (ev_var (i := 2) rfl) (ex_l e hS) (by decide) _ (Ex.refl _) _ fun v H2 e2 hv => ?_
    obtain ⟨fp, t, u, rfl, hf, b0, b1, b2, b3⟩ := hv
    refine ⟨fp, _, rfl, st_of hf, rfl, _, _, rfl, _, _, rfl, rfl, ?_⟩
    replace hw := e2 _ _ hw
    replace e := e.trans e2
    clear e2 hf fp
    
    obtain ⟨a, ha⟩ : ∃ a, a = t := ⟨_, rfl⟩
    obtain ⟨b, hbb⟩ : ∃ b, b = u := ⟨_, rfl⟩
    rw [← ha, ← hbb]
    replace ha : a.natAbs ≤ 10 ^ 60 := by omega
    replace hbb : 1 ≤ b ∧ b ≤ 10 ^ 60 := by omega
    clear b0 b1 b2 b3 t u
    
    try dsimp only
    refine er_frac (K := K) (k := 2) (ev_var (i := 0) rfl) ev_c (ev_var (i := 2) rfl) (ex_l e hS) (by decide) _ (Ex.refl _) _ fun v H2 e2 hv => ?_
    obtain ⟨fp, t, u, rfl, hf, b0, b1, b2, b3⟩ := hv
    refine ⟨fp, _, rfl, st_of hf, rfl, _, _, rfl, _, _, rfl, rfl, ?_⟩
    replace hw := e2 _ _ hw
    replace e := e.trans e2
    clear e2 hf fp
    
    obtain ⟨c, hc⟩ : ∃ a, a = t := ⟨_, rfl⟩
    obtain ⟨d, hd⟩ : ∃ b, b = u := ⟨_, rfl⟩
    rw [← hc, ← hd]
    replace hc : c.natAbs ≤ 10 ^ 60 := by omega
    replace hd : 1 ≤ d ∧ d ≤ 10 ^ 60 := by omega
    clear b0 b1 b2 b3 t u
    have r29 : ∀ z : Int, 0 ≤ z % 10 ^ 29 ∧ z % 10 ^ 29 < 10 ^ 29 := fun z => ⟨Int.emod_nonneg _ (by decide), Int.emod_lt_of_pos _ (by decide)⟩
    have r60 : ∀ z : Int, 0 ≤ z % 60 ∧ z % 60 < 60 := fun z => ⟨Int.emod_nonneg _ (by decide), Int.emod_lt_of_pos _ (by decide)⟩
    try dsimp only
    refine q_asgR (P := fun v _ => ∃ f : Int, v = .int f ∧ 1 ≤ f ∧ f ≤ 10 ^ 29) (fun G1 g1 Q q => er_digits (ev_cell (k := 4) (ev_var rfl) ev_c (ex_l e hS)) ev_c (cellA_nn _ _) (by decide) G1 g1 _ fun v G2 g2 hv => by
      obtain ⟨m, rfl, m0, m1⟩ := hv
      refine .inl ⟨m, rfl, 10, 29, rfl, rfl, ⟨by decide, by decide, by decide⟩, m, 10 ^ 29, rfl, rfl, (by show (0 : Int) < 10 ^ 29; decide), 1, m % 10 ^ 29, rfl, rfl, q _ G2 g2 ⟨_, rfl, ?_, ?_⟩⟩
      · have := r29 m; omega
      · have := r29 m; omega) fun v H2 e2 hv => ?_
    obtain ⟨f, rfl, f0, f1⟩ := hv
    replace hw := e2 _ _ hw
    replace e := e.trans e2
    clear e2
    try dsimp only
    refine q_alt (b := decide (z = 1)) (fun σ' H' => ∃ f : Int, σ' = [some (.ref a0), some (.ref wp), some (.int z), some (.int a), some (.int b), some (.int c), some (.int d), some (.int f)] ∧ Ex H H' ∧ H' wp = some (.lst ws) ∧ 1 ≤ f ∧ f ≤ 10 ^ 29)
      (et_is (et_test (ev_op (ev_var (i := 2) rfl) ev_c (rv_eq rfl))) dec_ii) (fun hb H2 e2 W hW => s_asg (v := .int (1 + f % 60)) (ev_op ev_c (ev_op (ev_int (ev_var (i := 7) rfl)) ev_c (rv_I (by decide))) rv_I0) fun H3 e3 => hW _ _ ⟨_, rfl, e.trans (e2.trans e3), e3 _ _ (e2 _ _ hw), by have := r60 f; omega, by have := r60 f; omega⟩) (fun hb H2 e2 => ⟨f, rfl, e.trans e2, e2 _ _ hw, f0, f1⟩) ?_
    clear hw e f0 f1 f
    rintro σ' H' ⟨f, rfl, e, hw, f0, f1⟩
    have p60 : (10 : Nat) ^ 60 ≤ 10 ^ 120 := Nat.pow_le_pow_right (by decide) (by decide)
    have p61 : (10 : Nat) ^ 60 ≤ 10 ^ 150 := Nat.pow_le_pow_right (by decide) (by decide)
    have p62 : (10 : Nat) ^ 120 ≤ 10 ^ 150 := Nat.pow_le_pow_right (by decide) (by decide)
    have p63 : (10 : Int) ^ 60 ≤ 10 ^ 90 := by decide
    have hf : f.natAbs ≤ 10 ^ 29 := by omega
    have p64 : (10 : Nat) ^ 29 ≤ 10 ^ 150 := Nat.pow_le_pow_right (by decide) (by decide)
    try dsimp only
    refine q_alt (b := decide (d3 = 2)) (NumT a0 wp z f ws H) (et_is (et_test (ev_op (ev_op (ev_var (i := 1) rfl) ev_c (rv_ixL (sq_of hw) (by rw [hws]; rfl))) ev_c (rv_eq rfl))) dec_ii) (fun hb H2 e2 W hW => ?_) (fun hb H2 e2 => ⟨a, b, c, d, rfl, e.trans e2, e2 _ _ hw, Nat.le_trans ha p60, hbb, Nat.le_trans hc p61, hd.1, Int.le_trans hd.2 p63⟩) ?_
    · try dsimp only
      refine q_asg (v := .int a) (ev_var (i := 3) rfl) fun H3 e3 => ?_
      try dsimp only
      refine q_asg (v := .int (a * b)) (ev_op (ev_var (i := 3) rfl) (ev_var (i := 4) rfl) (rv_I (mw5 (Nat.le_trans ha p61) (Nat.le_trans (show b.natAbs ≤ 10 ^ 60 by omega) p61)))) fun H4 e4 => ?_
      try dsimp only
      exact s_asg (v := .int 1) ev_c fun H5 e5 => hW _ _ ⟨a * b, b, a, 1, rfl, e.trans (e2.trans (e3.trans (e4.trans e5))), e5 _ _ (e4 _ _ (e3 _ _ (e2 _ _ hw))), mabs ha (show b.natAbs ≤ 10 ^ 60 by omega) (by decide), hbb, Nat.le_trans ha p61, by decide, by decide⟩
    clear hw e ha hbb hc hd
    rintro σ' H' ⟨a, b, c, d, rfl, e, hw, ha, hbb, hc, hd⟩
    
    try dsimp only
    refine q_alt (b := decide (d1 = 1)) (NumT a0 wp z f ws H) (et_is (et_test (ev_op (ev_op (ev_var (i := 1) rfl) ev_c (rv_ixL (sq_of hw) (by rw [hws]; rfl))) ev_c (rv_eq rfl))) dec_ii) (fun hb H2 e2 W hW => ?_) (fun hb H2 e2 => ⟨a, b, c, d, rfl, e.trans e2, e2 _ _ hw, ha, hbb, hc, hd⟩) ?_
    · try dsimp only
      refine q_asg (v := .int (0 - a)) (ev_op ev_c (ev_var (i := 3) rfl) rv_I0) fun H3 e3 => ?_
      try dsimp only
      exact s_asg (v := .int (0 - c)) (ev_op ev_c (ev_var (i := 5) rfl) rv_I0) fun H4 e4 => hW _ _ ⟨0 - a, b, 0 - c, d, rfl, e.trans (e2.trans (e3.trans e4)), e4 _ _ (e3 _ _ (e2 _ _ hw)), by rw [Int.zero_sub, Int.natAbs_neg]; exact ha, hbb, by rw [Int.zero_sub, Int.natAbs_neg]; exact hc, hd⟩
    clear hw e ha hbb hc hd
    rintro σ' H' ⟨a, b, c, d, rfl, e, hw, ha, hbb, hc, hd⟩
    try dsimp only
    refine q_alt (b := decide (d2 = 1) && decide (4 ≤ d3)) (NumT a0 wp z f ws H) (et_and (et_is (et_test (ev_op (ev_op (ev_var (i := 1) rfl) ev_c (rv_ixL (sq_of hw) (by rw [hws]; rfl))) ev_c (rv_eq rfl))) dec_ii) fun _ => et_test (ev_op (ev_op (ev_var (i := 1) rfl) ev_c (rv_ixL (sq_of hw) (by rw [hws]; rfl))) ev_c rv_I0)) (fun hb H2 e2 W hW => ?_) (fun hb H2 e2 => ⟨a, b, c, d, rfl, e.trans e2, e2 _ _ hw, ha, hbb, hc, hd⟩) ?_
    · exact s_asg (v := .int (0 - c)) (ev_op ev_c (ev_var (i := 5) rfl) rv_I0) fun H4 e4 => hW _ _ ⟨a, b, 0 - c, d, rfl, e.trans (e2.trans e4), e4 _ _ (e2 _ _ hw), ha, hbb, by rw [Int.zero_sub, Int.natAbs_neg]; exact hc, hd⟩
    clear hw e ha hbb hc hd
    rintro σ' H' ⟨a, b, c, d, rfl, e, hw, ha, hbb, hc, hd⟩
    try dsimp only
    refine q_alt (b := decide (d3 ≤ 1)) (NumT a0 wp z f ws H) (et_test (ev_op (ev_op (ev_var (i := 1) rfl) ev_c (rv_ixL (sq_of hw) (by rw [hws]; rfl))) ev_c rv_I0)) (fun hb H2 e2 W hW => ?_) (fun hb H2 e2 => ⟨a, b, c, d, rfl, e.trans e2, e2 _ _ hw, ha, hbb, hc, hd⟩) ?_
    · have x1 : (a * f).natAbs ≤ 10 ^ 149 := mabs ha hf (by decide)
      have x2 : (10 : Nat) ^ 149 + 6 ≤ 10 ^ 150 := by decide
      have x3 : (b * f).natAbs ≤ 10 ^ 89 := mabs (show b.natAbs ≤ 10 ^ 60 by omega) hf (by decide)
      have x4 : 1 ≤ b * f := by
        have := Int.mul_pos (show 0 < b by omega) (show 0 < f by omega)
        omega
      have x5 : (10 : Nat) ^ 89 ≤ 10 ^ 90 := by decide
      have x6 : ((10 ^ 90 : Nat) : Int) = 10 ^ 90 := by decide
      try dsimp only
      refine q_asg (v := .int (a * f + d3)) (ev_op (ev_op (ev_var (i := 3) rfl) (ev_var (i := 7) rfl) (rv_I (mw5 (Nat.le_trans ha p62) (Nat.le_trans hf p64)))) (ev_op (ev_var (i := 1) rfl) ev_c (rv_ixL (sq_of (e2 _ _ hw)) (by rw [hws]; rfl))) rv_I0) fun H3 e3 => ?_
      try dsimp only
      exact s_asg (v := .int (b * f)) (ev_op (ev_var (i := 4) rfl) (ev_var (i := 7) rfl) (rv_I (mw5 (Nat.le_trans (show b.natAbs ≤ 10 ^ 60 by omega) p61) (Nat.le_trans hf p64)))) fun H4 e4 => hW _ _ ⟨a, b, a * f + d3, b * f, rfl, e.trans (e2.trans (e3.trans e4)), e4 _ _ (e3 _ _ (e2 _ _ hw)), ha, hbb, by omega, x4, by omega⟩
    clear hw e ha hbb hc hd
    rintro σ' H' ⟨a, b, c, d, rfl, e, hw, ha, hbb, hc, hd⟩
    try dsimp only
    refine q_alt (b := decide (d3 = 3)) (NumT a0 wp z f ws H) (et_is (et_test (ev_op (ev_op (ev_var (i := 1) rfl) ev_c (rv_ixL (sq_of hw) (by rw [hws]; rfl))) ev_c (rv_eq rfl))) dec_ii) (fun hb H2 e2 W hW => ?_) (fun hb H2 e2 => ⟨a, b, c, d, rfl, e.trans e2, e2 _ _ hw, ha, hbb, hc, hd⟩) ?_
    · exact s_asg (v := .int 0) ev_c fun H4 e4 => hW _ _ ⟨a, b, 0, d, rfl, e.trans (e2.trans e4), e4 _ _ (e2 _ _ hw), ha, hbb, Nat.zero_le _, hd⟩
    clear hw e ha hbb hc hd
    rintro σ' H' ⟨a, b, c, d, rfl, e, hw, ha, hbb, hc, hd⟩
    try dsimp only
    exact s_retU (xs := [.int a, .int b, .int c, .int d]) (eu_tup (ea_cons (ev_var (i := 3) rfl) (ea_cons (ev_var (i := 4) rfl) (ea_cons (ev_var (i := 5) rfl) (ea_cons (ev_var (i := 6) rfl) ea_nil)))) (by show 4 ≤ 100000; decide)) fun p H5 hp e5 h5 => k p H5 a b c d (fresh_back e hp) (e.trans e5) h5 ha hbb hc hd

structure Fb (b : Nat) (z : Int) : Prop where
  lt : z.natAbs < 2 ^ b
theorem Fb.mul {a b : Nat} {x y : Int} (h : Fb a x) (g : Fb b y) : Fb (a + b) (x * y) := ⟨wide_lt h.lt g.lt⟩
theorem Fb.add {a : Nat} {x y : Int} (h : Fb a x) (g : Fb a y) : Fb (a + 1) (x + y) := ⟨by
  have h1 := h.lt
  have h2 := g.lt
  rw [Nat.pow_succ]
  generalize 2 ^ a = P at h1 h2 ⊢
  omega⟩
theorem Fb.neg {a : Nat} {x : Int} (h : Fb a x) : Fb a (-x) := ⟨by rw [Int.natAbs_neg]; exact h.lt⟩
theorem Fb.sub {a : Nat} {x y : Int} (h : Fb a x) (g : Fb a y) : Fb (a + 1) (x - y) := by rw [Int.sub_eq_add_neg]; exact h.add g.neg
theorem Fb.up {a b : Nat} {x : Int} (h : Fb a x) (hb : a ≤ b) : Fb b x := ⟨Nat.lt_of_lt_of_le h.lt (Nat.pow_le_pow_right (by decide) hb)⟩
theorem Fb.next {a : Nat} {x y : Int} (h : Fb a x) (g : y.natAbs ≤ x.natAbs + 1) : Fb (a + 1) y := ⟨by
  have h1 := h.lt
  rw [Nat.pow_succ]
  generalize 2 ^ a = P at h1 ⊢
  omega⟩
theorem Fb.big {a : Nat} {x : Int} (h : Fb a x) (hb : a ≤ 4000) : x.natAbs < 2 ^ 4000 := (h.up hb).lt
theorem Fb.sz {a : Nat} {x : Int} (h : Fb a x) (hb : a ≤ 3900) : Sz x := sz_of h.lt hb
theorem Fb.mw {a b : Nat} {x y : Int} (h : Fb a x) (g : Fb b y) (ha : a ≤ 3900) (hb : b ≤ 3900) : CMulW x y := (h.sz ha).mul (g.sz hb)
/-- two numbers, one of them a Ratio at least -/
def Pair (A : Ads) (H : Hp) (x y : V) (a b c d : Int) : Prop := (IsRt A x H a b ∧ IsN A y H c d) ∨ ((x = .int a ∧ b = 1) ∧ IsRt A y H c d)
theorem Pair.ex {A : Ads} {H H' : Hp} {x y : V} {a b c d : Int} (e : Ex H H') (h : Pair A H x y a b c d) : Pair A H' x y a b c d := h.imp (fun h => ⟨h.1.ex e, h.2.ex e⟩) fun h => ⟨h.1, h.2.ex e⟩
/-- what the comparison rules ask of the other side -/
structure Tys (K : PySem.W.Frag) (A : Ads) : Prop where
  own : ∀ (H : Hp) (a dx : Addr) (fs : List (Str × V)), H a = some (.ins A.C_Ratio dx fs) → TyX K H (.ref a) (.ref A.C_Ratio)
  sub : PySem.W.subIn K (.type "int") (.ref A.C_Ratio) = some false
theorem nf_of {K : PySem.W.Frag} {C : Addr} {t : Value} (h : PySem.W.subIn K t (.ref C) = some false) : PySem.W.notFirst K C t = true := by
  unfold PySem.W.notFirst
  rw [h]
  simp
theorem nf_self {K : PySem.W.Frag} {C : Addr} : PySem.W.notFirst K C (.ref C) = true := by
  unfold PySem.W.notFirst
  simp
theorem tys_n {K : PySem.W.Frag} {A : Ads} {H : Hp} {y : V} {c d : Int} (t : Tys K A) (h : IsN A y H c d) : ∃ tb, TyX K H y tb ∧ PySem.W.notFirst K A.C_Ratio tb = true := by
  rcases h with h | ⟨rfl, rfl⟩
  · obtain ⟨p, q, l, a, dx, rfl, hi⟩ := h
    exact ⟨_, t.own H a dx _ hi, nf_self⟩
  · exact ⟨_, .base (.int c), nf_of t.sub⟩
theorem ev_cmp3 {K : PySem.W.Frag} {A : Ads} {R R' : Int → Int → Bool} {E E2 : L2.St → XK} {σ : L2.St} {H : Hp} {i j : Nat} {x y : V} {a b c d : Int} (T : Tys K A) (hR : ∀ l r, R' r l = R l r) (hi : σ[i]? = some (some x)) (hj : σ[j]? = some (some y)) (h : Pair A H x y a b c d) (hs : Sz a ∧ Sz b ∧ Sz c ∧ Sz d) (hn : 0 < b ∧ 0 < d) :
    Ev (tOpS (rAlt (rOwnC K A.C_Ratio (spCmp A R) E) (rOwnR A.C_Ratio (spCmp A R') E2)) (tVar i) (tVar j)) σ H (.bl (R (a * d) (c * b))) := fun H1 e Q q =>
  ⟨x, hi, y, hj, by
    rcases h.ex e with ⟨hX, hY⟩ | ⟨⟨rfl, rfl⟩, hY⟩
    · obtain ⟨tb, ty, nf⟩ := tys_n T hY
      obtain ⟨t, u, l1, xa, xd, rfl, hx⟩ := id hX
      exact .inl ⟨xa, xd, _, tb, rfl, hx, ty, nf, _, _, a, b, c, d, rfl, hX, hY, hs, hn, fun H2 e2 => q H2 e2⟩
    · obtain ⟨t', u', l2, ya, yd, rfl, hy⟩ := id hY
      exact .inr ⟨ya, yd, _, a, rfl, hy, rfl, _, _, c, d, a, 1, rfl, hY, .inr ⟨rfl, rfl⟩, ⟨hs.2.2.1, hs.2.2.2, hs.1, hs.2.1⟩, ⟨hn.2, hn.1⟩, fun H2 e2 => by rw [hR]; exact q H2 e2⟩⟩
theorem ev_eq3 {K : PySem.W.Frag} {A : Ads} {E E2 : L2.St → XK} {σ : L2.St} {H : Hp} {i j : Nat} {x y : V} {a b c d : Int} (T : Tys K A) (hi : σ[i]? = some (some x)) (hj : σ[j]? = some (some y)) (h : Pair A H x y a b c d) (hn : 0 < b ∧ 0 < d) :
    Ev (tOpS (rAlt (rOwnC K A.C_Ratio (spEqR K A) E) (rOwnR A.C_Ratio (spEqR K A) E2)) (tVar i) (tVar j)) σ H (.bl (cEq (a * d) (c * b))) := fun H1 e Q q =>
  ⟨x, hi, y, hj, by
    rcases h.ex e with ⟨hX, hY⟩ | ⟨⟨rfl, rfl⟩, hY⟩
    · obtain ⟨tb, ty, nf⟩ := tys_n T hY
      obtain ⟨t, u, l1, xa, xd, rfl, hx⟩ := id hX
      exact .inl ⟨xa, xd, _, tb, rfl, hx, ty, nf, _, _, a, b, rfl, hX, hn.1, .inl ⟨c, d, hY, hn.2, fun H2 e2 => q H2 e2⟩⟩
    · obtain ⟨t', u', l2, ya, yd, rfl, hy⟩ := id hY
      exact .inr ⟨ya, yd, _, a, rfl, hy, rfl, _, _, c, d, rfl, hY, hn.2, .inl ⟨a, 1, .inr ⟨rfl, rfl⟩, by decide, fun H2 e2 => by rw [show cEq (c * 1) (a * d) = cEq (a * d) (c * 1) by unfold cEq; rw [decide_eq_decide]; exact eq_comm]; exact q H2 e2⟩⟩⟩
theorem ev_ne3 {K : PySem.W.Frag} {A : Ads} {E E2 : L2.St → XK} {σ : L2.St} {H : Hp} {i j : Nat} {x y : V} {a b c d : Int} (T : Tys K A) (hi : σ[i]? = some (some x)) (hj : σ[j]? = some (some y)) (h : Pair A H x y a b c d) (hn : 0 < b ∧ 0 < d) :
    Ev (tOpS (rAlt (rOwnNe K A.C_Ratio (spEqR K A) E) (rOwnNeR A.C_Ratio (spEqR K A) E2)) (tVar i) (tVar j)) σ H (.bl (!cEq (a * d) (c * b))) := fun H1 e Q q =>
  ⟨x, hi, y, hj, by
    rcases h.ex e with ⟨hX, hY⟩ | ⟨⟨rfl, rfl⟩, hY⟩
    · obtain ⟨tb, ty, nf⟩ := tys_n T hY
      obtain ⟨t, u, l1, xa, xd, rfl, hx⟩ := id hX
      exact .inl ⟨xa, xd, _, tb, rfl, hx, ty, nf, _, _, a, b, rfl, hX, hn.1, .inl ⟨c, d, hY, hn.2, fun H2 e2 => ⟨_, rfl, q H2 e2⟩⟩⟩
    · obtain ⟨t', u', l2, ya, yd, rfl, hy⟩ := id hY
      exact .inr ⟨ya, yd, _, a, rfl, hy, rfl, _, _, c, d, rfl, hY, hn.2, .inl ⟨a, 1, .inr ⟨rfl, rfl⟩, by decide, fun H2 e2 => ⟨_, rfl, by rw [show cEq (c * 1) (a * d) = cEq (a * d) (c * 1) by unfold cEq; rw [decide_eq_decide]; exact eq_comm]; exact q H2 e2⟩⟩⟩⟩
def six (l r : Int) : List Bool := [cLt l r, cLe l r, cGt l r, cGe l r, cEq l r, !cEq l r]
theorem six_same {l r l' r' : Int} (h1 : l < r ↔ l' < r') (h2 : l = r ↔ l' = r') : six l r = six l' r' := by
  unfold six cLt cLe cGt cGe cEq
  rw [decide_eq_decide.mpr h1, decide_eq_decide.mpr h2, show decide (l ≤ r) = decide (l' ≤ r') from decide_eq_decide.mpr (by omega), show decide (r < l) = decide (r' < l') from decide_eq_decide.mpr (by omega), show decide (r ≤ l) = decide (r' ≤ l') from decide_eq_decide.mpr (by omega)]
def spOrders (A : Ads) : Sp := fun vs H Q _ => ∃ (x y : V) (a b c d l r : Int), vs = [x, y, .int l, .int r] ∧ Pair A H x y a b c d ∧ (Sz a ∧ Sz b ∧ Sz c ∧ Sz d) ∧ (0 < b ∧ 0 < d) ∧ ((l < r ↔ a * d < c * b) ∧ (l = r ↔ a * d = c * b)) ∧ ∀ H', Ex H H' → Q (.bl true) H'
theorem ev_orders {A : Ads} {E : XK} {σ : L2.St} {H : Hp} {i j : Nat} {t3 t4 : TE} {x y : V} {a b c d l r : Int} (hi : σ[i]? = some (some x)) (hj : σ[j]? = some (some y)) (h3 : Ev t3 σ H (.int l)) (h4 : Ev t4 σ H (.int r)) (h : Pair A H x y a b c d) (hs : Sz a ∧ Sz b ∧ Sz c ∧ Sz d) (hn : 0 < b ∧ 0 < d) (ho : (l < r ↔ a * d < c * b) ∧ (l = r ↔ a * d = c * b)) :
    Ev (tCall (spOrders A) [] E (tCons (tVar i) (tCons (tVar j) (tCons t3 (tCons t4 tNil))))) σ H (.bl true) := ev_call (ea_cons (ev_var hi) (ea_cons (ev_var hj) (ea_cons h3 (ea_cons h4 ea_nil)))) fun H1 e Q q E => ⟨x, y, a, b, c, d, l, r, rfl, h.ex e, hs, hn, ho, fun H' e' => q H' e'⟩
theorem ok_u_law_orders (T : Txt K mg A) : FnOk P w K mg base CX0 12 A.f_u_law_orders A.d_u_law_orders (["one", "two", "left", "right"] : List Str) (spOrders A) := by
  refine T.F_u_law_orders.ok sc_u_law_orders (fun vs H Q E h => ?_) (fun cdv Ar outer s H vs Q E hr h => ?_)
  · obtain ⟨x, y, a, b, c, d, l, r, rfl, _⟩ := h
    rfl
  · obtain ⟨x, y, a, b, c, d, l, r, rfl, hp, hs, hn, ho, k⟩ := h
    refine ⟨_, (pss_cons (ps_set (i := 4) sc_u_law_orders.nd rfl (Or.inl rfl) (pe_lst (pa_cons (pe_cmpS (ops_or (op_ownC (op := .Lt) (E := fun _ => E0) (fun _ _ => rfl) T.M_Ratio_lt (ok_Ratio_lt T) (hr.mono (by omega)) (b_Ratio_lt T) (pAt passL)) (op_ownCR (op := .Lt) (E := fun _ => E0) (fun _ _ => rfl) T.li_Ratio T.M_Ratio_gt side_lt (ok_Ratio_gt T) (hr.mono (by omega)) (b_Ratio_gt T) (pAt passL))) (pv 0) (pv 1) (nomark _)) (pa_cons (pe_cmpS (ops_or (op_ownC (op := .LtE) (E := fun _ => E0) (fun _ _ => rfl) T.M_Ratio_le (ok_Ratio_le T) (hr.mono (by omega)) (b_Ratio_le T) (pAt passL)) (op_ownCR (op := .LtE) (E := fun _ => E0) (fun _ _ => rfl) T.li_Ratio T.M_Ratio_ge side_le (ok_Ratio_ge T) (hr.mono (by omega)) (b_Ratio_ge T) (pAt passL))) (pv 0) (pv 1) (nomark _)) (pa_cons (pe_cmpS (ops_or (op_ownC (op := .Gt) (E := fun _ => E0) (fun _ _ => rfl) T.M_Ratio_gt (ok_Ratio_gt T) (hr.mono (by omega)) (b_Ratio_gt T) (pAt passL)) (op_ownCR (op := .Gt) (E := fun _ => E0) (fun _ _ => rfl) T.li_Ratio T.M_Ratio_lt side_gt (ok_Ratio_lt T) (hr.mono (by omega)) (b_Ratio_lt T) (pAt passL))) (pv 0) (pv 1) (nomark _)) (pa_cons (pe_cmpS (ops_or (op_ownC (op := .GtE) (E := fun _ => E0) (fun _ _ => rfl) T.M_Ratio_ge (ok_Ratio_ge T) (hr.mono (by omega)) (b_Ratio_ge T) (pAt passL)) (op_ownCR (op := .GtE) (E := fun _ => E0) (fun _ _ => rfl) T.li_Ratio T.M_Ratio_le side_ge (ok_Ratio_le T) (hr.mono (by omega)) (b_Ratio_le T) (pAt passL))) (pv 0) (pv 1) (nomark _)) (pa_cons (pe_cmpS (ops_or (op_ownC (op := .Eq) (E := fun _ => E0) (fun _ _ => rfl) T.M_Ratio_eq (ok_Ratio_eq T) (hr.mono (by omega)) (b_Ratio_eq T) (pAt pass0)) (op_ownCR (op := .Eq) (E := fun _ => E0) (fun _ _ => rfl) T.li_Ratio T.M_Ratio_eq side_eq (ok_Ratio_eq T) (hr.mono (by omega)) (b_Ratio_eq T) (pAt pass0))) (pv 0) (pv 1) (nomark _)) (pa_cons (pe_cmpS (ops_or (op_neO (E := fun _ => E0) T.ne_Ratio T.M_Ratio_eq (ok_Ratio_eq T) (hr.mono (by omega)) (b_Ratio_eq T) (pAt pass0)) (op_neR (E := fun _ => E0) T.ne_Ratio T.li_Ratio T.M_Ratio_eq (ok_Ratio_eq T) (hr.mono (by omega)) (b_Ratio_eq T) (pAt pass0))) (pv 0) (pv 1) (nomark _)) pa_nil))))))))
        (pss_cons (ps_set (i := 5) sc_u_law_orders.nd rfl (Or.inl rfl) (pe_lst (pa_cons (pe_cmpR op_lt (pv 2) (pv 3) (nomark _)) (pa_cons (pe_cmpR op_le (pv 2) (pv 3) (nomark _)) (pa_cons (pe_cmpR op_gt (pv 2) (pv 3) (nomark _)) (pa_cons (pe_cmpR op_ge (pv 2) (pv 3) (nomark _)) (pa_cons (pe_cmpR op_eq (pv 2) (pv 3) (nomark _)) (pa_cons (pe_cmpR op_ne (pv 2) (pv 3) (nomark _)) pa_nil))))))))
        (pss_cons (ps_for PassesOwn.never rfl (pi_range1 rfl T.z_range (pa_cons pe_int pa_nil)) (pg_name (i := 6) sc_u_law_orders.nd rfl (Or.inl rfl)) (pss_one (ps_if (PW.pt (pw_or (PW.pt (pw_and (pt_val (pe_ix ix_lK (pv 5) (pv 6) (fun _ _ => rfl))) (pw_and1 (pt_cmpR op_isNotK (pe_ix ix_lK (pv 4) (pv 6) (fun _ _ => rfl)) pe_bl (nomark _))))) (pw_or1 (PW.pt (pw_and (pt_not (pt_val (pe_ix ix_lK (pv 5) (pv 6) (fun _ _ => rfl)))) (pw_and1 (pt_cmpR op_isNotK (pe_ix ix_lK (pv 4) (pv 6) (fun _ _ => rfl)) pe_bl (nomark _)))))))) (pss_one (ps_ret pe_bl)) pss_nil)))
        (pss_one (ps_ret pe_bl))))), ?_⟩
    have ts : Tys K A := ⟨T.ty_Ratio, T.op_Ratio.sub⟩
    have r1 : ∀ l r : Int, cGt r l = cLt l r := fun l r => rfl
    have r2 : ∀ l r : Int, cGe r l = cLe l r := fun l r => rfl
    have r3 : ∀ l r : Int, cLt r l = cGt l r := fun l r => rfl
    have r4 : ∀ l r : Int, cLe r l = cGe l r := fun l r => rfl
    have sm := six_same ho.1 ho.2
    try dsimp only
    refine q_asgL (xs := (six (a * d) (c * b)).map V.bl) (el_lst (ea_cons (ev_cmp3 (R := cLt) ts r1 (i := 0) (j := 1) rfl rfl hp hs hn) (ea_cons (ev_cmp3 (R := cLe) ts r2 (i := 0) (j := 1) rfl rfl hp hs hn) (ea_cons (ev_cmp3 (R := cGt) ts r3 (i := 0) (j := 1) rfl rfl hp hs hn) (ea_cons (ev_cmp3 (R := cGe) ts r4 (i := 0) (j := 1) rfl rfl hp hs hn) (ea_cons (ev_eq3 ts (i := 0) (j := 1) rfl rfl hp hn) (ea_cons (ev_ne3 ts (i := 0) (j := 1) rfl rfl hp hn) ea_nil)))))) (by show 6 ≤ 100000; decide)) fun fp H1 hfp e1 hf => ?_
    try dsimp only
    refine q_asgL (xs := (six l r).map V.bl) (el_lst (ea_cons (ev_op (ev_var (i := 2) rfl) (ev_var (i := 3) rfl) rv_I0) (ea_cons (ev_op (ev_var (i := 2) rfl) (ev_var (i := 3) rfl) rv_I0) (ea_cons (ev_op (ev_var (i := 2) rfl) (ev_var (i := 3) rfl) rv_I0) (ea_cons (ev_op (ev_var (i := 2) rfl) (ev_var (i := 3) rfl) rv_I0) (ea_cons (ev_is (ev_op (ev_var (i := 2) rfl) (ev_var (i := 3) rfl) (rv_eq rfl)) (by rw [dec_ii]; rfl)) (ea_cons (ev_is (ev_op (ev_var (i := 2) rfl) (ev_var (i := 3) rfl) (rv_ne rfl)) (by rw [dec_ii]; rfl)) ea_nil)))))) (by show 6 ≤ 100000; decide)) fun dp H2 hdp e2 hd => ?_
    rw [sm] at hd
    replace hf := e2 _ _ hf
    have e12 := e1.trans e2
    obtain ⟨bs, hbs⟩ : ∃ bs : List Bool, bs = six (a * d) (c * b) := ⟨_, rfl⟩
    have hl6 : bs.length = 6 := by rw [hbs]; rfl
    rw [← hbs] at hf hd
    try dsimp only
    refine q_forR1 (n := 6) (ea_cons ev_c ea_nil) (by decide) (fun i σ' H' => ∃ kv : Option V, σ' = [some x, some y, some (.int l), some (.int r), some (.ref fp), some (.ref dp), kv] ∧ Ex H2 H') (fun H3 e3 => ⟨none, rfl, e3⟩) ?_ ?_
    · rintro i σ' H' hi ⟨kv, rfl, e⟩
      obtain ⟨bi, hbi⟩ : ∃ bi, bs[i]? = some bi := ⟨_, List.getElem?_eq_getElem (show i < bs.length by omega)⟩
      have hat : (bs.map V.bl)[i]? = some (.bl bi) := by rw [List.getElem?_map, hbi]; rfl
      have ix : ∀ (j : Nat) (p : Addr) (τ : L2.St) G, Ex H' G → τ[j]? = some (some (.ref p)) → τ[6]? = some (some (.int (i : Int))) → H2 p = some (.lst (bs.map V.bl)) → Ev (tOp (rIxL K) (tVar j) (tVar 6)) τ G (.bl bi) := fun j p τ G eG h1 h2 h3 => ev_op (ev_var h1) (ev_var h2) (rv_ixL (sq_of (eG _ _ (e _ _ h3))) (atI_nat hat))
      try dsimp only
      refine s_when (b := false) (et_is (et_or (et_and (et_B (ix 5 dp _ _ (Ex.refl _) rfl rfl hd)) fun _ => et_test (ev_op (ix 4 fp _ _ (Ex.refl _) rfl rfl hf) ev_c rv_isNotK)) fun _ => et_and (et_not (et_B (ix 5 dp _ _ (Ex.refl _) rfl rfl hd))) fun _ => et_test (ev_op (ix 4 fp _ _ (Ex.refl _) rfl rfl hf) ev_c rv_isNotK)) (by cases bi <;> simp)) (fun z => Bool.noConfusion z) fun _ H3 e3 => ⟨_, rfl, e.trans e3⟩
    rintro σ' H' ⟨kv, rfl, e⟩
    try dsimp only
    exact s_ret (v := .bl true) ev_c fun H3 e3 => k H3 (e12.trans (e.trans e3))

theorem fl_pos {z p q : Int} (h : IsFl z p q) (hq : 0 < q) : z * q ≤ p ∧ p < (z + 1) * q := by
  obtain ⟨t, u, l, h1, h2, _⟩ := h
  have e := l.eq
  have hu := l.pos
  refine ⟨?_, ?_⟩
  · have g := Int.mul_le_mul_of_nonneg_right h1 (Int.le_of_lt hq)
    have g2 : (z * q) * u ≤ p * u := by rw [← e]; rw [Int.mul_assoc, Int.mul_comm q u, ← Int.mul_assoc]; exact g
    exact Int.le_of_mul_le_mul_right g2 hu
  · have g := Int.mul_lt_mul_of_pos_right h2 hq
    have g2 : p * u < ((z + 1) * q) * u := by rw [← e]; rw [Int.mul_assoc (z + 1) q u, Int.mul_comm q u, ← Int.mul_assoc]; exact g
    exact Int.lt_of_mul_lt_mul_right g2 (Int.le_of_lt hu)
theorem cl_pos {z p q : Int} (h : IsCl z p q) (hq : 0 < q) : p ≤ z * q ∧ (z - 1) * q < p := by
  obtain ⟨t, u, l, h1, h2, _⟩ := h
  have e := l.eq
  have hu := l.pos
  refine ⟨?_, ?_⟩
  · have g := Int.mul_le_mul_of_nonneg_right h1 (Int.le_of_lt hq)
    have g2 : p * u ≤ (z * q) * u := by rw [← e]; rw [Int.mul_assoc z q u, Int.mul_comm q u, ← Int.mul_assoc]; exact g
    exact Int.le_of_mul_le_mul_right g2 hu
  · have g := Int.mul_lt_mul_of_pos_right h2 hq
    have g2 : ((z - 1) * q) * u < p * u := by rw [← e]; rw [Int.mul_assoc (z - 1) q u, Int.mul_comm q u, ← Int.mul_assoc]; exact g
    exact Int.lt_of_mul_lt_mul_right g2 (Int.le_of_lt hu)
theorem fl_le {z z' p q : Int} (h : IsFl z p q) (h' : IsFl z' p q) (hq : q ≠ 0) : z ≤ z' := by
  obtain ⟨t, u, l, h1, h2, _⟩ := h
  obtain ⟨t', u', l', h1', h2', _⟩ := h'
  have e := l.eq
  have e' := l'.eq
  have c : t * u' = t' * u := by
    have : q * (t * u') = q * (t' * u) := by grind
    exact Int.eq_of_mul_eq_mul_left hq this
  have g1 := Int.mul_le_mul_of_nonneg_right h1 (Int.le_of_lt l'.pos)
  have g2 := Int.mul_lt_mul_of_pos_right h2' l.pos
  have g3 : z * (u * u') < (z' + 1) * (u * u') := by
    have a1 : z * u * u' = z * (u * u') := Int.mul_assoc _ _ _
    have a2 : (z' + 1) * u' * u = (z' + 1) * (u * u') := by rw [Int.mul_assoc, Int.mul_comm u' u]
    omega
  have g4 := Int.lt_of_mul_lt_mul_right g3 (Int.le_of_lt (Int.mul_pos l.pos l'.pos))
  omega
theorem fl_uniq {z z' p q : Int} (h : IsFl z p q) (h' : IsFl z' p q) (hq : q ≠ 0) : z = z' := Int.le_antisymm (fl_le h h' hq) (fl_le h' h hq)
theorem fl_flip {z p q : Int} (h : IsFl z p q) : IsFl z (-p) (-q) := by
  obtain ⟨t, u, l, h1, h2, h3⟩ := h
  exact ⟨t, u, ⟨l.pos, l.cop, by rw [Int.mul_neg, Int.neg_mul, l.eq], by rw [Int.natAbs_neg]; exact l.lt, by rw [Int.natAbs_neg]; exact l.lu⟩, h1, h2, by rw [Int.natAbs_neg]; exact h3⟩
theorem fl_abs {z p q : Int} (h : IsFl z p q) : z.natAbs ≤ p.natAbs + 1 := by
  obtain ⟨t, u, l, h1, h2, h3⟩ := h
  exact h3
theorem cl_abs {z p q : Int} (h : IsCl z p q) : z.natAbs ≤ p.natAbs + 1 := by
  obtain ⟨t, u, l, h1, h2, h3⟩ := h
  exact h3
theorem er_ceil {A : Ads} {E : XK} {σ : L2.St} {H : Hp} {ta : TE} {a b : Int} (hx : EvR ta σ H fun v H1 => IsRt A v H1 a b) (hb : Sz b) : EvR (tMeth A.C_Ratio "ceiling" (spCeil A) [] E ta tNil) σ H fun v _ => ∃ z : Int, v = .int z ∧ IsCl z a b := fun H1 e Q q =>
  hx H1 e _ fun x H2 e2 hX => by
    obtain ⟨t, u, l1, xa, xd, rfl, hi⟩ := id hX
    exact ⟨xa, xd, _, rfl, hi, by rfl, _, a, b, rfl, hX, hb, fun z H' e' hz => q _ H' (e2.trans e') ⟨z, rfl, hz⟩⟩
def spRounded (A : Ads) : Sp := fun vs H Q _ => ∃ (x : V) (a b : Int), vs = [x, .int a, .int b] ∧ IsRt A x H a b ∧ (Fb 500 a ∧ Fb 500 b) ∧ 0 < b ∧ ∀ H', Ex H H' → Q (.bl true) H'
theorem ev_rounded {A : Ads} {E : XK} {σ : L2.St} {H : Hp} {i : Nat} {t1 t2 : TE} {x : V} {a b : Int} (hi : σ[i]? = some (some x)) (h1 : Ev t1 σ H (.int a)) (h2 : Ev t2 σ H (.int b)) (hx : IsRt A x H a b) (hf : Fb 500 a ∧ Fb 500 b) (hb : 0 < b) :
    Ev (tCall (spRounded A) [] E (tCons (tVar i) (tCons t1 (tCons t2 tNil)))) σ H (.bl true) := ev_call (ea_cons (ev_var hi) (ea_cons h1 (ea_cons h2 ea_nil))) fun H1 e Q q E => ⟨x, a, b, rfl, hx.ex e, hf, hb, fun H' e' => q H' e'⟩
theorem ok_u_law_rounded (T : Txt K mg A) : FnOk P w K mg base CX0 3 A.f_u_law_rounded A.d_u_law_rounded (["one", "a", "b"] : List Str) (spRounded A) := by
  refine T.F_u_law_rounded.ok sc_u_law_rounded (fun vs H Q E h => ?_) (fun cdv Ar outer s H vs Q E hr h => ?_)
  · obtain ⟨x, a, b, rfl, _⟩ := h
    rfl
  · obtain ⟨x, a, b, rfl, hx, ⟨fa, fb⟩, hb, k⟩ := h
    refine ⟨_, (pss_cons (ps_set (i := 3) sc_u_law_rounded.nd rfl (Or.inl rfl) (pe_meth0 (pv 0) T.cl_Ratio T.M_Ratio_floor (ok_Ratio_floor T) (hr.mono (by omega)) (b_Ratio_floor T) .nil pass0))
        (pss_cons (ps_set (i := 4) sc_u_law_rounded.nd rfl (Or.inl rfl) (pe_meth0 (pv 0) T.cl_Ratio T.M_Ratio_ceiling (ok_Ratio_ceiling T) (hr.mono (by omega)) (b_Ratio_ceiling T) .nil pass0))
        (pss_cons (ps_if (PW.pt (pw_or (pt_not (pt_val (pe_call (ok_u_law_is_int T) (hr.mono (by omega)) rfl T.g_u_law_is_int T.k_u_law_is_int (b_u_law_is_int T) .nil pass0 (pa_cons (pv 3) pa_nil)))) (pw_or (pt_cmpR op_gt (pe_op op_mulW (pv 3) (pv 2)) (pv 1) (nomark _)) (pw_or1 (pt_cmpR op_le (pe_op op_mulW (pe_op op_add (pv 3) pe_int) (pv 2)) (pv 1) (nomark _)))))) (pss_one (ps_ret pe_bl)) pss_nil)
        (pss_one (ps_ret (pe_and (pe_call (ok_u_law_is_int T) (hr.mono (by omega)) rfl T.g_u_law_is_int T.k_u_law_is_int (b_u_law_is_int T) .nil pass0 (pa_cons (pv 4) pa_nil)) (pe_and (pe_cmpR op_ge (pe_op op_mulW (pv 4) (pv 2)) (pv 1) (nomark _)) (pe_one (pe_cmpR op_lt (pe_op op_mulW (pe_op op_sub (pv 4) pe_int) (pv 2)) (pv 1) (nomark _)))))))))), ?_⟩
    have f1 : Fb 501 1 := (show Fb 1 1 from ⟨by decide⟩).up (by decide)
    try dsimp only
    refine q_asgR (er_floor (er_at (i := 0) rfl hx) (fb.sz (by decide))) fun v H1 e1 hv => ?_
    obtain ⟨lo, rfl, hlo⟩ := hv
    try dsimp only
    refine q_asgR (er_ceil (er_at (i := 0) rfl (hx.ex e1)) (fb.sz (by decide))) fun v H2 e2 hv => ?_
    obtain ⟨hi, rfl, hhi⟩ := hv
    obtain ⟨l1, l2⟩ := fl_pos hlo hb
    obtain ⟨h1, h2⟩ := cl_pos hhi hb
    have fl : Fb 501 lo := fa.next (fl_abs hlo)
    have fh : Fb 501 hi := fa.next (cl_abs hhi)
    have m1 := fl.mw fb (by decide) (by decide)
    have m2 := (fl.add f1).mw fb (by decide) (by decide)
    have m3 := fh.mw fb (by decide) (by decide)
    have m4 := (fh.sub f1).mw fb (by decide) (by decide)
    clear fl fh f1 fa fb
    try dsimp only
    refine q_skip (et_orF (et_notT (et_B (ev_isInt (ev_var (i := 3) rfl)))) (et_orF (et_is (et_test (ev_op (ev_op (ev_var (i := 3) rfl) (ev_var (i := 2) rfl) (rv_I m1)) (ev_var (i := 1) rfl) rv_I0)) (decide_eq_false (by omega))) (et_is (et_test (ev_op (ev_op (ev_op (ev_var (i := 3) rfl) ev_c rv_I0) (ev_var (i := 2) rfl) (rv_I m2)) (ev_var (i := 1) rfl) rv_I0)) (decide_eq_false (by omega))))) fun H3 e3 => ?_
    try dsimp only
    exact s_ret (v := .bl true) (ev_andV (a := true) (ev_isInt (ev_var (i := 4) rfl)) fun _ => ev_andV (a := true) (b := true) (ev_is (ev_op (ev_op (ev_var (i := 4) rfl) (ev_var (i := 2) rfl) (rv_I m3)) (ev_var (i := 1) rfl) rv_I0) (by rw [decide_eq_true (by omega)])) fun _ => ev_is (ev_op (ev_op (ev_op (ev_var (i := 4) rfl) ev_c rv_I0) (ev_var (i := 2) rfl) (rv_I m4)) (ev_var (i := 1) rfl) rv_I0) (by rw [decide_eq_true (by omega)])) fun H4 e4 => k H4 (e1.trans (e2.trans (e3.trans e4)))

theorem rv_isN {x : V} {H : Hp} : RV (fun x y H Q => y = .non ∧ Q (.bl (decide (x = .non))) H) x .non H (.bl (decide (x = .non))) := fun H1 _ _ q => ⟨rfl, q H1 (Ex.refl H1)⟩
def spZero (A : Ads) : Sp := fun vs H Q _ => ∃ (x r : V) (w a b d : Int), vs = [x, r, .int w] ∧ IsRt A x H a b ∧ IsN A r H 0 d ∧ (Sz a ∧ Sz b ∧ Sz d) ∧ (b ≠ 0 ∧ d ≠ 0) ∧ ∀ H', Ex H H' → Q (.bl true) H'
theorem ev_zero {A : Ads} {E : XK} {σ : L2.St} {H : Hp} {tx ty tw : TE} {x r : V} {w a b d : Int} (h1 : Ev tx σ H x) (h2 : Ev ty σ H r) (h3 : Ev tw σ H (.int w)) (hx : IsRt A x H a b) (hr0 : IsN A r H 0 d) (hs : Sz a ∧ Sz b ∧ Sz d) (hn : b ≠ 0 ∧ d ≠ 0) :
    Ev (tCall (spZero A) [] E (tCons tx (tCons ty (tCons tw tNil)))) σ H (.bl true) := ev_call (ea_cons h1 (ea_cons h2 (ea_cons h3 ea_nil))) fun H1 e Q q E => ⟨x, r, w, a, b, d, rfl, hx.ex e, hr0.ex e, hs, hn, fun H' e' => q H' e'⟩
theorem ok_u_law_zero_refused (T : Txt K mg A) : FnOk P w K mg base CX0 13 A.f_u_law_zero_refused A.d_u_law_zero_refused (["x", "r", "way"] : List Str) (spZero A) := by
  refine T.F_u_law_zero_refused.ok sc_u_law_zero_refused (fun vs H Q E h => ?_) (fun cdv Ar outer s H vs Q E hr h => ?_)
  · obtain ⟨x, r, w, a, b, d, rfl, _⟩ := h
    rfl
  · obtain ⟨x, r, w, a, b, d, rfl, hx, hy, ⟨sa, sb, sd⟩, hn, k⟩ := h
    refine ⟨_, (pss_cons (ps_set (i := 3) sc_u_law_zero_refused.nd rfl (Or.inl rfl) (pe_lst pa_nil))
        (pss_cons (ps_set (i := 4) sc_u_law_zero_refused.nd rfl (Or.inl rfl) pe_non)
        (pss_cons (ps_try_as (i := 5) (Wout := fun _ _ _ _ => False) rfl rfl sc_u_law_zero_refused.nd rfl rfl ⟨rfl, by decide, Or.inl T.g_WatchError⟩ takes0 (fun W pn xe tk _ => (pss_one (ps_if (pt_cmpR op_eq (pv 2) pe_int (nomark _)) (pss_one (ps_set (i := 4) sc_u_law_zero_refused.nd rfl (Or.inl rfl) (pe_opS (ops_or (op_own2 (op := .FloorDiv) (E := WE W) T.op_Ratio T.D_Ratio_floordiv (ok_Ratio_floordiv T) (hr.mono (by omega)) (b_Ratio_floordiv T) (fun σ => passAt tk σ)) (op_ownJ (op := .FloorDiv) (E := WE W) T.op_Ratio T.D_Ratio_floordiv T.I_Ratio_floordiv (ok_Ratio_floordiv T) (hr.mono (by omega)) (b_Ratio_floordiv T) (fun σ => passAt tk σ))) (pv 0) (pv 1)))) (pss_one (ps_if (pt_cmpR op_eq (pv 2) pe_int (nomark _)) (pss_one (ps_set (i := 4) sc_u_law_zero_refused.nd rfl (Or.inl rfl) (pe_opS (ops_or (op_own2 (op := .Mod) (E := WE W) T.op_Ratio T.D_Ratio_mod (ok_Ratio_mod T) (hr.mono (by omega)) (b_Ratio_mod T) (fun σ => passAt tk σ)) (op_ownJ (op := .Mod) (E := WE W) T.op_Ratio T.D_Ratio_mod T.I_Ratio_mod (ok_Ratio_mod T) (hr.mono (by omega)) (b_Ratio_mod T) (fun σ => passAt tk σ))) (pv 0) (pv 1)))) (pss_one (ps_set (i := 4) sc_u_law_zero_refused.nd rfl (Or.inl rfl) (pe_methS (pv 0) T.cl_Ratio T.M_Ratio_over (ok_Ratio_over T) (hr.mono (by omega)) (b_Ratio_over T) .nil (fun σ => passAt tk σ) (pa_cons (pv 1) pa_nil))))))))) (fun a oe cls dd pn hz hf => (pss_one (ps_set (i := 3) sc_u_law_zero_refused.nd rfl (Or.inl rfl) (pe_lst (pa_cons (pe_callB (call_isN T.ex_ZeroUnder hz hf) (by rfl) T.z_isinstance (by decide +kernel) (pa_cons (pv 5) (pa_cons (pe_glob (v := .ref A.C_ZeroUnder) rfl T.g_ZeroUnder rfl) pa_nil))) (pa_cons (pe_callB (call_isN T.ex_ZeroUnder hz hf) (by rfl) T.z_isinstance (by decide +kernel) (pa_cons (pv 5) (pa_cons (pe_bltn (v := .ty "ValueError") (by rfl) T.z_ValueError (by decide +kernel) rfl) pa_nil))) (pa_cons (pe_callB (call_isN T.ex_ZeroUnder hz hf) (by rfl) T.z_isinstance (by decide +kernel) (pa_cons (pv 5) (pa_cons (pe_glob (v := .ref A.C_BadNumber) rfl T.g_BadNumber rfl) pa_nil))) pa_nil))))))))
        (pss_one (ps_ret (pe_and (pe_cmpR op_isN (pv 4) pe_non (nomark _)) (pe_one (pe_cmpR (eqD_K hr.units) (pv 3) (pe_lst (pa_cons pe_bl (pa_cons pe_bl (pa_cons pe_bl pa_nil)))) (nomark _))))))))), ?_⟩
    have s0 : Sz 0 := sz_of (b := 1) (by decide) (by decide)
    have sbc : Sz (b * 0) := by rw [Int.mul_zero]; exact s0
    try dsimp only
    refine q_asgL (xs := []) (el_lst ea_nil (by decide)) fun lp H1 hlp e1 h1 => ?_
    try dsimp only
    refine q_asg (v := .non) ev_c fun H2 e2 => ?_
    have e12 := e1.trans e2
    try dsimp only
    refine s_if (b := decide (w = 0)) (et_is (et_test (ev_op (ev_var (i := 2) rfl) ev_c (rv_eq rfl))) dec_ii) (fun hb H3 e3 => ?_) (fun hb H3 e3 => ?_)
    · replace e3 := e12.trans e3
      refine ⟨x, rfl, r, rfl, alt_num (hx.ex e3) (hy.ex e3) ⟨x, r, a, b, 0, d, rfl, hx.ex e3, hy.ex e3, ⟨sa, sb, s0, sd⟩, hn, sbc, fun _ H4 e4 => ?_, fun z => absurd rfl z⟩⟩
      refine ⟨true, T.xm_ZeroUnder_WatchError, fun _ ea hea => ?_, fun z => Bool.noConfusion z⟩
      have isz : ∀ (c : V) (b : Bool), (∃ cv, (∀ u, RelV c u → u = cv) ∧ PySem.W.kitOne K (.ref A.C_ZeroUnder) cv = some b) → ∀ G σ', σ'[5]? = some (some (.ref ea)) → Ev (tCB (rIsN K A.C_ZeroUnder ea (.ref A.C_ZeroUnder) none) (tCons (tVar 5) (tCons (tC c) tNil))) σ' G (.bl b) := fun c b ⟨cv, h1, h2⟩ G σ' hσ =>
        ev_cb (ea_cons (ev_var hσ) (ea_cons ev_c ea_nil)) fun H6 e6 Q q => ⟨rfl, rfl, c, cv, b, rfl, h1, h2, q H6 (Ex.refl H6)⟩
      try dsimp only
      refine s_asgL (xs := [.bl true, .bl true, .bl false]) (el_lst (ea_cons (isz (.ref A.C_ZeroUnder) _ ⟨.ref A.C_ZeroUnder, fun u h => h, T.kit_ZeroUnder_ZeroUnder⟩ _ _ rfl) (ea_cons (isz (.ty "ValueError") _ ⟨.type "ValueError", fun u h => h, T.kit_ZeroUnder_ValueError⟩ _ _ rfl) (ea_cons (isz (.ref A.C_BadNumber) _ ⟨.ref A.C_BadNumber, fun u h => h, T.kit_ZeroUnder_BadNumber⟩ _ _ rfl) ea_nil))) (by show 3 ≤ 100000; decide)) fun tp H5 htp e5 h5 => ?_
      have dp : ∀ G q, G q = some (.lst [.bl true, .bl true, .bl false]) → Dp K G (.ref q) (.list [.bool true, .bool true, .bool false]) := fun G q h => .lst (sq_of h) (.cons (.bl _) (.cons (.bl _) (.cons (.bl _) .nil)))
      try dsimp only
      exact s_ret (v := .bl true) (ev_andV (a := true) (ev_is (ev_op (ev_var (i := 4) rfl) ev_c rv_isN) rfl) fun _ => (fun H6 e6 Q q => ⟨_, rfl, el_lst (vs := [.bl true, .bl true, .bl false]) (ea_cons ev_c (ea_cons ev_c (ea_cons ev_c ea_nil))) (by show 3 ≤ 100000; decide) H6 (Ex.refl _) _ fun q2 H7 _ e7 h7 => ⟨_, _, dp H7 tp (e7 _ _ (e6 _ _ h5)), dp H7 q2 h7, by rfl, by rfl, q H7 e7⟩⟩)) fun H6 e6 => k H6 (e3.trans (e4.trans (e5.trans e6)))
    replace e3 := e12.trans e3
    refine s_if (b := decide (w = 1)) (et_is (et_test (ev_op (ev_var (i := 2) rfl) ev_c (rv_eq rfl))) dec_ii) (fun hb H4 e4 => ?_) (fun hb H4 e4 => ?_)
    · replace e3 := e3.trans e4
      clear e4
      refine ⟨x, rfl, r, rfl, alt_num (hx.ex e3) (hy.ex e3) ⟨x, r, a, b, 0, d, rfl, hx.ex e3, hy.ex e3, ⟨sa, sb, s0, sd⟩, hn, sbc, fun _ H4 e4 => ?_, fun z => absurd rfl z⟩⟩
      refine ⟨true, T.xm_ZeroUnder_WatchError, fun _ ea hea => ?_, fun z => Bool.noConfusion z⟩
      have isz : ∀ (c : V) (b : Bool), (∃ cv, (∀ u, RelV c u → u = cv) ∧ PySem.W.kitOne K (.ref A.C_ZeroUnder) cv = some b) → ∀ G σ', σ'[5]? = some (some (.ref ea)) → Ev (tCB (rIsN K A.C_ZeroUnder ea (.ref A.C_ZeroUnder) none) (tCons (tVar 5) (tCons (tC c) tNil))) σ' G (.bl b) := fun c b ⟨cv, h1, h2⟩ G σ' hσ =>
        ev_cb (ea_cons (ev_var hσ) (ea_cons ev_c ea_nil)) fun H6 e6 Q q => ⟨rfl, rfl, c, cv, b, rfl, h1, h2, q H6 (Ex.refl H6)⟩
      try dsimp only
      refine s_asgL (xs := [.bl true, .bl true, .bl false]) (el_lst (ea_cons (isz (.ref A.C_ZeroUnder) _ ⟨.ref A.C_ZeroUnder, fun u h => h, T.kit_ZeroUnder_ZeroUnder⟩ _ _ rfl) (ea_cons (isz (.ty "ValueError") _ ⟨.type "ValueError", fun u h => h, T.kit_ZeroUnder_ValueError⟩ _ _ rfl) (ea_cons (isz (.ref A.C_BadNumber) _ ⟨.ref A.C_BadNumber, fun u h => h, T.kit_ZeroUnder_BadNumber⟩ _ _ rfl) ea_nil))) (by show 3 ≤ 100000; decide)) fun tp H5 htp e5 h5 => ?_
      have dp : ∀ G q, G q = some (.lst [.bl true, .bl true, .bl false]) → Dp K G (.ref q) (.list [.bool true, .bool true, .bool false]) := fun G q h => .lst (sq_of h) (.cons (.bl _) (.cons (.bl _) (.cons (.bl _) .nil)))
      try dsimp only
      exact s_ret (v := .bl true) (ev_andV (a := true) (ev_is (ev_op (ev_var (i := 4) rfl) ev_c rv_isN) rfl) fun _ => (fun H6 e6 Q q => ⟨_, rfl, el_lst (vs := [.bl true, .bl true, .bl false]) (ea_cons ev_c (ea_cons ev_c (ea_cons ev_c ea_nil))) (by show 3 ≤ 100000; decide) H6 (Ex.refl _) _ fun q2 H7 _ e7 h7 => ⟨_, _, dp H7 tp (e7 _ _ (e6 _ _ h5)), dp H7 q2 h7, by rfl, by rfl, q H7 e7⟩⟩)) fun H6 e6 => k H6 (e3.trans (e4.trans (e5.trans e6)))
    · replace e3 := e3.trans e4
      clear e4
      have hX := hx.ex e3
      obtain ⟨t, u, l1, xa, xd, rfl, hi⟩ := id hX
      refine ⟨_, rfl, xa, xd, _, rfl, hi, by rfl, r, rfl, _, r, a, b, 0, d, rfl, hX, hy.ex e3, ⟨sa, sb, s0, sd⟩, hn, fun _ H4 e4 => ?_, fun z => absurd rfl z⟩
      refine ⟨true, T.xm_ZeroUnder_WatchError, fun _ ea hea => ?_, fun z => Bool.noConfusion z⟩
      have isz : ∀ (c : V) (b : Bool), (∃ cv, (∀ u, RelV c u → u = cv) ∧ PySem.W.kitOne K (.ref A.C_ZeroUnder) cv = some b) → ∀ G σ', σ'[5]? = some (some (.ref ea)) → Ev (tCB (rIsN K A.C_ZeroUnder ea (.ref A.C_ZeroUnder) none) (tCons (tVar 5) (tCons (tC c) tNil))) σ' G (.bl b) := fun c b ⟨cv, h1, h2⟩ G σ' hσ =>
        ev_cb (ea_cons (ev_var hσ) (ea_cons ev_c ea_nil)) fun H6 e6 Q q => ⟨rfl, rfl, c, cv, b, rfl, h1, h2, q H6 (Ex.refl H6)⟩
      try dsimp only
      refine s_asgL (xs := [.bl true, .bl true, .bl false]) (el_lst (ea_cons (isz (.ref A.C_ZeroUnder) _ ⟨.ref A.C_ZeroUnder, fun u h => h, T.kit_ZeroUnder_ZeroUnder⟩ _ _ rfl) (ea_cons (isz (.ty "ValueError") _ ⟨.type "ValueError", fun u h => h, T.kit_ZeroUnder_ValueError⟩ _ _ rfl) (ea_cons (isz (.ref A.C_BadNumber) _ ⟨.ref A.C_BadNumber, fun u h => h, T.kit_ZeroUnder_BadNumber⟩ _ _ rfl) ea_nil))) (by show 3 ≤ 100000; decide)) fun tp H5 htp e5 h5 => ?_
      have dp : ∀ G q, G q = some (.lst [.bl true, .bl true, .bl false]) → Dp K G (.ref q) (.list [.bool true, .bool true, .bool false]) := fun G q h => .lst (sq_of h) (.cons (.bl _) (.cons (.bl _) (.cons (.bl _) .nil)))
      try dsimp only
      exact s_ret (v := .bl true) (ev_andV (a := true) (ev_is (ev_op (ev_var (i := 4) rfl) ev_c rv_isN) rfl) fun _ => (fun H6 e6 Q q => ⟨_, rfl, el_lst (vs := [.bl true, .bl true, .bl false]) (ea_cons ev_c (ea_cons ev_c (ea_cons ev_c ea_nil))) (by show 3 ≤ 100000; decide) H6 (Ex.refl _) _ fun q2 H7 _ e7 h7 => ⟨_, _, dp H7 tp (e7 _ _ (e6 _ _ h5)), dp H7 q2 h7, by rfl, by rfl, q H7 e7⟩⟩)) fun H6 e6 => k H6 (e3.trans (e4.trans (e5.trans e6)))

def spQuot (A : Ads) : Sp := fun vs H Q _ => ∃ (x r : V) (a b c d : Int), vs = [x, r, .int a, .int b, .int c, .int d] ∧ IsRt A x H a b ∧ IsN A r H c d ∧ (Fb 500 a ∧ Fb 500 b ∧ Fb 500 c ∧ Fb 500 d) ∧ (0 < b ∧ 0 < d) ∧ ∀ H', Ex H H' → Q (.bl true) H'
theorem ev_quot {A : Ads} {E : XK} {σ : L2.St} {H : Hp} {tx ty t1 t2 t3 t4 : TE} {x r : V} {a b c d : Int} (hx0 : Ev tx σ H x) (hy0 : Ev ty σ H r) (h1 : Ev t1 σ H (.int a)) (h2 : Ev t2 σ H (.int b)) (h3 : Ev t3 σ H (.int c)) (h4 : Ev t4 σ H (.int d)) (hx : IsRt A x H a b) (hy : IsN A r H c d) (hf : Fb 500 a ∧ Fb 500 b ∧ Fb 500 c ∧ Fb 500 d) (hn : 0 < b ∧ 0 < d) :
    Ev (tCall (spQuot A) [] E (tCons tx (tCons ty (tCons t1 (tCons t2 (tCons t3 (tCons t4 tNil))))))) σ H (.bl true) := ev_call (ea_cons hx0 (ea_cons hy0 (ea_cons h1 (ea_cons h2 (ea_cons h3 (ea_cons h4 ea_nil)))))) fun H1 e Q q E => ⟨x, r, a, b, c, d, rfl, hx.ex e, hy.ex e, hf, hn, fun H' e' => q H' e'⟩
theorem er_fdiv {A : Ads} {E : L2.St → XK} {σ : L2.St} {H : Hp} {i j : Nat} {x y : V} {a b c d : Int} (hi : σ[i]? = some (some x)) (hj : σ[j]? = some (some y)) (hx : IsRt A x H a b) (hy : IsN A y H c d) (hs : Sz a ∧ Sz b ∧ Sz c ∧ Sz d) (hn : b ≠ 0 ∧ d ≠ 0) (hbc : Sz (b * c)) (c0 : c ≠ 0) :
    EvR (tOpS (rAlt (rOwn2 A.C_Ratio (spFdiv A) E) (rOwnI A.C_Ratio (spFdiv A) E)) (tVar i) (tVar j)) σ H fun v _ => ∃ z : Int, v = .int z ∧ IsFl z (a * d) (b * c) := fun H1 e Q q =>
  ⟨x, hi, y, hj, alt_num (hx.ex e) (hy.ex e) ⟨x, y, a, b, c, d, rfl, hx.ex e, hy.ex e, hs, hn, hbc, fun z => absurd z c0, fun _ z H2 e2 hz => q _ H2 e2 ⟨z, rfl, hz⟩⟩⟩
theorem er_modR {A : Ads} {E : L2.St → XK} {σ : L2.St} {H : Hp} {i j : Nat} {x y : V} {a b c d z0 : Int} (hi : σ[i]? = some (some x)) (hj : σ[j]? = some (some y)) (hx : IsRt A x H a b) (hy : IsN A y H c d) (hs : Sz a ∧ Sz b ∧ Sz c ∧ Sz d) (hn : b ≠ 0 ∧ d ≠ 0) (hbc : Sz (b * c)) (c0 : c ≠ 0)
    (h0 : IsFl z0 (a * d) (b * c)) (hz : Sz z0 ∧ Sz (c * z0)) : EvR (tOpS (rAlt (rOwn2 A.C_Ratio (spMod A) E) (rOwnI A.C_Ratio (spMod A) E)) (tVar i) (tVar j)) σ H fun v H1 => IsRt A v H1 (a * d - c * b * z0) (b * d) := fun H1 e Q q =>
  ⟨x, hi, y, hj, alt_num (hx.ex e) (hy.ex e) ⟨x, y, a, b, c, d, rfl, hx.ex e, hy.ex e, hs, hn, hbc, fun z => absurd z c0, fun _ => ⟨fun z h => by rw [fl_uniq h h0 (mul_ne hn.1 c0)]; exact hz, fun z v H2 e2 h hv => q v H2 e2 (by rw [fl_uniq h h0 (mul_ne hn.1 c0)] at hv; exact hv)⟩⟩⟩
theorem er_over {A : Ads} {E : XK} {σ : L2.St} {H : Hp} {i j : Nat} {x y : V} {a b c d : Int} (hi : σ[i]? = some (some x)) (hj : σ[j]? = some (some y)) (hx : IsRt A x H a b) (hy : IsN A y H c d) (hs : Sz a ∧ Sz b ∧ Sz c ∧ Sz d) (hn : b ≠ 0 ∧ d ≠ 0) (c0 : c ≠ 0) :
    EvR (tMeth A.C_Ratio "over" (spOver A) [] E (tVar i) (tCons (tVar j) tNil)) σ H fun v H1 => IsRt A v H1 (a * d) (b * c) := fun H1 e Q q => by
  have hX := hx.ex e
  obtain ⟨t, u, l1, xa, xd, rfl, h1⟩ := id hX
  exact ⟨_, hi, xa, xd, _, rfl, h1, by rfl, y, hj, _, y, a, b, c, d, rfl, hX, hy.ex e, hs, hn, fun z => absurd z c0, fun _ v H2 e2 hv => q v H2 e2 hv⟩
theorem ok_u_law_quotients (T : Txt K mg A) : FnOk P w K mg base CX0 14 A.f_u_law_quotients A.d_u_law_quotients (["x", "r", "a", "b", "c", "d"] : List Str) (spQuot A) := by
  refine T.F_u_law_quotients.ok sc_u_law_quotients (fun vs H Q E h => ?_) (fun cdv Ar outer s H vs Q E hr h => ?_)
  · obtain ⟨x, r, a, b, c, d, rfl, _⟩ := h
    rfl
  · obtain ⟨x, r, a, b, c, d, rfl, hx, hy, ⟨fa, fb, fc, fd⟩, ⟨hb, hd⟩, k⟩ := h
    refine ⟨_, (pss_cons (ps_if (pt_cmpR op_eq (pv 4) pe_int (nomark _)) (pss_one (ps_ret (pe_and (pe_call (ok_u_law_zero_refused T) (hr.mono (by omega)) rfl T.g_u_law_zero_refused T.k_u_law_zero_refused (b_u_law_zero_refused T) .nil pass0 (pa_cons (pv 0) (pa_cons (pv 1) (pa_cons pe_int pa_nil)))) (pe_and (pe_call (ok_u_law_zero_refused T) (hr.mono (by omega)) rfl T.g_u_law_zero_refused T.k_u_law_zero_refused (b_u_law_zero_refused T) .nil pass0 (pa_cons (pv 0) (pa_cons (pv 1) (pa_cons pe_int pa_nil)))) (pe_one (pe_call (ok_u_law_zero_refused T) (hr.mono (by omega)) rfl T.g_u_law_zero_refused T.k_u_law_zero_refused (b_u_law_zero_refused T) .nil pass0 (pa_cons (pv 0) (pa_cons (pv 1) (pa_cons pe_int pa_nil))))))))) pss_nil)
        (pss_cons (ps_set (i := 6) sc_u_law_quotients.nd rfl (Or.inl rfl) (pe_op op_mulW (pv 2) (pv 5)))
        (pss_cons (ps_set (i := 7) sc_u_law_quotients.nd rfl (Or.inl rfl) (pe_op op_mulW (pv 3) (pv 4)))
        (pss_cons (ps_if (pt_cmpR op_lt (pv 7) pe_int (nomark _)) (pss_cons (ps_set (i := 6) sc_u_law_quotients.nd rfl (Or.inl rfl) (pe_op op_sub pe_int (pv 6)))
        (pss_one (ps_set (i := 7) sc_u_law_quotients.nd rfl (Or.inl rfl) (pe_op op_sub pe_int (pv 7))))) pss_nil)
        (pss_cons (ps_set (i := 8) sc_u_law_quotients.nd rfl (Or.inl rfl) (pe_opS (ops_or (op_own2 (op := .FloorDiv) (E := fun _ => E0) T.op_Ratio T.D_Ratio_floordiv (ok_Ratio_floordiv T) (hr.mono (by omega)) (b_Ratio_floordiv T) (pAt passL)) (op_ownJ (op := .FloorDiv) (E := fun _ => E0) T.op_Ratio T.D_Ratio_floordiv T.I_Ratio_floordiv (ok_Ratio_floordiv T) (hr.mono (by omega)) (b_Ratio_floordiv T) (pAt passL))) (pv 0) (pv 1)))
        (pss_cons (ps_if (PW.pt (pw_or (pt_not (pt_val (pe_call (ok_u_law_is_int T) (hr.mono (by omega)) rfl T.g_u_law_is_int T.k_u_law_is_int (b_u_law_is_int T) .nil pass0 (pa_cons (pv 8) pa_nil)))) (pw_or (pt_cmpR op_gt (pe_op op_mulW (pv 8) (pv 7)) (pv 6) (nomark _)) (pw_or1 (pt_cmpR op_le (pe_op op_mulW (pe_op op_add (pv 8) pe_int) (pv 7)) (pv 6) (nomark _)))))) (pss_one (ps_ret pe_bl)) pss_nil)
        (pss_one (ps_ret (pe_and (pe_call (ok_u_law_worth T) (hr.mono (by omega)) rfl T.g_u_law_worth T.k_u_law_worth (b_u_law_worth T) .nil pass0 (pa_cons (pe_opS (ops_or (op_own2 (op := .Mod) (E := fun _ => E0) T.op_Ratio T.D_Ratio_mod (ok_Ratio_mod T) (hr.mono (by omega)) (b_Ratio_mod T) (pAt passL)) (op_ownJ (op := .Mod) (E := fun _ => E0) T.op_Ratio T.D_Ratio_mod T.I_Ratio_mod (ok_Ratio_mod T) (hr.mono (by omega)) (b_Ratio_mod T) (pAt passL))) (pv 0) (pv 1)) (pa_cons (pe_op op_sub (pe_op op_mulW (pv 2) (pv 5)) (pe_op op_mulW (pe_op op_mulW (pv 4) (pv 3)) (pv 8))) (pa_cons (pe_op op_mulW (pv 3) (pv 5)) pa_nil)))) (pe_one (pe_call (ok_u_law_worth T) (hr.mono (by omega)) rfl T.g_u_law_worth T.k_u_law_worth (b_u_law_worth T) .nil pass0 (pa_cons (pe_meth (pv 0) T.cl_Ratio T.M_Ratio_over (ok_Ratio_over T) (hr.mono (by omega)) (b_Ratio_over T) .nil passL (pa_cons (pv 1) pa_nil)) (pa_cons (pv 6) (pa_cons (pv 7) pa_nil)))))))))))))), ?_⟩
    have hs : Sz a ∧ Sz b ∧ Sz c ∧ Sz d := ⟨fa.sz (by decide), fb.sz (by decide), fc.sz (by decide), fd.sz (by decide)⟩
    have hn : b ≠ 0 ∧ d ≠ 0 := ⟨by omega, by omega⟩
    try dsimp only
    refine q_when (b := decide (c = 0)) (et_is (et_test (ev_op (ev_var (i := 4) rfl) ev_c (rv_eq rfl))) dec_ii) (fun hc H1 e1 => ?_) (fun hc H1 e1 => ?_)
    · obtain rfl := of_decide_eq_true hc
      have z : ∀ (w : Int) G, Ex H1 G → Ev (tCall (spZero A) [] E0 (tCons (tVar 0) (tCons (tVar 1) (tCons (tC (.int w)) tNil)))) [some x, some r, some (.int a), some (.int b), some (.int 0), some (.int d), none, none, none] G (.bl true) := fun w G e => ev_zero (ev_var rfl) (ev_var rfl) ev_c (hx.ex (e1.trans e)) (hy.ex (e1.trans e)) ⟨hs.1, hs.2.1, hs.2.2.2⟩ hn
      exact s_ret (v := .bl true) (ev_andV (a := true) (z 0 _ (Ex.refl _)) fun _ => ev_andV (a := true) (b := true) (z 1 _ (Ex.refl _)) fun _ => z 2 _ (Ex.refl _)) fun H2 e2 => k H2 (e1.trans e2)
    have c0 := of_decide_eq_false hc
    have fad : Fb 1000 (a * d) := fa.mul fd
    have fbc : Fb 1000 (b * c) := fb.mul fc
    have fcb : Fb 1000 (c * b) := fc.mul fb
    have fbd : Fb 1000 (b * d) := fb.mul fd
    have hbc : Sz (b * c) := fbc.sz (by decide)
    have mad := fa.mw fd (by decide) (by decide)
    have mbc := fb.mw fc (by decide) (by decide)
    have mcb := fc.mw fb (by decide) (by decide)
    have mbd := fb.mw fd (by decide) (by decide)
    have nbc := mul_ne hn.1 c0
    try dsimp only
    refine q_asg (v := .int (a * d)) (ev_op (ev_var (i := 2) rfl) (ev_var (i := 5) rfl) (rv_I mad)) fun H2 e2 => ?_
    try dsimp only
    refine q_asg (v := .int (b * c)) (ev_op (ev_var (i := 3) rfl) (ev_var (i := 4) rfl) (rv_I mbc)) fun H3 e3 => ?_
    replace e3 := e1.trans (e2.trans e3)
    try dsimp only
    refine q_alt (b := decide (b * c < 0)) (fun σ' H' => ∃ up lo : Int, σ' = [some x, some r, some (.int a), some (.int b), some (.int c), some (.int d), some (.int up), some (.int lo), none] ∧ Ex H H' ∧ 0 < lo ∧ ((up = a * d ∧ lo = b * c) ∨ (up = -(a * d) ∧ lo = -(b * c))))
      (et_test (ev_op (ev_var (i := 7) rfl) ev_c rv_I0)) (fun hl H4 e4 W hW => ?_) (fun hl H4 e4 => ⟨a * d, b * c, rfl, e3.trans e4, by have := of_decide_eq_false hl; omega, .inl ⟨rfl, rfl⟩⟩) ?_
    · try dsimp only
      refine q_asg (v := .int (0 - a * d)) (ev_op ev_c (ev_var (i := 6) rfl) rv_I0) fun H5 e5 => ?_
      try dsimp only
      exact s_asg (v := .int (0 - b * c)) (ev_op ev_c (ev_var (i := 7) rfl) rv_I0) fun H6 e6 => hW _ _ ⟨0 - a * d, 0 - b * c, rfl, e3.trans (e4.trans (e5.trans e6)), by have := of_decide_eq_true hl; omega, .inr ⟨Int.zero_sub _, Int.zero_sub _⟩⟩
    rintro σ' H4 ⟨up, lo, rfl, e4, hlo, hul⟩
    have fup : Fb 1000 up := by
      rcases hul with ⟨h, _⟩ | ⟨h, _⟩ <;> rw [h]
      · exact fad
      · exact fad.neg
    have flo : Fb 1000 lo := by
      rcases hul with ⟨_, h⟩ | ⟨_, h⟩ <;> rw [h]
      · exact fbc
      · exact fbc.neg
    try dsimp only
    refine q_asgR (er_fdiv (i := 0) (j := 1) rfl rfl (hx.ex e4) (hy.ex e4) hs hn hbc c0) fun v H5 e5 hv => ?_
    obtain ⟨z, rfl, hz⟩ := hv
    replace e5 := e4.trans e5
    have hz2 : IsFl z up lo := by
      rcases hul with ⟨h1, h2⟩ | ⟨h1, h2⟩ <;> rw [h1, h2]
      · exact hz
      · exact fl_flip hz
    obtain ⟨b1, b2⟩ := fl_pos hz2 hlo
    have fz : Fb 1001 z := fad.next (fl_abs hz)
    have f1 : Fb 1001 1 := (show Fb 1 1 from ⟨by decide⟩).up (by decide)
    have mz := fz.mw flo (by decide) (by decide)
    have mz1 := (fz.add f1).mw flo (by decide) (by decide)
    have mcz := fcb.mw fz (by decide) (by decide)
    have szz : Sz z ∧ Sz (c * z) := ⟨fz.sz (by decide), (fc.mul fz).sz (by decide)⟩
    have zup := fup.big (by decide)
    have zlo := flo.big (by decide)
    have zbd := fbd.big (by decide)
    have zdif : (a * d - c * b * z).natAbs < 2 ^ 4000 := ((fad.up (show 1000 ≤ 2001 by decide)).sub (fcb.mul fz)).big (by decide)
    have nlo : lo ≠ 0 := by omega
    have wq : a * d * lo = up * (b * c) := by
      rcases hul with ⟨h1, h2⟩ | ⟨h1, h2⟩ <;> rw [h1, h2]
      rw [Int.mul_neg, Int.neg_mul]
    clear hul fup flo fz f1 fad fbc fcb fbd fa fb fc fd
    try dsimp only
    refine q_skip (et_orF (et_notT (et_B (ev_isInt (ev_var (i := 8) rfl)))) (et_orF (et_is (et_test (ev_op (ev_op (ev_var (i := 8) rfl) (ev_var (i := 7) rfl) (rv_I mz)) (ev_var (i := 6) rfl) rv_I0)) (decide_eq_false (by clear zup zlo zbd zdif; omega))) (et_is (et_test (ev_op (ev_op (ev_op (ev_var (i := 8) rfl) ev_c rv_I0) (ev_var (i := 7) rfl) (rv_I mz1)) (ev_var (i := 6) rfl) rv_I0)) (decide_eq_false (by clear zup zlo zbd zdif; omega))))) fun H6 e6 => ?_
    replace e6 := e5.trans e6
    try dsimp only
    exact s_ret (v := .bl true) (ev_andV (a := true) (ev_worth (er_modR (i := 0) (j := 1) rfl rfl (hx.ex e6) (hy.ex e6) hs hn hbc c0 hz szz) (ev_op (ev_op (ev_var (i := 2) rfl) (ev_var (i := 5) rfl) (rv_I mad)) (ev_op (ev_op (ev_var (i := 4) rfl) (ev_var (i := 3) rfl) (rv_I mcb)) (ev_var (i := 8) rfl) (rv_I mcz)) rv_I0) (ev_op (ev_var (i := 3) rfl) (ev_var (i := 5) rfl) (rv_I mbd)) zdif zbd) fun _ =>
      ev_worth ((er_over (i := 0) (j := 1) rfl rfl (hx.ex e6) (hy.ex e6) hs hn c0).imp fun v G h => h.worth wq nbc nlo) (ev_var (i := 6) rfl) (ev_var (i := 7) rfl) zup zlo) fun H7 e7 => k H7 (e6.trans e7)

theorem ev_eqOdd {K : PySem.W.Frag} {A : Ads} {E : L2.St → XK} {σ : L2.St} {H : Hp} {i j : Nat} {x y : V} {a b : Int} (hi : σ[i]? = some (some x)) (hj : σ[j]? = some (some y)) (hx : IsRt A x H a b) (hb : 0 < b) (ho : Odd K A H y) : Ev (tOpS (rOwnC K A.C_Ratio (spEqR K A) E) (tVar i) (tVar j)) σ H (.bl false) := fun H1 e Q q =>
  ⟨x, hi, y, hj, by
    have hX := hx.ex e
    have hO := odd_ex (fun n h => tyx_ex e h) ho
    obtain ⟨n, ty, hs, h1⟩ := id hO
    obtain ⟨t, u, l1, xa, xd, rfl, hi2⟩ := id hX
    exact ⟨xa, xd, _, _, rfl, hi2, ty, nf_of hs, _, y, a, b, rfl, hX, hb, .inr ⟨hO, fun H2 e2 => q H2 e2⟩⟩⟩
theorem ev_neOdd {K : PySem.W.Frag} {A : Ads} {E : L2.St → XK} {σ : L2.St} {H : Hp} {i j : Nat} {x y : V} {a b : Int} (hi : σ[i]? = some (some x)) (hj : σ[j]? = some (some y)) (hx : IsRt A x H a b) (hb : 0 < b) (ho : Odd K A H y) : Ev (tOpS (rOwnNe K A.C_Ratio (spEqR K A) E) (tVar i) (tVar j)) σ H (.bl true) := fun H1 e Q q =>
  ⟨x, hi, y, hj, by
    have hX := hx.ex e
    have hO := odd_ex (fun n h => tyx_ex e h) ho
    obtain ⟨n, ty, hs, h1⟩ := id hO
    obtain ⟨t, u, l1, xa, xd, rfl, hi2⟩ := id hX
    exact ⟨xa, xd, _, _, rfl, hi2, ty, nf_of hs, _, y, a, b, rfl, hX, hb, .inr ⟨hO, fun H2 e2 => ⟨false, rfl, q H2 e2⟩⟩⟩⟩
def spUnlike (K : PySem.W.Frag) (A : Ads) : Sp := fun vs H Q _ => ∃ (x : V) (a b : Int), vs = [x, .int a, .int b] ∧ IsRt A x H a b ∧ (a.natAbs ≤ 10 ^ 150 ∧ b.natAbs ≤ 10 ^ 150) ∧ 0 < b ∧ ∀ H', Ex H H' → Q (.bl true) H'
theorem ev_unlike {K : PySem.W.Frag} {A : Ads} {E : XK} {σ : L2.St} {H : Hp} {i : Nat} {t1 t2 : TE} {x : V} {a b : Int} (hi : σ[i]? = some (some x)) (h1 : Ev t1 σ H (.int a)) (h2 : Ev t2 σ H (.int b)) (hx : IsRt A x H a b) (hf : a.natAbs ≤ 10 ^ 150 ∧ b.natAbs ≤ 10 ^ 150) (hb : 0 < b) :
    Ev (tCall (spUnlike K A) [] E (tCons (tVar i) (tCons t1 (tCons t2 tNil)))) σ H (.bl true) := ev_call (ea_cons (ev_var hi) (ea_cons h1 (ea_cons h2 ea_nil))) fun H1 e Q q E => ⟨x, a, b, rfl, hx.ex e, hf, hb, fun H' e' => q H' e'⟩
theorem log5 {z : Int} (h : z.natAbs ≤ 10 ^ 150) : z.natAbs.log2 < 1920 := Nat.lt_of_lt_of_le (log_lt (lt500 h) (by decide)) (by decide)
theorem ok_u_law_unlike (T : Txt K mg A) : FnOk P w K mg base CX0 5 A.f_u_law_unlike A.d_u_law_unlike (["one", "a", "b"] : List Str) (spUnlike K A) := by
  refine T.F_u_law_unlike.ok sc_u_law_unlike (fun vs H Q E h => ?_) (fun cdv Ar outer s H vs Q E hr h => ?_)
  · obtain ⟨x, a, b, rfl, _⟩ := h
    rfl
  · obtain ⟨x, a, b, rfl, hx, ⟨za, zb⟩, hb, k⟩ := h
    refine ⟨_, (pss_cons (ps_for PassesOwn.never rfl (pi_listK (pe_lst (pa_cons (pe_callTy (call_strO (E := E0) T.M_Ratio_str (ok_Ratio_str T) (hr.mono (by omega)) (b_Ratio_str T) (pAt pass0)) (by rfl) T.z_str (by decide +kernel) (pa_cons (pv 0) pa_nil)) (pa_cons pe_non (pa_cons (pe_lst (pa_cons (pv 1) (pa_cons (pv 2) pa_nil))) (pa_cons (pe_tup (pa_cons (pv 1) (pa_cons (pv 2) pa_nil))) pa_nil)))))) (pg_name (i := 3) sc_u_law_unlike.nd rfl (Or.inl rfl)) (pss_one (ps_if (PW.pt (pw_or (pt_cmpR op_isNotK (pe_cmpS (op_ownC (op := .Eq) (E := fun _ => E0) (fun _ _ => rfl) T.M_Ratio_eq (ok_Ratio_eq T) (hr.mono (by omega)) (b_Ratio_eq T) (pAt pass0)) (pv 0) (pv 3) (nomark _)) pe_bl (nomark _)) (pw_or1 (pt_cmpR op_isNotK (pe_cmpS (op_neO (E := fun _ => E0) T.ne_Ratio T.M_Ratio_eq (ok_Ratio_eq T) (hr.mono (by omega)) (b_Ratio_eq T) (pAt pass0)) (pv 0) (pv 3) (nomark _)) pe_bl (nomark _))))) (pss_one (ps_ret pe_bl)) pss_nil)))
        (pss_one (ps_ret pe_bl))), ?_⟩
    obtain ⟨t, u, l1, r1⟩ := id hx
    have lt := log5 (Nat.le_trans l1.lt za)
    have lu := log5 (Nat.le_trans l1.lu zb)
    clear za zb
    try dsimp only
    refine q_forVia (P := fun v H1 => ∃ (p l tp : Addr) (z : Str), v = .ref p ∧ H1 p = some (.lst [.str z, .non, .ref l, .ref tp]) ∧ H1 l = some (.lst [.int a, .int b]) ∧ H1 tp = some (.tup [.int a, .int b])) (fun H1 e1 Q q => ?_) fun v H1 e1 hv => ?_
    · refine ev_strO (ev_var (i := 0) rfl) r1 lt lu H1 e1 _ fun H2 e2 => ?_
      refine ev_c (v := V.non) (σ := [some x, some (.int a), some (.int b), none]) (H := H2) H2 (Ex.refl _) _ fun H2b e2b => ?_
      replace e2 := e2.trans e2b
      refine el_lst (σ := [some x, some (.int a), some (.int b), none]) (vs := [.int a, .int b]) (ea_cons (ev_var (i := 1) rfl) (ea_cons (ev_var (i := 2) rfl) ea_nil)) (by show 2 ≤ 100000; decide) H2b (Ex.refl _) _ fun l H3 hl e3 h3 => ?_
      refine eu_tup (σ := [some x, some (.int a), some (.int b), none]) (vs := [.int a, .int b]) (ea_cons (ev_var (i := 1) rfl) (ea_cons (ev_var (i := 2) rfl) ea_nil)) (by show 2 ≤ 100000; decide) H3 (Ex.refl _) _ fun tp H4 ht e4 h4 => ?_
      exact ⟨by show 4 ≤ sizeLine; decide, fun p hp => q _ _ (((e2.trans e3).trans e4).trans (Ex.new hp)) ⟨p, l, tp, _, rfl, upd_same, Ex.new hp _ _ (e4 _ _ h3), Ex.new hp _ _ h4⟩⟩
    obtain ⟨p, l, tp, z, rfl, hp, hl, htp⟩ := hv
    have o0 : Odd K A H1 (.str z) := ⟨"str", .base (.str z), T.si_str, T.kit_str_Ratio, by decide +kernel, by decide +kernel⟩
    have o1 : Odd K A H1 .non := ⟨"NoneType", .base .non, T.si_NoneType, T.kit_NoneType_Ratio, by decide +kernel, by decide +kernel⟩
    have o2 : Odd K A H1 (.ref l) := ⟨"list", .base (.lst hl), T.si_list, T.kit_list_Ratio, by decide +kernel, by decide +kernel⟩
    have o3 : Odd K A H1 (.ref tp) := ⟨"tuple", .base (.tup htp), T.si_tuple, T.kit_tuple_Ratio, by decide +kernel, by decide +kernel⟩
    refine q_forLn (K := K) (a := p) (xs := [.str z, .non, .ref l, .ref tp]) ev_c (sq_of hp) (fun i σ' H' => ∃ kv : Option V, σ' = [some x, some (.int a), some (.int b), kv] ∧ Ex H1 H') (fun H2 e2 => ⟨none, rfl, e2⟩) (fun i σ' H' _ ⟨_, _, e⟩ => sq_of (e _ _ hp)) ?_ ?_
    · rintro i y σ' H' hy ⟨kv, rfl, e⟩
      have ho : Odd K A H1 y := by
        match i, hy with
        | 0, h => cases h; exact o0
        | 1, h => cases h; exact o1
        | 2, h => cases h; exact o2
        | 3, h => cases h; exact o3
      have hO : Odd K A H' y := odd_ex (fun n h => tyx_ex e h) ho
      have hX := hx.ex (e1.trans e)
      try dsimp only
      refine s_when (b := false) (et_is (et_or (et_test (ev_op (ev_eqOdd (i := 0) (j := 3) rfl rfl hX hb hO) ev_c rv_isNotK)) fun _ => et_test (ev_op (ev_neOdd (i := 0) (j := 3) rfl rfl hX hb hO) ev_c rv_isNotK)) (by simp)) (fun z => Bool.noConfusion z) fun _ H3 e3 => ⟨_, rfl, e.trans e3⟩
    rintro σ' H' ⟨kv, rfl, e⟩
    try dsimp only
    exact s_ret (v := .bl true) ev_c fun H3 e3 => k H3 (e1.trans (e.trans e3))

theorem er_two {K : PySem.W.Frag} {E : XK} {σ : L2.St} {H : Hp} {ta : TE} {a : Addr} {ns : List Int} (ha : Ev ta σ H (.ref a)) (hS : SqL K H a (ns.map V.int)) : EvR (tCall (spTwo K) [] E (tCons ta tNil)) σ H fun v H1 => ∃ p a b c d, v = .ref p ∧ H1 p = some (.tup [.int a, .int b, .int c, .int d]) ∧
    a.natAbs ≤ 10 ^ 120 ∧ (1 ≤ b ∧ b ≤ 10 ^ 60) ∧ c.natAbs ≤ 10 ^ 150 ∧ (1 ≤ d ∧ d ≤ 10 ^ 90) :=
  er_call (ea_cons ha ea_nil) fun H1 e Q q => ⟨a, ns, rfl, ex_l e hS, fun p H' a b c d hp e' h h1 h2 h3 h4 => q _ H' e' ⟨p, a, b, c, d, rfl, h, h1, h2, h3, h4⟩⟩
theorem ev_boolR {A : Ads} {E : XK} {σ : L2.St} {H : Hp} {i : Nat} {x : V} {a b : Int} (hi : σ[i]? = some (some x)) (hx : IsRt A x H a b) (hb : b ≠ 0) : Ev (tCB (rOwnBool A.C_Ratio (spBool A) E) (tCons (tVar i) tNil)) σ H (.bl (!decide (a = 0))) :=
  ev_cb (ea_cons (ev_var hi) ea_nil) fun H1 e Q q => by
    have hX := hx.ex e
    obtain ⟨t, u, l1, xa, xd, rfl, h1⟩ := id hX
    exact ⟨xa, xd, _, rfl, h1, _, a, b, rfl, hX, hb, fun H2 e2 => ⟨_, rfl, q H2 e2⟩⟩
theorem bool_told (p : Prop) [Decidable p] : ((decide p && !decide (V.bl (!decide p) = V.bl false)) || (!decide p && !decide (V.bl (!decide p) = V.bl true))) = false := by
  by_cases h : p <;> simp [h]
def spLaw (K : PySem.W.Frag) : Sp := fun vs H Q _ => ∃ (a : Addr) (ns : List Int), vs = [.ref a] ∧ SqL K H a (ns.map V.int) ∧ ns.length ≤ 63 ∧ ∀ H', Q (.bl true) H' 
theorem ok_law (T : Txt K mg A) : FnOk P w K mg base CX0 16 A.f_law A.d_law (["script"] : List Str) (spLaw K) := by
  refine T.F_law.ok sc_law (fun vs H Q E h => ?_) (fun cdv Ar outer s H vs Q E hr h => ?_)
  · obtain ⟨a, ns, rfl, _⟩ := h
    rfl
  · obtain ⟨a0, ns, rfl, hS, hl, k⟩ := h
    refine ⟨_, (pss_cons (ps_asg (pe_call (ok_u_law_two_fractions T) (hr.mono (by omega)) rfl T.g_u_law_two_fractions T.k_u_law_two_fractions (b_u_law_two_fractions T) .nil pass0 (pa_cons (pv 0) pa_nil)) (pg_tup rfl (pgs_cons (pg_name (i := 1) sc_law.nd rfl (Or.inl rfl)) (pgs_cons (pg_name (i := 2) sc_law.nd rfl (Or.inl rfl)) (pgs_cons (pg_name (i := 3) sc_law.nd rfl (Or.inl rfl)) (pgs_cons (pg_name (i := 4) sc_law.nd rfl (Or.inl rfl)) pgs_nil))))))
        (pss_cons (ps_set (i := 5) sc_law.nd rfl (Or.inl rfl) (pe_make T.mk_Ratio (ok_Ratio_init T) (hr.mono (by omega)) rfl T.g_Ratio (b_Ratio_init T) .nil passL (pa_cons (pv 1) (pa_cons (pv 2) pa_nil))))
        (pss_cons (ps_set (i := 6) sc_law.nd rfl (Or.inl rfl) (pe_make T.mk_Ratio (ok_Ratio_init T) (hr.mono (by omega)) rfl T.g_Ratio (b_Ratio_init T) .nil passL (pa_cons (pv 3) (pa_cons (pv 4) pa_nil))))
        (pss_cons (ps_if (PW.pt (pw_or (pt_not (pt_val (pe_call (ok_u_law_orders T) (hr.mono (by omega)) rfl T.g_u_law_orders T.k_u_law_orders (b_u_law_orders T) .nil pass0 (pa_cons (pv 5) (pa_cons (pv 6) (pa_cons (pe_op op_mulW (pv 1) (pv 4)) (pa_cons (pe_op op_mulW (pv 3) (pv 2)) pa_nil))))))) (pw_or1 (pt_not (pt_val (pe_call (ok_u_law_orders T) (hr.mono (by omega)) rfl T.g_u_law_orders T.k_u_law_orders (b_u_law_orders T) .nil pass0 (pa_cons (pv 6) (pa_cons (pv 5) (pa_cons (pe_op op_mulW (pv 3) (pv 2)) (pa_cons (pe_op op_mulW (pv 1) (pv 4)) pa_nil)))))))))) (pss_one (ps_ret pe_bl)) pss_nil)
        (pss_cons (ps_if (PW.pt (pw_or (pt_not (pt_val (pe_call (ok_u_law_orders T) (hr.mono (by omega)) rfl T.g_u_law_orders T.k_u_law_orders (b_u_law_orders T) .nil pass0 (pa_cons (pv 5) (pa_cons (pv 3) (pa_cons (pv 1) (pa_cons (pe_op op_mulW (pv 3) (pv 2)) pa_nil))))))) (pw_or (pt_not (pt_val (pe_call (ok_u_law_orders T) (hr.mono (by omega)) rfl T.g_u_law_orders T.k_u_law_orders (b_u_law_orders T) .nil pass0 (pa_cons (pv 3) (pa_cons (pv 5) (pa_cons (pe_op op_mulW (pv 3) (pv 2)) (pa_cons (pv 1) pa_nil))))))) (pw_or1 (pt_not (pt_val (pe_call (ok_u_law_orders T) (hr.mono (by omega)) rfl T.g_u_law_orders T.k_u_law_orders (b_u_law_orders T) .nil pass0 (pa_cons (pv 5) (pa_cons (pv 5) (pa_cons (pv 1) (pa_cons (pv 1) pa_nil))))))))))) (pss_one (ps_ret pe_bl)) pss_nil)
        (pss_cons (ps_if (PW.pt (pw_or (pt_not (pt_val (pe_call (ok_u_law_unlike T) (hr.mono (by omega)) rfl T.g_u_law_unlike T.k_u_law_unlike (b_u_law_unlike T) .nil pass0 (pa_cons (pv 5) (pa_cons (pv 1) (pa_cons (pv 2) pa_nil)))))) (pw_or1 (pt_not (pt_val (pe_call (ok_u_law_unlike T) (hr.mono (by omega)) rfl T.g_u_law_unlike T.k_u_law_unlike (b_u_law_unlike T) .nil pass0 (pa_cons (pv 6) (pa_cons (pv 3) (pa_cons (pv 4) pa_nil))))))))) (pss_one (ps_ret pe_bl)) pss_nil)
        (pss_cons (ps_if (PW.pt (pw_or (pt_not (pt_val (pe_call (ok_u_law_rounded T) (hr.mono (by omega)) rfl T.g_u_law_rounded T.k_u_law_rounded (b_u_law_rounded T) .nil pass0 (pa_cons (pv 5) (pa_cons (pv 1) (pa_cons (pv 2) pa_nil)))))) (pw_or1 (pt_not (pt_val (pe_call (ok_u_law_rounded T) (hr.mono (by omega)) rfl T.g_u_law_rounded T.k_u_law_rounded (b_u_law_rounded T) .nil pass0 (pa_cons (pv 6) (pa_cons (pv 3) (pa_cons (pv 4) pa_nil))))))))) (pss_one (ps_ret pe_bl)) pss_nil)
        (pss_cons (ps_if (PW.pt (pw_or (pt_not (pt_val (pe_call (ok_u_law_quotients T) (hr.mono (by omega)) rfl T.g_u_law_quotients T.k_u_law_quotients (b_u_law_quotients T) .nil pass0 (pa_cons (pv 5) (pa_cons (pv 6) (pa_cons (pv 1) (pa_cons (pv 2) (pa_cons (pv 3) (pa_cons (pv 4) pa_nil))))))))) (pw_or1 (pt_not (pt_val (pe_call (ok_u_law_quotients T) (hr.mono (by omega)) rfl T.g_u_law_quotients T.k_u_law_quotients (b_u_law_quotients T) .nil pass0 (pa_cons (pv 6) (pa_cons (pv 5) (pa_cons (pv 3) (pa_cons (pv 4) (pa_cons (pv 1) (pa_cons (pv 2) pa_nil)))))))))))) (pss_one (ps_ret pe_bl)) pss_nil)
        (pss_cons (ps_if (PW.pt (pw_or (pt_not (pt_val (pe_call (ok_u_law_quotients T) (hr.mono (by omega)) rfl T.g_u_law_quotients T.k_u_law_quotients (b_u_law_quotients T) .nil pass0 (pa_cons (pv 5) (pa_cons (pv 3) (pa_cons (pv 1) (pa_cons (pv 2) (pa_cons (pv 3) (pa_cons pe_int pa_nil))))))))) (pw_or1 (pt_not (pt_val (pe_call (ok_u_law_quotients T) (hr.mono (by omega)) rfl T.g_u_law_quotients T.k_u_law_quotients (b_u_law_quotients T) .nil pass0 (pa_cons (pv 5) (pa_cons (pv 2) (pa_cons (pv 1) (pa_cons (pv 2) (pa_cons (pv 2) (pa_cons pe_int pa_nil)))))))))))) (pss_one (ps_ret pe_bl)) pss_nil)
        (pss_cons (ps_if (PW.pt (pw_or (PW.pt (pw_and (pt_cmpR op_eq (pv 1) pe_int (nomark _)) (pw_and1 (pt_cmpR op_isNotK (pe_callTy (call_boolO (E := E0) T.M_Ratio_bool (ok_Ratio_bool T) (hr.mono (by omega)) (b_Ratio_bool T) (pAt pass0)) (by rfl) T.z_bool (by decide +kernel) (pa_cons (pv 5) pa_nil)) pe_bl (nomark _))))) (pw_or1 (PW.pt (pw_and (pt_cmpR op_ne (pv 1) pe_int (nomark _)) (pw_and1 (pt_cmpR op_isNotK (pe_callTy (call_boolO (E := E0) T.M_Ratio_bool (ok_Ratio_bool T) (hr.mono (by omega)) (b_Ratio_bool T) (pAt pass0)) (by rfl) T.z_bool (by decide +kernel) (pa_cons (pv 5) pa_nil)) pe_bl (nomark _)))))))) (pss_one (ps_ret pe_bl)) pss_nil)
        (pss_cons (ps_if (PW.pt (pw_or (PW.pt (pw_and (pt_cmpR op_eq (pv 3) pe_int (nomark _)) (pw_and1 (pt_cmpR op_isNotK (pe_callTy (call_boolO (E := E0) T.M_Ratio_bool (ok_Ratio_bool T) (hr.mono (by omega)) (b_Ratio_bool T) (pAt pass0)) (by rfl) T.z_bool (by decide +kernel) (pa_cons (pv 6) pa_nil)) pe_bl (nomark _))))) (pw_or1 (PW.pt (pw_and (pt_cmpR op_ne (pv 3) pe_int (nomark _)) (pw_and1 (pt_cmpR op_isNotK (pe_callTy (call_boolO (E := E0) T.M_Ratio_bool (ok_Ratio_bool T) (hr.mono (by omega)) (b_Ratio_bool T) (pAt pass0)) (by rfl) T.z_bool (by decide +kernel) (pa_cons (pv 6) pa_nil)) pe_bl (nomark _)))))))) (pss_one (ps_ret pe_bl)) pss_nil)
        (pss_cons (ps_if (pt_cmpR op_ne (pv 3) pe_int (nomark _)) (pss_cons (ps_set (i := 7) sc_law.nd rfl (Or.inl rfl) (pv 5))
        (pss_cons (ps_aug (i := 7) sc_law.nd rfl (Or.inl rfl) (pv 6) (ip_ownK (op := .Mod) (E := E0) T.op_Ratio T.no_Ratio T.D_Ratio_mod T.ip_Ratio_mod (ok_Ratio_mod T) (hr.mono (by omega)) (b_Ratio_mod T) (pAt passL)))
        (pss_cons (ps_set (i := 7) sc_law.nd rfl (Or.inl rfl) (pv 5))
        (pss_one (ps_aug (i := 7) sc_law.nd rfl (Or.inl rfl) (pv 6) (ip_ownK (op := .FloorDiv) (E := E0) T.op_Ratio T.no_Ratio T.D_Ratio_floordiv T.ip_Ratio_floordiv (ok_Ratio_floordiv T) (hr.mono (by omega)) (b_Ratio_floordiv T) (pAt passL))))))) pss_nil)
        (pss_one (ps_ret (pe_and (pe_call (ok_u_law_worth T) (hr.mono (by omega)) rfl T.g_u_law_worth T.k_u_law_worth (b_u_law_worth T) .nil pass0 (pa_cons (pv 5) (pa_cons (pv 1) (pa_cons (pv 2) pa_nil)))) (pe_one (pe_call (ok_u_law_worth T) (hr.mono (by omega)) rfl T.g_u_law_worth T.k_u_law_worth (b_u_law_worth T) .nil pass0 (pa_cons (pv 6) (pa_cons (pv 3) (pa_cons (pv 4) pa_nil)))))))))))))))))))), ?_⟩
    try dsimp only
    refine er_two (K := K) (ev_var (i := 0) rfl) hS H (Ex.refl _) _ fun v H1 e1 hv => ?_
    obtain ⟨p, a, b, c, d, rfl, hp, ha, hb, hc, hd⟩ := hv
    refine ⟨p, _, rfl, st_of hp, rfl, _, _, rfl, _, _, rfl, _, _, rfl, _, _, rfl, rfl, ?_⟩
    have p12 : (10 : Nat) ^ 120 ≤ 10 ^ 150 := Nat.pow_le_pow_right (by decide) (by decide)
    have p60 : ((10 ^ 60 : Nat) : Int) = 10 ^ 60 := by decide
    have p90 : ((10 ^ 90 : Nat) : Int) = 10 ^ 90 := by decide
    have za : a.natAbs ≤ 10 ^ 150 := Nat.le_trans ha p12
    have zb : b.natAbs ≤ 10 ^ 150 := Nat.le_trans (show b.natAbs ≤ 10 ^ 60 by omega) (Nat.pow_le_pow_right (by decide) (by decide))
    have zd : d.natAbs ≤ 10 ^ 150 := Nat.le_trans (show d.natAbs ≤ 10 ^ 90 by omega) (Nat.pow_le_pow_right (by decide) (by decide))
    have fa : Fb 500 a := ⟨lt500 za⟩
    have fb : Fb 500 b := ⟨lt500 zb⟩
    have fc : Fb 500 c := ⟨lt500 hc⟩
    have fd : Fb 500 d := ⟨lt500 zd⟩
    have f1 : Fb 500 1 := (show Fb 1 1 from ⟨by decide⟩).up (by decide)
    have b0 : 0 < b := by omega
    have d0 : 0 < d := by omega
    have b1 : b ≠ 0 := by omega
    have d1 : d ≠ 0 := by omega
    clear ha hb hd p12 p60 p90
    have up8 : ∀ z : Int, Fb 500 z → z.natAbs < 2 ^ 8000 := fun z h => Nat.lt_of_lt_of_le h.lt (Nat.pow_le_pow_right (by decide) (by decide))
    have s1 : Sz 1 := f1.sz (by decide)
    have sa : Sz a := fa.sz (by decide)
    have sb : Sz b := fb.sz (by decide)
    have sc : Sz c := fc.sz (by decide)
    have sd : Sz d := fd.sz (by decide)
    have mad := fa.mw fd (by decide) (by decide)
    have mcb := fc.mw fb (by decide) (by decide)
    try dsimp only
    refine q_asgR (er_rat (K := K) (ev_var (i := 1) rfl) (ev_var (i := 2) rfl) b1 (up8 _ fb)) fun x H2 e2 hx => ?_
    replace hx : IsRt A x H2 a b := hx
    try dsimp only
    refine q_asgR (er_rat (K := K) (ev_var (i := 3) rfl) (ev_var (i := 4) rfl) d1 (up8 _ fd)) fun y H3 e3 hy => ?_
    replace hy : IsRt A y H3 c d := hy
    replace hx := hx.ex e3
    have vad : ∀ (τ : L2.St) G, τ[1]? = some (some (.int a)) → τ[4]? = some (some (.int d)) → Ev (tOp (rI CMulW fun i j => .int (i * j)) (tVar 1) (tVar 4)) τ G (.int (a * d)) := fun τ G h1 h2 => ev_op (ev_var h1) (ev_var h2) (rv_I mad)
    have vcb : ∀ (τ : L2.St) G, τ[3]? = some (some (.int c)) → τ[2]? = some (some (.int b)) → Ev (tOp (rI CMulW fun i j => .int (i * j)) (tVar 3) (tVar 2)) τ G (.int (c * b)) := fun τ G h1 h2 => ev_op (ev_var h1) (ev_var h2) (rv_I mcb)
    try dsimp only
    refine q_skip (et_orF (et_notT (et_B (ev_orders (i := 5) (j := 6) rfl rfl (vad _ _ rfl rfl) (vcb _ _ rfl rfl) (.inl ⟨hx, .inl hy⟩) ⟨sa, sb, sc, sd⟩ ⟨b0, d0⟩ ⟨Iff.rfl, Iff.rfl⟩))) (et_notT (et_B (ev_orders (i := 6) (j := 5) rfl rfl (vcb _ _ rfl rfl) (vad _ _ rfl rfl) (.inl ⟨hy, .inl hx⟩) ⟨sc, sd, sa, sb⟩ ⟨d0, b0⟩ ⟨Iff.rfl, Iff.rfl⟩)))) fun H4 e4 => ?_
    replace hx := hx.ex e4
    replace hy := hy.ex e4
    have n1 : (0 : Int) < 1 := by decide
    have o1 : (a < c * b ↔ a * 1 < c * b) ∧ (a = c * b ↔ a * 1 = c * b) := by rw [Int.mul_one]; exact ⟨Iff.rfl, Iff.rfl⟩
    have o2 : (c * b < a ↔ c * b < a * 1) ∧ (c * b = a ↔ c * b = a * 1) := by rw [Int.mul_one]; exact ⟨Iff.rfl, Iff.rfl⟩
    have o3 : (a < a ↔ a * b < a * b) ∧ (a = a ↔ a * b = a * b) := ⟨⟨fun h => absurd h (Int.lt_irrefl _), fun h => absurd h (Int.lt_irrefl _)⟩, ⟨fun _ => rfl, fun _ => rfl⟩⟩
    try dsimp only
    refine q_skip (et_orF (et_notT (et_B (ev_orders (i := 5) (j := 3) rfl rfl (ev_var (i := 1) rfl) (vcb _ _ rfl rfl) (.inl ⟨hx, .inr ⟨rfl, rfl⟩⟩) ⟨sa, sb, sc, s1⟩ ⟨b0, n1⟩ o1))) (et_orF (et_notT (et_B (ev_orders (i := 3) (j := 5) rfl rfl (vcb _ _ rfl rfl) (ev_var (i := 1) rfl) (.inr ⟨⟨rfl, rfl⟩, hx⟩) ⟨sc, s1, sa, sb⟩ ⟨n1, b0⟩ o2))) (et_notT (et_B (ev_orders (i := 5) (j := 5) rfl rfl (ev_var (i := 1) rfl) (ev_var (i := 1) rfl) (.inl ⟨hx, .inl hx⟩) ⟨sa, sb, sa, sb⟩ ⟨b0, b0⟩ o3))))) fun H5 e5 => ?_
    replace hx := hx.ex e5
    replace hy := hy.ex e5
    try dsimp only
    refine q_skip (et_orF (et_notT (et_B (ev_unlike (K := K) (i := 5) rfl (ev_var (i := 1) rfl) (ev_var (i := 2) rfl) hx ⟨za, zb⟩ b0))) (et_notT (et_B (ev_unlike (K := K) (i := 6) rfl (ev_var (i := 3) rfl) (ev_var (i := 4) rfl) hy ⟨hc, zd⟩ d0)))) fun H6 e6 => ?_
    replace hx := hx.ex e6
    replace hy := hy.ex e6
    clear za zb hc zd
    try dsimp only
    refine q_skip (et_orF (et_notT (et_B (ev_rounded (i := 5) rfl (ev_var (i := 1) rfl) (ev_var (i := 2) rfl) hx ⟨fa, fb⟩ b0))) (et_notT (et_B (ev_rounded (i := 6) rfl (ev_var (i := 3) rfl) (ev_var (i := 4) rfl) hy ⟨fc, fd⟩ d0)))) fun H7 e7 => ?_
    replace hx := hx.ex e7
    replace hy := hy.ex e7
    try dsimp only
    refine q_skip (et_orF (et_notT (et_B (ev_quot (ev_var (i := 5) rfl) (ev_var (i := 6) rfl) (ev_var (i := 1) rfl) (ev_var (i := 2) rfl) (ev_var (i := 3) rfl) (ev_var (i := 4) rfl) hx (.inl hy) ⟨fa, fb, fc, fd⟩ ⟨b0, d0⟩))) (et_notT (et_B (ev_quot (ev_var (i := 6) rfl) (ev_var (i := 5) rfl) (ev_var (i := 3) rfl) (ev_var (i := 4) rfl) (ev_var (i := 1) rfl) (ev_var (i := 2) rfl) hy (.inl hx) ⟨fc, fd, fa, fb⟩ ⟨d0, b0⟩)))) fun H8 e8 => ?_
    replace hx := hx.ex e8
    replace hy := hy.ex e8
    try dsimp only
    refine q_skip (et_orF (et_notT (et_B (ev_quot (ev_var (i := 5) rfl) (ev_var (i := 3) rfl) (ev_var (i := 1) rfl) (ev_var (i := 2) rfl) (ev_var (i := 3) rfl) ev_c hx (.inr ⟨rfl, rfl⟩) ⟨fa, fb, fc, f1⟩ ⟨b0, n1⟩))) (et_notT (et_B (ev_quot (ev_var (i := 5) rfl) (ev_var (i := 2) rfl) (ev_var (i := 1) rfl) (ev_var (i := 2) rfl) (ev_var (i := 2) rfl) ev_c hx (.inr ⟨rfl, rfl⟩) ⟨fa, fb, fb, f1⟩ ⟨b0, n1⟩)))) fun H9 e9 => ?_
    replace hx := hx.ex e9
    replace hy := hy.ex e9
    try dsimp only
    refine q_skip (et_is (et_or (et_and (et_is (et_test (ev_op (ev_var (i := 1) rfl) ev_c (rv_eq rfl))) dec_ii) fun _ => et_test (ev_op (ev_boolR (i := 5) rfl hx b1) ev_c rv_isNotK)) fun _ => et_and (et_is (et_test (ev_op (ev_var (i := 1) rfl) ev_c (rv_ne rfl))) (by rw [dec_ii])) fun _ => et_test (ev_op (ev_boolR (i := 5) rfl hx b1) ev_c rv_isNotK)) (bool_told (a = 0))) fun H10 e10 => ?_
    replace hx := hx.ex e10
    replace hy := hy.ex e10
    try dsimp only
    refine q_skip (et_is (et_or (et_and (et_is (et_test (ev_op (ev_var (i := 3) rfl) ev_c (rv_eq rfl))) dec_ii) fun _ => et_test (ev_op (ev_boolR (i := 6) rfl hy d1) ev_c rv_isNotK)) fun _ => et_and (et_is (et_test (ev_op (ev_var (i := 3) rfl) ev_c (rv_ne rfl))) (by rw [dec_ii])) fun _ => et_test (ev_op (ev_boolR (i := 6) rfl hy d1) ev_c rv_isNotK)) (bool_told (c = 0))) fun H11 e11 => ?_
    replace hx := hx.ex e11
    replace hy := hy.ex e11
    have sbc : Sz (b * c) := (fb.mul fc).sz (by decide)
    have szz : ∀ z, IsFl z (a * d) (b * c) → Sz z ∧ Sz (c * z) := fun z h => by
      have fz : Fb 1001 z := (fa.mul fd).next (fl_abs h)
      exact ⟨fz.sz (by decide), (fc.mul fz).sz (by decide)⟩
    try dsimp only
    refine q_alt (b := !decide (c = 0)) (fun σ' H' => ∃ rv : Option V, σ' = [some (.ref a0), some (.int a), some (.int b), some (.int c), some (.int d), some x, some y, rv] ∧ Ex H11 H') (et_is (et_test (ev_op (ev_var (i := 3) rfl) ev_c (rv_ne rfl))) (by rw [dec_ii])) (fun hcb H12 e12 W hW => ?_) (fun hcb H12 e12 => ⟨none, rfl, e12⟩) ?_
    · have c0 : c ≠ 0 := by simpa using hcb
      try dsimp only
      refine q_asg (v := x) (ev_var (i := 5) rfl) fun H13 e13 => ?_
      replace e13 := e12.trans e13
      have hX := hx.ex e13
      have hY := hy.ex e13
      obtain ⟨t, u, l1, xa, xd, rfl, h1⟩ := id hX
      obtain ⟨t', u', l2, ya, yd, rfl, h2⟩ := id hY
      try dsimp only
      refine ⟨_, rfl, _, rfl, xa, xd, _, ya, yd, _, rfl, h1, rfl, h2, _, _, a, b, c, d, rfl, hX, .inl hY, ⟨sa, sb, sc, sd⟩, ⟨b1, d1⟩, sbc, fun z => absurd z c0, fun _ => ⟨szz, fun z v H14 e14 hz hv => ?_⟩⟩
      try dsimp only
      refine q_asg (v := .ref xa) (ev_var (i := 5) rfl) fun H15 e15 => ?_
      have e135 := e14.trans e15
      refine ⟨_, rfl, _, rfl, xa, xd, _, ya, yd, _, rfl, e135 _ _ h1, rfl, e135 _ _ h2, _, _, a, b, c, d, rfl, hX.ex e135, .inl (hY.ex e135), ⟨sa, sb, sc, sd⟩, ⟨b1, d1⟩, sbc, fun z => absurd z c0, fun _ z H16 e16 hz => hW _ _ ⟨_, rfl, e13.trans (e135.trans e16)⟩⟩
    rintro σ' H12 ⟨rv, rfl, e12⟩
    replace hx := hx.ex e12
    replace hy := hy.ex e12
    try dsimp only
    exact s_ret (v := .bl true) (ev_andV (a := true) (ev_worth (er_at (i := 5) rfl hx) (ev_var (i := 1) rfl) (ev_var (i := 2) rfl) (fa.big (by decide)) (fb.big (by decide))) fun _ => ev_worth (er_at (i := 6) rfl hy) (ev_var (i := 3) rfl) (ev_var (i := 4) rfl) (fc.big (by decide)) (fd.big (by decide))) fun H13 e13 => k H13
theorem all_mk {l : PySem.W.OpenLaw} {w : World} {K : PySem.W.Frag} {h : Heap} {mg : Str → Option Value} {fa : Addr} (X : K.In h) (G : h.Ns mainGlobals mg) (hfa : mg "law" = some (.ref fa))
    {od0 an0 : Option Addr} {sl0 : Array (Option Value)} {oc0 kV0 dc0 pm0 cd0 ct0 : Value} {f0 : Addr}
    {df0 : Addr} {do0 : Value} {dd0 : Option Addr} {dn0 : Nat} {ds0 : Array (Option Value)} {dt0_0 : Tok}
    {od1 an1 : Option Addr} {sl1 : Array (Option Value)} {oc1 kV1 dc1 pm1 cd1 ct1 : Value} {f1 : Addr}
    {od2 an2 : Option Addr} {sl2 : Array (Option Value)} {oc2 kV2 dc2 pm2 cd2 ct2 : Value} {f2 : Addr}
    {od3 an3 : Option Addr} {sl3 : Array (Option Value)} {oc3 kV3 dc3 pm3 cd3 ct3 : Value} {f3 : Addr}
    {od4 an4 : Option Addr} {sl4 : Array (Option Value)} {oc4 kV4 dc4 pm4 cd4 ct4 : Value} {f4 : Addr}
    {od5 an5 : Option Addr} {sl5 : Array (Option Value)} {oc5 kV5 dc5 pm5 cd5 ct5 : Value} {f5 : Addr}
    {od6 an6 : Option Addr} {sl6 : Array (Option Value)} {oc6 kV6 dc6 pm6 cd6 ct6 : Value} {f6 : Addr}
    {od7 an7 : Option Addr} {sl7 : Array (Option Value)} {oc7 kV7 dc7 pm7 cd7 ct7 : Value} {f7 : Addr}
    {od8 an8 : Option Addr} {sl8 : Array (Option Value)} {oc8 kV8 dc8 pm8 cd8 ct8 : Value} {f8 : Addr}
    {od9 an9 : Option Addr} {sl9 : Array (Option Value)} {oc9 kV9 dc9 pm9 cd9 ct9 : Value} {f9 : Addr}
    {od10 an10 : Option Addr} {sl10 : Array (Option Value)} {oc10 kV10 dc10 pm10 cd10 ct10 : Value} {f10 : Addr}
    {od11 an11 : Option Addr} {sl11 : Array (Option Value)} {oc11 kV11 dc11 pm11 cd11 ct11 : Value} {f11 : Addr}
    {od12 an12 : Option Addr} {sl12 : Array (Option Value)} {oc12 kV12 dc12 pm12 cd12 ct12 : Value} {f12 : Addr}
    {od13 an13 : Option Addr} {sl13 : Array (Option Value)} {oc13 kV13 dc13 pm13 cd13 ct13 : Value} {f13 : Addr}
    {od14 an14 : Option Addr} {sl14 : Array (Option Value)} {oc14 kV14 dc14 pm14 cd14 ct14 : Value} {f14 : Addr}
    {od15 an15 : Option Addr} {sl15 : Array (Option Value)} {oc15 kV15 dc15 pm15 cd15 ct15 : Value} {f15 : Addr}
    {od16 an16 : Option Addr} {sl16 : Array (Option Value)} {oc16 kV16 dc16 pm16 cd16 ct16 : Value} {f16 : Addr}
    {od17 an17 : Option Addr} {sl17 : Array (Option Value)} {oc17 kV17 dc17 pm17 cd17 ct17 : Value} {f17 : Addr}
    {od18 an18 : Option Addr} {sl18 : Array (Option Value)} {oc18 kV18 dc18 pm18 cd18 ct18 : Value} {f18 : Addr}
    {od19 an19 : Option Addr} {sl19 : Array (Option Value)} {oc19 kV19 dc19 pm19 cd19 ct19 : Value} {f19 : Addr}
    {od20 an20 : Option Addr} {sl20 : Array (Option Value)} {oc20 kV20 dc20 pm20 cd20 ct20 : Value} {f20 : Addr}
    {od21 an21 : Option Addr} {sl21 : Array (Option Value)} {oc21 kV21 dc21 pm21 cd21 ct21 : Value} {f21 : Addr}
    {od22 an22 : Option Addr} {sl22 : Array (Option Value)} {oc22 kV22 dc22 pm22 cd22 ct22 : Value} {f22 : Addr}
    {od23 an23 : Option Addr} {sl23 : Array (Option Value)} {oc23 kV23 dc23 pm23 cd23 ct23 : Value} {f23 : Addr}
    {od24 an24 : Option Addr} {sl24 : Array (Option Value)} {oc24 kV24 dc24 pm24 cd24 ct24 : Value} {f24 : Addr}
    {od25 an25 : Option Addr} {sl25 : Array (Option Value)} {oc25 kV25 dc25 pm25 cd25 ct25 : Value} {f25 : Addr}
    {od26 an26 : Option Addr} {sl26 : Array (Option Value)} {oc26 kV26 dc26 pm26 cd26 ct26 : Value} {f26 : Addr}
    {od27 an27 : Option Addr} {sl27 : Array (Option Value)} {oc27 kV27 dc27 pm27 cd27 ct27 : Value} {f27 : Addr}
    {od28 an28 : Option Addr} {sl28 : Array (Option Value)} {oc28 kV28 dc28 pm28 cd28 ct28 : Value} {f28 : Addr}
    {od29 an29 : Option Addr} {sl29 : Array (Option Value)} {oc29 kV29 dc29 pm29 cd29 ct29 : Value} {f29 : Addr}
    {od30 an30 : Option Addr} {sl30 : Array (Option Value)} {oc30 kV30 dc30 pm30 cd30 ct30 : Value} {f30 : Addr}
    {od31 an31 : Option Addr} {sl31 : Array (Option Value)} {oc31 kV31 dc31 pm31 cd31 ct31 : Value} {f31 : Addr}
    {od32 an32 : Option Addr} {sl32 : Array (Option Value)} {oc32 kV32 dc32 pm32 cd32 ct32 : Value} {f32 : Addr}
    {od33 an33 : Option Addr} {sl33 : Array (Option Value)} {oc33 kV33 dc33 pm33 cd33 ct33 : Value} {f33 : Addr}
    {C_WatchError : Addr} {C_ZeroUnder : Addr} {C_BadNumber : Addr} {C_Ratio : Addr}
    {fo_Ratio_add ro_Ratio_add : Option Value} {rf_Ratio_add : Addr}
    {fo_Ratio_sub ro_Ratio_sub : Option Value} {rf_Ratio_sub : Addr}
    {fo_Ratio_mul ro_Ratio_mul : Option Value} {rf_Ratio_mul : Addr}
    {fo_Ratio_floordiv ro_Ratio_floordiv : Option Value}
    {fo_Ratio_mod ro_Ratio_mod : Option Value}
    {cd_Ratio : ClassData}
    (g_WatchError : PySem.W.nsIn K mainGlobals "WatchError" = some (some (.ref C_WatchError)))
    (g_ZeroUnder : PySem.W.nsIn K mainGlobals "ZeroUnder" = some (some (.ref C_ZeroUnder)))
    (g_BadNumber : PySem.W.nsIn K mainGlobals "BadNumber" = some (some (.ref C_BadNumber)))
    (g_Ratio : PySem.W.nsIn K mainGlobals "Ratio" = some (some (.ref C_Ratio)))
    (a0 : PySem.W.findIn K (.ref C_Ratio) "__init__" = some (some (.ref f0)))
    (l0 : K.lookup f0 = some ⟨oc0, od0, .func (PySem.W.fnOf "__init__" "Ratio.__init__" (defArgs s_Ratio_init) (defBody s_Ratio_init) (defScope s_Ratio_init) (.ref df0) kV0 dc0 pm0 an0 cd0 ct0), sl0⟩)
    (dl0 : K.lookup df0 = some ⟨do0, dd0, .seq #[.int 1 dt0_0] dn0, ds0⟩)
    (c0 : PySem.W.codeIn K cd0 "Ratio.__init__" = true)
    (k0 : PySem.W.keepIn K (.ref f0) = true)
    (a1 : PySem.W.nsIn K mainGlobals "as_ratio" = some (some (.ref f1)))
    (l1 : K.lookup f1 = some ⟨oc1, od1, .func (PySem.W.fnOf "as_ratio" "as_ratio" (defArgs s_as_ratio) (defBody s_as_ratio) (defScope s_as_ratio) .none kV1 dc1 pm1 an1 cd1 ct1), sl1⟩)
    (c1 : PySem.W.codeIn K cd1 "as_ratio" = true)
    (k1 : PySem.W.keepIn K (.ref f1) = true)
    (a2 : PySem.W.findIn K (.ref C_Ratio) "__add__" = some (some (.ref f2)))
    (l2 : K.lookup f2 = some ⟨oc2, od2, .func (PySem.W.fnOf "__add__" "Ratio.__add__" (defArgs s_Ratio_add) (defBody s_Ratio_add) (defScope s_Ratio_add) .none kV2 dc2 pm2 an2 cd2 ct2), sl2⟩)
    (c2 : PySem.W.codeIn K cd2 "Ratio.__add__" = true)
    (k2 : PySem.W.keepIn K (.ref f2) = true)
    (a3 : PySem.W.findIn K (.ref C_Ratio) "__mul__" = some (some (.ref f3)))
    (l3 : K.lookup f3 = some ⟨oc3, od3, .func (PySem.W.fnOf "__mul__" "Ratio.__mul__" (defArgs s_Ratio_mul) (defBody s_Ratio_mul) (defScope s_Ratio_mul) .none kV3 dc3 pm3 an3 cd3 ct3), sl3⟩)
    (c3 : PySem.W.codeIn K cd3 "Ratio.__mul__" = true)
    (k3 : PySem.W.keepIn K (.ref f3) = true)
    (a4 : PySem.W.findIn K (.ref C_Ratio) "__neg__" = some (some (.ref f4)))
    (l4 : K.lookup f4 = some ⟨oc4, od4, .func (PySem.W.fnOf "__neg__" "Ratio.__neg__" (defArgs s_Ratio_neg) (defBody s_Ratio_neg) (defScope s_Ratio_neg) .none kV4 dc4 pm4 an4 cd4 ct4), sl4⟩)
    (c4 : PySem.W.codeIn K cd4 "Ratio.__neg__" = true)
    (k4 : PySem.W.keepIn K (.ref f4) = true)
    (a5 : PySem.W.findIn K (.ref C_Ratio) "__sub__" = some (some (.ref f5)))
    (l5 : K.lookup f5 = some ⟨oc5, od5, .func (PySem.W.fnOf "__sub__" "Ratio.__sub__" (defArgs s_Ratio_sub) (defBody s_Ratio_sub) (defScope s_Ratio_sub) .none kV5 dc5 pm5 an5 cd5 ct5), sl5⟩)
    (c5 : PySem.W.codeIn K cd5 "Ratio.__sub__" = true)
    (k5 : PySem.W.keepIn K (.ref f5) = true)
    (a6 : PySem.W.findIn K (.ref C_Ratio) "over" = some (some (.ref f6)))
    (l6 : K.lookup f6 = some ⟨oc6, od6, .func (PySem.W.fnOf "over" "Ratio.over" (defArgs s_Ratio_over) (defBody s_Ratio_over) (defScope s_Ratio_over) .none kV6 dc6 pm6 an6 cd6 ct6), sl6⟩)
    (c6 : PySem.W.codeIn K cd6 "Ratio.over" = true)
    (k6 : PySem.W.keepIn K (.ref f6) = true)
    (a7 : PySem.W.findIn K (.ref C_Ratio) "floor" = some (some (.ref f7)))
    (l7 : K.lookup f7 = some ⟨oc7, od7, .func (PySem.W.fnOf "floor" "Ratio.floor" (defArgs s_Ratio_floor) (defBody s_Ratio_floor) (defScope s_Ratio_floor) .none kV7 dc7 pm7 an7 cd7 ct7), sl7⟩)
    (c7 : PySem.W.codeIn K cd7 "Ratio.floor" = true)
    (k7 : PySem.W.keepIn K (.ref f7) = true)
    (a8 : PySem.W.findIn K (.ref C_Ratio) "ceiling" = some (some (.ref f8)))
    (l8 : K.lookup f8 = some ⟨oc8, od8, .func (PySem.W.fnOf "ceiling" "Ratio.ceiling" (defArgs s_Ratio_ceiling) (defBody s_Ratio_ceiling) (defScope s_Ratio_ceiling) .none kV8 dc8 pm8 an8 cd8 ct8), sl8⟩)
    (c8 : PySem.W.codeIn K cd8 "Ratio.ceiling" = true)
    (k8 : PySem.W.keepIn K (.ref f8) = true)
    (a9 : PySem.W.nsIn K mainGlobals "_lead" = some (some (.ref f9)))
    (l9 : K.lookup f9 = some ⟨oc9, od9, .func (PySem.W.fnOf "_lead" "_lead" (defArgs s_u_lead) (defBody s_u_lead) (defScope s_u_lead) .none kV9 dc9 pm9 an9 cd9 ct9), sl9⟩)
    (c9 : PySem.W.codeIn K cd9 "_lead" = true)
    (k9 : PySem.W.keepIn K (.ref f9) = true)
    (a10 : PySem.W.findIn K (.ref C_Ratio) "__lt__" = some (some (.ref f10)))
    (l10 : K.lookup f10 = some ⟨oc10, od10, .func (PySem.W.fnOf "__lt__" "Ratio.__lt__" (defArgs s_Ratio_lt) (defBody s_Ratio_lt) (defScope s_Ratio_lt) .none kV10 dc10 pm10 an10 cd10 ct10), sl10⟩)
    (c10 : PySem.W.codeIn K cd10 "Ratio.__lt__" = true)
    (k10 : PySem.W.keepIn K (.ref f10) = true)
    (a11 : PySem.W.findIn K (.ref C_Ratio) "__le__" = some (some (.ref f11)))
    (l11 : K.lookup f11 = some ⟨oc11, od11, .func (PySem.W.fnOf "__le__" "Ratio.__le__" (defArgs s_Ratio_le) (defBody s_Ratio_le) (defScope s_Ratio_le) .none kV11 dc11 pm11 an11 cd11 ct11), sl11⟩)
    (c11 : PySem.W.codeIn K cd11 "Ratio.__le__" = true)
    (k11 : PySem.W.keepIn K (.ref f11) = true)
    (a12 : PySem.W.findIn K (.ref C_Ratio) "__gt__" = some (some (.ref f12)))
    (l12 : K.lookup f12 = some ⟨oc12, od12, .func (PySem.W.fnOf "__gt__" "Ratio.__gt__" (defArgs s_Ratio_gt) (defBody s_Ratio_gt) (defScope s_Ratio_gt) .none kV12 dc12 pm12 an12 cd12 ct12), sl12⟩)
    (c12 : PySem.W.codeIn K cd12 "Ratio.__gt__" = true)
    (k12 : PySem.W.keepIn K (.ref f12) = true)
    (a13 : PySem.W.findIn K (.ref C_Ratio) "__ge__" = some (some (.ref f13)))
    (l13 : K.lookup f13 = some ⟨oc13, od13, .func (PySem.W.fnOf "__ge__" "Ratio.__ge__" (defArgs s_Ratio_ge) (defBody s_Ratio_ge) (defScope s_Ratio_ge) .none kV13 dc13 pm13 an13 cd13 ct13), sl13⟩)
    (c13 : PySem.W.codeIn K cd13 "Ratio.__ge__" = true)
    (k13 : PySem.W.keepIn K (.ref f13) = true)
    (a14 : PySem.W.findIn K (.ref C_Ratio) "__bool__" = some (some (.ref f14)))
    (l14 : K.lookup f14 = some ⟨oc14, od14, .func (PySem.W.fnOf "__bool__" "Ratio.__bool__" (defArgs s_Ratio_bool) (defBody s_Ratio_bool) (defScope s_Ratio_bool) .none kV14 dc14 pm14 an14 cd14 ct14), sl14⟩)
    (c14 : PySem.W.codeIn K cd14 "Ratio.__bool__" = true)
    (k14 : PySem.W.keepIn K (.ref f14) = true)
    (a15 : PySem.W.findIn K (.ref C_Ratio) "__floordiv__" = some (some (.ref f15)))
    (l15 : K.lookup f15 = some ⟨oc15, od15, .func (PySem.W.fnOf "__floordiv__" "Ratio.__floordiv__" (defArgs s_Ratio_floordiv) (defBody s_Ratio_floordiv) (defScope s_Ratio_floordiv) .none kV15 dc15 pm15 an15 cd15 ct15), sl15⟩)
    (c15 : PySem.W.codeIn K cd15 "Ratio.__floordiv__" = true)
    (k15 : PySem.W.keepIn K (.ref f15) = true)
    (a16 : PySem.W.findIn K (.ref C_Ratio) "__mod__" = some (some (.ref f16)))
    (l16 : K.lookup f16 = some ⟨oc16, od16, .func (PySem.W.fnOf "__mod__" "Ratio.__mod__" (defArgs s_Ratio_mod) (defBody s_Ratio_mod) (defScope s_Ratio_mod) .none kV16 dc16 pm16 an16 cd16 ct16), sl16⟩)
    (c16 : PySem.W.codeIn K cd16 "Ratio.__mod__" = true)
    (k16 : PySem.W.keepIn K (.ref f16) = true)
    (a17 : PySem.W.findIn K (.ref C_Ratio) "__eq__" = some (some (.ref f17)))
    (l17 : K.lookup f17 = some ⟨oc17, od17, .func (PySem.W.fnOf "__eq__" "Ratio.__eq__" (defArgs s_Ratio_eq) (defBody s_Ratio_eq) (defScope s_Ratio_eq) .none kV17 dc17 pm17 an17 cd17 ct17), sl17⟩)
    (c17 : PySem.W.codeIn K cd17 "Ratio.__eq__" = true)
    (k17 : PySem.W.keepIn K (.ref f17) = true)
    (a18 : PySem.W.findIn K (.ref C_Ratio) "__str__" = some (some (.ref f18)))
    (l18 : K.lookup f18 = some ⟨oc18, od18, .func (PySem.W.fnOf "__str__" "Ratio.__str__" (defArgs s_Ratio_str) (defBody s_Ratio_str) (defScope s_Ratio_str) .none kV18 dc18 pm18 an18 cd18 ct18), sl18⟩)
    (c18 : PySem.W.codeIn K cd18 "Ratio.__str__" = true)
    (k18 : PySem.W.keepIn K (.ref f18) = true)
    (a19 : PySem.W.nsIn K mainGlobals "_law_cell" = some (some (.ref f19)))
    (l19 : K.lookup f19 = some ⟨oc19, od19, .func (PySem.W.fnOf "_law_cell" "_law_cell" (defArgs s_u_law_cell) (defBody s_u_law_cell) (defScope s_u_law_cell) .none kV19 dc19 pm19 an19 cd19 ct19), sl19⟩)
    (c19 : PySem.W.codeIn K cd19 "_law_cell" = true)
    (k19 : PySem.W.keepIn K (.ref f19) = true)
    (a20 : PySem.W.nsIn K mainGlobals "_law_draws" = some (some (.ref f20)))
    (l20 : K.lookup f20 = some ⟨oc20, od20, .func (PySem.W.fnOf "_law_draws" "_law_draws" (defArgs s_u_law_draws) (defBody s_u_law_draws) (defScope s_u_law_draws) .none kV20 dc20 pm20 an20 cd20 ct20), sl20⟩)
    (c20 : PySem.W.codeIn K cd20 "_law_draws" = true)
    (k20 : PySem.W.keepIn K (.ref f20) = true)
    (a21 : PySem.W.nsIn K mainGlobals "_law_gcd" = some (some (.ref f21)))
    (l21 : K.lookup f21 = some ⟨oc21, od21, .func (PySem.W.fnOf "_law_gcd" "_law_gcd" (defArgs s_u_law_gcd) (defBody s_u_law_gcd) (defScope s_u_law_gcd) .none kV21 dc21 pm21 an21 cd21 ct21), sl21⟩)
    (c21 : PySem.W.codeIn K cd21 "_law_gcd" = true)
    (k21 : PySem.W.keepIn K (.ref f21) = true)
    (a22 : PySem.W.nsIn K mainGlobals "_law_is_int" = some (some (.ref f22)))
    (l22 : K.lookup f22 = some ⟨oc22, od22, .func (PySem.W.fnOf "_law_is_int" "_law_is_int" (defArgs s_u_law_is_int) (defBody s_u_law_is_int) (defScope s_u_law_is_int) .none kV22 dc22 pm22 an22 cd22 ct22), sl22⟩)
    (c22 : PySem.W.codeIn K cd22 "_law_is_int" = true)
    (k22 : PySem.W.keepIn K (.ref f22) = true)
    (a23 : PySem.W.nsIn K mainGlobals "_law_is_ratio" = some (some (.ref f23)))
    (l23 : K.lookup f23 = some ⟨oc23, od23, .func (PySem.W.fnOf "_law_is_ratio" "_law_is_ratio" (defArgs s_u_law_is_ratio) (defBody s_u_law_is_ratio) (defScope s_u_law_is_ratio) .none kV23 dc23 pm23 an23 cd23 ct23), sl23⟩)
    (c23 : PySem.W.codeIn K cd23 "_law_is_ratio" = true)
    (k23 : PySem.W.keepIn K (.ref f23) = true)
    (a24 : PySem.W.nsIn K mainGlobals "_law_worth" = some (some (.ref f24)))
    (l24 : K.lookup f24 = some ⟨oc24, od24, .func (PySem.W.fnOf "_law_worth" "_law_worth" (defArgs s_u_law_worth) (defBody s_u_law_worth) (defScope s_u_law_worth) .none kV24 dc24 pm24 an24 cd24 ct24), sl24⟩)
    (c24 : PySem.W.codeIn K cd24 "_law_worth" = true)
    (k24 : PySem.W.keepIn K (.ref f24) = true)
    (a25 : PySem.W.nsIn K mainGlobals "_law_digits" = some (some (.ref f25)))
    (l25 : K.lookup f25 = some ⟨oc25, od25, .func (PySem.W.fnOf "_law_digits" "_law_digits" (defArgs s_u_law_digits) (defBody s_u_law_digits) (defScope s_u_law_digits) .none kV25 dc25 pm25 an25 cd25 ct25), sl25⟩)
    (c25 : PySem.W.codeIn K cd25 "_law_digits" = true)
    (k25 : PySem.W.keepIn K (.ref f25) = true)
    (a26 : PySem.W.nsIn K mainGlobals "_law_fraction" = some (some (.ref f26)))
    (l26 : K.lookup f26 = some ⟨oc26, od26, .func (PySem.W.fnOf "_law_fraction" "_law_fraction" (defArgs s_u_law_fraction) (defBody s_u_law_fraction) (defScope s_u_law_fraction) .none kV26 dc26 pm26 an26 cd26 ct26), sl26⟩)
    (c26 : PySem.W.codeIn K cd26 "_law_fraction" = true)
    (k26 : PySem.W.keepIn K (.ref f26) = true)
    (a27 : PySem.W.nsIn K mainGlobals "_law_two_fractions" = some (some (.ref f27)))
    (l27 : K.lookup f27 = some ⟨oc27, od27, .func (PySem.W.fnOf "_law_two_fractions" "_law_two_fractions" (defArgs s_u_law_two_fractions) (defBody s_u_law_two_fractions) (defScope s_u_law_two_fractions) .none kV27 dc27 pm27 an27 cd27 ct27), sl27⟩)
    (c27 : PySem.W.codeIn K cd27 "_law_two_fractions" = true)
    (k27 : PySem.W.keepIn K (.ref f27) = true)
    (a28 : PySem.W.nsIn K mainGlobals "_law_orders" = some (some (.ref f28)))
    (l28 : K.lookup f28 = some ⟨oc28, od28, .func (PySem.W.fnOf "_law_orders" "_law_orders" (defArgs s_u_law_orders) (defBody s_u_law_orders) (defScope s_u_law_orders) .none kV28 dc28 pm28 an28 cd28 ct28), sl28⟩)
    (c28 : PySem.W.codeIn K cd28 "_law_orders" = true)
    (k28 : PySem.W.keepIn K (.ref f28) = true)
    (a29 : PySem.W.nsIn K mainGlobals "_law_rounded" = some (some (.ref f29)))
    (l29 : K.lookup f29 = some ⟨oc29, od29, .func (PySem.W.fnOf "_law_rounded" "_law_rounded" (defArgs s_u_law_rounded) (defBody s_u_law_rounded) (defScope s_u_law_rounded) .none kV29 dc29 pm29 an29 cd29 ct29), sl29⟩)
    (c29 : PySem.W.codeIn K cd29 "_law_rounded" = true)
    (k29 : PySem.W.keepIn K (.ref f29) = true)
    (a30 : PySem.W.nsIn K mainGlobals "_law_zero_refused" = some (some (.ref f30)))
    (l30 : K.lookup f30 = some ⟨oc30, od30, .func (PySem.W.fnOf "_law_zero_refused" "_law_zero_refused" (defArgs s_u_law_zero_refused) (defBody s_u_law_zero_refused) (defScope s_u_law_zero_refused) .none kV30 dc30 pm30 an30 cd30 ct30), sl30⟩)
    (c30 : PySem.W.codeIn K cd30 "_law_zero_refused" = true)
    (k30 : PySem.W.keepIn K (.ref f30) = true)
    (a31 : PySem.W.nsIn K mainGlobals "_law_quotients" = some (some (.ref f31)))
    (l31 : K.lookup f31 = some ⟨oc31, od31, .func (PySem.W.fnOf "_law_quotients" "_law_quotients" (defArgs s_u_law_quotients) (defBody s_u_law_quotients) (defScope s_u_law_quotients) .none kV31 dc31 pm31 an31 cd31 ct31), sl31⟩)
    (c31 : PySem.W.codeIn K cd31 "_law_quotients" = true)
    (k31 : PySem.W.keepIn K (.ref f31) = true)
    (a32 : PySem.W.nsIn K mainGlobals "_law_unlike" = some (some (.ref f32)))
    (l32 : K.lookup f32 = some ⟨oc32, od32, .func (PySem.W.fnOf "_law_unlike" "_law_unlike" (defArgs s_u_law_unlike) (defBody s_u_law_unlike) (defScope s_u_law_unlike) .none kV32 dc32 pm32 an32 cd32 ct32), sl32⟩)
    (c32 : PySem.W.codeIn K cd32 "_law_unlike" = true)
    (k32 : PySem.W.keepIn K (.ref f32) = true)
    (a33 : PySem.W.nsIn K mainGlobals "law" = some (some (.ref f33)))
    (l33 : K.lookup f33 = some ⟨oc33, od33, .func (PySem.W.fnOf "law" "law" (defArgs s_law) (defBody s_law) (defScope s_law) .none kV33 dc33 pm33 an33 cd33 ct33), sl33⟩)
    (c33 : PySem.W.codeIn K cd33 "law" = true)
    (k33 : PySem.W.keepIn K (.ref f33) = true)
    (z_abs : PySem.W.nsIn K mainGlobals "abs" = some none)
    (z_len : PySem.W.nsIn K mainGlobals "len" = some none)
    (z_int : PySem.W.nsIn K mainGlobals "int" = some none)
    (z_bool : PySem.W.nsIn K mainGlobals "bool" = some none)
    (z_str : PySem.W.nsIn K mainGlobals "str" = some none)
    (z_list : PySem.W.nsIn K mainGlobals "list" = some none)
    (z_tuple : PySem.W.nsIn K mainGlobals "tuple" = some none)
    (z_isinstance : PySem.W.nsIn K mainGlobals "isinstance" = some none)
    (z_range : PySem.W.nsIn K mainGlobals "range" = some none)
    (z_ValueError : PySem.W.nsIn K mainGlobals "ValueError" = some none)
    (gG : PySem.W.nsIn K mainGlobals "gcd" = some (some (.builtin "math.gcd")))
    (hdR : PySem.W.hasDictIn K C_Ratio = true)
    (tyR : PySem.W.typeIn K (.ref C_Ratio) = some (.type "type"))
    (meC_Ratio : PySem.W.subIn K (.ref C_Ratio) (.ref C_Ratio) = some true)
    (siR : PySem.W.subIn K (.type "int") (.ref C_Ratio) = some false)
    (si_str : PySem.W.subIn K (.type "str") (.ref C_Ratio) = some false)
    (si_NoneType : PySem.W.subIn K (.type "NoneType") (.ref C_Ratio) = some false)
    (si_list : PySem.W.subIn K (.type "list") (.ref C_Ratio) = some false)
    (si_tuple : PySem.W.subIn K (.type "tuple") (.ref C_Ratio) = some false)
    (exC_ZeroUnder : PySem.W.subIn K (.ref C_ZeroUnder) (.type "BaseException") = some true)
    (hdC_ZeroUnder : PySem.W.hasDictIn K C_ZeroUnder = true)
    (tyC_ZeroUnder : PySem.W.typeIn K (.ref C_ZeroUnder) = some (.type "type"))
    (meC_ZeroUnder : PySem.W.subIn K (.ref C_ZeroUnder) (.ref C_ZeroUnder) = some true)
    (xP_ZeroUnder : PySem.W.excIn K C_ZeroUnder [.type "ValueError", .type "Exception", .type "BaseException", .type "object"] "ValueError.__new__" = true)
    (kP_ZeroUnder : PySem.W.keepIn K (.ref C_ZeroUnder) = true)
    (ga_ZeroUnder : PySem.W.findIn K (.ref C_ZeroUnder) "__getattribute__" = some (some (.builtin "BaseException.__getattribute__")))
    (gg_ZeroUnder : PySem.W.findIn K (.ref C_ZeroUnder) "__getattr__" = some none)
    (ha_ZeroUnder : PySem.W.findIn K (.ref C_ZeroUnder) "__class__" = some (some (.builtin "object.__class__")))
    (hn_ : PySem.W.specialIn K (.builtin "object.__class__") "__get__" = some (some (.builtin "getset_descriptor.__get__")))
    (ht_ : PySem.W.takesIn K (.builtin "object.__class__") = some true)
    (hm_ZeroUnder : PySem.W.mroIn K C_ZeroUnder (.type "object") = some true)
    (exC_WatchError : PySem.W.subIn K (.ref C_WatchError) (.type "BaseException") = some true)
    (hdC_WatchError : PySem.W.hasDictIn K C_WatchError = true)
    (tyC_WatchError : PySem.W.typeIn K (.ref C_WatchError) = some (.type "type"))
    (meC_WatchError : PySem.W.subIn K (.ref C_WatchError) (.ref C_WatchError) = some true)
    (sub_ZeroUnder_WatchError : PySem.W.subIn K (.ref C_ZeroUnder) (.ref C_WatchError) = some true)
    (sub_Ratio_int : PySem.W.subIn K (.ref C_Ratio) (.type "int") = some false)
    (sub_ZeroUnder_ValueError : PySem.W.subIn K (.ref C_ZeroUnder) (.type "ValueError") = some true)
    (exC_BadNumber : PySem.W.subIn K (.ref C_BadNumber) (.type "BaseException") = some true)
    (hdC_BadNumber : PySem.W.hasDictIn K C_BadNumber = true)
    (tyC_BadNumber : PySem.W.typeIn K (.ref C_BadNumber) = some (.type "type"))
    (meC_BadNumber : PySem.W.subIn K (.ref C_BadNumber) (.ref C_BadNumber) = some true)
    (sub_ZeroUnder_BadNumber : PySem.W.subIn K (.ref C_ZeroUnder) (.ref C_BadNumber) = some false)
    (pg_Ratio : PySem.W.plainGet K C_Ratio Str.empty = true)
    (hd_Ratio : PySem.W.hasDictIn K C_Ratio = true)
    (po_Ratio : PySem.W.plainOver K C_Ratio = true)
    (sa_Ratio : PySem.W.findIn K (.ref C_Ratio) "__setattr__" = some (some (.builtin "object.__setattr__")))
    (mk_Ratio : PySem.W.makesIn K C_Ratio = true)
    (kc_Ratio : PySem.W.keepIn K (.ref C_Ratio) = true)
    (if_0 : PySem.W.isFn K (.ref f0) = true)
    (na_Ratio_top : PySem.W.findIn K (.ref C_Ratio) "top" = some none)
    (na_Ratio_under : PySem.W.findIn K (.ref C_Ratio) "under" = some none)
    (sf_Ratio : PySem.W.selfFirst K C_Ratio = true)
    (si_Ratio : PySem.W.subIn K (.type "int") (.ref C_Ratio) = some false)
    (dn_Ratio_add : PySem.W.findIn K (.ref C_Ratio) (PySem.dunder "add") = some (some (.ref f2)))
    (dn_Ratio_mul : PySem.W.findIn K (.ref C_Ratio) (PySem.dunder "mul") = some (some (.ref f3)))
    (dn_Ratio_sub : PySem.W.findIn K (.ref C_Ratio) (PySem.dunder "sub") = some (some (.ref f5)))
    (dn_Ratio_floordiv : PySem.W.findIn K (.ref C_Ratio) (PySem.dunder "floordiv") = some (some (.ref f15)))
    (dn_Ratio_mod : PySem.W.findIn K (.ref C_Ratio) (PySem.dunder "mod") = some (some (.ref f16)))
    (rc_Ratio_add : PySem.W.findIn K (.ref C_Ratio) (dunderR "add") = some (some (.ref rf_Ratio_add)))
    (lo_Ratio_add : PySem.W.findIn K (.type "int") (PySem.dunder "add") = some fo_Ratio_add)
    (ro_Ratio_add : PySem.W.findIn K (.type "int") (dunderR "add") = some ro_Ratio_add)
    (rc_Ratio_sub : PySem.W.findIn K (.ref C_Ratio) (dunderR "sub") = some (some (.ref rf_Ratio_sub)))
    (lo_Ratio_sub : PySem.W.findIn K (.type "int") (PySem.dunder "sub") = some fo_Ratio_sub)
    (ro_Ratio_sub : PySem.W.findIn K (.type "int") (dunderR "sub") = some ro_Ratio_sub)
    (rc_Ratio_mul : PySem.W.findIn K (.ref C_Ratio) (dunderR "mul") = some (some (.ref rf_Ratio_mul)))
    (lo_Ratio_mul : PySem.W.findIn K (.type "int") (PySem.dunder "mul") = some fo_Ratio_mul)
    (ro_Ratio_mul : PySem.W.findIn K (.type "int") (dunderR "mul") = some ro_Ratio_mul)
    (rc_Ratio_floordiv : PySem.W.findIn K (.ref C_Ratio) (dunderR "floordiv") = some none)
    (lo_Ratio_floordiv : PySem.W.findIn K (.type "int") (PySem.dunder "floordiv") = some fo_Ratio_floordiv)
    (ro_Ratio_floordiv : PySem.W.findIn K (.type "int") (dunderR "floordiv") = some ro_Ratio_floordiv)
    (rc_Ratio_mod : PySem.W.findIn K (.ref C_Ratio) (dunderR "mod") = some none)
    (lo_Ratio_mod : PySem.W.findIn K (.type "int") (PySem.dunder "mod") = some fo_Ratio_mod)
    (ro_Ratio_mod : PySem.W.findIn K (.type "int") (dunderR "mod") = some ro_Ratio_mod)
    (ci_Ratio : PySem.W.clsIn K C_Ratio = some cd_Ratio)
    (meC_mro_Ratio : cd_Ratio.mro = [.ref C_Ratio, .type "object"])
    (ic_Ratio_floordiv : PySem.W.findIn K (.ref C_Ratio) (dunderI "floordiv") = some none)
    (io_floordiv : PySem.W.findIn K (.type "object") (dunderI "floordiv") = some none)
    (ic_Ratio_mod : PySem.W.findIn K (.ref C_Ratio) (dunderI "mod") = some none)
    (io_mod : PySem.W.findIn K (.type "object") (dunderI "mod") = some none)
    (nn_Ratio : PySem.W.findIn K (.ref C_Ratio) "__ne__" = some (some (.builtin "object.__ne__")))
    (hm_Ratio : PySem.W.mroIn K C_Ratio (.type "object") = some true)
    (ha_Ratio : PySem.W.findIn K (.ref C_Ratio) "__class__" = some (some (.builtin "object.__class__")))
    (if_2 : PySem.W.isFn K (.ref f2) = true)
    (if_3 : PySem.W.isFn K (.ref f3) = true)
    (if_4 : PySem.W.isFn K (.ref f4) = true)
    (if_5 : PySem.W.isFn K (.ref f5) = true)
    (if_6 : PySem.W.isFn K (.ref f6) = true)
    (if_7 : PySem.W.isFn K (.ref f7) = true)
    (if_8 : PySem.W.isFn K (.ref f8) = true)
    (if_10 : PySem.W.isFn K (.ref f10) = true)
    (if_11 : PySem.W.isFn K (.ref f11) = true)
    (if_12 : PySem.W.isFn K (.ref f12) = true)
    (if_13 : PySem.W.isFn K (.ref f13) = true)
    (if_14 : PySem.W.isFn K (.ref f14) = true)
    (if_15 : PySem.W.isFn K (.ref f15) = true)
    (if_16 : PySem.W.isFn K (.ref f16) = true)
    (if_17 : PySem.W.isFn K (.ref f17) = true)
    (if_18 : PySem.W.isFn K (.ref f18) = true)
    : ∃ fd : FuncData, (∀ (s : Shared) (v : Value), BindsTo s fd ⟨[v], []⟩ [("script", v)]) ∧ ∀ base : Heap, K.In base → base.Ns mainGlobals mg → FnOk l.prog w K mg base CX0 16 fa fd ["script"] ((spLaw K)) := by
  have e := hfa.symm.trans (PySem.W.mg_of X G a33)
  cases e
  let A : Ads := {
    f_Ratio_init := f0,
    d_Ratio_init := PySem.W.fnOf "__init__" "Ratio.__init__" (defArgs s_Ratio_init) (defBody s_Ratio_init) (defScope s_Ratio_init) (.ref df0) kV0 dc0 pm0 an0 cd0 ct0,
    f_as_ratio := f1,
    d_as_ratio := PySem.W.fnOf "as_ratio" "as_ratio" (defArgs s_as_ratio) (defBody s_as_ratio) (defScope s_as_ratio) .none kV1 dc1 pm1 an1 cd1 ct1,
    f_Ratio_add := f2,
    d_Ratio_add := PySem.W.fnOf "__add__" "Ratio.__add__" (defArgs s_Ratio_add) (defBody s_Ratio_add) (defScope s_Ratio_add) .none kV2 dc2 pm2 an2 cd2 ct2,
    f_Ratio_mul := f3,
    d_Ratio_mul := PySem.W.fnOf "__mul__" "Ratio.__mul__" (defArgs s_Ratio_mul) (defBody s_Ratio_mul) (defScope s_Ratio_mul) .none kV3 dc3 pm3 an3 cd3 ct3,
    f_Ratio_neg := f4,
    d_Ratio_neg := PySem.W.fnOf "__neg__" "Ratio.__neg__" (defArgs s_Ratio_neg) (defBody s_Ratio_neg) (defScope s_Ratio_neg) .none kV4 dc4 pm4 an4 cd4 ct4,
    f_Ratio_sub := f5,
    d_Ratio_sub := PySem.W.fnOf "__sub__" "Ratio.__sub__" (defArgs s_Ratio_sub) (defBody s_Ratio_sub) (defScope s_Ratio_sub) .none kV5 dc5 pm5 an5 cd5 ct5,
    f_Ratio_over := f6,
    d_Ratio_over := PySem.W.fnOf "over" "Ratio.over" (defArgs s_Ratio_over) (defBody s_Ratio_over) (defScope s_Ratio_over) .none kV6 dc6 pm6 an6 cd6 ct6,
    f_Ratio_floor := f7,
    d_Ratio_floor := PySem.W.fnOf "floor" "Ratio.floor" (defArgs s_Ratio_floor) (defBody s_Ratio_floor) (defScope s_Ratio_floor) .none kV7 dc7 pm7 an7 cd7 ct7,
    f_Ratio_ceiling := f8,
    d_Ratio_ceiling := PySem.W.fnOf "ceiling" "Ratio.ceiling" (defArgs s_Ratio_ceiling) (defBody s_Ratio_ceiling) (defScope s_Ratio_ceiling) .none kV8 dc8 pm8 an8 cd8 ct8,
    f_u_lead := f9,
    d_u_lead := PySem.W.fnOf "_lead" "_lead" (defArgs s_u_lead) (defBody s_u_lead) (defScope s_u_lead) .none kV9 dc9 pm9 an9 cd9 ct9,
    f_Ratio_lt := f10,
    d_Ratio_lt := PySem.W.fnOf "__lt__" "Ratio.__lt__" (defArgs s_Ratio_lt) (defBody s_Ratio_lt) (defScope s_Ratio_lt) .none kV10 dc10 pm10 an10 cd10 ct10,
    f_Ratio_le := f11,
    d_Ratio_le := PySem.W.fnOf "__le__" "Ratio.__le__" (defArgs s_Ratio_le) (defBody s_Ratio_le) (defScope s_Ratio_le) .none kV11 dc11 pm11 an11 cd11 ct11,
    f_Ratio_gt := f12,
    d_Ratio_gt := PySem.W.fnOf "__gt__" "Ratio.__gt__" (defArgs s_Ratio_gt) (defBody s_Ratio_gt) (defScope s_Ratio_gt) .none kV12 dc12 pm12 an12 cd12 ct12,
    f_Ratio_ge := f13,
    d_Ratio_ge := PySem.W.fnOf "__ge__" "Ratio.__ge__" (defArgs s_Ratio_ge) (defBody s_Ratio_ge) (defScope s_Ratio_ge) .none kV13 dc13 pm13 an13 cd13 ct13,
    f_Ratio_bool := f14,
    d_Ratio_bool := PySem.W.fnOf "__bool__" "Ratio.__bool__" (defArgs s_Ratio_bool) (defBody s_Ratio_bool) (defScope s_Ratio_bool) .none kV14 dc14 pm14 an14 cd14 ct14,
    f_Ratio_floordiv := f15,
    d_Ratio_floordiv := PySem.W.fnOf "__floordiv__" "Ratio.__floordiv__" (defArgs s_Ratio_floordiv) (defBody s_Ratio_floordiv) (defScope s_Ratio_floordiv) .none kV15 dc15 pm15 an15 cd15 ct15,
    f_Ratio_mod := f16,
    d_Ratio_mod := PySem.W.fnOf "__mod__" "Ratio.__mod__" (defArgs s_Ratio_mod) (defBody s_Ratio_mod) (defScope s_Ratio_mod) .none kV16 dc16 pm16 an16 cd16 ct16,
    f_Ratio_eq := f17,
    d_Ratio_eq := PySem.W.fnOf "__eq__" "Ratio.__eq__" (defArgs s_Ratio_eq) (defBody s_Ratio_eq) (defScope s_Ratio_eq) .none kV17 dc17 pm17 an17 cd17 ct17,
    f_Ratio_str := f18,
    d_Ratio_str := PySem.W.fnOf "__str__" "Ratio.__str__" (defArgs s_Ratio_str) (defBody s_Ratio_str) (defScope s_Ratio_str) .none kV18 dc18 pm18 an18 cd18 ct18,
    f_u_law_cell := f19,
    d_u_law_cell := PySem.W.fnOf "_law_cell" "_law_cell" (defArgs s_u_law_cell) (defBody s_u_law_cell) (defScope s_u_law_cell) .none kV19 dc19 pm19 an19 cd19 ct19,
    f_u_law_draws := f20,
    d_u_law_draws := PySem.W.fnOf "_law_draws" "_law_draws" (defArgs s_u_law_draws) (defBody s_u_law_draws) (defScope s_u_law_draws) .none kV20 dc20 pm20 an20 cd20 ct20,
    f_u_law_gcd := f21,
    d_u_law_gcd := PySem.W.fnOf "_law_gcd" "_law_gcd" (defArgs s_u_law_gcd) (defBody s_u_law_gcd) (defScope s_u_law_gcd) .none kV21 dc21 pm21 an21 cd21 ct21,
    f_u_law_is_int := f22,
    d_u_law_is_int := PySem.W.fnOf "_law_is_int" "_law_is_int" (defArgs s_u_law_is_int) (defBody s_u_law_is_int) (defScope s_u_law_is_int) .none kV22 dc22 pm22 an22 cd22 ct22,
    f_u_law_is_ratio := f23,
    d_u_law_is_ratio := PySem.W.fnOf "_law_is_ratio" "_law_is_ratio" (defArgs s_u_law_is_ratio) (defBody s_u_law_is_ratio) (defScope s_u_law_is_ratio) .none kV23 dc23 pm23 an23 cd23 ct23,
    f_u_law_worth := f24,
    d_u_law_worth := PySem.W.fnOf "_law_worth" "_law_worth" (defArgs s_u_law_worth) (defBody s_u_law_worth) (defScope s_u_law_worth) .none kV24 dc24 pm24 an24 cd24 ct24,
    f_u_law_digits := f25,
    d_u_law_digits := PySem.W.fnOf "_law_digits" "_law_digits" (defArgs s_u_law_digits) (defBody s_u_law_digits) (defScope s_u_law_digits) .none kV25 dc25 pm25 an25 cd25 ct25,
    f_u_law_fraction := f26,
    d_u_law_fraction := PySem.W.fnOf "_law_fraction" "_law_fraction" (defArgs s_u_law_fraction) (defBody s_u_law_fraction) (defScope s_u_law_fraction) .none kV26 dc26 pm26 an26 cd26 ct26,
    f_u_law_two_fractions := f27,
    d_u_law_two_fractions := PySem.W.fnOf "_law_two_fractions" "_law_two_fractions" (defArgs s_u_law_two_fractions) (defBody s_u_law_two_fractions) (defScope s_u_law_two_fractions) .none kV27 dc27 pm27 an27 cd27 ct27,
    f_u_law_orders := f28,
    d_u_law_orders := PySem.W.fnOf "_law_orders" "_law_orders" (defArgs s_u_law_orders) (defBody s_u_law_orders) (defScope s_u_law_orders) .none kV28 dc28 pm28 an28 cd28 ct28,
    f_u_law_rounded := f29,
    d_u_law_rounded := PySem.W.fnOf "_law_rounded" "_law_rounded" (defArgs s_u_law_rounded) (defBody s_u_law_rounded) (defScope s_u_law_rounded) .none kV29 dc29 pm29 an29 cd29 ct29,
    f_u_law_zero_refused := f30,
    d_u_law_zero_refused := PySem.W.fnOf "_law_zero_refused" "_law_zero_refused" (defArgs s_u_law_zero_refused) (defBody s_u_law_zero_refused) (defScope s_u_law_zero_refused) .none kV30 dc30 pm30 an30 cd30 ct30,
    f_u_law_quotients := f31,
    d_u_law_quotients := PySem.W.fnOf "_law_quotients" "_law_quotients" (defArgs s_u_law_quotients) (defBody s_u_law_quotients) (defScope s_u_law_quotients) .none kV31 dc31 pm31 an31 cd31 ct31,
    f_u_law_unlike := f32,
    d_u_law_unlike := PySem.W.fnOf "_law_unlike" "_law_unlike" (defArgs s_u_law_unlike) (defBody s_u_law_unlike) (defScope s_u_law_unlike) .none kV32 dc32 pm32 an32 cd32 ct32,
    f_law := fa,
    d_law := PySem.W.fnOf "law" "law" (defArgs s_law) (defBody s_law) (defScope s_law) .none kV33 dc33 pm33 an33 cd33 ct33,
    C_WatchError := C_WatchError,
    C_ZeroUnder := C_ZeroUnder,
    C_BadNumber := C_BadNumber,
    C_Ratio := C_Ratio }
  have T : Txt K mg A := {
    F_Ratio_init := ⟨⟨_, _, _, _, _, _, _, _, _, _, rfl, l0, c0, .inr ⟨by simp, df0, _, _, _, rfl, dl0, rfl, .cons ⟨_, rfl⟩ (.nil)⟩, .inl rfl⟩, k0⟩,
    F_as_ratio := fun_mk (st := s_as_ratio) l1 c1 k1,
    g_as_ratio := PySem.W.mg_of X G a1,
    k_as_ratio := k1,
    F_Ratio_add := fun_mk (st := s_Ratio_add) l2 c2 k2,
    F_Ratio_mul := fun_mk (st := s_Ratio_mul) l3 c3 k3,
    F_Ratio_neg := fun_mk (st := s_Ratio_neg) l4 c4 k4,
    F_Ratio_sub := fun_mk (st := s_Ratio_sub) l5 c5 k5,
    F_Ratio_over := fun_mk (st := s_Ratio_over) l6 c6 k6,
    F_Ratio_floor := fun_mk (st := s_Ratio_floor) l7 c7 k7,
    F_Ratio_ceiling := fun_mk (st := s_Ratio_ceiling) l8 c8 k8,
    F_u_lead := fun_mk (st := s_u_lead) l9 c9 k9,
    g_u_lead := PySem.W.mg_of X G a9,
    k_u_lead := k9,
    F_Ratio_lt := fun_mk (st := s_Ratio_lt) l10 c10 k10,
    F_Ratio_le := fun_mk (st := s_Ratio_le) l11 c11 k11,
    F_Ratio_gt := fun_mk (st := s_Ratio_gt) l12 c12 k12,
    F_Ratio_ge := fun_mk (st := s_Ratio_ge) l13 c13 k13,
    F_Ratio_bool := fun_mk (st := s_Ratio_bool) l14 c14 k14,
    F_Ratio_floordiv := fun_mk (st := s_Ratio_floordiv) l15 c15 k15,
    F_Ratio_mod := fun_mk (st := s_Ratio_mod) l16 c16 k16,
    F_Ratio_eq := fun_mk (st := s_Ratio_eq) l17 c17 k17,
    F_Ratio_str := fun_mk (st := s_Ratio_str) l18 c18 k18,
    F_u_law_cell := fun_mk (st := s_u_law_cell) l19 c19 k19,
    g_u_law_cell := PySem.W.mg_of X G a19,
    k_u_law_cell := k19,
    F_u_law_draws := fun_mk (st := s_u_law_draws) l20 c20 k20,
    g_u_law_draws := PySem.W.mg_of X G a20,
    k_u_law_draws := k20,
    F_u_law_gcd := fun_mk (st := s_u_law_gcd) l21 c21 k21,
    g_u_law_gcd := PySem.W.mg_of X G a21,
    k_u_law_gcd := k21,
    F_u_law_is_int := fun_mk (st := s_u_law_is_int) l22 c22 k22,
    g_u_law_is_int := PySem.W.mg_of X G a22,
    k_u_law_is_int := k22,
    F_u_law_is_ratio := fun_mk (st := s_u_law_is_ratio) l23 c23 k23,
    g_u_law_is_ratio := PySem.W.mg_of X G a23,
    k_u_law_is_ratio := k23,
    F_u_law_worth := fun_mk (st := s_u_law_worth) l24 c24 k24,
    g_u_law_worth := PySem.W.mg_of X G a24,
    k_u_law_worth := k24,
    F_u_law_digits := fun_mk (st := s_u_law_digits) l25 c25 k25,
    g_u_law_digits := PySem.W.mg_of X G a25,
    k_u_law_digits := k25,
    F_u_law_fraction := fun_mk (st := s_u_law_fraction) l26 c26 k26,
    g_u_law_fraction := PySem.W.mg_of X G a26,
    k_u_law_fraction := k26,
    F_u_law_two_fractions := fun_mk (st := s_u_law_two_fractions) l27 c27 k27,
    g_u_law_two_fractions := PySem.W.mg_of X G a27,
    k_u_law_two_fractions := k27,
    F_u_law_orders := fun_mk (st := s_u_law_orders) l28 c28 k28,
    g_u_law_orders := PySem.W.mg_of X G a28,
    k_u_law_orders := k28,
    F_u_law_rounded := fun_mk (st := s_u_law_rounded) l29 c29 k29,
    g_u_law_rounded := PySem.W.mg_of X G a29,
    k_u_law_rounded := k29,
    F_u_law_zero_refused := fun_mk (st := s_u_law_zero_refused) l30 c30 k30,
    g_u_law_zero_refused := PySem.W.mg_of X G a30,
    k_u_law_zero_refused := k30,
    F_u_law_quotients := fun_mk (st := s_u_law_quotients) l31 c31 k31,
    g_u_law_quotients := PySem.W.mg_of X G a31,
    k_u_law_quotients := k31,
    F_u_law_unlike := fun_mk (st := s_u_law_unlike) l32 c32 k32,
    g_u_law_unlike := PySem.W.mg_of X G a32,
    k_u_law_unlike := k32,
    F_law := fun_mk (st := s_law) l33 c33 k33,
    g_law := hfa,
    k_law := k33,
    z_abs := PySem.W.mg_none_of X G z_abs,
    z_len := PySem.W.mg_none_of X G z_len,
    z_int := PySem.W.mg_none_of X G z_int,
    z_bool := PySem.W.mg_none_of X G z_bool,
    z_str := PySem.W.mg_none_of X G z_str,
    z_list := PySem.W.mg_none_of X G z_list,
    z_tuple := PySem.W.mg_none_of X G z_tuple,
    z_isinstance := PySem.W.mg_none_of X G z_isinstance,
    z_range := PySem.W.mg_none_of X G z_range,
    z_ValueError := PySem.W.mg_none_of X G z_ValueError,
    g_WatchError := PySem.W.mg_of X G g_WatchError,
    g_ZeroUnder := PySem.W.mg_of X G g_ZeroUnder,
    g_BadNumber := PySem.W.mg_of X G g_BadNumber,
    g_Ratio := PySem.W.mg_of X G g_Ratio,
    g_gcd := PySem.W.mg_of X G gG,
    kit_int_Ratio := kit_no hdR tyR meC_Ratio siR,
    si_str := si_str,
    kit_str_Ratio := kit_no hdR tyR meC_Ratio si_str,
    si_NoneType := si_NoneType,
    kit_NoneType_Ratio := kit_no hdR tyR meC_Ratio si_NoneType,
    si_list := si_list,
    kit_list_Ratio := kit_no hdR tyR meC_Ratio si_list,
    si_tuple := si_tuple,
    kit_tuple_Ratio := kit_no hdR tyR meC_Ratio si_tuple,
    xP_ZeroUnder := xP_ZeroUnder,
    kP_ZeroUnder := kP_ZeroUnder,
    bP_ZeroUnder := exC_ZeroUnder,
    tP_ZeroUnder := tyC_ZeroUnder,
    ex_ZeroUnder := ⟨ga_ZeroUnder, gg_ZeroUnder, exC_ZeroUnder, hdC_ZeroUnder, ha_ZeroUnder, hn_, ht_, hm_ZeroUnder⟩,
    xm_ZeroUnder_WatchError := PySem.W.exm_ref exC_WatchError hdC_WatchError tyC_WatchError sub_ZeroUnder_WatchError,
    kit_Ratio_int := kit_bi (by decide +kernel) sub_Ratio_int,
    kit_Ratio_Ratio := kit_self,
    kit_ZeroUnder_ZeroUnder := kit_self,
    kit_ZeroUnder_ValueError := kit_bi (by decide +kernel) sub_ZeroUnder_ValueError,
    kit_ZeroUnder_BadNumber := kit_no hdC_BadNumber tyC_BadNumber meC_BadNumber sub_ZeroUnder_BadNumber,
    cl_Ratio := ⟨pg_Ratio, hd_Ratio, po_Ratio, sa_Ratio⟩,
    mk_Ratio := ⟨mk_Ratio, a0, if_0, kc_Ratio⟩,
    na_Ratio_top := na_Ratio_top,
    na_Ratio_under := na_Ratio_under,
    op_Ratio := ⟨sf_Ratio, si_Ratio⟩,
    D_Ratio_add := ⟨dn_Ratio_add, if_2, k2⟩,
    D_Ratio_mul := ⟨dn_Ratio_mul, if_3, k3⟩,
    D_Ratio_sub := ⟨dn_Ratio_sub, if_5, k5⟩,
    D_Ratio_floordiv := ⟨dn_Ratio_floordiv, if_15, k15⟩,
    D_Ratio_mod := ⟨dn_Ratio_mod, if_16, k16⟩,
    li_Ratio := sub_Ratio_int,
    I_Ratio_add := ⟨⟨_, rc_Ratio_add, .inr ⟨_, rfl⟩⟩, ⟨_, lo_Ratio_add⟩, ⟨_, ro_Ratio_add⟩⟩,
    I_Ratio_sub := ⟨⟨_, rc_Ratio_sub, .inr ⟨_, rfl⟩⟩, ⟨_, lo_Ratio_sub⟩, ⟨_, ro_Ratio_sub⟩⟩,
    I_Ratio_mul := ⟨⟨_, rc_Ratio_mul, .inr ⟨_, rfl⟩⟩, ⟨_, lo_Ratio_mul⟩, ⟨_, ro_Ratio_mul⟩⟩,
    I_Ratio_floordiv := ⟨⟨_, rc_Ratio_floordiv, .inl rfl⟩, ⟨_, lo_Ratio_floordiv⟩, ⟨_, ro_Ratio_floordiv⟩⟩,
    I_Ratio_mod := ⟨⟨_, rc_Ratio_mod, .inl rfl⟩, ⟨_, lo_Ratio_mod⟩, ⟨_, ro_Ratio_mod⟩⟩,
    no_Ratio := ⟨_, ci_Ratio, meC_mro_Ratio⟩,
    ip_Ratio_floordiv := ⟨ic_Ratio_floordiv, io_floordiv⟩,
    ip_Ratio_mod := ⟨ic_Ratio_mod, io_mod⟩,
    ne_Ratio := ⟨hm_Ratio, nn_Ratio⟩,
    ty_Ratio := fun H a dx fs e => .base (.ins e ⟨pg_Ratio, hd_Ratio, po_Ratio, sa_Ratio⟩ ha_Ratio hn_ ht_ hm_Ratio),
    M_Ratio_add := ⟨a2, if_2, k2⟩,
    M_Ratio_mul := ⟨a3, if_3, k3⟩,
    M_Ratio_neg := ⟨a4, if_4, k4⟩,
    M_Ratio_sub := ⟨a5, if_5, k5⟩,
    M_Ratio_over := ⟨a6, if_6, k6⟩,
    M_Ratio_floor := ⟨a7, if_7, k7⟩,
    M_Ratio_ceiling := ⟨a8, if_8, k8⟩,
    M_Ratio_lt := ⟨a10, if_10, k10⟩,
    M_Ratio_le := ⟨a11, if_11, k11⟩,
    M_Ratio_gt := ⟨a12, if_12, k12⟩,
    M_Ratio_ge := ⟨a13, if_13, k13⟩,
    M_Ratio_bool := ⟨a14, if_14, k14⟩,
    M_Ratio_floordiv := ⟨a15, if_15, k15⟩,
    M_Ratio_mod := ⟨a16, if_16, k16⟩,
    M_Ratio_eq := ⟨a17, if_17, k17⟩,
    M_Ratio_str := ⟨a18, if_18, k18⟩ }
  exact ⟨A.d_law, fun s v => .of_eq rfl, fun base _ _ => ok_law T⟩
end
theorem walk {l : PySem.W.OpenLaw} {q : Program} {loose : List Str} {XP : (Str → Option Value) → Heap → Prop} {YP : World → Heap → Prop} {d : DefRec} {K : Params → PySem.W.Frag} (hn : l.most = some 63) (hdf : d.params.defaults = [])
    (hY : ∀ (w : World) (h : Heap), YP w h → (K w.params).In h)
    (F : ∀ (w : World) (mg : Str → Option Value) (fa : Addr) (h : Heap), (K w.params).In h → h.Ns mainGlobals mg → mg d.name = some (.ref fa) →
      ∃ fd : FuncData, (∀ (s : Shared) (u : Value), BindsTo s fd ⟨[u], []⟩ [("script", u)]) ∧ ∀ base : Heap, (K w.params).In base → base.Ns mainGlobals mg → FnOk l.prog w (K w.params) mg base CX0 16 fa fd ["script"] ((spLaw) (K w.params))) :
    PySem.W.WalkO q loose XP YP l.row.toRowW d [] (fun f vs => PySem.call f vs) :=
  L2.walk_of (n := 63) (k := 16) (x := "script") (CX := fun _ => CX0) (sp := fun w => (spLaw) (K w.params)) hn (by decide) hdf ⟨rfl, by decide, by decide⟩ hY F (fun _ _ a ns hl _ hS => ⟨a, ns, rfl, hS, hl, fun _ => rfl⟩) fun _ _ _ _ _ z => z
end Pf
open PySem PySem.W PyProof.Rows
set_option maxRecDepth 100000 in
set_option maxHeartbeats 0 in
theorem PySem.Challenge.cw_watchbeats_k02_ratio_order_holds : PySem.Challenge.rw_watchbeats_k02_ratio_order.Holds := by
  w_on; o_law; k_head; (case hw => w_witness2)
  k_fill
  refine Pf.walk (l := PySem.Challenge.rw_watchbeats_k02_ratio_order) rfl rfl (fun w h Y => PySem.W.kIn_of Y) ?F
  case F =>
    intro w mg fa h KX G hmg
    refine' Pf.all_mk KX G hmg ?g_WatchError ?g_ZeroUnder ?g_BadNumber ?g_Ratio ?a0 ?l0 ?dl0 ?c0 ?k0 ?a1 ?l1 ?c1 ?k1 ?a2 ?l2 ?c2 ?k2 ?a3 ?l3 ?c3 ?k3 ?a4 ?l4 ?c4 ?k4 ?a5 ?l5 ?c5 ?k5 ?a6 ?l6 ?c6 ?k6 ?a7 ?l7 ?c7 ?k7 ?a8 ?l8 ?c8 ?k8 ?a9 ?l9 ?c9 ?k9 ?a10 ?l10 ?c10 ?k10 ?a11 ?l11 ?c11 ?k11 ?a12 ?l12 ?c12 ?k12 ?a13 ?l13 ?c13 ?k13 ?a14 ?l14 ?c14 ?k14 ?a15 ?l15 ?c15 ?k15 ?a16 ?l16 ?c16 ?k16 ?a17 ?l17 ?c17 ?k17 ?a18 ?l18 ?c18 ?k18 ?a19 ?l19 ?c19 ?k19 ?a20 ?l20 ?c20 ?k20 ?a21 ?l21 ?c21 ?k21 ?a22 ?l22 ?c22 ?k22 ?a23 ?l23 ?c23 ?k23 ?a24 ?l24 ?c24 ?k24 ?a25 ?l25 ?c25 ?k25 ?a26 ?l26 ?c26 ?k26 ?a27 ?l27 ?c27 ?k27 ?a28 ?l28 ?c28 ?k28 ?a29 ?l29 ?c29 ?k29 ?a30 ?l30 ?c30 ?k30 ?a31 ?l31 ?c31 ?k31 ?a32 ?l32 ?c32 ?k32 ?a33 ?l33 ?c33 ?k33 ?z_abs ?z_len ?z_int ?z_bool ?z_str ?z_list ?z_tuple ?z_isinstance ?z_range ?z_ValueError ?gG ?hdR ?tyR ?meC_Ratio ?siR ?si_str ?si_NoneType ?si_list ?si_tuple ?exC_ZeroUnder ?hdC_ZeroUnder ?tyC_ZeroUnder ?meC_ZeroUnder ?xP_ZeroUnder ?kP_ZeroUnder ?ga_ZeroUnder ?gg_ZeroUnder ?ha_ZeroUnder ?hn_ ?ht_ ?hm_ZeroUnder ?exC_WatchError ?hdC_WatchError ?tyC_WatchError ?meC_WatchError ?sub_ZeroUnder_WatchError ?sub_Ratio_int ?sub_ZeroUnder_ValueError ?exC_BadNumber ?hdC_BadNumber ?tyC_BadNumber ?meC_BadNumber ?sub_ZeroUnder_BadNumber ?pg_Ratio ?hd_Ratio ?po_Ratio ?sa_Ratio ?mk_Ratio ?kc_Ratio ?if_0 ?na_Ratio_top ?na_Ratio_under ?sf_Ratio ?si_Ratio ?dn_Ratio_add ?dn_Ratio_mul ?dn_Ratio_sub ?dn_Ratio_floordiv ?dn_Ratio_mod ?rc_Ratio_add ?lo_Ratio_add ?ro_Ratio_add ?rc_Ratio_sub ?lo_Ratio_sub ?ro_Ratio_sub ?rc_Ratio_mul ?lo_Ratio_mul ?ro_Ratio_mul ?rc_Ratio_floordiv ?lo_Ratio_floordiv ?ro_Ratio_floordiv ?rc_Ratio_mod ?lo_Ratio_mod ?ro_Ratio_mod ?ci_Ratio ?meC_mro_Ratio ?ic_Ratio_floordiv ?io_floordiv ?ic_Ratio_mod ?io_mod ?nn_Ratio ?hm_Ratio ?ha_Ratio ?if_2 ?if_3 ?if_4 ?if_5 ?if_6 ?if_7 ?if_8 ?if_10 ?if_11 ?if_12 ?if_13 ?if_14 ?if_15 ?if_16 ?if_17 ?if_18
    (case g_WatchError => k_is)
    (case g_ZeroUnder => k_is)
    (case g_BadNumber => k_is)
    (case g_Ratio => k_is)
    (case a0 => k_is)
    (case l0 => k_is)
    (case dl0 => k_is)
    (case c0 => k_is)
    (case k0 => k_is)
    (case a1 => k_is)
    (case l1 => k_is)
    (case c1 => k_is)
    (case k1 => k_is)
    (case a2 => k_is)
    (case l2 => k_is)
    (case c2 => k_is)
    (case k2 => k_is)
    (case a3 => k_is)
    (case l3 => k_is)
    (case c3 => k_is)
    (case k3 => k_is)
    (case a4 => k_is)
    (case l4 => k_is)
    (case c4 => k_is)
    (case k4 => k_is)
    (case a5 => k_is)
    (case l5 => k_is)
    (case c5 => k_is)
    (case k5 => k_is)
    (case a6 => k_is)
    (case l6 => k_is)
    (case c6 => k_is)
    (case k6 => k_is)
    (case a7 => k_is)
    (case l7 => k_is)
    (case c7 => k_is)
    (case k7 => k_is)
    (case a8 => k_is)
    (case l8 => k_is)
    (case c8 => k_is)
    (case k8 => k_is)
    (case a9 => k_is)
    (case l9 => k_is)
    (case c9 => k_is)
    (case k9 => k_is)
    (case a10 => k_is)
    (case l10 => k_is)
    (case c10 => k_is)
    (case k10 => k_is)
    (case a11 => k_is)
    (case l11 => k_is)
    (case c11 => k_is)
    (case k11 => k_is)
    (case a12 => k_is)
    (case l12 => k_is)
    (case c12 => k_is)
    (case k12 => k_is)
    (case a13 => k_is)
    (case l13 => k_is)
    (case c13 => k_is)
    (case k13 => k_is)
    (case a14 => k_is)
    (case l14 => k_is)
    (case c14 => k_is)
    (case k14 => k_is)
    (case a15 => k_is)
    (case l15 => k_is)
    (case c15 => k_is)
    (case k15 => k_is)
    (case a16 => k_is)
    (case l16 => k_is)
    (case c16 => k_is)
    (case k16 => k_is)
    (case a17 => k_is)
    (case l17 => k_is)
    (case c17 => k_is)
    (case k17 => k_is)
    (case a18 => k_is)
    (case l18 => k_is)
    (case c18 => k_is)
    (case k18 => k_is)
    (case a19 => k_is)
    (case l19 => k_is)
    (case c19 => k_is)
    (case k19 => k_is)
    (case a20 => k_is)
    (case l20 => k_is)
    (case c20 => k_is)
    (case k20 => k_is)
    (case a21 => k_is)
    (case l21 => k_is)
    (case c21 => k_is)
    (case k21 => k_is)
    (case a22 => k_is)
    (case l22 => k_is)
    (case c22 => k_is)
    (case k22 => k_is)
    (case a23 => k_is)
    (case l23 => k_is)
    (case c23 => k_is)
    (case k23 => k_is)
    (case a24 => k_is)
    (case l24 => k_is)
    (case c24 => k_is)
    (case k24 => k_is)
    (case a25 => k_is)
    (case l25 => k_is)
    (case c25 => k_is)
    (case k25 => k_is)
    (case a26 => k_is)
    (case l26 => k_is)
    (case c26 => k_is)
    (case k26 => k_is)
    (case a27 => k_is)
    (case l27 => k_is)
    (case c27 => k_is)
    (case k27 => k_is)
    (case a28 => k_is)
    (case l28 => k_is)
    (case c28 => k_is)
    (case k28 => k_is)
    (case a29 => k_is)
    (case l29 => k_is)
    (case c29 => k_is)
    (case k29 => k_is)
    (case a30 => k_is)
    (case l30 => k_is)
    (case c30 => k_is)
    (case k30 => k_is)
    (case a31 => k_is)
    (case l31 => k_is)
    (case c31 => k_is)
    (case k31 => k_is)
    (case a32 => k_is)
    (case l32 => k_is)
    (case c32 => k_is)
    (case k32 => k_is)
    (case a33 => k_is)
    (case l33 => k_is)
    (case c33 => k_is)
    (case k33 => k_is)
    (case z_abs => k_is)
    (case z_len => k_is)
    (case z_int => k_is)
    (case z_bool => k_is)
    (case z_str => k_is)
    (case z_list => k_is)
    (case z_tuple => k_is)
    (case z_isinstance => k_is)
    (case z_range => k_is)
    (case z_ValueError => k_is)
    (case gG => k_is)
    (case hdR => k_is)
    (case tyR => k_is)
    (case meC_Ratio => first | rfl | k_is)
    (case siR => k_is)
    (case si_str => k_is)
    (case si_NoneType => k_is)
    (case si_list => k_is)
    (case si_tuple => k_is)
    (case exC_ZeroUnder => k_is)
    (case hdC_ZeroUnder => k_is)
    (case tyC_ZeroUnder => k_is)
    (case meC_ZeroUnder => first | rfl | k_is)
    (case xP_ZeroUnder => k_exc)
    (case kP_ZeroUnder => k_is)
    (case ga_ZeroUnder => k_is)
    (case gg_ZeroUnder => k_is)
    (case ha_ZeroUnder => k_is)
    (case hn_ => k_is)
    (case ht_ => k_is)
    (case hm_ZeroUnder => k_is)
    (case exC_WatchError => k_is)
    (case hdC_WatchError => k_is)
    (case tyC_WatchError => k_is)
    (case meC_WatchError => first | rfl | k_is)
    (case sub_ZeroUnder_WatchError => k_is)
    (case sub_Ratio_int => k_is)
    (case sub_ZeroUnder_ValueError => k_is)
    (case exC_BadNumber => k_is)
    (case hdC_BadNumber => k_is)
    (case tyC_BadNumber => k_is)
    (case meC_BadNumber => first | rfl | k_is)
    (case sub_ZeroUnder_BadNumber => k_is)
    (case pg_Ratio => k_is)
    (case hd_Ratio => k_is)
    (case po_Ratio => k_is)
    (case sa_Ratio => k_is)
    (case mk_Ratio => k_is)
    (case kc_Ratio => k_is)
    (case if_0 => k_is)
    (case na_Ratio_top => k_is)
    (case na_Ratio_under => k_is)
    (case sf_Ratio => k_is)
    (case si_Ratio => k_is)
    (case dn_Ratio_add => k_is)
    (case dn_Ratio_mul => k_is)
    (case dn_Ratio_sub => k_is)
    (case dn_Ratio_floordiv => k_is)
    (case dn_Ratio_mod => k_is)
    (case rc_Ratio_add => k_is)
    (case lo_Ratio_add => k_is)
    (case ro_Ratio_add => k_is)
    (case rc_Ratio_sub => k_is)
    (case lo_Ratio_sub => k_is)
    (case ro_Ratio_sub => k_is)
    (case rc_Ratio_mul => k_is)
    (case lo_Ratio_mul => k_is)
    (case ro_Ratio_mul => k_is)
    (case rc_Ratio_floordiv => k_is)
    (case lo_Ratio_floordiv => k_is)
    (case ro_Ratio_floordiv => k_is)
    (case rc_Ratio_mod => k_is)
    (case lo_Ratio_mod => k_is)
    (case ro_Ratio_mod => k_is)
    (case ci_Ratio => k_is)
    (case meC_mro_Ratio => first | rfl | k_is)
    (case ic_Ratio_floordiv => k_is)
    (case io_floordiv => k_is)
    (case ic_Ratio_mod => k_is)
    (case io_mod => k_is)
    (case nn_Ratio => k_is)
    (case hm_Ratio => k_is)
    (case ha_Ratio => k_is)
    (case if_2 => k_is)
    (case if_3 => k_is)
    (case if_4 => k_is)
    (case if_5 => k_is)
    (case if_6 => k_is)
    (case if_7 => k_is)
    (case if_8 => k_is)
    (case if_10 => k_is)
    (case if_11 => k_is)
    (case if_12 => k_is)
    (case if_13 => k_is)
    (case if_14 => k_is)
    (case if_15 => k_is)
    (case if_16 => k_is)
    (case if_17 => k_is)
    (case if_18 => k_is)
#print axioms PySem.Challenge.cw_watchbeats_k02_ratio_order_holds
