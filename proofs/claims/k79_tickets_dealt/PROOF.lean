import PyProof.Rows.All
import Wide.All
import OpenK.AllK
import Wide.FinOn
import HandS.ForMost
import HandS.Exc
import HandS.ExcInit
import HandS.ExcField
import HandS.ExcIs
import KE.KExcIs
import HandS.IsInst
import HandS.CallSlots
import HandS.WordsExc
import HandS.Style
import HandS.Evl
import HandS.Property
import HandS.ClsMeth
import HandS.Deep
import HandS.IterVal
import HandS.OwnIter
import HandS.Conv
import KE.KOwnIter
import HandS.SortInts
import KE.KOpsOwn
import HandS.OwnEq
import HandS.SlotsOwn
import KE.DataCmp
import KE.SortData
import HandS.Walk
import HandS.Defaults
import HandS.MakeKwOnly
import HandS.Gcd
import HandS.Wide
import KE.KCallOwn
import PyProof.InstNe
import PyProof.Conv_bool
import PyProof.SumAny
import KE.KMathG
import HandS.Iter
import HandS.WideBits
import PyProof.Rows.BitMore
import HandS.Zip
import KE.GoesEnum
import KE.GoesZip
import KE.GoesMore
import KE.OsArith
import HandS.List
import PySem.Challenge.RW_watchbeats_k79_tickets_dealt
set_option Elab.async false
set_option linter.all false
set_option maxRecDepth 100000
set_option maxHeartbeats 4000000
/-! tickets, def by def -/
namespace Pf
open PySem L2 Evl

def topS (i : Nat) : Stmt := PySem.Challenge.pw_watchbeats_k79_tickets_dealt.main.body.getD i (.Pass ⟨0, 0, 0, 0⟩)
abbrev s_BadNumber_init : Stmt := inClass (topS 5) 0
abbrev N_BadNumber_init : List Str := ["self", "name", "value"]
abbrev s_TooMany_init : Stmt := inClass (topS 6) 0
abbrev N_TooMany_init : List Str := ["self", "name", "most"]
abbrev s_Ratio_init : Stmt := inClass (topS 10) 1
abbrev N_Ratio_init : List Str := ["self", "top", "under", "shared"]
abbrev s_as_ratio : Stmt := topS 12
abbrev N_as_ratio : List Str := ["number"]
abbrev s_Ratio_add : Stmt := inClass (topS 10) 6
abbrev N_Ratio_add : List Str := ["self", "other", "second"]
abbrev s_Ratio_radd : Stmt := inClass (topS 10) 7
abbrev N_Ratio_radd : List Str := ["self", "other"]
abbrev s_u_lead : Stmt := topS 11
abbrev N_u_lead : List Str := ["ratio", "number", "second"]
abbrev s_Ratio_ge : Stmt := inClass (topS 10) 22
abbrev N_Ratio_ge : List Str := ["self", "other"]
abbrev s_Ratio_eq : Stmt := inClass (topS 10) 18
abbrev N_Ratio_eq : List Str := ["self", "other"]
abbrev s_over_one : Stmt := topS 13
abbrev N_over_one : List Str := ["numbers", "ratios", "number", "under", "ratio"]
abbrev s_are_shares : Stmt := topS 15
abbrev N_are_shares : List Str := ["numbers", "number"]
abbrev s_check_shares : Stmt := topS 16
abbrev N_check_shares : List Str := ["weights"]
abbrev s_Tickets_init : Stmt := inClass (topS 19) 0
abbrev N_Tickets_init : List Str := ["self", "weights", "total", "tops"]
abbrev s_Tickets_many : Stmt := inClass (topS 19) 1
abbrev N_Tickets_many : List Str := ["self", "index"]
abbrev s_Tickets_ticket : Stmt := inClass (topS 19) 2
abbrev N_Tickets_ticket : List Str := ["self", "number", "left", "index"]
abbrev s_u_law_cell : Stmt := topS 21
abbrev N_u_law_cell : List Str := ["script", "k"]
abbrev s_u_law_draws : Stmt := topS 22
abbrev N_u_law_draws : List Str := ["cell", "salt", "menu", "found", "rest", "mixed", "k"]
abbrev s_u_law_gcd : Stmt := topS 23
abbrev N_u_law_gcd : List Str := ["a", "b"]
abbrev s_u_law_is_int : Stmt := topS 24
abbrev N_u_law_is_int : List Str := ["x"]
abbrev s_u_law_same : Stmt := topS 25
abbrev N_u_law_same : List Str := ["got", "due", "k"]
abbrev s_u_law_weight : Stmt := topS 26
abbrev N_u_law_weight : List Str := ["top", "under", "at"]
abbrev s_u_law_drawn : Stmt := topS 27
abbrev N_u_law_drawn : List Str := ["script", "sizes", "many", "tops", "at", "top", "under", "kind"]
abbrev s_u_law_due : Stmt := topS 28
abbrev N_u_law_due : List Str := ["tops", "under", "top"]
abbrev s_u_law_told : Stmt := topS 29
abbrev N_u_law_told : List Str := ["weights", "told", "found", "e"]
abbrev s_u_law_classes : Stmt := topS 30
abbrev N_u_law_classes : List Str := ["weights", "found", "e"]
abbrev s_u_law_ticket : Stmt := topS 31
abbrev N_u_law_ticket : List Str := ["tickets", "number", "told"]
abbrev s_u_law_many : Stmt := topS 32
abbrev N_u_law_many : List Str := ["tickets", "index", "told"]
abbrev s_u_law_due_ticket : Stmt := topS 33
abbrev N_u_law_due_ticket : List Str := ["counts", "number", "k"]
abbrev s_u_law_numbers : Stmt := topS 34
abbrev N_u_law_numbers : List Str := ["counts", "drawn", "total", "number", "found", "start", "count"]
abbrev s_u_law_right : Stmt := topS 35
abbrev N_u_law_right : List Str := ["tickets", "other", "counts", "drawn", "total", "back", "k", "number"]
abbrev s_law : Stmt := topS 36
abbrev N_law : List Str := ["script", "tops", "under", "drawn", "weights", "k", "kept", "due", "told", "tickets", "words", "word", "divisor", "top", "counts", "other"]

theorem some_int {ns : List Int} {i : Nat} {y : V} (h : (ns.map V.int)[i]? = some y) : ∃ u, y = V.int u ∧ ns[i]? = some u := by
  rw [List.getElem?_map] at h
  cases e : ns[i]? with
  | none => rw [e] at h; cases h
  | some u => rw [e] at h; exact ⟨u, (Option.some.inj h).symm, rfl⟩
theorem wayT {c A B : Prop} [Decidable c] (h : c) (a : A) : if decide c = true then A else B := by rw [decide_eq_true h]; exact iteT a
theorem wayF {c A B : Prop} [Decidable c] (h : ¬ c) (b : B) : if decide c = true then A else B := by rw [decide_eq_false h]; exact iteF b
theorem way {c A B : Prop} [Decidable c] (a : c → A) (b : ¬ c → B) : if decide c = true then A else B := by
  by_cases h : c
  · exact wayT h (a h)
  · exact wayF h (b h)
theorem wayNT {c A B : Prop} [Decidable c] (h : c) (b : B) : if (!decide c) = true then A else B := by rw [decide_eq_true h]; exact iteF b
theorem wayNF {c A B : Prop} [Decidable c] (h : ¬ c) (a : A) : if (!decide c) = true then A else B := by rw [decide_eq_false h]; exact iteT a
theorem dec_ii {a b : Int} : decide (V.int a = V.int b) = decide (a = b) := by simp
theorem dec_bb {a b : Bool} : decide (V.bl a = V.bl b) = decide (a = b) := by simp
/-- the names of a comprehension's block within another scope -/
def relS (scope outer : Scope) : Scope := { scope with names := scope.names.map fun (n, k) => if (k == .free && outer.kind == .function && outer.names.lookup n == some .cell) then (n, .cell) else (n, k) }
/-- the ints that a comprehension over a range gives -/
def pick (n : Nat) (f : Nat → Bool) (g : Nat → Int) : List Int := ((List.range n).filter f).map g
theorem given_pick (n : Nat) (f : Nat → Bool) (g : Nat → Int) : given n f (fun i => V.int (g i)) = (pick n f g).map V.int := by
  unfold given pick
  rw [List.map_map]
  rfl
theorem pick_len (n : Nat) (f : Nat → Bool) (g : Nat → Int) : (pick n f g).length ≤ n := by
  unfold pick
  rw [List.length_map]
  have := List.length_filter_le f (List.range n)
  rwa [List.length_range] at this
theorem pick_congr {n : Nat} {f f' : Nat → Bool} {g : Nat → Int} (h : ∀ i, i < n → f i = f' i) : pick n f g = pick n f' g := by
  unfold pick
  rw [List.filter_congr fun i hi => h i (List.mem_range.mp hi)]
theorem el_rng2 {σ : L2.St} {H : Hp} {te : TE} {tt : TT} {ta : TA} {j : Nat} {vs : List Nat} {lo hi : Int} (f : Nat → Bool) (v : Nat → V) (h : EvA ta σ H [.int lo, .int hi]) (hn : 0 ≤ lo ∧ lo ≤ 40000 ∧ -40000 ≤ hi ∧ hi ≤ 40000)
    (hw : ∀ x, wipe ((wipe σ vs).set j (some x)) vs = wipe σ vs)
    (ht : ∀ (i : Nat) H1, Ex H H1 → lo + (i : Int) < hi → EvT tt ((wipe σ vs).set j (some (.int (lo + (i : Int))))) H1 (f i))
    (he : ∀ (i : Nat) H1, Ex H H1 → lo + (i : Int) < hi → f i = true → Ev te ((wipe σ vs).set j (some (.int (lo + (i : Int))))) H1 (v i)) :
    EvL (tLc (iRng2 ta) (gName j) tt te vs) σ H (given (hi - lo).toNat f v) := by
  intro H0 e Q q
  refine h H0 e _ fun H1 e1 => ⟨lo, hi, rfl, ⟨by omega, by omega, by omega, by omega⟩, fun D hD => ?_⟩
  exact lc_range (lo := lo) (n := (hi - lo).toNat) (Cw H1 f v D) ⟨hD, Ex.new hD, upd_same⟩
    (fun i H' hi' p => ⟨hw _, cw_turn p (by omega) (ht i H1 (e.trans e1) (by omega)) (fun hf => he i H1 (e.trans e1) (by omega) hf)⟩)
    (fun H' p => q D H' (fresh_back e1 p.1) (e1.trans p.2.1) p.2.2)
theorem given_list (xs : List Int) (p : Int → Bool) : given (xs.map V.int).length (fun i => p (xs.getD i 0)) (fun i => V.int (xs.getD i 0)) = (xs.filter p).map V.int := by
  rw [List.length_map]
  induction xs with
  | nil => rfl
  | cons x xs ih =>
    unfold given at ih ⊢
    rw [List.length_cons, List.range_succ_eq_map, List.filter_cons, List.filter_map]
    have e : ∀ (z : List Nat), (z.filter ((fun i => p ((x :: xs).getD i 0)) ∘ Nat.succ)) = z.filter fun i => p (xs.getD i 0) := fun z => List.filter_congr fun i _ => by simp
    rw [e]
    by_cases hp : p x = true
    · rw [if_pos (by simpa using hp), List.filter_cons, if_pos hp, List.map_cons, List.map_cons, ← ih, List.map_map]
      simp
    · rw [if_neg (by simpa using hp), List.filter_cons, if_neg hp, ← ih, List.map_map]
      simp
theorem el_lst1 {K : PySem.W.Frag} {σ : L2.St} {H : Hp} {te tl : TE} {tt : TT} {j : Nat} {vs : List Nat} {a : Addr} (xs : List Int) (p : Int → Bool) (h : Ev tl σ H (.ref a)) (hx : SqL K H a (xs.map V.int)) (hz : xs.length ≤ 40000)
    (hw : ∀ x, wipe ((wipe σ vs).set j (some x)) vs = wipe σ vs)
    (ht : ∀ (x : Int) H1, Ex H H1 → x ∈ xs → EvT tt ((wipe σ vs).set j (some (.int x))) H1 (p x))
    (he : ∀ (x : Int) H1, Ex H H1 → x ∈ xs → Ev te ((wipe σ vs).set j (some (.int x))) H1 (.int x)) :
    EvL (tLc (iList K tl) (gName j) tt te vs) σ H ((xs.filter p).map V.int) := by
  rw [← given_list]
  have get : ∀ (i : Nat) (x : V), (xs.map V.int)[i]? = some x → x = .int (xs.getD i 0) ∧ xs.getD i 0 ∈ xs := fun i x hi => by
    obtain ⟨u, e, hu⟩ := some_int hi
    rw [List.getD_eq_getElem?_getD, hu]
    exact ⟨e, List.mem_of_getElem? hu⟩
  refine el_lcL _ _ h hx (by rw [List.length_map]; exact hz) hw (fun i x H1 e1 hi => ?_) (fun i x H1 e1 hi _ => ?_)
  · obtain ⟨rfl, hm⟩ := get i x hi
    exact ht _ H1 e1 hm
  · obtain ⟨rfl, hm⟩ := get i x hi
    exact he _ H1 e1 hm
theorem given_gen {α : Type} (d : α) (ps : List α) (p : α → Bool) (v : α → V) : given ps.length (fun i => p (ps.getD i d)) (fun i => v (ps.getD i d)) = (ps.filter p).map v := by
  induction ps with
  | nil => rfl
  | cons x xs ih =>
    unfold given at ih ⊢
    rw [List.length_cons, List.range_succ_eq_map, List.filter_cons, List.filter_map]
    have e : ∀ (z : List Nat), (z.filter ((fun i => p ((x :: xs).getD i d)) ∘ Nat.succ)) = z.filter fun i => p (xs.getD i d) := fun z => List.filter_congr fun i _ => by simp
    rw [e]
    by_cases hp : p x = true
    · rw [if_pos (by simpa using hp), List.filter_cons, if_pos hp, List.map_cons, List.map_cons, ← ih, List.map_map]
      simp
    · rw [if_neg (by simpa using hp), List.filter_cons, if_neg hp, ← ih, List.map_map]
      simp
/-- a comprehension over a list whose items stand for the things of ps, the target of any form -/
theorem el_lstG {α : Type} (d : α) {K : PySem.W.Frag} {σ : L2.St} {H : Hp} {te tl : TE} {tt : TT} {g : TG} {vs : List Nat} {a : Addr} (xs : List V) (ps : List α) (p : α → Bool) (v : α → V) (τ : α → L2.St)
    (h : Ev tl σ H (.ref a)) (hx : SqL K H a xs) (hl : xs.length = ps.length) (hz : ps.length ≤ 40000)
    (hg : ∀ (i : Nat) x y H1 (k : L2.St → Hp → Prop), Ex H H1 → xs[i]? = some x → ps[i]? = some y → k (τ y) H1 → g x (wipe σ vs) H1 k)
    (hw : ∀ y, wipe (τ y) vs = wipe σ vs) (ht : ∀ y H1, Ex H H1 → y ∈ ps → EvT tt (τ y) H1 (p y)) (he : ∀ y H1, Ex H H1 → y ∈ ps → p y = true → Ev te (τ y) H1 (v y)) :
    EvL (tLc (iList K tl) g tt te vs) σ H ((ps.filter p).map v) := by
  rw [← given_gen d ps p v]
  intro H0 e0 Q q
  refine h H0 e0 _ fun H1 e1 => ⟨a, rfl, ⟨xs, ex_l (e0.trans e1) hx⟩, fun D hD => ?_⟩
  refine lc_list (xs := xs) (Cw H1 (fun i => p (ps.getD i d)) (fun i => v (ps.getD i d)) D) ⟨hD, Ex.new hD, upd_same⟩ (fun i H' _ c => ex_l ((e0.trans e1).trans c.2.1) hx) (fun i x H' hi c => ?_)
    (fun H' c => by rw [hl] at c; exact q D H' (fresh_back e1 c.1) (e1.trans c.2.1) c.2.2)
  have hil : i < ps.length := by
    have := (List.getElem?_eq_some_iff.mp hi).1
    omega
  have hy : ps[i]? = some (ps.getD i d) := by rw [List.getD_eq_getElem?_getD, List.getElem?_eq_getElem hil]; rfl
  refine hg i x _ H' _ ((e0.trans e1).trans c.2.1) hi hy ⟨hw _, ?_⟩
  exact cw_turn c (by omega) (ht _ H1 (e0.trans e1) (List.mem_of_getElem? hy)) (fun hf => he _ H1 (e0.trans e1) (List.mem_of_getElem? hy) hf)
/-- an if without else, then what follows where M holds -/
theorem q_alt {b : Bool} {t : TT} {tu tz : TS} {D : Ends} {σ : L2.St} {H : Hp} (M : L2.St → Hp → Prop) (h : EvT t σ H b) (h1 : b = true → ∀ H1, Ex H H1 → ∀ W : L2.St → Hp → Prop, (∀ σ' H', M σ' H' → W σ' H') → tu { D with nx := W } σ H1)
    (h2 : b = false → ∀ H1, Ex H H1 → M σ H1) (k : ∀ σ' H', M σ' H' → tz D σ' H') : tSeq (tIfS t tu tNext) tz D σ H :=
  q_when h (fun hb H1 e1 => h1 hb H1 e1 _ k) (fun hb H1 e1 => k _ _ (h2 hb H1 e1))
theorem q_two {b : Bool} {t : TT} {tu tw tz : TS} {D : Ends} {σ : L2.St} {H : Hp} (M : L2.St → Hp → Prop) (h : EvT t σ H b) (h1 : b = true → ∀ H1, Ex H H1 → ∀ W : L2.St → Hp → Prop, (∀ σ' H', M σ' H' → W σ' H') → tu { D with nx := W } σ H1)
    (h2 : b = false → ∀ H1, Ex H H1 → ∀ W : L2.St → Hp → Prop, (∀ σ' H', M σ' H' → W σ' H') → tw { D with nx := W } σ H1) (k : ∀ σ' H', M σ' H' → tz D σ' H') : tSeq (tIfS t tu tw) tz D σ H :=
  q_if h (fun hb H1 e1 => h1 hb H1 e1 _ k) (fun hb H1 e1 => h2 hb H1 e1 _ k)
/-- .. over a list that was just made -/
theorem el_lstN {α : Type} (d : α) {K : PySem.W.Frag} {σ : L2.St} {H : Hp} {te tl : TE} {tt : TT} {g : TG} {vs : List Nat} (xs : List V) (ps : List α) (p : α → Bool) (v : α → V) (τ : α → L2.St)
    (h : EvL tl σ H xs) (hl : xs.length = ps.length) (hz : ps.length ≤ 40000) (hg : ∀ (i : Nat) x y H1 (k : L2.St → Hp → Prop), Ex H H1 → xs[i]? = some x → ps[i]? = some y → k (τ y) H1 → g x (wipe σ vs) H1 k)
    (hw : ∀ y, wipe (τ y) vs = wipe σ vs) (ht : ∀ y H1, Ex H H1 → y ∈ ps → EvT tt (τ y) H1 (p y)) (he : ∀ y H1, Ex H H1 → y ∈ ps → p y = true → Ev te (τ y) H1 (v y)) :
    EvL (tLc (iList K tl) g tt te vs) σ H ((ps.filter p).map v) := by
  intro H0 e0 Q q
  refine h H0 e0 _ fun a H1 ha e1 h1 => ?_
  refine el_lstG (K := K) (te := te) (tl := tC (.ref a)) (tt := tt) (g := g) (vs := vs) (σ := σ) (H := H1) d xs ps p v τ ev_c (sq_of h1) hl hz (fun i x y H2 k e2 => hg i x y H2 k ((e0.trans e1).trans e2)) hw (fun y H2 e2 => ht y H2 ((e0.trans e1).trans e2)) (fun y H2 e2 => he y H2 ((e0.trans e1).trans e2)) H1 (Ex.refl _) Q fun b H2 hb e2 h2 => q b H2 (fresh_back e1 hb) (e1.trans e2) h2
theorem pick_succ {n : Nat} {f : Nat → Bool} {g : Nat → Int} : pick (n + 1) f g = pick n f g ++ (if f n = true then [g n] else []) := by
  unfold pick
  rw [List.range_succ, List.filter_append, List.map_append, List.filter_cons]
  by_cases h : f n = true
  · rw [if_pos h, if_pos h]; rfl
  · rw [if_neg h, if_neg h]; rfl
theorem ev_gcd {σ : L2.St} {H : Hp} {ta : TA} {a b : Int} (h : EvA ta σ H [.int a, .int b]) : Ev (tCB rGcd ta) σ H (.int ((Nat.gcd a.natAbs b.natAbs : Nat) : Int)) :=
  ev_cb h fun H1 _ _ q => ⟨a, b, rfl, q H1 (Ex.refl H1)⟩
/-! ### rules whose reading says K by its own letter (within a comprehension's block too) -/
theorem ix_lK {X : Cx} {K : PySem.W.Frag} (h : X.K = K := by rfl) : IxR X (rIxL K) := by subst h; exact ix_list
theorem ix_tK {X : Cx} {K : PySem.W.Frag} (h : X.K = K := by rfl) : IxR X (rIxT K) := by subst h; exact ix_tup
theorem ix_sK {X : Cx} {K : PySem.W.Frag} (h : X.K = K := by rfl) : IxR X (rIx K) := by subst h; exact ix_seq
def rLenK (K : PySem.W.Frag) : List V → Hp → VK → Prop := fun xs H Q => ∃ x n, xs = [x] ∧ LenV K x H n ∧ Q (.int (n : Nat)) H
theorem len_K {X : Cx} {K : PySem.W.Frag} (h : X.K = K := by rfl) : CallR X (.builtin "len") (rLenK K) := by subst h; exact call_len
def rListK (K : PySem.W.Frag) : List V → Hp → VK → Prop := fun zs H Q => ∃ p ys, zs = [.ref p] ∧ (SqL K H p ys ∨ SqT K H p ys) ∧
  ∀ l, H l = none → Q (.ref l) (upd H l (.lst ys))
theorem list_K {X : Cx} {K : PySem.W.Frag} (h : X.K = K := by rfl) : CallR X (.type "list") (rListK K) := by subst h; exact call_list_of
theorem in_K {X : Cx} {K : PySem.W.Frag} (h : X.K = K := by rfl) : OpR X (compareOp .In) (rIn K false) := by subst h; exact op_in_seq
theorem notin_K {X : Cx} {K : PySem.W.Frag} (h : X.K = K := by rfl) : OpR X (compareOp .NotIn) (rIn K true) := by subst h; exact op_notIn_seq
theorem pg_tupK {X : Cx} {K : PySem.W.Frag} {pos : Pos} {es : List Expr} {k : Nat} {t : TGs} {n : Nat} (hk : X.K = K) (hc : X.calm = true) (h : PGs X es t)
    (hn : (assignEach es X.env).length = n := by rfl) (hst : (assignEach es X.env).findIdx? (·.1) = none := by rfl) : PG X (.Tuple es k pos) (gTup K n t) := by subst hk; exact pg_tup hc h hn hst
theorem pe_fldK {X : Cx} {K : PySem.W.Frag} {e : Expr} {f : Str} {pos : Pos} {ta : TE} (he : PE X e ta) (hb : attributeBase e f X.env (eval e X.env) = eval e X.env) (hk : X.K = K := by rfl) : PE X (.Attribute e f pos) (tFld K ta f) := by subst hk; exact pe_fld he hb
theorem eqD_K {X : Cx} {K : PySem.W.Frag} (hu : X.A.units + 64 < cLine) (hk : X.K = K := by rfl) : OpR X (compareOp .Eq) (rEqD K) := by subst hk; exact op_eqD hu
theorem neD_K {X : Cx} {K : PySem.W.Frag} (hu : X.A.units + 64 < cLine) (hk : X.K = K := by rfl) : OpR X (compareOp .NotEq) (rNeD K) := by subst hk; exact op_neD hu
theorem isi_K {X : Cx} {K : PySem.W.Frag} (h : X.K = K := by rfl) : CallR X (.builtin "isinstance") (rIsi K) := by subst h; exact call_isi
/-! ### data -/
/-- data of a depth below n, of lists and tuples that are not too long -/
def Flat : Nat → PyData → Prop
  | 0, _ => False
  | n + 1, .list ds => ds.length ≤ 40000 ∧ ∀ d ∈ ds, Flat n d
  | n + 1, .tuple ds => ds.length ≤ 40000 ∧ ∀ d ∈ ds, Flat n d
  | _ + 1, .dict _ => False
  | _ + 1, _ => True
theorem dp_get {K : PySem.W.Frag} {H : Hp} : ∀ {xs : List V} {ds : List PyData}, DpAll K H xs ds → xs.length = ds.length ∧ ∀ (i : Nat) (d : PyData), ds[i]? = some d → ∃ x, xs[i]? = some x ∧ Dp K H x d
  | _, _, .nil => ⟨rfl, fun i d h => by simp at h⟩
  | _, _, .cons a r => by
    obtain ⟨l, g⟩ := dp_get r
    refine ⟨by simp [l], fun i d h => ?_⟩
    cases i with
    | zero => exact ⟨_, rfl, by simp at h; subst h; exact a⟩
    | succ i => simpa using g i d (by simpa using h)
theorem flatI {ns : List Int} (h : ns.length ≤ 360) : Flat 4 (.list (ns.map .int)) :=
  ⟨by rw [List.length_map]; omega, fun d hd => by
    obtain ⟨i, _, rfl⟩ := List.mem_map.mp hd
    exact True.intro⟩
theorem dp_ints {K : PySem.W.Frag} {H : Hp} : ∀ ns : List Int, DpAll K H (ns.map V.int) (ns.map PyData.int)
  | [] => .nil
  | n :: ns => .cons (.int n) (dp_ints ns)
mutual
theorem dp_ex {K : PySem.W.Frag} {H H' : Hp} (e : Ex H H') : ∀ {v : V} {d : PyData}, Dp K H v d → Dp K H' v d
  | _, _, .non => .non
  | _, _, .bl b => .bl b
  | _, _, .int i => .int i
  | _, _, .str x => .str x
  | _, _, .lst s a => .lst (ex_l e s) (dpa_ex e a)
  | _, _, .tup s a => .tup (ex_t e s) (dpa_ex e a)
theorem dpa_ex {K : PySem.W.Frag} {H H' : Hp} (e : Ex H H') : ∀ {vs : List V} {ds : List PyData}, DpAll K H vs ds → DpAll K H' vs ds
  | _, _, .nil => .nil
  | _, _, .cons a r => .cons (dp_ex e a) (dpa_ex e r)
end
theorem tyx_l {K : PySem.W.Frag} {H : Hp} {a : Addr} {xs : List V} (h : SqL K H a xs) : TyX K H (.ref a) (.type "list") := by
  rcases h with (h | ⟨o, h⟩) | ⟨o, its, n, h, c, _⟩
  · exact .base (.lst h)
  · exact .base (.frz h)
  · exact .kList h c
theorem tyx_t {K : PySem.W.Frag} {H : Hp} {a : Addr} {xs : List V} (h : SqT K H a xs) : TyX K H (.ref a) (.type "tuple") := by
  rcases h with (h | ⟨o, h⟩) | ⟨o, its, n, h, c, _⟩
  · exact .base (.tup h)
  · exact .fTuple h
  · exact .kTuple h c
/-- x is True, x is False, whatever x is -/
def rIsK : R2 := fun x y H Q => ∃ b : Bool, y = .bl b ∧ Q (.bl (decide (x = .bl b))) H
theorem op_isK {X : Cx} : OpR X (compareOp .Is) rIsK := by
  intro pins s σ H x y v u Q I rx ry h
  obtain ⟨b, hy, q⟩ := h
  subst hy
  cases (show u = Value.bool b from ry)
  have fin : ∀ k : Bool, k = decide (x = V.bl b) → EP X pins σ Q (.bool k) s := fun k e => ⟨.bl k, H, I, rfl, by rw [e]; exact q⟩
  cases x with
  | non => cases (show v = Value.none from rx); exact wpAny_is_other rfl (fun z => by cases z) (fin _ (by simp))
  | bl a =>
    cases (show v = Value.bool a from rx)
    by_cases e : a = b
    · subst e; exact wpAny_is_self rfl (fin _ (by simp))
    · exact wpAny_is_other rfl (fun z => e (Value.bool.inj z)) (fin _ (by simp [e]))
  | int i => obtain ⟨t, ev⟩ := rx; subst ev; exact wpAny_is_other rfl (fun z => by cases z) (fin _ (by simp))
  | str i => obtain ⟨t, ev⟩ := rx; subst ev; exact wpAny_is_other rfl (fun z => by cases z) (fin _ (by simp))
  | byt i => obtain ⟨t, ev⟩ := rx; subst ev; exact wpAny_is_other rfl (fun z => by cases z) (fin _ (by simp))
  | flt i => obtain ⟨t, ev⟩ := rx; subst ev; exact wpAny_is_other rfl (fun z => by cases z) (fin _ (by simp))
  | ref a => cases (show v = Value.ref a from rx); exact wpAny_is_other rfl (fun z => by cases z) (fin _ (by simp))
  | ty n => cases (show v = Value.type n from rx); exact wpAny_is_other rfl (fun z => by cases z) (fin _ (by simp))
theorem atI_ints {ns : List Int} {i : Int} (h0 : 0 ≤ i) (h1 : i < (ns.length : Int)) : atI (ns.map V.int) i = some (.int (ns.getD i.toNat 0)) := by
  obtain ⟨j, rfl⟩ : ∃ j : Nat, i = (j : Int) := ⟨i.toNat, by omega⟩
  refine atI_nat ?_
  have hj : j < ns.length := by omega
  rw [List.getElem?_map, Int.toNat_natCast, List.getD_eq_getElem?_getD, List.getElem?_eq_getElem hj]
  rfl
/-! ### a caught error with fields -/
def rIsX (K : PySem.W.Frag) (D a : Addr) (cls : Value) (d : Option Addr) : List V → Hp → VK → Prop := fun xs H Q => cls = .ref D ∧ ∃ (dd : Addr) (fs : List (Str × V)) (c : V) (cv : Value) (b : Bool),
  d = some dd ∧ H dd = some (.xd fs) ∧ xs = [.ref a, c] ∧ (∀ u, RelV c u → u = cv) ∧ PySem.W.kitOne K (.ref D) cv = some b ∧ Q (.bl b) H
theorem call_isX {X : Cx} {a D : Addr} {oe : Obj} {cls : Value} {d : Option Addr} {pn : List (Addr × Obj)} (C : ExcC X.K D) (hz : Zc cls d oe) (hf : ∃ vs, oe.data = .fields vs) : CallR (X.suite a ((a, oe) :: pn)) (.builtin "isinstance") (rIsX X.K D a cls d) := by
  intro pins sh σ H zs us Q I rr hq
  obtain ⟨ec, dd, fs, c, cv, b, ed, hx, ez, hcv, hk, q⟩ := hq
  subst ez
  obtain ⟨u1, u2, eu, r1, r2⟩ := vals2 rr
  subst eu
  cases (show u1 = Value.ref a from r1)
  have e2 := hcv _ r2
  subst e2
  obtain ⟨hget, _⟩ := I.pin (a, oe) (List.mem_append.mpr (.inl List.mem_cons_self))
  obtain ⟨vs, hv⟩ := hf
  have ho : ObjOk X.prog X.w H sh.heap dd (.xd fs) := I.hok dd _ hx
  obtain ⟨mA, hns, _⟩ := ho
  obtain ⟨od, hod, _⟩ := lookIn_ns hns
  obtain ⟨cd, hcd, _⟩ := PySem.W.any_some C.hd
  have hcl : (PySem.W.clsIn X.K D).isSome = true := by rw [hcd]; rfl
  have J : PySem.W.InstAt sh.heap a oe D (some od) := ⟨hget, hz.1.trans ec, by unfold PySem.W.notCls; rw [hv], by rw [hz.2, ed]; exact hod⟩
  exact PySem.W.kia_one (PySem.W.kitx_exc hcl C.hg C.hk C.hs C.ha C.hn C.ht C.hm) I.kIn J hk (fun z => nomatch z) fun tk => ⟨.bl b, H, I.tok tk, rfl, q⟩
def rIsN (K : PySem.W.Frag) (D a : Addr) (cls : Value) (d : Option Addr) : List V → Hp → VK → Prop := fun xs H Q => cls = .ref D ∧ d = none ∧ rIsE K D a xs H Q
theorem call_isN {X : Cx} {a D : Addr} {oe : Obj} {cls : Value} {d : Option Addr} {pn : List (Addr × Obj)} (C : ExcC X.K D) (hz : Zc cls d oe) (hf : ∃ vs, oe.data = .fields vs) : CallR (X.suite a ((a, oe) :: pn)) (.builtin "isinstance") (rIsN X.K D a cls d) := by
  intro pins s σ H xs us Q I r h
  obtain ⟨e1, e2, h⟩ := h
  subst e1 e2
  exact call_isE C hz hf pins s σ H xs us Q I r h
/-- X(), X an error class without __init__ -/
theorem pmk_none {X : Cx} {C : Addr} {bmB : List Value} {B newId initId : String} {x : Str} {p pos : Pos} (F : PySem.ExcBaseFacts B newId initId bmB) (q : PySem.W.excIn X.K C bmB newId = true) (gC : X.mg x = some (.ref C)) (kC : PySem.W.keepIn X.K (.ref C) = true)
    (r : Raises X (.ref C)) (hg : Gl X x) (hdb : (x == ("__debug__" : Str)) = false := by decide) : PMk X (.Call (.Name x p) [] [] pos) (fun _ H Q => Q (.ref C) none H) := by
  intro pins s σ H Q I h
  refine wpAny_Call_Name_kw (ld_glob I hg gC ?_ hdb)
  refine PySem.W.callWith_K0 I.kIn kC ?_
  obtain ⟨bm, N, nm, qn, bs, hdct, sn, sub, ab, col, dd, k0, k1, k2, k3, k5, mN, hC, hN, hni, T⟩ := exc_obj I.kIn q
  refine wpAny_call_exc_subT F T hC hN hni (fun h' e hm => ?_) (Nat.zero_le _)
  exact mk_of I hm r h (I.hok.gone hm.new)
/-- a list drawn by a menu -/
def Drawn (ms ds : List Int) : Prop := ds.length = ms.length ∧ ∀ (i : Nat) (m : Int), ms[i]? = some m → ∃ d : Int, ds[i]? = some d ∧ 0 ≤ d ∧ d < m
theorem kitCls_own {K : PySem.W.Frag} {t : Value} {C : Addr} (hd : PySem.W.hasDictIn K C = true) (ty : PySem.W.typeIn K (.ref C) = some (.type "type")) : PySem.W.kitCls K t (.ref C) = PySem.W.subIn K t (.ref C) := by
  obtain ⟨cd, hc, _⟩ := PySem.W.any_some hd
  unfold PySem.W.kitCls
  simp [hc, ty]
theorem kit_self {K : PySem.W.Frag} {t : Value} : PySem.W.kitOne K t t = some true := by
  unfold PySem.W.kitOne
  rw [if_pos (beq_self_eq_true t)]
theorem kit_yes {K : PySem.W.Frag} {t : Value} {C : Addr} (hd : PySem.W.hasDictIn K C = true) (ty : PySem.W.typeIn K (.ref C) = some (.type "type")) (s : PySem.W.subIn K t (.ref C) = some true) : PySem.W.kitOne K t (.ref C) = some true := by
  unfold PySem.W.kitOne
  split
  · rfl
  · rw [kitCls_own hd ty]; exact s
theorem kit_no {K : PySem.W.Frag} {t : Value} {C : Addr} (hd : PySem.W.hasDictIn K C = true) (ty : PySem.W.typeIn K (.ref C) = some (.type "type")) (me : PySem.W.subIn K (.ref C) (.ref C) = some true) (s : PySem.W.subIn K t (.ref C) = some false) : PySem.W.kitOne K t (.ref C) = some false := by
  unfold PySem.W.kitOne
  split
  · rename_i e
    rw [beq_iff_eq] at e
    rw [e, me] at s
    cases s
  · rw [kitCls_own hd ty]; exact s
theorem kit_bi {K : PySem.W.Frag} {C : Addr} {n : String} {b : Bool} (hm : PySem.W.kitMeta n = true) (s : PySem.W.subIn K (.ref C) (.type n) = some b) : PySem.W.kitOne K (.ref C) (.type n) = some b := by
  unfold PySem.W.kitOne PySem.W.kitCls
  rw [if_neg (by simp)]
  show (if PySem.W.kitMeta n = true then PySem.W.subIn K (.ref C) (.type n) else none) = some b
  rw [if_pos hm]
  exact s
theorem drawn4 {a b c d : Int} {ds : List Int} (h : Drawn [a, b, c, d] ds) : ∃ w x y z, ds = [w, x, y, z] ∧ (0 ≤ w ∧ w < a) ∧ (0 ≤ x ∧ x < b) ∧ (0 ≤ y ∧ y < c) ∧ (0 ≤ z ∧ z < d) := by
  obtain ⟨hl, g⟩ := h
  match ds, hl with
  | [w, x, y, z], _ =>
    obtain ⟨w', e0, h0⟩ := g 0 a rfl
    obtain ⟨x', e1, h1⟩ := g 1 b rfl
    obtain ⟨y', e2, h2⟩ := g 2 c rfl
    obtain ⟨z', e3, h3⟩ := g 3 d rfl
    cases e0; cases e1; cases e2; cases e3
    exact ⟨_, _, _, _, rfl, h0, h1, h2, h3⟩
/-! ### own errors with one field and with two -/
def spErr1 (K : PySem.W.Frag) (C : Addr) (f : Str) : Sp := fun vs H Q _ => ∃ (a : Addr) (x : V), vs = [.ref a, x] ∧ OexC K C ∧ H a = some (exo a C none) ∧ ∀ d, H d = none → d ≠ a → Q .non (upd (upd H d (exd d [(f, x)])) a (exo a C (some d)))
def spErr2 (K : PySem.W.Frag) (C : Addr) (f g : Str) : Sp := fun vs H Q _ => ∃ (a : Addr) (x y : V), vs = [.ref a, x, y] ∧ OexC K C ∧ H a = some (exo a C none) ∧
  ∀ d, H d = none → d ≠ a → Q .non (upd (upd (upd H d (exd d [(f, x)])) a (exo a C (some d))) d (exd d [(g, y), (f, x)]))
theorem raise1 {K : PySem.W.Frag} {C : Addr} {f : Str} {H : Hp} {E : XK} {σ : L2.St} {ta : TA} {x : V} (hC : OexC K C) (hta : ∀ Q : List V → Hp → Prop, Q [x] H → ta σ H Q)
    (k : ∀ d H', Ex H H' → H' d = some (.xd [(f, x)]) → E (.ref C) (some d) H') : tMkO C (spErr1 K C f) [] ta σ H E := by
  refine hta _ ⟨by show (1 : Nat) ≤ 1000; decide, fun a ha => ⟨a, x, rfl, hC, upd_same, fun d hd hne => ?_⟩⟩
  have hd' : H d = none := by rw [upd_ne hne] at hd; exact hd
  have han : a ≠ d := fun e => hne e.symm
  refine ⟨rfl, d, _, upd_same, ?_, hd', k d _ (fun b o hb => ?_) upd_same⟩
  · rw [upd_ne hne, upd_same]
  · have h1 : b ≠ a := ne_of_none hb ha
    have h2 : b ≠ d := ne_of_none hb hd'
    rw [upd_ne h2, del_ne h1, upd_ne h1, upd_ne h2, upd_ne h1]
    exact hb
theorem raise2 {K : PySem.W.Frag} {C : Addr} {f g : Str} {H : Hp} {E : XK} {σ : L2.St} {ta : TA} {x y : V} (hC : OexC K C) (hta : ∀ Q : List V → Hp → Prop, Q [x, y] H → ta σ H Q)
    (k : ∀ d H', Ex H H' → H' d = some (.xd [(g, y), (f, x)]) → E (.ref C) (some d) H') : tMkO C (spErr2 K C f g) [] ta σ H E := by
  refine hta _ ⟨by show (2 : Nat) ≤ 1000; decide, fun a ha => ⟨a, x, y, rfl, hC, upd_same, fun d hd hne => ?_⟩⟩
  have hd' : H d = none := by rw [upd_ne hne] at hd; exact hd
  have han : a ≠ d := fun e => hne e.symm
  refine ⟨rfl, d, _, ?_, upd_same, hd', k d _ (fun b o hb => ?_) upd_same⟩
  · rw [upd_ne han, upd_same]
  · have h1 : b ≠ a := ne_of_none hb ha
    have h2 : b ≠ d := ne_of_none hb hd'
    rw [upd_ne h2, del_ne h1, upd_ne h2, upd_ne h1, upd_ne h2, upd_ne h1]
    exact hb
/-- what a cell of the script is worth -/
def cellA (ns : List Int) (k : Nat) : Int := if k < ns.length then (if ns.getD k 0 < 0 then - ns.getD k 0 else ns.getD k 0) else 0
theorem cellA_nn (ns : List Int) (k : Nat) : 0 ≤ cellA ns k := by
  unfold cellA
  split
  · split <;> omega
  · omega
/-! ### evaluation with a property; loops over what a call gives -/
def EvR (te : TE) (σ : L2.St) (H : Hp) (P : V → Hp → Prop) : Prop := ∀ H1, Ex H H1 → ∀ Q : VK, (∀ v H2, Ex H1 H2 → P v H2 → Q v H2) → te σ H1 Q
theorem er_ev {te : TE} {σ : L2.St} {H : Hp} {v : V} {P : V → Hp → Prop} (h : Ev te σ H v) (hp : ∀ H1, Ex H H1 → P v H1) : EvR te σ H P := fun H1 e Q q => h H1 e Q fun H2 e2 => q v H2 e2 (hp H2 (e.trans e2))
theorem EvR.mono {te : TE} {σ : L2.St} {H H' : Hp} {P : V → Hp → Prop} (e : Ex H H') (h : EvR te σ H P) : EvR te σ H' P := fun H1 a Q q => h H1 (e.trans a) Q q
theorem EvR.imp {te : TE} {σ : L2.St} {H : Hp} {P P' : V → Hp → Prop} (h : EvR te σ H P) (i : ∀ v H1, P v H1 → P' v H1) : EvR te σ H P' := fun H1 a Q q => h H1 a Q fun v H2 e p => q v H2 e (i v H2 p)
theorem er_L {te : TE} {σ : L2.St} {H : Hp} {xs : List V} (h : EvL te σ H xs) : EvR te σ H fun v H1 => ∃ p, v = .ref p ∧ H1 p = some (.lst xs) := fun H1 e Q q => h H1 e Q fun p H2 _ e2 hp => q _ H2 e2 ⟨p, rfl, hp⟩
theorem s_asgR {te : TE} {D : Ends} {σ : L2.St} {H : Hp} {i : Nat} {P : V → Hp → Prop} (h : EvR te σ H P) (k : ∀ v H1, Ex H H1 → P v H1 → D.nx (σ.set i (some v)) H1) : tAsg te (gName i) D σ H := h H (Ex.refl H) _ fun v H1 e p => k v H1 e p
theorem q_asgR {te : TE} {tz : TS} {D : Ends} {σ : L2.St} {H : Hp} {i : Nat} {P : V → Hp → Prop} (h : EvR te σ H P) (k : ∀ v H1, Ex H H1 → P v H1 → tz D (σ.set i (some v)) H1) : tSeq (tAsg te (gName i)) tz D σ H := s_asgR (D := { D with nx := tz D }) h k
theorem s_retR {te : TE} {D : Ends} {σ : L2.St} {H : Hp} {P : V → Hp → Prop} (h : EvR te σ H P) (k : ∀ v H1, Ex H H1 → P v H1 → D.rt v H1) : tRet te D σ H := h H (Ex.refl H) _ fun v H1 e p => k v H1 e p
theorem for_via {K : PySem.W.Frag} {tl : TE} {g : TG} {tu : TS} {D : Ends} {σ : L2.St} {H : Hp} {P : V → Hp → Prop} (h : EvR tl σ H P) (k : ∀ v H1, Ex H H1 → P v H1 → tFor (iList K (tC v)) g tu D σ H1) : tFor (iList K tl) g tu D σ H :=
  h H (Ex.refl H) _ fun v H1 e p => k v H1 e p
theorem q_forVia {K : PySem.W.Frag} {tl : TE} {g : TG} {tu tz : TS} {D : Ends} {σ : L2.St} {H : Hp} {P : V → Hp → Prop} (h : EvR tl σ H P) (k : ∀ v H1, Ex H H1 → P v H1 → tSeq (tFor (iList K (tC v)) g tu) tz D σ H1) : tSeq (tFor (iList K tl) g tu) tz D σ H :=
  h H (Ex.refl H) _ fun v H1 e p => k v H1 e p
theorem ev_int {σ : L2.St} {H : Hp} {te : TE} {z : Int} (h : Ev te σ H (.int z)) : Ev (tCB (fun xs H Q => (∃ i, xs = [V.int i] ∧ Q (V.int i) H) ∨ ∃ k, xs = [V.bl k] ∧ Q (V.int (if k = true then 1 else 0)) H) (tCons te tNil)) σ H (.int z) :=
  ev_cb (ea_cons h ea_nil) fun H1 _ _ q => .inl ⟨_, rfl, q H1 (Ex.refl H1)⟩
theorem el_rep {σ : L2.St} {H : Hp} {te tn : TE} {z k : Int} (h : Ev te σ H (.int z)) (hn : Ev tn σ H (.int k)) (hk : 0 ≤ k ∧ k ≤ 100000) : EvL (tOp rRep (tLst (tCons te tNil)) tn) σ H ((List.replicate k.toNat z).map V.int) := fun H1 e Q q =>
  el_lst (ea_cons h ea_nil) (by show 1 ≤ 100000; decide) H1 e _ fun p H2 hp e2 h2 => hn H2 (e.trans e2) _ fun H3 e3 => ⟨p, k, [.int z], rfl, rfl, e3 _ _ h2, by omega, by omega, by
    show 1 * k.toNat ≤ sizeLine
    exact Nat.le_trans (show 1 * k.toNat ≤ 100000 by omega) (by decide), fun l hl => q l _ (fresh_back (e2.trans e3) hl) ((e2.trans e3).trans (Ex.new hl)) (by
    rw [upd_same]
    have rp : ∀ m : Nat, (List.replicate m [V.int z]).flatten = (List.replicate m z).map V.int := fun m => by
      induction m with
      | zero => rfl
      | succ m ih => rw [List.replicate_succ, List.flatten_cons, ih, List.replicate_succ, List.map_cons]; rfl
    rw [rp])⟩
theorem er_call {sp : Sp} {dvs vs : List V} {E : XK} {ta : TA} {σ : L2.St} {H : Hp} {P : V → Hp → Prop} (h : EvA ta σ H vs) (hs : ∀ H1, Ex H H1 → ∀ Q : VK, (∀ v H2, Ex H1 H2 → P v H2 → Q v H2) → sp (vs ++ dvs) H1 Q E) : EvR (tCall sp dvs E ta) σ H P :=
  fun H1 e Q q => h H1 e _ fun H2 e2 => hs H2 (e.trans e2) Q fun v H3 e3 p => q v H3 (e2.trans e3) p
theorem el_cat {σ : L2.St} {H : Hp} {ta tb : TE} {xs ys : List V} (h1 : EvL ta σ H xs) (h2 : EvL tb σ H ys) (hz : xs.length + ys.length ≤ 100000) : EvL (tOp rCat ta tb) σ H (xs ++ ys) := fun H1 e Q q =>
  h1 H1 e _ fun a H2 ha e2 g2 => h2 H2 (e.trans e2) _ fun b H3 hb e3 g3 => ⟨a, b, xs, ys, rfl, rfl, e3 _ _ g2, g3, sz_of hz, fun p hp => q p _ (fresh_back (e2.trans e3) hp) ((e2.trans e3).trans (Ex.new hp)) upd_same⟩
theorem atI_last {α : Type} {xs : List α} {z : α} (h : xs.getLast? = some z) : atI xs (-1) = some z := by
  cases xs with
  | nil => cases h
  | cons x r =>
    rw [List.getLast?_eq_getElem?] at h
    unfold atI ixN
    rw [if_neg (by omega), if_pos (by rw [List.length_cons]; omega)]
    show (x :: r)[((-1 : Int) + ((x :: r).length : Int)).toNat]? = some z
    rw [← h]
    congr 1
    rw [List.length_cons]
    omega
/-- an if whose test fails -/
theorem q_skip {t : TT} {tu tz : TS} {D : Ends} {σ : L2.St} {H : Hp} (h : EvT t σ H false) (k : ∀ H1, Ex H H1 → tz D σ H1) : tSeq (tIfS t tu tNext) tz D σ H := q_when h (fun z => Bool.noConfusion z) fun _ H1 e => k H1 e
/-- .. whose test holds and that returns -/
theorem q_take {t : TT} {tu tz : TS} {D : Ends} {σ : L2.St} {H : Hp} (h : EvT t σ H true) (k : ∀ H1, Ex H H1 → tu { D with nx := tz D } σ H1) : tSeq (tIfS t tu tNext) tz D σ H := q_when h (fun _ H1 e => k H1 e) fun z => Bool.noConfusion z
theorem et_notT {t : TT} {σ : L2.St} {H : Hp} (h : EvT t σ H true) : EvT (tNot t) σ H false := et_not h
theorem et_orF {t u : TT} {σ : L2.St} {H : Hp} (h : EvT t σ H false) (h2 : EvT u σ H false) : EvT (tOr t u) σ H false := et_or h fun _ => h2
theorem et_andF {t u : TT} {σ : L2.St} {H : Hp} (h : EvT t σ H false) : EvT (tAnd t u) σ H false := et_and (b := true) h fun z => Bool.noConfusion z
theorem et_andT {t u : TT} {σ : L2.St} {H : Hp} {b : Bool} (h : EvT t σ H true) (h2 : EvT u σ H b) : EvT (tAnd t u) σ H b := et_and h fun _ => h2
theorem ev_ix {K : PySem.W.Frag} {σ : L2.St} {H : Hp} {ta tb : TE} {p : Addr} {xs : List V} {i : Int} {v : V} (ha : Ev ta σ H (.ref p)) (hb : Ev tb σ H (.int i)) (h : SqL K H p xs) (hv : atI xs i = some v) : Ev (tOp (rIxL K) ta tb) σ H v := ev_op ha hb (rv_ixL h hv)
theorem rv_isK {x : V} {H : Hp} {b : Bool} : RV rIsK x (.bl b) H (.bl (decide (x = .bl b))) := fun H1 _ _ q => ⟨b, rfl, q H1 (Ex.refl H1)⟩
def rIsNotK : R2 := fun x y H Q => ∃ b : Bool, y = .bl b ∧ Q (.bl (!decide (x = .bl b))) H
theorem op_isNotK {X : Cx} : OpR X (compareOp .IsNot) rIsNotK := by
  intro pins s σ H x y v u Q I rx ry h
  obtain ⟨b, hy, q⟩ := h
  subst hy
  cases (show u = Value.bool b from ry)
  have fin : ∀ k : Bool, k = (!decide (x = V.bl b)) → EP X pins σ Q (.bool k) s := fun k e => ⟨.bl k, H, I, rfl, by rw [e]; exact q⟩
  cases x with
  | non => cases (show v = Value.none from rx); exact wpAny_isNot_other rfl (fun z => by cases z) (fin _ (by simp))
  | bl a =>
    cases (show v = Value.bool a from rx)
    by_cases e : a = b
    · subst e; exact wpAny_isNot_self rfl (fin _ (by simp))
    · exact wpAny_isNot_other rfl (fun z => e (Value.bool.inj z)) (fin _ (by simp [e]))
  | int i => obtain ⟨t, ev⟩ := rx; subst ev; exact wpAny_isNot_other rfl (fun z => by cases z) (fin _ (by simp))
  | str i => obtain ⟨t, ev⟩ := rx; subst ev; exact wpAny_isNot_other rfl (fun z => by cases z) (fin _ (by simp))
  | byt i => obtain ⟨t, ev⟩ := rx; subst ev; exact wpAny_isNot_other rfl (fun z => by cases z) (fin _ (by simp))
  | flt i => obtain ⟨t, ev⟩ := rx; subst ev; exact wpAny_isNot_other rfl (fun z => by cases z) (fin _ (by simp))
  | ref a => cases (show v = Value.ref a from rx); exact wpAny_isNot_other rfl (fun z => by cases z) (fin _ (by simp))
  | ty n => cases (show v = Value.type n from rx); exact wpAny_isNot_other rfl (fun z => by cases z) (fin _ (by simp))
theorem rv_isNotK {x : V} {H : Hp} {b : Bool} : RV rIsNotK x (.bl b) H (.bl (!decide (x = .bl b))) := fun H1 _ _ q => ⟨b, rfl, q H1 (Ex.refl H1)⟩
theorem drawn_cons {m : Int} {ms ds : List Int} (h : Drawn (m :: ms) ds) : ∃ d r, ds = d :: r ∧ (0 ≤ d ∧ d < m) ∧ Drawn ms r := by
  obtain ⟨hl, g⟩ := h
  cases ds with
  | nil => cases hl
  | cons d r =>
    obtain ⟨d', e, h0, h1⟩ := g 0 m rfl
    cases e
    exact ⟨d, r, rfl, ⟨h0, h1⟩, by simpa using hl, fun i x hx => g (i + 1) x hx⟩
theorem drawn_nil {ds : List Int} (h : Drawn [] ds) : ds = [] := List.length_eq_zero_iff.mp h.1
/-! ### new things: what holds of them in each heap that has what is new -/
def NewP (P : Hp → Prop) (H H' : Hp) : Prop := ∀ G : Hp, (∀ b o, H b = none → H' b = some o → G b = some o) → P G
def EvNew (te : TE) (σ : L2.St) (H : Hp) (P : V → Hp → Prop) : Prop := ∀ H1, Ex H H1 → ∀ Q : VK, (∀ v H2, Ex H1 H2 → NewP (P v) H1 H2 → Q v H2) → te σ H1 Q
theorem NewP.self {P : Hp → Prop} {H H' : Hp} (h : NewP P H H') : P H' := h H' fun _ _ _ e => e
theorem NewP.out {P : Hp → Prop} {H H1 H2 H3 : Hp} (h : NewP P H1 H2) (e : Ex H H1) (e' : Ex H2 H3) : NewP P H H3 := fun G g => h G fun b o h1 h2 => g b o (fresh_back e h1) (e' _ _ h2)
theorem EvNew.er {te : TE} {σ : L2.St} {H : Hp} {P : V → Hp → Prop} (h : EvNew te σ H P) : EvR te σ H P := fun H1 e Q q => h H1 e Q fun v H2 e2 n => q v H2 e2 n.self
theorem EvNew.imp {te : TE} {σ : L2.St} {H : Hp} {P P' : V → Hp → Prop} (h : EvNew te σ H P) (i : ∀ v G, P v G → P' v G) : EvNew te σ H P' := fun H1 e Q q => h H1 e Q fun v H2 e2 n => q v H2 e2 fun G g => i v G (n G g)
theorem en_L {te : TE} {σ : L2.St} {H : Hp} {xs : List V} (h : EvL te σ H xs) : EvNew te σ H fun v G => ∃ p, v = .ref p ∧ G p = some (.lst xs) := fun H1 e Q q => h H1 e Q fun p H2 hp e2 h2 => q _ H2 e2 fun G g => ⟨p, rfl, g p _ hp h2⟩
theorem en_ev {te : TE} {σ : L2.St} {H : Hp} {v : V} {P : V → Prop} (h : Ev te σ H v) (p : P v) : EvNew te σ H fun v _ => P v := fun H1 e Q q => h H1 e Q fun H2 e2 => q v H2 e2 fun _ _ => p
/-- what a comprehension keeps: its list at D, each item with its property whatever D holds -/
def Kept (P : Nat → V → Hp → Prop) (H1 : Hp) (D : Addr) (i : Nat) (H : Hp) : Prop := H1 D = none ∧ Ex H1 H ∧ ∃ vs : List V, H D = some (.lst vs) ∧ vs.length = i ∧ ∀ (k : Nat) x, vs[k]? = some x → ∀ G : Hp, (∀ b o, b ≠ D → H1 b = none → H b = some o → G b = some o) → P k x G
theorem kept_turn {P : Nat → V → Hp → Prop} {H1 H : Hp} {D : Addr} {i : Nat} {te : TE} {σ2 : L2.St} (p : Kept P H1 D i H) (hi : i < 50000) (he : EvNew te σ2 H1 (P i)) :
    tYes σ2 H fun b H3 => if b = true then te σ2 H3 fun y H4 => ∃ acc, H4 D = some (.lst acc) ∧ acc.length < sizeLine ∧ Kept P H1 D (i + 1) (upd H4 D (.lst (acc ++ [y]))) else Kept P H1 D (i + 1) H3 := by
  obtain ⟨p1, p2, vs, p3, p4, p5⟩ := p
  show te σ2 H fun y H4 => ∃ acc, H4 D = some (.lst acc) ∧ acc.length < sizeLine ∧ Kept P H1 D (i + 1) (upd H4 D (.lst (acc ++ [y])))
  refine he H p2 _ fun y H4 e4 hy => ⟨vs, e4 _ _ p3, sz_lt (by omega), p1, Ex.mut (p2.trans e4) p1, vs ++ [y], upd_same, by simp [p4], fun k x hk G g => ?_⟩
  by_cases hki : k < vs.length
  · rw [List.getElem?_append_left hki] at hk
    exact p5 k x hk G fun b o hb h1 h2 => g b o hb h1 (by rw [upd_ne hb]; exact e4 _ _ h2)
  · have hlt := (List.getElem?_eq_some_iff.mp hk).1
    rw [List.length_append] at hlt
    have hlt' : k < vs.length + 1 := hlt
    have e : k = i := by omega
    subst e
    rw [List.getElem?_append_right (by omega), ← p4, Nat.sub_self] at hk
    cases hk
    refine hy G fun b o h1 h2 => ?_
    have hb : b ≠ D := fun e => by rw [e, p3] at h1; cases h1
    exact g b o hb (fresh_back p2 h1) (by rw [upd_ne hb]; exact h2)
theorem kept_end {P : Nat → V → Hp → Prop} {H1 H : Hp} {D : Addr} {n : Nat} (p : Kept P H1 D n H) : NewP (fun G => ∃ vs : List V, G D = some (.lst vs) ∧ vs.length = n ∧ ∀ (k : Nat) x, vs[k]? = some x → P k x G) H1 H := fun G g => by
  obtain ⟨p1, p2, vs, p3, p4, p5⟩ := p
  exact ⟨vs, g D _ p1 p3, p4, fun k x hk => p5 k x hk G fun b o _ h1 h2 => g b o h1 h2⟩
/-- a list whose items have a property -/
def ListP (n : Nat) (P : Nat → V → Hp → Prop) (v : V) (G : Hp) : Prop := ∃ (p : Addr) (vs : List V), v = .ref p ∧ G p = some (.lst vs) ∧ vs.length = n ∧ ∀ (k : Nat) x, vs[k]? = some x → P k x G
theorem en_lcR1 {σ : L2.St} {H : Hp} {te : TE} {ta : TA} {j : Nat} {vs : List Nat} {n : Int} (P : Nat → V → Hp → Prop) (h : EvA ta σ H [.int n]) (hn : 0 ≤ n ∧ n ≤ 40000) (hw : ∀ x, wipe ((wipe σ vs).set j (some x)) vs = wipe σ vs)
    (he : ∀ (i : Nat) H1, Ex H H1 → (i : Int) < n → EvNew te ((wipe σ vs).set j (some (.int (i : Int)))) H1 (P i)) : EvNew (tLc (iRng1 ta) (gName j) tYes te vs) σ H (ListP n.toNat P) := fun H0 e Q q => h H0 e _ fun H1 e1 => ⟨n, rfl, by omega, by omega, fun Dl hD =>
  lc_range (lo := 0) (n := n.toNat) (Kept P H1 Dl) ⟨hD, Ex.new hD, [], upd_same, rfl, fun k x hk => by cases hk⟩ (fun i H' hi p => by
    have e0 : (0 : Int) + (i : Int) = (i : Int) := Int.zero_add _
    show wipe ((wipe σ vs).set j (some (.int ((0 : Int) + (i : Int))))) vs = wipe σ vs ∧ tYes ((wipe σ vs).set j (some (.int ((0 : Int) + (i : Int))))) H' fun b H3 => if b = true then te ((wipe σ vs).set j (some (.int ((0 : Int) + (i : Int))))) H3 fun y H4 => ∃ acc, H4 Dl = some (.lst acc) ∧ acc.length < sizeLine ∧ Kept P H1 Dl (i + 1) (upd H4 Dl (.lst (acc ++ [y]))) else Kept P H1 Dl (i + 1) H3
    rw [e0]
    exact ⟨hw _, kept_turn p (by omega) (he i H1 (e.trans e1) (by omega))⟩)
    (fun H' p => q _ H' (e1.trans p.2.1) fun G g => by
      obtain ⟨ws, h1, h2, h3⟩ := (kept_end p).out e1 (Ex.refl _) G g
      exact ⟨Dl, ws, rfl, h1, h2, h3⟩)⟩
theorem en_lcL {K : PySem.W.Frag} {σ : L2.St} {H : Hp} {te tl : TE} {j : Nat} {vs : List Nat} {xs : List V} (P : Nat → V → Hp → Prop) (h : EvR tl σ H fun v H1 => ∃ a, v = .ref a ∧ SqL K H1 a xs) (hz : xs.length ≤ 40000) (hw : ∀ x, wipe ((wipe σ vs).set j (some x)) vs = wipe σ vs)
    (he : ∀ (i : Nat) (x : V) H1, Ex H H1 → xs[i]? = some x → EvNew te ((wipe σ vs).set j (some x)) H1 (P i)) : EvNew (tLc (iList K tl) (gName j) tYes te vs) σ H (ListP xs.length P) := fun H0 e Q q => h H0 e _ fun v H1 e1 hv => by
  obtain ⟨a, rfl, hx⟩ := hv
  exact ⟨a, rfl, ⟨xs, hx⟩, fun Dl hD =>
    lc_list (xs := xs) (Kept P H1 Dl) ⟨hD, Ex.new hD, [], upd_same, rfl, fun k x hk => by cases hk⟩ (fun i H' _ p => ex_l p.2.1 hx) (fun i x H' hi p => ⟨hw x, kept_turn p (by have := (List.getElem?_eq_some_iff.mp hi).1; omega) (he i x H1 (e.trans e1) hi)⟩)
    (fun H' p => q _ H' (e1.trans p.2.1) fun G g => by
      obtain ⟨ws, h1, h2, h3⟩ := (kept_end p).out e1 (Ex.refl _) G g
      exact ⟨Dl, ws, rfl, h1, h2, h3⟩)⟩

/-! ### order of data -/
def rLtD (K : PySem.W.Frag) : R2 := fun x y H Q => ∃ d e, Dp K H x d ∧ Dp K H y e ∧ PySem.W.alike d e = true ∧ d ≠ .none ∧ d.depth ≤ 64 ∧ Q (.bl (PySem.W.dataLt d e)) H
def rLeD (K : PySem.W.Frag) : R2 := fun x y H Q => ∃ d e, Dp K H x d ∧ Dp K H y e ∧ PySem.W.alike d e = true ∧ d ≠ .none ∧ d.depth ≤ 64 ∧ Q (.bl (!PySem.W.dataLt e d)) H
theorem op_ltD {X : Cx} {K : PySem.W.Frag} (hu : X.A.units + 64 < cLine) (hk : X.K = K := by rfl) : OpR X (compareOp .Lt) (rLtD K) := by
  subst hk
  intro pins s σ H x y v u Q I rx ry h
  obtain ⟨d, e, hd, he, al, dn, dp, q⟩ := h
  obtain ⟨as, r1⟩ := Dp.reads I d x v hd rx
  obtain ⟨bs, r2⟩ := Dp.reads I e y u he ry
  exact PySem.W.rcLt_alike d e X.A s v u as bs r1 r2 al dn (by have := Nat.min_le_left d.depth e.depth; omega) X.prog X.w X.xe (EP X pins σ Q) ⟨.bl _, H, I, rfl, q⟩
theorem op_leD {X : Cx} {K : PySem.W.Frag} (hu : X.A.units + 64 < cLine) (hk : X.K = K := by rfl) : OpR X (compareOp .LtE) (rLeD K) := by
  subst hk
  intro pins s σ H x y v u Q I rx ry h
  obtain ⟨d, e, hd, he, al, dn, dp, q⟩ := h
  obtain ⟨as, r1⟩ := Dp.reads I d x v hd rx
  obtain ⟨bs, r2⟩ := Dp.reads I e y u he ry
  exact PySem.W.rcLe_alike d e X.A s v u as bs r1 r2 al dn (by have := Nat.min_le_left d.depth e.depth; omega) X.prog X.w X.xe (EP X pins σ Q) ⟨.bl _, H, I, rfl, q⟩
theorem alike_ints : ∀ xs ys : List Int, PySem.W.alikeAll (xs.map PyData.int) (ys.map PyData.int) = true
  | [], [] => by simp [PySem.W.alikeAll]
  | [], y :: ys => by simp [PySem.W.alikeAll]
  | x :: xs, [] => by simp [PySem.W.alikeAll]
  | x :: xs, y :: ys => by simp [PySem.W.alikeAll, PySem.W.alike, alike_ints xs ys]

/-! ### what holds of a value in each heap that has what stood before and what is new -/
def Since (H H' G : Hp) : Prop := ∀ b o, H b = none → H' b = some o → G b = some o
def EvB (te : TE) (σ : L2.St) (H : Hp) (P : V → Hp → Prop) : Prop := ∀ H1, Ex H H1 → ∀ Q : VK, (∀ v H2, Ex H1 H2 → (∀ G, Ex H G → Since H1 H2 G → P v G) → Q v H2) → te σ H1 Q
theorem EvNew.eb {te : TE} {σ : L2.St} {H : Hp} {P : V → Hp → Prop} (h : EvNew te σ H P) : EvB te σ H P := fun H1 e Q q => h H1 e Q fun v H2 e2 n => q v H2 e2 fun G _ g => n G g
theorem EvB.er {te : TE} {σ : L2.St} {H : Hp} {P : V → Hp → Prop} (h : EvB te σ H P) : EvR te σ H P := fun H1 e Q q => h H1 e Q fun v H2 e2 n => q v H2 e2 (n H2 (e.trans e2) fun _ _ _ z => z)
theorem EvB.imp {te : TE} {σ : L2.St} {H : Hp} {P P' : V → Hp → Prop} (h : EvB te σ H P) (i : ∀ v G, Ex H G → P v G → P' v G) : EvB te σ H P' := fun H1 e Q q => h H1 e Q fun v H2 e2 n => q v H2 e2 fun G a g => i v G a (n G a g)
theorem eb_ev {te : TE} {σ : L2.St} {H : Hp} {v : V} {P : V → Hp → Prop} (h : Ev te σ H v) (p : ∀ G, Ex H G → P v G) : EvB te σ H P := fun H1 e Q q => h H1 e Q fun H2 e2 => q v H2 e2 fun G a _ => p G a
theorem eb_L {K : PySem.W.Frag} {te : TE} {σ : L2.St} {H : Hp} {xs : List V} (h : EvL te σ H xs) : EvB te σ H fun v G => ∃ p, v = .ref p ∧ SqL K G p xs := ((en_L h).imp fun v G ⟨p, a, b⟩ => ⟨p, a, sq_of b⟩).eb
theorem eb_held {K : PySem.W.Frag} {σ : L2.St} {H : Hp} {i : Nat} {p : Addr} {xs : List V} (h : σ[i]? = some (some (.ref p))) (hp : SqL K H p xs) : EvB (tVar i) σ H fun v G => ∃ p, v = .ref p ∧ SqL K G p xs := eb_ev (ev_var h) fun G e => ⟨p, rfl, ex_l e hp⟩
/-! ### what is walked, whatever it is -/
def EvI (wi : TI) (σ : L2.St) (H : Hp) (n : Nat) (Y : Nat → Hp → V → Hp → Prop) : Prop := ∀ H1, Ex H H1 → ∀ R : It → Hp → Prop, (∀ J H2, Ex H1 H2 → Walk J n (fun G => Ex H G ∧ Since H1 H2 G) Y → R J H2) → wi σ H1 R
theorem ei_list {K : PySem.W.Frag} {σ : L2.St} {H : Hp} {tl : TE} {xs : List V} (h : EvB tl σ H fun v G => ∃ p, v = .ref p ∧ SqL K G p xs) : EvI (iList K tl) σ H xs.length (YAt xs) := fun H1 e R r => h H1 e _ fun v H2 e2 hv => by
  obtain ⟨a, rfl, hx⟩ := hv H2 (e.trans e2) fun _ _ _ z => z
  exact ⟨a, rfl, ⟨xs, hx⟩, r _ _ e2 (walk_list.mono (fun G g => by
    obtain ⟨b, eb, hb⟩ := hv G g.1 g.2
    cases eb
    exact hb) fun _ _ _ _ _ _ y => y)⟩
theorem ei_tup {K : PySem.W.Frag} {σ : L2.St} {H : Hp} {tl : TE} {xs : List V} (h : EvB tl σ H fun v G => ∃ p, v = .ref p ∧ SqT K G p xs) : EvI (iTup K tl) σ H xs.length (YAt xs) := fun H1 e R r => h H1 e _ fun v H2 e2 hv => by
  obtain ⟨a, rfl, hx⟩ := hv H2 (e.trans e2) fun _ _ _ z => z
  exact ⟨a, rfl, ⟨xs, hx⟩, r _ _ e2 (walk_tup.mono (fun G g => by
    obtain ⟨b, eb, hb⟩ := hv G g.1 g.2
    cases eb
    exact hb) fun _ _ _ _ _ _ y => y)⟩
theorem ei_rng1 {σ : L2.St} {H : Hp} {ta : TA} {n : Int} (h : EvA ta σ H [.int n]) (hn : -100000 ≤ n ∧ n ≤ 100000) : EvI (iRng1 ta) σ H n.toNat (YFn fun i => .int (i : Int)) := fun H1 e R r => h H1 e _ fun H2 e2 =>
  ⟨n, rfl, by omega, by omega, r _ _ e2 (walk_range.mono (fun _ _ => True.intro) fun i G x G' _ _ y => ⟨y.1, by rw [y.2]; simp⟩)⟩
theorem ei_rng2 {σ : L2.St} {H : Hp} {ta : TA} {lo hi : Int} (h : EvA ta σ H [.int lo, .int hi]) (hn : (-100000 ≤ lo ∧ lo ≤ 100000) ∧ -100000 ≤ hi ∧ hi ≤ 100000) : EvI (iRng2 ta) σ H (hi - lo).toNat (YFn fun i => .int (lo + (i : Int))) := fun H1 e R r => h H1 e _ fun H2 e2 =>
  ⟨lo, hi, rfl, by omega, r _ _ e2 (walk_range.mono (fun _ _ => True.intro) fun i G x G' _ _ y => y)⟩
theorem ei_zip {K : PySem.W.Frag} {σ : L2.St} {H : Hp} {ta tb : TE} {xs ys : List V} {n : Nat} (h1 : EvB ta σ H fun v G => ∃ p, v = .ref p ∧ SqL K G p xs) (h2 : EvB tb σ H fun v G => ∃ p, v = .ref p ∧ SqL K G p ys) (hn : n = min xs.length ys.length) :
    EvI (iZip K (tCons ta (tCons tb tNil))) σ H n (YPair (fun i => xs[i]?) fun i => ys[i]?) := fun H1 e R r => h1 H1 e _ fun v H2 e2 hv => h2 H2 (e.trans e2) _ fun w H3 e3 hw => by
  have p1 : ∀ G, Ex H G → Since H1 H3 G → ∃ p, v = .ref p ∧ SqL K G p xs := fun G a g => hv G a fun b o z1 z2 => g b o z1 (e3 _ _ z2)
  have p2 : ∀ G, Ex H G → Since H1 H3 G → ∃ p, w = .ref p ∧ SqL K G p ys := fun G a g => hw G a fun b o z1 z2 => g b o (fresh_back e2 z1) z2
  have e3' := (e.trans e2).trans e3
  obtain ⟨a, rfl, hx⟩ := p1 H3 e3' fun _ _ _ z => z
  obtain ⟨b, rfl, hy⟩ := p2 H3 e3' fun _ _ _ z => z
  exact ⟨a, b, xs, ys, rfl, hx, hy, r _ _ (e2.trans e3) ((walk_zip hn).mono (fun G g => by
    obtain ⟨a', ea, ha⟩ := p1 G g.1 g.2
    obtain ⟨b', eb, hb⟩ := p2 G g.1 g.2
    cases ea
    cases eb
    exact ⟨ha, hb⟩) fun _ _ _ _ _ _ y => y)⟩
theorem ei_enum {K : PySem.W.Frag} {σ : L2.St} {H : Hp} {ta : TE} {xs : List V} (h : EvB ta σ H fun v G => ∃ p, v = .ref p ∧ SqL K G p xs) : EvI (iEnum K (tCons ta tNil)) σ H xs.length (YPair (fun i => some (.int (i : Int))) fun i => xs[i]?) := fun H1 e R r => h H1 e _ fun v H2 e2 hv => by
  obtain ⟨a, rfl, hx⟩ := hv H2 (e.trans e2) fun _ _ _ z => z
  exact ⟨a, xs, rfl, hx, r _ _ e2 (walk_enum.mono (fun G g => by
    obtain ⟨b, eb, hb⟩ := hv G g.1 g.2
    cases eb
    exact hb) fun _ _ _ _ _ _ y => y)⟩
theorem walk_ex {J : It} {n : Nat} {H H1 H2 : Hp} {Y : Nat → Hp → V → Hp → Prop} (e : Ex H H1) (e2 : Ex H1 H2) (w : Walk J n (fun G => Ex H G ∧ Since H1 H2 G) Y) : Walk J n (Ex H2) Y := w.mono (fun G g => ⟨(e.trans e2).trans g, fun b o _ z => g _ _ z⟩) fun _ _ _ _ _ _ y => y
/-- what a target binds at each turn -/
def BdG (g : TG) (σ : L2.St) (n : Nat) (Y : Nat → Hp → V → Hp → Prop) (τ : Nat → L2.St) : Prop := ∀ i H x H' (k : L2.St → Hp → Prop), i < n → Y i H x H' → (Ex H H' → k (τ i) H') → g x σ H' k
theorem bd_at {σ : L2.St} {n j : Nat} {xs : List V} : BdG (gName j) σ n (YAt xs) fun i => σ.set j (xs[i]?) := fun i H x H' k _ y c => by
  obtain ⟨rfl, hx⟩ := y
  show k (σ.set j (some x)) H'
  rw [← hx]
  exact c (Ex.refl _)
theorem bd_fn {σ : L2.St} {n j : Nat} {f : Nat → V} : BdG (gName j) σ n (YFn f) fun i => σ.set j (some (f i)) := fun i H x H' k _ y c => by
  obtain ⟨rfl, rfl⟩ := y
  exact c (Ex.refl _)
theorem bd_pair {K : PySem.W.Frag} {σ : L2.St} {n a b : Nat} {xs ys : Nat → Option V} : BdG (gTup K 2 (gCons (gName a) (gCons (gName b) gNil))) σ n (YPair xs ys) fun i => (σ.set a (xs i)).set b (ys i) := fun i H x H' k _ y c => by
  obtain ⟨T, u, v, rfl, hT, rfl, hu, hv⟩ := y
  refine ⟨T, [u, v], rfl, st_of upd_same, rfl, u, [v], rfl, v, [], rfl, rfl, ?_⟩
  rw [← hu, ← hv]
  exact c (Ex.new hT)
section
variable {wi : TI} {g : TG} {tt : TT} {te : TE} {tu tz : TS} {σ : L2.St} {H : Hp} {D : Ends} {n : Nat} {Y : Nat → Hp → V → Hp → Prop} {vs : List Nat} {τ : Nat → L2.St}
theorem s_forI (h : EvI wi σ H n Y) (k : ∀ H2, Ex H H2 → ∃ Pv : Nat → L2.St → Hp → Prop, Pv 0 σ H2 ∧ (∀ i σ' H', i ≤ n → Pv i σ' H' → Ex H2 H') ∧
    (∀ i x σ' H' H'', i < n → Pv i σ' H' → Y i H' x H'' → g x σ' H'' fun σ2 H3 => tu { D with nx := Pv (i + 1), ct := Pv (i + 1), bk := D.nx } σ2 H3) ∧ ∀ σ' H', Pv n σ' H' → D.nx σ' H') : tFor wi g tu D σ H :=
  h H (Ex.refl H) _ fun J H2 e2 w => by
    obtain ⟨Pv, h0, hG, hs, hd⟩ := k H2 e2
    exact for_it (walk_ex (Ex.refl H) e2 w) Pv h0 hG (fun i x σ' H' H'' hi p y => hs i x σ' H' H'' hi p y) hd
theorem q_forI (h : EvI wi σ H n Y) (k : ∀ H2, Ex H H2 → ∃ Pv : Nat → L2.St → Hp → Prop, Pv 0 σ H2 ∧ (∀ i σ' H', i ≤ n → Pv i σ' H' → Ex H2 H') ∧
    (∀ i x σ' H' H'', i < n → Pv i σ' H' → Y i H' x H'' → g x σ' H'' fun σ2 H3 => tu { D with nx := Pv (i + 1), ct := Pv (i + 1), bk := tz D } σ2 H3) ∧ ∀ σ' H', Pv n σ' H' → tz D σ' H') : tSeq (tFor wi g tu) tz D σ H := s_forI (D := { D with nx := tz D }) h k
/-- a comprehension that tests and tells plain values -/
theorem el_lc (f : Nat → Bool) (v : Nat → V) (h : EvI wi σ H n Y) (hn : n ≤ 40000) (hb : BdG g (wipe σ vs) n Y τ) (hw : ∀ i, i < n → wipe (τ i) vs = wipe σ vs)
    (ht : ∀ i H1, i < n → Ex H H1 → EvT tt (τ i) H1 (f i)) (he : ∀ i H1, i < n → Ex H H1 → f i = true → Ev te (τ i) H1 (v i)) : EvL (tLc wi g tt te vs) σ H (given n f v) := fun H0 e0 Q q =>
  h H0 e0 _ fun J H2 e2 w Dl hD => lc_it (walk_ex e0 e2 w) (Cw H2 f v Dl) ⟨hD, Ex.new hD, upd_same⟩ (fun i H' _ c => c.2.1)
    (fun i x H' H'' hi c y => hb i H' x H'' _ hi y fun e => ⟨hw i hi, by
      have c' : Cw H2 f v Dl i H'' := ⟨c.1, c.2.1.trans e, e _ _ c.2.2⟩
      exact cw_turn c' (by omega) (ht i H2 hi (e0.trans e2)) (fun hf => he i H2 hi (e0.trans e2) hf)⟩)
    (fun H' c => q Dl H' (fresh_back e2 c.1) (e2.trans c.2.1) c.2.2)
/-- .. that tells new things -/
theorem en_lc (P : Nat → V → Hp → Prop) (h : EvI wi σ H n Y) (hn : n ≤ 40000) (hb : BdG g (wipe σ vs) n Y τ) (hw : ∀ i, i < n → wipe (τ i) vs = wipe σ vs)
    (he : ∀ i H1, i < n → Ex H H1 → EvNew te (τ i) H1 (P i)) : EvNew (tLc wi g tYes te vs) σ H (ListP n P) := fun H0 e0 Q q =>
  h H0 e0 _ fun J H2 e2 w Dl hD => lc_it (walk_ex e0 e2 w) (Kept P H2 Dl) ⟨hD, Ex.new hD, [], upd_same, rfl, fun k x hk => by cases hk⟩ (fun i H' _ c => c.2.1)
    (fun i x H' H'' hi c y => hb i H' x H'' _ hi y fun e => ⟨hw i hi, by
      obtain ⟨c1, c2, us, c3, c4, c5⟩ := c
      have c' : Kept P H2 Dl i H'' := ⟨c1, c2.trans e, us, e _ _ c3, c4, fun k z hk G gg => c5 k z hk G fun b o hb h1 h2 => gg b o hb h1 (e _ _ h2)⟩
      exact kept_turn c' (by omega) (he i H2 hi (e0.trans e2))⟩)
    (fun H' c => q _ H' (e2.trans c.2.1) fun G gg => by
      obtain ⟨ws, h1, h2, h3⟩ := (kept_end c).out e2 (Ex.refl _) G gg
      exact ⟨Dl, ws, rfl, h1, h2, h3⟩)
theorem given_all {n : Nat} {v : Nat → V} : given n (fun _ => true) v = (List.range n).map v := by
  unfold given
  rw [List.filter_eq_self.mpr fun _ _ => rfl]
theorem yes_T : EvT tYes σ H true := fun H1 _ Q q => q H1 (Ex.refl H1)
/-- two sources, one within the other: all values in their order -/
theorem el_lc2 {wi1 : TI} {g1 : TG} {vs1 : List Nat} {n1 : Nat → Nat} {Y1 : Nat → Nat → Hp → V → Hp → Prop} {τ1 : Nat → Nat → L2.St} (v : Nat → Nat → V) (N : Nat) (h : EvI wi σ H n Y) (hN : N ≤ 1000000) (hz : ∀ i, i ≤ n → ((List.range i).flatMap fun i => (List.range (n1 i)).map (v i)).length ≤ N) (hb : BdG g (wipe σ vs) n Y τ) (hw : ∀ i, i < n → wipe (τ i) vs = wipe σ vs)
    (h1 : ∀ i H1, i < n → Ex H H1 → EvI wi1 (τ i) H1 (n1 i) (Y1 i)) (hb1 : ∀ i, i < n → BdG g1 (wipe (τ i) vs1) (n1 i) (Y1 i) (τ1 i)) (hw1 : ∀ i j, i < n → j < n1 i → wipe (τ1 i j) vs1 = wipe (τ i) vs1)
    (he : ∀ i j H1, i < n → j < n1 i → Ex H H1 → Ev te (τ1 i j) H1 (v i j)) : EvL (tLc2 wi g tYes wi1 g1 tYes te vs vs1) σ H ((List.range n).flatMap fun i => (List.range (n1 i)).map (v i)) := fun H0 e0 Q q =>
  h H0 e0 _ fun J H2 e2 w Dl hD => by
    let All : Nat → List V := fun i => (List.range i).flatMap fun i => (List.range (n1 i)).map (v i)
    have all_succ : ∀ i, All (i + 1) = All i ++ (List.range (n1 i)).map (v i) := fun i => by
      show List.flatMap _ (List.range (i + 1)) = _
      rw [List.range_succ, List.flatMap_append]
      simp [All]
    let Pv : Nat → Hp → Prop := fun i H' => H2 Dl = none ∧ Ex H2 H' ∧ H' Dl = some (.lst (All i))
    refine ⟨fun i m H' => m = n - i ∧ i ≤ n ∧ Pv i H', ⟨n, by simp, Nat.zero_le _, hD, Ex.new hD, upd_same⟩, ?_⟩
    have w' := walk_ex e0 e2 w
    rintro i m H' ⟨rfl, hi, p⟩
    by_cases hlt : i < n
    · refine .inr ⟨w'.goes i H' hlt p.2.1, Pv (i + 1), fun H'' p' => ⟨n - (i + 1), by omega, rfl, hlt, p'⟩, fun x H'' y => hb i H' x H'' _ hlt (w'.yields i H' x H'' hlt p.2.1 y) fun e => ⟨hw i hlt, ?_⟩⟩
      show wi1 (τ i) H'' _
      refine h1 i H2 hlt (e0.trans e2) H'' (p.2.1.trans e) _ fun J1 H3 e3 w1 => ?_
      let Pw : Nat → Hp → Prop := fun j G => (∀ b o, b ≠ Dl → H3 b = some o → G b = some o) ∧ Ex H2 G ∧ G Dl = some (.lst (All i ++ (List.range j).map (v i)))
      have q3 : Ex H2 H3 := (p.2.1.trans e).trans e3
      have inner : ∀ j G, Pw j G → Ex H2 G ∧ Since H'' H3 G := fun j G pw => ⟨pw.2.1, fun b o z1 z2 => pw.1 b o (fun z => by rw [z, e _ _ p.2.2] at z1; cases z1) z2⟩
      refine ⟨fun j m G => m = n1 i - j ∧ j ≤ n1 i ∧ Pw j G, ⟨n1 i, by simp, Nat.zero_le _, fun b o _ z => z, q3, by rw [(e.trans e3) _ _ p.2.2]; simp⟩, ?_⟩
      rintro j m G ⟨rfl, hj, pw⟩
      by_cases hjl : j < n1 i
      · refine .inr ⟨w1.goes j G hjl (inner j G pw), Pw (j + 1), fun G' pw' => ⟨n1 i - (j + 1), by omega, rfl, hjl, pw'⟩, fun x1 G' y1 => ?_⟩
        refine hb1 i hlt j G x1 G' _ hjl (w1.yields j G x1 G' hjl (inner j G pw) y1) fun eG => ⟨hw1 i j hlt hjl, ?_⟩
        show te (τ1 i j) G' _
        refine he i j H2 hlt hjl (e0.trans e2) G' (pw.2.1.trans eG) _ fun G4 e4 => ⟨_, (eG.trans e4) _ _ pw.2.2, ?_, ?_⟩
        · have s1 := hz (i + 1) (by omega)
          have s2 : (All (i + 1)).length ≤ N := s1
          rw [all_succ] at s2
          simp only [List.length_append, List.length_map, List.length_range] at s2 ⊢
          exact Nat.lt_of_le_of_lt (show _ ≤ 1000000 by omega) (by decide)
        · refine ⟨fun b o hb' z => by rw [upd_ne hb']; exact (eG.trans e4) _ _ (pw.1 b o hb' z), Ex.mut (pw.2.1.trans (eG.trans e4)) hD, ?_⟩
          rw [upd_same, List.range_succ, List.map_append, ← List.append_assoc]
          rfl
      · have ej : j = n1 i := by omega
        subst ej
        refine .inl ⟨w1.stops G (inner _ G pw), p.1, pw.2.1, ?_⟩
        rw [pw.2.2, all_succ]
    · have e : i = n := by omega
      subst e
      exact .inl ⟨w'.stops H' p.2.1, q Dl H' (fresh_back e2 p.1) (e2.trans p.2.1) p.2.2⟩
end

theorem pi_listK {X : Cx} {K : PySem.W.Frag} {tg l : Expr} {tl : TE} (hl : PE X l tl) (hk : X.K = K := by rfl) : PI X tg l (iList K tl) := by subst hk; exact pi_list hl
theorem cr_allK {X : Cx} {K : PySem.W.Frag} (hc : X.calm = true) (hk : X.K = K := by rfl) : CallR X (.builtin "all") (rAll K) := by subst hk; exact cr_all hc
theorem cr_sumK {X : Cx} {K : PySem.W.Frag} (hc : X.calm = true) (hk : X.K = K := by rfl) : CallR X (.builtin "sum") (rSum K) := by subst hk; exact cr_sum hc
theorem ev_sumN {K : PySem.W.Frag} {σ : L2.St} {H : Hp} {te : TE} {ns : List Int} (h : EvL te σ H (ns.map V.int)) : Ev (tCB (rSum K) (tCons te tNil)) σ H (.int ns.sum) := fun H1 e Q q => h H1 e _ fun p H2 _ e2 hp => ⟨p, ns, rfl, sq_of hp, q H2 e2⟩
/-- either of two rules of a call -/
def rOr (r1 r2 : List V → Hp → VK → Prop) : List V → Hp → VK → Prop := fun xs H Q => r1 xs H Q ∨ r2 xs H Q
theorem call_or {X : Cx} {f : Value} {r1 r2 : List V → Hp → VK → Prop} (h1 : CallR X f r1) (h2 : CallR X f r2) : CallR X f (rOr r1 r2) := fun pins s σ H xs us Q I r h => h.elim (h1 pins s σ H xs us Q I r) (h2 pins s σ H xs us Q I r)

/-! ### lots -/
def lotF (n : Int) (l : Addr) : List (Str × V) := [("hours", .int n), ("_members", .ref l)]
/-- v is a lot of n hours with the members ms -/
def LotAt (C : Addr) (H : Hp) (v : V) (n : Int) (ms : List Int) : Prop := ∃ a dx l, v = .ref a ∧ H a = some (.ins C dx (lotF n l)) ∧ H l = some (.lst (ms.map V.int))
theorem LotAt.ex {C : Addr} {H H' : Hp} {v : V} {n : Int} {ms : List Int} (e : Ex H H') (h : LotAt C H v n ms) : LotAt C H' v n ms := by
  obtain ⟨a, dx, l, rfl, h1, h2⟩ := h
  exact ⟨a, dx, l, rfl, e _ _ h1, e _ _ h2⟩
/-- the first residue that was seen before -/
def scanR (n : Int) : List Int → List Int → Option Int
  | _, [] => none
  | seen, m :: r => if m % n ∈ seen then some (m % n) else scanR n (seen ++ [m % n]) r
def resid (n : Int) (S : List Int) : List Int := pick n.toNat (fun h => decide ((h : Int) ∈ S)) fun h => (h : Int)
def flags (N : Nat) (S : List Int) : List V := (List.range N).map fun h : Nat => V.bl (decide ((h : Int) ∈ S))
theorem flags_nil (N : Nat) : (List.replicate N [V.bl false]).flatten = flags N [] := by
  unfold flags
  induction N with
  | zero => rfl
  | succ N ih =>
    rw [List.range_succ, List.map_append, ← ih, List.replicate_succ', List.flatten_append]
    simp
theorem flags_get {N : Nat} {S : List Int} {j : Nat} (h : j < N) : (flags N S)[j]? = some (.bl (decide ((j : Int) ∈ S))) := by
  unfold flags
  rw [List.getElem?_map, List.getElem?_range h]
  rfl
theorem flags_len {N : Nat} {S : List Int} : (flags N S).length = N := by
  unfold flags
  rw [List.length_map, List.length_range]
theorem flags_set {N : Nat} {S : List Int} {j : Nat} (h : j < N) : (flags N S).set j (.bl true) = flags N (S ++ [(j : Int)]) := by
  refine List.ext_getElem? fun i => ?_
  by_cases hi : i < N
  · rw [flags_get hi]
    by_cases e : i = j
    · subst e
      rw [List.getElem?_set_self (by rw [flags_len]; exact hi)]
      simp
    · rw [List.getElem?_set_ne (by omega), flags_get hi]
      have : ¬ (i : Int) = (j : Int) := by omega
      simp [this]
  · rw [List.getElem?_eq_none (by rw [List.length_set, flags_len]; omega), List.getElem?_eq_none (by rw [flags_len]; omega)]
theorem el_rng1 {σ : L2.St} {H : Hp} {te : TE} {tt : TT} {ta : TA} {j : Nat} {vs : List Nat} {n : Int} (f : Nat → Bool) (v : Nat → V) (h : EvA ta σ H [.int n]) (hn : 0 ≤ n ∧ n ≤ 40000)
    (hw : ∀ x, wipe ((wipe σ vs).set j (some x)) vs = wipe σ vs)
    (ht : ∀ (i : Nat) H1, Ex H H1 → (i : Int) < n → EvT tt ((wipe σ vs).set j (some (.int (i : Int)))) H1 (f i))
    (he : ∀ (i : Nat) H1, Ex H H1 → (i : Int) < n → f i = true → Ev te ((wipe σ vs).set j (some (.int (i : Int)))) H1 (v i)) :
    EvL (tLc (iRng1 ta) (gName j) tt te vs) σ H (given n.toNat f v) := el_lcR1 f v h hn hw ht he
theorem putF2 {y z : V} : putF "_members" z (putF "hours" y []) = [(("hours" : Str), y), (("_members" : Str), z)] := by
  have h : ¬ ("hours" : Str) = "_members" := by decide +kernel
  show (if ("hours" : Str) = "_members" then _ else (("hours" : Str), y) :: putF "_members" z []) = _
  rw [if_neg h]
  rfl

/-! ### operators of own classes -/
section
variable {X : Cx} {CX : CXT} {pins : List (Addr × Obj)} {σ : L2.St} {H : Hp} {s : Shared} {f C : Addr} {fd : FuncData} {ps : List Str} {n : Nat} {sp : Sp}
theorem run_own {E : XK} {Q : VK} {us : List Value} {vs : List V} (F : FnOk X.prog X.w X.K X.mg X.base CX n f fd ps sp) (hr : Room n X.A) (hb : Binds X.K fd ps []) (hx : PassesAt CX X σ E)
    (I : Inv X pins σ H s) (r : Vals vs us) (h : sp vs H Q E) : wpAny (model X.prog X.w) X.A (call (.ref f) us) (PySem.W.CmpBack (EP X pins σ Q)) X.xe s := by
  have hl : us.length = ps.length := by rw [← r.length]; exact F.len _ _ _ _ h
  have b := hb s us I.kIn (by rw [List.append_nil]; exact hl)
  rw [List.append_nil] at b
  refine wpAny_call (codeAny_mono (F.run X.A X.stack s H ⟨us, []⟩ us vs Q E hr I.env0 b r h) fun r s' hq => ?_)
  cases r with
  | error e => exact hx pins H s e s' I hq
  | ok fl =>
    cases fl with
    | ret u =>
      obtain ⟨v, H', I', rv, q⟩ := I.after hq
      exact SlX.cmpback rv ⟨v, H', I', rv, q⟩
    | next => exact False.elim hq
    | brk => exact False.elim hq
    | cont => exact False.elim hq
end
/-- what an own operator asks: x an object of the class at C -/
def rOwn1 (C : Addr) (sp : Sp) (E : L2.St → XK) (σ : L2.St) : V → Hp → VK → Prop := fun x H Q => ∃ a dx fs, x = .ref a ∧ H a = some (.ins C dx fs) ∧ sp [x] H Q (E σ)
/-- .. y an object of the same class -/
def rOwn2 (C : Addr) (sp : Sp) (E : L2.St → XK) (σ : L2.St) : R2 := fun x y H Q => ∃ a dx fs b dy gs, x = .ref a ∧ H a = some (.ins C dx fs) ∧ y = .ref b ∧ H b = some (.ins C dy gs) ∧ sp [x, y] H Q (E σ)
/-- .. y an int -/
def rOwnI (C : Addr) (sp : Sp) (E : L2.St → XK) (σ : L2.St) : R2 := fun x y H Q => ∃ a dx fs i, x = .ref a ∧ H a = some (.ins C dx fs) ∧ y = .int i ∧ sp [x, y] H Q (E σ)
def OpS (X : Cx) (f : Value → Value → Sem Value) (r : L2.St → R2) : Prop :=
  ∀ (pins : List (Addr × Obj)) (s : Shared) (σ : L2.St) (H : Hp) (x y : V) (v u : Value) (Q : VK), Inv X pins σ H s → RelV x v → RelV y u → r σ x y H Q → wpAny (model X.prog X.w) X.A (f v u) (EP X pins σ Q) X.xe s
def UnS (X : Cx) (f : Value → Sem Value) (r : L2.St → V → Hp → VK → Prop) : Prop :=
  ∀ (pins : List (Addr × Obj)) (s : Shared) (σ : L2.St) (H : Hp) (x : V) (v : Value) (Q : VK), Inv X pins σ H s → RelV x v → r σ x H Q → wpAny (model X.prog X.w) X.A (f v) (EP X pins σ Q) X.xe s
def tOpS (r : L2.St → R2) (ta tb : TE) : TE := fun σ H Q => ta σ H fun x H1 => tb σ H1 fun y H2 => r σ x y H2 Q
def tUnS (r : L2.St → V → Hp → VK → Prop) (ta : TE) : TE := fun σ H Q => ta σ H fun x H1 => r σ x H1 Q
section
variable {X : Cx} {CX : CXT} {f C : Addr} {fd : FuncData} {ps : List Str} {n : Nat} {sp : Sp} {E : L2.St → XK} {op : Operator} {a b : Expr} {ta tb : TE} {pos : Pos}
theorem pe_opS {r : L2.St → R2} (ho : OpS X (binaryOp op) r) (ha : PE X a ta) (hb : PE X b tb) : PE X (.BinOp a op b pos) (tOpS r ta tb) := by
  refine ⟨fun pins s σ H Q I h => ?_⟩
  exact wpAny_BinOp (binT ha hb I h fun v u s2 x y H2 I2 rx ry q => ho pins s2 σ H2 x y v u Q I2 rx ry q)
theorem pe_unS {op : UnaryOp} {r : L2.St → V → Hp → VK → Prop} (ho : UnS X (unaryOp op) r) (ha : PE X a ta) : PE X (.UnaryOp op a pos) (tUnS r ta) := by
  refine ⟨fun pins s σ H Q I h => ?_⟩
  exact PyProof.Rows.UnaryOp_ (thn (ha.run pins s σ H _ I h) fun v s1 ⟨x, H1, I1, r1, q1⟩ => ho pins s1 σ H1 x v Q I1 r1 q1)
/-- the facts of a class with operators -/
structure Ops (K : PySem.W.Frag) (C : Addr) : Prop where
  first : PySem.W.selfFirst K C = true
  sub : PySem.W.subIn K (.type "int") (.ref C) = some false
theorem un_negO (m : Meth X.K C "__neg__" f) (F : FnOk X.prog X.w X.K X.mg X.base CX n f fd ps sp) (hr : Room n X.A) (hb : Binds X.K fd ps []) (hx : ∀ σ, PassesAt CX X σ (E σ)) : UnS X (unaryOp .USub) (rOwn1 C sp E) := by
  intro pins s σ H x v Q I rx h
  obtain ⟨a, dx, fs, rfl, ha, h⟩ := h
  cases rx
  obtain ⟨mA, J, _⟩ := ins_get I.hok ha
  obtain ⟨od, J, _⟩ := J.look
  obtain ⟨m', hF⟩ := I.fr
  refine PySem.W.ksp_neg hF I.ok.mod.kin J m.at_ m.fn (wpAny_mono (run_own (vs := [V.ref a]) F hr hb (hx σ) I (.cons rfl .nil) h) (fun v s' hv => ?_) fun _ _ e => e)
  cases v <;> first | exact hv.elim | exact hv
theorem un_invO (m : Meth X.K C "__invert__" f) (F : FnOk X.prog X.w X.K X.mg X.base CX n f fd ps sp) (hr : Room n X.A) (hb : Binds X.K fd ps []) (hx : ∀ σ, PassesAt CX X σ (E σ)) : UnS X (unaryOp .Invert) (rOwn1 C sp E) := by
  intro pins s σ H x v Q I rx h
  obtain ⟨a, dx, fs, rfl, ha, h⟩ := h
  cases rx
  obtain ⟨mA, J, _⟩ := ins_get I.hok ha
  obtain ⟨od, J, _⟩ := J.look
  obtain ⟨m', hF⟩ := I.fr
  refine PySem.W.ksp_inv hF I.ok.mod.kin J m.at_ m.fn (wpAny_mono (run_own (vs := [V.ref a]) F hr hb (hx σ) I (.cons rfl .nil) h) (fun v s' hv => ?_) fun _ _ e => e)
  cases v <;> first | exact hv.elim | exact hv
theorem op_own2 (o : Ops X.K C) (m : Meth X.K C (PySem.dunder op.info.2) f) (F : FnOk X.prog X.w X.K X.mg X.base CX n f fd ps sp) (hr : Room n X.A) (hb : Binds X.K fd ps []) (hx : ∀ σ, PassesAt CX X σ (E σ)) : OpS X (binaryOp op) (rOwn2 C sp E) := by
  intro pins s σ H x y v u Q I rx ry h
  obtain ⟨a, dx, fs, b, dy, gs, rfl, ha, rfl, hb', h⟩ := h
  cases rx
  cases ry
  obtain ⟨mA, J, _⟩ := ins_get I.hok ha
  obtain ⟨od, J, _⟩ := J.look
  obtain ⟨mB, J', _⟩ := ins_get I.hok hb'
  obtain ⟨od', J', _⟩ := J'.look
  obtain ⟨m', hF⟩ := I.fr
  exact PySem.W.binop_K hF I.ok.mod.kin J J'.type o.first m.at_ m.fn (run_own (vs := [V.ref a, V.ref b]) F hr hb (hx σ) I (.cons rfl (.cons rfl .nil)) h)
theorem op_ownI {rc : Option Value} {fo ro : Option Value} (o : Ops X.K C) (m : Meth X.K C (PySem.dunder op.info.2) f) (hrc : PySem.W.findIn X.K (.ref C) (dunderR op.info.2) = some rc) (hp : rc = none ∨ ∃ g : Addr, rc = some (.ref g))
    (h1 : PySem.W.findIn X.K (.type "int") (PySem.dunder op.info.2) = some fo) (h2 : PySem.W.findIn X.K (.type "int") (dunderR op.info.2) = some ro)
    (F : FnOk X.prog X.w X.K X.mg X.base CX n f fd ps sp) (hr : Room n X.A) (hb : Binds X.K fd ps []) (hx : ∀ σ, PassesAt CX X σ (E σ)) : OpS X (binaryOp op) (rOwnI C sp E) := by
  intro pins s σ H x y v u Q I rx ry h
  obtain ⟨a, dx, fs, i, rfl, ha, rfl, h⟩ := h
  cases rx
  obtain ⟨t, rfl⟩ := (show ∃ t, u = Value.int i t from ry)
  obtain ⟨mA, J, _⟩ := ins_get I.hok ha
  obtain ⟨od, J, _⟩ := J.look
  obtain ⟨m', hF⟩ := I.fr
  exact PySem.W.ksp_binT hF I.ok.mod.kin J rfl o.first m.at_ m.fn hrc hp h1 h2 o.sub (run_own (vs := [V.ref a, V.int i]) F hr hb (hx σ) I (.cons rfl (.cons ⟨t, rfl⟩ .nil)) h)
end
section
variable {X : Cx} {CX : CXT} {pins : List (Addr × Obj)} {σ : L2.St} {H : Hp} {s : Shared} {f C : Addr} {fd : FuncData} {ps : List Str} {n : Nat} {sp : Sp}
/-- .. called from a place A below the running body -/
theorem run_ownA {A : Around} {E : XK} {Q : VK} {us : List Value} {vs : List V} (F : FnOk X.prog X.w X.K X.mg X.base CX n f fd ps sp) (hr : Room n A) (hf : A.frames = X.A.frames) (hb : Binds X.K fd ps []) (hx : PassesAt CX X σ E)
    (I : Inv X pins σ H s) (r : Vals vs us) (h : sp vs H Q E) : wpAny (model X.prog X.w) A (call (.ref f) us) (EP X pins σ Q) X.xe s := by
  have hl : us.length = ps.length := by rw [← r.length]; exact F.len _ _ _ _ h
  have b := hb s us I.kIn (by rw [List.append_nil]; exact hl)
  rw [List.append_nil] at b
  have e0 : Env0 X.prog X.w X.K X.mg X.base A X.stack s H := by
    have e := I.env0
    exact ⟨by rw [hf]; exact e.frames, e.mod, e.bs, e.bsz, e.funs, e.frf, e.hok, e.bare⟩
  refine wpAny_call (codeAny_mono (F.run A X.stack s H ⟨us, []⟩ us vs Q E hr e0 b r h) fun r s' hq => ?_)
  cases r with
  | error e => exact hx pins H s e s' I hq
  | ok fl =>
    cases fl with
    | ret u => exact I.after hq
    | next => exact False.elim hq
    | brk => exact False.elim hq
    | cont => exact False.elim hq
theorem ty_looks {x : V} {u t : Value} (I : Inv X pins σ H s) (rx : RelV x u) (ty : TyX X.K H x t) : PySem.W.Looks (model X.prog X.w) s.heap (typeOf u) t := by
  obtain ⟨P, kx, hp, _⟩ := kit_of I rx ty
  exact kx.ty _ _ I.kIn hp
end
/-- x an object of the class at C, y of any known type -/
def rOwnC (K : PySem.W.Frag) (C : Addr) (sp : Sp) (E : L2.St → XK) (σ : L2.St) : R2 := fun x y H Q => ∃ a dx fs tb, x = .ref a ∧ H a = some (.ins C dx fs) ∧ TyX K H y tb ∧ PySem.W.notFirst K C tb = true ∧ sp [x, y] H Q (E σ)
/-- not ==: the other answer -/
def rOwnN (K : PySem.W.Frag) (C : Addr) (sp : Sp) (E : L2.St → XK) (σ : L2.St) : R2 := fun x y H Q => ∃ a dx fs tb, x = .ref a ∧ H a = some (.ins C dx fs) ∧ TyX K H y tb ∧ PySem.W.notFirst K C tb = true ∧ sp [x, y] H (fun v H' => ∃ b, v = .bl b ∧ Q (.bl (!b)) H') (E σ)
/-- y in x, x an object of the class at C -/
def rOwnIn (C : Addr) (sp : Sp) (E : L2.St → XK) (σ : L2.St) : R2 := fun y x H Q => ∃ a dx fs, x = .ref a ∧ H a = some (.ins C dx fs) ∧ sp [x, y] H (fun v H' => ∃ b, v = .bl b ∧ Q (.bl b) H') (E σ)
section
variable {X : Cx} {CX : CXT} {f C : Addr} {fd : FuncData} {ps : List Str} {n : Nat} {sp : Sp} {E : L2.St → XK} {a b : Expr} {ta tb : TE} {pos : Pos}
theorem pe_cmpS {op : CmpOp} {r : L2.St → R2} (ho : OpS X (compareOp op) r) (ha : PE X a ta) (hb : PE X b tb) (hm : behindInMarks op b = false) : PE X (.Compare a [op] [b] pos) (tOpS r ta tb) := by
  refine ⟨fun pins s σ H Q I h => ?_⟩
  exact wpAny_Compare1 (binT ha hb I h fun v u s2 x y H2 I2 rx ry q => ho pins s2 σ H2 x y v u Q I2 rx ry q) hm
theorem pt_cmpS {op : CmpOp} {r : L2.St → R2} (ho : OpS X (compareOp op) r) (ha : PE X a ta) (hb : PE X b tb) (hm : behindInMarks op b = false) : PT X (.Compare a [op] [b] pos) (tTest (tOpS r ta tb)) := by
  refine ⟨fun pins s σ H Q I h => ?_⟩
  refine wpAny_isTrue_Compare1 (thn (ha.run pins s σ H _ I h) fun v s1 ⟨x, H1, I1, r1, q1⟩ => thn (hb.run pins s1 σ H1 _ I1 q1) fun u s2 ⟨y, H2, I2, r2, q2⟩ =>
    thn (ho pins s2 σ H2 x y v u _ I2 r1 r2 q2) fun c s3 ⟨z, H3, I3, r3, k, e, q3⟩ => ?_) hm
  subst e
  cases r3
  exact wpAny_truthy_bool ⟨H3, I3, q3⟩
theorem op_ownC {K : PySem.W.Frag} {op : CmpOp} (hop : ∀ v u, compareOp op v u = richCompare op v u) (m : Meth X.K C (cmpInfo op).2.1 f) (F : FnOk X.prog X.w X.K X.mg X.base CX n f fd ps sp) (hr : Room n X.A) (hb : Binds X.K fd ps []) (hx : ∀ σ, PassesAt CX X σ (E σ))
    (hk : X.K = K := by rfl) : OpS X (compareOp op) (rOwnC K C sp E) := by
  subst hk
  intro pins s σ H x y v u Q I rx ry h
  obtain ⟨a, dx, fs, tb, rfl, ha, ty, nf, h⟩ := h
  cases rx
  obtain ⟨mA, J, _⟩ := ins_get I.hok ha
  obtain ⟨od, J, _⟩ := J.look
  obtain ⟨m', hF⟩ := I.fr
  rw [hop]
  exact PySem.W.cmp_K hr.units0 hF I.ok.mod.kin J (ty_looks I ry ty) nf m.at_ m.fn (run_own (vs := [V.ref a, y]) F hr hb (hx σ) I (.cons rfl (.cons ry .nil)) h)
/-- len of an object with an own __len__ -/
def rOwnLen (C : Addr) (sp : Sp) (E : XK) : List V → Hp → VK → Prop := fun xs H Q => ∃ a dx fs, xs = [.ref a] ∧ H a = some (.ins C dx fs) ∧ sp [.ref a] H (fun v H' => ∃ i : Int, v = .int i ∧ (0 ≤ i ∧ i < 2 ^ 63) ∧ Q (.int i) H') E
theorem call_lenO {E : XK} (m : Meth X.K C "__len__" f) (F : FnOk X.prog X.w X.K X.mg X.base CX n f fd ps sp) (hr : Room (n + 1) X.A) (hb : Binds X.K fd ps []) (hx : ∀ σ, PassesAt CX X σ E) : CallR X (.builtin "len") (rOwnLen C sp E) := by
  intro pins s σ H xs us Q I r h
  obtain ⟨a, dx, fs, rfl, ha, h⟩ := h
  obtain ⟨u, rfl, rx⟩ := vals1 r
  cases rx
  obtain ⟨mA, J, _⟩ := ins_get I.hok ha
  obtain ⟨od, J, _⟩ := J.look
  obtain ⟨m', hF⟩ := I.fr
  refine PySem.W.len_K hF I.ok.mod.kin J m.at_ m.fn (wpAny_mono (run_ownA (vs := [V.ref a]) F hr.in1 rfl hb (hx σ) I (.cons rfl .nil) h) (fun v s' hv => ?_) fun _ _ e => e)
  obtain ⟨z, H', I', rv, i, rfl, hi, q⟩ := hv
  obtain ⟨t, rfl⟩ := (show ∃ t, v = Value.int i t from rv)
  exact ⟨hi, ⟨.int i, H', I'.tok _, ⟨_, rfl⟩, q⟩⟩
theorem op_ownIn (m : Meth X.K C "__contains__" f) (F : FnOk X.prog X.w X.K X.mg X.base CX n f fd ps sp) (hr : Room n X.A) (hb : Binds X.K fd ps []) (hx : ∀ σ, PassesAt CX X σ (E σ)) : OpS X (compareOp .In) (rOwnIn C sp E) := by
  intro pins s σ H y x u v Q I ry rx h
  obtain ⟨a, dx, fs, rfl, ha, h⟩ := h
  cases rx
  obtain ⟨mA, J, _⟩ := ins_get I.hok ha
  obtain ⟨od, J, _⟩ := J.look
  have hX := I.kIn
  have one := run_own (vs := [V.ref a, y]) F hr hb (hx σ) I (.cons rfl (.cons ry .nil)) h
  show wpAny _ _ (do return Value.bool (← contains (.ref a) u)) _ X.xe s
  refine wpAny_bind ?_
  unfold contains
  refine wpAny_holding ?_
  refine wpAny_bind (wpAny_bind (J.type.here ((PySem.W.looks_findIn hX m.at_).here ?_)))
  show wpAny _ _ (if (some (Value.ref f) == some Value.none) = true then _ else _) _ X.xe s
  rw [if_neg (by simp)]
  unfold callSpecialUnlessNone?
  refine wpAny_bind (wpAny_bind (wpAny_bind (J.type.here ((PySem.W.looks_findIn hX m.at_).here ?_))))
  refine wpAny_holding (wpAny_bind ((PySem.W.bind_fn hX _ (beq_iff_eq.mp m.fn)).here ?_))
  show wpAny _ _ (if (Value.ref f == Value.none) = true then _ else _) _ X.xe s
  rw [if_neg (by simp)]
  refine wpAny_bind (wpAny_mono one (fun z s' hz => ?_) fun _ _ e => e)
  have hz' : (EP X pins σ fun v H' => ∃ b, v = .bl b ∧ Q (.bl b) H') z s' := by
    cases z <;> first | exact hz.elim | exact hz
  obtain ⟨v, H', I', rv, b, rfl, q⟩ := hz'
  cases (show z = Value.bool b from rv)
  refine wpAny_pure ?_
  exact wpAny_truthy_bool (wpAny_pure ⟨.bl b, H', I', rfl, q⟩)
end
/-! ### x op= y for classes without the in-place method -/
section
variable {prog : Program} {w : World} {A : Around} {R : Value → Shared → Prop} {s : Shared} {K : PySem.W.Frag} {x C f : Addr} {ox : Obj} {od : Option Obj} {y : Value} {nm : String}
/-- the first class of a class at C is the class itself -/
theorem mro_first (hc : PySem.W.selfFirst K C = true) : ∃ (d : ClassData) (r : List Value), PySem.W.clsIn K C = some d ∧ d.mro = .ref C :: r := by
  obtain ⟨d, hd, e⟩ := PySem.W.any_some hc
  cases q : d.mro with
  | nil => rw [q] at e; cases e
  | cons u r =>
    rw [q] at e
    cases (beq_iff_eq.mp e)
    exact ⟨d, r, hd, q⟩
theorem bin1_own {Q : Option Value → Shared → Prop} (X : K.In s.heap) (I : PySem.W.InstAt s.heap x ox C od) (hy : PySem.W.Looks (model prog w) s.heap (typeOf y) (.ref C)) (hc : PySem.W.selfFirst K C = true)
    (hs : PySem.W.findIn K (.ref C) (PySem.dunder nm) = some (some (.ref f))) (hf : PySem.W.isFn K (.ref f) = true) (h : wpAny (model prog w) A (call (.ref f) [.ref x, y]) (PySem.W.CmpBack fun v => Q (some v)) R s) :
    wpAny (model prog w) A (binaryOp1 nm (.ref x) y) Q R s := by
  obtain ⟨d, r, hd, hm⟩ := mro_first hc
  have fl := PySem.W.fills_K (M := model prog w) X hd hm hs
  unfold binaryOp1
  refine wpAny_bind (I.type.here ?_)
  refine wpAny_bind (hy.here ?_)
  refine wpAny_bind (fl.here ?_)
  simp only [beq_self_eq_true, if_true]
  refine wpAny_bind (wpAny_pure ?_)
  simp only [Bool.and_false, Bool.false_and, Bool.false_eq_true, if_false]
  refine wpAny_bind (wpAny_pure ?_)
  simp only [Bool.false_eq_true, if_false]
  refine wpAny_bind (m := tryMethod (.ref x) _ y) ?_
  unfold tryMethod
  refine wpAny_bind ?_
  refine PySem.W.special_fn X I hs (beq_iff_eq.mp hf) (wpAny_mono h (fun v t hv => ?_) fun _ _ z => z)
  cases v <;> first | exact hv.elim | exact wpAny_pure (wpAny_pure hv)
theorem no_inplace {M : Model} {h : Heap} {add : Bool} (X : K.In h) {d : ClassData} (hd : PySem.W.clsIn K C = some d) (hm : d.mro = [.ref C, .type "object"]) (hc : PySem.W.findIn K (.ref C) (dunderI nm) = some none)
    (ho : PySem.W.findIn K (.type "object") (dunderI nm) = some none) : PySem.W.Looks M h (fillsInplaceSlot (.ref C) nm add) false := by
  intro A Q E s k q
  have Lm : PySem.W.Looks M h (mroOf (.ref C)) d.mro := (PySem.W.looks_clsIn X hd).andThen (f := fun d => pure d.mro) .now
  have X' : K.In s.heap := X.keeps k
  have L1 : PySem.W.Looks M s.heap (typeLookup (.ref C) (dunderI nm)) none := PySem.W.looks_findIn X' hc
  have L2 : PySem.W.Looks M s.heap (typeLookup (.type "object") (dunderI nm)) none := PySem.W.looks_findIn X' ho
  unfold fillsInplaceSlot
  refine wpAny_bind ((Lm.keeps k).here ?_)
  rw [hm, List.anyM_cons]
  refine wpAny_bind (wpAny_bind (L1.here (wpAny_pure ?_)))
  simp only [Bool.false_eq_true, if_false]
  rw [List.anyM_cons]
  refine wpAny_bind (wpAny_bind (L2.here (wpAny_pure ?_)))
  simp only [Bool.false_eq_true, if_false]
  exact wpAny_pure q
theorem inplace_by {op : Operator} {Q : Value → Shared → Prop} (I : PySem.W.InstAt s.heap x ox C od) (L : PySem.W.Looks (model prog w) s.heap (fillsInplaceSlot (.ref C) op.info.2 (op == .Add)) false)
    (h : wpAny (model prog w) A (binaryOp1 op.info.2 (.ref x) y) (fun r t => ∃ v, r = some v ∧ Q v t) R s) : wpAny (model prog w) A (inplaceOp op (.ref x) y) Q R s := by
  unfold inplaceOp
  refine wpAny_holding ?_
  refine wpAny_bind (I.type.here ?_)
  refine wpAny_bind (L.here ?_)
  simp only [Bool.false_eq_true, if_false]
  refine wpAny_bind (wpAny_mono h (fun r t hr => ?_) fun _ _ z => z)
  obtain ⟨v, rfl, q⟩ := hr
  exact wpAny_pure q
theorem bin1_int {i : Int} {t : Tok} {Q : Option Value → Shared → Prop} {rc fo ro : Option Value} (X : K.In s.heap) (I : PySem.W.InstAt s.heap x ox C od) (hc : PySem.W.selfFirst K C = true)
    (hs : PySem.W.findIn K (.ref C) (PySem.dunder nm) = some (some (.ref f))) (hf : PySem.W.isFn K (.ref f) = true) (hr : PySem.W.findIn K (.ref C) (dunderR nm) = some rc) (hp : rc = none ∨ ∃ g : Addr, rc = some (.ref g))
    (h1 : PySem.W.findIn K (.type "int") (PySem.dunder nm) = some fo) (h2 : PySem.W.findIn K (.type "int") (dunderR nm) = some ro) (hsub : PySem.W.subIn K (.type "int") (.ref C) = some false)
    (h : wpAny (model prog w) A (call (.ref f) [.ref x, .int i t]) (PySem.W.CmpBack fun v => Q (some v)) R s) : wpAny (model prog w) A (binaryOp1 nm (.ref x) (.int i t)) Q R s := by
  obtain ⟨d, r, hd, hm⟩ := mro_first hc
  have la : PySem.W.Looks (model prog w) s.heap (fillsNumberSlot (.ref C) nm) true := PySem.W.fills_K X hd hm hs
  have lb : PySem.W.Looks (model prog w) s.heap (fillsNumberSlot (.type "int") nm) ((fo.isSome && !isSeqSlot fo) || (ro.isSome && !isSeqSlot ro)) := PySem.W.ksp_fillsT X h1 h2
  have ls : PySem.W.Looks (model prog w) s.heap (isSubtype (.type "int") (.ref C)) false := PySem.W.looks_subIn X hsub
  have lp : PySem.W.Looks (model prog w) s.heap (numberSlotInPython (.ref C) nm) true := PySem.W.ksp_inPy X hs hr hp
  have lq : PySem.W.Looks (model prog w) s.heap (numberSlotInPython (.type "int") nm) false := PySem.W.Looks.of_pure rfl
  have lt : PySem.W.Looks (model prog w) s.heap (typeLookup (.type "int") (dunderR nm)) ro := PySem.W.looks_findIn X h2
  have ly : PySem.W.Looks (model prog w) s.heap (typeOf (.int i t)) (.type "int") := PySem.W.Looks.of_pure rfl
  generalize ((fo.isSome && !isSeqSlot fo) || (ro.isSome && !isSeqSlot ro)) = right at lb
  have ne : (Value.ref C == Value.type "int") = false := by simp
  have one : wpAny (model prog w) A (tryMethod (.ref x) (PySem.dunder nm) (.int i t)) (fun r s' => ∃ v, r = some v ∧ Q (some v) s') R s := by
    unfold tryMethod
    refine wpAny_bind (PySem.W.special_fn X I hs (beq_iff_eq.mp hf) (wpAny_mono h (fun v s' hv => ?_) fun _ _ z => z))
    cases v <;> first | exact hv.elim | exact wpAny_pure ⟨_, rfl, hv⟩
  unfold binaryOp1
  refine wpAny_bind (I.type.here ?_)
  refine wpAny_bind (ly.here ?_)
  refine wpAny_bind (la.here ?_)
  simp only [ne, Bool.false_eq_true, if_false]
  refine wpAny_bind (lb.here ?_)
  cases right with
  | false =>
    simp only [Bool.and_false, Bool.false_and, Bool.false_eq_true, if_false, if_true]
    refine wpAny_bind (wpAny_pure ?_)
    simp only [Bool.false_eq_true, if_false]
    refine wpAny_bind (wpAny_mono one (fun r s' hr' => ?_) fun _ _ z => z)
    obtain ⟨v, rfl, q⟩ := hr'
    exact wpAny_pure q
  | true =>
    simp only [Bool.and_true, Bool.not_false, if_true]
    refine wpAny_bind (ls.here ?_)
    simp only [Bool.false_eq_true, if_false]
    refine wpAny_bind (lp.here ?_)
    simp only [if_true]
    refine wpAny_bind (lq.here ?_)
    simp only [Bool.not_false, if_true]
    refine wpAny_bind (lt.here ?_)
    refine wpAny_bind (wpAny_mono one (fun r s' hr' => ?_) fun _ _ z => z)
    obtain ⟨v, rfl, q⟩ := hr'
    exact wpAny_pure q
end
/-- what a class without in-place methods has -/
structure NoIn (K : PySem.W.Frag) (C : Addr) (d : ClassData) : Prop where
  at_ : PySem.W.clsIn K C = some d
  mro : d.mro = [.ref C, .type "object"]
section
variable {X : Cx} {CX : CXT} {f C : Addr} {fd : FuncData} {ps : List Str} {n : Nat} {sp : Sp} {E : XK} {op : Operator} {d : ClassData}
theorem ip_own2 (o : Ops X.K C) (ni : NoIn X.K C d) (m : Meth X.K C (PySem.dunder op.info.2) f) (h1 : PySem.W.findIn X.K (.ref C) (dunderI op.info.2) = some none) (h2 : PySem.W.findIn X.K (.type "object") (dunderI op.info.2) = some none)
    (F : FnOk X.prog X.w X.K X.mg X.base CX n f fd ps sp) (hr : Room n X.A) (hb : Binds X.K fd ps []) (hx : ∀ σ, PassesAt CX X σ E) : OpR X (inplaceOp op) (rOwn2 C sp (fun _ => E) []) := by
  intro pins s σ H x y v u Q I rx ry h
  obtain ⟨a, dx, fs, b, dy, gs, rfl, ha, rfl, hb', h⟩ := h
  cases rx
  cases ry
  obtain ⟨mA, J, _⟩ := ins_get I.hok ha
  obtain ⟨od, J, _⟩ := J.look
  obtain ⟨mB, J', _⟩ := ins_get I.hok hb'
  obtain ⟨od', J', _⟩ := J'.look
  refine inplace_by J (no_inplace I.kIn ni.at_ ni.mro h1 h2) (bin1_own I.kIn J J'.type o.first m.at_ m.fn (wpAny_mono (run_own (vs := [V.ref a, V.ref b]) F hr hb (hx σ) I (.cons rfl (.cons rfl .nil)) h) (fun v s' hv => ?_) fun _ _ e => e))
  cases v <;> first | exact hv.elim | exact ⟨_, rfl, hv⟩
theorem ip_ownI {rc fo ro : Option Value} (o : Ops X.K C) (ni : NoIn X.K C d) (m : Meth X.K C (PySem.dunder op.info.2) f) (hi1 : PySem.W.findIn X.K (.ref C) (dunderI op.info.2) = some none) (hi2 : PySem.W.findIn X.K (.type "object") (dunderI op.info.2) = some none)
    (hrc : PySem.W.findIn X.K (.ref C) (dunderR op.info.2) = some rc) (hp : rc = none ∨ ∃ g : Addr, rc = some (.ref g)) (h1 : PySem.W.findIn X.K (.type "int") (PySem.dunder op.info.2) = some fo) (h2 : PySem.W.findIn X.K (.type "int") (dunderR op.info.2) = some ro)
    (F : FnOk X.prog X.w X.K X.mg X.base CX n f fd ps sp) (hr : Room n X.A) (hb : Binds X.K fd ps []) (hx : ∀ σ, PassesAt CX X σ E) : OpR X (inplaceOp op) (rOwnI C sp (fun _ => E) []) := by
  intro pins s σ H x y v u Q I rx ry h
  obtain ⟨a, dx, fs, i, rfl, ha, rfl, h⟩ := h
  cases rx
  obtain ⟨t, rfl⟩ := (show ∃ t, u = Value.int i t from ry)
  obtain ⟨mA, J, _⟩ := ins_get I.hok ha
  obtain ⟨od, J, _⟩ := J.look
  refine inplace_by J (no_inplace I.kIn ni.at_ ni.mro hi1 hi2) (bin1_int I.kIn J o.first m.at_ m.fn hrc hp h1 h2 o.sub (wpAny_mono (run_own (vs := [V.ref a, V.int i]) F hr hb (hx σ) I (.cons rfl (.cons ⟨t, rfl⟩ .nil)) h) (fun v s' hv => ?_) fun _ _ e => e))
  cases v <;> first | exact hv.elim | exact ⟨_, rfl, hv⟩
end
theorem pAt {X : Cx} {CX : CXT} {E : XK} (h : Passes CX X E) : ∀ σ : L2.St, PassesAt CX X σ E := fun σ pins H s e s' I c => h pins σ H s e s' I c
/-- what a binary operator with an int on the right asks of the class at C -/
structure IntOp (K : PySem.W.Frag) (C : Addr) (nm : String) : Prop where
  rc : ∃ rc, PySem.W.findIn K (.ref C) (dunderR nm) = some rc ∧ (rc = none ∨ ∃ g : Addr, rc = some (.ref g))
  lo : ∃ fo, PySem.W.findIn K (.type "int") (PySem.dunder nm) = some fo
  ro : ∃ ro, PySem.W.findIn K (.type "int") (dunderR nm) = some ro
section
variable {X : Cx} {CX : CXT} {f C : Addr} {fd : FuncData} {ps : List Str} {n : Nat} {sp : Sp} {op : Operator}
theorem op_ownJ {E : L2.St → XK} (o : Ops X.K C) (m : Meth X.K C (PySem.dunder op.info.2) f) (j : IntOp X.K C op.info.2) (F : FnOk X.prog X.w X.K X.mg X.base CX n f fd ps sp) (hr : Room n X.A) (hb : Binds X.K fd ps []) (hx : ∀ σ, PassesAt CX X σ (E σ)) :
    OpS X (binaryOp op) (rOwnI C sp E) := by
  obtain ⟨⟨rc, h1, h2⟩, ⟨fo, h3⟩, ⟨ro, h4⟩⟩ := j
  exact op_ownI o m h1 h2 h3 h4 F hr hb hx
theorem ip_ownK {E : XK} (o : Ops X.K C) (ni : ∃ d, NoIn X.K C d) (m : Meth X.K C (PySem.dunder op.info.2) f) (h : PySem.W.findIn X.K (.ref C) (dunderI op.info.2) = some none ∧ PySem.W.findIn X.K (.type "object") (dunderI op.info.2) = some none)
    (F : FnOk X.prog X.w X.K X.mg X.base CX n f fd ps sp) (hr : Room n X.A) (hb : Binds X.K fd ps []) (hx : ∀ σ, PassesAt CX X σ E) : OpR X (inplaceOp op) (rOwn2 C sp (fun _ => E) []) := by
  obtain ⟨d, ni⟩ := ni
  exact ip_own2 o ni m h.1 h.2 F hr hb hx
theorem ip_ownJ {E : XK} (o : Ops X.K C) (ni : ∃ d, NoIn X.K C d) (m : Meth X.K C (PySem.dunder op.info.2) f) (j : IntOp X.K C op.info.2) (h : PySem.W.findIn X.K (.ref C) (dunderI op.info.2) = some none ∧ PySem.W.findIn X.K (.type "object") (dunderI op.info.2) = some none)
    (F : FnOk X.prog X.w X.K X.mg X.base CX n f fd ps sp) (hr : Room n X.A) (hb : Binds X.K fd ps []) (hx : ∀ σ, PassesAt CX X σ E) : OpR X (inplaceOp op) (rOwnI C sp (fun _ => E) []) := by
  obtain ⟨d, ni⟩ := ni
  obtain ⟨⟨rc, h1, h2⟩, ⟨fo, h3⟩, ⟨ro, h4⟩⟩ := j
  exact ip_ownI o ni m h.1 h.2 h1 h2 h3 h4 F hr hb hx
end

/-! ### try with several except clauses, each with a name or without -/
def endsA (D : Ends) : Option Nat → Ends
  | none => D
  | some i => { nx := fun σ H => D.nx (σ.set i none) H, rt := D.rt, bk := fun σ H => D.bk (σ.set i none) H, ct := fun σ H => D.ct (σ.set i none) H }
def putA (σ : L2.St) (a : Addr) : Option Nat → L2.St
  | none => σ
  | some i => σ.set i (some (.ref a))
abbrev Clause := Value × Option Nat × (Addr → Value → Option Addr → TS)
/-- what the clauses wish of what the body raises, one behind another -/
def wMas (K : PySem.W.Frag) (Wo : WX) (D : Ends) : List Clause → WX
  | [] => Wo
  | q :: r => fun cls d σ H => ∃ b, PySem.W.exmOne K cls q.1 = some b ∧ (b = true → ∀ a, H a = none → q.2.2 a cls d (endsA D q.2.1) (putA σ a q.2.1) H) ∧ (b = false → wMas K Wo D r cls d σ H)
inductive Clauses (X : Cx) : List ExceptHandler → List Clause → Prop
  | nil : Clauses X [] []
  | bare {x : Str} {c : Value} {ts : Addr → Value → Option Addr → TS} {s0 : Stmt} {sr : List Stmt} {p p' : Pos} {hs : List ExceptHandler} {l : List Clause} (hc : Names X x c)
      (hb : ∀ (a : Addr) (oe : Obj) (cls : Value) (d : Option Addr) (pn : List (Addr × Obj)), Zc cls d oe → (∃ vs, oe.data = .fields vs) → PSs (X.suite a ((a, oe) :: pn)) (s0 :: sr) (ts a cls d)) (r : Clauses X hs l) :
      Clauses X (.ExceptHandler (some (.Name x p)) none (s0 :: sr) p' :: hs) ((c, none, ts) :: l)
  | named {x n : Str} {i : Nat} {c : Value} {ts : Addr → Value → Option Addr → TS} {s0 : Stmt} {sr : List Stmt} {p p' : Pos} {hs : List ExceptHandler} {l : List Clause} (hi : X.N[i]? = some n) (hl : X.env.kindOf n = some .local) (hc : Names X x c)
      (hb : ∀ (a : Addr) (oe : Obj) (cls : Value) (d : Option Addr) (pn : List (Addr × Obj)), Zc cls d oe → (∃ vs, oe.data = .fields vs) → PSs (X.suite a ((a, oe) :: pn)) (s0 :: sr) (ts a cls d)) (r : Clauses X hs l) :
      Clauses X (.ExceptHandler (some (.Name x p)) (some n) (s0 :: sr) p' :: hs) ((c, some i, ts) :: l)
section
open PySem.Spec PyProof.Rows
variable {X : Cx} {body : List Stmt} {h0 : ExceptHandler} {hs : List ExceptHandler} {l : List Clause} {pos : Pos} {tb : WX → TS} {Wo : WX}
theorem ps_try_mas (hst : X.stack = X.env :: X.outer) (hfm : X.env.frame = some X.env.locals) (hND : X.N.Nodup) (tk : Takes X Wo)
    (hbody : ∀ (W : WX) (pn : List (Addr × Obj)) (xe : Value → Shared → Prop), Takes (X.tr pn xe) W → PassesOwn (model X.prog X.w) X.A X.env xe → PSs (X.tr pn xe) body (tb W))
    (hcl : Clauses X (h0 :: hs) l) : PS X (.Try body (h0 :: hs) [] [] pos) (fun D σ H => tb (wMas X.K Wo D l) D σ H) := by
  refine ⟨fun pins s σ H D I hq => ?_⟩
  have okX := I.ok
  have frX : X.A.frames = some (X.env :: X.outer) := by rw [okX.frames, hst]
  let fly : Value → Shared → Prop := fun e s1 => wpAny (model X.prog X.w) X.A (noteFrame e X.env) (fun _ s2 => wpAny (model X.prog X.w) X.A (setFlight e none) (fun _ s3 => wpAny (model X.prog X.w) X.A (handleBy e X.env (h0 :: hs)) (SP X pins D) X.xe s3) X.xe s2) X.xe s1
  refine wpAny_Try_except (wpAny_mono ((hbody (wMas X.K Wo D l) (X.pn ++ pins) fly (fun u t flown => ?_) PassesOwn.looking).run [] s σ H D (I.toTry _) hq) (fun f t done => ?_) fun e t z => z)
  · obtain ⟨a, B, sI, pins', σ1, G, cls, d, rfl, J0, nb, up, sky, na, os, ag, wish⟩ := flown
    have J : Inv X pins σ1 G sI := J0.ofTry okX
    show wpAny (model X.prog X.w) X.A (noteFrame (.ref a) X.env) _ _ _
    refine Sky.land Zc.steady frX hfm (show Sky B (X.env :: X.outer) a (Zc cls d) X.env.locals t.heap by rw [← hst]; exact sky) fun g fl upg => ?_
    have Jg : Inv X pins σ1 G { t with heap := g } := J.landed nb fl.1 (up.trans upg) os ag
    obtain ⟨ob, vb, at_b, zc_b, da_b⟩ := fl.there
    have apart : ∀ {g' : Heap} {o : Obj} {us : Array Value}, g'.FunFrames B (X.env :: X.outer) → g'.get? a = some o → o.data = .fields us → a ∉ frs (X.env :: X.outer) := fun {g' o us} ff ea da hm => by
      obtain ⟨_, o2, e2, nf⟩ := ff.mem hm
      rw [ea] at e2
      cases e2
      exact nf _ da
    have out1 := apart fl.2.2.1 at_b da_b
    have out2 : a ≠ X.env.locals := fun z => out1 (List.mem_filterMap.mpr ⟨X.env, List.mem_cons_self, by rw [hfm, z]⟩)
    have out3 : a ∉ X.fs := fun hm => by
      obtain ⟨e, he, q⟩ := List.mem_filterMap.mp hm
      exact out1 (List.mem_filterMap.mpr ⟨e, List.mem_cons_of_mem _ he, q⟩)
    have Sb := Jg.suite at_b da_b na out2 out3
    have look : ∀ {x : Str} {c : Value} {p : Pos} {R : Value → Shared → Prop} {R' : Value → Shared → Prop}, Names X x c → R c { t with heap := g } → wpAny (model X.prog X.w) (X.A.mark (some (.ref a))) (eval (.Name x p) X.env) R R' { t with heap := g } := fun {x c p R R'} hc q => by
      obtain ⟨hg, hdb, hm | ⟨hm, hv, hn⟩⟩ := hc
      · exact ld_glob (X := X.suite a ((a, ob) :: (X.pn ++ pins))) Sb hg hm q hdb
      · exact ld_blt (X := X.suite a ((a, ob) :: (X.pn ++ pins))) Sb hg hm hv q hn hdb
    have kind : PySem.W.Looks (model X.prog X.w) g (typeOf (.ref a)) cls := fun A Q E s k q => wpAny_typeOf_ref (k _ _ at_b) (by rw [zc_b.1]; exact q)
    have each : ∀ {hs' : List ExceptHandler} {l' : List Clause}, Clauses X hs' l' → wMas X.K Wo D l' cls d σ1 G → wpAny (model X.prog X.w) X.A (handleBy (.ref a) X.env hs') (SP X pins D) X.xe { t with heap := g } := by
      intro hs' l' hk
      induction hk with
      | nil =>
        intro wi
        refine wpAny_handleBy_nil ?_
        obtain ⟨_, _, _, oe, ue, TB, oT, te, g1, g2, g3, g4, g5⟩ := id fl
        unfold PySem.passOn
        refine wpAny_bind (wpAny_field g1 g3 g4 ?_)
        rw [if_neg (show ¬ ((Value.ref TB == Value.none) = true) from by simp)]
        have away : wpAny (model X.prog X.w) X.A (setFlight (.ref a) X.env.frame) (fun _ s4 => wpAny (model X.prog X.w) X.A (throw (.ref a) : Sem Flow) (SP X pins D) X.xe s4) X.xe { t with heap := g } := by
          rw [hfm]
          refine HandSPX.setFlight_upZ fl fun k hk up4 => wpAny_throw (tk _ _ ?_)
          exact ⟨a, B, sI, pins, σ1, G, cls, d, rfl, J, nb, (up.trans upg).trans up4, .inr (.inr (by rw [hst]; exact hk)), na, os, ag, wi⟩
        first
          | exact wpAny_bind (wpAny_pure (wpAny_bind away))
          | exact wpAny_bind away
      | @bare x c ts s0 sr p p' hs2 l2 hc hb r ih =>
        intro wi
        obtain ⟨b, hb1, yes, no⟩ := wi
        refine wpAny_handleBy_cons (codeAny_handlers_test ?_) (by intro q; cases q)
        refine look hc ((PySem.W.exm_one (M := model X.prog X.w) Jg.kIn kind hb1).here ?_)
        cases b with
        | false => exact ih (no rfl)
        | true =>
          refine codeAny_handlers_suite (HandSPX.lands_againZ fl fun k fl4 up4 => ?_)
          have J4 : Inv X pins σ1 G { t with heap := k } := J.landed nb fl4.1 ((up.trans upg).trans up4) os ag
          obtain ⟨o4, v4, e4, z4, d4⟩ := fl4.there
          refine wpAny_mono ((hb a o4 cls d (X.pn ++ pins) z4 ⟨_, d4⟩).run [] _ _ G _ (J4.suite e4 d4 na out2 out3) (yes rfl a na)) (fun f s6 r6 => ?_) (fun _ _ z => False.elim z)
          cases f with
          | ret u => obtain ⟨v6, σ6, H6, S6, rv, q6⟩ := r6; exact ⟨_, _, _, S6.unsuite okX, rv, q6⟩
          | next => obtain ⟨σ6, H6, S6, q6⟩ := r6; exact ⟨_, _, S6.unsuite okX, q6⟩
          | brk => obtain ⟨σ6, H6, S6, q6⟩ := r6; exact ⟨_, _, S6.unsuite okX, q6⟩
          | cont => obtain ⟨σ6, H6, S6, q6⟩ := r6; exact ⟨_, _, S6.unsuite okX, q6⟩
      | @named x n i c ts s0 sr p p' hs2 l2 hi hl hc hb r ih =>
        intro wi
        obtain ⟨b, hb1, yes, no⟩ := wi
        refine wpAny_handleBy_cons (codeAny_handlers_test ?_) (by intro q; cases q)
        refine look hc ((PySem.W.exm_one (M := model X.prog X.w) Jg.kIn kind hb1).here ?_)
        cases b with
        | false => exact ih (no rfl)
        | true =>
          refine codeAny_handlers_suite_as (HandSPX.lands_againZ fl fun k fl4 up4 => ?_)
          have J4 : Inv X pins σ1 G { t with heap := k } := J.landed nb fl4.1 ((up.trans upg).trans up4) os ag
          obtain ⟨o4, v4, e4, z4, d4⟩ := fl4.there
          refine store_ok (X := X.suite a ((a, o4) :: (X.pn ++ pins))) (v := .ref a) (J4.suite e4 d4 na out2 out3) hND hi (.inl hl) rfl (fun s5 S5 => ?_) (.inr hl)
          refine wpAny_mono ((hb a o4 cls d (X.pn ++ pins) z4 ⟨_, d4⟩).run [] s5 _ G _ S5 (yes rfl a na)) (fun f s6 r6 => ?_) (fun _ _ z => False.elim z)
          have leave : ∀ {σ6 : L2.St} {H6 : Hp} {R : Shared → Prop}, Inv (X.suite a ((a, o4) :: (X.pn ++ pins))) [] σ6 H6 s6 → (∀ s7, Inv X pins (σ6.set i none) H6 s7 → R s7) → wpAny (model X.prog X.w) X.A (do bindName X.env n .none; unbindBehindTheSuite X.env n p') (fun _ s7 => R s7) X.xe s6 :=
            fun {σ6 H6 R} S6 hr => gone_ok (S6.unsuite okX) hND hi hl hr
          cases f with
          | ret u => obtain ⟨v6, σ6, H6, S6, rv, q6⟩ := r6; exact leave S6 fun s7 J7 => ⟨_, _, _, J7, rv, q6⟩
          | next => obtain ⟨σ6, H6, S6, q6⟩ := r6; exact leave S6 fun s7 J7 => ⟨_, _, J7, q6⟩
          | brk => obtain ⟨σ6, H6, S6, q6⟩ := r6; exact leave S6 fun s7 J7 => ⟨_, _, J7, q6⟩
          | cont => obtain ⟨σ6, H6, S6, q6⟩ := r6; exact leave S6 fun s7 J7 => ⟨_, _, J7, q6⟩
    exact each hcl wish
  · cases f with
    | ret u => obtain ⟨v, σ', G', J', rv, q⟩ := done; exact ⟨v, σ', G', J'.ofTry okX, rv, q⟩
    | next => obtain ⟨σ', G', J', q⟩ := done; exact wpAny_execs_nil ⟨σ', G', J'.ofTry okX, q⟩
    | brk => obtain ⟨σ', G', J', q⟩ := done; exact ⟨σ', G', J'.ofTry okX, q⟩
    | cont => obtain ⟨σ', G', J', q⟩ := done; exact ⟨σ', G', J'.ofTry okX, q⟩
end

/-! ### fractions -/
def CDivV (_ j : Int) : Prop := j ≠ 0 ∧ j.natAbs.log2 < 9000
theorem op_fdivV {X : Cx} : OpR X (binaryOp .FloorDiv) (rI CDivV fun i j => .int (i.fdiv j)) := opI fun _ _ _ _ _ _ _ hc q => PyProof.Rows.floordiv_int hc.1 q (.inl (PyProof.noPylong_of_log2 hc.2))
def tCallNS (n m : Nat) (sp : Sp) (gV : List V → List V → List V) (E : L2.St → XK) (t tk : TA) : TE := fun σ H Q => t σ H fun vs H1 => tk σ H1 fun zs H2 =>
  vs.length = n ∧ zs.length = m ∧ sp (gV vs zs) H2 Q (E σ)
section
open PySem.Spec PyProof.Rows
variable {X : Cx} {CX : CXT} {k n : Nat} {f : Addr} {fd : FuncData} {ps ks : List Str} {sp : Sp} {E : L2.St → XK} {x : Str} {p pos : Pos} {e : Expr} {es : List Expr} {kws : List Keyword} {t tk : TA} {g : List Value → List Value → List Value} {gV : List V → List V → List V}
/-- f(e, .., k = v, ..) within a try -/
theorem pe_callNS (F : FnOk X.prog X.w X.K X.mg X.base CX k f fd ps sp) (hr : Room k X.A) (hg : Gl X x) (hm : X.mg x = some (.ref f)) (hk : PySem.W.keepIn X.K (.ref f) = true) (hb : KBn X.K fd ps n ks g gV) (hx : ∀ σ, PassesAt CX X σ (E σ))
    (ha : PA X (e :: es) t) (hkw : PK X kws tk) (hall : (backToKw pos (keywordEach kws X.env)).all (·.1.isSome) = true := by rfl) (hks : (backToKw pos (keywordEach kws X.env)).filterMap (·.1) = ks := by rfl)
    (hdb : (x == ("__debug__" : Str)) = false := by decide) (he : starEach (e :: es) X.env = (false, eval e X.env) :: starEach es X.env := by rfl) (hpl : ((backTo pos (starEach (e :: es) X.env)).any (·.1) || (backToKw pos (keywordEach kws X.env)).any (·.1.isNone)) = false := by rfl) :
    PE X (.Call (.Name x p) (e :: es) kws pos) (tCallNS n ks.length sp gV E t tk) := by
  refine ⟨fun pins s σ H Q I h => wpAny_Call_Name_kw (ld_glob I hg hm ?_ hdb)⟩
  refine PySem.W.callWith_KW (h₀ := X.base) I.ok.mod.kin hk hall (thn (ha.run pos pins s σ H _ I h) fun us s1 hu => ?_) hpl he
  obtain ⟨vs, H1, I1, r, q⟩ := hu
  refine thn (hkw.run pos pins s1 σ H1 _ I1 q) fun ws s2 hw => ?_
  obtain ⟨zs, H2, I2, rz, l1, l2, q2⟩ := hw
  refine ⟨I2.kIn, ?_⟩
  rw [hks]
  have r2 := hb.rel r rz
  refine wpAny_call (codeAny_mono (F.run X.A X.stack s2 H2 ⟨us, ks.zip ws⟩ (g us ws) (gV vs zs) Q (E σ) hr I2.env0 (hb.to s2 us ws I2.kIn (r.length.symm.trans l1) (rz.length.symm.trans l2)) r2 q2) fun r s' hq => ?_)
  cases r with
  | error e => exact hx σ pins H2 s2 e s' I2 hq
  | ok fl => cases fl with
    | ret u => exact I2.after hq
    | next => exact hq.elim
    | brk => exact hq.elim
    | cont => exact hq.elim
end
/-- t / u is p / q in lowest terms -/
structure Low (p q t u : Int) : Prop where
  pos : 0 < u
  cop : Nat.gcd t.natAbs u.natAbs = 1
  eq : t * q = p * u
  lt : t.natAbs ≤ p.natAbs
  lu : u.natAbs ≤ q.natAbs
def gc (p q : Int) : Int := if q < 0 then -((Nat.gcd p.natAbs q.natAbs : Nat) : Int) else ((Nat.gcd p.natAbs q.natAbs : Nat) : Int)
theorem gc_dvd (p q : Int) : gc p q ∣ p ∧ gc p q ∣ q := by
  have h1 : ((Nat.gcd p.natAbs q.natAbs : Nat) : Int) ∣ p := Int.ofNat_dvd_left.mpr (Nat.gcd_dvd_left _ _)
  have h2 : ((Nat.gcd p.natAbs q.natAbs : Nat) : Int) ∣ q := Int.ofNat_dvd_left.mpr (Nat.gcd_dvd_right _ _)
  unfold gc
  split
  · exact ⟨Int.neg_dvd.mpr h1, Int.neg_dvd.mpr h2⟩
  · exact ⟨h1, h2⟩
theorem gc_abs (p q : Int) : (gc p q).natAbs = Nat.gcd p.natAbs q.natAbs := by
  unfold gc
  split <;> omega
theorem gc_ne {p q : Int} (h : q ≠ 0) : gc p q ≠ 0 := by
  have g0 : 0 < Nat.gcd p.natAbs q.natAbs := Nat.gcd_pos_of_pos_right _ (by omega)
  have := gc_abs p q
  intro z
  rw [z] at this
  simp at this
  omega
theorem gc_le {p q : Int} (h : q ≠ 0) : (gc p q).natAbs ≤ q.natAbs := by
  rw [gc_abs]
  exact Nat.le_of_dvd (by omega) (Nat.gcd_dvd_right _ _)
theorem low_gc {p q : Int} (h : q ≠ 0) : Low p q (p.fdiv (gc p q)) (q.fdiv (gc p q)) := by
  obtain ⟨⟨a, ha⟩, ⟨b, hb⟩⟩ := gc_dvd p q
  have g0 := gc_ne (p := p) h
  have e1 : p.fdiv (gc p q) = a := by
    conv => lhs; arg 1; rw [ha]
    exact Int.mul_fdiv_cancel_left a g0
  have e2 : q.fdiv (gc p q) = b := by
    conv => lhs; arg 1; rw [hb]
    exact Int.mul_fdiv_cancel_left b g0
  rw [e1, e2]
  have ga := gc_abs p q
  have gp : 0 < Nat.gcd p.natAbs q.natAbs := Nat.gcd_pos_of_pos_right _ (by omega)
  have na : p.natAbs = Nat.gcd p.natAbs q.natAbs * a.natAbs := by
    conv => lhs; rw [ha]
    rw [Int.natAbs_mul, ga]
  have nb : q.natAbs = Nat.gcd p.natAbs q.natAbs * b.natAbs := by
    conv => lhs; rw [hb]
    rw [Int.natAbs_mul, ga]
  refine ⟨?_, ?_, ?_, ?_, ?_⟩
  · by_cases hq : q < 0
    · have hg : gc p q < 0 := by unfold gc; rw [if_pos hq]; omega
      rcases Int.lt_trichotomy b 0 with hb0 | hb0 | hb0
      · have := Int.mul_pos_of_neg_of_neg hg hb0
        omega
      · rw [hb0] at hb; simp at hb; omega
      · exact hb0
    · have hg : 0 < gc p q := by unfold gc; rw [if_neg hq]; omega
      rcases Int.lt_trichotomy b 0 with hb0 | hb0 | hb0
      · have := Int.mul_neg_of_pos_of_neg hg hb0
        omega
      · rw [hb0] at hb; simp at hb; omega
      · exact hb0
  · have e : Nat.gcd p.natAbs q.natAbs * Nat.gcd a.natAbs b.natAbs = Nat.gcd p.natAbs q.natAbs * 1 := by
      rw [← Nat.gcd_mul_left, ← na, ← nb, Nat.mul_one]
    exact Nat.eq_of_mul_eq_mul_left gp e
  · conv => lhs; rw [hb]
    conv => rhs; rw [ha]
    rw [← Int.mul_assoc, Int.mul_comm a]
  · rw [na]; exact Nat.le_mul_of_pos_left _ gp
  · rw [nb]; exact Nat.le_mul_of_pos_left _ gp
def ratF (t u : Int) : List (Str × V) := [("top", .int t), ("under", .int u)]
theorem putR {y z : V} : putF "under" z (putF "top" y []) = [(("top" : Str), y), (("under" : Str), z)] := by
  have h : ¬ ("top" : Str) = "under" := by decide +kernel
  show (if ("top" : Str) = "under" then _ else (("top" : Str), y) :: putF "under" z []) = _
  rw [if_neg h]
  rfl
def RatAt (C : Addr) (v : V) (H : Hp) (t u : Int) : Prop := ∃ a dx, v = .ref a ∧ H a = some (.ins C dx (ratF t u))
theorem RatAt.ex {C : Addr} {v : V} {H H' : Hp} {t u : Int} (e : Ex H H') (h : RatAt C v H t u) : RatAt C v H' t u := by
  obtain ⟨a, dx, rfl, h⟩ := h
  exact ⟨a, dx, rfl, e _ _ h⟩
theorem ev_top {K : PySem.W.Frag} {C : Addr} {te : TE} {σ : L2.St} {H : Hp} {v : V} {t u : Int} (h : Ev te σ H v) (hv : RatAt C v H t u) (c : Cls K C) (na : NoAttr K C "top") : Ev (tFld K te "top") σ H (.int t) := fun H1 e Q q => by
  obtain ⟨a, dx, rfl, hi⟩ := hv
  exact h H1 e _ fun H2 e2 => ⟨a, _, dx, _, _, rfl, e2 _ _ (e _ _ hi), c, na, rfl, q H2 e2⟩
theorem ev_under {K : PySem.W.Frag} {C : Addr} {te : TE} {σ : L2.St} {H : Hp} {v : V} {t u : Int} (h : Ev te σ H v) (hv : RatAt C v H t u) (c : Cls K C) (na : NoAttr K C "under") : Ev (tFld K te "under") σ H (.int u) := fun H1 e Q q => by
  obtain ⟨a, dx, rfl, hi⟩ := hv
  exact h H1 e _ fun H2 e2 => ⟨a, _, dx, _, _, rfl, e2 _ _ (e _ _ hi), c, na, by rfl, q H2 e2⟩
theorem log_lt {z : Int} {b : Nat} (h : z.natAbs < 2 ^ b) (h0 : 0 < b) : z.natAbs.log2 < b := PySem.Flt.log2_lt_of h0 h

/-! ### an object made within a try -/
section
open PySem.Spec PyProof.Rows
variable {X : Cx} {CX : CXT} {k : Nat} {f C : Addr} {fd : FuncData} {ps : List Str} {sp : Sp} {dvs : List V} {ds : List Value} {E : L2.St → XK} {x : Str} {p pos : Pos} {e : Expr} {es : List Expr} {t : TA}
def tMakeS (C : Addr) (sp : Sp) (dvs : List V) (E : L2.St → XK) (t : TA) : TE := fun σ H Q => t σ H fun vs H1 => ∀ x dx, H1 x = none → H1 dx = none → dx ≠ x →
  sp (.ref x :: (vs ++ dvs)) (upd (upd H1 dx (.own x)) x (.ins C dx [])) (fun v H2 => v = .non ∧ Q (.ref x) H2) (E σ)
theorem pe_makeS (M : Mk X.K C f) (F : FnOk X.prog X.w X.K X.mg X.base CX k f fd ps sp) (hr : Room (k + 1) X.A) (hg : Gl X x) (hm : X.mg x = some (.ref C)) (hb : Binds X.K fd ps ds) (hd : Vals dvs ds) (hx : ∀ σ, PassesAt CX X σ (E σ))
    (ha : PA X (e :: es) t) (hdb : (x == ("__debug__" : Str)) = false := by decide) (he : starEach (e :: es) X.env = (false, eval e X.env) :: starEach es X.env := by rfl) (hpl : (backTo pos (starEach es X.env)).any (·.1) = false := by rfl) :
    PE X (.Call (.Name x p) (e :: es) [] pos) (tMakeS C sp dvs E t) := by
  refine ⟨fun pins s σ H Q I h => wpAny_Call_Name_kw (ld_glob I hg hm ?_ hdb)⟩
  refine PySem.W.callWith_K (h₀ := X.base) I.ok.mod.kin M.kp (thn (ha.run pos pins s σ H _ I h) fun us s1 hu => ?_) he hpl
  obtain ⟨vs, H1, J, r, q⟩ := hu
  refine ⟨J.kIn, ?_⟩
  have hq := q (s1.heap.objs.size + 1) s1.heap.objs.size (J.hok.fresh (Nat.le_succ _)) (J.hok.fresh (Nat.le_refl _)) (Nat.ne_of_lt (Nat.lt_succ_self _))
  have J2 := Inv.made (C := C) J
  have r2 : Vals (V.ref (s1.heap.objs.size + 1) :: (vs ++ dvs)) (Value.ref (s1.heap.objs.size + 1) :: (us ++ ds)) := .cons rfl (r.append hd)
  have hl : (Value.ref (s1.heap.objs.size + 1) :: us ++ ds).length = ps.length := by
    have e0 := r2.length
    rw [F.len _ _ _ _ hq] at e0
    exact e0.symm
  have go := F.run _ X.stack _ _ ⟨Value.ref (s1.heap.objs.size + 1) :: us, []⟩ (Value.ref (s1.heap.objs.size + 1) :: (us ++ ds)) _ _ (E σ) (hr.make C us []) (J2.env0.make C us []) (hb _ (Value.ref (s1.heap.objs.size + 1) :: us) J2.kIn hl) r2 hq
  refine wpAny_call (make_map (f := f) J.kIn M.makes M.init (beq_iff_eq.mp M.fn) (codeAny_mono go fun r3 s3 hq3 => ?_))
  cases r3 with
  | error e => exact hx σ pins _ _ e s3 J2 hq3
  | ok fl => cases fl with
    | ret u =>
      obtain ⟨v, H3, J3, rv, ev, q3⟩ := J2.after hq3
      subst ev
      exact ⟨rv, ⟨V.ref (s1.heap.objs.size + 1), H3, J3, rfl, q3⟩⟩
    | next => exact hq3.elim
    | brk => exact hq3.elim
    | cont => exact hq3.elim
end

/-! ### an int on the left, an own object on the right -/
section
open PySem.Spec PyProof.Rows
variable {prog : Program} {w : World} {A : Around} {E : Value → Shared → Prop} {s : Shared} {K : PySem.W.Frag}
theorem no_int {i : Int} {t : Tok} {a C dx : Addr} {f : Int → Int → Sem Fin} {nm : String} {Q : Fin → Shared → Prop} (hg : s.heap.get? a = some (PySem.W.instObj C dx)) (q : Q (.done (.ret .notImplemented)) s) :
    wpAny (model prog w) A (Builtin.Int.intBinary nm f false ⟨[.int i t, .ref a], []⟩) Q E s := by
  unfold Builtin.Int.intBinary
  refine wpAny_bind (wpAny_pure (wpAny_bind (wpAny_pure (wpAny_bind ?_))))
  unfold asInt?
  exact wpAny_bind (wpAny_load hg (wpAny_pure (wpAny_bind (wpAny_rule (wpAny_pure q)))))
theorem call_no {i : Int} {t : Tok} {a C dx : Addr} {f : Int → Int → Sem Fin} {nm id : String} {name : Str} {Q : Value → Shared → Prop} (slot : Slot "int" name id) (entry : entryFor table id = some (Builtin.Int.intBinary nm f false))
    (ha : argsOk id ⟨[.int i t, .ref a], []⟩) (hg : s.heap.get? a = some (PySem.W.instObj C dx)) (q : Q .notImplemented s) : wpAny (model prog w) A (call (.builtin id) [.int i t, .ref a]) Q E s :=
  wpAny_call_entry slot (typeIs_int s i t) entry (no_int hg ⟨_, rfl, q⟩) ha
open PySem.W in
/-- i op o: what int gives up, the class's reflected method tells -/
theorem binop_refl {op : Operator} {o C fr fl dx : Addr} {ox : Obj} {od : Option Obj} {i : Int} {t : Tok} {hb : Heap} {L : Addr} {m : Str → Option Value} {f : Int → Int → Sem Fin} {nb id : String} {Q : Value → Shared → Prop} (F : Fr hb L s.heap m) (Xb : K.In hb) (I : InstAt s.heap o ox C od)
    (hg : s.heap.get? o = some (instObj C dx)) (hc : selfFirst K C = true) (hl : findIn K (.ref C) (PySem.dunder op.info.2) = some (some (.ref fl))) (hs : findIn K (.ref C) (dunderR op.info.2) = some (some (.ref fr))) (hf : isFn K (.ref fr) = true)
    (hsub : subIn K (.ref C) (.type "int") = some false) (fills : fillsNumberSlot (.type "int") op.info.2 = pure true) (slot : Slot "int" (PySem.dunder op.info.2) id) (entry : entryFor table id = some (Builtin.Int.intBinary nb f false)) (ha : argsOk id ⟨[.int i t, .ref o], []⟩)
    (h : wpAny (model prog w) A (call (.ref fr) [.ref o, .int i t]) (PySem.W.CmpBack Q) E s) : wpAny (model prog w) A (binaryOp op (.int i t) (.ref o)) Q E s := by
  have X1 := Xb.keeps F.keep
  obtain ⟨kd, more, hkd, hkm⟩ := ksp_first hc
  rcases hi : op.info with ⟨sy, n2⟩
  rw [hi] at hs hl fills slot
  dsimp only at hs hl fills slot
  have two := ksp_try X1 I hs hf h
  have one : wpAny (model prog w) A (tryMethod (.int i t) (PySem.dunder n2) (.ref o)) (fun r s' => r = none ∧ s' = s) E s := wpAny_tryMethod_declines (typeIs_int s i t) slot (call_no slot entry ha hg ⟨rfl, rfl, rfl⟩)
  obtain ⟨h2, g2, d2, t2, o2⟩ := s
  have M1 : Looks (model prog w) h2 (typeOf (.ref o)) (.ref C) := I.type
  have M2 : Looks (model prog w) h2 (typeOf (.int i t)) (.type "int") := Looks.of_pure rfl
  have M3 : Looks (model prog w) h2 (fillsNumberSlot (.ref C) n2) true := fills_K X1 hkd hkm hl
  have M4 : Looks (model prog w) h2 (fillsNumberSlot (.type "int") n2) true := Looks.of_pure fills
  have M5 : Looks (model prog w) h2 (isSubtype (.ref C) (.type "int")) false := looks_subIn X1 hsub
  have M6 : Looks (model prog w) h2 (numberSlotInPython (.type "int") n2) false := Looks.of_pure rfl
  have unlike : (Value.type "int" == Value.ref C) = false := Bool.eq_false_iff.mpr fun z => by cases beq_iff_eq.mp z
  simp only [binaryOp, hi]
  refine wpAny_holding (wpAny_bind ?_)
  unfold binaryOp1
  refine wpAny_bind (M2.at (wpAny_bind (M1.at (wpAny_bind (M4.at ?_)))))
  simp only [unlike, Bool.false_eq_true, if_false]
  ksp_lk
  refine wpAny_mono one (fun r s' z => ?_) fun _ _ e => e
  obtain ⟨rfl, rfl⟩ := z
  ksp_lk
  refine wpAny_mono two (fun r s' z => ?_) fun _ _ e => e
  obtain ⟨v, rfl, q⟩ := z
  ksp_lk
  exact q
open PySem.Calls in
theorem abs_own {o C f : Addr} {ox : Obj} {od : Option Obj} {Q : Value → Shared → Prop} (X1 : K.In s.heap) (I : PySem.W.InstAt s.heap o ox C od) (hs : PySem.W.findIn K (.ref C) "__abs__" = some (some (.ref f))) (hf : PySem.W.isFn K (.ref f) = true)
    (h : wpAny (model prog w) A.in1 (call (.ref f) [.ref o]) Q E s) : wpAny (model prog w) A (call (.builtin "abs") [.ref o]) Q E s := by
  refine call_function_entry kind_abs plain_abs entry_abs (args_abs _) ?_
  unfold Builtin.«abs»
  refine wpAny_bind (m := PySem.oneArg "abs" _) (wpAny_pure ?_)
  exact wpAny_bind (m := callSpecial? (.ref o) (Str.ofString "__abs__")) (PySem.W.special_fn X1 I hs (beq_iff_eq.mp hf) (wpAny_mono h (fun r s' hr => wpAny_pure ⟨_, rfl, hr⟩) fun _ _ y => y))
end
/-- the int's side of an operator: the method that gives up -/
structure IntSide (op : Operator) : Prop where
  fills : fillsNumberSlot (.type "int") op.info.2 = pure true
  gives : ∃ (id nb : String) (f : Int → Int → Sem Fin), Slot "int" (PySem.dunder op.info.2) id ∧ entryFor table id = some (Builtin.Int.intBinary nb f false) ∧ ∀ a b, argsOk id ⟨[a, b], []⟩
theorem side_add : IntSide .Add := ⟨PySem.F.fills_int_add, "int.__add__", "__add__", _, PySem.F.slot_int_add, PySem.F.entry_int_add, PySem.F.args_int_add_2⟩
theorem side_sub : IntSide .Sub := ⟨PySem.F.fills_int_sub, "int.__sub__", "__sub__", _, PySem.F.slot_int_sub, PySem.F.entry_int_sub, PySem.F.args_int_sub_2⟩
theorem side_mul : IntSide .Mult := ⟨PySem.F.fills_int_mul, "int.__mul__", "__mul__", _, PySem.F.slot_int_mul, PySem.F.entry_int_mul, PySem.F.args_int_mul_2⟩
/-- an int, then an object of the class -/
def rOwnR (C : Addr) (sp : Sp) (E : L2.St → XK) (σ : L2.St) : R2 := fun x y H Q => ∃ a dx fs i, y = .ref a ∧ H a = some (.ins C dx fs) ∧ x = .int i ∧ sp [y, x] H Q (E σ)
def rAlt (r1 r2 : L2.St → R2) (σ : L2.St) : R2 := fun x y H Q => r1 σ x y H Q ∨ r2 σ x y H Q
def uOr (r1 r2 : L2.St → V → Hp → VK → Prop) (σ : L2.St) : V → Hp → VK → Prop := fun x H Q => r1 σ x H Q ∨ r2 σ x H Q
def rNegI (_ : L2.St) : V → Hp → VK → Prop := fun x H Q => ∃ i, x = .int i ∧ Q (.int (-i)) H
section
open PySem.Spec PyProof.Rows
variable {X : Cx} {CX : CXT} {f fl C : Addr} {fd : FuncData} {ps : List Str} {n : Nat} {sp : Sp} {op : Operator} {E : L2.St → XK}
theorem op_ownR (o : Ops X.K C) (li : PySem.W.subIn X.K (.ref C) (.type "int") = some false) (ml : Meth X.K C (PySem.dunder op.info.2) fl) (m : Meth X.K C (dunderR op.info.2) f) (si : IntSide op) (F : FnOk X.prog X.w X.K X.mg X.base CX n f fd ps sp) (hr : Room n X.A) (hb : Binds X.K fd ps []) (hx : ∀ σ, PassesAt CX X σ (E σ)) :
    OpS X (binaryOp op) (rOwnR C sp E) := by
  intro pins s σ H x y v u Q I rx ry h
  obtain ⟨a, dx, fs, i, rfl, ha, rfl, h⟩ := h
  cases ry
  obtain ⟨t, rfl⟩ := (show ∃ t, v = Value.int i t from rx)
  obtain ⟨mA, J0, _⟩ := ins_get I.hok ha
  have hg := J0.1
  obtain ⟨od, J, _⟩ := J0.look
  obtain ⟨m', hF⟩ := I.fr
  obtain ⟨id, nb, g, h1, h2, h3⟩ := si.gives
  exact binop_refl hF I.ok.mod.kin J hg o.first ml.at_ m.at_ m.fn li si.fills h1 h2 (h3 _ _) (run_own (vs := [V.ref a, V.int i]) F hr hb (hx σ) I (.cons rfl (.cons ⟨t, rfl⟩ .nil)) h)
theorem ops_or {g : Value → Value → Sem Value} {r1 r2 : L2.St → R2} (h1 : OpS X g r1) (h2 : OpS X g r2) : OpS X g (rAlt r1 r2) := fun pins s σ H x y v u Q I rx ry h => h.elim (h1 pins s σ H x y v u Q I rx ry) (h2 pins s σ H x y v u Q I rx ry)
theorem uns_or {g : Value → Sem Value} {r1 r2 : L2.St → V → Hp → VK → Prop} (h1 : UnS X g r1) (h2 : UnS X g r2) : UnS X g (uOr r1 r2) := fun pins s σ H x v Q I rx h => h.elim (h1 pins s σ H x v Q I rx) (h2 pins s σ H x v Q I rx)
theorem un_negI : UnS X (unaryOp .USub) rNegI := by
  intro pins s σ H x v Q I rx h
  obtain ⟨i, rfl, q⟩ := h
  obtain ⟨t, rfl⟩ := (show ∃ t, v = Value.int i t from rx)
  exact neg_int ⟨.int (-i), H, I.tok _, ⟨_, rfl⟩, q⟩
def rOwnAbs (C : Addr) (sp : Sp) (E : XK) : List V → Hp → VK → Prop := fun xs H Q => ∃ a dx fs, xs = [.ref a] ∧ H a = some (.ins C dx fs) ∧ sp [.ref a] H Q E
theorem call_absO {E : XK} (m : Meth X.K C "__abs__" f) (F : FnOk X.prog X.w X.K X.mg X.base CX n f fd ps sp) (hr : Room (n + 1) X.A) (hb : Binds X.K fd ps []) (hx : ∀ σ, PassesAt CX X σ E) : CallR X (.builtin "abs") (rOwnAbs C sp E) := by
  intro pins s σ H xs us Q I r h
  obtain ⟨a, dx, fs, rfl, ha, h⟩ := h
  obtain ⟨u, rfl, rx⟩ := vals1 r
  cases rx
  obtain ⟨mA, J, _⟩ := ins_get I.hok ha
  obtain ⟨od, J, _⟩ := J.look
  exact abs_own I.kIn J m.at_ m.fn (run_ownA (vs := [V.ref a]) F hr.in1 rfl hb (hx σ) I (.cons rfl .nil) h)
theorem callr_or {b : Value} {r1 r2 : List V → Hp → VK → Prop} (h1 : CallR X b r1) (h2 : CallR X b r2) : CallR X b (fun xs H Q => r1 xs H Q ∨ r2 xs H Q) := fun pins s σ H xs us Q I r h => h.elim (h1 pins s σ H xs us Q I r) (h2 pins s σ H xs us Q I r)
/-- a term that is never reached -/
theorem pe_never {e : Expr} : PE X e (fun _ _ _ => False) := ⟨fun _ _ _ _ _ _ h => h.elim⟩
end

/-! ### comparisons: an int on the left; != -/
section
open PySem.Spec PyProof.Rows
variable {prog : Program} {w : World} {A : Around} {E : Value → Shared → Prop} {s : Shared} {K : PySem.W.Frag} {o C f dx : Addr} {ox : Obj} {od : Option Obj} {i : Int} {t : Tok} {hb : Heap} {L : Addr} {m : Str → Option Value}
theorem try_no {g : Int → Int → Sem Fin} {nb id : String} {name : Str} (slot : Slot "int" name id) (entry : entryFor table id = some (Builtin.Int.intBinary nb g false)) (ha : argsOk id ⟨[.int i t, .ref o], []⟩) (hg : s.heap.get? o = some (PySem.W.instObj C dx)) :
    wpAny (model prog w) A (tryCompare (.int i t) name (.ref o)) (fun r s' => r = none ∧ s' = s) E s := wpAny_tryCompare_declines (typeIs_int s i t) slot (call_no slot entry ha hg ⟨rfl, rfl, rfl⟩)
open PySem.W in
theorem try_own {name : Str} {b : Value} {Q : Value → Shared → Prop} (X1 : K.In s.heap) (I : InstAt s.heap o ox C od) (hs : findIn K (.ref C) name = some (some (.ref f))) (hf : isFn K (.ref f) = true) (h : wpAny (model prog w) A (call (.ref f) [.ref o, b]) (PySem.W.CmpBack Q) E s) :
    wpAny (model prog w) A (tryCompare (.ref o) name b) (fun r s' => ∃ v, r = some v ∧ Q v s') E s := by
  unfold tryCompare
  refine wpAny_bind (ifBound_K X1 I hs hf (wpAny_mono h (fun v s' z => ?_) fun _ _ e => e))
  cases v <;> first | exact z.elim | exact wpAny_pure ⟨_, rfl, z⟩
open PySem.W in
theorem cmp_refl {op : CmpOp} {g : Int → Int → Sem Fin} {nb id : String} {Q : Value → Shared → Prop} (hu : A.units < cLine) (X1 : K.In s.heap) (I : InstAt s.heap o ox C od) (hg : s.heap.get? o = some (instObj C dx)) (hsub : subIn K (.ref C) (.type "int") = some false)
    (slot : Slot "int" (cmpInfo op).2.1 id) (entry : entryFor table id = some (Builtin.Int.intBinary nb g false)) (ha : argsOk id ⟨[.int i t, .ref o], []⟩) (hot : oneThing? op (.int i t) (.ref o) = none)
    (two : wpAny (model prog w) A (tryCompare (.ref o) (cmpInfo op).2.2 (.int i t)) (fun r s' => ∃ v, r = some v ∧ Q v s') E s) : wpAny (model prog w) A (richCompare op (.int i t) (.ref o)) Q E s := by
  have one := try_no (prog := prog) (w := w) (A := A) (E := E) slot entry ha hg
  unfold richCompare
  simp only [hot]
  refine wpAny_holding (wpAny_bind (wpAny_cRoomFor hu ?_))
  refine wpAny_bind ((Looks.of_pure (show typeOf (.int i t) = pure (.type "int") from rfl)).here (wpAny_bind (I.type.here ?_)))
  have unlike : (Value.type "int" != Value.ref C) = true := by simp
  simp only [unlike, if_true]
  refine wpAny_bind ((looks_subIn X1 hsub).here ?_)
  simp only [Bool.false_eq_true, if_false, Bool.not_false, if_true]
  refine wpAny_bind (wpAny_mono one (fun r s' z => ?_) fun _ _ e => e)
  obtain ⟨rfl, rfl⟩ := z
  refine wpAny_bind (wpAny_mono two (fun r s' z => ?_) fun _ _ e => e)
  obtain ⟨v, rfl, q⟩ := z
  exact wpAny_pure q
open PySem.W in
theorem ifBound_B {name : Str} {id : String} {args : List Value} {Q : Option Value → Shared → Prop} (X1 : K.In s.heap) (I : InstAt s.heap o ox C od) (hs : findIn K (.ref C) name = some (some (.builtin id))) (bd : ∀ self, bindSpecial (.builtin id) self = pure (.builtin id, [self]))
    (h : wpAny (model prog w) A (call (.builtin id) (.ref o :: args)) (fun v => Q (some v)) E s) : wpAny (model prog w) A (callSpecialIfBound? (.ref o) name args) Q E s := by
  simp only [callSpecialIfBound?, bindSpecialIfBound?]
  refine wpAny_holding (wpAny_bind (wpAny_bind (wpAny_bind (I.type.here ((looks_findIn X1 hs).here (wpAny_bind (wpAny_askSetting (wpAny_ite ?_))))))))
  have last : wpAny (model prog w) A (call (.builtin id) ([.ref o] ++ args) >>= fun v => pure (some v)) Q E s := wpAny_bind (wpAny_mono h (fun v s' z => wpAny_pure z) fun _ _ z => z)
  split
  · exact wpAny_bind ((Looks.of_pure (bd _)).here (wpAny_pure (by exact last)))
  · exact wpAny_tryCatch (wpAny_bind ((Looks.of_pure (bd _)).here (wpAny_pure (by exact last))))
open PySem.W in
theorem ne_own {b : Value} {Q : Value → Shared → Prop} (hu : A.units + 1 < cLine) (X1 : K.In s.heap) (I : InstAt s.heap o ox C od) (hm : mroIn K C (.type "object") = some true) (hn : findIn K (.ref C) "__ne__" = some (some (.builtin "object.__ne__"))) (hs : findIn K (.ref C) "__eq__" = some (some (.ref f))) (hf : isFn K (.ref f) = true)
    (h : wpAny (model prog w) A.in1 (call (.ref f) [.ref o, b]) (fun v s' => ∃ k, v = .bool k ∧ Q (.bool (!k)) s') E s) : wpAny (model prog w) A (tryCompare (.ref o) "__ne__" b) (fun r s' => ∃ v, r = some v ∧ Q v s') E s := by
  unfold tryCompare
  refine wpAny_bind (ifBound_B (id := "object.__ne__") X1 I hn (fun _ => rfl) ?_)
  refine wpAny_call (codeAny_call_builtin PySem.F.cmp_object.ne.plain PySem.F.cmpEntry_ne (check_slot (i := "object.__ne__") (owner := "object") (n := "__ne__") PySem.F.cmpKind_ne PySem.F.cmpSplit_ne (I.type.andThen (looks_mroIn X1 hm)) (PySem.F.cmpArgs_ne _ _) ?_))
  unfold Builtin.«object.__ne__»
  refine wpAny_bind (m := slotArgs "__ne__" 1 _) (wpAny_pure ?_)
  refine wpAny_bind (m := cRoomFor _ _) (wpAny_cRoomFor (show A.units + 1 < cLine from hu) ?_)
  refine wpAny_bind (m := callSpecialIfBound? (.ref o) (Str.ofString "__eq__") _) (ifBound_K X1 I hs hf (wpAny_mono h (fun r s' z => ?_) fun _ _ y => y))
  obtain ⟨k, rfl, q⟩ := z
  exact wpAny_bind (wpAny_truthy_bool (wpAny_pure (wpAny_pure ⟨_, rfl, q⟩)))
open PySem.W in
theorem ne_left {b tb : Value} {Q : Value → Shared → Prop} (hu : A.units + 1 < cLine) (X1 : K.In s.heap) (I : InstAt s.heap o ox C od) (lb : Looks (model prog w) s.heap (typeOf b) tb) (nf : notFirst K C tb = true)
    (one : wpAny (model prog w) A (tryCompare (.ref o) "__ne__" b) (fun r s' => ∃ v, r = some v ∧ Q v s') E s) : wpAny (model prog w) A (richCompare .NotEq (.ref o) b) Q E s := by
  unfold richCompare
  simp only [oneThing_ref]
  refine wpAny_holding (wpAny_bind (wpAny_cRoomFor (by omega) (wpAny_bind (I.type.here (wpAny_bind (lb.here ?_))))))
  split
  · rename_i q
    have e : subIn K tb (.ref C) = some false := by
      rcases Bool.or_eq_true_iff.mp nf with e | e
      · rw [beq_iff_eq.mp e] at q
        simp at q
      · exact beq_iff_eq.mp e
    refine wpAny_bind ((looks_subIn X1 e).here ?_)
    simp only [Bool.false_eq_true, if_false]
    refine wpAny_bind (wpAny_mono one (fun r s' z => ?_) fun _ _ e => e)
    obtain ⟨v, rfl, z⟩ := z
    exact wpAny_pure z
  · refine wpAny_bind (wpAny_pure ?_)
    simp only [Bool.false_eq_true, if_false]
    refine wpAny_bind (wpAny_mono one (fun r s' z => ?_) fun _ _ e => e)
    obtain ⟨v, rfl, z⟩ := z
    exact wpAny_pure z
open PySem.W in
theorem bool_own {Q : Value → Shared → Prop} (F : Fr hb L s.heap m) (Xb : K.In hb) (I : InstAt s.heap o ox C od) (hs : findIn K (.ref C) "__bool__" = some (some (.ref f))) (hf : isFn K (.ref f) = true)
    (h : wpAny (model prog w) A.in1.in1 (call (.ref f) [.ref o]) (fun v s' => ∃ k, v = .bool k ∧ Q (.bool k) s') E s) : wpAny (model prog w) A (call (.type "bool") [.ref o]) Q E s := by
  refine callType_codes (T := "bool") (Bi := Builtin.«object.__init__») (Q₁ := fun r s₁ => ∃ k, r = .bool k ∧ Q r s₁) PySem.F.called_bool (PySem.F.typeCall_bool_1 _) PySem.F.entry_object_init ?_ ?_
  · refine codeAny_of_tree ?_
    show wpAny _ A.in1.in1 (do checkBuiltinCall "bool.__new__" ⟨[.type "bool", .ref o], []⟩; again (.builtin "bool.__new__" ⟨[.type "bool", .ref o], []⟩)) _ _ s
    refine wpAny_bind (wpAny_of_eq (PySem.F.newCall_bool_1 _) (wpAny_pure ⟨plainId_quiet (by decide +kernel) _, codeAny_builtin PySem.F.entry_bool_new ?_⟩))
    rw [Around.under_plainId (by decide +kernel) _]
    unfold Builtin.«bool.__new__»
    refine wpAny_bind (wpAny_of_eq (show isType (.type "bool") = pure true from rfl) ?_)
    simp only [Bool.not_true, Bool.false_eq_true, if_false]
    refine wpAny_bind (wpAny_of_eq PySem.F.conv_sub_bool ?_)
    simp only [Bool.not_true, Bool.false_eq_true, if_false]
    refine wpAny_bind (wpAny_pure ?_)
    refine wpAny_bind (truthy_K F Xb I hs hf (wpAny_mono h (fun v s' z => ?_) fun _ _ y => y))
    obtain ⟨k, rfl, q⟩ := z
    exact wpAny_pure ⟨k, rfl, q⟩
  · rintro obj s₁ ⟨k, rfl, q⟩
    exact ⟨PySem.typeIs_bool _ _, PySem.F.args_object_init_2 _ _, object_init_meets PySem.F.called_bool.init.lookup PySem.F.called_bool.made (by decide) prog w A.in1 _ s₁ ⟨PySem.typeIs_bool _ _, rfl, q⟩⟩
end
structure CmpSide (op : CmpOp) : Prop where
  gives : ∃ (id nb : String) (f : Int → Int → Sem Fin), Slot "int" (cmpInfo op).2.1 id ∧ entryFor table id = some (Builtin.Int.intBinary nb f false) ∧ ∀ a b, argsOk id ⟨[a, b], []⟩
  one : ∀ (i : Int) (t : Tok) (a : Addr), oneThing? op (.int i t) (.ref a) = none
theorem side_lt : CmpSide .Lt := ⟨⟨"int.__lt__", "__lt__", _, PySem.F.slot_int_lt, PySem.F.entry_int_lt, PySem.F.args_int_lt_2⟩, fun _ _ _ => rfl⟩
theorem side_le : CmpSide .LtE := ⟨⟨"int.__le__", "__le__", _, PySem.F.slot_int_le, PySem.F.entry_int_le, PySem.F.args_int_le_2⟩, fun _ _ _ => rfl⟩
theorem side_gt : CmpSide .Gt := ⟨⟨"int.__gt__", "__gt__", _, PySem.F.slot_int_gt, PySem.F.entry_int_gt, PySem.F.args_int_gt_2⟩, fun _ _ _ => rfl⟩
theorem side_ge : CmpSide .GtE := ⟨⟨"int.__ge__", "__ge__", _, PySem.F.slot_int_ge, PySem.F.entry_int_ge, PySem.F.args_int_ge_2⟩, fun _ _ _ => rfl⟩
theorem side_eq : CmpSide .Eq := ⟨⟨"int.__eq__", "__eq__", _, PySem.F.slot_int_eq, PySem.F.entry_int_eq, PySem.F.args_int_eq_2⟩, fun _ _ _ => rfl⟩
theorem side_ne : CmpSide .NotEq := ⟨⟨"int.__ne__", "__ne__", _, PySem.F.slot_int_ne, PySem.F.entry_int_ne, PySem.F.args_int_ne_2⟩, fun _ _ _ => rfl⟩
/-- the opposite of what a promise of a truth value tells -/
def notK (Q : VK) : VK := fun v H => ∃ k : Bool, v = .bl k ∧ Q (.bl (!k)) H
def rOwnNe (K : PySem.W.Frag) (C : Addr) (sp : Sp) (E : L2.St → XK) (σ : L2.St) : R2 := fun x y H Q => ∃ a dx fs tb, x = .ref a ∧ H a = some (.ins C dx fs) ∧ TyX K H y tb ∧ PySem.W.notFirst K C tb = true ∧ sp [x, y] H (notK Q) (E σ)
def rOwnNeR (C : Addr) (sp : Sp) (E : L2.St → XK) (σ : L2.St) : R2 := fun x y H Q => ∃ a dx fs i, y = .ref a ∧ H a = some (.ins C dx fs) ∧ x = .int i ∧ sp [y, x] H (notK Q) (E σ)
/-- what != asks of a class with an own __eq__ and no __ne__ -/
structure NeOf (K : PySem.W.Frag) (C : Addr) : Prop where
  ob : PySem.W.mroIn K C (.type "object") = some true
  ne : PySem.W.findIn K (.ref C) "__ne__" = some (some (.builtin "object.__ne__"))
section
open PySem.Spec PyProof.Rows
variable {X : Cx} {CX : CXT} {f C : Addr} {fd : FuncData} {ps : List Str} {n : Nat} {sp : Sp} {op : CmpOp} {E : L2.St → XK}
theorem op_ownCR (hop : ∀ v u, compareOp op v u = richCompare op v u) (li : PySem.W.subIn X.K (.ref C) (.type "int") = some false) (m : Meth X.K C (cmpInfo op).2.2 f) (si : CmpSide op) (F : FnOk X.prog X.w X.K X.mg X.base CX n f fd ps sp) (hr : Room n X.A) (hb : Binds X.K fd ps []) (hx : ∀ σ, PassesAt CX X σ (E σ)) :
    OpS X (compareOp op) (rOwnR C sp E) := by
  intro pins s σ H x y v u Q I rx ry h
  obtain ⟨a, dx, fs, i, rfl, ha, rfl, h⟩ := h
  cases ry
  obtain ⟨t, rfl⟩ := (show ∃ t, v = Value.int i t from rx)
  obtain ⟨mA, J0, _⟩ := ins_get I.hok ha
  have hg := J0.1
  obtain ⟨od, J, _⟩ := J0.look
  obtain ⟨id, nb, g, h1, h2, h3⟩ := si.gives
  rw [hop]
  exact cmp_refl hr.units0 I.kIn J hg li h1 h2 (h3 _ _) (si.one _ _ _) (try_own I.kIn J m.at_ m.fn (run_own (vs := [V.ref a, V.int i]) F hr hb (hx σ) I (.cons rfl (.cons ⟨t, rfl⟩ .nil)) h))
theorem back_not {pins : List (Addr × Obj)} {σ : L2.St} {Q : VK} {v : Value} {s' : Shared} (h : EP X pins σ (notK Q) v s') : ∃ k, v = Value.bool k ∧ EP X pins σ Q (.bool (!k)) s' := by
  obtain ⟨x, H', I', rv, k, rfl, q⟩ := h
  exact ⟨k, rv, .bl (!k), H', I', rfl, q⟩
theorem op_neO {K : PySem.W.Frag} (d : NeOf X.K C) (m : Meth X.K C "__eq__" f) (F : FnOk X.prog X.w X.K X.mg X.base CX n f fd ps sp) (hr : Room (n + 1) X.A) (hb : Binds X.K fd ps []) (hx : ∀ σ, PassesAt CX X σ (E σ)) (hk : X.K = K := by rfl) : OpS X (compareOp .NotEq) (rOwnNe K C sp E) := by
  subst hk
  intro pins s σ H x y v u Q I rx ry h
  obtain ⟨a, dx, fs, tb, rfl, ha, ty, nf, h⟩ := h
  cases rx
  obtain ⟨mA, J, _⟩ := ins_get I.hok ha
  obtain ⟨od, J, _⟩ := J.look
  have hu : X.A.units + 1 < cLine := by have := hr.un; omega
  show wpAny _ _ (richCompare .NotEq (.ref a) u) _ _ _
  exact ne_left hu I.kIn J (ty_looks I ry ty) nf (ne_own hu I.kIn J d.ob d.ne m.at_ m.fn (wpAny_mono (run_ownA (vs := [V.ref a, y]) F hr.in1 rfl hb (hx σ) I (.cons rfl (.cons ry .nil)) h) (fun v s' z => back_not z) fun _ _ e => e))
theorem op_neR (d : NeOf X.K C) (li : PySem.W.subIn X.K (.ref C) (.type "int") = some false) (m : Meth X.K C "__eq__" f) (F : FnOk X.prog X.w X.K X.mg X.base CX n f fd ps sp) (hr : Room (n + 1) X.A) (hb : Binds X.K fd ps []) (hx : ∀ σ, PassesAt CX X σ (E σ)) : OpS X (compareOp .NotEq) (rOwnNeR C sp E) := by
  intro pins s σ H x y v u Q I rx ry h
  obtain ⟨a, dx, fs, i, rfl, ha, rfl, h⟩ := h
  cases ry
  obtain ⟨t, rfl⟩ := (show ∃ t, v = Value.int i t from rx)
  obtain ⟨mA, J0, _⟩ := ins_get I.hok ha
  have hg := J0.1
  obtain ⟨od, J, _⟩ := J0.look
  obtain ⟨id, nb, g, h1, h2, h3⟩ := side_ne.gives
  have hu : X.A.units + 1 < cLine := by have := hr.un; omega
  show wpAny _ _ (richCompare .NotEq (.int i t) (.ref a)) _ _ _
  exact cmp_refl hr.units0 I.kIn J hg li h1 h2 (h3 _ _) rfl (ne_own hu I.kIn J d.ob d.ne m.at_ m.fn (wpAny_mono (run_ownA (vs := [V.ref a, V.int i]) F hr.in1 rfl hb (hx σ) I (.cons rfl (.cons ⟨t, rfl⟩ .nil)) h) (fun v s' z => back_not z) fun _ _ e => e))
def rOwnBool (C : Addr) (sp : Sp) (E : XK) : List V → Hp → VK → Prop := fun xs H Q => ∃ a dx fs, xs = [.ref a] ∧ H a = some (.ins C dx fs) ∧ sp [.ref a] H (fun v H' => ∃ k : Bool, v = .bl k ∧ Q (.bl k) H') E
theorem call_boolO {E : XK} (m : Meth X.K C "__bool__" f) (F : FnOk X.prog X.w X.K X.mg X.base CX n f fd ps sp) (hr : Room (n + 2) X.A) (hb : Binds X.K fd ps []) (hx : ∀ σ, PassesAt CX X σ E) : CallR X (.type "bool") (rOwnBool C sp E) := by
  intro pins s σ H xs us Q I r h
  obtain ⟨a, dx, fs, rfl, ha, h⟩ := h
  obtain ⟨u, rfl, rx⟩ := vals1 r
  cases rx
  obtain ⟨mA, J, _⟩ := ins_get I.hok ha
  obtain ⟨od, J, _⟩ := J.look
  obtain ⟨m', hF⟩ := I.fr
  refine bool_own hF I.ok.mod.kin J m.at_ m.fn (wpAny_mono (run_ownA (vs := [V.ref a]) F hr.in1.in1 rfl hb (hx σ) I (.cons rfl .nil) h) (fun v s' hv => ?_) fun _ _ e => e)
  obtain ⟨z, H', I', rv, k, rfl, q⟩ := hv
  exact ⟨k, rv, .bl k, H', I', rfl, q⟩
end
/-- o.m(e, ..) within a try -/
def tMethS (C : Addr) (m : Str) (sp : Sp) (dvs : List V) (E : L2.St → XK) (ta : TE) (t : TA) : TE := fun σ H Q => ta σ H fun x H1 => ∃ a dx fs, x = .ref a ∧ H1 a = some (.ins C dx fs) ∧ fs.lookup m = none ∧
  t σ H1 fun vs H2 => sp (x :: (vs ++ dvs)) H2 Q (E σ)
section
open PySem.Spec PyProof.Rows
variable {X : Cx} {CX : CXT} {k : Nat} {f C : Addr} {fd : FuncData} {ps : List Str} {sp : Sp} {dvs : List V} {ds : List Value} {E : L2.St → XK} {m : Str} {pos apos : Pos} {e o : Expr} {es : List Expr} {ta : TE} {t : TA}
theorem pe_methS {pl : Sem Bool} (he : PE X o ta) (c : Cls X.K C) (hm : Meth X.K C m f) (F : FnOk X.prog X.w X.K X.mg X.base CX k f fd ps sp) (hr : Room k X.A) (hb : Binds X.K fd ps ds) (hd : Vals dvs ds) (hx : ∀ σ, PassesAt CX X σ (E σ)) (ha : PA X (e :: es) t)
    (hst : starEach (e :: es) X.env = (false, eval e X.env) :: starEach es X.env := by rfl) (hpl : (backTo pos (starEach es X.env)).any (·.1) = false := by rfl)
    (ht : eval (.Call (.Attribute o m apos) (e :: es) [] pos) X.env = (do
      let v0 ← eval o X.env
      standAt apos.atName
      let (g0, first0) ← holding [v0] (getMethod v0 m pl)
      callWith pos g0 first0 (backTo pos (starEach (e :: es) X.env)) (backToKw pos (keywordEach [] X.env))) := by rfl) :
    PE X (.Call (.Attribute o m apos) (e :: es) [] pos) (tMethS C m sp dvs E ta t) := by
  refine ⟨fun pins s σ H Q I h => PySem.W.methodCall_KW (pl := pl) (thn (he.run pins s σ H _ I h) fun u s1 hu => ?_) ht⟩
  obtain ⟨x, H1, I1, rx, a, dx, fs, ex, ea, l, q⟩ := hu
  subst ex
  obtain rfl : u = Value.ref a := rx
  refine getmeth_ok I1 ea c hm l ?_
  refine PySem.W.callWith_K (first := [.ref a]) (h₀ := X.base) I.ok.mod.kin hm.kp (thn (ha.run pos pins s1 σ H1 _ I1 q) fun us s2 hw => ?_) hst hpl
  obtain ⟨vs, H2, I2, r, q2⟩ := hw
  exact ⟨I2.kIn, run_fnSD (us := .ref a :: us) (vs := .ref a :: vs) F hr hb hd (hx σ) I2 (.cons rfl r) q2⟩
end

structure Sz (z : Int) : Prop where
  lt : z.natAbs < 2 ^ 3900
theorem sz_of {z : Int} {b : Nat} (h : z.natAbs < 2 ^ b) (hb : b ≤ 3900) : Sz z := ⟨Nat.lt_of_lt_of_le h (Nat.pow_le_pow_right (by decide) hb)⟩
theorem Sz.le {y z : Int} (h : Sz z) (hy : y.natAbs ≤ z.natAbs) : Sz y := ⟨Nat.lt_of_le_of_lt hy h.lt⟩
theorem Sz.mul {y z : Int} (h : Sz y) (g : Sz z) : CMulW y z := wide_mul h.lt g.lt (by decide) (by decide) (by decide)
theorem Sz.low {y z : Int} (h : Sz y) (g : Sz z) : (y * z).natAbs < 2 ^ 8000 := Nat.lt_of_lt_of_le (wide_lt h.lt g.lt) (Nat.pow_le_pow_right (by decide) (by decide))
theorem sz_neg {z : Int} (h : Sz z) : Sz (-z) := h.le (by omega)
theorem low_of {p q t u : Int} (hu : 0 < u) (hg : Nat.gcd t.natAbs u.natAbs = 1) (he : t * q = p * u) (hq : q ≠ 0) : Low p q t u := by
  have e : t.natAbs * q.natAbs = p.natAbs * u.natAbs := by rw [← Int.natAbs_mul, he, Int.natAbs_mul]
  refine ⟨hu, hg, he, ?_, ?_⟩
  · have d : t.natAbs ∣ p.natAbs := Nat.Coprime.dvd_of_dvd_mul_right (k := t.natAbs) (n := u.natAbs) hg ⟨q.natAbs, e.symm⟩
    by_cases hp : p = 0
    · subst hp
      rw [Int.zero_mul] at he
      have : t = 0 := (Int.mul_eq_zero.mp he).resolve_right hq
      omega
    · exact Nat.le_of_dvd (by omega) d
  · have d : u.natAbs ∣ q.natAbs := Nat.Coprime.dvd_of_dvd_mul_left (k := u.natAbs) (m := t.natAbs) (by rw [Nat.Coprime, Nat.gcd_comm]; exact hg) ⟨p.natAbs, by rw [e, Nat.mul_comm]⟩
    exact Nat.le_of_dvd (by omega) d
theorem low_same {p q p' q' t u : Int} (h : Low p q t u) (e : p * q' = p' * q) (hq : q ≠ 0) (hq' : q' ≠ 0) : Low p' q' t u := by
  refine low_of h.pos h.cop ?_ hq'
  have h1 := h.eq
  have : q * (t * q') = q * (p' * u) := by grind
  exact Int.eq_of_mul_eq_mul_left hq this
theorem low_int {c : Int} : Low c 1 c 1 := ⟨by decide, by simp, rfl, Nat.le_refl _, Nat.le_refl _⟩
theorem mul_ne {b d : Int} (hb : b ≠ 0) (hd : d ≠ 0) : b * d ≠ 0 := fun z => (Int.mul_eq_zero.mp z).elim hb hd
theorem low_add {a b c d t u t' u' T U : Int} (h1 : Low a b t u) (h2 : Low c d t' u') (h : Low (t * u' + t' * u) (u * u') T U) (hb : b ≠ 0) (hd : d ≠ 0) : Low (a * d + c * b) (b * d) T U := by
  have e1 := h1.eq
  have e2 := h2.eq
  have p1 := h1.pos
  have p2 := h2.pos
  exact low_same h (by grind) (mul_ne (by omega) (by omega)) (mul_ne hb hd)
theorem low_mul {a b c d t u t' u' T U : Int} (h1 : Low a b t u) (h2 : Low c d t' u') (h : Low (t * t') (u * u') T U) (hb : b ≠ 0) (hd : d ≠ 0) : Low (a * c) (b * d) T U := by
  have e1 := h1.eq
  have e2 := h2.eq
  have p1 := h1.pos
  have p2 := h2.pos
  exact low_same h (by grind) (mul_ne (by omega) (by omega)) (mul_ne hb hd)
theorem low_neg {a b t u T U : Int} (h1 : Low a b t u) (h : Low (-t) u T U) (hb : b ≠ 0) : Low (-a) b T U := by
  have e1 := h1.eq
  have p1 := h1.pos
  exact low_same h (by grind) (by omega) hb
theorem low_abs {a b t u T U : Int} (h1 : Low a b t u) (h : Low (t.natAbs : Int) u T U) (hb : 0 < b) : Low (a.natAbs : Int) b T U := by
  have p1 := h1.pos
  refine low_same h ?_ (by omega) (by omega)
  have e : t.natAbs * b.natAbs = a.natAbs * u.natAbs := by rw [← Int.natAbs_mul, h1.eq, Int.natAbs_mul]
  have e2 : ((t.natAbs * b.natAbs : Nat) : Int) = ((a.natAbs * u.natAbs : Nat) : Int) := by rw [e]
  rw [Int.natCast_mul, Int.natCast_mul] at e2
  rwa [show (b.natAbs : Int) = b by omega, show (u.natAbs : Int) = u by omega] at e2

/-! ### sum of what an own class adds -/
/-- below a built-in that calls back; nothing is raised there -/
def inS (X : Cx) : Cx := { X with A := X.A.in1, xe := fun _ _ => False }
/-- what the walk over xs asks: ints are added, else r tells -/
def sumW (K : PySem.W.Frag) (r : R2) (p : Addr) (all : List V) (Q : VK) : List V → V → Hp → Prop
  | [], t, H => SqL K H p all ∧ ((∃ a, t = .int a) ∨ ∃ c, t = .ref c) ∧ Q t H
  | x :: xs, t, H => SqL K H p all ∧ ((∃ a b, t = .int a ∧ x = .int b ∧ sumW K r p all Q xs (.int (a + b)) H) ∨ (((∃ c, t = .ref c) ∨ ((∃ a, t = .int a) ∧ ∃ c, x = .ref c)) ∧ r t x H fun v H' => sumW K r p all Q xs v H'))
def rSumG (K : PySem.W.Frag) (r : R2) : List V → Hp → VK → Prop := fun vs H Q => ∃ p xs, vs = [.ref p] ∧ sumW K r p xs Q xs (.int 0) H
section
open PySem.Spec PyProof.Rows
variable {X : Cx} {pins : List (Addr × Obj)} {σ : L2.St} {H : Hp} {s : Shared}
theorem okS (ok : X.Ok) : (inS X).Ok := ⟨ok.mod, ok.kind, ok.glob, ok.blt, ok.above, ok.inj, ok.has, ok.cab, fun h => ok.hd h, ok.frames, ok.stk, ok.exf, ok.bs, ok.bsz, ok.noex, ok.exfs, ok.funs, ok.frf⟩
theorem okU (ok : (inS X).Ok) : X.Ok := ⟨ok.mod, ok.kind, ok.glob, ok.blt, ok.above, ok.inj, ok.has, ok.cab, fun h => ok.hd h, ok.frames, ok.stk, ok.exf, ok.bs, ok.bsz, ok.noex, ok.exfs, ok.funs, ok.frf⟩
theorem invS (I : Inv X pins σ H s) : Inv (inS X) pins σ H s := ⟨okS I.ok, I.os, I.bare, I.base, I.loc, I.cell, I.free, I.freeC, I.pin, I.hok, I.len⟩
theorem invU (I : Inv (inS X) pins σ H s) : Inv X pins σ H s := ⟨okU I.ok, I.os, I.bare, I.base, I.loc, I.cell, I.free, I.freeC, I.pin, I.hok, I.len⟩
/-- a record of the walk's own -/
structure Mine (X : Cx) (pins : List (Addr × Obj)) (b : Addr) : Prop where
  loc : b ≠ X.env.locals
  fs : b ∉ X.fs
  old : X.s_0.heap.objs.size ≤ b
  cell : ∀ x c, X.env.cells.lookup x = some c → c ≠ b
  pin : ∀ p ∈ X.pn ++ pins, p.1 ≠ b
theorem mine_new {b : Addr} (I : Inv X pins σ H s) (hb : s.heap.objs.size ≤ b) : Mine X pins b := by
  obtain ⟨_, h1, h2, h3, h4, h5⟩ := I.fpOk hb (I.hok.fresh hb)
  exact ⟨h1, h2, Nat.le_trans I.sz hb, h4, h5⟩
theorem Mine.cons {b : Addr} {p : Addr × Obj} (m : Mine X pins b) (h : p.1 ≠ b) : Mine X (p :: pins) b := ⟨m.loc, m.fs, m.old, m.cell, fun q hq => by
  rcases List.mem_append.mp hq with z | z
  · exact m.pin q (List.mem_append_left _ z)
  · rcases List.mem_cons.mp z with e | z
    · rw [e]; exact h
    · exact m.pin q (List.mem_append_right _ z)⟩
theorem pinU {p : Addr × Obj} (I : Inv X (p :: pins) σ H s) : Inv X pins σ H s := I.pins_of fun r hr => I.pin r (List.mem_append_right _ (List.mem_cons_of_mem _ hr))
theorem pinAt {p : Addr × Obj} (I : Inv X (p :: pins) σ H s) : s.heap.get? p.1 = some p.2 := (I.pin p (List.mem_append_right _ List.mem_cons_self)).1
theorem pinFree {p : Addr × Obj} (I : Inv X (p :: pins) σ H s) : H p.1 = none := (I.pin p (List.mem_append_right _ List.mem_cons_self)).2.1
theorem pinSwap {p q : Addr × Obj} (I : Inv X (p :: q :: pins) σ H s) : Inv X (q :: p :: pins) σ H s := I.pins_of fun r hr => I.pin r (List.mem_append_right _ (by
  rcases List.mem_cons.mp hr with e | hr
  · rw [e]; exact List.mem_cons_of_mem _ List.mem_cons_self
  · rcases List.mem_cons.mp hr with e | hr
    · rw [e]; exact List.mem_cons_self
    · exact List.mem_cons_of_mem _ (List.mem_cons_of_mem _ hr)))
theorem pinNew {o : Obj} {h' : Heap} {a : Addr} {t' : Nat} (I : Inv X pins σ H s) (k : ∀ b u, s.heap.get? b = some u → h'.get? b = some u) (ha : s.heap.objs.size ≤ a) (ho : h'.get? a = some o) (hc : ∀ v, o.data ≠ .cell v) :
    Inv X ((a, o) :: pins) σ H { s with heap := h', toks := t' } := by
  have I1 := I.kept (t' := t') k
  refine I1.pins_of fun p hp => ?_
  rcases List.mem_cons.mp hp with e | e
  · subst e
    exact ⟨ho, I.hok.fresh ha, Nat.ne_of_gt (Nat.lt_of_lt_of_le I.lt ha), I.nofs ha, hc⟩
  · exact I1.pin p (List.mem_append_right _ e)
/-- the record at b is another one now -/
theorem repin {b : Addr} {o o' : Obj} {h' : Heap} {t' : Nat} (I : Inv X ((b, o) :: pins) σ H s) (m : Mine X pins b) (k : ∀ c u, c ≠ b → s.heap.get? c = some u → h'.get? c = some u) (ho : h'.get? b = some o') (hc : ∀ v, o'.data ≠ .cell v) :
    Inv X ((b, o') :: pins) σ H { s with heap := h', toks := t' } := by
  have hb : H b = none := pinFree I
  have f : FpOk X pins H b := ⟨hb, m.loc, m.fs, .inr m.old, m.cell, m.pin⟩
  have I1 := (pinU I).turnedL (t' := t') (h' := h') (ch := [b]) (fun c u hc => k c u (fun z => hc (by rw [z]; exact List.mem_cons_self))) (fun c hc => by rw [List.mem_singleton.mp hc]; exact f)
  exact I1.pins_of fun p hp => by
    rcases List.mem_cons.mp hp with e | e
    · subst e; exact ⟨ho, hb, m.loc, m.fs, hc⟩
    · exact I1.pin p (List.mem_append_right _ e)
theorem upd_other {h : Heap} {S : Addr} {f : Obj → Obj} : ∀ (c : Addr) (u : Obj), c ≠ S → h.get? c = some u → (h.update S f).get? c = some u := fun c u hc e => (Heap.get?_update_other _ _ (fun z : S = c => hc z.symm)).trans e
abbrev sumL (v : Value) (c : Nat) : Obj := { cls := .type "list", dict := none, data := .seq #[v] c, slots := #[] }
theorem sumW_ir {K : PySem.W.Frag} {r : R2} {p : Addr} {all : List V} {Q : VK} : ∀ {xs : List V} {t : V} {H : Hp}, sumW K r p all Q xs t H → (∃ a, t = .int a) ∨ ∃ c, t = .ref c
  | [], _, _, h => h.2.1
  | _ :: _, _, _, h => by
    rcases h.2 with ⟨a, b, h1, _⟩ | ⟨⟨c, h1⟩ | ⟨⟨a, h1⟩, _⟩, _⟩
    · exact .inl ⟨a, h1⟩
    · exact .inr ⟨c, h1⟩
    · exact .inl ⟨a, h1⟩
theorem sumW_sq {K : PySem.W.Frag} {r : R2} {p : Addr} {all : List V} {Q : VK} : ∀ {xs : List V} {t : V} {H : Hp}, sumW K r p all Q xs t H → SqL K H p all
  | [], _, _, h => h.1
  | _ :: _, _, _, h => h.1
theorem sum_again {r : R2} {p : Addr} {all : List V} {Q : VK} {R : Result → Shared → Prop} {S it : Addr} (hc : X.calm = true) (ho : OpR (inS X) (binaryOp .Add) r) (mS : Mine X pins S) (mI : Mine X pins it) (hne : S ≠ it)
    (hR : ∀ u s', EP X pins σ Q u s' → R (.ok (.ret u)) s') : ∀ (xs : List V) (i : Nat) (s : Shared) (H : Hp) (t : V) (tv : Value) (st : Int) (c : Nat) (oI : Obj), all.drop i = xs → (st = 0 ∨ st = 2) → Inv X ((S, sumL tv c) :: (it, oI) :: pins) σ H s →
    (oI.cls = .type "list_iterator" ∧ oI.data = .fields #[.ref p, .int i 0]) → RelV t tv → sumW X.K r p all Q xs t H → codeAny (model X.prog X.w) X.A (.builtin "sum.loop" ⟨[.ref it, .ref S, rawInt st, rawInt 0], []⟩) R s := by
  have mS2 : ∀ {o : Obj}, Mine X ((it, o) :: pins) S := mS.cons (fun z => hne z.symm)
  have mI2 : ∀ {o : Obj}, Mine X ((S, o) :: pins) it := mI.cons hne
  intro xs
  induction xs with
  | nil =>
    intro i s H t tv st c oI hd hst I hI rt hw
    obtain ⟨hp, ht, q⟩ := hw
    have hS := pinAt I
    have hi := pinAt (pinSwap I)
    obtain ⟨its, rv, hl, _⟩ := I.list hp
    have hend : its.toArray[i]? = none := by
      have e1 := congrArg List.length hd
      have e2 := rv.length
      rw [List.length_drop] at e1
      simp only [List.length_nil] at e1
      simp only [List.getElem?_toArray]
      exact List.getElem?_eq_none (by omega)
    refine codeAny_builtin F.entry_sum_loop ?_
    rw [Around.under_plainId F.plain_sum_loop _]
    show wpAny _ X.A.in1 (seqItems? (.ref S) >>= _) _ _ s
    refine wpAny_bind (wpAny_seqItems hS rfl ?_)
    show wpAny _ X.A.in1 (tryCatch (pyNext (.ref it)) _ >>= _) _ _ s
    refine wpAny_bind (wpAny_tryCatch (wpAny_pyNext_list_end (I.ok.hd hc) ⟨oI, hi, hI.1, hI.2⟩ hl.isList hend fun h' hk => ?_))
    have J : Inv X pins σ H { s with heap := h' } := by
      have hb : H it = none := pinFree (pinSwap I)
      exact (pinU (pinU I)).turnedL (t' := s.toks) (ch := [it]) (fun c u hc e => hk c u (fun z => hc (by rw [z]; exact List.mem_cons_self)) e) (fun c hc => by rw [List.mem_singleton.mp hc]; exact ⟨hb, mI.loc, mI.fs, .inr mI.old, mI.cell, mI.pin⟩)
    have fin : R (.ok (.ret tv)) { s with heap := h' } := hR tv _ ⟨t, H, J, rt, q⟩
    rcases ht with ⟨a, rfl⟩ | ⟨a, rfl⟩
    · obtain ⟨tk, rfl⟩ := (show ∃ tk, tv = Value.int a tk from rt)
      exact wpAny_pure fin
    · cases (show tv = Value.ref a from rt)
      exact wpAny_pure fin
  | cons x xs ih =>
    intro i s H t tv st c oI hd hst I hI rt hw
    obtain ⟨hp, hw⟩ := hw
    have hS := pinAt I
    have hi := pinAt (pinSwap I)
    obtain ⟨its, rv, hl, _⟩ := I.list hp
    have hx : all[i]? = some x := by
      have e1 : (all.drop i)[0]? = some x := by rw [hd]; rfl
      rw [List.getElem?_drop] at e1
      simpa using e1
    have hd2 : all.drop (i + 1) = xs := by
      rw [← List.tail_drop, hd]
      rfl
    obtain ⟨xv, hxv, rx⟩ := rv.get hx
    refine codeAny_builtin F.entry_sum_loop ?_
    rw [Around.under_plainId F.plain_sum_loop _]
    show wpAny _ X.A.in1 (seqItems? (.ref S) >>= _) _ _ s
    refine wpAny_bind (wpAny_seqItems hS rfl ?_)
    show wpAny _ X.A.in1 (tryCatch (pyNext (.ref it)) _ >>= _) _ _ s
    refine wpAny_bind (wpAny_tryCatch (wpAny_pyNext_list_item (x := xv) ⟨oI, hi, hI.1, hI.2⟩ hl.isList (by simpa using hxv) fun h' hit hk => ?_))
    obtain ⟨oJ, eJ, cJ, dJ⟩ := hit
    have I1 : Inv X ((S, sumL tv c) :: (it, oJ) :: pins) σ H { s with heap := h' } := pinSwap (repin (t' := s.toks) (pinSwap I) mI2 (fun c u hc e => hk.extBut c u hc e) eJ (fun v => by rw [dJ]; intro z; cases z))
    have hS1 : h'.get? S = some (sumL tv c) := pinAt I1
    have opw : wpAny (model X.prog X.w) X.A.in1 (binaryOp .Add tv xv) (fun u s2 => ∃ t' H2, Inv X ((S, sumL tv c) :: (it, oJ) :: pins) σ H2 s2 ∧ RelV t' u ∧ sumW X.K r p all Q xs t' H2) (fun _ _ => False) { s with heap := h' } := by
      rcases hw with ⟨a, b, rfl, rfl, hw⟩ | ⟨_, hw⟩
      · obtain ⟨tk, rfl⟩ := (show ∃ tk, tv = Value.int a tk from rt)
        obtain ⟨tb, rfl⟩ := (show ∃ tb, xv = Value.int b tb from rx)
        exact wpAny_add_int ⟨.int (a + b), H, I1.tok _, ⟨_, rfl⟩, hw⟩
      · refine wpAny_mono (ho _ _ σ H t x tv xv _ (invS I1) rt rx hw) (fun u s2 hu => ?_) fun _ _ z => z
        obtain ⟨v', H2, J, rv2, q⟩ := hu
        exact ⟨v', H2, invU J, rv2, q⟩
    have hk2 : (∃ c, t = .ref c) ∨ (∃ a b, t = .int a ∧ x = .int b ∧ sumW X.K r p all Q xs (.int (a + b)) H) ∨ (∃ a c, t = .int a ∧ x = .ref c) := by
      rcases hw with ⟨a, b, h1, h2, h3⟩ | ⟨⟨c, h⟩ | ⟨⟨a, h⟩, c, h'⟩, _⟩
      · exact .inr (.inl ⟨a, b, h1, h2, h3⟩)
      · exact .inl ⟨c, h⟩
      · exact .inr (.inr ⟨a, c, h, h'⟩)
    clear hw
    rcases hk2 with ⟨d, rfl⟩ | ⟨a, b, rfl, rfl, hwi⟩ | ⟨a, d, rfl, rfl⟩
    · cases (show tv = Value.ref d from rt)
      show wpAny _ X.A.in1 ((holding [xv] (binaryOp .Add (Value.ref d) xv)).attempt >>= _) _ _ _
      refine wpAny_bind (wpAny_attempt (wpAny_holding (wpAny_mono opw (fun u s2 hu => ?_) (fun _ _ z => z.elim))))
      obtain ⟨t', H2, J, ru, hw2⟩ := hu
      have e := pinAt J
      show wpAny _ X.A.in1 (updateSeq S (fun _ => #[u]) >>= _) _ _ _
      refine wpAny_bind (wpAny_updateSeq e rfl ?_)
      have e2 := Heap.get?_update_self (Obj.mapSeq fun _ => #[u]) e rfl
      refine wpAny_bind (wpAny_letGo ?_)
      have J2 := repin (t' := s2.toks) J mS2 upd_other e2 (fun v z => by cases z)
      have e3 := Heap.get?_update_self (Obj.mapSeq fun _ => #[u]) e2 rfl
      have J3 := repin (t' := s2.toks) J2 mS2 upd_other e3 (fun v z => by cases z)
      have g : ∀ (w : Int), w = 2 → codeAny (model X.prog X.w) X.A (.builtin "sum.loop" ⟨[.ref it, .ref S, rawInt w, rawInt 0], []⟩) R { s2 with heap := (s2.heap.update S (Obj.mapSeq fun _ => #[u])).update S (Obj.mapSeq fun _ => #[u]) } := fun w hw => ih (i + 1) _ H2 t' u w _ oJ hd2 (.inr hw) J3 ⟨cJ, dJ⟩ ru hw2
      rcases sumW_ir hw2 with ⟨a', rfl⟩ | ⟨a', rfl⟩
      · obtain ⟨tk', rfl⟩ := (show ∃ tk, u = Value.int a' tk from ru)
        exact wpAny_bind (wpAny_updateSeq e2 rfl (wpAny_pure ⟨plainId_quiet F.plain_sum_loop _, g 2 rfl⟩))
      · cases (show u = Value.ref a' from ru)
        exact wpAny_bind (wpAny_updateSeq e2 rfl (wpAny_pure ⟨plainId_quiet F.plain_sum_loop _, g 2 rfl⟩))
    · obtain ⟨tk, rfl⟩ := (show ∃ tk, tv = Value.int a tk from rt)
      obtain ⟨tb, rfl⟩ := (show ∃ tb, xv = Value.int b tb from rx)
      rcases hst with rfl | rfl
      · show wpAny _ X.A.in1 (if (_ : Bool) = true then (mkInt (a + b) >>= _) else _) _ _ _
        split
        · refine wpAny_bind (wpAny_mkInt ?_)
          show wpAny _ X.A.in1 (updateSeq S (fun _ => #[.int (a + b) s.toks]) >>= _) _ _ _
          have J0 := repin (t' := s.toks + 1) I1 mS2 upd_other (Heap.get?_update_self (Obj.mapSeq fun _ => #[.int (a + b) s.toks]) hS1 rfl) (fun v z => by cases z)
          exact wpAny_bind (wpAny_updateSeq hS1 rfl (wpAny_pure ⟨plainId_quiet F.plain_sum_loop _, ih (i + 1) _ H (.int (a + b)) (.int (a + b) s.toks) 0 _ oJ hd2 (.inl rfl) J0 ⟨cJ, dJ⟩ ⟨_, rfl⟩ hwi⟩))
        · refine wpAny_bind (wpAny_rule ?_)
          refine wpAny_bind (wpAny_attempt (wpAny_holding (wpAny_mono opw (fun u s2 hu => ?_) (fun _ _ z => z.elim))))
          obtain ⟨t', H2, J, ru, hw2⟩ := hu
          have e := pinAt J
          show wpAny _ X.A.in1 (updateSeq S (fun _ => #[u]) >>= _) _ _ _
          refine wpAny_bind (wpAny_updateSeq e rfl ?_)
          have e2 := Heap.get?_update_self (Obj.mapSeq fun _ => #[u]) e rfl
          refine wpAny_bind (wpAny_letGo ?_)
          have J2 := repin (t' := s2.toks) J mS2 upd_other e2 (fun v z => by cases z)
          have e3 := Heap.get?_update_self (Obj.mapSeq fun _ => #[u]) e2 rfl
          have J3 := repin (t' := s2.toks) J2 mS2 upd_other e3 (fun v z => by cases z)
          have g : ∀ (w : Int), w = 2 → codeAny (model X.prog X.w) X.A (.builtin "sum.loop" ⟨[.ref it, .ref S, rawInt w, rawInt 0], []⟩) R { s2 with heap := (s2.heap.update S (Obj.mapSeq fun _ => #[u])).update S (Obj.mapSeq fun _ => #[u]) } := fun w hw => ih (i + 1) _ H2 t' u w _ oJ hd2 (.inr hw) J3 ⟨cJ, dJ⟩ ru hw2
          rcases sumW_ir hw2 with ⟨a', rfl⟩ | ⟨a', rfl⟩
          · obtain ⟨tk', rfl⟩ := (show ∃ tk, u = Value.int a' tk from ru)
            exact wpAny_bind (wpAny_updateSeq e2 rfl (wpAny_pure ⟨plainId_quiet F.plain_sum_loop _, g 2 rfl⟩))
          · cases (show u = Value.ref a' from ru)
            exact wpAny_bind (wpAny_updateSeq e2 rfl (wpAny_pure ⟨plainId_quiet F.plain_sum_loop _, g 2 rfl⟩))
      · show wpAny _ X.A.in1 ((holding [Value.int b tb] (binaryOp .Add (Value.int a tk) (Value.int b tb))).attempt >>= _) _ _ _
        refine wpAny_bind (wpAny_attempt (wpAny_holding (wpAny_mono opw (fun u s2 hu => ?_) (fun _ _ z => z.elim))))
        obtain ⟨t', H2, J, ru, hw2⟩ := hu
        have e := pinAt J
        show wpAny _ X.A.in1 (updateSeq S (fun _ => #[u]) >>= _) _ _ _
        refine wpAny_bind (wpAny_updateSeq e rfl ?_)
        have e2 := Heap.get?_update_self (Obj.mapSeq fun _ => #[u]) e rfl
        refine wpAny_bind (wpAny_letGo ?_)
        have J2 := repin (t' := s2.toks) J mS2 upd_other e2 (fun v z => by cases z)
        have e3 := Heap.get?_update_self (Obj.mapSeq fun _ => #[u]) e2 rfl
        have J3 := repin (t' := s2.toks) J2 mS2 upd_other e3 (fun v z => by cases z)
        have g : ∀ (w : Int), w = 2 → codeAny (model X.prog X.w) X.A (.builtin "sum.loop" ⟨[.ref it, .ref S, rawInt w, rawInt 0], []⟩) R { s2 with heap := (s2.heap.update S (Obj.mapSeq fun _ => #[u])).update S (Obj.mapSeq fun _ => #[u]) } := fun w hw => ih (i + 1) _ H2 t' u w _ oJ hd2 (.inr hw) J3 ⟨cJ, dJ⟩ ru hw2
        rcases sumW_ir hw2 with ⟨a', rfl⟩ | ⟨a', rfl⟩
        · obtain ⟨tk', rfl⟩ := (show ∃ tk, u = Value.int a' tk from ru)
          exact wpAny_bind (wpAny_updateSeq e2 rfl (wpAny_pure ⟨plainId_quiet F.plain_sum_loop _, g 2 rfl⟩))
        · cases (show u = Value.ref a' from ru)
          exact wpAny_bind (wpAny_updateSeq e2 rfl (wpAny_pure ⟨plainId_quiet F.plain_sum_loop _, g 2 rfl⟩))
    · obtain ⟨tk, rfl⟩ := (show ∃ tk, tv = Value.int a tk from rt)
      cases (show xv = Value.ref d from rx)
      rcases hst with rfl | rfl
      · show wpAny _ X.A.in1 (rule "sum.leaves-ints" >>= _) _ _ _
        refine wpAny_bind (wpAny_rule ?_)
        refine wpAny_bind (wpAny_attempt (wpAny_holding (wpAny_mono opw (fun u s2 hu => ?_) (fun _ _ z => z.elim))))
        obtain ⟨t', H2, J, ru, hw2⟩ := hu
        have e := pinAt J
        show wpAny _ X.A.in1 (updateSeq S (fun _ => #[u]) >>= _) _ _ _
        refine wpAny_bind (wpAny_updateSeq e rfl ?_)
        have e2 := Heap.get?_update_self (Obj.mapSeq fun _ => #[u]) e rfl
        refine wpAny_bind (wpAny_letGo ?_)
        have J2 := repin (t' := s2.toks) J mS2 upd_other e2 (fun v z => by cases z)
        have e3 := Heap.get?_update_self (Obj.mapSeq fun _ => #[u]) e2 rfl
        have J3 := repin (t' := s2.toks) J2 mS2 upd_other e3 (fun v z => by cases z)
        have g : ∀ (w : Int), w = 2 → codeAny (model X.prog X.w) X.A (.builtin "sum.loop" ⟨[.ref it, .ref S, rawInt w, rawInt 0], []⟩) R { s2 with heap := (s2.heap.update S (Obj.mapSeq fun _ => #[u])).update S (Obj.mapSeq fun _ => #[u]) } := fun w hw => ih (i + 1) _ H2 t' u w _ oJ hd2 (.inr hw) J3 ⟨cJ, dJ⟩ ru hw2
        rcases sumW_ir hw2 with ⟨a', rfl⟩ | ⟨a', rfl⟩
        · obtain ⟨tk', rfl⟩ := (show ∃ tk, u = Value.int a' tk from ru)
          exact wpAny_bind (wpAny_updateSeq e2 rfl (wpAny_pure ⟨plainId_quiet F.plain_sum_loop _, g 2 rfl⟩))
        · cases (show u = Value.ref a' from ru)
          exact wpAny_bind (wpAny_updateSeq e2 rfl (wpAny_pure ⟨plainId_quiet F.plain_sum_loop _, g 2 rfl⟩))
      · show wpAny _ X.A.in1 ((holding [Value.ref d] (binaryOp .Add (Value.int a tk) (Value.ref d))).attempt >>= _) _ _ _
        refine wpAny_bind (wpAny_attempt (wpAny_holding (wpAny_mono opw (fun u s2 hu => ?_) (fun _ _ z => z.elim))))
        obtain ⟨t', H2, J, ru, hw2⟩ := hu
        have e := pinAt J
        show wpAny _ X.A.in1 (updateSeq S (fun _ => #[u]) >>= _) _ _ _
        refine wpAny_bind (wpAny_updateSeq e rfl ?_)
        have e2 := Heap.get?_update_self (Obj.mapSeq fun _ => #[u]) e rfl
        refine wpAny_bind (wpAny_letGo ?_)
        have J2 := repin (t' := s2.toks) J mS2 upd_other e2 (fun v z => by cases z)
        have e3 := Heap.get?_update_self (Obj.mapSeq fun _ => #[u]) e2 rfl
        have J3 := repin (t' := s2.toks) J2 mS2 upd_other e3 (fun v z => by cases z)
        have g : ∀ (w : Int), w = 2 → codeAny (model X.prog X.w) X.A (.builtin "sum.loop" ⟨[.ref it, .ref S, rawInt w, rawInt 0], []⟩) R { s2 with heap := (s2.heap.update S (Obj.mapSeq fun _ => #[u])).update S (Obj.mapSeq fun _ => #[u]) } := fun w hw => ih (i + 1) _ H2 t' u w _ oJ hd2 (.inr hw) J3 ⟨cJ, dJ⟩ ru hw2
        rcases sumW_ir hw2 with ⟨a', rfl⟩ | ⟨a', rfl⟩
        · obtain ⟨tk', rfl⟩ := (show ∃ tk, u = Value.int a' tk from ru)
          exact wpAny_bind (wpAny_updateSeq e2 rfl (wpAny_pure ⟨plainId_quiet F.plain_sum_loop _, g 2 rfl⟩))
        · cases (show u = Value.ref a' from ru)
          exact wpAny_bind (wpAny_updateSeq e2 rfl (wpAny_pure ⟨plainId_quiet F.plain_sum_loop _, g 2 rfl⟩))
theorem cr_sumG {K : PySem.W.Frag} {r : R2} (hc : X.calm = true) (ho : OpR (inS X) (binaryOp .Add) r) (hk : X.K = K := by rfl) : CallR X (.builtin "sum") (rSumG K r) := by
  subst hk
  intro pins s σ H vs us Q I rr h
  obtain ⟨p, xs, rfl, h⟩ := h
  have hp : SqL X.K H p xs := sumW_sq h
  rw [Vals.ref1 rr]
  obtain ⟨its, rv, hl, _⟩ := I.list hp
  refine call_function_tree F.kind_sum F.plain_sum F.entry_sum (F.args_sum1 _) ?_
  unfold Builtin.«sum»
  simp only [List.length_cons, List.length_nil]
  rw [if_neg (by decide)]
  refine wpAny_bind (wpAny_of_eq (show Builtin.Builtins.bindParams "sum" ["start"] 0 { } = pure [none] from rfl) ?_)
  refine wpAny_bind (wpAny_pyIter_list hl.isList ?_)
  refine wpAny_bind (wpAny_mkInt ?_)
  refine wpAny_bind (wpAny_pure ?_)
  simp only [List.forIn_cons, List.forIn_nil]
  refine wpAny_bind (wpAny_bind (wpAny_bind (wpAny_isInstance (T := "int") (b := false) (typeIs_int _ _ _) PySem.sub_int_str ?_)))
  simp only [Bool.false_eq_true, if_false]
  refine wpAny_pure (wpAny_bind (wpAny_bind (wpAny_isInstance (T := "int") (b := false) (typeIs_int _ _ _) PySem.sub_int_bytes ?_)))
  simp only [Bool.false_eq_true, if_false]
  refine wpAny_pure (wpAny_bind (wpAny_bind (wpAny_isInstance (T := "int") (b := false) (typeIs_int _ _ _) PySem.sub_int_bytearray ?_)))
  simp only [Bool.false_eq_true, if_false]
  refine wpAny_pure (wpAny_pure ?_)
  refine wpAny_bind (wpAny_newObj_type ?_)
  have I1 := pinNew (t' := s.toks) (o := ({ cls := .type "list_iterator", data := .fields #[.ref p, .int 0 0] } : Obj)) I (fun b u e => Heap.get?_push_of_some _ e) (Nat.le_refl _) (Heap.get?_push_size _ rfl) (fun v z => by cases z)
  have I1' := pinU I1
  have mI : Mine X pins s.heap.objs.size := mine_new I (Nat.le_refl _)
  have I2 := pinNew (t' := s.toks + 1) (o := sumL (.int 0 s.toks) 0) I1 (fun b u e => Heap.get?_push_of_some _ e) (Nat.le_refl _) (Heap.get?_push_size _ rfl) (fun v z => by cases z)
  have mS := mine_new I1' (Nat.le_refl _)
  have hne : ({ s with heap := s.heap.push ({ cls := .type "list_iterator", data := .fields #[.ref p, .int 0 0] } : Obj), toks := s.toks } : Shared).heap.objs.size ≠ s.heap.objs.size := by
    show (s.heap.push _).objs.size ≠ _
    rw [Heap.size_push]
    exact Nat.succ_ne_self _
  exact wpAny_pure ⟨plainId_quiet F.plain_sum_loop _, sum_again hc ho mS mI hne (fun u s' z => z) xs 0 _ H (.int 0) (.int 0 s.toks) 0 _ ({ cls := .type "list_iterator", data := .fields #[.ref p, .int 0 0] } : Obj) rfl (.inl rfl) I2 ⟨rfl, rfl⟩ ⟨_, rfl⟩ h⟩
end

section
open PySem.Spec PyProof.Rows
variable {X : Cx}
def rLcm : List V → Hp → VK → Prop := fun vs H Q => ∃ a b : Int, vs = [.int a, .int b] ∧ a.natAbs < 2 ^ 4000 ∧ b.natAbs < 2 ^ 4000 ∧ Q (.int ((Nat.lcm a.natAbs b.natAbs : Nat) : Int)) H
theorem lcm_le (m n : Nat) : m.lcm n ≤ m * n := by
  unfold Nat.lcm
  exact Nat.div_le_self _ _
theorem cr_lcm : CallR X (.builtin "math.lcm") rLcm := by
  intro pins s σ H vs us Q I r h
  obtain ⟨a, b, rfl, ha, hb, q⟩ := h
  obtain ⟨t, u, rfl⟩ := Vals.int2 r
  have one : Nat.lcm 1 a.natAbs = a.natAbs := by simp [Nat.lcm]
  have lg : ∀ z : Nat, z < 2 ^ 4000 → z.log2 < 4000 := fun z hz => PySem.Flt.log2_lt_of (by decide) hz
  have m1 : (max 1 a.natAbs) < 2 ^ 4000 := Nat.max_lt.mpr ⟨Nat.one_lt_two_pow (by decide), ha⟩
  have m2 : (max a.natAbs b.natAbs) < 2 ^ 4000 := Nat.max_lt.mpr ⟨ha, hb⟩
  have l1 := lg _ m1
  have l2 := lg _ m2
  have hp : (a.natAbs.lcm b.natAbs) < 2 ^ 8000 := Nat.lt_of_le_of_lt (lcm_le _ _) (by rw [show (8000 : Nat) = 4000 + 4000 from rfl, Nat.pow_add]; exact Nat.mul_lt_mul'' ha hb)
  have l3 : (a.natAbs.lcm b.natAbs).log2 < 8000 := PySem.Flt.log2_lt_of (by decide) hp
  have q' : EP X pins σ Q (.int ((((Nat.lcm 1 a.natAbs).lcm b.natAbs : Nat) : Int)) s.toks) { s with toks := s.toks + 1 } := by
    rw [one]
    exact ⟨.int _, H, I.tok _, ⟨_, rfl⟩, q⟩
  exact call_function_meets PySem.W.MGF.kind_lcm PySem.W.MGF.plain_lcm PySem.W.MGF.entry_lcm (PySem.W.MGF.args_lcm _ _) (PySem.W.mg_run_lcm a t b u (by omega) (by omega) (by rw [one]; exact Nat.lt_of_lt_of_le l3 (by decide))).meets q'
end
theorem ops_plain {X : Cx} {g : Value → Value → Sem Value} {r : R2} (h : OpR X g r) : OpS X g (fun _ => r) := h
theorem opR_of {X : Cx} {g : Value → Value → Sem Value} {r : L2.St → R2} (h : OpS X g r) (e : ∀ σ, r σ = r [] := by intro _; rfl) : OpR X g (r []) := fun pins s σ H x y v u Q I rx ry z => h pins s σ H x y v u Q I rx ry (by rw [e]; exact z)

theorem el_isW {te : TE} {σ : L2.St} {H : Hp} {xs ys : List V} (h : EvL te σ H xs) (e : xs = ys) : EvL te σ H ys := by subst e; exact h
theorem el_rngY {σ : L2.St} {H : Hp} {te : TE} {ta : TA} {j n : Nat} {vs : List Nat} (v : Nat → V) (h : EvA ta σ H [.int (n : Int)]) (hn : n ≤ 40000) (hw : ∀ x, wipe ((wipe σ vs).set j (some x)) vs = wipe σ vs)
    (he : ∀ (i : Nat) H1, i < n → Ex H H1 → Ev te ((wipe σ vs).set j (some (.int (i : Int)))) H1 (v i)) : EvL (tLc (iRng1 ta) (gName j) tYes te vs) σ H ((List.range n).map v) := by
  have r := ei_rng1 h (by omega)
  rw [Int.toNat_natCast] at r
  rw [← given_all]
  exact el_lc (fun _ => true) v r hn bd_fn (fun i _ => hw _) (fun _ _ _ _ => yes_T) fun i H1 hi e _ => he i H1 hi e

theorem q_asgN {te : TE} {tz : TS} {D : Ends} {σ : L2.St} {H : Hp} {i : Nat} {P : V → Hp → Prop} (h : EvNew te σ H P) (k : ∀ v H1, Ex H H1 → P v H1 → tz D (σ.set i (some v)) H1) : tSeq (tAsg te (gName i)) tz D σ H := q_asgR h.er k

theorem ev_fldQ {K : PySem.W.Frag} {C a dx : Addr} {te : TE} {σ : L2.St} {H : Hp} {fs : List (Str × V)} {f : Str} {v : V} (h : Ev te σ H (.ref a)) (hi : H a = some (.ins C dx fs)) (c : Cls K C) (na : NoAttr K C f) (hl : fs.lookup f = some v) : Ev (tFld K te f) σ H v := fun H1 e Q q => h H1 e _ fun H2 e2 => ⟨a, _, dx, _, _, rfl, e2 _ _ (e _ _ hi), c, na, hl, q H2 e2⟩
theorem s_fldR {K : PySem.W.Frag} {C x dx : Addr} {te : TE} {f : Str} {D : Ends} {σ : L2.St} {H : Hp} {i : Nat} {fs : List (Str × V)} {P : V → Hp → Prop} (h : EvR te σ H P) (hs : σ[i]? = some (some (.ref x))) (hi : H x = some (.ins C dx fs)) (c : Cls K C) (na : NoAttr K C f) (hl : fs.length < 1000) (k : ∀ v H1, Ex H H1 → P v H1 → D.nx σ (upd H1 x (.ins C dx (putF f v fs)))) : sFld K (tVar i) te f D σ H :=
  h H (Ex.refl H) _ fun v H1 e p => ⟨.ref x, hs, x, C, dx, fs, rfl, e _ _ hi, c, na, hl, k v H1 e p⟩
theorem q_fldR {K : PySem.W.Frag} {C x dx : Addr} {te : TE} {f : Str} {D : Ends} {tz : TS} {σ : L2.St} {H : Hp} {i : Nat} {fs : List (Str × V)} {P : V → Hp → Prop} (h : EvR te σ H P) (hs : σ[i]? = some (some (.ref x))) (hi : H x = some (.ins C dx fs)) (c : Cls K C) (na : NoAttr K C f) (hl : fs.length < 1000) (k : ∀ v H1, Ex H H1 → P v H1 → tz D σ (upd H1 x (.ins C dx (putF f v fs)))) : tSeq (sFld K (tVar i) te f) tz D σ H := s_fldR (D := { D with nx := tz D }) h hs hi c na hl k

/-! ### what the tickets come to -/
def gcdL (ts : List Int) : Nat := ts.foldl (fun g t => Nat.gcd g t.natAbs) 0
def lcmL (us : List Int) : Nat := us.foldl (fun l u => Nat.lcm l u.natAbs) 1
theorem gfold_iff (n : Nat) : ∀ (ts : List Int) (g : Nat), n ∣ ts.foldl (fun g t => Nat.gcd g t.natAbs) g ↔ n ∣ g ∧ ∀ t ∈ ts, n ∣ t.natAbs
  | [], g => by simp
  | t :: ts, g => by
    rw [List.foldl_cons, gfold_iff n ts, Nat.dvd_gcd_iff]
    simp [and_assoc]
theorem gcdL_iff (n : Nat) (ts : List Int) : n ∣ gcdL ts ↔ ∀ t ∈ ts, n ∣ t.natAbs := by
  unfold gcdL
  rw [gfold_iff]
  simp
theorem gcdL_dvd {ts : List Int} {t : Int} (h : t ∈ ts) : ((gcdL ts : Nat) : Int) ∣ t := Int.ofNat_dvd_left.mpr ((gcdL_iff _ ts).mp (Nat.dvd_refl _) t h)
theorem gfold_comb (u l : Nat) : ∀ (ts : List Int) (g : Nat), u ∣ l * g → (∀ t ∈ ts, u ∣ l * t.natAbs) → u ∣ l * ts.foldl (fun g t => Nat.gcd g t.natAbs) g
  | [], g, h, _ => h
  | t :: ts, g, h, ht => by
    rw [List.foldl_cons]
    refine gfold_comb u l ts _ ?_ fun t hm => ht t (List.mem_cons_of_mem _ hm)
    rw [← Nat.gcd_mul_left]
    exact Nat.dvd_gcd h (ht t List.mem_cons_self)
theorem gcdL_comb {u l : Nat} {ts : List Int} (ht : ∀ t ∈ ts, u ∣ l * t.natAbs) : u ∣ l * gcdL ts := gfold_comb u l ts 0 (by simp) ht
theorem gcdL_rev (ts : List Int) : gcdL ts.reverse = gcdL ts := Nat.dvd_antisymm ((gcdL_iff _ _).mpr fun t ht => (gcdL_iff _ _).mp (Nat.dvd_refl _) t (List.mem_reverse.mpr ht)) ((gcdL_iff _ _).mpr fun t ht => (gcdL_iff _ _).mp (Nat.dvd_refl _) t (List.mem_reverse.mp ht))
theorem lfold_dvd (n : Nat) : ∀ (us : List Int) (l : Nat), us.foldl (fun l u => Nat.lcm l u.natAbs) l ∣ n ↔ l ∣ n ∧ ∀ u ∈ us, u.natAbs ∣ n
  | [], l => by simp
  | u :: us, l => by
    rw [List.foldl_cons, lfold_dvd n us, Nat.lcm_dvd_iff]
    simp [and_assoc]
theorem lcmL_iff (n : Nat) (us : List Int) : lcmL us ∣ n ↔ ∀ u ∈ us, u.natAbs ∣ n := by
  unfold lcmL
  rw [lfold_dvd]
  simp
theorem sum_dvd {d : Int} : ∀ {ts : List Int}, (∀ t ∈ ts, d ∣ t) → d ∣ ts.sum
  | [], _ => by simp
  | t :: ts, h => by
    rw [List.sum_cons]
    exact Int.dvd_add (h t List.mem_cons_self) (sum_dvd fun t hm => h t (List.mem_cons_of_mem _ hm))
theorem sum_div {d : Int} (hd : d ≠ 0) : ∀ {ts : List Int}, (∀ t ∈ ts, d ∣ t) → (ts.map fun t => t / d).sum = ts.sum / d
  | [], _ => by simp
  | t :: ts, h => by
    have ih := sum_div hd (ts := ts) fun t hm => h t (List.mem_cons_of_mem _ hm)
    rw [List.map_cons, List.sum_cons, List.sum_cons, ih, Int.add_ediv_of_dvd_left (h t List.mem_cons_self)]
/-- t' / u' is t / U in lowest terms, d divides U and t: then u' divides U / d, and t' / u' is (t / d) / (U / d) -/
theorem low_parts {t U t' u' d : Int} (hU : 0 < U) (hd : d ∣ U) (ht : d ∣ t) (hu : 0 < u') (hc : Nat.gcd t'.natAbs u'.natAbs = 1) (he : t' * U = t * u') : u' ∣ U / d ∧ t' * ((U / d) / u') = t / d := by
  obtain ⟨D, rfl⟩ := hd
  obtain ⟨m, rfl⟩ := ht
  have d0 : d ≠ 0 := fun z => by rw [z, Int.zero_mul] at hU; omega
  rw [Int.mul_ediv_cancel_left _ d0, Int.mul_ediv_cancel_left _ d0]
  have e1 : t' * D = m * u' := by
    have : d * (t' * D) = d * (m * u') := by grind
    exact Int.eq_of_mul_eq_mul_left d0 this
  have en : t'.natAbs * D.natAbs = m.natAbs * u'.natAbs := by rw [← Int.natAbs_mul, e1, Int.natAbs_mul]
  have dv : u'.natAbs ∣ D.natAbs := Nat.Coprime.dvd_of_dvd_mul_left (k := u'.natAbs) (m := t'.natAbs) (by rw [Nat.Coprime, Nat.gcd_comm]; exact hc) ⟨m.natAbs, by rw [en, Nat.mul_comm]⟩
  have dv' : u' ∣ D := Int.natAbs_dvd_natAbs.mp dv
  refine ⟨dv', ?_⟩
  obtain ⟨k, rfl⟩ := dv'
  rw [Int.mul_ediv_cancel_left _ (by omega)]
  have : u' * (t' * k) = u' * m := by grind
  exact Int.eq_of_mul_eq_mul_left (by omega) this
theorem lcm_all {ts us : List Int} {U : Int} (hU : 0 < U) (hd : ((gcdL ts : Nat) : Int) ∣ U) (hl : us.length = ts.length) (h : ∀ k, k < ts.length → 0 < us.getD k 0 ∧ ∃ t', Nat.gcd t'.natAbs (us.getD k 0).natAbs = 1 ∧ t' * U = ts.getD k 0 * us.getD k 0) :
    ((lcmL us : Nat) : Int) = U / ((gcdL ts : Nat) : Int) := by
  have at_ : ∀ {xs : List Int} {x : Int}, x ∈ xs → ∃ k, k < xs.length ∧ xs.getD k 0 = x := fun {xs x} hx => by
    obtain ⟨k, hk, e⟩ := List.mem_iff_getElem.mp hx
    exact ⟨k, hk, by rw [List.getD_eq_getElem?_getD, List.getElem?_eq_getElem hk, e]; rfl⟩
  have mem : ∀ k, k < ts.length → ts.getD k 0 ∈ ts := fun k hk => by rw [List.getD_eq_getElem?_getD, List.getElem?_eq_getElem hk]; exact List.getElem_mem _
  have memu : ∀ k, k < us.length → us.getD k 0 ∈ us := fun k hk => by rw [List.getD_eq_getElem?_getD, List.getElem?_eq_getElem hk]; exact List.getElem_mem _
  obtain ⟨D, hD⟩ := id hd
  have d0 : ((gcdL ts : Nat) : Int) ≠ 0 := fun z => by rw [z, Int.zero_mul] at hD; omega
  have eD : U / ((gcdL ts : Nat) : Int) = D := by rw [hD, Int.mul_ediv_cancel_left _ d0]
  have D0 : 0 < D := by
    rcases Int.lt_trichotomy D 0 with z | z | z
    · have := Int.mul_nonpos_of_nonneg_of_nonpos (a := ((gcdL ts : Nat) : Int)) (b := D) (by omega) (by omega)
      omega
    · rw [z, Int.mul_zero] at hD; omega
    · exact z
  rw [eD]
  have one : lcmL us ∣ D.natAbs := (lcmL_iff _ _).mpr fun u hu => by
    obtain ⟨k, hk, rfl⟩ := at_ hu
    obtain ⟨p, t', hc, he⟩ := h k (by omega)
    have := (low_parts hU hd (gcdL_dvd (mem k (by omega))) p hc he).1
    rw [eD] at this
    exact Int.natAbs_dvd_natAbs.mpr this
  have two : U.natAbs ∣ lcmL us * gcdL ts := gcdL_comb fun t ht => by
    obtain ⟨k, hk, rfl⟩ := at_ ht
    obtain ⟨p, t', hc, he⟩ := h k hk
    obtain ⟨q, hq⟩ := (lcmL_iff (lcmL us) us).mp (Nat.dvd_refl _) _ (memu k (by omega))
    refine ⟨q * t'.natAbs, ?_⟩
    have en : t'.natAbs * U.natAbs = (ts.getD k 0).natAbs * (us.getD k 0).natAbs := by rw [← Int.natAbs_mul, he, Int.natAbs_mul]
    rw [hq]
    grind
  have UD : U.natAbs = gcdL ts * D.natAbs := by rw [hD, Int.natAbs_mul, Int.natAbs_natCast]
  have g0 : 0 < gcdL ts := by omega
  have three : D.natAbs ∣ lcmL us := by
    rw [UD, Nat.mul_comm (lcmL us)] at two
    exact Nat.dvd_of_mul_dvd_mul_left g0 two
  have := Nat.dvd_antisymm one three
  omega
theorem choose_at {α : Type} (R : Nat → α → Prop) : ∀ n : Nat, (∀ k, k < n → ∃ a, R k a) → ∃ l : List α, l.length = n ∧ ∀ (k : Nat) a, l[k]? = some a → R k a
  | 0, _ => ⟨[], rfl, fun k a h => by simp at h⟩
  | n + 1, h => by
    obtain ⟨l, hl, hR⟩ := choose_at R n fun k hk => h k (by omega)
    obtain ⟨a, ha⟩ := h n (by omega)
    refine ⟨l ++ [a], by simp [hl], fun k b hb => ?_⟩
    by_cases hk : k < l.length
    · rw [List.getElem?_append_left hk] at hb
      exact hR k b hb
    · rw [List.getElem?_append_right (by omega)] at hb
      have : k - l.length = 0 := by
        rcases Nat.eq_zero_or_pos (k - l.length) with z | z
        · exact z
        · have := (List.getElem?_eq_some_iff.mp hb).1
          simp only [List.length_cons, List.length_nil] at this
          omega
      rw [this] at hb
      cases hb
      have e : k = n := by omega
      rw [e]
      exact ha
theorem sum_nn : ∀ {cs : List Int}, (∀ c ∈ cs, 0 ≤ c) → 0 ≤ cs.sum
  | [], _ => by simp
  | c :: cs, h => by
    rw [List.sum_cons]
    have := h c List.mem_cons_self
    have := sum_nn fun x hx => h x (List.mem_cons_of_mem _ hx)
    omega
def tkt : List Int → Int → Option Nat
  | [], _ => none
  | c :: cs, n => if n < c then some 0 else (tkt cs (n - c)).map (· + 1)
theorem tkt_some : ∀ {cs : List Int} {n : Int}, 0 ≤ n → n < cs.sum → ∃ k, tkt cs n = some k
  | [], n, h0, h => by
    simp at h
    omega
  | c :: cs, n, h0, h => by
    unfold tkt
    by_cases hc : n < c
    · rw [if_pos hc]; exact ⟨0, rfl⟩
    · rw [if_neg hc]
      obtain ⟨k, hk⟩ := tkt_some (cs := cs) (n := n - c) (by omega) (by rw [List.sum_cons] at h; omega)
      exact ⟨k + 1, by rw [hk]; rfl⟩
theorem tkt_none : ∀ {cs : List Int} {n : Int}, (∀ c ∈ cs, 0 ≤ c) → cs.sum ≤ n → tkt cs n = none
  | [], n, _, _ => rfl
  | c :: cs, n, hc, h => by
    unfold tkt
    have c0 := hc c List.mem_cons_self
    have s0 : 0 ≤ cs.sum := sum_nn fun x hx => hc x (List.mem_cons_of_mem _ hx)
    rw [List.sum_cons] at h
    rw [if_neg (by omega), tkt_none (fun x hx => hc x (List.mem_cons_of_mem _ hx)) (by omega)]
    rfl
set_option genInjectivity false in
set_option genSizeOf false in
structure Ads where
  f_BadNumber_init : Addr
  d_BadNumber_init : FuncData
  f_TooMany_init : Addr
  d_TooMany_init : FuncData
  f_Ratio_init : Addr
  d_Ratio_init : FuncData
  f_as_ratio : Addr
  d_as_ratio : FuncData
  f_Ratio_add : Addr
  d_Ratio_add : FuncData
  f_Ratio_radd : Addr
  d_Ratio_radd : FuncData
  f_u_lead : Addr
  d_u_lead : FuncData
  f_Ratio_ge : Addr
  d_Ratio_ge : FuncData
  f_Ratio_eq : Addr
  d_Ratio_eq : FuncData
  f_over_one : Addr
  d_over_one : FuncData
  f_are_shares : Addr
  d_are_shares : FuncData
  f_check_shares : Addr
  d_check_shares : FuncData
  f_Tickets_init : Addr
  d_Tickets_init : FuncData
  f_Tickets_many : Addr
  d_Tickets_many : FuncData
  f_Tickets_ticket : Addr
  d_Tickets_ticket : FuncData
  f_u_law_cell : Addr
  d_u_law_cell : FuncData
  f_u_law_draws : Addr
  d_u_law_draws : FuncData
  f_u_law_gcd : Addr
  d_u_law_gcd : FuncData
  f_u_law_is_int : Addr
  d_u_law_is_int : FuncData
  f_u_law_same : Addr
  d_u_law_same : FuncData
  f_u_law_weight : Addr
  d_u_law_weight : FuncData
  f_u_law_drawn : Addr
  d_u_law_drawn : FuncData
  f_u_law_due : Addr
  d_u_law_due : FuncData
  f_u_law_told : Addr
  d_u_law_told : FuncData
  f_u_law_classes : Addr
  d_u_law_classes : FuncData
  f_u_law_ticket : Addr
  d_u_law_ticket : FuncData
  f_u_law_many : Addr
  d_u_law_many : FuncData
  f_u_law_due_ticket : Addr
  d_u_law_due_ticket : FuncData
  f_u_law_numbers : Addr
  d_u_law_numbers : FuncData
  f_u_law_right : Addr
  d_u_law_right : FuncData
  f_law : Addr
  d_law : FuncData
  C_WatchError : Addr
  C_ZeroUnder : Addr
  C_BadNumber : Addr
  C_TooMany : Addr
  C_NoPlace : Addr
  C_BadShares : Addr
  C_Ratio : Addr
  C_Tickets : Addr
structure Txt (K : PySem.W.Frag) (mg : Str → Option Value) (A : Ads) : Prop where
  F_BadNumber_init : Fun K "__init__" "BadNumber.__init__" s_BadNumber_init A.f_BadNumber_init A.d_BadNumber_init
  F_TooMany_init : Fun K "__init__" "TooMany.__init__" s_TooMany_init A.f_TooMany_init A.d_TooMany_init
  F_Ratio_init : FunD K "__init__" "Ratio.__init__" (defArgs s_Ratio_init) (defBody s_Ratio_init) (defScope s_Ratio_init) ([.int 1] : List V) ([] : List (Str × V)) A.f_Ratio_init A.d_Ratio_init
  F_as_ratio : Fun K "as_ratio" "as_ratio" s_as_ratio A.f_as_ratio A.d_as_ratio
  g_as_ratio : mg "as_ratio" = some (.ref A.f_as_ratio)
  k_as_ratio : PySem.W.keepIn K (.ref A.f_as_ratio) = true
  F_Ratio_add : Fun K "__add__" "Ratio.__add__" s_Ratio_add A.f_Ratio_add A.d_Ratio_add
  F_Ratio_radd : Fun K "__radd__" "Ratio.__radd__" s_Ratio_radd A.f_Ratio_radd A.d_Ratio_radd
  F_u_lead : Fun K "_lead" "_lead" s_u_lead A.f_u_lead A.d_u_lead
  g_u_lead : mg "_lead" = some (.ref A.f_u_lead)
  k_u_lead : PySem.W.keepIn K (.ref A.f_u_lead) = true
  F_Ratio_ge : Fun K "__ge__" "Ratio.__ge__" s_Ratio_ge A.f_Ratio_ge A.d_Ratio_ge
  F_Ratio_eq : Fun K "__eq__" "Ratio.__eq__" s_Ratio_eq A.f_Ratio_eq A.d_Ratio_eq
  F_over_one : Fun K "over_one" "over_one" s_over_one A.f_over_one A.d_over_one
  g_over_one : mg "over_one" = some (.ref A.f_over_one)
  k_over_one : PySem.W.keepIn K (.ref A.f_over_one) = true
  F_are_shares : Fun K "are_shares" "are_shares" s_are_shares A.f_are_shares A.d_are_shares
  g_are_shares : mg "are_shares" = some (.ref A.f_are_shares)
  k_are_shares : PySem.W.keepIn K (.ref A.f_are_shares) = true
  F_check_shares : Fun K "check_shares" "check_shares" s_check_shares A.f_check_shares A.d_check_shares
  g_check_shares : mg "check_shares" = some (.ref A.f_check_shares)
  k_check_shares : PySem.W.keepIn K (.ref A.f_check_shares) = true
  F_Tickets_init : Fun K "__init__" "Tickets.__init__" s_Tickets_init A.f_Tickets_init A.d_Tickets_init
  F_Tickets_many : Fun K "many" "Tickets.many" s_Tickets_many A.f_Tickets_many A.d_Tickets_many
  F_Tickets_ticket : Fun K "ticket" "Tickets.ticket" s_Tickets_ticket A.f_Tickets_ticket A.d_Tickets_ticket
  F_u_law_cell : Fun K "_law_cell" "_law_cell" s_u_law_cell A.f_u_law_cell A.d_u_law_cell
  g_u_law_cell : mg "_law_cell" = some (.ref A.f_u_law_cell)
  k_u_law_cell : PySem.W.keepIn K (.ref A.f_u_law_cell) = true
  F_u_law_draws : Fun K "_law_draws" "_law_draws" s_u_law_draws A.f_u_law_draws A.d_u_law_draws
  g_u_law_draws : mg "_law_draws" = some (.ref A.f_u_law_draws)
  k_u_law_draws : PySem.W.keepIn K (.ref A.f_u_law_draws) = true
  F_u_law_gcd : Fun K "_law_gcd" "_law_gcd" s_u_law_gcd A.f_u_law_gcd A.d_u_law_gcd
  g_u_law_gcd : mg "_law_gcd" = some (.ref A.f_u_law_gcd)
  k_u_law_gcd : PySem.W.keepIn K (.ref A.f_u_law_gcd) = true
  F_u_law_is_int : Fun K "_law_is_int" "_law_is_int" s_u_law_is_int A.f_u_law_is_int A.d_u_law_is_int
  g_u_law_is_int : mg "_law_is_int" = some (.ref A.f_u_law_is_int)
  k_u_law_is_int : PySem.W.keepIn K (.ref A.f_u_law_is_int) = true
  F_u_law_same : Fun K "_law_same" "_law_same" s_u_law_same A.f_u_law_same A.d_u_law_same
  g_u_law_same : mg "_law_same" = some (.ref A.f_u_law_same)
  k_u_law_same : PySem.W.keepIn K (.ref A.f_u_law_same) = true
  F_u_law_weight : Fun K "_law_weight" "_law_weight" s_u_law_weight A.f_u_law_weight A.d_u_law_weight
  g_u_law_weight : mg "_law_weight" = some (.ref A.f_u_law_weight)
  k_u_law_weight : PySem.W.keepIn K (.ref A.f_u_law_weight) = true
  F_u_law_drawn : Fun K "_law_drawn" "_law_drawn" s_u_law_drawn A.f_u_law_drawn A.d_u_law_drawn
  g_u_law_drawn : mg "_law_drawn" = some (.ref A.f_u_law_drawn)
  k_u_law_drawn : PySem.W.keepIn K (.ref A.f_u_law_drawn) = true
  F_u_law_due : Fun K "_law_due" "_law_due" s_u_law_due A.f_u_law_due A.d_u_law_due
  g_u_law_due : mg "_law_due" = some (.ref A.f_u_law_due)
  k_u_law_due : PySem.W.keepIn K (.ref A.f_u_law_due) = true
  F_u_law_told : Fun K "_law_told" "_law_told" s_u_law_told A.f_u_law_told A.d_u_law_told
  g_u_law_told : mg "_law_told" = some (.ref A.f_u_law_told)
  k_u_law_told : PySem.W.keepIn K (.ref A.f_u_law_told) = true
  F_u_law_classes : Fun K "_law_classes" "_law_classes" s_u_law_classes A.f_u_law_classes A.d_u_law_classes
  g_u_law_classes : mg "_law_classes" = some (.ref A.f_u_law_classes)
  k_u_law_classes : PySem.W.keepIn K (.ref A.f_u_law_classes) = true
  F_u_law_ticket : Fun K "_law_ticket" "_law_ticket" s_u_law_ticket A.f_u_law_ticket A.d_u_law_ticket
  g_u_law_ticket : mg "_law_ticket" = some (.ref A.f_u_law_ticket)
  k_u_law_ticket : PySem.W.keepIn K (.ref A.f_u_law_ticket) = true
  F_u_law_many : Fun K "_law_many" "_law_many" s_u_law_many A.f_u_law_many A.d_u_law_many
  g_u_law_many : mg "_law_many" = some (.ref A.f_u_law_many)
  k_u_law_many : PySem.W.keepIn K (.ref A.f_u_law_many) = true
  F_u_law_due_ticket : Fun K "_law_due_ticket" "_law_due_ticket" s_u_law_due_ticket A.f_u_law_due_ticket A.d_u_law_due_ticket
  g_u_law_due_ticket : mg "_law_due_ticket" = some (.ref A.f_u_law_due_ticket)
  k_u_law_due_ticket : PySem.W.keepIn K (.ref A.f_u_law_due_ticket) = true
  F_u_law_numbers : Fun K "_law_numbers" "_law_numbers" s_u_law_numbers A.f_u_law_numbers A.d_u_law_numbers
  g_u_law_numbers : mg "_law_numbers" = some (.ref A.f_u_law_numbers)
  k_u_law_numbers : PySem.W.keepIn K (.ref A.f_u_law_numbers) = true
  F_u_law_right : Fun K "_law_right" "_law_right" s_u_law_right A.f_u_law_right A.d_u_law_right
  g_u_law_right : mg "_law_right" = some (.ref A.f_u_law_right)
  k_u_law_right : PySem.W.keepIn K (.ref A.f_u_law_right) = true
  F_law : Fun K "law" "law" s_law A.f_law A.d_law
  g_law : mg "law" = some (.ref A.f_law)
  k_law : PySem.W.keepIn K (.ref A.f_law) = true
  c_MOST_WEIGHTS : ∃ t, mg "_MOST_WEIGHTS" = some (.int 12 t)
  z_abs : mg "abs" = none
  z_len : mg "len" = none
  z_int : mg "int" = none
  z_bool : mg "bool" = none
  z_str : mg "str" = none
  z_list : mg "list" = none
  z_tuple : mg "tuple" = none
  z_isinstance : mg "isinstance" = none
  z_range : mg "range" = none
  z_ValueError : mg "ValueError" = none
  z_all : mg "all" = none
  z_sum : mg "sum" = none
  g_WatchError : mg "WatchError" = some (.ref A.C_WatchError)
  g_ZeroUnder : mg "ZeroUnder" = some (.ref A.C_ZeroUnder)
  g_BadNumber : mg "BadNumber" = some (.ref A.C_BadNumber)
  g_TooMany : mg "TooMany" = some (.ref A.C_TooMany)
  g_NoPlace : mg "NoPlace" = some (.ref A.C_NoPlace)
  g_BadShares : mg "BadShares" = some (.ref A.C_BadShares)
  g_Ratio : mg "Ratio" = some (.ref A.C_Ratio)
  g_Tickets : mg "Tickets" = some (.ref A.C_Tickets)
  g_gcd : mg "gcd" = some (.builtin "math.gcd")
  kit_int_Ratio : PySem.W.kitOne K (.type "int") (.ref A.C_Ratio) = some false
  g_lcm : mg "lcm" = some (.builtin "math.lcm")
  ox_BadNumber : OexC K A.C_BadNumber
  ni_BadNumber : PySem.W.findIn K (.ref A.C_BadNumber) "__init__" = some (some (.ref A.f_BadNumber_init))
  ti_BadNumber : PySem.W.typeIn K (.ref A.f_BadNumber_init) = some (.type "function")
  nf_BadNumber_name : PySem.W.findIn K (.ref A.C_BadNumber) "name" = some none
  nf_BadNumber_value : PySem.W.findIn K (.ref A.C_BadNumber) "value" = some none
  xf_BadNumber : XfC K A.C_BadNumber
  ex_BadNumber : ExcC K A.C_BadNumber
  ox_TooMany : OexC K A.C_TooMany
  ni_TooMany : PySem.W.findIn K (.ref A.C_TooMany) "__init__" = some (some (.ref A.f_TooMany_init))
  ti_TooMany : PySem.W.typeIn K (.ref A.f_TooMany_init) = some (.type "function")
  nf_TooMany_name : PySem.W.findIn K (.ref A.C_TooMany) "name" = some none
  nf_TooMany_most : PySem.W.findIn K (.ref A.C_TooMany) "most" = some none
  xf_TooMany : XfC K A.C_TooMany
  ex_TooMany : ExcC K A.C_TooMany
  xP_ZeroUnder : PySem.W.excIn K A.C_ZeroUnder [.type "ValueError", .type "Exception", .type "BaseException", .type "object"] "ValueError.__new__" = true
  kP_ZeroUnder : PySem.W.keepIn K (.ref A.C_ZeroUnder) = true
  bP_ZeroUnder : PySem.W.subIn K (.ref A.C_ZeroUnder) (.type "BaseException") = some true
  tP_ZeroUnder : PySem.W.typeIn K (.ref A.C_ZeroUnder) = some (.type "type")
  ex_ZeroUnder : ExcC K A.C_ZeroUnder
  xP_NoPlace : PySem.W.excIn K A.C_NoPlace [.type "ValueError", .type "Exception", .type "BaseException", .type "object"] "ValueError.__new__" = true
  kP_NoPlace : PySem.W.keepIn K (.ref A.C_NoPlace) = true
  bP_NoPlace : PySem.W.subIn K (.ref A.C_NoPlace) (.type "BaseException") = some true
  tP_NoPlace : PySem.W.typeIn K (.ref A.C_NoPlace) = some (.type "type")
  ex_NoPlace : ExcC K A.C_NoPlace
  xP_BadShares : PySem.W.excIn K A.C_BadShares [.type "ValueError", .type "Exception", .type "BaseException", .type "object"] "ValueError.__new__" = true
  kP_BadShares : PySem.W.keepIn K (.ref A.C_BadShares) = true
  bP_BadShares : PySem.W.subIn K (.ref A.C_BadShares) (.type "BaseException") = some true
  tP_BadShares : PySem.W.typeIn K (.ref A.C_BadShares) = some (.type "type")
  ex_BadShares : ExcC K A.C_BadShares
  xm_BadNumber_BadNumber : PySem.W.exmOne K (.ref A.C_BadNumber) (.ref A.C_BadNumber) = some true
  xm_BadNumber_TooMany : PySem.W.exmOne K (.ref A.C_BadNumber) (.ref A.C_TooMany) = some false
  xm_BadNumber_BadShares : PySem.W.exmOne K (.ref A.C_BadNumber) (.ref A.C_BadShares) = some false
  xm_TooMany_BadNumber : PySem.W.exmOne K (.ref A.C_TooMany) (.ref A.C_BadNumber) = some false
  xm_TooMany_TooMany : PySem.W.exmOne K (.ref A.C_TooMany) (.ref A.C_TooMany) = some true
  xm_TooMany_BadShares : PySem.W.exmOne K (.ref A.C_TooMany) (.ref A.C_BadShares) = some false
  xm_BadShares_BadNumber : PySem.W.exmOne K (.ref A.C_BadShares) (.ref A.C_BadNumber) = some false
  xm_BadShares_TooMany : PySem.W.exmOne K (.ref A.C_BadShares) (.ref A.C_TooMany) = some false
  xm_BadShares_BadShares : PySem.W.exmOne K (.ref A.C_BadShares) (.ref A.C_BadShares) = some true
  xm_BadNumber_WatchError : PySem.W.exmOne K (.ref A.C_BadNumber) (.ref A.C_WatchError) = some true
  xm_TooMany_WatchError : PySem.W.exmOne K (.ref A.C_TooMany) (.ref A.C_WatchError) = some true
  xm_BadShares_WatchError : PySem.W.exmOne K (.ref A.C_BadShares) (.ref A.C_WatchError) = some true
  xm_NoPlace_NoPlace : PySem.W.exmOne K (.ref A.C_NoPlace) (.ref A.C_NoPlace) = some true
  kit_Ratio_int : PySem.W.kitOne K (.ref A.C_Ratio) (.type "int") = some false
  kit_Ratio_Ratio : PySem.W.kitOne K (.ref A.C_Ratio) (.ref A.C_Ratio) = some true
  kit_BadNumber_ValueError : PySem.W.kitOne K (.ref A.C_BadNumber) (.type "ValueError") = some true
  kit_TooMany_ValueError : PySem.W.kitOne K (.ref A.C_TooMany) (.type "ValueError") = some true
  kit_BadShares_ValueError : PySem.W.kitOne K (.ref A.C_BadShares) (.type "ValueError") = some true
  kit_BadNumber_BadNumber : PySem.W.kitOne K (.ref A.C_BadNumber) (.ref A.C_BadNumber) = some true
  kit_BadNumber_TooMany : PySem.W.kitOne K (.ref A.C_BadNumber) (.ref A.C_TooMany) = some false
  kit_BadNumber_BadShares : PySem.W.kitOne K (.ref A.C_BadNumber) (.ref A.C_BadShares) = some false
  kit_TooMany_BadNumber : PySem.W.kitOne K (.ref A.C_TooMany) (.ref A.C_BadNumber) = some false
  kit_TooMany_TooMany : PySem.W.kitOne K (.ref A.C_TooMany) (.ref A.C_TooMany) = some true
  kit_TooMany_BadShares : PySem.W.kitOne K (.ref A.C_TooMany) (.ref A.C_BadShares) = some false
  kit_BadShares_BadNumber : PySem.W.kitOne K (.ref A.C_BadShares) (.ref A.C_BadNumber) = some false
  kit_BadShares_TooMany : PySem.W.kitOne K (.ref A.C_BadShares) (.ref A.C_TooMany) = some false
  kit_BadShares_BadShares : PySem.W.kitOne K (.ref A.C_BadShares) (.ref A.C_BadShares) = some true
  cl_Ratio : Cls K A.C_Ratio
  mk_Ratio : Mk K A.C_Ratio A.f_Ratio_init
  na_Ratio_top : NoAttr K A.C_Ratio "top"
  na_Ratio_under : NoAttr K A.C_Ratio "under"
  op_Ratio : Ops K A.C_Ratio
  D_Ratio_add : Meth K A.C_Ratio (PySem.dunder "add") A.f_Ratio_add
  R_Ratio_add : Meth K A.C_Ratio (dunderR "add") A.f_Ratio_radd
  li_Ratio : PySem.W.subIn K (.ref A.C_Ratio) (.type "int") = some false
  I_Ratio_add : IntOp K A.C_Ratio "add"
  ty_Ratio : ∀ (H : Hp) (a dx : Addr) (fs : List (Str × V)), H a = some (.ins A.C_Ratio dx fs) → TyX K H (.ref a) (.ref A.C_Ratio)
  cl_Tickets : Cls K A.C_Tickets
  mk_Tickets : Mk K A.C_Tickets A.f_Tickets_init
  na_Tickets_total : NoAttr K A.C_Tickets "total"
  na_Tickets_tickets_each : NoAttr K A.C_Tickets "_tickets_each"
  M_Ratio_add : Meth K A.C_Ratio "__add__" A.f_Ratio_add
  M_Ratio_radd : Meth K A.C_Ratio "__radd__" A.f_Ratio_radd
  M_Ratio_ge : Meth K A.C_Ratio "__ge__" A.f_Ratio_ge
  M_Ratio_eq : Meth K A.C_Ratio "__eq__" A.f_Ratio_eq
  M_Tickets_many : Meth K A.C_Tickets "many" A.f_Tickets_many
  M_Tickets_ticket : Meth K A.C_Tickets "ticket" A.f_Tickets_ticket
section
variable {P : Program} {w : World} {K : PySem.W.Frag} {mg : Str → Option Value} {base : Heap} {A : Ads}
theorem sc_BadNumber_init : FnScope N_BadNumber_init (["self", "name", "value"] : List Str) (defScope s_BadNumber_init) := ⟨rfl, rfl, rfl, by decide +kernel, rfl, by decide +kernel, by decide +kernel⟩
theorem ln0 {us : List Value} (h : us.length = 0) : us = [] := List.length_eq_zero_iff.mp h
theorem ln1 {us : List Value} (h : us.length = 1) : ∃ a0, us = [a0] := by
  cases us with
  | nil => cases h
  | cons a us =>
    obtain rfl := ln0 (us := us) (Nat.succ.inj h)
    exact ⟨a, rfl⟩
theorem ln2 {us : List Value} (h : us.length = 2) : ∃ a0 a1, us = [a0, a1] := by
  cases us with
  | nil => cases h
  | cons a us =>
    obtain ⟨a1, rfl⟩ := ln1 (us := us) (Nat.succ.inj h)
    exact ⟨a, a1, rfl⟩
theorem ln3 {us : List Value} (h : us.length = 3) : ∃ a0 a1 a2, us = [a0, a1, a2] := by
  cases us with
  | nil => cases h
  | cons a us =>
    obtain ⟨a1, a2, rfl⟩ := ln2 (us := us) (Nat.succ.inj h)
    exact ⟨a, a1, a2, rfl⟩
theorem b_BadNumber_init (T : Txt K mg A) : Binds K A.d_BadNumber_init (["self", "name", "value"] : List Str) [] := T.F_BadNumber_init.binds (ps := (["self", "name", "value"] : List Str)) fun _ _ _ _ _ _ us hl => by
  obtain ⟨_, _, _, rfl⟩ := ln3 (us := us) hl
  rfl
theorem sc_TooMany_init : FnScope N_TooMany_init (["self", "name", "most"] : List Str) (defScope s_TooMany_init) := ⟨rfl, rfl, rfl, by decide +kernel, rfl, by decide +kernel, by decide +kernel⟩
theorem b_TooMany_init (T : Txt K mg A) : Binds K A.d_TooMany_init (["self", "name", "most"] : List Str) [] := T.F_TooMany_init.binds (ps := (["self", "name", "most"] : List Str)) fun _ _ _ _ _ _ us hl => by
  obtain ⟨_, _, _, rfl⟩ := ln3 (us := us) hl
  rfl
theorem sc_Ratio_init : FnScope N_Ratio_init (["self", "top", "under"] : List Str) (defScope s_Ratio_init) := ⟨rfl, rfl, rfl, by decide +kernel, rfl, by decide +kernel, by decide +kernel⟩
theorem bF_Ratio_init (T : Txt K mg A) : ∃ ds, Vals ([] : List V) ds ∧ Binds K A.d_Ratio_init (["self", "top", "under"] : List Str) ds := T.F_Ratio_init.binds1 (ps := (["self", "top", "under"] : List Str)) 3 1 (by simp) rfl fun _ _ _ _ _ _ _ us its hl hi => match us, its, hl, hi with | [_, _, _], [_], _, _ => ⟨_, rfl, rfl⟩
theorem b2_Ratio_init (T : Txt K mg A) : ∃ ds, Vals ([.int 1] : List V) ds ∧ Binds K A.d_Ratio_init (["self", "top", "under"] : List Str) ds := T.F_Ratio_init.binds1 (ps := (["self", "top", "under"] : List Str)) 2 0 (by simp) rfl fun _ _ _ _ _ _ _ us its hl hi => match us, its, hl, hi with | [_, _], [_], _, _ => ⟨_, rfl, rfl⟩
theorem b_Ratio_init (T : Txt K mg A) : Binds K A.d_Ratio_init (["self", "top", "under"] : List Str) [] := by
  obtain ⟨ds, hv, hb⟩ := bF_Ratio_init T
  cases hv
  exact hb
theorem sc_as_ratio : FnScope N_as_ratio (["number"] : List Str) (defScope s_as_ratio) := ⟨rfl, rfl, rfl, by decide +kernel, rfl, by decide +kernel, by decide +kernel⟩
theorem b_as_ratio (T : Txt K mg A) : Binds K A.d_as_ratio (["number"] : List Str) [] := T.F_as_ratio.binds (ps := (["number"] : List Str)) fun _ _ _ _ _ _ us hl => by
  obtain ⟨_, rfl⟩ := ln1 (us := us) hl
  rfl
theorem sc_Ratio_add : FnScope N_Ratio_add (["self", "other"] : List Str) (defScope s_Ratio_add) := ⟨rfl, rfl, rfl, by decide +kernel, rfl, by decide +kernel, by decide +kernel⟩
theorem b_Ratio_add (T : Txt K mg A) : Binds K A.d_Ratio_add (["self", "other"] : List Str) [] := T.F_Ratio_add.binds (ps := (["self", "other"] : List Str)) fun _ _ _ _ _ _ us hl => by
  obtain ⟨_, _, rfl⟩ := ln2 (us := us) hl
  rfl
theorem sc_Ratio_radd : FnScope N_Ratio_radd (["self", "other"] : List Str) (defScope s_Ratio_radd) := ⟨rfl, rfl, rfl, by decide +kernel, rfl, by decide +kernel, by decide +kernel⟩
theorem b_Ratio_radd (T : Txt K mg A) : Binds K A.d_Ratio_radd (["self", "other"] : List Str) [] := T.F_Ratio_radd.binds (ps := (["self", "other"] : List Str)) fun _ _ _ _ _ _ us hl => by
  obtain ⟨_, _, rfl⟩ := ln2 (us := us) hl
  rfl
theorem sc_u_lead : FnScope N_u_lead (["ratio", "number"] : List Str) (defScope s_u_lead) := ⟨rfl, rfl, rfl, by decide +kernel, rfl, by decide +kernel, by decide +kernel⟩
theorem b_u_lead (T : Txt K mg A) : Binds K A.d_u_lead (["ratio", "number"] : List Str) [] := T.F_u_lead.binds (ps := (["ratio", "number"] : List Str)) fun _ _ _ _ _ _ us hl => by
  obtain ⟨_, _, rfl⟩ := ln2 (us := us) hl
  rfl
theorem sc_Ratio_ge : FnScope N_Ratio_ge (["self", "other"] : List Str) (defScope s_Ratio_ge) := ⟨rfl, rfl, rfl, by decide +kernel, rfl, by decide +kernel, by decide +kernel⟩
theorem b_Ratio_ge (T : Txt K mg A) : Binds K A.d_Ratio_ge (["self", "other"] : List Str) [] := T.F_Ratio_ge.binds (ps := (["self", "other"] : List Str)) fun _ _ _ _ _ _ us hl => by
  obtain ⟨_, _, rfl⟩ := ln2 (us := us) hl
  rfl
theorem sc_Ratio_eq : FnScope N_Ratio_eq (["self", "other"] : List Str) (defScope s_Ratio_eq) := ⟨rfl, rfl, rfl, by decide +kernel, rfl, by decide +kernel, by decide +kernel⟩
theorem b_Ratio_eq (T : Txt K mg A) : Binds K A.d_Ratio_eq (["self", "other"] : List Str) [] := T.F_Ratio_eq.binds (ps := (["self", "other"] : List Str)) fun _ _ _ _ _ _ us hl => by
  obtain ⟨_, _, rfl⟩ := ln2 (us := us) hl
  rfl
theorem sc_over_one : FnScope N_over_one (["numbers"] : List Str) (defScope s_over_one) := ⟨rfl, rfl, rfl, by decide +kernel, rfl, by decide +kernel, by decide +kernel⟩
theorem b_over_one (T : Txt K mg A) : Binds K A.d_over_one (["numbers"] : List Str) [] := T.F_over_one.binds (ps := (["numbers"] : List Str)) fun _ _ _ _ _ _ us hl => by
  obtain ⟨_, rfl⟩ := ln1 (us := us) hl
  rfl
theorem sc_are_shares : FnScope N_are_shares (["numbers"] : List Str) (defScope s_are_shares) := ⟨rfl, rfl, rfl, by decide +kernel, rfl, by decide +kernel, by decide +kernel⟩
theorem b_are_shares (T : Txt K mg A) : Binds K A.d_are_shares (["numbers"] : List Str) [] := T.F_are_shares.binds (ps := (["numbers"] : List Str)) fun _ _ _ _ _ _ us hl => by
  obtain ⟨_, rfl⟩ := ln1 (us := us) hl
  rfl
theorem sc_check_shares : FnScope N_check_shares (["weights"] : List Str) (defScope s_check_shares) := ⟨rfl, rfl, rfl, by decide +kernel, rfl, by decide +kernel, by decide +kernel⟩
theorem b_check_shares (T : Txt K mg A) : Binds K A.d_check_shares (["weights"] : List Str) [] := T.F_check_shares.binds (ps := (["weights"] : List Str)) fun _ _ _ _ _ _ us hl => by
  obtain ⟨_, rfl⟩ := ln1 (us := us) hl
  rfl
theorem sc_Tickets_init : FnScope N_Tickets_init (["self", "weights"] : List Str) (defScope s_Tickets_init) := ⟨rfl, rfl, rfl, by decide +kernel, rfl, by decide +kernel, by decide +kernel⟩
theorem b_Tickets_init (T : Txt K mg A) : Binds K A.d_Tickets_init (["self", "weights"] : List Str) [] := T.F_Tickets_init.binds (ps := (["self", "weights"] : List Str)) fun _ _ _ _ _ _ us hl => by
  obtain ⟨_, _, rfl⟩ := ln2 (us := us) hl
  rfl
theorem sc_Tickets_many : FnScope N_Tickets_many (["self", "index"] : List Str) (defScope s_Tickets_many) := ⟨rfl, rfl, rfl, by decide +kernel, rfl, by decide +kernel, by decide +kernel⟩
theorem b_Tickets_many (T : Txt K mg A) : Binds K A.d_Tickets_many (["self", "index"] : List Str) [] := T.F_Tickets_many.binds (ps := (["self", "index"] : List Str)) fun _ _ _ _ _ _ us hl => by
  obtain ⟨_, _, rfl⟩ := ln2 (us := us) hl
  rfl
theorem sc_Tickets_ticket : FnScope N_Tickets_ticket (["self", "number"] : List Str) (defScope s_Tickets_ticket) := ⟨rfl, rfl, rfl, by decide +kernel, rfl, by decide +kernel, by decide +kernel⟩
theorem b_Tickets_ticket (T : Txt K mg A) : Binds K A.d_Tickets_ticket (["self", "number"] : List Str) [] := T.F_Tickets_ticket.binds (ps := (["self", "number"] : List Str)) fun _ _ _ _ _ _ us hl => by
  obtain ⟨_, _, rfl⟩ := ln2 (us := us) hl
  rfl
theorem sc_u_law_cell : FnScope N_u_law_cell (["script", "k"] : List Str) (defScope s_u_law_cell) := ⟨rfl, rfl, rfl, by decide +kernel, rfl, by decide +kernel, by decide +kernel⟩
theorem b_u_law_cell (T : Txt K mg A) : Binds K A.d_u_law_cell (["script", "k"] : List Str) [] := T.F_u_law_cell.binds (ps := (["script", "k"] : List Str)) fun _ _ _ _ _ _ us hl => by
  obtain ⟨_, _, rfl⟩ := ln2 (us := us) hl
  rfl
theorem sc_u_law_draws : FnScope N_u_law_draws (["cell", "salt", "menu"] : List Str) (defScope s_u_law_draws) := ⟨rfl, rfl, rfl, by decide +kernel, rfl, by decide +kernel, by decide +kernel⟩
theorem b_u_law_draws (T : Txt K mg A) : Binds K A.d_u_law_draws (["cell", "salt", "menu"] : List Str) [] := T.F_u_law_draws.binds (ps := (["cell", "salt", "menu"] : List Str)) fun _ _ _ _ _ _ us hl => by
  obtain ⟨_, _, _, rfl⟩ := ln3 (us := us) hl
  rfl
theorem sc_u_law_gcd : FnScope N_u_law_gcd (["a", "b"] : List Str) (defScope s_u_law_gcd) := ⟨rfl, rfl, rfl, by decide +kernel, rfl, by decide +kernel, by decide +kernel⟩
theorem b_u_law_gcd (T : Txt K mg A) : Binds K A.d_u_law_gcd (["a", "b"] : List Str) [] := T.F_u_law_gcd.binds (ps := (["a", "b"] : List Str)) fun _ _ _ _ _ _ us hl => by
  obtain ⟨_, _, rfl⟩ := ln2 (us := us) hl
  rfl
theorem sc_u_law_is_int : FnScope N_u_law_is_int (["x"] : List Str) (defScope s_u_law_is_int) := ⟨rfl, rfl, rfl, by decide +kernel, rfl, by decide +kernel, by decide +kernel⟩
theorem b_u_law_is_int (T : Txt K mg A) : Binds K A.d_u_law_is_int (["x"] : List Str) [] := T.F_u_law_is_int.binds (ps := (["x"] : List Str)) fun _ _ _ _ _ _ us hl => by
  obtain ⟨_, rfl⟩ := ln1 (us := us) hl
  rfl
theorem sc_u_law_same : FnScope N_u_law_same (["got", "due"] : List Str) (defScope s_u_law_same) := ⟨rfl, rfl, rfl, by decide +kernel, rfl, by decide +kernel, by decide +kernel⟩
theorem b_u_law_same (T : Txt K mg A) : Binds K A.d_u_law_same (["got", "due"] : List Str) [] := T.F_u_law_same.binds (ps := (["got", "due"] : List Str)) fun _ _ _ _ _ _ us hl => by
  obtain ⟨_, _, rfl⟩ := ln2 (us := us) hl
  rfl
theorem sc_u_law_weight : FnScope N_u_law_weight (["top", "under", "at"] : List Str) (defScope s_u_law_weight) := ⟨rfl, rfl, rfl, by decide +kernel, rfl, by decide +kernel, by decide +kernel⟩
theorem b_u_law_weight (T : Txt K mg A) : Binds K A.d_u_law_weight (["top", "under", "at"] : List Str) [] := T.F_u_law_weight.binds (ps := (["top", "under", "at"] : List Str)) fun _ _ _ _ _ _ us hl => by
  obtain ⟨_, _, _, rfl⟩ := ln3 (us := us) hl
  rfl
theorem sc_u_law_drawn : FnScope N_u_law_drawn (["script"] : List Str) (defScope s_u_law_drawn) := ⟨rfl, rfl, rfl, by decide +kernel, rfl, by decide +kernel, by decide +kernel⟩
theorem b_u_law_drawn (T : Txt K mg A) : Binds K A.d_u_law_drawn (["script"] : List Str) [] := T.F_u_law_drawn.binds (ps := (["script"] : List Str)) fun _ _ _ _ _ _ us hl => by
  obtain ⟨_, rfl⟩ := ln1 (us := us) hl
  rfl
theorem sc_u_law_due : FnScope N_u_law_due (["tops", "under"] : List Str) (defScope s_u_law_due) := ⟨rfl, rfl, rfl, by decide +kernel, rfl, by decide +kernel, by decide +kernel⟩
theorem b_u_law_due (T : Txt K mg A) : Binds K A.d_u_law_due (["tops", "under"] : List Str) [] := T.F_u_law_due.binds (ps := (["tops", "under"] : List Str)) fun _ _ _ _ _ _ us hl => by
  obtain ⟨_, _, rfl⟩ := ln2 (us := us) hl
  rfl
theorem sc_u_law_told : FnScope N_u_law_told (["weights"] : List Str) (defScope s_u_law_told) := ⟨rfl, rfl, rfl, by decide +kernel, rfl, by decide +kernel, by decide +kernel⟩
theorem b_u_law_told (T : Txt K mg A) : Binds K A.d_u_law_told (["weights"] : List Str) [] := T.F_u_law_told.binds (ps := (["weights"] : List Str)) fun _ _ _ _ _ _ us hl => by
  obtain ⟨_, rfl⟩ := ln1 (us := us) hl
  rfl
theorem sc_u_law_classes : FnScope N_u_law_classes (["weights"] : List Str) (defScope s_u_law_classes) := ⟨rfl, rfl, rfl, by decide +kernel, rfl, by decide +kernel, by decide +kernel⟩
theorem b_u_law_classes (T : Txt K mg A) : Binds K A.d_u_law_classes (["weights"] : List Str) [] := T.F_u_law_classes.binds (ps := (["weights"] : List Str)) fun _ _ _ _ _ _ us hl => by
  obtain ⟨_, rfl⟩ := ln1 (us := us) hl
  rfl
theorem sc_u_law_ticket : FnScope N_u_law_ticket (["tickets", "number"] : List Str) (defScope s_u_law_ticket) := ⟨rfl, rfl, rfl, by decide +kernel, rfl, by decide +kernel, by decide +kernel⟩
theorem b_u_law_ticket (T : Txt K mg A) : Binds K A.d_u_law_ticket (["tickets", "number"] : List Str) [] := T.F_u_law_ticket.binds (ps := (["tickets", "number"] : List Str)) fun _ _ _ _ _ _ us hl => by
  obtain ⟨_, _, rfl⟩ := ln2 (us := us) hl
  rfl
theorem sc_u_law_many : FnScope N_u_law_many (["tickets", "index"] : List Str) (defScope s_u_law_many) := ⟨rfl, rfl, rfl, by decide +kernel, rfl, by decide +kernel, by decide +kernel⟩
theorem b_u_law_many (T : Txt K mg A) : Binds K A.d_u_law_many (["tickets", "index"] : List Str) [] := T.F_u_law_many.binds (ps := (["tickets", "index"] : List Str)) fun _ _ _ _ _ _ us hl => by
  obtain ⟨_, _, rfl⟩ := ln2 (us := us) hl
  rfl
theorem sc_u_law_due_ticket : FnScope N_u_law_due_ticket (["counts", "number"] : List Str) (defScope s_u_law_due_ticket) := ⟨rfl, rfl, rfl, by decide +kernel, rfl, by decide +kernel, by decide +kernel⟩
theorem b_u_law_due_ticket (T : Txt K mg A) : Binds K A.d_u_law_due_ticket (["counts", "number"] : List Str) [] := T.F_u_law_due_ticket.binds (ps := (["counts", "number"] : List Str)) fun _ _ _ _ _ _ us hl => by
  obtain ⟨_, _, rfl⟩ := ln2 (us := us) hl
  rfl
theorem sc_u_law_numbers : FnScope N_u_law_numbers (["counts", "drawn"] : List Str) (defScope s_u_law_numbers) := ⟨rfl, rfl, rfl, by decide +kernel, rfl, by decide +kernel, by decide +kernel⟩
theorem b_u_law_numbers (T : Txt K mg A) : Binds K A.d_u_law_numbers (["counts", "drawn"] : List Str) [] := T.F_u_law_numbers.binds (ps := (["counts", "drawn"] : List Str)) fun _ _ _ _ _ _ us hl => by
  obtain ⟨_, _, rfl⟩ := ln2 (us := us) hl
  rfl
theorem sc_u_law_right : FnScope N_u_law_right (["tickets", "other", "counts", "drawn"] : List Str) (defScope s_u_law_right) := ⟨rfl, rfl, rfl, by decide +kernel, rfl, by decide +kernel, by decide +kernel⟩
theorem ln4 {us : List Value} (h : us.length = 4) : ∃ a0 a1 a2 a3, us = [a0, a1, a2, a3] := by
  cases us with
  | nil => cases h
  | cons a us =>
    obtain ⟨a1, a2, a3, rfl⟩ := ln3 (us := us) (Nat.succ.inj h)
    exact ⟨a, a1, a2, a3, rfl⟩
theorem b_u_law_right (T : Txt K mg A) : Binds K A.d_u_law_right (["tickets", "other", "counts", "drawn"] : List Str) [] := T.F_u_law_right.binds (ps := (["tickets", "other", "counts", "drawn"] : List Str)) fun _ _ _ _ _ _ us hl => by
  obtain ⟨_, _, _, _, rfl⟩ := ln4 (us := us) hl
  rfl
theorem sc_law : FnScope N_law (["script"] : List Str) (defScope s_law) := ⟨rfl, rfl, rfl, by decide +kernel, rfl, by decide +kernel, by decide +kernel⟩
theorem b_law (T : Txt K mg A) : Binds K A.d_law (["script"] : List Str) [] := T.F_law.binds (ps := (["script"] : List Str)) fun _ _ _ _ _ _ us hl => by
  obtain ⟨_, rfl⟩ := ln1 (us := us) hl
  rfl
theorem ok_BadNumber_init (T : Txt K mg A) : FnOk P w K mg base CX0 1 A.f_BadNumber_init A.d_BadNumber_init (["self", "name", "value"] : List Str) (spErr2 K A.C_BadNumber "name" "value") := by
  refine T.F_BadNumber_init.ok sc_BadNumber_init (fun vs H Q E h => ?_) (fun cdv Ar outer s H vs Q E hr h => ?_)
  · obtain ⟨a, x, y, rfl, _⟩ := h
    rfl
  · obtain ⟨a, x, y, rfl, hC, ha, k⟩ := h
    refine ⟨_, (pss_cons (ps_ost (pv 0) (pv 1))
        (pss_one (ps_ost (pv 0) (pv 2)))), ?_⟩
    refine ⟨_, rfl, _, rfl, a, _, rfl, hC, T.nf_BadNumber_name, .inl ⟨ha, fun d hd hne => ?_⟩⟩
    refine ⟨_, rfl, _, rfl, a, _, rfl, hC, T.nf_BadNumber_value, .inr ⟨d, _, upd_same, ?_, by show (1 : Nat) ≤ 900; decide, k d hd hne⟩⟩
    rw [upd_ne hne, upd_same]
theorem ok_TooMany_init (T : Txt K mg A) : FnOk P w K mg base CX0 1 A.f_TooMany_init A.d_TooMany_init (["self", "name", "most"] : List Str) (spErr2 K A.C_TooMany "name" "most") := by
  refine T.F_TooMany_init.ok sc_TooMany_init (fun vs H Q E h => ?_) (fun cdv Ar outer s H vs Q E hr h => ?_)
  · obtain ⟨a, x, y, rfl, _⟩ := h
    rfl
  · obtain ⟨a, x, y, rfl, hC, ha, k⟩ := h
    refine ⟨_, (pss_cons (ps_ost (pv 0) (pv 1))
        (pss_one (ps_ost (pv 0) (pv 2)))), ?_⟩
    refine ⟨_, rfl, _, rfl, a, _, rfl, hC, T.nf_TooMany_name, .inl ⟨ha, fun d hd hne => ?_⟩⟩
    refine ⟨_, rfl, _, rfl, a, _, rfl, hC, T.nf_TooMany_most, .inr ⟨d, _, upd_same, ?_, by show (1 : Nat) ≤ 900; decide, k d hd hne⟩⟩
    rw [upd_ne hne, upd_same]

def spRatInit (A : Ads) : Sp := fun vs H Q E => ∃ (x dx : Addr) (p q : Int), vs = [.ref x, .int p, .int q] ∧ H x = some (.ins A.C_Ratio dx []) ∧ q.natAbs < 2 ^ 8000 ∧ (q = 0 → ∀ H', Ex H H' → E (.ref A.C_ZeroUnder) none H') ∧
  (q ≠ 0 → ∀ t u, Low p q t u → ∀ H', (∀ b o, b ≠ x → H b = some o → H' b = some o) → H' x = some (.ins A.C_Ratio dx (ratF t u)) → Q .non H')
theorem ok_Ratio_init (T : Txt K mg A) : FnOk P w K mg base (L2.CX P w) 3 A.f_Ratio_init A.d_Ratio_init (["self", "top", "under"] : List Str) (spRatInit A) := by
  refine FunD.ok (CX := L2.CX P w) T.F_Ratio_init sc_Ratio_init (fun vs H Q E h => ?_) (fun cdv Ar outer s H vs Q E hr h => ?_)
  · obtain ⟨x, dx, p, q, rfl, _⟩ := h
    rfl
  · obtain ⟨x, dx, p, q, rfl, hx, hz, k1, k2⟩ := h
    refine ⟨_, (pss_cons (ps_if (pt_cmpR op_eq (pv 2) pe_int (nomark _)) (pss_one (ps_raise rfl (takes_of rfl rfl rfl rfl) (pmk_none PySem.F.excBase_ValueError T.xP_ZeroUnder T.g_ZeroUnder T.kP_ZeroUnder (raises_own T.bP_ZeroUnder T.tP_ZeroUnder) rfl))) pss_nil)
        (pss_cons (ps_set (i := 3) sc_Ratio_init.nd rfl (Or.inl rfl) (pe_callBfun cr_gcd rfl T.g_gcd (pa_cons (pv 1) (pa_cons (pv 2) pa_nil))))
        (pss_cons (ps_if (pt_cmpR op_lt (pv 2) pe_int (nomark _)) (pss_one (ps_set (i := 3) sc_Ratio_init.nd rfl (Or.inl rfl) (pe_un un_neg (pv 3)))) pss_nil)
        (pss_cons (ps_fld (pv 0) (pe_op op_fdivV (pv 1) (pv 3)) rfl)
        (pss_one (ps_fld (pv 0) (pe_op op_fdivV (pv 2) (pv 3)) rfl)))))), ?_⟩
    try dsimp only
    refine q_when (b := decide (q = 0)) (et_is (et_test (ev_op (ev_var (i := 2) rfl) ev_c (rv_eq rfl))) dec_ii) (fun hq H1 e1 => ?_) (fun hq H1 e1 => ?_)
    · exact k1 (of_decide_eq_true hq) H1 e1
    have hq := of_decide_eq_false hq
    try dsimp only
    refine q_asg (v := .int ((Nat.gcd p.natAbs q.natAbs : Nat) : Int)) (ev_gcd (ea_cons (ev_var (i := 1) rfl) (ea_cons (ev_var (i := 2) rfl) ea_nil))) fun H2 e2 => ?_
    replace e2 := e1.trans e2
    try dsimp only
    refine q_alt (b := decide (q < 0)) (fun σ' H' => σ' = [some (.ref x), some (.int p), some (.int q), some (.int (gc p q))] ∧ Ex H H') (et_test (ev_op (ev_var (i := 2) rfl) ev_c rv_I0)) (fun h H3 e3 W hW => ?_) (fun h H3 e3 => ?_) ?_
    · refine s_asg (v := .int (-((Nat.gcd p.natAbs q.natAbs : Nat) : Int))) (ev_un (ev_var (i := 3) rfl) ru_neg) fun H4 e4 => hW _ _ ⟨?_, e2.trans (e3.trans e4)⟩
      unfold gc
      rw [if_pos (of_decide_eq_true h)]
      rfl
    · refine ⟨?_, e2.trans e3⟩
      unfold gc
      rw [if_neg (of_decide_eq_false h)]
      rfl
    rintro σ' H3 ⟨rfl, e3⟩
    have gb : CDivV p (gc p q) := ⟨gc_ne hq, Nat.lt_of_lt_of_le (log_lt (Nat.lt_of_le_of_lt (gc_le hq) hz) (by decide)) (by decide)⟩
    have hx3 := e3 _ _ hx
    refine ⟨_, rfl, _, rfl, p, gc p q, rfl, rfl, gb, _, rfl, x, _, dx, [], rfl, hx3, T.cl_Ratio, T.na_Ratio_top, by decide, ?_⟩
    refine ⟨_, rfl, _, rfl, q, gc p q, rfl, rfl, gb, _, rfl, x, _, dx, _, rfl, upd_same, T.cl_Ratio, T.na_Ratio_under, by show (1 : Nat) < 1000; decide, ?_⟩
    refine k2 hq _ _ (low_gc hq) _ (fun b o hb h => ?_) ?_
    · rw [upd_ne hb, upd_ne hb]; exact e3 _ _ h
    · rw [upd_same, putR]; rfl

theorem ex_made {H H' : Hp} {x dx C : Addr} (hx : H x = none) (hdx : H dx = none) (h : ∀ b o, b ≠ x → (upd (upd H dx (.own x)) x (.ins C dx [])) b = some o → H' b = some o) : Ex H H' := fun b o hb => by
  have h1 : b ≠ x := ne_of_none hb hx
  refine h b o h1 ?_
  rw [upd_ne h1, upd_ne (ne_of_none hb hdx)]
  exact hb
/-- Ratio(p, q) -/
theorem er_rat {K : PySem.W.Frag} {A : Ads} {E : XK} {σ : L2.St} {H : Hp} {tp tq : TE} {p q : Int} (hp : Ev tp σ H (.int p)) (hq : Ev tq σ H (.int q)) (h0 : q ≠ 0) (hz : q.natAbs < 2 ^ 8000) :
    EvR (tMake A.C_Ratio (spRatInit A) [] E (tCons tp (tCons tq tNil))) σ H fun v H1 => ∃ t u, Low p q t u ∧ RatAt A.C_Ratio v H1 t u := fun H1 e Q k =>
  hp H1 e _ fun H2 e2 => hq H2 (e.trans e2) _ fun H3 e3 x dx hx hdx hne => ⟨x, dx, p, q, rfl, upd_same, hz, fun z => absurd z h0, fun _ t u hl H' ho hv =>
    ⟨rfl, k _ H' ((e2.trans e3).trans (ex_made hx hdx ho)) ⟨t, u, hl, x, dx, rfl, hv⟩⟩⟩
/-- Ratio(p) -/
theorem er_rat1 {K : PySem.W.Frag} {A : Ads} {E : XK} {σ : L2.St} {H : Hp} {tp : TE} {p : Int} (hp : Ev tp σ H (.int p)) :
    EvR (tMake A.C_Ratio (spRatInit A) [.int 1] E (tCons tp tNil)) σ H fun v H1 => ∃ t u, Low p 1 t u ∧ RatAt A.C_Ratio v H1 t u := fun H1 e Q k =>
  hp H1 e _ fun H2 e2 x dx hx hdx hne => ⟨x, dx, p, 1, rfl, upd_same, Nat.lt_of_lt_of_le (show (1 : Int).natAbs < 2 ^ 1 by decide) (Nat.pow_le_pow_right (by decide) (by decide)), fun z => absurd z (by decide), fun _ t u hl H' ho hv =>
    ⟨rfl, k _ H' (e2.trans (ex_made hx hdx ho)) ⟨t, u, hl, x, dx, rfl, hv⟩⟩⟩

/-- t / u in lowest terms, of the worth p / q -/
def IsRt (A : Ads) (v : V) (H : Hp) (p q : Int) : Prop := ∃ t u, Low p q t u ∧ RatAt A.C_Ratio v H t u
theorem IsRt.ex {A : Ads} {v : V} {H H' : Hp} {p q : Int} (e : Ex H H') (h : IsRt A v H p q) : IsRt A v H' p q := by
  obtain ⟨t, u, h1, h2⟩ := h
  exact ⟨t, u, h1, h2.ex e⟩
theorem IsRt.as {A : Ads} {v : V} {H : Hp} {p q p' q' : Int} (h : IsRt A v H p q) (hp : p = p') (hq : q = q') : IsRt A v H p' q' := by
  subst hp hq
  exact h
theorem IsRt.worth {A : Ads} {v : V} {H : Hp} {p q p' q' : Int} (h : IsRt A v H p q) (e : p * q' = p' * q) (hq : q ≠ 0) (hq' : q' ≠ 0) : IsRt A v H p' q' := by
  obtain ⟨t, u, h1, h2⟩ := h
  exact ⟨t, u, low_same h1 e hq hq', h2⟩
theorem IsRt.low {A : Ads} {v : V} {H : Hp} {p q : Int} (h : IsRt A v H p q) (hq : q ≠ 0) : ∃ t u, Low p q t u ∧ RatAt A.C_Ratio v H t u := h
/-- .. or a whole number -/
def IsN (A : Ads) (v : V) (H : Hp) (p q : Int) : Prop := IsRt A v H p q ∨ (v = .int p ∧ q = 1)
theorem IsN.ex {A : Ads} {v : V} {H H' : Hp} {p q : Int} (e : Ex H H') (h : IsN A v H p q) : IsN A v H' p q := h.imp (fun h => h.ex e) id
def spAsRat (A : Ads) : Sp := fun vs H Q E => ∃ (v : V) (p q : Int), vs = [v] ∧ IsN A v H p q ∧ ∀ w H', Ex H H' → (IsRt A w H' p q ∧ NewP (fun G => IsN A v G p q → IsRt A w G p q) H H') → Q w H'
theorem er_asN {A : Ads} {E : XK} {σ : L2.St} {H : Hp} {ta : TE} {p q : Int} (h : EvR ta σ H fun v H1 => IsN A v H1 p q) : EvR (tCall (spAsRat A) [] E (tCons ta tNil)) σ H fun v H1 => IsRt A v H1 p q := fun H1 e Q k =>
  h H1 e _ fun v H2 e2 hv => ⟨v, p, q, rfl, hv, fun w H3 e3 hw => k w H3 (e2.trans e3) hw.1⟩
theorem er_at {A : Ads} {σ : L2.St} {H : Hp} {i : Nat} {v : V} {p q : Int} (h : σ[i]? = some (some v)) (hv : IsRt A v H p q) : EvR (tVar i) σ H fun v H1 => IsRt A v H1 p q := er_ev (ev_var h) fun G e => hv.ex e
theorem er_nat {A : Ads} {σ : L2.St} {H : Hp} {i : Nat} {v : V} {p q : Int} (h : σ[i]? = some (some v)) (hv : IsN A v H p q) : EvR (tVar i) σ H fun v H1 => IsN A v H1 p q := er_ev (ev_var h) fun G e => hv.ex e
theorem er_ofI {A : Ads} {σ : L2.St} {H : Hp} {te : TE} {z : Int} (h : Ev te σ H (.int z)) : EvR te σ H fun v H1 => IsN A v H1 z 1 := er_ev h fun _ _ => .inr ⟨rfl, rfl⟩
theorem er_ofR {A : Ads} {σ : L2.St} {H : Hp} {te : TE} {p q : Int} (h : EvR te σ H fun v H1 => IsRt A v H1 p q) : EvR te σ H fun v H1 => IsN A v H1 p q := h.imp fun _ _ h => .inl h
theorem isrt_of {A : Ads} {a : Addr} {G : Hp} {p q : Int} (h : IsN A (.ref a) G p q) : IsRt A (.ref a) G p q := by
  rcases h with h | ⟨h, _⟩
  · exact h
  · cases h
theorem en_rat {K : PySem.W.Frag} {A : Ads} {E : XK} {σ : L2.St} {H : Hp} {tp tq : TE} {p q : Int} (hp : Ev tp σ H (.int p)) (hq : Ev tq σ H (.int q)) (h0 : q ≠ 0) (hz : q.natAbs < 2 ^ 8000) :
    EvNew (tMake A.C_Ratio (spRatInit A) [] E (tCons tp (tCons tq tNil))) σ H fun v H1 => IsRt A v H1 p q := fun H1 e Q k =>
  hp H1 e _ fun H2 e2 => hq H2 (e.trans e2) _ fun H3 e3 x dx hx hdx hne => ⟨x, dx, p, q, rfl, upd_same, hz, fun z => absurd z h0, fun _ t u hl H' ho hv =>
    ⟨rfl, k _ H' ((e2.trans e3).trans (ex_made hx hdx ho)) fun G g => ⟨t, u, hl, x, dx, rfl, g x _ (fresh_back (e2.trans e3) hx) hv⟩⟩⟩
theorem en_rat1 {K : PySem.W.Frag} {A : Ads} {E : XK} {σ : L2.St} {H : Hp} {tp : TE} {p : Int} (hp : Ev tp σ H (.int p)) :
    EvNew (tMake A.C_Ratio (spRatInit A) [.int 1] E (tCons tp tNil)) σ H fun v H1 => IsRt A v H1 p 1 := fun H1 e Q k =>
  hp H1 e _ fun H2 e2 x dx hx hdx hne => ⟨x, dx, p, 1, rfl, upd_same, Nat.lt_of_lt_of_le (show (1 : Int).natAbs < 2 ^ 1 by decide) (Nat.pow_le_pow_right (by decide) (by decide)), fun z => absurd z (by decide), fun _ t u hl H' ho hv =>
    ⟨rfl, k _ H' (e2.trans (ex_made hx hdx ho)) fun G g => ⟨t, u, hl, x, dx, rfl, g x _ (fresh_back e2 hx) hv⟩⟩⟩
theorem ok_as_ratio (T : Txt K mg A) : FnOk P w K mg base (L2.CX P w) 5 A.f_as_ratio A.d_as_ratio (["number"] : List Str) (spAsRat A) := by
  refine T.F_as_ratio.okX sc_as_ratio (fun vs H Q E h => ?_) (fun cdv Ar outer s H vs Q E hr h => ?_)
  · obtain ⟨v, p, q, rfl, _⟩ := h
    rfl
  · obtain ⟨v, p, q, rfl, h, k⟩ := h
    refine ⟨_, (pss_cons (ps_if (pt_val (pe_callB isi_K (by rfl) T.z_isinstance (by decide +kernel) (pa_cons (pv 0) (pa_cons (pe_glob (v := .ref A.C_Ratio) rfl T.g_Ratio rfl) pa_nil)))) (pss_one (ps_ret (pv 0))) pss_nil)
        (pss_one (ps_ret (pe_make T.mk_Ratio (ok_Ratio_init T) (hr.mono (by omega)) rfl T.g_Ratio (b2_Ratio_init T).choose_spec.2 (b2_Ratio_init T).choose_spec.1 (passes_call (takes_of rfl rfl rfl rfl) (fun _ _ _ _ h => h)) (pa_cons (pv 0) pa_nil))))), ?_⟩
    rcases h with h | ⟨rfl, rfl⟩
    · obtain ⟨t, u, hl, hR⟩ := id h
      obtain ⟨a, dx, rfl, hi⟩ := hR
      try dsimp only
      exact q_take (et_B fun H1 e1 Q q => ⟨_, rfl, _, _, _, _, true, rfl, .own _, T.ty_Ratio H1 a dx _ (e1 _ _ hi), kit_self, q H1 (Ex.refl H1)⟩) fun H1 e1 => s_ret (v := .ref a) (ev_var rfl) fun H2 e2 => k _ H2 (e1.trans e2) ⟨h.ex (e1.trans e2), fun G _ hn => isrt_of hn⟩
    · try dsimp only
      refine q_skip (et_B fun H1 e1 Q q => ⟨_, rfl, _, _, _, _, false, rfl, .own _, .base (.int p), T.kit_int_Ratio, q H1 (Ex.refl H1)⟩) fun H1 e1 => ?_
      try dsimp only
      exact en_rat1 (K := K) (ev_var (i := 0) rfl) H1 (Ex.refl _) _ fun v H2 e2 hv => k v H2 (e1.trans e2) ⟨hv.self, fun G g _ => (hv.out e1 (Ex.refl _)) G g⟩

def pAdd (a b c d : Int) : Int × Int := (a * d + c * b, b * d)
def pSub (a b c d : Int) : Int × Int := (a * d - c * b, b * d)
def pMul (a b c d : Int) : Int × Int := (a * c, b * d)
def pRev (P : Int → Int → Int → Int → Int × Int) (a b c d : Int) : Int × Int := P c d a b
def spArith (A : Ads) (P : Int → Int → Int → Int → Int × Int) : Sp := fun vs H Q E => ∃ (x y : V) (a b c d : Int), vs = [x, y] ∧ IsRt A x H a b ∧ IsN A y H c d ∧ (Sz a ∧ Sz b ∧ Sz c ∧ Sz d) ∧ (b ≠ 0 ∧ d ≠ 0) ∧
  ∀ v H', Ex H H' → IsRt A v H' (P a b c d).1 (P a b c d).2 → Q v H'
theorem kit_num {K : PySem.W.Frag} {t c1 c2 : Value} {b1 : Bool} (h1 : PySem.W.kitOne K t c1 = some b1) (h2 : b1 = false → PySem.W.kitOne K t c2 = some true) : PySem.W.kitAny K t [c1, c2] = some true := by
  unfold PySem.W.kitAny
  rw [h1]
  cases b1 with
  | true => rfl
  | false =>
    show PySem.W.kitAny K t [c2] = some true
    unfold PySem.W.kitAny
    rw [h2 rfl]
theorem ev_isNum {K : PySem.W.Frag} {A : Ads} {σ : L2.St} {H : Hp} {i : Nat} {y : V} {c d : Int} (hy : IsN A y H c d) (ty : ∀ (H : Hp) (a dx : Addr) (fs : List (Str × V)), H a = some (.ins A.C_Ratio dx fs) → TyX K H (.ref a) (.ref A.C_Ratio))
    (k1 : PySem.W.kitOne K (.ref A.C_Ratio) (.type "int") = some false) (k2 : PySem.W.kitOne K (.ref A.C_Ratio) (.ref A.C_Ratio) = some true) (k3 : PySem.W.kitOne K (.type "int") (.type "int") = some true) (hσ : σ[i]? = some (some y)) :
    Ev (tCB (rIsiT K) (tCons (tVar i) (tCons (tTup (tCons (tC (.ty "int")) (tCons (tC (.ref A.C_Ratio)) tNil))) tNil))) σ H (.bl true) := fun H1 e Q q =>
  ⟨y, hσ, by show 2 ≤ sizeLine; decide, fun tp htp => by
    have e2 : Ex H1 (upd H1 tp (.tup [.ty "int", .ref A.C_Ratio])) := Ex.new htp
    rcases hy with h | ⟨rfl, rfl⟩
    · obtain ⟨t, u, hl, a, dx, rfl, hi⟩ := h
      exact ⟨_, tp, _, _, _, true, rfl, upd_same, .cons (.ty _) (.cons (.own _) .nil), ty _ a dx _ (e2 _ _ (e _ _ hi)), kit_num k1 fun _ => k2, q _ e2⟩
    · exact ⟨_, tp, _, _, _, true, rfl, upd_same, .cons (.ty _) (.cons (.own _) .nil), .base (.int c), kit_num k3 (fun z => Bool.noConfusion z), q _ e2⟩⟩
theorem ok_Ratio_add (T : Txt K mg A) : FnOk P w K mg base (L2.CX P w) 7 A.f_Ratio_add A.d_Ratio_add (["self", "other"] : List Str) (spArith A pAdd) := by
  refine T.F_Ratio_add.okX sc_Ratio_add (fun vs H Q E h => ?_) (fun cdv Ar outer s H vs Q E hr h => ?_)
  · obtain ⟨x, y, a, b, c, d, rfl, _⟩ := h
    rfl
  · obtain ⟨x, y, a, b, c, d, rfl, hx, hy, ⟨sa, sb, sc, sd⟩, ⟨hb, hd⟩, k⟩ := h
    refine ⟨_, (pss_cons (ps_if (pt_not (pt_val (pe_callB call_isiT (by rfl) T.z_isinstance (by decide +kernel) (pa_cons (pv 1) (pa_cons (pe_tup (pa_cons (pe_bltn (v := .ty "int") (by rfl) T.z_int (by decide +kernel) rfl) (pa_cons (pe_glob (v := .ref A.C_Ratio) rfl T.g_Ratio rfl) pa_nil))) pa_nil))))) (pss_one (ps_ret pe_never)) pss_nil)
        (pss_cons (ps_set (i := 2) sc_Ratio_add.nd rfl (Or.inl rfl) (pe_call (ok_as_ratio T) (hr.mono (by omega)) rfl T.g_as_ratio T.k_as_ratio (b_as_ratio T) .nil (passes_call (takes_of rfl rfl rfl rfl) (fun _ _ _ _ h => h)) (pa_cons (pv 1) pa_nil)))
        (pss_one (ps_ret (pe_make T.mk_Ratio (ok_Ratio_init T) (hr.mono (by omega)) rfl T.g_Ratio (b_Ratio_init T) .nil (passes_call (takes_of rfl rfl rfl rfl) (fun _ _ _ _ h => h)) (pa_cons (pe_op op_add (pe_op op_mulW (pe_fldK (pv 0) rfl) (pe_fldK (pv 2) rfl)) (pe_op op_mulW (pe_fldK (pv 2) rfl) (pe_fldK (pv 0) rfl))) (pa_cons (pe_op op_mulW (pe_fldK (pv 0) rfl) (pe_fldK (pv 2) rfl)) pa_nil))))))), ?_⟩
    try dsimp only
    refine q_skip (et_notT (et_B (ev_isNum hy T.ty_Ratio T.kit_Ratio_int T.kit_Ratio_Ratio (kit_ty (by decide +kernel)) (i := 1) rfl))) fun H1 e1 => ?_
    replace hx := hx.ex e1
    replace hy := hy.ex e1
    try dsimp only
    refine q_asgR (er_asN (er_nat (i := 1) rfl hy)) fun v H2 e2 hv => ?_
    replace hx := hx.ex e2
    obtain ⟨t, u, l1, r1⟩ := hx
    obtain ⟨t', u', l2, r2⟩ := hv
    have st := sa.le l1.lt
    have su := sb.le l1.lu
    have st' := sc.le l2.lt
    have su' := sd.le l2.lu
    have p1 := l1.pos
    have p2 := l2.pos
    have ft : ∀ G, Ex H2 G → Ev (tFld K (tVar 0) "top") [some x, some y, some v] G (.int t) := fun G e => ev_top (ev_var rfl) (r1.ex e) T.cl_Ratio T.na_Ratio_top
    have fu : ∀ G, Ex H2 G → Ev (tFld K (tVar 0) "under") [some x, some y, some v] G (.int u) := fun G e => ev_under (ev_var rfl) (r1.ex e) T.cl_Ratio T.na_Ratio_under
    have ft' : ∀ G, Ex H2 G → Ev (tFld K (tVar 2) "top") [some x, some y, some v] G (.int t') := fun G e => ev_top (ev_var rfl) (r2.ex e) T.cl_Ratio T.na_Ratio_top
    have fu' : ∀ G, Ex H2 G → Ev (tFld K (tVar 2) "under") [some x, some y, some v] G (.int u') := fun G e => ev_under (ev_var rfl) (r2.ex e) T.cl_Ratio T.na_Ratio_under
    try dsimp only
    exact s_retR (er_rat (K := K) (ev_op (ev_op (ft _ (Ex.refl _)) (fu' _ (Ex.refl _)) (rv_I (st.mul su'))) (ev_op (ft' _ (Ex.refl _)) (fu _ (Ex.refl _)) (rv_I (st'.mul su))) rv_I0) (ev_op (fu _ (Ex.refl _)) (fu' _ (Ex.refl _)) (rv_I (su.mul su'))) (mul_ne (by omega) (by omega)) (su.low su')) fun w H3 e3 hw => by
      obtain ⟨T', U', hl, hR⟩ := hw
      exact k w H3 ((e1.trans e2).trans e3) ⟨T', U', low_add l1 l2 hl hb hd, hR⟩

theorem er_binL {A : Ads} {P : Int → Int → Int → Int → Int × Int} {E : L2.St → XK} {σ : L2.St} {H : Hp} {ta tb : TE} {a b c d : Int} (hx : EvR ta σ H fun v H1 => IsRt A v H1 a b) (hy : EvR tb σ H fun v H1 => IsN A v H1 c d) (hs : Sz a ∧ Sz b ∧ Sz c ∧ Sz d) (hn : b ≠ 0 ∧ d ≠ 0) :
    EvR (tOpS (rAlt (rOwn2 A.C_Ratio (spArith A P) E) (rOwnI A.C_Ratio (spArith A P) E)) ta tb) σ H fun v H1 => IsRt A v H1 (P a b c d).1 (P a b c d).2 := fun H1 e Q q =>
  hx H1 e _ fun x H2 e2 hX => hy H2 (e.trans e2) _ fun y H3 e3 hY => by
    have hX3 := hX.ex e3
    obtain ⟨t, u, l1, xa, xd, rfl, hi⟩ := id hX3
    rcases hY with hY | ⟨rfl, rfl⟩
    · obtain ⟨t', u', l2, ya, yd, rfl, hj⟩ := id hY
      exact .inl ⟨xa, xd, _, ya, yd, _, rfl, hi, rfl, hj, _, _, a, b, c, d, rfl, hX3, .inl hY, hs, hn, fun v H4 e4 hv => q v H4 ((e2.trans e3).trans e4) hv⟩
    · exact .inr ⟨xa, xd, _, c, rfl, hi, rfl, _, _, a, b, c, 1, rfl, hX3, .inr ⟨rfl, rfl⟩, hs, hn, fun v H4 e4 hv => q v H4 ((e2.trans e3).trans e4) hv⟩

theorem ok_Ratio_radd (T : Txt K mg A) : FnOk P w K mg base (L2.CX P w) 9 A.f_Ratio_radd A.d_Ratio_radd (["self", "other"] : List Str) (spArith A (pRev pAdd)) := by
  refine T.F_Ratio_radd.okX sc_Ratio_radd (fun vs H Q E h => ?_) (fun cdv Ar outer s H vs Q E hr h => ?_)
  · obtain ⟨x, y, a, b, c, d, rfl, _⟩ := h
    rfl
  · obtain ⟨x, y, a, b, c, d, rfl, hx, hy, ⟨sa, sb, sc, sd⟩, ⟨hb, hd⟩, k⟩ := h
    refine ⟨_, (pss_one (ps_ret (pe_opS (ops_or (op_own2 (op := .Add) (E := fun _ => E) T.op_Ratio T.D_Ratio_add (ok_Ratio_add T) (hr.mono (by omega)) (b_Ratio_add T) (pAt (passes_call (takes_of rfl rfl rfl rfl) (fun _ _ _ _ h => h)))) (op_ownJ (op := .Add) (E := fun _ => E) T.op_Ratio T.D_Ratio_add T.I_Ratio_add (ok_Ratio_add T) (hr.mono (by omega)) (b_Ratio_add T) (pAt (passes_call (takes_of rfl rfl rfl rfl) (fun _ _ _ _ h => h))))) (pv 0) (pv 1)))), ?_⟩
    exact s_retR (er_binL (P := pAdd) (er_at (i := 0) rfl hx) (er_nat (i := 1) rfl hy) ⟨sa, sb, sc, sd⟩ ⟨hb, hd⟩) fun v H1 e1 hv => k v H1 e1 (hv.as (show a * d + c * b = c * b + a * d by omega) (Int.mul_comm b d))

/-- z has the sign of l - r -/
def Sg (z l r : Int) : Prop := (z < 0 ↔ l < r) ∧ (z = 0 ↔ l = r)
def spLead (A : Ads) : Sp := fun vs H Q E => ∃ (x y : V) (a b c d : Int), vs = [x, y] ∧ IsRt A x H a b ∧ IsN A y H c d ∧ (Sz a ∧ Sz b ∧ Sz c ∧ Sz d) ∧ (0 < b ∧ 0 < d) ∧ ∀ z H', Ex H H' → Sg z (a * d) (c * b) → Q (.int z) H'
theorem low_sg {a b c d t u t' u' : Int} (h1 : Low a b t u) (h2 : Low c d t' u') (hb : 0 < b) (hd : 0 < d) : Sg (t * u' - t' * u) (a * d) (c * b) := by
  have e1 := h1.eq
  have e2 := h2.eq
  have m1 : 0 < b * d := Int.mul_pos hb hd
  have m2 : 0 < u * u' := Int.mul_pos h1.pos h2.pos
  have e : (t * u' - t' * u) * (b * d) = (a * d - c * b) * (u * u') := by grind
  generalize b * d = B at m1 e
  generalize u * u' = U at m2 e
  generalize t * u' - t' * u = z at e ⊢
  have hz : z < 0 ↔ z * B < 0 := ⟨fun h => Int.mul_neg_of_neg_of_pos h m1, fun h => Int.lt_of_not_ge fun g => absurd (Int.mul_nonneg g (Int.le_of_lt m1)) (by omega)⟩
  have hw : a * d - c * b < 0 ↔ (a * d - c * b) * U < 0 := ⟨fun h => Int.mul_neg_of_neg_of_pos h m2, fun h => Int.lt_of_not_ge fun g => absurd (Int.mul_nonneg g (Int.le_of_lt m2)) (by omega)⟩
  refine ⟨?_, ?_⟩
  · rw [hz, e, ← hw]
    omega
  · constructor
    · intro h
      rw [h, Int.zero_mul] at e
      have := (Int.mul_eq_zero.mp e.symm).resolve_right (by omega)
      omega
    · intro h
      rw [h, Int.sub_self, Int.zero_mul] at e
      exact (Int.mul_eq_zero.mp e).resolve_right (by omega)
theorem ok_u_lead (T : Txt K mg A) : FnOk P w K mg base (L2.CX P w) 7 A.f_u_lead A.d_u_lead (["ratio", "number"] : List Str) (spLead A) := by
  refine T.F_u_lead.okX sc_u_lead (fun vs H Q E h => ?_) (fun cdv Ar outer s H vs Q E hr h => ?_)
  · obtain ⟨x, y, a, b, c, d, rfl, _⟩ := h
    rfl
  · obtain ⟨x, y, a, b, c, d, rfl, hx, hy, ⟨sa, sb, sc, sd⟩, ⟨hb, hd⟩, k⟩ := h
    refine ⟨_, (pss_cons (ps_set (i := 2) sc_u_lead.nd rfl (Or.inl rfl) (pe_call (ok_as_ratio T) (hr.mono (by omega)) rfl T.g_as_ratio T.k_as_ratio (b_as_ratio T) .nil (passes_call (takes_of rfl rfl rfl rfl) (fun _ _ _ _ h => h)) (pa_cons (pv 1) pa_nil)))
        (pss_one (ps_ret (pe_op op_sub (pe_op op_mulW (pe_fldK (pv 0) rfl) (pe_fldK (pv 2) rfl)) (pe_op op_mulW (pe_fldK (pv 2) rfl) (pe_fldK (pv 0) rfl)))))), ?_⟩
    try dsimp only
    refine q_asgR (er_asN (er_nat (i := 1) rfl hy)) fun v H2 e2 hv => ?_
    replace hx := hx.ex e2
    obtain ⟨t, u, l1, r1⟩ := hx
    obtain ⟨t', u', l2, r2⟩ := hv
    have st := sa.le l1.lt
    have su := sb.le l1.lu
    have st' := sc.le l2.lt
    have su' := sd.le l2.lu
    try dsimp only
    exact s_ret (v := .int (t * u' - t' * u)) (ev_op (ev_op (ev_top (ev_var (i := 0) rfl) r1 T.cl_Ratio T.na_Ratio_top) (ev_under (ev_var (i := 2) rfl) r2 T.cl_Ratio T.na_Ratio_under) (rv_I (st.mul su'))) (ev_op (ev_top (ev_var (i := 2) rfl) r2 T.cl_Ratio T.na_Ratio_top) (ev_under (ev_var (i := 0) rfl) r1 T.cl_Ratio T.na_Ratio_under) (rv_I (st'.mul su))) rv_I0) fun H3 e3 => k _ H3 (e2.trans e3) (low_sg l1 l2 hb hd)

def spCmp (A : Ads) (R : Int → Int → Bool) : Sp := fun vs H Q E => ∃ (x y : V) (a b c d : Int), vs = [x, y] ∧ IsRt A x H a b ∧ IsN A y H c d ∧ (Sz a ∧ Sz b ∧ Sz c ∧ Sz d) ∧ (0 < b ∧ 0 < d) ∧ ∀ H', Ex H H' → Q (.bl (R (a * d) (c * b))) H'
def cLt (l r : Int) : Bool := decide (l < r)
def cLe (l r : Int) : Bool := decide (l ≤ r)
def cGt (l r : Int) : Bool := decide (r < l)
def cGe (l r : Int) : Bool := decide (r ≤ l)
def cEq (l r : Int) : Bool := decide (l = r)
theorem er_lead {A : Ads} {E : XK} {σ : L2.St} {H : Hp} {x y : V} {a b c d : Int} (h0 : σ[0]? = some (some x)) (h1 : σ[1]? = some (some y)) (hx : IsRt A x H a b) (hy : IsN A y H c d) (hs : Sz a ∧ Sz b ∧ Sz c ∧ Sz d) (hb : 0 < b ∧ 0 < d) :
    EvR (tCall (spLead A) [] E (tCons (tVar 0) (tCons (tVar 1) tNil))) σ H fun v _ => ∃ z : Int, v = .int z ∧ Sg z (a * d) (c * b) :=
  er_call (ea_cons (ev_var h0) (ea_cons (ev_var h1) ea_nil)) fun H1 e Q q => ⟨x, y, a, b, c, d, rfl, hx.ex e, hy.ex e, hs, hb, fun z H' e' hz => q _ H' e' ⟨z, rfl, hz⟩⟩
theorem ok_Ratio_ge (T : Txt K mg A) : FnOk P w K mg base (L2.CX P w) 9 A.f_Ratio_ge A.d_Ratio_ge (["self", "other"] : List Str) (spCmp A cGe) := by
  refine T.F_Ratio_ge.okX sc_Ratio_ge (fun vs H Q E h => ?_) (fun cdv Ar outer s H vs Q E hr h => ?_)
  · obtain ⟨x, y, a, b, c, d, rfl, _⟩ := h
    rfl
  · obtain ⟨x, y, a, b, c, d, rfl, hx, hy, hs, hb, k⟩ := h
    refine ⟨_, (pss_cons (ps_if (pt_not (pt_val (pe_callB call_isiT (by rfl) T.z_isinstance (by decide +kernel) (pa_cons (pv 1) (pa_cons (pe_tup (pa_cons (pe_bltn (v := .ty "int") (by rfl) T.z_int (by decide +kernel) rfl) (pa_cons (pe_glob (v := .ref A.C_Ratio) rfl T.g_Ratio rfl) pa_nil))) pa_nil))))) (pss_one (ps_ret pe_never)) pss_nil)
        (pss_one (ps_ret (pe_cmpR op_ge (pe_call (ok_u_lead T) (hr.mono (by omega)) rfl T.g_u_lead T.k_u_lead (b_u_lead T) .nil (passes_call (takes_of rfl rfl rfl rfl) (fun _ _ _ _ h => h)) (pa_cons (pv 0) (pa_cons (pv 1) pa_nil))) pe_int (nomark _))))), ?_⟩
    try dsimp only
    refine q_skip (et_notT (et_B (ev_isNum hy T.ty_Ratio T.kit_Ratio_int T.kit_Ratio_Ratio (kit_ty (by decide +kernel)) (i := 1) rfl))) fun H1 e1 => ?_
    try dsimp only
    refine er_lead (σ := [some x, some y]) rfl rfl (hx.ex e1) (hy.ex e1) hs hb H1 (Ex.refl _) _ fun v H2 e2 hv => ?_
    obtain ⟨z, rfl, h1, h2⟩ := hv
    have q := k H2 (e1.trans e2)
    refine ⟨z, 0, rfl, rfl, ?_⟩
    rw [show cGe (a * d) (c * b) = decide (0 ≤ z) by unfold cGe; exact decide_eq_decide.mpr (by omega)] at q
    exact q

theorem tyof_ex {K : PySem.W.Frag} {H H' : Hp} (e : Ex H H') {x : V} {t : Value} (h : TyOf K H x t) : TyOf K H' x t := by
  cases h with
  | non => exact .non
  | bl b => exact .bl b
  | int i => exact .int i
  | str z => exact .str z
  | flt z => exact .flt z
  | lst h => exact .lst (e _ _ h)
  | frz h => exact .frz (e _ _ h)
  | tup h => exact .tup (e _ _ h)
  | dK h => exact .dK (e _ _ h)
  | dT h => exact .dT (e _ _ h)
  | ins h c a n k m => exact .ins (e _ _ h) c a n k m
theorem tyx_ex {K : PySem.W.Frag} {H H' : Hp} (e : Ex H H') {x : V} {t : Value} (h : TyX K H x t) : TyX K H' x t := by
  cases h with
  | base h => exact .base (tyof_ex e h)
  | byt b => exact .byt b
  | set h => exact .set (e _ _ h)
  | kList h c => exact .kList h c
  | kTuple h c => exact .kTuple h c
  | kDict h c => exact .kDict h c
  | fTuple h => exact .fTuple (e _ _ h)
  | fDict h => exact .fDict (e _ _ h)
theorem low_uniq {a b c d t u t' u' : Int} (h1 : Low a b t u) (h2 : Low c d t' u') (hb : 0 < b) (hd : 0 < d) : (t = t' ∧ u = u') ↔ a * d = c * b := by
  have e1 := h1.eq
  have e2 := h2.eq
  have p1 := h1.pos
  have p2 := h2.pos
  constructor
  · rintro ⟨rfl, rfl⟩
    have : u * (a * d) = u * (c * b) := by grind
    exact Int.eq_of_mul_eq_mul_left (by omega) this
  · intro h
    have z := (low_sg h1 h2 hb hd).2.mpr h
    have e : t * u' = t' * u := by omega
    have en : t.natAbs * u'.natAbs = t'.natAbs * u.natAbs := by rw [← Int.natAbs_mul, e, Int.natAbs_mul]
    have d1 : u.natAbs ∣ u'.natAbs := Nat.Coprime.dvd_of_dvd_mul_left (k := u.natAbs) (m := t.natAbs) (by rw [Nat.Coprime, Nat.gcd_comm]; exact h1.cop) ⟨t'.natAbs, by rw [en, Nat.mul_comm]⟩
    have d2 : u'.natAbs ∣ u.natAbs := Nat.Coprime.dvd_of_dvd_mul_left (k := u'.natAbs) (m := t'.natAbs) (by rw [Nat.Coprime, Nat.gcd_comm]; exact h2.cop) ⟨t.natAbs, by rw [← en, Nat.mul_comm]⟩
    have eu : u = u' := by have := Nat.dvd_antisymm d1 d2; omega
    subst eu
    exact ⟨Int.eq_of_mul_eq_mul_right (by omega) e, rfl⟩
/-- something that is no number -/
def Odd (K : PySem.W.Frag) (A : Ads) (H : Hp) (y : V) : Prop := ∃ n : String, TyX K H y (.type n) ∧ PySem.W.subIn K (.type n) (.ref A.C_Ratio) = some false ∧ PySem.W.kitOne K (.type n) (.ref A.C_Ratio) = some false ∧ kitB n "bool" = some false ∧ kitB n "int" = some false
def spEqR (K : PySem.W.Frag) (A : Ads) : Sp := fun vs H Q E => ∃ (x y : V) (a b : Int), vs = [x, y] ∧ IsRt A x H a b ∧ 0 < b ∧ ((∃ c d, IsN A y H c d ∧ 0 < d ∧ ∀ H', Ex H H' → Q (.bl (cEq (a * d) (c * b))) H') ∨ (Odd K A H y ∧ ∀ H', Ex H H' → Q (.bl false) H'))
theorem odd_ex {K : PySem.W.Frag} {A : Ads} {H H' : Hp} {y : V} (ty : ∀ n, TyX K H y (.type n) → TyX K H' y (.type n)) (h : Odd K A H y) : Odd K A H' y := by
  obtain ⟨n, h1, h2⟩ := h
  exact ⟨n, ty n h1, h2⟩
theorem ok_Ratio_eq (T : Txt K mg A) : FnOk P w K mg base CX0 1 A.f_Ratio_eq A.d_Ratio_eq (["self", "other"] : List Str) (spEqR K A) := by
  refine T.F_Ratio_eq.ok sc_Ratio_eq (fun vs H Q E h => ?_) (fun cdv Ar outer s H vs Q E hr h => ?_)
  · obtain ⟨x, y, a, b, rfl, _⟩ := h
    rfl
  · obtain ⟨x, y, a, b, rfl, hx, hb, h⟩ := h
    refine ⟨_, (pss_cons (ps_if (pt_val (pe_callB isi_K (by rfl) T.z_isinstance (by decide +kernel) (pa_cons (pv 1) (pa_cons (pe_glob (v := .ref A.C_Ratio) rfl T.g_Ratio rfl) pa_nil)))) (pss_one (ps_ret (pe_and (pe_cmpR op_eq (pe_fldK (pv 0) rfl) (pe_fldK (pv 1) rfl) (nomark _)) (pe_one (pe_cmpR op_eq (pe_fldK (pv 0) rfl) (pe_fldK (pv 1) rfl) (nomark _)))))) pss_nil)
        (pss_cons (ps_if (pt_val (pe_callB isi_K (by rfl) T.z_isinstance (by decide +kernel) (pa_cons (pv 1) (pa_cons (pe_bltn (v := .ty "bool") (by rfl) T.z_bool (by decide +kernel) rfl) pa_nil)))) (pss_one (ps_ret pe_bl)) pss_nil)
        (pss_one (ps_ret (pe_and (pe_callB isi_K (by rfl) T.z_isinstance (by decide +kernel) (pa_cons (pv 1) (pa_cons (pe_bltn (v := .ty "int") (by rfl) T.z_int (by decide +kernel) rfl) pa_nil))) (pe_and (pe_cmpR op_eq (pe_fldK (pv 0) rfl) pe_int (nomark _)) (pe_one (pe_cmpR op_eq (pe_fldK (pv 0) rfl) (pv 1) (nomark _))))))))), ?_⟩
    obtain ⟨t, u, l1, r1⟩ := id hx
    rcases h with ⟨c, d, hy, hd, k⟩ | ⟨⟨n, ty, hs, h1, h2, h3⟩, k⟩
    · rcases hy with hy | ⟨rfl, rfl⟩
      · obtain ⟨t', u', l2, r2⟩ := id hy
        obtain ⟨ya, yd, rfl, hj⟩ := id r2
        try dsimp only
        refine q_take (et_B fun H1 e1 Q q => ⟨_, rfl, _, _, _, _, true, rfl, .own _, T.ty_Ratio H1 ya yd _ (e1 _ _ hj), kit_self, q H1 (Ex.refl H1)⟩) fun H1 e1 => ?_
        refine s_ret (v := .bl (decide (t = t') && decide (u = u'))) (ev_andV (a := decide (t = t')) (ev_is (ev_op (ev_top (ev_var (i := 0) rfl) (r1.ex e1) T.cl_Ratio T.na_Ratio_top) (ev_top (ev_var (i := 1) rfl) (r2.ex e1) T.cl_Ratio T.na_Ratio_top) (rv_eq rfl)) (by rw [dec_ii])) fun _ => ev_is (ev_op (ev_under (ev_var (i := 0) rfl) (r1.ex e1) T.cl_Ratio T.na_Ratio_under) (ev_under (ev_var (i := 1) rfl) (r2.ex e1) T.cl_Ratio T.na_Ratio_under) (rv_eq rfl)) (by rw [dec_ii])) fun H2 e2 => ?_
        have q := k H2 (e1.trans e2)
        rw [show cEq (a * d) (c * b) = (decide (t = t') && decide (u = u')) by unfold cEq; rw [← Bool.decide_and, decide_eq_decide]; exact (low_uniq l1 l2 hb hd).symm] at q
        exact q
      · try dsimp only
        refine q_skip (et_B fun H1 e1 Q q => ⟨_, rfl, _, _, _, _, false, rfl, .own _, .base (.int c), T.kit_int_Ratio, q H1 (Ex.refl H1)⟩) fun H1 e1 => ?_
        try dsimp only
        refine q_skip (et_B fun H2 e2 Q q => ⟨_, rfl, _, _, _, _, false, rfl, .ty _, .base (.int c), kit_ty (by decide +kernel), q H2 (Ex.refl H2)⟩) fun H2 e2 => ?_
        replace e2 := e1.trans e2
        try dsimp only
        refine s_ret (v := .bl (decide (u = 1) && decide (t = c))) (ev_andV (a := true) (fun H3 e3 Q q => ⟨_, rfl, _, _, _, _, true, rfl, .ty _, .base (.int c), kit_ty (by decide +kernel), q H3 (Ex.refl H3)⟩) fun _ => ev_andV (a := decide (u = 1)) (ev_is (ev_op (ev_under (ev_var (i := 0) rfl) (r1.ex e2) T.cl_Ratio T.na_Ratio_under) ev_c (rv_eq rfl)) (by rw [dec_ii])) fun _ => ev_is (ev_op (ev_top (ev_var (i := 0) rfl) (r1.ex e2) T.cl_Ratio T.na_Ratio_top) (ev_var (i := 1) rfl) (rv_eq rfl)) (by rw [dec_ii])) fun H3 e3 => ?_
        have q := k H3 (e2.trans e3)
        rw [show cEq (a * 1) (c * b) = (decide (u = 1) && decide (t = c)) by unfold cEq; rw [← Bool.decide_and, decide_eq_decide, ← low_uniq l1 (low_int (c := c)) hb (by decide)]; exact And.comm] at q
        exact q
    · try dsimp only
      refine q_skip (et_B fun H1 e1 Q q => ⟨_, rfl, _, _, _, _, false, rfl, .own _, tyx_ex e1 ty, h1, q H1 (Ex.refl H1)⟩) fun H1 e1 => ?_
      try dsimp only
      refine q_skip (et_B fun H2 e2 Q q => ⟨_, rfl, _, _, _, _, false, rfl, .ty _, tyx_ex (e1.trans e2) ty, kit_ty h2, q H2 (Ex.refl H2)⟩) fun H2 e2 => ?_
      replace e2 := e1.trans e2
      try dsimp only
      refine s_ret (v := .bl false) (ev_is (ev_andV (a := false) (b := false) (fun H3 e3 Q q => ⟨_, rfl, _, _, _, _, false, rfl, .ty _, tyx_ex (e2.trans e3) ty, kit_ty h3, q H3 (Ex.refl H3)⟩) fun z => Bool.noConfusion z) rfl) fun H3 e3 => k H3 (e2.trans e3)

/-- v has the worth t / U: a fraction, or a whole number -/
def IsW (A : Ads) (v : V) (H : Hp) (t U : Int) : Prop := IsRt A v H t U ∨ ∃ z : Int, v = .int z ∧ t = z * U
theorem IsW.ex {A : Ads} {v : V} {H H' : Hp} {t U : Int} (e : Ex H H') (h : IsW A v H t U) : IsW A v H' t U := h.imp (fun h => h.ex e) id
def WsAt (K : PySem.W.Frag) (A : Ads) (H : Hp) (a : Addr) (ts : List Int) (U : Int) : Prop := ∃ vs : List V, SqL K H a vs ∧ vs.length = ts.length ∧ ∀ (i : Nat) v, vs[i]? = some v → IsW A v H (ts.getD i 0) U
theorem WsAt.ex {K : PySem.W.Frag} {A : Ads} {H H' : Hp} {a : Addr} {ts : List Int} {U : Int} (e : Ex H H') (h : WsAt K A H a ts U) : WsAt K A H' a ts U := by
  obtain ⟨vs, h1, h2, h3⟩ := h
  exact ⟨vs, ex_l e h1, h2, fun i v hv => (h3 i v hv).ex e⟩
theorem ev_lcm {ta tb : TE} {σ : L2.St} {H : Hp} {a b : Int} {n : Nat} (ha : Ev ta σ H (.int a)) (hb : Ev tb σ H (.int b)) (h1 : a.natAbs < 2 ^ 4000) (h2 : b.natAbs < 2 ^ 4000) (hn : Nat.lcm a.natAbs b.natAbs = Nat.lcm n b.natAbs) : Ev (tCB rLcm (tCons ta (tCons tb tNil))) σ H (.int ((Nat.lcm n b.natAbs : Nat) : Int)) :=
  ev_cb (ea_cons ha (ea_cons hb ea_nil)) fun H1 _ _ q => ⟨a, b, rfl, h1, h2, by rw [hn]; exact q H1 (Ex.refl H1)⟩
theorem s_retIL {ta tb : TE} {D : Ends} {σ : L2.St} {H : Hp} {z : Int} {xs : List V} (ha : Ev ta σ H (.int z)) (hb : EvL tb σ H xs) (k : ∀ p l H1, H l = none → Ex H H1 → H1 p = some (.tup [.int z, .ref l]) → H1 l = some (.lst xs) → D.rt (.ref p) H1) : tRet (tTup (tCons ta (tCons tb tNil))) D σ H :=
  ha H (Ex.refl H) _ fun H1 e1 => hb H1 e1 _ fun l H2 hl e2 h2 => ⟨by show 2 ≤ sizeLine; decide, fun p hp => k p l _ (fresh_back e1 hl) ((e1.trans e2).trans (Ex.new hp)) upd_same (Ex.new hp _ _ h2)⟩
theorem getD_mem {α : Type} {xs : List α} {i : Nat} {d : α} (h : i < xs.length) : xs.getD i d ∈ xs := by
  rw [List.getD_eq_getElem?_getD, List.getElem?_eq_getElem h]
  exact List.getElem_mem _
/-- sizes -/
structure Wb (ts : List Int) (U : Int) : Prop where
  len : ts.length ≤ 13
  pos : 0 < U
  U : U.natAbs < 2 ^ 400
  all : ∀ t ∈ ts, t.natAbs < 2 ^ 400
def spOver1 (K : PySem.W.Frag) (A : Ads) : Sp := fun vs H Q _ => ∃ (a : Addr) (ts : List Int) (U : Int), vs = [.ref a] ∧ WsAt K A H a ts U ∧ Wb ts U ∧ ((gcdL ts : Nat) : Int) ∣ U ∧
  ∀ p l H', H l = none → Ex H H' → H' p = some (.tup [.int (U / ((gcdL ts : Nat) : Int)), .ref l]) → H' l = some (.lst ((ts.map fun t => t / ((gcdL ts : Nat) : Int)).map V.int)) → Q (.ref p) H' 
theorem ok_over_one (T : Txt K mg A) : FnOk P w K mg base CX0 8 A.f_over_one A.d_over_one (["numbers"] : List Str) (spOver1 K A) := by
  refine T.F_over_one.ok sc_over_one (fun vs H Q E h => ?_) (fun cdv Ar outer s H vs Q E hr h => ?_)
  · obtain ⟨a, ts, U, rfl, _⟩ := h
    rfl
  · obtain ⟨a, ts, U, rfl, hW, wb, hd, k⟩ := h
    refine ⟨_, (pss_cons (ps_setLc (i := 1) (own := [("number", 2)]) (g := gName 2) (tt := tYes) rfl sc_over_one.nd rfl rfl (sw_true rfl rfl rfl (by decide +kernel)) (pi_listK (pv 0)) (blkOk_by (own := [("number", 2)]) (N := N_over_one) (sc := defScope s_over_one) (by decide +kernel)) (fun _ _ _ _ _ => (pg_name (i := 2) sc_over_one.nd rfl (Or.inl rfl))) (fun _ _ _ _ _ => pts_nil) (fun _ _ _ _ _ => (pe_call (ok_as_ratio T) (hr.mono (by omega)) rfl T.g_as_ratio T.k_as_ratio (b_as_ratio T) .nil passL (pa_cons (pv 2) pa_nil))))
        (pss_cons (ps_set (i := 3) sc_over_one.nd rfl (Or.inr rfl) pe_int)
        (pss_cons (ps_for PassesOwn.never rfl (pi_listK (pv 1)) (pg_name (i := 4) sc_over_one.nd rfl (Or.inl rfl)) (pss_one (ps_set (i := 3) sc_over_one.nd rfl (Or.inr rfl) (pe_callBfun cr_lcm rfl T.g_lcm (pa_cons (pv 3) (pa_cons (pe_fldK (pv 4) rfl) pa_nil))))))
        (pss_one (ps_ret (pe_tup (pa_cons (pv 3) (pa_cons (pe_lc (own := [("ratio", 4)]) (g := gName 4) (tt := tYes) rfl sc_over_one.nd (pi_listK (pv 1)) (blkOk_by (own := [("ratio", 4)]) (N := N_over_one) (sc := defScope s_over_one) (by decide +kernel)) (fun _ _ _ _ _ => (pg_name (i := 4) sc_over_one.nd rfl (Or.inl rfl))) (fun _ _ _ _ _ => pts_nil) (fun _ _ _ _ _ => (pe_op op_mulW (pe_fldK (pv 4) rfl) (pe_op op_fdivW (pv 3) (pe_fldK (pv 4) rfl))))) pa_nil)))))))), ?_⟩
    obtain ⟨vs, hvs, hvl, hvw⟩ := hW
    have U0 := wb.pos
    have Ub := wb.U
    have tl := wb.len
    try dsimp only
    refine q_asgN (en_lcL (K := K) (xs := vs) (j := 2) (fun i x G => Ex H G → IsRt A x G (ts.getD i 0) U) (er_ev (ev_var (i := 0) rfl) fun G e => ⟨a, rfl, ex_l e hvs⟩) (by omega) (fun x => rfl) fun i x H1 e1 hi => ?_) fun rv H1 e1 hr => ?_
    · have hw := hvw i x hi
      intro H2 e2 Q q
      refine ⟨x, rfl, ?_⟩
      rcases hw with hw | ⟨z, rfl, hz⟩
      · exact ⟨x, ts.getD i 0, U, rfl, .inl (hw.ex (e1.trans e2)), fun w H3 e3 hw3 => q w H3 e3 fun G g eG => hw3.2 G g (.inl (hw.ex eG))⟩
      · exact ⟨.int z, z, 1, rfl, .inr ⟨rfl, rfl⟩, fun w H3 e3 hw3 => q w H3 e3 fun G g eG => (hw3.2 G g (.inr ⟨rfl, rfl⟩)).worth (by rw [Int.mul_one]; exact hz.symm) (by decide) (by omega)⟩
    obtain ⟨rp, rs, rfl, hrp, hrl, hrs⟩ := hr
    have hR : ∀ k, k < ts.length → ∃ pq : Int × Int, ∃ x, rs[k]? = some x ∧ Low (ts.getD k 0) U pq.1 pq.2 ∧ RatAt A.C_Ratio x H1 pq.1 pq.2 := fun k hk => by
      have hk' : k < rs.length := by omega
      obtain ⟨t, u, hl, hR⟩ := hrs k _ (List.getElem?_eq_getElem hk') e1
      exact ⟨(t, u), _, List.getElem?_eq_getElem hk', hl, hR⟩
    obtain ⟨ps, pl, hps⟩ := choose_at _ ts.length hR
    have pat : ∀ k, k < ts.length → ∃ x, rs[k]? = some x ∧ ps[k]? = some (ps.getD k (0, 0)) ∧ Low (ts.getD k 0) U (ps.getD k (0, 0)).1 (ps.getD k (0, 0)).2 ∧ RatAt A.C_Ratio x H1 (ps.getD k (0, 0)).1 (ps.getD k (0, 0)).2 := fun k hk => by
      have e : ps[k]? = some (ps.getD k (0, 0)) := by rw [List.getD_eq_getElem?_getD, List.getElem?_eq_getElem (by omega)]; rfl
      obtain ⟨x, h1, h2, h3⟩ := hps k _ e
      exact ⟨x, h1, e, h2, h3⟩
    obtain ⟨us, hus⟩ : ∃ us : List Int, us = ps.map Prod.snd := ⟨_, rfl⟩
    have ul : us.length = ts.length := by rw [hus, List.length_map, pl]
    have uat : ∀ k, k < ts.length → us.getD k 0 = (ps.getD k (0, 0)).2 ∧ us[k]? = some (ps.getD k (0, 0)).2 := fun k hk => by
      obtain ⟨x, _, e, _⟩ := pat k hk
      have : us[k]? = some (ps.getD k (0, 0)).2 := by rw [hus, List.getElem?_map, e]; rfl
      exact ⟨by rw [List.getD_eq_getElem?_getD, this]; rfl, this⟩
    have big : ((lcmL us : Nat) : Int) = U / ((gcdL ts : Nat) : Int) := lcm_all U0 hd ul fun k hk => by
      obtain ⟨x, _, _, hl, _⟩ := pat k hk
      rw [(uat k hk).1]
      exact ⟨hl.pos, _, hl.cop, hl.eq⟩
    obtain ⟨D, hD⟩ := id hd
    have g0 : ((gcdL ts : Nat) : Int) ≠ 0 := fun z => by rw [z, Int.zero_mul] at hD; omega
    have eD : U / ((gcdL ts : Nat) : Int) = D := by rw [hD, Int.mul_ediv_cancel_left _ g0]
    have gN : gcdL ts ≠ 0 := fun z => g0 (by rw [z]; rfl)
    have eL : lcmL us = D.natAbs := by rw [eD] at big; omega
    have D0 : D.natAbs ≠ 0 := fun z => by
      have : D = 0 := by omega
      rw [this, Int.mul_zero] at hD; omega
    have Dle : D.natAbs ≤ U.natAbs := by
      have : U.natAbs = gcdL ts * D.natAbs := by rw [hD, Int.natAbs_mul, Int.natAbs_natCast]
      rw [this]
      exact Nat.le_mul_of_pos_left _ (by omega)
    have b4 : ∀ z : Nat, z ≤ U.natAbs → z < 2 ^ 4000 := fun z hz => Nat.lt_of_lt_of_le (Nat.lt_of_le_of_lt hz Ub) (Nat.pow_le_pow_right (by decide) (by decide))
    have pre : ∀ i, lcmL (us.take i) ≤ U.natAbs := fun i => Nat.le_trans (Nat.le_of_dvd (by omega) ((lcmL_iff _ _).mpr fun u hu => (lcmL_iff (lcmL us) us).mp (Nat.dvd_refl _) u (List.mem_of_mem_take hu))) (by rw [eL]; exact Dle)
    try dsimp only
    refine q_asg (v := .int ((lcmL (us.take 0) : Nat) : Int)) (ev_is ev_c (by rfl)) fun H2 e2 => ?_
    try dsimp only
    refine q_forLn (K := K) (a := rp) (xs := rs) (j := 4) (ev_var (i := 1) rfl) (sq_of (e2 _ _ hrp)) (fun i σ' G => ∃ v4 : Option V, σ' = [some (.ref a), some (.ref rp), none, some (.int ((lcmL (us.take i) : Nat) : Int)), v4] ∧ Ex H2 G) (fun G e => ⟨none, rfl, e⟩) (fun i σ' G _ ⟨_, _, e⟩ => sq_of (e _ _ (e2 _ _ hrp))) ?_ ?_
    · rintro i x σ' G hx ⟨v4, rfl, eG⟩
      have hi : i < ts.length := by have := (List.getElem?_eq_some_iff.mp hx).1; omega
      obtain ⟨x', h1, h2, h3, h4⟩ := pat i hi
      cases h1.symm.trans hx
      have htk : us.take (i + 1) = us.take i ++ [(ps.getD i (0, 0)).2] := by
        rw [List.take_succ, (uat i hi).2]
        rfl
      have nx : lcmL (us.take (i + 1)) = Nat.lcm (lcmL (us.take i)) (ps.getD i (0, 0)).2.natAbs := by
        rw [htk]
        unfold lcmL
        rw [List.foldl_append]
        rfl
      try dsimp only
      refine s_asg (v := .int ((lcmL (us.take (i + 1)) : Nat) : Int)) ?_ fun G1 g1 => ⟨_, rfl, eG.trans g1⟩
      rw [nx]
      exact ev_lcm (ev_var (i := 3) rfl) (ev_under (ev_var (i := 4) rfl) (h4.ex (e2.trans eG)) T.cl_Ratio T.na_Ratio_under) (b4 _ (by rw [Int.natAbs_natCast]; exact pre i)) (b4 _ h3.lu) (by rw [Int.natAbs_natCast])
    rintro σ' G ⟨v4, rfl, eG⟩
    have etk : us.take rs.length = us := List.take_of_length_le (by omega)
    rw [etk, big]
    have e02 := (e1.trans e2).trans eG
    have uD : ∀ k, k < ts.length → (ps.getD k (0, 0)).2 ∣ U / ((gcdL ts : Nat) : Int) ∧ (ps.getD k (0, 0)).1 * ((U / ((gcdL ts : Nat) : Int)) / (ps.getD k (0, 0)).2) = ts.getD k 0 / ((gcdL ts : Nat) : Int) := fun k hk => by
      obtain ⟨x, _, _, hl, _⟩ := pat k hk
      exact low_parts U0 hd (gcdL_dvd (getD_mem hk)) hl.pos hl.cop hl.eq
    try dsimp only
    refine s_retIL (ev_var (i := 3) rfl) (el_isW (el_lcL (K := K) (a := rp) (xs := rs) (j := 4) (fun _ => true) (fun k => .int (ts.getD k 0 / ((gcdL ts : Nat) : Int))) (ev_var (i := 1) rfl) (sq_of (eG _ _ (e2 _ _ hrp))) (by omega) (fun x => rfl) (fun i x G1 g1 hi => yes_T) (fun i x G1 g1 hi _ => ?_)) ?_) fun p l G1 hl g1 hp hq => k p l G1 (fresh_back e02 hl) (e02.trans g1) hp hq
    · have hi' : i < ts.length := by have := (List.getElem?_eq_some_iff.mp hi).1; omega
      obtain ⟨x', h1, h2, h3, h4⟩ := pat i hi'
      cases h1.symm.trans hi
      have h5 := h4.ex (e2.trans (eG.trans g1))
      have up := h3.pos
      have ub : (ps.getD i (0, 0)).2.natAbs < 2 ^ 400 := Nat.lt_of_le_of_lt h3.lu Ub
      have tb : (ps.getD i (0, 0)).1.natAbs < 2 ^ 400 := Nat.lt_of_le_of_lt h3.lt (wb.all _ (getD_mem hi'))
      have qb : (U / ((gcdL ts : Nat) : Int) / (ps.getD i (0, 0)).2).natAbs < 2 ^ 400 := by
        obtain ⟨k, hk⟩ := (uD i hi').1
        rw [hk, Int.mul_ediv_cancel_left _ (by omega)]
        refine Nat.lt_of_le_of_lt (Nat.le_trans ?_ Dle) Ub
        rw [← eD, hk, Int.natAbs_mul]
        exact Nat.le_mul_of_pos_left _ (by omega)
      refine ev_is (ev_op (ev_top (ev_var (i := 4) rfl) h5 T.cl_Ratio T.na_Ratio_top) (ev_op (ev_var (i := 3) rfl) (ev_under (ev_var (i := 4) rfl) h5 T.cl_Ratio T.na_Ratio_under) (rv_I (wide_div up ub (by decide) (by decide)))) (rv_I (wide_mul tb qb (by decide) (by decide) (by decide)))) (congrArg V.int (uD i hi').2)
    · rw [given_all, hrl, hvl]
      refine List.ext_getElem (by simp) fun k h1 h2 => ?_
      simp only [List.length_map, List.length_range] at h1
      simp [List.getD_eq_getElem?_getD, List.getElem?_eq_getElem h1]

/-- the sizes of a sum on its way: n items to come -/
structure Sb (M : Nat) (s : Int) (n : Nat) : Prop where
  le : s.natAbs + n * M ≤ 14 * M
theorem Sb.step {M : Nat} {s y : Int} {n : Nat} (h : Sb M s (n + 1)) (hy : y.natAbs < M) : Sb M (s + y) n := ⟨by
  have := h.le
  rw [Nat.succ_mul] at this
  omega⟩
theorem sz4 {z : Int} (h : z.natAbs < 2 ^ 400) : Sz z := sz_of h (by decide)
theorem Sb.sz {s : Int} {n : Nat} (h : Sb (2 ^ 400) s n) : Sz s := by
  refine sz_of (b := 404) (Nat.lt_of_le_of_lt (Nat.le_trans (Nat.le_add_right _ (n * 2 ^ 400)) h.le) ?_) (by decide)
  rw [show (404 : Nat) = 4 + 400 from rfl, Nat.pow_add]
  exact Nat.mul_lt_mul_of_pos_right (by decide) (Nat.pow_pos (by decide))
theorem nf_of {K : PySem.W.Frag} {C : Addr} {t : Value} (h : PySem.W.subIn K t (.ref C) = some false) : PySem.W.notFirst K C t = true := by
  unfold PySem.W.notFirst
  rw [h]
  simp
theorem nf_self {K : PySem.W.Frag} {C : Addr} : PySem.W.notFirst K C (.ref C) = true := by
  unfold PySem.W.notFirst
  simp
theorem mul_pos_iff {z U : Int} (hU : 0 < U) : 0 ≤ z * U ↔ 0 ≤ z := ⟨fun h => Int.le_of_not_gt fun g => Int.not_lt.mpr h (Int.mul_neg_of_neg_of_pos g hU), fun h => Int.mul_nonneg h (by omega)⟩
theorem sz1 : Sz 1 := sz_of (b := 1) (by decide) (by decide)
theorem sz0 : Sz 0 := sz_of (b := 1) (by decide) (by decide)
theorem ev_geW {K : PySem.W.Frag} {A : Ads} {σ : L2.St} {H : Hp} {i : Nat} {v : V} {t U : Int} (hi : σ[i]? = some (some v)) (hw : IsW A v H t U) (hU : 0 < U) (s : Sz t ∧ Sz U) (nf : PySem.W.subIn K (.type "int") (.ref A.C_Ratio) = some false) :
    Ev (tOpS (rAlt (rOwnC K A.C_Ratio (spCmp A cGe) fun _ => E0) fun _ => rI0 fun i j => .bl (decide (j ≤ i))) (tVar i) (tC (.int 0))) σ H (.bl (decide (0 ≤ t))) := fun H1 e Q q => by
  refine ⟨v, hi, ?_⟩
  rcases hw with hw | ⟨z, rfl, rfl⟩
  · have hW := hw.ex e
    obtain ⟨p, u, l, a, dx, rfl, h1⟩ := id hW
    refine .inl ⟨a, dx, _, .type "int", rfl, h1, .base (.int 0), nf_of nf, .ref a, .int 0, t, U, 0, 1, rfl, hW, .inr ⟨rfl, rfl⟩, ⟨s.1, s.2, sz0, sz1⟩, ⟨hU, by decide⟩, fun H' e' => ?_⟩
    have := q H' e'
    unfold cGe
    rw [Int.zero_mul, Int.mul_one]
    exact this
  · refine .inr ⟨z, 0, rfl, rfl, ?_⟩
    have := q H1 (Ex.refl _)
    rw [decide_eq_decide.mpr (mul_pos_iff (z := z) hU)] at this
    exact this
theorem ev_eq1W {K : PySem.W.Frag} {A : Ads} {te : TE} {σ : L2.St} {H : Hp} {s U : Int} (h : EvR te σ H fun v H1 => IsW A v H1 s U) (hU : 0 < U) (nf : PySem.W.subIn K (.type "int") (.ref A.C_Ratio) = some false) :
    Ev (tOpS (rAlt (rOwnC K A.C_Ratio (spEqR K A) fun _ => E0) fun _ => rEq) te (tC (.int 1))) σ H (.bl (decide (s = U))) := fun H1 e Q q =>
  h H1 e _ fun v H2 e2 hw => by
    rcases hw with hw | ⟨z, rfl, rfl⟩
    · obtain ⟨p, u, l, a, dx, rfl, h1⟩ := id hw
      refine .inl ⟨a, dx, _, .type "int", rfl, h1, .base (.int 1), nf_of nf, .ref a, .int 1, s, U, rfl, hw, hU, .inl ⟨1, 1, .inr ⟨rfl, rfl⟩, by decide, fun H' e' => ?_⟩⟩
      have := q H' (e2.trans e')
      unfold cEq
      rw [Int.one_mul, Int.mul_one]
      exact this
    · refine .inr ⟨by rfl, ?_⟩
      have := q H2 e2
      rw [show decide (z * U = U) = decide (V.int z = V.int 1) by
        rw [dec_ii, decide_eq_decide]
        exact ⟨fun h => Int.eq_of_mul_eq_mul_right (a := U) (by omega) (by rw [Int.one_mul]; exact h), fun h => by rw [h, Int.one_mul]⟩] at this
      exact this
def rRat (A : Ads) : R2 := (rAlt (rOwn2 A.C_Ratio (spArith A pAdd) fun _ => E0) (rAlt (rOwnI A.C_Ratio (spArith A pAdd) fun _ => E0) (rOwnR A.C_Ratio (spArith A (pRev pAdd)) fun _ => E0))) []
theorem sum_go {K : PySem.W.Frag} {A : Ads} {p : Addr} {all : List V} {Q : VK} {U : Int} (hU : 0 < U) (sU : Sz U) : ∀ (xs : List V) (ss : List Int) (t : V) (s : Int) (H : Hp), xs.length = ss.length → (∀ (i : Nat) v, xs[i]? = some v → IsW A v H (ss.getD i 0) U) → (∀ y ∈ ss, y.natAbs < 2 ^ 400) →
    SqL K H p all → IsW A t H s U → Sb (2 ^ 400) s ss.length → (∀ v H', Ex H H' → SqL K H' p all → IsW A v H' (s + ss.sum) U → Q v H') → sumW K (rRat A) p all Q xs t H := by
  have ir : ∀ {t : V} {H : Hp} {s : Int}, IsW A t H s U → (∃ a, t = .int a) ∨ ∃ c, t = .ref c := fun {t H s} h => by
    rcases h with ⟨_, _, _, a, _, rfl, _⟩ | ⟨z, rfl, _⟩
    · exact .inr ⟨a, rfl⟩
    · exact .inl ⟨z, rfl⟩
  intro xs
  induction xs with
  | nil =>
    intro ss t s H hl hx hy hp ht hs k
    obtain rfl : ss = [] := List.length_eq_zero_iff.mp hl.symm
    exact ⟨hp, ir ht, k t H (Ex.refl _) hp (by simpa using ht)⟩
  | cons x xs ih =>
    intro ss t s H hl hx hy hp ht hs k
    obtain ⟨y, ss, rfl⟩ : ∃ y r, ss = y :: r := by
      cases ss with
      | nil => cases hl
      | cons y r => exact ⟨y, r, rfl⟩
    have h0 : IsW A x H y U := hx 0 x rfl
    have yb := hy y List.mem_cons_self
    have hs2 : Sb (2 ^ 400) (s + y) ss.length := hs.step yb
    have go : ∀ v H', Ex H H' → IsW A v H' (s + y) U → sumW K (rRat A) p all Q xs v H' := fun v H' e hv => ih ss v (s + y) H' (by simpa using hl) (fun i w hw => (hx (i + 1) w hw).ex e) (fun z hz => hy z (List.mem_cons_of_mem _ hz)) (ex_l e hp) hv hs2 fun w H2 e2 hp2 hw => k w H2 (e.trans e2) hp2 (by rw [List.sum_cons, ← Int.add_assoc]; exact hw)
    refine ⟨hp, ?_⟩
    rcases ht with ht | ⟨z, rfl, rfl⟩
    · obtain ⟨t1, u1, l1, a, dx, rfl, h1⟩ := id ht
      refine .inr ⟨.inl ⟨a, rfl⟩, ?_⟩
      rcases h0 with h0 | ⟨w, rfl, rfl⟩
      · obtain ⟨t2, u2, l2, b, dy, rfl, h2⟩ := id h0
        exact .inl ⟨a, dx, _, b, dy, _, rfl, h1, rfl, h2, _, _, s, U, y, U, rfl, ht, .inl h0, ⟨hs.sz, sU, sz4 yb, sU⟩, ⟨by omega, by omega⟩, fun v H' e hv => go v H' e (.inl (hv.worth (show (s * U + y * U) * U = (s + y) * (U * U) by grind) (mul_ne (by omega) (by omega)) (by omega)))⟩
      · have sw : Sz w := by
          refine (sz4 yb).le ?_
          rw [Int.natAbs_mul]
          exact Nat.le_mul_of_pos_right _ (by omega)
        exact .inr (.inl ⟨a, dx, _, w, rfl, h1, rfl, _, _, s, U, w, 1, rfl, ht, .inr ⟨rfl, rfl⟩, ⟨hs.sz, sU, sw, sz1⟩, ⟨by omega, by decide⟩, fun v H' e hv => go v H' e (.inl (hv.worth (show (s * 1 + w * U) * U = (s + w * U) * (U * 1) by grind) (mul_ne (by omega) (by decide)) (by omega)))⟩)
    · rcases h0 with h0 | ⟨w, rfl, rfl⟩
      · obtain ⟨t2, u2, l2, b, dy, rfl, h2⟩ := id h0
        have szz : Sz z := by
          refine hs.sz.le ?_
          rw [Int.natAbs_mul]
          exact Nat.le_mul_of_pos_right _ (by omega)
        exact .inr ⟨.inr ⟨⟨z, rfl⟩, b, rfl⟩, .inr (.inr ⟨b, dy, _, z, rfl, h2, rfl, _, _, y, U, z, 1, rfl, h0, .inr ⟨rfl, rfl⟩, ⟨sz4 yb, sU, szz, sz1⟩, ⟨by omega, by decide⟩, fun v H' e hv => go v H' e (.inl (hv.worth (show (z * U + y * 1) * U = (z * U + y) * (1 * U) by grind) (mul_ne (by decide) (by omega)) (by omega)))⟩)⟩
      · exact .inl ⟨z, w, rfl, rfl, go _ H (Ex.refl _) (.inr ⟨z + w, rfl, by rw [Int.add_mul]⟩)⟩
theorem er_sumW {K : PySem.W.Frag} {A : Ads} {σ : L2.St} {H : Hp} {i : Nat} {a : Addr} {ts : List Int} {U : Int} (hi : σ[i]? = some (some (.ref a))) (hW : WsAt K A H a ts U) (wb : Wb ts U) : EvR (tCB (rSumG K (rRat A)) (tCons (tVar i) tNil)) σ H fun v H1 => IsW A v H1 ts.sum U := fun H1 e Q q => by
  obtain ⟨vs, h1, h2, h3⟩ := hW.ex e
  refine ⟨_, hi, a, vs, rfl, sum_go wb.pos (sz4 wb.U) vs ts (.int 0) 0 H1 h2 h3 wb.all h1 (.inr ⟨0, rfl, by rw [Int.zero_mul]⟩) ⟨?_⟩ fun v H' e' _ hv => q v H' e' (by rw [Int.zero_add] at hv; exact hv)⟩
  have := wb.len
  show 0 + ts.length * 2 ^ 400 ≤ 14 * 2 ^ 400
  rw [Nat.zero_add]
  exact Nat.mul_le_mul_right _ (by omega)
theorem ev_allN {K : PySem.W.Frag} {σ : L2.St} {H : Hp} {te : TE} {bs : List Bool} (h : EvL te σ H (bs.map V.bl)) : Ev (tCB (rAll K) (tCons te tNil)) σ H (.bl (bs.all id)) := fun H1 e Q q => h H1 e _ fun p H2 _ e2 hp => ⟨p, bs, rfl, sq_of hp, q H2 e2⟩
def sharesB (ts : List Int) (U : Int) : Bool := ts.all (fun t => decide (0 ≤ t)) && decide (ts.sum = U)
def spShares (K : PySem.W.Frag) (A : Ads) : Sp := fun vs H Q _ => ∃ (a : Addr) (ts : List Int) (U : Int), vs = [.ref a] ∧ WsAt K A H a ts U ∧ Wb ts U ∧ ∀ H', Ex H H' → Q (.bl (sharesB ts U)) H' 
theorem ok_are_shares (T : Txt K mg A) : FnOk P w K mg base CX0 13 A.f_are_shares A.d_are_shares (["numbers"] : List Str) (spShares K A) := by
  refine T.F_are_shares.ok sc_are_shares (fun vs H Q E h => ?_) (fun cdv Ar outer s H vs Q E hr h => ?_)
  · obtain ⟨a, ts, U, rfl, _⟩ := h
    rfl
  · obtain ⟨a, ts, U, rfl, hW, wb, k⟩ := h
    refine ⟨_, (pss_one (ps_ret (pe_and (pe_callB (cr_allK rfl) (by rfl) T.z_all (by decide +kernel) (pa_cons (pe_lc (own := [("number", 1)]) (g := gName 1) (tt := tYes) rfl sc_are_shares.nd (pi_listK (pv 0)) (blkOk_by (own := [("number", 1)]) (N := N_are_shares) (sc := defScope s_are_shares) (by decide +kernel)) (fun _ _ _ _ _ => (pg_name (i := 1) sc_are_shares.nd rfl (Or.inl rfl))) (fun _ _ _ _ _ => pts_nil) (fun _ _ _ _ _ => (pe_cmpS (ops_or (op_ownC (op := .GtE) (E := fun _ => E0) (fun _ _ => rfl) T.M_Ratio_ge (ok_Ratio_ge T) (hr.mono (by omega)) (b_Ratio_ge T) (pAt passL)) (ops_plain op_ge)) (pv 1) pe_int (nomark _)))) pa_nil)) (pe_one (pe_cmpS (ops_or (op_ownC (op := .Eq) (E := fun _ => E0) (fun _ _ => rfl) T.M_Ratio_eq (ok_Ratio_eq T) (hr.mono (by omega)) (b_Ratio_eq T) (pAt pass0)) (ops_plain op_eq)) (pe_callB (cr_sumG rfl (opR_of (ops_or (op_own2 (op := .Add) (E := fun _ => E0) T.op_Ratio T.D_Ratio_add (ok_Ratio_add T) (hr.mono (by omega)).in1 (b_Ratio_add T) (pAt passL)) (ops_or (op_ownJ (op := .Add) (E := fun _ => E0) T.op_Ratio T.D_Ratio_add T.I_Ratio_add (ok_Ratio_add T) (hr.mono (by omega)).in1 (b_Ratio_add T) (pAt passL)) (op_ownR (op := .Add) (E := fun _ => E0) T.op_Ratio T.li_Ratio T.D_Ratio_add T.R_Ratio_add side_add (ok_Ratio_radd T) (hr.mono (by omega)).in1 (b_Ratio_radd T) (pAt passL)))))) (by rfl) T.z_sum (by decide +kernel) (pa_cons (pv 0) pa_nil)) pe_int (nomark _)))))), ?_⟩
    obtain ⟨vs, hvs, hvl, hvw⟩ := id hW
    have tl := wb.len
    refine s_ret (v := .bl (sharesB ts U)) (ev_is (ev_andV (a := (ts.map fun t => decide (0 ≤ t)).all id) (b := decide (ts.sum = U)) (ev_allN (K := K) (el_isW (el_lcL (K := K) (a := a) (xs := vs) (j := 1) (fun _ => true) (fun k => .bl (decide (0 ≤ ts.getD k 0))) (ev_var (i := 0) rfl) hvs (by omega) (fun x => rfl) (fun i x G1 g1 hi => yes_T) (fun i x G1 g1 hi _ => ?_)) ?_)) fun _ => ev_eq1W (er_sumW (i := 0) rfl hW wb) wb.pos T.op_Ratio.sub) ?_) fun H1 e1 => k H1 e1
    · have hi' : i < ts.length := by have := (List.getElem?_eq_some_iff.mp hi).1; omega
      exact ev_geW (i := 1) rfl ((hvw i x hi).ex g1) wb.pos ⟨sz4 (wb.all _ (getD_mem hi')), sz4 wb.U⟩ T.op_Ratio.sub
    · rw [given_all, hvl]
      refine List.ext_getElem (by simp) fun k h1 h2 => ?_
      simp only [List.length_map, List.length_range] at h1
      simp [List.getD_eq_getElem?_getD, List.getElem?_eq_getElem h1]
    · unfold sharesB
      rw [List.all_map]
      rfl

def spChkSh (K : PySem.W.Frag) (A : Ads) : Sp := fun vs H Q E => ∃ (a : Addr) (ts : List Int) (U : Int), vs = [.ref a] ∧ WsAt K A H a ts U ∧ Wb ts U ∧ (sharesB ts U = true → ∀ H', Ex H H' → Q .non H') ∧ (sharesB ts U = false → ∀ H', Ex H H' → E (.ref A.C_BadShares) none H') 
theorem ok_check_shares (T : Txt K mg A) : FnOk P w K mg base (L2.CX P w) 15 A.f_check_shares A.d_check_shares (["weights"] : List Str) (spChkSh K A) := by
  refine T.F_check_shares.okX sc_check_shares (fun vs H Q E h => ?_) (fun cdv Ar outer s H vs Q E hr h => ?_)
  · obtain ⟨a, ts, U, rfl, _⟩ := h
    rfl
  · obtain ⟨a, ts, U, rfl, hW, wb, kQ, kE⟩ := h
    refine ⟨_, (pss_one (ps_if (pt_not (pt_val (pe_call (ok_are_shares T) (hr.mono (by omega)) rfl T.g_are_shares T.k_are_shares (b_are_shares T) .nil pass0 (pa_cons (pv 0) pa_nil)))) (pss_one (ps_raise rfl (takes_of rfl rfl rfl rfl) (pmk_none PySem.F.excBase_ValueError T.xP_BadShares T.g_BadShares T.kP_BadShares (raises_own T.bP_BadShares T.tP_BadShares) rfl))) pss_nil)), ?_⟩
    try dsimp only
    refine s_when (b := !sharesB ts U) (et_not (et_B (ev_call (ea_cons (ev_var (i := 0) rfl) ea_nil) fun H1 e Q q E => ⟨a, ts, U, rfl, hW.ex e, wb, fun H' e' => q H' e'⟩))) (fun hb H1 e1 => ?_) (fun hb H1 e1 => kQ (by simpa using hb) H1 e1)
    exact kE (by simpa using hb) H1 e1

theorem ev_lenH {K : PySem.W.Frag} {σ : L2.St} {H : Hp} {te : TE} {p : Addr} {xs : List V} (h : Ev te σ H (.ref p)) (hp : SqL K H p xs) : Ev (tCB (rLenK K) (tCons te tNil)) σ H (.int (xs.length : Int)) := fun H1 e Q q => h H1 e _ fun H2 e2 => ⟨.ref p, xs.length, rfl, .inl ⟨xs, ex_l (e.trans e2) hp, rfl⟩, q H2 e2⟩
def tkF (D : Int) (l : Addr) : List (Str × V) := [("total", .int D), ("_tickets_each", .ref l)]
def gcI (ts : List Int) : Int := (gcdL ts : Nat)
def cnt (ts : List Int) : List Int := ts.map fun t => t / gcI ts
def spTkInit (K : PySem.W.Frag) (A : Ads) : Sp := fun vs H Q E => ∃ (x dx a : Addr) (ts : List Int) (U : Int), vs = [.ref x, .ref a] ∧ H x = some (.ins A.C_Tickets dx []) ∧ WsAt K A H a ts U ∧ Wb ts U ∧
  (ts.length = 0 → ∀ d H', Ex H H' → H' d = some (.xd [("value", .int 0), ("name", .str "weights")]) → E (.ref A.C_BadNumber) (some d) H') ∧
  (12 < ts.length → ∀ d H', Ex H H' → H' d = some (.xd [("most", .int 12), ("name", .str "weights")]) → E (.ref A.C_TooMany) (some d) H') ∧
  (1 ≤ ts.length ∧ ts.length ≤ 12 → sharesB ts U = false → ∀ H', Ex H H' → E (.ref A.C_BadShares) none H') ∧
  (1 ≤ ts.length ∧ ts.length ≤ 12 → sharesB ts U = true → ∀ l H', H l = none → (∀ b o, b ≠ x → H b = some o → H' b = some o) → H' x = some (.ins A.C_Tickets dx (tkF (U / gcI ts) l)) → H' l = some (.lst ((cnt ts).map V.int)) → Q .non H') 
theorem ok_Tickets_init (T : Txt K mg A) : FnOk P w K mg base (L2.CX P w) 17 A.f_Tickets_init A.d_Tickets_init (["self", "weights"] : List Str) (spTkInit K A) := by
  refine T.F_Tickets_init.okX sc_Tickets_init (fun vs H Q E h => ?_) (fun cdv Ar outer s H vs Q E hr h => ?_)
  · obtain ⟨x, dx, a, ts, U, rfl, _⟩ := h
    rfl
  · obtain ⟨x, dx, a, ts, U, rfl, hx, hW, wb, k1, k2, k3, k4⟩ := h
    obtain ⟨tc_MOST_WEIGHTS, gc_MOST_WEIGHTS⟩ := T.c_MOST_WEIGHTS
    refine ⟨_, (pss_cons (ps_if (pt_cmpR op_eq (pe_callB len_K (by rfl) T.z_len (by decide +kernel) (pa_cons (pv 1) pa_nil)) pe_int (nomark _)) (pss_one (ps_raise rfl (takes_of rfl rfl rfl rfl) (pmk_oex T.ox_BadNumber T.ni_BadNumber T.ti_BadNumber (ok_BadNumber_init T) (hr.mono (by omega)) (b_BadNumber_init T) .nil pass0 rfl T.g_BadNumber (pa_cons pe_str (pa_cons pe_int pa_nil))))) pss_nil)
        (pss_cons (ps_if (pt_cmpR op_gt (pe_callB len_K (by rfl) T.z_len (by decide +kernel) (pa_cons (pv 1) pa_nil)) (pe_glob (v := .int 12) rfl gc_MOST_WEIGHTS ⟨_, rfl⟩) (nomark _)) (pss_one (ps_raise rfl (takes_of rfl rfl rfl rfl) (pmk_oex T.ox_TooMany T.ni_TooMany T.ti_TooMany (ok_TooMany_init T) (hr.mono (by omega)) (b_TooMany_init T) .nil pass0 rfl T.g_TooMany (pa_cons pe_str (pa_cons (pe_glob (v := .int 12) rfl gc_MOST_WEIGHTS ⟨_, rfl⟩) pa_nil))))) pss_nil)
        (pss_cons (ps_expr (pe_call (ok_check_shares T) (hr.mono (by omega)) rfl T.g_check_shares T.k_check_shares (b_check_shares T) .nil (passes_call (takes_of rfl rfl rfl rfl) (fun _ _ _ _ h => h)) (pa_cons (pv 1) pa_nil)))
        (pss_cons (ps_asg (pe_call (ok_over_one T) (hr.mono (by omega)) rfl T.g_over_one T.k_over_one (b_over_one T) .nil pass0 (pa_cons (pv 1) pa_nil)) (pg_tup rfl (pgs_cons (pg_name (i := 2) sc_Tickets_init.nd rfl (Or.inl rfl)) (pgs_cons (pg_name (i := 3) sc_Tickets_init.nd rfl (Or.inl rfl)) pgs_nil))))
        (pss_cons (ps_fld (pv 0) (pv 2) rfl)
        (pss_one (ps_fld (pv 0) (pv 3) rfl))))))), ?_⟩
    obtain ⟨vs, hvs, hvl, hvw⟩ := id hW
    have tl := wb.len
    try dsimp only
    refine q_when (b := decide (ts.length = 0)) (et_is (et_test (ev_op (ev_lenH (K := K) (ev_var (i := 1) rfl) hvs) ev_c (rv_eq rfl))) (by rw [dec_ii, hvl, decide_eq_decide]; omega)) (fun hb H1 e1 => raise2 (x := .str "weights") (y := .int 0) T.ox_BadNumber (fun Q q => q) fun d H' e' hd => k1 (of_decide_eq_true hb) d H' (e1.trans e') hd) (fun hb H1 e1 => ?_)
    have n0 := of_decide_eq_false hb
    try dsimp only
    refine q_when (b := decide (12 < ts.length)) (et_is (et_test (ev_op (ev_lenH (K := K) (ev_var (i := 1) rfl) (ex_l e1 hvs)) ev_c rv_I0)) (by rw [hvl, decide_eq_decide]; omega)) (fun hb H2 e2 => raise2 (x := .str "weights") (y := .int 12) T.ox_TooMany (fun Q q => q) fun d H' e' hd => k2 (of_decide_eq_true hb) d H' ((e1.trans e2).trans e') hd) (fun hb H2 e2 => ?_)
    have n1 := of_decide_eq_false hb
    have e02 := e1.trans e2
    have okl : 1 ≤ ts.length ∧ ts.length ≤ 12 := by omega
    try dsimp only
    refine ⟨_, rfl, a, ts, U, rfl, hW.ex e02, wb, fun hs H3 e3 => ?_, fun hs H3 e3 => k3 okl hs H3 (e02.trans e3)⟩
    have e03 := e02.trans e3
    have hsum : ts.sum = U := by
      unfold sharesB at hs
      rw [Bool.and_eq_true] at hs
      exact of_decide_eq_true hs.2
    have hd : ((gcdL ts : Nat) : Int) ∣ U := by rw [← hsum]; exact sum_dvd fun t ht => gcdL_dvd ht
    try dsimp only
    refine ⟨_, rfl, a, ts, U, rfl, hW.ex e03, wb, hd, fun p l H4 hl e4 hp hl4 => ?_⟩
    refine ⟨p, _, rfl, st_of hp, rfl, _, _, rfl, _, _, rfl, rfl, ?_⟩
    have e04 := e03.trans e4
    have hx4 := e04 _ _ hx
    have ln := fresh_back e03 hl
    have lx : l ≠ x := fun z => by rw [z, hx] at ln; cases ln
    try dsimp only
    refine q_fldR (er_ev (P := fun v _ => v = .int (U / ((gcdL ts : Nat) : Int))) (ev_var (i := 2) rfl) fun _ _ => rfl) rfl hx4 T.cl_Tickets T.na_Tickets_total (by decide) fun v H5 e5 hv => ?_
    subst hv
    try dsimp only
    refine s_fldR (er_ev (P := fun v _ => v = .ref l) (ev_var (i := 3) rfl) fun _ _ => rfl) rfl upd_same T.cl_Tickets T.na_Tickets_tickets_each (by show 1 < 1000; decide) fun w H6 e6 hw => ?_
    subst hw
    refine k4 okl hs l _ ln (fun b o hb ho => ?_) ?_ ?_
    · rw [upd_ne hb]
      exact e6 _ _ (by rw [upd_ne hb]; exact e5 _ _ (e04 _ _ ho))
    · rw [upd_same]
      have h : ¬ ("total" : Str) = "_tickets_each" := by decide +kernel
      show some (HO.ins A.C_Tickets dx (if ("total" : Str) = "_tickets_each" then _ else (("total" : Str), _) :: putF "_tickets_each" _ [])) = _
      rw [if_neg h]
      rfl
    · rw [upd_ne lx]
      exact e6 _ _ (by rw [upd_ne lx]; exact e5 _ _ hl4)

/-- the tickets at v: D in all, cs each -/
def TkAt (A : Ads) (v : V) (H : Hp) (D : Int) (cs : List Int) : Prop := ∃ x dx l, v = .ref x ∧ H x = some (.ins A.C_Tickets dx (tkF D l)) ∧ H l = some (.lst (cs.map V.int))
theorem TkAt.ex {A : Ads} {v : V} {H H' : Hp} {D : Int} {cs : List Int} (e : Ex H H') (h : TkAt A v H D cs) : TkAt A v H' D cs := by
  obtain ⟨x, dx, l, rfl, h1, h2⟩ := h
  exact ⟨x, dx, l, rfl, e _ _ h1, e _ _ h2⟩
def spMany (A : Ads) : Sp := fun vs H Q E => ∃ (v : V) (D : Int) (cs : List Int) (i : Int), vs = [v, .int i] ∧ TkAt A v H D cs ∧ (0 ≤ i ∧ i < (cs.length : Int) → ∀ H', Ex H H' → Q (.int (cs.getD i.toNat 0)) H') ∧ (¬ (0 ≤ i ∧ i < (cs.length : Int)) → ∀ H', Ex H H' → E (.ref A.C_NoPlace) none H') 
theorem ok_Tickets_many (T : Txt K mg A) : FnOk P w K mg base (L2.CX P w) 4 A.f_Tickets_many A.d_Tickets_many (["self", "index"] : List Str) (spMany A) := by
  refine T.F_Tickets_many.okX sc_Tickets_many (fun vs H Q E h => ?_) (fun cdv Ar outer s H vs Q E hr h => ?_)
  · obtain ⟨v, D, cs, i, rfl, _⟩ := h
    rfl
  · obtain ⟨v, D, cs, i, rfl, hT, kQ, kE⟩ := h
    refine ⟨_, (pss_cons (ps_if (PW.pt (pw_or (pt_cmpR op_lt (pv 1) pe_int (nomark _)) (pw_or1 (pt_cmpR op_ge (pv 1) (pe_callB len_K (by rfl) T.z_len (by decide +kernel) (pa_cons (pe_fldK (pv 0) rfl) pa_nil)) (nomark _))))) (pss_one (ps_raise rfl (takes_of rfl rfl rfl rfl) (pmk_none PySem.F.excBase_ValueError T.xP_NoPlace T.g_NoPlace T.kP_NoPlace (raises_own T.bP_NoPlace T.tP_NoPlace) rfl))) pss_nil)
        (pss_one (ps_ret (pe_ix ix_lK (pe_fldK (pv 0) rfl) (pv 1) (fun _ _ => rfl))))), ?_⟩
    obtain ⟨x, dx, l, rfl, h1, h2⟩ := hT
    have each : ∀ G, Ex H G → Ev (tFld K (tVar 0) "_tickets_each") [some (.ref x), some (.int i)] G (.ref l) := fun G e => ev_fldQ (K := K) (ev_var (i := 0) rfl) (e _ _ h1) T.cl_Tickets T.na_Tickets_tickets_each (by rfl)
    try dsimp only
    refine q_when (b := decide (i < 0) || decide (((cs.map V.int).length : Int) ≤ i)) (et_or (et_test (ev_op (ev_var (i := 1) rfl) ev_c rv_I0)) fun _ => et_test (ev_op (ev_var (i := 1) rfl) (ev_lenH (K := K) (each H (Ex.refl _)) (sq_of h2)) rv_I0)) (fun hb H1 e1 => kE ?_ H1 e1) (fun hb H1 e1 => ?_)
    · rw [Bool.or_eq_true, decide_eq_true_iff, decide_eq_true_iff, List.length_map] at hb
      omega
    rw [Bool.or_eq_false_iff, decide_eq_false_iff_not, decide_eq_false_iff_not, List.length_map] at hb
    have hi : 0 ≤ i ∧ i < (cs.length : Int) := by omega
    try dsimp only
    exact s_ret (ev_op (each H1 e1) (ev_var (i := 1) rfl) (rv_ixL (K := K) (sq_of (e1 _ _ h2)) (atI_ints hi.1 hi.2))) fun H2 e2 => kQ hi H2 (e1.trans e2)

def spTicket (A : Ads) : Sp := fun vs H Q E => ∃ (v : V) (D : Int) (cs : List Int) (n : Int), vs = [v, .int n] ∧ TkAt A v H D cs ∧ (0 ≤ n ∧ n < D → ∃ k, tkt cs n = some k ∧ ∀ H', Ex H H' → Q (.int (k : Nat)) H') ∧ (¬ (0 ≤ n ∧ n < D) → ∀ H', Ex H H' → E (.ref A.C_NoPlace) none H') 
theorem ok_Tickets_ticket (T : Txt K mg A) : FnOk P w K mg base (L2.CX P w) 4 A.f_Tickets_ticket A.d_Tickets_ticket (["self", "number"] : List Str) (spTicket A) := by
  refine T.F_Tickets_ticket.okX sc_Tickets_ticket (fun vs H Q E h => ?_) (fun cdv Ar outer s H vs Q E hr h => ?_)
  · obtain ⟨v, D, cs, n, rfl, _⟩ := h
    rfl
  · obtain ⟨v, D, cs, n, rfl, hT, kQ, kE⟩ := h
    refine ⟨_, (pss_cons (ps_if (PW.pt (pw_or (pt_cmpR op_lt (pv 1) pe_int (nomark _)) (pw_or1 (pt_cmpR op_ge (pv 1) (pe_fldK (pv 0) rfl) (nomark _))))) (pss_one (ps_raise rfl (takes_of rfl rfl rfl rfl) (pmk_none PySem.F.excBase_ValueError T.xP_NoPlace T.g_NoPlace T.kP_NoPlace (raises_own T.bP_NoPlace T.tP_NoPlace) rfl))) pss_nil)
        (pss_cons (ps_set (i := 2) sc_Tickets_ticket.nd rfl (Or.inl rfl) (pv 1))
        (pss_cons (ps_set (i := 3) sc_Tickets_ticket.nd rfl (Or.inl rfl) pe_int)
        (pss_cons (ps_while (passes_of rfl) (pt_cmpR op_ge (pv 2) (pe_ix ix_lK (pe_fldK (pv 0) rfl) (pv 3) (fun _ _ => rfl)) (nomark _)) (pss_cons (ps_set (i := 2) sc_Tickets_ticket.nd rfl (Or.inl rfl) (pe_op op_sub (pv 2) (pe_ix ix_lK (pe_fldK (pv 0) rfl) (pv 3) (fun _ _ => rfl))))
        (pss_one (ps_set (i := 3) sc_Tickets_ticket.nd rfl (Or.inl rfl) (pe_op op_add (pv 3) pe_int)))))
        (pss_one (ps_ret (pv 3))))))), ?_⟩
    obtain ⟨x, dx, l, rfl, h1, h2⟩ := hT
    have each : ∀ (a b : Int) G, Ex H G → Ev (tFld K (tVar 0) "_tickets_each") [some (.ref x), some (.int n), some (.int a), some (.int b)] G (.ref l) := fun a b G e => ev_fldQ (K := K) (ev_var (i := 0) rfl) (e _ _ h1) T.cl_Tickets T.na_Tickets_tickets_each (by rfl)
    try dsimp only
    refine q_when (b := decide (n < 0) || decide (D ≤ n)) (et_or (et_test (ev_op (ev_var (i := 1) rfl) ev_c rv_I0)) fun _ => et_test (ev_op (ev_var (i := 1) rfl) (ev_fldQ (K := K) (ev_var (i := 0) rfl) h1 T.cl_Tickets T.na_Tickets_total (by rfl)) rv_I0)) (fun hb H1 e1 => kE ?_ H1 e1) (fun hb H1 e1 => ?_)
    · rw [Bool.or_eq_true, decide_eq_true_iff, decide_eq_true_iff] at hb
      omega
    rw [Bool.or_eq_false_iff, decide_eq_false_iff_not, decide_eq_false_iff_not] at hb
    obtain ⟨k0, hk0, kQ⟩ := kQ (by omega)
    try dsimp only
    refine q_asg (v := .int n) (ev_var (i := 1) rfl) fun H2 e2 => ?_
    try dsimp only
    refine q_asg (v := .int ((0 : Nat) : Int)) ev_c fun H3 e3 => ?_
    have e03 := e1.trans (e2.trans e3)
    try dsimp only
    refine q_while (fun m σ' G => ∃ (left : Int) (j : Nat), σ' = [some (.ref x), some (.int n), some (.int left), some (.int (j : Int))] ∧ Ex H G ∧ ∃ r, tkt (cs.drop j) left = some r ∧ j + r = k0 ∧ m = r) k0 ⟨n, 0, rfl, e03, k0, hk0, by omega, rfl⟩ ?_
    rintro m σ' G ⟨left, j, rfl, eG, r, hr, hj, rfl⟩
    have hjl : j < cs.length := by
      by_cases z : j < cs.length
      · exact z
      · rw [List.drop_of_length_le (by omega)] at hr
        cases hr
    have hc : cs.drop j = cs.getD j 0 :: cs.drop (j + 1) := by
      rw [List.getD_eq_getElem?_getD, List.getElem?_eq_getElem hjl]
      exact List.drop_eq_getElem_cons hjl
    have at_ : atI (cs.map V.int) (j : Int) = some (.int (cs.getD j 0)) := atI_ints (by omega) (by omega)
    have ix : ∀ G', Ex G G' → Ev (tOp (rIxL K) (tFld K (tVar 0) "_tickets_each") (tVar 3)) [some (.ref x), some (.int n), some (.int left), some (.int (j : Int))] G' (.int (cs.getD j 0)) := fun G' e => ev_op (each left j G' (eG.trans e)) (ev_var (i := 3) rfl) (rv_ixL (K := K) (sq_of ((eG.trans e) _ _ h2)) at_)
    refine ⟨decide (cs.getD j 0 ≤ left), et_test (ev_op (ev_var (i := 2) rfl) (ix G (Ex.refl _)) rv_I0), fun hb G1 g1 => ?_, fun hb G1 g1 => ?_⟩
    · have hb := of_decide_eq_true hb
      rw [hc] at hr
      unfold tkt at hr
      rw [if_neg (by omega)] at hr
      obtain ⟨r', hr', er⟩ := Option.map_eq_some_iff.mp hr
      refine ⟨fun σ2 G2 => σ2 = [some (.ref x), some (.int n), some (.int (left - cs.getD j 0)), some (.int ((j + 1 : Nat) : Int))] ∧ Ex H G2, fun σ2 G2 h => ⟨r', by omega, left - cs.getD j 0, j + 1, h.1, h.2, r', hr', by omega, rfl⟩, ?_⟩
      try dsimp only
      refine q_asg (v := .int (left - cs.getD j 0)) (ev_op (ev_var (i := 2) rfl) (ix G1 g1) rv_I0) fun G2 g2 => ?_
      try dsimp only
      exact s_asg (v := .int ((j + 1 : Nat) : Int)) (ev_is (ev_op (ev_var (i := 3) rfl) ev_c rv_I0) (congrArg V.int (by omega))) fun G3 g3 => ⟨rfl, eG.trans (g1.trans (g2.trans g3))⟩
    · have hb := of_decide_eq_false hb
      rw [hc] at hr
      unfold tkt at hr
      rw [if_pos (by omega)] at hr
      cases hr
      have ej : j = k0 := by omega
      subst ej
      exact s_ret (ev_var (i := 3) rfl) fun G2 g2 => kQ G2 (eG.trans (g1.trans g2))

def sp_cell (K : PySem.W.Frag) : Sp := fun vs H Q _ => ∃ (a : Addr) (ns : List Int) (k : Nat), vs = [.ref a, .int (k : Int)] ∧ SqL K H a (ns.map V.int) ∧ Q (.int (cellA ns k)) H
theorem ev_cell {K : PySem.W.Frag} {E : XK} {σ : L2.St} {H : Hp} {ta tk : TE} {a : Addr} {ns : List Int} {k : Nat} {z : Int} (ha : Ev ta σ H (.ref a)) (hk : Ev tk σ H (.int z)) (hS : SqL K H a (ns.map V.int)) (hz : z = (k : Int) := by rfl) : Ev (tCall (sp_cell K) [] E (tCons ta (tCons tk tNil))) σ H (.int (cellA ns k)) := fun H1 e Q q =>
  ha H1 e _ fun H2 e2 => hk H2 (e.trans e2) _ fun H3 e3 => by subst hz; exact ⟨a, ns, k, rfl, ex_l ((e.trans e2).trans e3) hS, q H3 (e2.trans e3)⟩
theorem ok_u_law_cell (T : Txt K mg A) : FnOk P w K mg base CX0 1 A.f_u_law_cell A.d_u_law_cell (["script", "k"] : List Str) (sp_cell K) := by
  refine T.F_u_law_cell.ok sc_u_law_cell (fun vs H Q E h => ?_) (fun cdv Ar outer s H vs Q E hr h => ?_)
  · obtain ⟨a, ns, k, rfl, _⟩ := h
    rfl
  · obtain ⟨a, ns, k, rfl, hS, q⟩ := h
    refine ⟨_, (pss_cons (ps_if (pt_cmpR op_lt (pv 1) (pe_callB len_K (by rfl) T.z_len (by decide +kernel) (pa_cons (pv 0) pa_nil)) (nomark _)) (pss_one (ps_ret (pe_callB call_abs (by rfl) T.z_abs (by decide +kernel) (pa_cons (pe_ix ix_lK (pv 0) (pv 1) (fun _ _ => rfl)) pa_nil)))) pss_nil)
        (pss_one (ps_ret pe_int))), ?_⟩
    refine ⟨_, rfl, _, rfl, .ref a, _, rfl, .inl ⟨_, hS, rfl⟩, _, _, rfl, rfl, _, rfl, ?_⟩
    unfold cellA at q
    rw [List.length_map]
    by_cases hk : k < ns.length
    · refine wayT (show (k : Int) < (ns.length : Int) by omega) ?_
      rw [if_pos hk] at q
      refine ⟨_, rfl, _, rfl, a, _, _, .int (ns.getD k 0), rfl, rfl, hS, atI_nat ?_, _, rfl, q⟩
      rw [List.getElem?_map, List.getD_eq_getElem?_getD, List.getElem?_eq_getElem hk]
      rfl
    · refine wayF (show ¬ (k : Int) < (ns.length : Int) by omega) ?_
      rw [if_neg hk] at q
      exact q

def sp_draws (K : PySem.W.Frag) : Sp := fun vs H Q _ => ∃ (c s : Int) (m : Addr) (ms : List Int), vs = [.int c, .int s, .ref m] ∧ SqL K H m (ms.map V.int) ∧ 0 ≤ c ∧ (-1000000 ≤ s ∧ s ≤ 1000000) ∧ ms.length ≤ 64 ∧
  (∀ x ∈ ms, 1 ≤ x ∧ x.natAbs < 2 ^ 1000) ∧ ∀ p H' ds, H p = none → Ex H H' → H' p = some (.lst (ds.map V.int)) → Drawn ms ds → Q (.ref p) H'
theorem er_draws {K : PySem.W.Frag} {E : XK} {σ : L2.St} {H : Hp} {tc ts tm : TE} {c z : Int} {ms : List Int} (hc : Ev tc σ H (.int c)) (hs : Ev ts σ H (.int z)) (hm : EvL tm σ H (ms.map V.int)) (h0 : 0 ≤ c) (hz : -1000000 ≤ z ∧ z ≤ 1000000) (hl : ms.length ≤ 64)
    (hb : ∀ x ∈ ms, 1 ≤ x ∧ x.natAbs < 2 ^ 1000) : EvR (tCall (sp_draws K) [] E (tCons tc (tCons ts (tCons tm tNil)))) σ H fun v H1 => ∃ p ds, v = .ref p ∧ H1 p = some (.lst (ds.map V.int)) ∧ Drawn ms ds := fun H1 e Q q =>
  hc H1 e _ fun H2 e2 => hs H2 (e.trans e2) _ fun H3 e3 => hm H3 ((e.trans e2).trans e3) _ fun m H4 _ e4 h4 =>
    ⟨c, z, m, ms, rfl, sq_of h4, h0, hz, hl, hb, fun p H' ds hp e' h' hD => q _ H' ((e2.trans e3).trans (e4.trans e')) ⟨p, ds, rfl, h', hD⟩⟩
theorem drawn_more {ms ds : List Int} {i : Nat} {m d : Int} (h : Drawn (ms.take i) ds) (hm : ms[i]? = some m) (h0 : 0 ≤ d) (h1 : d < m) : Drawn (ms.take (i + 1)) (ds ++ [d]) := by
  have hi : i < ms.length := (List.getElem?_eq_some_iff.mp hm).1
  obtain ⟨hl, hd⟩ := h
  have hl' : ds.length = i := by rw [hl, List.length_take]; omega
  refine ⟨by rw [List.length_append, hl', List.length_take]; simp; omega, fun j x hj => ?_⟩
  by_cases hji : j < i
  · have hx : (ms.take i)[j]? = some x := by
      rw [List.getElem?_take_of_lt hji]
      rw [List.getElem?_take_of_lt (by omega)] at hj
      exact hj
    obtain ⟨d', e, z⟩ := hd j x hx
    exact ⟨d', by rw [List.getElem?_append_left (by omega)]; exact e, z⟩
  · have hlt : j < i + 1 := by
      have := (List.getElem?_eq_some_iff.mp hj).1
      rw [List.length_take] at this
      omega
    have ej : j = i := by omega
    subst ej
    rw [List.getElem?_take_of_lt hlt, hm] at hj
    cases hj
    exact ⟨d, by rw [List.getElem?_append_right (by omega), hl', Nat.sub_self]; rfl, h0, h1⟩
theorem ok_u_law_draws (T : Txt K mg A) : FnOk P w K mg base CX0 1 A.f_u_law_draws A.d_u_law_draws (["cell", "salt", "menu"] : List Str) (sp_draws K) := by
  refine T.F_u_law_draws.ok sc_u_law_draws (fun vs H Q E h => ?_) (fun cdv Ar outer s H vs Q E hr h => ?_)
  · obtain ⟨c, s, m, ms, rfl, _⟩ := h
    rfl
  · obtain ⟨c, sa, m, ms, rfl, hS, hc, hs, hl, hm, k⟩ := h
    refine ⟨_, (pss_cons (ps_set (i := 3) sc_u_law_draws.nd rfl (Or.inl rfl) (pe_lst pa_nil))
        (pss_cons (ps_set (i := 4) sc_u_law_draws.nd rfl (Or.inl rfl) (pe_op op_sub (pv 0) (pe_op op_pow pe_int pe_int)))
        (pss_cons (ps_set (i := 5) sc_u_law_draws.nd rfl (Or.inl rfl) (pe_op op_add (pv 0) (pe_op op_mul pe_int (pv 1))))
        (pss_cons (ps_for PassesOwn.never rfl (pi_range1 rfl T.z_range (pa_cons (pe_callB len_K (by rfl) T.z_len (by decide +kernel) (pa_cons (pv 2) pa_nil)) pa_nil)) (pg_name (i := 6) sc_u_law_draws.nd rfl (Or.inl rfl)) (pss_one (ps_if (pt_cmpR op_ge (pv 4) pe_int (nomark _)) (pss_cons (ps_expr (pe_bm PySem.F.plainAttrs_list PySem.F.slot_list_append PySem.F.type_list_append mt_append (pv 3) (pa_cons (pe_op op_mod (pe_callTy call_int1 (by rfl) T.z_int (by decide +kernel) (pa_cons (pv 4) pa_nil)) (pe_ix ix_lK (pv 2) (pv 6) (fun _ _ => rfl))) pa_nil)))
        (pss_one (ps_set (i := 4) sc_u_law_draws.nd rfl (Or.inl rfl) (pe_op op_fdivW (pv 4) (pe_ix ix_lK (pv 2) (pv 6) (fun _ _ => rfl)))))) (pss_cons (ps_set (i := 5) sc_u_law_draws.nd rfl (Or.inl rfl) (pe_op op_mod (pe_callTy call_int1 (by rfl) T.z_int (by decide +kernel) (pa_cons (pe_op op_add (pe_op op_add (pe_op op_mul (pv 5) (pv 5)) (pe_op op_mul pe_int (pe_op op_add (pv 6) pe_int))) pe_int) pa_nil)) pe_int))
        (pss_cons (ps_set (i := 5) sc_u_law_draws.nd rfl (Or.inl rfl) (pe_op op_mod (pe_callTy call_int1 (by rfl) T.z_int (by decide +kernel) (pa_cons (pe_op op_add (pe_op op_mul (pv 5) (pv 5)) (pe_op op_fdiv (pv 5) pe_int)) pa_nil)) pe_int))
        (pss_one (ps_expr (pe_bm PySem.F.plainAttrs_list PySem.F.slot_list_append PySem.F.type_list_append mt_append (pv 3) (pa_cons (pe_op op_mod (pe_callTy call_int1 (by rfl) T.z_int (by decide +kernel) (pa_cons (pe_op op_fdiv (pv 5) pe_int) pa_nil)) (pe_ix ix_lK (pv 2) (pv 6) (fun _ _ => rfl))) pa_nil)))))))))
        (pss_one (ps_ret (pv 3))))))), ?_⟩
    refine ⟨Nat.zero_le _, fun p hp => ?_⟩
    refine ⟨_, rfl, _, _, rfl, rfl, ⟨by decide, by decide, by decide⟩, _, _, rfl, rfl, ?_⟩
    refine ⟨_, rfl, _, rfl, _, _, rfl, rfl, .inl ⟨by decide, by decide⟩, _, _, rfl, rfl, ?_⟩
    have e10 : ((10 : Int) ^ (18 : Int).toNat) = 1000000000000000000 := by decide
    have hS1 : SqL K (upd H p (.lst [])) m (ms.map V.int) := ex_l (Ex.new hp) hS
    refine ⟨_, rfl, .ref m, _, rfl, .inl ⟨_, hS1, rfl⟩, _, rfl, by omega, by rw [List.length_map]; omega, ?_⟩
    refine for_range (lo := 0) (n := ((ms.map V.int).length : Int).toNat) (fun i σ H' => ∃ (ds : List Int) (rest mixed : Int) (kv : Option V), σ = [some (.int c), some (.int sa), some (.ref m), some (.ref p), some (.int rest), some (.int mixed), kv] ∧ Ex H H' ∧
        H' p = some (.lst (ds.map V.int)) ∧ Drawn (ms.take i) ds ∧ (0 ≤ rest ∨ (-18446744073709551616 < mixed ∧ mixed < 18446744073709551616))) ?_ ?_ ?_
    · refine ⟨[], _, _, none, rfl, Ex.new hp, upd_same, ⟨by simp, fun i x h => by simp at h⟩, ?_⟩
      rw [e10]
      omega
    · rintro i σ H' hi ⟨ds, rest, mixed, kv, rfl, ex, hH, hD, hr0⟩
      have hi' : i < ms.length := by simpa using hi
      obtain ⟨mi, hmi⟩ : ∃ mi, ms[i]? = some mi := ⟨ms[i], List.getElem?_eq_getElem hi'⟩
      have hmm := hm mi (List.mem_of_getElem? hmi)
      have hSi : SqL K H' m (ms.map V.int) := ex_l ex hS
      have hat : atI (ms.map V.int) (0 + (i : Int)) = some (.int mi) := by
        rw [Int.zero_add]
        refine atI_nat ?_
        rw [List.getElem?_map, hmi]
        rfl
      have hdl : ds.length ≤ 64 := by
        have := hD.1
        rw [List.length_take] at this
        omega
      have hsz : (ds.map V.int).length < sizeLine := by
        rw [List.length_map]
        exact Nat.lt_of_le_of_lt hdl (by decide)
      have e0 : (0 : Int) + (i : Int) = (i : Int) := Int.zero_add _
      refine ⟨_, rfl, _, _, rfl, rfl, _, rfl, way (fun hr => ?_) (fun hr => ?_)⟩
      · refine ⟨_, rfl, .inl ⟨rfl, _, SqL.of hH⟩, _, rfl, .inl ⟨rest, rfl, _, rfl, _, rfl, m, _, _, .int mi, rfl, rfl, hSi, hat, _, _, rfl, rfl, (by show (0 : Int) < mi; omega), p, _, _, rfl, rfl, hH, hsz, ?_⟩⟩
        have ex2 : Ex H (upd H' p (.lst (ds.map V.int ++ [.int (rest % mi)]))) := Ex.mut ex hp
        refine ⟨_, rfl, _, rfl, _, rfl, m, _, _, .int mi, rfl, rfl, ex_l ex2 hS, hat, _, _, rfl, rfl, wide_div (by omega) hmm.2 (by decide) (by decide), ?_⟩
        refine ⟨ds ++ [rest % mi], rest / mi, mixed, _, rfl, ex2, ?_, drawn_more hD hmi (Int.emod_nonneg _ (by omega)) (Int.emod_lt_of_pos _ (by omega)), .inl (Int.ediv_nonneg hr (by omega))⟩
        rw [upd_same, List.map_append]
        rfl
      · have hx : -18446744073709551616 < mixed ∧ mixed < 18446744073709551616 := by omega
        refine ⟨_, rfl, _, rfl, _, _, rfl, rfl, .inl ⟨hx.1, hx.2⟩, _, rfl, _, _, rfl, rfl, _, _, rfl, rfl, .inl ⟨by decide, by decide⟩, _, _, rfl, rfl, _, _, rfl, rfl, .inl ⟨_, rfl, _, _, rfl, rfl, (by show (0 : Int) < 2147483399; decide), ?_⟩⟩
        have b1 : ∀ z : Int, 0 ≤ z % 2147483399 ∧ z % 2147483399 < 2147483399 := fun z => ⟨Int.emod_nonneg _ (by decide), Int.emod_lt_of_pos _ (by decide)⟩
        have b2 : ∀ z : Int, 0 ≤ z % 2147483629 ∧ z % 2147483629 < 2147483629 := fun z => ⟨Int.emod_nonneg _ (by decide), Int.emod_lt_of_pos _ (by decide)⟩
        refine ⟨_, rfl, _, rfl, _, _, rfl, rfl, .inl ⟨Int.lt_of_lt_of_le (by decide) (b1 _).1, Int.lt_trans (b1 _).2 (by decide)⟩, _, rfl, _, _, rfl, rfl, ⟨by decide, by decide⟩, _, _, rfl, rfl, .inl ⟨_, rfl, _, _, rfl, rfl, (by show (0 : Int) < 2147483629; decide), ?_⟩⟩
        refine ⟨_, rfl, .inl ⟨rfl, _, SqL.of hH⟩, _, rfl, _, _, rfl, rfl, ⟨by decide, by decide⟩, .inl ⟨_, rfl, _, rfl, _, rfl, m, _, _, .int mi, rfl, rfl, hSi, hat, _, _, rfl, rfl, (by show (0 : Int) < mi; omega), p, _, _, rfl, rfl, hH, hsz, ?_⟩⟩
        refine ⟨ds ++ [((((mixed * mixed + 3571 * (0 + (i : Int) + 1) + 40692) % 2147483399) * ((mixed * mixed + 3571 * (0 + (i : Int) + 1) + 40692) % 2147483399) + ((mixed * mixed + 3571 * (0 + (i : Int) + 1) + 40692) % 2147483399) / 97) % 2147483629) / 8 % mi], rest, _, _, rfl, Ex.mut ex hp, ?_, drawn_more hD hmi (Int.emod_nonneg _ (by omega)) (Int.emod_lt_of_pos _ (by omega)), .inr ⟨Int.lt_of_lt_of_le (by decide) (b2 _).1, Int.lt_trans (b2 _).2 (by decide)⟩⟩
        rw [upd_same, List.map_append]
        rfl
    · rintro σ H' ⟨ds, rest, mixed, kv, rfl, ex, hH, hD, _⟩
      refine ⟨_, rfl, k p H' ds hp ex hH ?_⟩
      have e : ((ms.map V.int).length : Int).toNat = ms.length := by simp
      rw [e, List.take_length] at hD
      exact hD

def spGcd : Sp := fun vs H Q _ => ∃ a b : Int, vs = [.int a, .int b] ∧ ∀ H', Ex H H' → Q (.int ((Nat.gcd a.natAbs b.natAbs : Nat) : Int)) H'
theorem ev_abs {σ : L2.St} {H : Hp} {te : TE} {z : Int} (h : Ev te σ H (.int z)) : Ev (tCB (fun xs H Q => ∃ i, xs = [V.int i] ∧ Q (V.int (if i < 0 then -i else i)) H) (tCons te tNil)) σ H (.int (z.natAbs : Int)) :=
  ev_is (ev_cb (ea_cons h ea_nil) fun H1 _ _ q => ⟨z, rfl, q H1 (Ex.refl H1)⟩) (by congr 1; split <;> omega)
theorem ev_lawGcd {E : XK} {σ : L2.St} {H : Hp} {ta tb : TE} {a b : Int} (ha : Ev ta σ H (.int a)) (hb : Ev tb σ H (.int b)) : Ev (tCall spGcd [] E (tCons ta (tCons tb tNil))) σ H (.int ((Nat.gcd a.natAbs b.natAbs : Nat) : Int)) :=
  ev_call (ea_cons ha (ea_cons hb ea_nil)) fun H1 e Q q E => ⟨a, b, rfl, fun H' e' => q H' e'⟩
theorem ok_u_law_gcd (T : Txt K mg A) : FnOk P w K mg base CX0 1 A.f_u_law_gcd A.d_u_law_gcd (["a", "b"] : List Str) spGcd := by
  refine T.F_u_law_gcd.ok sc_u_law_gcd (fun vs H Q E h => ?_) (fun cdv Ar outer s H vs Q E hr h => ?_)
  · obtain ⟨a, b, rfl, _⟩ := h
    rfl
  · obtain ⟨a, b, rfl, k⟩ := h
    refine ⟨_, (pss_cons (ps_set (i := 0) sc_u_law_gcd.nd rfl (Or.inl rfl) (pe_callB call_abs (by rfl) T.z_abs (by decide +kernel) (pa_cons (pv 0) pa_nil)))
        (pss_cons (ps_set (i := 1) sc_u_law_gcd.nd rfl (Or.inl rfl) (pe_callB call_abs (by rfl) T.z_abs (by decide +kernel) (pa_cons (pv 1) pa_nil)))
        (pss_cons (ps_while PassesOwn.never (pt_cmpR op_gt (pv 1) pe_int (nomark _)) (pss_one (ps_par (i := 0) (j := 1) (by rfl) sc_u_law_gcd.nd rfl rfl (by decide) rfl rfl (pa_cons (pv 1) (pa_cons (pe_op op_mod (pe_callTy call_int1 (by rfl) T.z_int (by decide +kernel) (pa_cons (pv 0) pa_nil)) (pv 1)) pa_nil)) (by rfl))))
        (pss_one (ps_ret (pv 0)))))), ?_⟩
    try dsimp only
    refine q_asg (v := .int (a.natAbs : Int)) (ev_abs (ev_var (i := 0) rfl)) fun H1 e1 => ?_
    try dsimp only
    refine q_asg (v := .int (b.natAbs : Int)) (ev_abs (ev_var (i := 1) rfl)) fun H2 e2 => ?_
    replace e2 := e1.trans e2
    try dsimp only
    refine q_while (fun m σ' H' => ∃ x y : Nat, σ' = [some (.int (x : Int)), some (.int (y : Int))] ∧ Ex H H' ∧ Nat.gcd x y = Nat.gcd a.natAbs b.natAbs ∧ m = y) b.natAbs ⟨a.natAbs, b.natAbs, rfl, e2, rfl, rfl⟩ ?_
    rintro m σ' H' ⟨x, y, rfl, e, hg, rfl⟩
    refine ⟨decide ((0 : Int) < (m : Int)), et_test (ev_op (ev_var (i := 1) rfl) ev_c rv_I0), fun hb H3 e3 => ?_, fun hb H3 e3 => ?_⟩
    · have hm : 0 < m := by have := of_decide_eq_true hb; omega
      refine ⟨fun σ2 H4 => σ2 = [some (.int (m : Int)), some (.int ((x % m : Nat) : Int))] ∧ Ex H H4, fun σ2 H4 h => ⟨x % m, Nat.mod_lt _ hm, m, x % m, h.1, h.2, ?_, rfl⟩, ?_⟩
      · rw [← hg, Nat.gcd_comm, ← Nat.gcd_rec, Nat.gcd_comm]
      · refine ea_cons (ev_var (i := 1) rfl) (ea_cons (ev_op (ev_int (ev_var (i := 0) rfl)) (ev_var (i := 1) rfl) (rv_I (by omega))) ea_nil) H3 (Ex.refl _) _ fun H4 e4 => ⟨_, _, rfl, ?_, e.trans (e3.trans e4)⟩
        rw [Int.natCast_emod]
        rfl
    · have hm : m = 0 := by have := of_decide_eq_false hb; omega
      subst hm
      rw [Nat.gcd_zero_right] at hg
      refine s_ret (v := .int (x : Int)) (ev_var (i := 0) rfl) fun H4 e4 => ?_
      rw [hg]
      exact k H4 (e.trans (e3.trans e4))

theorem isi {K : PySem.W.Frag} {H : Hp} {x : V} {t n : String} {b : Bool} {Q : VK} (ty : TyX K H x (.type t)) (h : kitB t n = some b) (q : Q (.bl b) H) : rIsi K [x, .ty n] H Q := ⟨x, .ty n, _, _, b, rfl, .ty n, ty, kit_ty h, q⟩
def sp_is_int (K : PySem.W.Frag) : Sp := fun vs H Q _ => ∃ i : Int, vs = [.int i] ∧ Q (.bl true) H
theorem ok_u_law_is_int (T : Txt K mg A) : FnOk P w K mg base CX0 1 A.f_u_law_is_int A.d_u_law_is_int (["x"] : List Str) (sp_is_int K) := by
  refine T.F_u_law_is_int.ok sc_u_law_is_int (fun vs H Q E h => ?_) (fun cdv Ar outer s H vs Q E hr h => ?_)
  · obtain ⟨i, rfl, _⟩ := h
    rfl
  · obtain ⟨i, rfl, q⟩ := h
    refine ⟨_, (pss_one (ps_ret (pe_and (pe_callB isi_K (by rfl) T.z_isinstance (by decide +kernel) (pa_cons (pv 0) (pa_cons (pe_bltn (v := .ty "int") (by rfl) T.z_int (by decide +kernel) rfl) pa_nil))) (pe_one (pe_not (pe_callB isi_K (by rfl) T.z_isinstance (by decide +kernel) (pa_cons (pv 0) (pa_cons (pe_bltn (v := .ty "bool") (by rfl) T.z_bool (by decide +kernel) rfl) pa_nil)))))))), ?_⟩
    refine ⟨_, rfl, _, _, _, _, true, rfl, .ty _, .base (.int i), kit_ty (by decide +kernel), ⟨_, rfl, iteT ?_⟩⟩
    exact ⟨_, rfl, _, _, _, _, false, rfl, .ty _, .base (.int i), kit_ty (by decide +kernel), ⟨_, rfl, q⟩⟩
/-- like data are told alike -/
def sp_same (K : PySem.W.Frag) (n : Nat) : Sp := fun vs H Q _ => ∃ (x y : V) (d : PyData), vs = [x, y] ∧ Dp K H x d ∧ Dp K H y d ∧ Flat n d ∧ Q (.bl true) H
theorem same_loop {K : PySem.W.Frag} {H : Hp} {n k : Nat} {xs ys : List V} {ds : List PyData} {x y : V} {kv : Option V} {Q : VK} {N : L2.St → Hp → Prop} {tb : TS} (hk : k = ds.length) (hx : DpAll K H xs ds) (hy : DpAll K H ys ds) (hf : ∀ d ∈ ds, Flat n d) (hl : ds.length ≤ 40000)
    (hb : ∀ (i : Nat) (u v : V) (d : PyData) (kv : Option V) (D : Ends), i < ds.length → xs[i]? = some u → ys[i]? = some v → Dp K H u d → Dp K H v d → Flat n d → D.nx [some x, some y, some (.int (i : Int))] H → tb D ([some x, some y, kv].set 2 (some (.int (i : Int)))) H)
    (hq : ∀ kv, N [some x, some y, kv] H) :
    ∃ W : Nat → Nat → L2.St → Hp → Prop, (∃ m, W 0 m [some x, some y, kv] H) ∧ ∀ i m σ H, W i m σ H →
      ((Itr 0 k).stop i H ∧ N σ H) ∨ ((Itr 0 k).go i H ∧ ∃ N' : L2.St → Hp → Prop, (∀ σ' H', N' σ' H' → ∃ m', m' < m ∧ W (i + 1) m' σ' H') ∧ ∀ z H', (Itr 0 k).yld i H z H' → gName 2 z σ H' fun σ2 H2 => tb { nx := N', ct := N', bk := N, rt := Q } σ2 H2) := by
  subst hk
  refine for_range (D := { nx := N, rt := Q }) (fun i σ H' => H' = H ∧ ∃ kv, σ = [some x, some y, kv]) ⟨rfl, _, rfl⟩ ?_ ?_
  · rintro i σ H' hi ⟨rfl, kv, rfl⟩
    obtain ⟨_, gx⟩ := dp_get hx
    obtain ⟨_, gy⟩ := dp_get hy
    have ed := List.getElem?_eq_getElem hi
    obtain ⟨u, eu, du⟩ := gx i _ ed
    obtain ⟨v, ev, dv⟩ := gy i _ ed
    show tb _ ([some x, some y, kv].set 2 (some (.int (0 + (i : Int))))) H'
    rw [Int.zero_add]
    exact hb i u v _ kv _ hi eu ev du dv (hf _ (List.getElem_mem hi)) ⟨rfl, _, rfl⟩
  · rintro σ H' ⟨rfl, kv, rfl⟩
    exact hq kv
theorem ok_u_law_same_n (T : Txt K mg A) : ∀ n, FnOk P w K mg base CX0 (n + 2) A.f_u_law_same A.d_u_law_same (["got", "due"] : List Str) (sp_same K n) := by
  intro n
  induction n with
  | zero => exact ⟨fun vs H Q E h => by obtain ⟨x, y, d, rfl, _⟩ := h; rfl, fun Ar outer s H args us vs Q E _ _ _ _ h => by obtain ⟨x, y, d, _, _, _, hf, _⟩ := h; exact hf.elim⟩
  | succ n ih =>
    refine T.F_u_law_same.ok sc_u_law_same (fun vs H Q E h => ?_) (fun cdv Ar outer s H vs Q E hr h => ?_)
    · obtain ⟨x, y, d, rfl, _⟩ := h
      rfl
    · obtain ⟨x, y, d, rfl, hx, hy, hf, q⟩ := h
      have ihx := ih
      refine ⟨_, (pss_cons (ps_if (pt_cmpR op_isN (pv 1) pe_non (nomark _)) (pss_one (ps_ret (pe_cmpR op_isN (pv 0) pe_non (nomark _)))) pss_nil)
        (pss_cons (ps_if (pt_cmpR op_isK (pv 1) pe_bl (nomark _)) (pss_one (ps_ret (pe_cmpR op_isK (pv 0) pe_bl (nomark _)))) pss_nil)
        (pss_cons (ps_if (pt_cmpR op_isK (pv 1) pe_bl (nomark _)) (pss_one (ps_ret (pe_cmpR op_isK (pv 0) pe_bl (nomark _)))) pss_nil)
        (pss_cons (ps_if (pt_val (pe_callB isi_K (by rfl) T.z_isinstance (by decide +kernel) (pa_cons (pv 1) (pa_cons (pe_bltn (v := .ty "int") (by rfl) T.z_int (by decide +kernel) rfl) pa_nil)))) (pss_one (ps_ret (pe_and (pe_call (ok_u_law_is_int T) (hr.mono (by omega)) rfl T.g_u_law_is_int T.k_u_law_is_int (b_u_law_is_int T) .nil pass0 (pa_cons (pv 0) pa_nil)) (pe_one (pe_cmpR op_eq (pv 0) (pv 1) (nomark _)))))) pss_nil)
        (pss_cons (ps_if (pt_val (pe_callB isi_K (by rfl) T.z_isinstance (by decide +kernel) (pa_cons (pv 1) (pa_cons (pe_bltn (v := .ty "str") (by rfl) T.z_str (by decide +kernel) rfl) pa_nil)))) (pss_one (ps_ret (pe_and (pe_callB isi_K (by rfl) T.z_isinstance (by decide +kernel) (pa_cons (pv 0) (pa_cons (pe_bltn (v := .ty "str") (by rfl) T.z_str (by decide +kernel) rfl) pa_nil))) (pe_one (pe_cmpR op_eq (pv 0) (pv 1) (nomark _)))))) pss_nil)
        (pss_cons (ps_if (pt_val (pe_callB isi_K (by rfl) T.z_isinstance (by decide +kernel) (pa_cons (pv 1) (pa_cons (pe_bltn (v := .ty "tuple") (by rfl) T.z_tuple (by decide +kernel) rfl) pa_nil)))) (pss_one (ps_if (PW.pt (pw_or (pt_not (pt_val (pe_callB isi_K (by rfl) T.z_isinstance (by decide +kernel) (pa_cons (pv 0) (pa_cons (pe_bltn (v := .ty "tuple") (by rfl) T.z_tuple (by decide +kernel) rfl) pa_nil))))) (pw_or1 (pt_cmpR op_ne (pe_callB len_K (by rfl) T.z_len (by decide +kernel) (pa_cons (pv 0) pa_nil)) (pe_callB len_K (by rfl) T.z_len (by decide +kernel) (pa_cons (pv 1) pa_nil)) (nomark _))))) (pss_one (ps_ret pe_bl)) pss_nil)) (pss_one (ps_if (PW.pt (pw_or (pt_not (pt_val (pe_callB isi_K (by rfl) T.z_isinstance (by decide +kernel) (pa_cons (pv 0) (pa_cons (pe_bltn (v := .ty "list") (by rfl) T.z_list (by decide +kernel) rfl) pa_nil))))) (pw_or1 (pt_cmpR op_ne (pe_callB len_K (by rfl) T.z_len (by decide +kernel) (pa_cons (pv 0) pa_nil)) (pe_callB len_K (by rfl) T.z_len (by decide +kernel) (pa_cons (pv 1) pa_nil)) (nomark _))))) (pss_one (ps_ret pe_bl)) pss_nil)))
        (pss_cons (ps_for PassesOwn.never rfl (pi_range1 rfl T.z_range (pa_cons (pe_callB len_K (by rfl) T.z_len (by decide +kernel) (pa_cons (pv 1) pa_nil)) pa_nil)) (pg_name (i := 2) sc_u_law_same.nd rfl (Or.inl rfl)) (pss_one (ps_if (pt_not (pt_val (pe_call ih (hr.mono (by omega)) rfl T.g_u_law_same T.k_u_law_same (b_u_law_same T) .nil pass0 (pa_cons (pe_ix ix_sK (pv 0) (pv 2) (fun _ _ => rfl)) (pa_cons (pe_ix ix_sK (pv 1) (pv 2) (fun _ _ => rfl)) pa_nil))))) (pss_one (ps_ret pe_bl)) pss_nil)))
        (pss_one (ps_ret pe_bl))))))))), ?_⟩
      cases hx with
      | non => cases hy; exact ⟨_, rfl, rfl, _, rfl, wayT rfl ⟨_, rfl, rfl, q⟩⟩
      | bl b =>
        cases hy
        refine ⟨_, rfl, rfl, _, rfl, wayF (fun z => by cases z) ?_⟩
        cases b with
        | true => exact ⟨_, rfl, _, rfl, _, rfl, wayT rfl ⟨_, rfl, _, rfl, q⟩⟩
        | false => exact ⟨_, rfl, _, rfl, _, rfl, wayF (fun z => by cases z) ⟨_, rfl, _, rfl, _, rfl, wayT rfl ⟨_, rfl, _, rfl, q⟩⟩⟩
      | int i =>
        cases hy
        refine ⟨_, rfl, rfl, _, rfl, wayF (fun z => by cases z) ⟨_, rfl, _, rfl, _, rfl, wayF (fun z => by cases z) ⟨_, rfl, _, rfl, _, rfl, wayF (fun z => by cases z) ?_⟩⟩⟩
        refine ⟨_, rfl, _, _, _, _, true, rfl, .ty _, .base (.int i), kit_ty (by decide +kernel), ⟨_, rfl, iteT ?_⟩⟩
        refine ⟨_, rfl, i, rfl, _, rfl, iteT ?_⟩
        refine ⟨_, rfl, _, rfl, rfl, ?_⟩
        rw [decide_eq_true rfl]
        exact q
      | str z =>
        cases hy
        refine ⟨_, rfl, rfl, _, rfl, wayF (fun z => by cases z) ⟨_, rfl, _, rfl, _, rfl, wayF (fun z => by cases z) ⟨_, rfl, _, rfl, _, rfl, wayF (fun z => by cases z) ?_⟩⟩⟩
        refine ⟨_, rfl, _, _, _, _, false, rfl, .ty _, .base (.str z), kit_ty (by decide +kernel), ⟨_, rfl, iteF ?_⟩⟩
        refine ⟨_, rfl, _, _, _, _, true, rfl, .ty _, .base (.str z), kit_ty (by decide +kernel), ⟨_, rfl, iteT ?_⟩⟩
        refine ⟨_, rfl, _, _, _, _, true, rfl, .ty _, .base (.str z), kit_ty (by decide +kernel), ⟨_, rfl, iteT ?_⟩⟩
        refine ⟨_, rfl, _, rfl, rfl, ?_⟩
        rw [decide_eq_true rfl]
        exact q
      | lst sx ax =>
        cases hy with
        | lst sy ay =>
          refine ⟨_, rfl, rfl, _, rfl, wayF (fun z => by cases z) ⟨_, rfl, _, rfl, _, rfl, wayF (fun z => by cases z) ⟨_, rfl, _, rfl, _, rfl, wayF (fun z => by cases z) ?_⟩⟩⟩
          refine ⟨_, rfl, _, _, _, _, false, rfl, .ty _, tyx_l sy, kit_ty (by decide +kernel), ⟨_, rfl, iteF ?_⟩⟩
          refine ⟨_, rfl, _, _, _, _, false, rfl, .ty _, tyx_l sy, kit_ty (by decide +kernel), ⟨_, rfl, iteF ?_⟩⟩
          refine ⟨_, rfl, _, _, _, _, false, rfl, .ty _, tyx_l sy, kit_ty (by decide +kernel), ⟨_, rfl, iteF ?_⟩⟩
          refine ⟨_, rfl, _, _, _, _, true, rfl, .ty _, tyx_l sx, kit_ty (by decide +kernel), ⟨_, rfl, iteF ?_⟩⟩
          have lx := (dp_get ax).1
          have ly := (dp_get ay).1
          refine ⟨_, rfl, _, _, rfl, .inl ⟨_, sx, rfl⟩, _, rfl, _, _, rfl, .inl ⟨_, sy, rfl⟩, rfl, _, rfl, wayNT (by rw [lx, ly]) ?_⟩
          have h40 := hf.1
          refine ⟨_, rfl, _, _, rfl, .inl ⟨_, sy, rfl⟩, _, rfl, by omega, by omega, same_loop (by omega) ax ay hf.2 hf.1 (fun i u v d kv D hi eu ev du dv fd hn => ?_) (fun kv => q)⟩
          refine ⟨_, rfl, _, rfl, .inl ⟨_, _, _, u, rfl, rfl, sx, atI_nat eu, ?_⟩⟩
          refine ⟨_, rfl, _, rfl, .inl ⟨_, _, _, v, rfl, rfl, sy, atI_nat ev, ?_⟩⟩
          exact ⟨u, v, d, rfl, du, dv, fd, _, rfl, iteF hn⟩
      | tup sx ax =>
        cases hy with
        | tup sy ay =>
          refine ⟨_, rfl, rfl, _, rfl, wayF (fun z => by cases z) ⟨_, rfl, _, rfl, _, rfl, wayF (fun z => by cases z) ⟨_, rfl, _, rfl, _, rfl, wayF (fun z => by cases z) ?_⟩⟩⟩
          refine ⟨_, rfl, _, _, _, _, false, rfl, .ty _, tyx_t sy, kit_ty (by decide +kernel), ⟨_, rfl, iteF ?_⟩⟩
          refine ⟨_, rfl, _, _, _, _, false, rfl, .ty _, tyx_t sy, kit_ty (by decide +kernel), ⟨_, rfl, iteF ?_⟩⟩
          refine ⟨_, rfl, _, _, _, _, true, rfl, .ty _, tyx_t sy, kit_ty (by decide +kernel), ⟨_, rfl, iteT ?_⟩⟩
          refine ⟨_, rfl, _, _, _, _, true, rfl, .ty _, tyx_t sx, kit_ty (by decide +kernel), ⟨_, rfl, iteF ?_⟩⟩
          have lx := (dp_get ax).1
          have ly := (dp_get ay).1
          refine ⟨_, rfl, _, _, rfl, .inr ⟨_, sx, rfl⟩, _, rfl, _, _, rfl, .inr ⟨_, sy, rfl⟩, rfl, _, rfl, wayNT (by rw [lx, ly]) ?_⟩
          have h40 := hf.1
          refine ⟨_, rfl, _, _, rfl, .inr ⟨_, sy, rfl⟩, _, rfl, by omega, by omega, same_loop (by omega) ax ay hf.2 hf.1 (fun i u v d kv D hi eu ev du dv fd hn => ?_) (fun kv => q)⟩
          refine ⟨_, rfl, _, rfl, .inr (.inl ⟨_, _, _, u, rfl, rfl, sx, atI_nat eu, ?_⟩)⟩
          refine ⟨_, rfl, _, rfl, .inr (.inl ⟨_, _, _, v, rfl, rfl, sy, atI_nat ev, ?_⟩)⟩
          exact ⟨u, v, d, rfl, du, dv, fd, _, rfl, iteF hn⟩
theorem ok_u_law_same (T : Txt K mg A) : FnOk P w K mg base CX0 6 A.f_u_law_same A.d_u_law_same (["got", "due"] : List Str) (sp_same K 4) := ok_u_law_same_n T 4

/-! ### data told twice -/
theorem ed_ev {K : PySem.W.Frag} {σ : L2.St} {H : Hp} {te : TE} {v : V} {d : PyData} (h : Ev te σ H v) (hd : ∀ H1, Ex H H1 → Dp K H1 v d) : EvR te σ H fun v H1 => Dp K H1 v d := er_ev h hd
theorem ed_int {K : PySem.W.Frag} {σ : L2.St} {H : Hp} {te : TE} {z : Int} (h : Ev te σ H (.int z)) : EvR te σ H fun v H1 => Dp K H1 v (.int z) := er_ev h fun _ _ => .int z
theorem ed_bl {K : PySem.W.Frag} {σ : L2.St} {H : Hp} {te : TE} {z : Bool} (h : Ev te σ H (.bl z)) : EvR te σ H fun v H1 => Dp K H1 v (.bool z) := er_ev h fun _ _ => .bl z
theorem ed_str {K : PySem.W.Frag} {σ : L2.St} {H : Hp} {te : TE} {z : Str} (h : Ev te σ H (.str z)) : EvR te σ H fun v H1 => Dp K H1 v (.str z) := er_ev h fun _ _ => .str z
theorem ed_L {K : PySem.W.Frag} {σ : L2.St} {H : Hp} {te : TE} {xs : List Int} (h : EvL te σ H (xs.map V.int)) : EvR te σ H fun v H1 => Dp K H1 v (.list (xs.map .int)) := (er_L h).imp fun v H1 q => by
  obtain ⟨p, rfl, hp⟩ := q
  exact .lst (sq_of hp) (dp_ints _)
theorem ed_held {K : PySem.W.Frag} {σ : L2.St} {H : Hp} {i : Nat} {p : Addr} {xs : List Int} (h : σ[i]? = some (some (.ref p))) (hp : SqL K H p (xs.map V.int)) : EvR (tVar i) σ H fun v H1 => Dp K H1 v (.list (xs.map .int)) := er_ev (ev_var h) fun H1 e => .lst (ex_l e hp) (dp_ints _)
def EvDs (K : PySem.W.Frag) (ta : TA) (σ : L2.St) (H : Hp) (ds : List PyData) : Prop := ∀ H1, Ex H H1 → ∀ Q : List V → Hp → Prop, (∀ vs H2, Ex H1 H2 → DpAll K H2 vs ds → Q vs H2) → ta σ H1 Q
theorem eds_nil {K : PySem.W.Frag} {σ : L2.St} {H : Hp} : EvDs K tNil σ H [] := fun H1 _ Q q => q [] H1 (Ex.refl H1) .nil
theorem eds_cons {K : PySem.W.Frag} {σ : L2.St} {H : Hp} {te : TE} {ta : TA} {d : PyData} {ds : List PyData} (h : EvR te σ H fun v H1 => Dp K H1 v d) (r : EvDs K ta σ H ds) : EvDs K (tCons te ta) σ H (d :: ds) := fun H1 e Q q =>
  h H1 e _ fun v H2 e2 hv => r H2 (e.trans e2) _ fun vs H3 e3 hs => q (v :: vs) H3 (e2.trans e3) (.cons (dp_ex e3 hv) hs)
theorem ed_tup {K : PySem.W.Frag} {σ : L2.St} {H : Hp} {ta : TA} {ds : List PyData} (h : EvDs K ta σ H ds) (hl : ds.length ≤ 1000) : EvR (tTup ta) σ H fun v H1 => Dp K H1 v (.tuple ds) := fun H1 e Q q =>
  h H1 e _ fun vs H2 e2 hs => by
    have l := (dp_get hs).1
    exact ⟨by rw [l]; exact Nat.le_trans hl (by decide), fun p hp => q _ _ (e2.trans (Ex.new hp)) (.tup (st_of upd_same) (dpa_ex (Ex.new hp) hs))⟩
theorem ed_lst {K : PySem.W.Frag} {σ : L2.St} {H : Hp} {ta : TA} {ds : List PyData} (h : EvDs K ta σ H ds) (hl : ds.length ≤ 1000) : EvR (tLst ta) σ H fun v H1 => Dp K H1 v (.list ds) := fun H1 e Q q =>
  h H1 e _ fun vs H2 e2 hs => by
    have l := (dp_get hs).1
    exact ⟨by rw [l]; exact Nat.le_trans hl (by decide), fun p hp => q _ _ (e2.trans (Ex.new hp)) (.lst (sq_of upd_same) (dpa_ex (Ex.new hp) hs))⟩
theorem ev_same {K : PySem.W.Frag} {E : XK} {σ : L2.St} {H : Hp} {ta tb : TE} {d : PyData} (ha : EvR ta σ H fun v H1 => Dp K H1 v d) (hb : EvR tb σ H fun v H1 => Dp K H1 v d) (hf : Flat 4 d) : Ev (tCall (sp_same K 4) [] E (tCons ta (tCons tb tNil))) σ H (.bl true) := fun H1 e Q q =>
  ha H1 e _ fun v H2 e2 hv => hb H2 (e.trans e2) _ fun w H3 e3 hw => ⟨v, w, d, rfl, dp_ex e3 hv, hw, hf, q H3 (e2.trans e3)⟩
theorem dp_rows {K : PySem.W.Frag} {H : Hp} : ∀ (vs : List V) (xss : List (List Int)), vs.length = xss.length → (∀ (i : Nat) v, vs[i]? = some v → ∃ p, v = .ref p ∧ SqL K H p ((xss.getD i []).map V.int)) → DpAll K H vs (xss.map fun xs => .list (xs.map .int))
  | [], [], _, _ => .nil
  | v :: vs, xs :: xss, hl, h => by
    obtain ⟨p, rfl, hp⟩ := h 0 v rfl
    exact .cons (.lst hp (dp_ints _)) (dp_rows vs xss (by simpa using hl) fun i u hu => h (i + 1) u hu)
theorem flat_rows {xss : List (List Int)} (h : xss.length ≤ 400) (hx : ∀ xs ∈ xss, xs.length ≤ 360) : Flat 4 (.list (xss.map fun xs => .list (xs.map .int))) :=
  ⟨by rw [List.length_map]; omega, fun d hd => by
    obtain ⟨xs, hm, rfl⟩ := List.mem_map.mp hd
    exact ⟨by rw [List.length_map]; have := hx xs hm; omega, fun d hd => by
      obtain ⟨i, _, rfl⟩ := List.mem_map.mp hd
      exact True.intro⟩⟩
/-- lists of ints within a list -/
structure Rows (K : PySem.W.Frag) (H : Hp) (a : Addr) (xss : List (List Int)) : Prop where
  all : ∃ vs : List V, SqL K H a vs ∧ vs.length = xss.length ∧ ∀ (i : Nat) v, vs[i]? = some v → ∃ p, v = .ref p ∧ SqL K H p ((xss.getD i []).map V.int)
theorem Rows.ex {K : PySem.W.Frag} {H H' : Hp} {a : Addr} {xss : List (List Int)} (e : Ex H H') (h : Rows K H a xss) : Rows K H' a xss := by
  obtain ⟨vs, h1, h2, h3⟩ := h.all
  exact ⟨vs, ex_l e h1, h2, fun i v hv => (h3 i v hv).imp fun p h => ⟨h.1, ex_l e h.2⟩⟩
theorem Rows.dp {K : PySem.W.Frag} {H : Hp} {a : Addr} {xss : List (List Int)} (h : Rows K H a xss) : Dp K H (.ref a) (.list (xss.map fun xs => .list (xs.map .int))) := by
  obtain ⟨vs, h1, h2, h3⟩ := h.all
  exact .lst h1 (dp_rows vs xss h2 h3)
theorem ed_rows {K : PySem.W.Frag} {σ : L2.St} {H : Hp} {i : Nat} {p : Addr} {xss : List (List Int)} (h : σ[i]? = some (some (.ref p))) (hp : Rows K H p xss) : EvR (tVar i) σ H fun v H1 => Dp K H1 v (.list (xss.map fun xs => .list (xs.map .int))) := er_ev (ev_var h) fun H1 e => (hp.ex e).dp

def spWeight (A : Ads) : Sp := fun vs H Q _ => ∃ (t U : Int) (k : Nat), vs = [.int t, .int U, .int (k : Int)] ∧ 0 < U ∧ U.natAbs < 2 ^ 400 ∧ ∀ v H', Ex H H' → NewP (fun G => IsW A v G t U) H H' → Q v H' 
theorem ok_u_law_weight (T : Txt K mg A) : FnOk P w K mg base CX0 7 A.f_u_law_weight A.d_u_law_weight (["top", "under", "at"] : List Str) (spWeight A) := by
  refine T.F_u_law_weight.ok sc_u_law_weight (fun vs H Q E h => ?_) (fun cdv Ar outer s H vs Q E hr h => ?_)
  · obtain ⟨t, U, n, rfl, _⟩ := h
    rfl
  · obtain ⟨t, U, n, rfl, hU, bU, k⟩ := h
    refine ⟨_, (pss_cons (ps_if (PW.pt (pw_and (pt_cmpR op_eq (pe_op op_mod (pe_callTy call_int1 (by rfl) T.z_int (by decide +kernel) (pa_cons (pv 2) pa_nil)) pe_int) pe_int (nomark _)) (pw_and1 (pt_cmpR op_eq (pe_op op_mod (pe_callTy call_int1 (by rfl) T.z_int (by decide +kernel) (pa_cons (pv 0) pa_nil)) (pv 1)) pe_int (nomark _))))) (pss_one (ps_ret (pe_op op_fdivW (pv 0) (pv 1)))) pss_nil)
        (pss_one (ps_ret (pe_make T.mk_Ratio (ok_Ratio_init T) (hr.mono (by omega)) rfl T.g_Ratio (b_Ratio_init T) .nil passL (pa_cons (pv 0) (pa_cons (pv 1) pa_nil)))))), ?_⟩
    have hn2 : (2 : Int) > 0 := by decide
    try dsimp only
    refine q_when (b := decide ((n : Int) % 2 = 0) && decide (t % U = 0)) (et_and (et_is (et_test (ev_op (ev_op (ev_int (ev_var (i := 2) rfl)) ev_c (rv_I (show (0 : Int) < 2 by decide))) ev_c (rv_eq rfl))) dec_ii) fun _ => et_is (et_test (ev_op (ev_op (ev_int (ev_var (i := 0) rfl)) (ev_var (i := 1) rfl) (rv_I hU)) ev_c (rv_eq rfl))) dec_ii) (fun hb H1 e1 => ?_) (fun hb H1 e1 => ?_)
    · rw [Bool.and_eq_true, decide_eq_true_iff, decide_eq_true_iff] at hb
      exact s_ret (v := .int (t / U)) (ev_op (ev_var (i := 0) rfl) (ev_var (i := 1) rfl) (rv_I (wide_div hU bU (by decide) (by decide)))) fun H2 e2 => k _ H2 (e1.trans e2) fun G g => .inr ⟨t / U, rfl, (Int.ediv_mul_cancel (Int.dvd_of_emod_eq_zero hb.2)).symm⟩
    · exact en_rat (K := K) (ev_var (i := 0) rfl) (ev_var (i := 1) rfl) (by omega) (Nat.lt_of_lt_of_le bU (Nat.pow_le_pow_right (by decide) (by decide))) H1 (Ex.refl _) _ fun v H2 e2 hv => k v H2 (e1.trans e2) fun G g => .inl ((hv.out e1 (Ex.refl _)) G g)

theorem er_drawsF {K : PySem.W.Frag} {E : XK} {σ : L2.St} {H : Hp} {tc ts tm : TE} {c z : Int} {ms : List Int} (hc : Ev tc σ H (.int c)) (hs : Ev ts σ H (.int z)) (hm : EvL tm σ H (ms.map V.int)) (h0 : 0 ≤ c) (hz : -1000000 ≤ z ∧ z ≤ 1000000) (hl : ms.length ≤ 64)
    (hb : ∀ x ∈ ms, 1 ≤ x ∧ x.natAbs < 2 ^ 1000) : EvR (tCall (sp_draws K) [] E (tCons tc (tCons ts (tCons tm tNil)))) σ H fun v H1 => ∃ (p : Addr) (ds : List Int), v = .ref p ∧ H p = none ∧ H1 p = some (.lst (ds.map V.int)) ∧ Drawn ms ds := fun H1 e Q q =>
  hc H1 e _ fun H2 e2 => hs H2 (e.trans e2) _ fun H3 e3 => hm H3 ((e.trans e2).trans e3) _ fun m H4 _ e4 h4 =>
    ⟨c, z, m, ms, rfl, sq_of h4, h0, hz, hl, hb, fun p H' ds hp e' h' hD => q _ H' ((e2.trans e3).trans (e4.trans e')) ⟨p, ds, rfl, fresh_back (((e.trans e2).trans e3).trans e4) hp, h', hD⟩⟩

theorem cut_take (xs : List Int) (k : Nat) : cutV (xs.map V.int) none (some (k : Int)) = (xs.take k).map V.int := by
  unfold cutV
  rw [HT.sIx_none, HT.sIx_nat, List.drop_zero, Nat.sub_zero, ← List.map_take, List.length_map]
  congr 1
  exact List.take_eq_take_iff.mpr (by omega)
theorem cut_drop (xs : List Int) (k : Nat) : cutV (xs.map V.int) (some (k : Int)) none = (xs.drop k).map V.int := by
  unfold cutV
  rw [HT.sIx_none, HT.sIx_nat, List.length_map, ← List.map_drop, ← List.map_take]
  congr 1
  rw [List.take_of_length_le (by rw [List.length_drop]; omega)]
  by_cases h : k ≤ xs.length
  · rw [Nat.min_eq_left h]
  · rw [Nat.min_eq_right (by omega), List.drop_length, List.drop_of_length_le (by omega)]

theorem el_map {K : PySem.W.Frag} {σ : L2.St} {H : Hp} {te tl : TE} {tt : TT} {j : Nat} {vs : List Nat} {a : Addr} (xs : List Int) (p : Int → Bool) (g : Int → Int) (h : Ev tl σ H (.ref a)) (hx : SqL K H a (xs.map V.int)) (hz : xs.length ≤ 40000)
    (hw : ∀ x, wipe ((wipe σ vs).set j (some x)) vs = wipe σ vs) (ht : ∀ (x : Int) H1, Ex H H1 → x ∈ xs → EvT tt ((wipe σ vs).set j (some (.int x))) H1 (p x))
    (he : ∀ (x : Int) H1, Ex H H1 → x ∈ xs → p x = true → Ev te ((wipe σ vs).set j (some (.int x))) H1 (.int (g x))) : EvL (tLc (iList K tl) (gName j) tt te vs) σ H (((xs.filter p).map g).map V.int) := by
  have e := el_lstG (K := K) (te := te) (tl := tl) (tt := tt) (g := gName j) (vs := vs) (σ := σ) (H := H) 0 (xs.map V.int) xs p (fun x => V.int (g x)) (fun x => (wipe σ vs).set j (some (.int x))) h hx (List.length_map _) hz
    (fun i x y H1 kk _ h1 h2 hk => by
      obtain ⟨u, rfl, hu⟩ := some_int h1
      rw [hu] at h2
      cases h2
      exact hk) (fun y => hw _) ht he
  rw [List.map_map]
  exact e
theorem el_mapA {K : PySem.W.Frag} {σ : L2.St} {H : Hp} {te tl : TE} {j : Nat} {vs : List Nat} {a : Addr} (xs : List Int) (g : Int → Int) (h : Ev tl σ H (.ref a)) (hx : SqL K H a (xs.map V.int)) (hz : xs.length ≤ 40000)
    (hw : ∀ x, wipe ((wipe σ vs).set j (some x)) vs = wipe σ vs)
    (he : ∀ (x : Int) H1, Ex H H1 → x ∈ xs → Ev te ((wipe σ vs).set j (some (.int x))) H1 (.int (g x))) : EvL (tLc (iList K tl) (gName j) tYes te vs) σ H ((xs.map g).map V.int) := by
  have e := el_map (K := K) (te := te) (tl := tl) (tt := tYes) (j := j) (vs := vs) (σ := σ) (H := H) xs (fun _ => true) g h hx hz hw (fun x H1 _ _ => fun H2 _ Q q => q H2 (Ex.refl H2)) (fun x H1 e1 hx _ => he x H1 e1 hx)
  rw [List.filter_eq_self.mpr fun _ _ => rfl] at e
  exact e

theorem ev_lenNH {K : PySem.W.Frag} {σ : L2.St} {H : Hp} {te : TE} {xs : List V} (h : EvL te σ H xs) : Ev (tCB (rLenK K) (tCons te tNil)) σ H (.int (xs.length : Int)) := fun H1 e Q q => h H1 e _ fun p H2 _ e2 hp => ⟨.ref p, xs.length, rfl, .inl ⟨xs, sq_of hp, rfl⟩, q H2 e2⟩
theorem ev_sumH {K : PySem.W.Frag} {σ : L2.St} {H : Hp} {te : TE} {p : Addr} {ns : List Int} (h : Ev te σ H (.ref p)) (hp : SqL K H p (ns.map V.int)) : Ev (tCB (rSum K) (tCons te tNil)) σ H (.int ns.sum) := fun H1 e Q q => h H1 e _ fun H2 e2 => ⟨p, ns, rfl, ex_l (e.trans e2) hp, q H2 e2⟩

/-- the list that is drawn, on its way -/
def MD (a wp : Addr) (ws : List V) (m at_ U kd : Int) (b : Nat) (H : Hp) (c : Int → Prop) (σ' : L2.St) (H' : Hp) : Prop := ∃ (tp : Addr) (ts : List Int), σ' = [some (.ref a), some (.ref wp), some (.int m), some (.ref tp), some (.int at_), none, some (.int U), some (.int kd)] ∧ Ex H H' ∧ H tp = none ∧ tp ≠ wp ∧
  H' wp = some (.lst ws) ∧ H' tp = some (.lst (ts.map V.int)) ∧ ts.length ≤ 13 ∧ (c kd → ts.length = m.toNat) ∧ ∀ t ∈ ts, t.natAbs ≤ b
theorem set_mem {xs : List Int} {j : Nat} {v x : Int} (h : x ∈ xs.set j v) : x = v ∨ x ∈ xs := (List.mem_or_eq_of_mem_set h).symm
theorem map_set (xs : List Int) (j : Nat) (v : Int) : (xs.map V.int).set j (V.int v) = (xs.set j v).map V.int := by rw [List.map_set]
theorem sum_le {b : Int} : ∀ {ts : List Int}, (∀ t ∈ ts, 0 ≤ t ∧ t ≤ b) → 0 ≤ ts.sum ∧ ts.sum ≤ ts.length * b
  | [], _ => by simp
  | t :: ts, h => by
    have ih := sum_le fun x hx => h x (List.mem_cons_of_mem _ hx)
    have := h t List.mem_cons_self
    rw [List.sum_cons, List.length_cons]
    have e : ((ts.length + 1 : Nat) : Int) * b = ts.length * b + b := by rw [Int.natCast_add, Int.add_mul]; simp
    rw [e]
    omega
theorem sum_pos {ts : List Int} (h : ∀ t ∈ ts, 0 ≤ t) {j : Nat} (hj : j < ts.length) (hp : 0 < ts.getD j 0) : 0 < ts.sum := by
  have : ∀ {ts : List Int} {j : Nat}, (∀ t ∈ ts, 0 ≤ t) → j < ts.length → ts.getD j 0 ≤ ts.sum := by
    intro ts
    induction ts with
    | nil => intro j _ hj; simp at hj
    | cons t ts ih =>
      intro j h hj
      rw [List.sum_cons]
      have s0 := sum_nn fun x hx => h x (List.mem_cons_of_mem _ hx)
      have t0 := h t List.mem_cons_self
      cases j with
      | zero => simp; omega
      | succ j =>
        have := ih (j := j) (fun x hx => h x (List.mem_cons_of_mem _ hx)) (by simpa using hj)
        simp at this ⊢
        omega
  have := this h hj
  omega
theorem sum_scale (k : Int) : ∀ ts : List Int, (ts.map fun t => t * k).sum = ts.sum * k
  | [] => by simp
  | t :: ts => by rw [List.map_cons, List.sum_cons, List.sum_cons, sum_scale k ts, Int.add_mul]
def spDrawn79 (K : PySem.W.Frag) : Sp := fun vs H Q _ => ∃ (a : Addr) (ns : List Int), vs = [.ref a] ∧ SqL K H a (ns.map V.int) ∧ ∀ (p l d : Addr) (H' : Hp) (ts : List Int) (U : Int) (ds : List Int), Ex H H' → H' p = some (.tup [.ref l, .int U, .ref d]) → H' l = some (.lst (ts.map V.int)) → H' d = some (.lst (ds.map V.int)) → Wb ts U → ds.length = 6 → Q (.ref p) H' 
theorem ok_u_law_drawn (T : Txt K mg A) : FnOk P w K mg base CX0 4 A.f_u_law_drawn A.d_u_law_drawn (["script"] : List Str) (spDrawn79 K) := by
  refine T.F_u_law_drawn.ok sc_u_law_drawn (fun vs H Q E h => ?_) (fun cdv Ar outer s H vs Q E hr h => ?_)
  · obtain ⟨a, ns, rfl, _⟩ := h
    rfl
  · obtain ⟨a, ns, rfl, hS, k⟩ := h
    refine ⟨_, (pss_cons (ps_set (i := 1) sc_u_law_drawn.nd rfl (Or.inr rfl) (pe_call (ok_u_law_draws T) (hr.mono (by omega)) rfl T.g_u_law_draws T.k_u_law_draws (b_u_law_draws T) .nil pass0 (pa_cons (pe_call (ok_u_law_cell T) (hr.mono (by omega)) rfl T.g_u_law_cell T.k_u_law_cell (b_u_law_cell T) .nil pass0 (pa_cons (pv 0) (pa_cons pe_int pa_nil))) (pa_cons pe_int (pa_cons (pe_lst (pa_cons pe_int (pa_cons pe_int (pa_cons pe_int (pa_cons pe_int (pa_cons pe_int (pa_cons pe_int (pa_cons pe_int (pa_cons pe_int pa_nil))))))))) pa_nil)))))
        (pss_cons (ps_set (i := 2) sc_u_law_drawn.nd rfl (Or.inl rfl) (pe_op op_add pe_int (pe_ix ix_lK (pv 1) pe_int (fun _ _ => rfl))))
        (pss_cons (ps_if (pt_cmpR op_eq (pe_ix ix_lK (pv 1) pe_int (fun _ _ => rfl)) pe_int (nomark _)) (pss_one (ps_set (i := 2) sc_u_law_drawn.nd rfl (Or.inl rfl) (pe_op op_add pe_int (pe_ix ix_lK (pv 1) pe_int (fun _ _ => rfl))))) pss_nil)
        (pss_cons (ps_set (i := 3) sc_u_law_drawn.nd rfl (Or.inl rfl) (pe_call (ok_u_law_draws T) (hr.mono (by omega)) rfl T.g_u_law_draws T.k_u_law_draws (b_u_law_draws T) .nil pass0 (pa_cons (pe_call (ok_u_law_cell T) (hr.mono (by omega)) rfl T.g_u_law_cell T.k_u_law_cell (b_u_law_cell T) .nil pass0 (pa_cons (pv 0) (pa_cons pe_int pa_nil))) (pa_cons pe_int (pa_cons (pe_op op_rep (pe_lst (pa_cons (pe_ix ix_lK (pe_lst (pa_cons pe_int (pa_cons pe_int (pa_cons pe_int (pa_cons (pe_op op_pow pe_int pe_int) pa_nil))))) (pe_ix ix_lK (pv 1) pe_int (fun _ _ => rfl)) (fun _ _ => rfl)) pa_nil)) (pv 2)) pa_nil)))))
        (pss_cons (ps_set (i := 4) sc_u_law_drawn.nd rfl (Or.inl rfl) (pe_op op_mod (pe_callTy call_int1 (by rfl) T.z_int (by decide +kernel) (pa_cons (pe_ix ix_lK (pv 1) pe_int (fun _ _ => rfl)) pa_nil)) (pv 2)))
        (pss_cons (ps_if (pt_cmpR op_eq (pe_callB (cr_sumK rfl) (by rfl) T.z_sum (by decide +kernel) (pa_cons (pv 3) pa_nil)) pe_int (nomark _)) (pss_one (ps_asg pe_int (pg_sub (pv 3) (pv 4) set_list))) pss_nil)
        (pss_cons (ps_setLc (i := 3) (own := [("top", 5)]) (g := gName 5) (tt := tYes) rfl sc_u_law_drawn.nd rfl rfl (sw_true rfl rfl rfl (by decide +kernel)) (pi_listK (pv 3)) (blkOk_by (own := [("top", 5)]) (N := N_u_law_drawn) (sc := defScope s_u_law_drawn) (by decide +kernel)) (fun _ _ _ _ _ => (pg_name (i := 5) sc_u_law_drawn.nd rfl (Or.inl rfl))) (fun _ _ _ _ _ => pts_nil) (fun _ _ _ _ _ => (pe_op op_mulW (pv 5) (pe_op op_add pe_int (pe_ix ix_lK (pv 1) pe_int (fun _ _ => rfl))))))
        (pss_cons (ps_set (i := 6) sc_u_law_drawn.nd rfl (Or.inl rfl) (pe_callB (cr_sumK rfl) (by rfl) T.z_sum (by decide +kernel) (pa_cons (pv 3) pa_nil)))
        (pss_cons (ps_set (i := 7) sc_u_law_drawn.nd rfl (Or.inl rfl) (pe_ix ix_lK (pv 1) pe_int (fun _ _ => rfl)))
        (pss_cons (ps_if (pt_cmpR op_eq (pv 7) pe_int (nomark _)) (pss_one (ps_set (i := 3) sc_u_law_drawn.nd rfl (Or.inl rfl) (pe_lst pa_nil))) pss_nil)
        (pss_cons (ps_if (PW.pt (pw_or (pt_cmpR op_eq (pv 7) pe_int (nomark _)) (pw_or1 (pt_cmpR op_eq (pv 7) pe_int (nomark _))))) (pss_one (ps_set (i := 3) sc_u_law_drawn.nd rfl (Or.inl rfl) (pe_op op_cat (pe_op op_cat (pe_op op_cat (pe_slice sl_list (pv 3) po_none (po_some (pv 4))) (pe_lst (pa_cons (pe_op op_mulW (pe_op op_sub (pv 7) pe_int) (pe_op op_add pe_int (pe_ix ix_lK (pv 1) pe_int (fun _ _ => rfl)))) pa_nil))) (pe_slice sl_list (pv 3) (po_some (pv 4)) po_none)) (pe_op op_rep (pe_lst (pa_cons pe_int pa_nil)) (pe_op op_sub pe_int (pv 2)))))) pss_nil)
        (pss_cons (ps_if (pt_cmpR op_eq (pv 7) pe_int (nomark _)) (pss_cons (ps_asg (pe_op op_add (pe_op op_add (pe_ix ix_lK (pv 3) (pe_op op_mod (pe_callTy call_int1 (by rfl) T.z_int (by decide +kernel) (pa_cons (pe_op op_add (pv 4) pe_int) pa_nil)) (pv 2)) (fun _ _ => rfl)) (pe_ix ix_lK (pv 3) (pv 4) (fun _ _ => rfl))) pe_int) (pg_sub (pv 3) (pe_op op_mod (pe_callTy call_int1 (by rfl) T.z_int (by decide +kernel) (pa_cons (pe_op op_add (pv 4) pe_int) pa_nil)) (pv 2)) set_list))
        (pss_one (ps_asg (pe_op op_sub pe_int pe_int) (pg_sub (pv 3) (pv 4) set_list)))) pss_nil)
        (pss_cons (ps_if (pt_cmpR op_eq (pv 7) pe_int (nomark _)) (pss_one (ps_asg (pe_op op_add (pe_ix ix_lK (pv 3) (pv 4) (fun _ _ => rfl)) (pe_ix ix_lK (pe_lst (pa_cons pe_int (pa_cons (pv 6) (pa_cons (pe_op op_sub (pe_op op_sub pe_int (pe_ix ix_lK (pv 3) (pv 4) (fun _ _ => rfl))) pe_int) (pa_cons (pe_op op_sub pe_int (pe_ix ix_lK (pv 3) (pv 4) (fun _ _ => rfl))) pa_nil))))) (pe_op op_mod (pe_callTy call_int1 (by rfl) T.z_int (by decide +kernel) (pa_cons (pe_ix ix_lK (pv 1) pe_int (fun _ _ => rfl)) pa_nil)) pe_int) (fun _ _ => rfl))) (pg_sub (pv 3) (pv 4) set_list))) pss_nil)
        (pss_one (ps_ret (pe_tup (pa_cons (pv 3) (pa_cons (pv 6) (pa_cons (pe_call (ok_u_law_draws T) (hr.mono (by omega)) rfl T.g_u_law_draws T.k_u_law_draws (b_u_law_draws T) .nil pass0 (pa_cons (pe_call (ok_u_law_cell T) (hr.mono (by omega)) rfl T.g_u_law_cell T.k_u_law_cell (b_u_law_cell T) .nil pass0 (pa_cons (pv 0) (pa_cons pe_int pa_nil))) (pa_cons pe_int (pa_cons (pe_op op_rep (pe_lst (pa_cons (pe_op op_add (pv 6) pe_int) pa_nil)) pe_int) pa_nil)))) pa_nil))))))))))))))))))), ?_⟩
    try dsimp only
    refine q_asgR (er_draws (K := K) (ms := [6, 8, 6, 4, 5, 15, 12, 7]) (ev_cell (k := 0) (ev_var rfl) ev_c hS) ev_c (el_lst (by repeat' first | exact ev_c | exact ev_var rfl | exact ea_nil | apply ea_cons | apply ev_int | apply ev_op | apply ev_un | exact ru_neg | exact rv_I0 | exact rv_eq rfl | exact rv_ne rfl | exact rv_I (by decide) | exact rv_I (.inl ⟨by decide, by decide⟩) | exact rv_I (.inr ⟨by decide, by decide⟩) | exact rv_I (by omega) | exact rv_I (.inl ⟨by omega, by omega⟩) | exact rv_I (.inr ⟨by omega, by omega⟩)) (by decide)) (cellA_nn _ _) (by decide) (by decide) (by decide +kernel)) fun v H1 e hp => ?_
    obtain ⟨wp, ds, rfl, hw, hD⟩ := hp
    obtain ⟨d0, ds, rfl, c0, hD⟩ := drawn_cons hD
    obtain ⟨d1, ds, rfl, _, hD⟩ := drawn_cons hD
    obtain ⟨d2, ds, rfl, c2, hD⟩ := drawn_cons hD
    obtain ⟨d3, ds, rfl, c3, hD⟩ := drawn_cons hD
    obtain ⟨d4, ds, rfl, c4, hD⟩ := drawn_cons hD
    obtain ⟨d5, ds, rfl, c5, hD⟩ := drawn_cons hD
    obtain ⟨d6, ds, rfl, c6, hD⟩ := drawn_cons hD
    obtain ⟨d7, ds, rfl, c7, hD⟩ := drawn_cons hD
    obtain rfl := drawn_nil hD
    clear hD
    obtain ⟨ws, hws⟩ : ∃ ws : List V, ws = [d0, d1, d2, d3, d4, d5, d6, d7].map V.int := ⟨_, rfl⟩
    rw [← hws] at hw
    try dsimp only
    refine q_asg (v := .int (1 + d0)) (ev_op ev_c (ev_op (ev_var (i := 1) rfl) ev_c (rv_ixL (K := K) (sq_of hw) (by rw [hws]; rfl))) rv_I0) fun H2 e2 => ?_
    replace hw := e2 _ _ hw
    replace e := e.trans e2
    clear e2
    try dsimp only
    refine q_alt (b := decide (d1 = 2)) (fun σ' H' => ∃ m : Int, σ' = [some (.ref a), some (.ref wp), some (.int m), none, none, none, none, none] ∧ Ex H H' ∧ H' wp = some (.lst ws) ∧ 1 ≤ m ∧ m ≤ 12) (et_is (et_test (ev_op (ev_op (ev_var (i := 1) rfl) ev_c (rv_ixL (K := K) (sq_of hw) (by rw [hws]; rfl))) ev_c (rv_eq rfl))) dec_ii) (fun hb H2 e2 W hW => s_asg (v := .int (7 + d2)) (ev_op ev_c (ev_op (ev_var (i := 1) rfl) ev_c (rv_ixL (K := K) (sq_of (e2 _ _ hw)) (by rw [hws]; rfl))) rv_I0) fun H3 e3 => hW _ _ ⟨_, rfl, e.trans (e2.trans e3), e3 _ _ (e2 _ _ hw), by omega, by omega⟩) (fun hb H2 e2 => ⟨_, rfl, e.trans e2, e2 _ _ hw, by omega, by omega⟩) ?_
    clear hw e
    rintro σ' H1 ⟨m, rfl, e, hw, m1, m12⟩
    obtain ⟨z, hz, hzb⟩ : ∃ z : Int, atI (([7, 13, 61, 10 ^ 58] : List Int).map V.int) d3 = some (.int z) ∧ 1 ≤ z ∧ z ≤ 10 ^ 58 := by
      have : d3 = 0 ∨ d3 = 1 ∨ d3 = 2 ∨ d3 = 3 := by omega
      rcases this with rfl | rfl | rfl | rfl
      · exact ⟨7, rfl, by decide, by decide⟩
      · exact ⟨13, rfl, by decide, by decide⟩
      · exact ⟨61, rfl, by decide, by decide⟩
      · exact ⟨10 ^ 58, rfl, by decide, by decide⟩
    have mm : (List.replicate m.toNat z).length = m.toNat := List.length_replicate
    try dsimp only
    refine q_asgR (er_drawsF (K := K) (ms := List.replicate m.toNat z) (ev_cell (k := 1) (ev_var rfl) ev_c (ex_l e hS)) ev_c (el_rep (z := z) (k := m) (ev_opL1 (xs := ([7, 13, 61, 10 ^ 58] : List Int).map V.int) (y := .int d3) (el_lst (ea_cons ev_c (ea_cons ev_c (ea_cons ev_c (ea_cons (ev_op ev_c ev_c (rv_I ⟨by decide, by decide, by decide⟩)) ea_nil)))) (by decide)) (fun G1 g1 => ev_op (ev_var (i := 1) rfl) ev_c (rv_ixL (K := K) (sq_of (g1 _ _ hw)) (by rw [hws]; rfl))) fun p G1 hp g1 => rv_ixL (K := K) (sq_of hp) hz) (ev_var (i := 2) rfl) (by omega)) (cellA_nn _ _) (by decide) (by rw [mm]; omega) (fun x hx => by
      rw [(List.mem_replicate.mp hx).2]
      exact ⟨hzb.1, Nat.lt_of_le_of_lt (show z.natAbs ≤ 10 ^ 58 by omega) (Nat.lt_of_lt_of_le (show (10 : Nat) ^ 58 < 2 ^ 250 by decide +kernel) (Nat.pow_le_pow_right (by decide) (by decide)))⟩)) fun v H2 e2 hv => ?_
    obtain ⟨tp, ts, rfl, htp, hts, hD⟩ := hv
    have tl : ts.length = m.toNat := by rw [hD.1, mm]
    have tb : ∀ t ∈ ts, 0 ≤ t ∧ t ≤ 10 ^ 58 := fun t ht => by
      obtain ⟨i, hi, rfl⟩ := List.mem_iff_getElem.mp ht
      obtain ⟨d, h1, h2, h3⟩ := hD.2 i z (by rw [List.getElem?_replicate, if_pos (by omega)])
      rw [List.getElem?_eq_getElem hi] at h1
      cases h1
      omega
    have tw : tp ≠ wp := fun q => by rw [q, hw] at htp; cases htp
    have htp0 := fresh_back e htp
    replace e := e.trans e2
    replace hw := e2 _ _ hw
    clear hD htp e2
    have am := Int.emod_nonneg d6 (b := m) (by omega)
    have am2 := Int.emod_lt_of_pos d6 (b := m) (by omega)
    try dsimp only
    refine q_asg (v := .int (d6 % m)) (ev_op (ev_int (ev_op (ev_var (i := 1) rfl) ev_c (rv_ixL (K := K) (sq_of hw) (by rw [hws]; rfl)))) (ev_var (i := 2) rfl) (rv_I (show 0 < m by omega))) fun H3 e3 => ?_
    replace hw := e3 _ _ hw
    replace hts := e3 _ _ hts
    replace e := e.trans e3
    clear e3
    obtain ⟨j, hj⟩ := Int.eq_ofNat_of_zero_le am
    have jm : j < m.toNat := by omega
    try dsimp only
    refine q_alt (b := decide (ts.sum = 0)) (fun σ' H' => ∃ ts : List Int, σ' = [some (.ref a), some (.ref wp), some (.int m), some (.ref tp), some (.int (d6 % m)), none, none, none] ∧ Ex H H' ∧ H' wp = some (.lst ws) ∧ H' tp = some (.lst (ts.map V.int)) ∧ ts.length = m.toNat ∧ (∀ t ∈ ts, 0 ≤ t ∧ t ≤ 10 ^ 58) ∧ 0 < ts.sum) (et_is (et_test (ev_op (ev_sumH (K := K) (ev_var (i := 3) rfl) (sq_of hts)) ev_c (rv_eq rfl))) dec_ii) (fun hb H2 e2 W hW => ?_) (fun hb H2 e2 => ⟨ts, rfl, e.trans e2, e2 _ _ hw, e2 _ _ hts, tl, tb, ?_⟩) ?_
    · have tb' : ∀ t ∈ ts.set j 1, 0 ≤ t ∧ t ≤ 10 ^ 58 := fun t ht => by
        rcases set_mem ht with rfl | ht
        · decide
        · exact tb t ht
      refine s_setL (j := j) (v := .int 1) (e2 _ _ hts) ev_c (ev_var (i := 3) rfl) (ev_is (ev_var (i := 4) rfl) (congrArg V.int hj)) (by rw [List.length_map]; omega) fun H3 e3 => hW _ _ ⟨ts.set j 1, rfl, Ex.mut (e.trans (e2.trans e3)) htp0, ?_, ?_, by rw [List.length_set, tl], tb', ?_⟩
      · rw [upd_ne tw.symm]
        exact e3 _ _ (e2 _ _ hw)
      · rw [upd_same, map_set]
      · exact sum_pos (j := j) (fun t ht => (tb' t ht).1) (by rw [List.length_set]; omega) (by rw [List.getD_eq_getElem?_getD, List.getElem?_set_self (by omega)]; decide)
    · have := (sum_le tb).1
      have := of_decide_eq_false hb
      omega
    clear hw hts e tb tl ts
    rintro σ' H4 ⟨ts, rfl, e, hw, hts, tl, tb, tsum⟩
    have fpos : 1 ≤ 1 + d4 ∧ 1 + d4 ≤ 5 := by omega
    have sc := sum_scale (1 + d4) ts
    have ub : ∀ t ∈ ts.map (fun t => t * (1 + d4)), 0 ≤ t ∧ t ≤ 5 * 10 ^ 58 := fun t ht => by
      obtain ⟨x, hx, rfl⟩ := List.mem_map.mp ht
      have := tb x hx
      have h1 := Int.mul_le_mul this.2 fpos.2 (by omega) (by omega : (0 : Int) ≤ 10 ^ 58)
      have h2 := Int.mul_nonneg this.1 (show 0 ≤ 1 + d4 by omega)
      omega
    have us := sum_le ub
    rw [List.length_map, tl] at us
    try dsimp only
    refine q_asgL (el_mapA (K := K) ts (fun t => t * (1 + d4)) (ev_var (i := 3) rfl) (sq_of hts) (by omega) (fun x => rfl) fun x G1 g1 hx => ev_op (ev_var (i := 5) rfl) (ev_op ev_c (ev_op (ev_var (i := 1) rfl) ev_c (rv_ixL (K := K) (sq_of (g1 _ _ hw)) (by rw [hws]; rfl))) rv_I0) (rv_I (wide_mul (a := 200) (b := 3) (by have := tb x hx; exact Nat.lt_of_le_of_lt (show x.natAbs ≤ 10 ^ 58 by omega) (by decide +kernel)) (by omega) (by decide) (by decide) (by decide)))) fun up H5 hup e5 hu => ?_
    have hup0 := fresh_back e hup
    have uw : up ≠ wp := fun q => by rw [q, hw] at hup; cases hup
    replace hw := e5 _ _ hw
    replace e := e.trans e5
    clear hts e5 hup htp0 tw
    obtain ⟨U, hU⟩ : ∃ U, U = (ts.map fun t => t * (1 + d4)).sum := ⟨_, rfl⟩
    have Upos : 0 < U := by
      rw [hU, sc]
      exact Int.mul_pos tsum (by omega)
    have Ub : U ≤ 10 ^ 60 := by
      have := us.2
      rw [← hU] at this
      have h2 := Int.mul_le_mul_of_nonneg_right (show ((m.toNat : Nat) : Int) ≤ 12 by omega) (show (0 : Int) ≤ 5 * 10 ^ 58 by decide)
      omega
    have ul : (ts.map fun t => t * (1 + d4)).length = m.toNat := by rw [List.length_map, tl]
    generalize (ts.map fun t => t * (1 + d4)) = vs at *
    try dsimp only
    refine q_asg (v := .int U) (ev_is (ev_sumH (K := K) (ev_var (i := 3) rfl) (sq_of hu)) (by rw [hU])) fun H6 e6 => ?_
    replace hw := e6 _ _ hw
    replace hu := e6 _ _ hu
    replace e := e.trans e6
    clear e6
    try dsimp only
    refine q_asg (v := .int d5) (ev_op (ev_var (i := 1) rfl) ev_c (rv_ixL (K := K) (sq_of hw) (by rw [hws]; rfl))) fun H7 e7 => ?_
    replace hw := e7 _ _ hw
    replace hu := e7 _ _ hu
    replace e := e.trans e7
    clear e7
    have vb : ∀ t ∈ vs, t.natAbs ≤ 10 ^ 59 := fun t ht => by
      have := ub t ht
      omega
    try dsimp only
    refine q_alt (b := decide (d5 = 10)) (MD a wp ws m (d6 % m) U d5 (10 ^ 59) H (fun k => k ≠ 10)) (et_is (et_test (ev_op (ev_var (i := 7) rfl) ev_c (rv_eq rfl))) dec_ii) (fun hb H2 e2 W hW => ?_) (fun hb H2 e2 => ⟨up, vs, rfl, e.trans e2, hup0, uw, e2 _ _ hw, e2 _ _ hu, by omega, fun _ => ul, vb⟩) ?_
    · refine s_asgL (xs := []) (el_lst ea_nil (by decide)) fun qp H3 hq e3 h3 => hW _ _ ⟨qp, [], rfl, e.trans (e2.trans e3), fresh_back (e.trans e2) hq, (fun q => by rw [q, e2 _ _ hw] at hq; cases hq), e3 _ _ (e2 _ _ hw), h3, by decide, fun z => absurd (of_decide_eq_true hb) z, fun t ht => by cases ht⟩
    clear hw hu e vb ul ub us sc tsum tb tl ts hup0 uw up hU vs
    rintro σ' H8 ⟨tp, ts, rfl, e, htp, tw, hw, hts, t13, tm, tb⟩
    try dsimp only
    refine q_alt (b := decide (d5 = 11) || decide (d5 = 12)) (MD a wp ws m (d6 % m) U d5 (10 ^ 59) H (fun k => k = 13 ∨ k = 14)) (et_or (et_is (et_test (ev_op (ev_var (i := 7) rfl) ev_c (rv_eq rfl))) dec_ii) fun _ => et_is (et_test (ev_op (ev_var (i := 7) rfl) ev_c (rv_eq rfl))) dec_ii) (fun hb H2 e2 W hW => ?_) (fun hb H2 e2 => ⟨tp, ts, rfl, e.trans e2, htp, tw, e2 _ _ hw, e2 _ _ hts, t13, fun z => tm (by omega), tb⟩) ?_
    · rw [Bool.or_eq_true, decide_eq_true_iff, decide_eq_true_iff] at hb
      have tl := tm (by omega)
      have hts2 := e2 _ _ hts
      have hw2 := e2 _ _ hw
      have eat : ∀ {σ : L2.St}, σ[4]? = some (some (.int (d6 % m))) → Ev (tVar 4) σ H2 (.int (j : Int)) := fun h => ev_is (ev_var h) (congrArg V.int hj)
      refine s_asgL (xs := (ts.take j ++ [(d5 - 11) * (1 + d7)] ++ ts.drop j ++ List.replicate (12 - m).toNat 0).map V.int) (el_isW (el_cat (el_cat (el_cat (el_sl (K := K) (ev_var (i := 3) rfl) eo_none (eo_some (eat rfl)) (sq_of hts2)) (el_lst (ea_cons (ev_op (ev_op (ev_var (i := 7) rfl) ev_c rv_I0) (ev_op ev_c (ev_op (ev_var (i := 1) rfl) ev_c (rv_ixL (K := K) (sq_of hw2) (by rw [hws]; rfl))) rv_I0) (rv_I (wide_mul (a := 8) (b := 8) (by omega) (by omega) (by decide) (by decide) (by decide)))) ea_nil) (by show 1 ≤ 100000; decide)) ?_) (el_sl (K := K) (ev_var (i := 3) rfl) (eo_some (eat rfl)) eo_none (sq_of hts2)) ?_) (el_rep ev_c (ev_op ev_c (ev_var (i := 2) rfl) rv_I0) (by omega)) ?_) ?_) fun qp H3 hq e3 h3 => hW _ _ ⟨qp, _, rfl, e.trans (e2.trans e3), fresh_back (e.trans e2) hq, (fun q => by rw [q, hw2] at hq; cases hq), e3 _ _ hw2, h3, ?_, fun z => by omega, fun t ht => ?_⟩
      · rw [cut_take, List.length_map]
        simp only [List.length_take, List.length_cons, List.length_nil]
        omega
      · rw [cut_take, cut_drop]
        simp only [List.length_append, List.length_map, List.length_take, List.length_drop, List.length_cons, List.length_nil]
        omega
      · rw [cut_take, cut_drop]
        simp only [List.length_append, List.length_map, List.length_take, List.length_drop, List.length_cons, List.length_nil, List.length_replicate]
        omega
      · rw [cut_take, cut_drop]
        simp only [List.map_append, List.map_cons, List.map_nil]
      · simp only [List.length_append, List.length_take, List.length_drop, List.length_cons, List.length_nil, List.length_replicate]
        omega
      · simp only [List.mem_append, List.mem_cons, List.not_mem_nil, or_false] at ht
        have f1 : ((d5 - 11) * (1 + d7)).natAbs ≤ 7 := by
          rcases hb with z | z
          · rw [z]; simp
          · rw [z]; omega
        rcases ht with ((ht | rfl) | ht) | ht
        · exact tb t (List.mem_of_mem_take ht)
        · omega
        · exact tb t (List.mem_of_mem_drop ht)
        · rw [(List.mem_replicate.mp ht).2]; decide
    clear hw hts e t13 tm tb htp tw tp ts
    rintro σ' H9 ⟨tp, ts, rfl, e, htp, tw, hw, hts, t13, tm, tb⟩
    have bm := Int.emod_nonneg (d6 % m + 1) (b := m) (by omega)
    have bm2 := Int.emod_lt_of_pos (d6 % m + 1) (b := m) (by omega)
    obtain ⟨i, hi⟩ := Int.eq_ofNat_of_zero_le bm
    have im : i < m.toNat := by omega
    have gb : ∀ k, (ts.getD k 0).natAbs ≤ 10 ^ 59 := fun k => by
      by_cases z : k < ts.length
      · exact tb _ (getD_mem z)
      · rw [List.getD_eq_getElem?_getD, List.getElem?_eq_none (by omega)]; decide
    try dsimp only
    refine q_alt (b := decide (d5 = 13)) (MD a wp ws m (d6 % m) U d5 (10 ^ 60) H (fun k => k = 13 ∨ k = 14)) (et_is (et_test (ev_op (ev_var (i := 7) rfl) ev_c (rv_eq rfl))) dec_ii) (fun hb H2 e2 W hW => ?_) (fun hb H2 e2 => ⟨tp, ts, rfl, e.trans e2, htp, tw, e2 _ _ hw, e2 _ _ hts, t13, tm, fun t ht => by have := tb t ht; omega⟩) ?_
    · have tl := tm (.inl (of_decide_eq_true hb))
      have hts2 := e2 _ _ hts
      have ati : ∀ k : Nat, k < m.toNat → atI (ts.map V.int) (k : Int) = some (.int (ts.getD k 0)) := fun k hk => atI_ints (by omega) (by omega)
      have enx : ∀ G, Ev (tOp (rI (fun x j => 0 < j) fun i j => V.int (i % j)) (tCB (fun xs H Q => (∃ i, xs = [V.int i] ∧ Q (V.int i) H) ∨ ∃ k, xs = [V.bl k] ∧ Q (V.int (if k = true then 1 else 0)) H) (tCons (tOp (rI0 fun i j => V.int (i + j)) (tVar 4) (tC (V.int 1))) tNil)) (tVar 2)) [some (.ref a), some (.ref wp), some (.int m), some (.ref tp), some (.int (d6 % m)), none, some (.int U), some (.int d5)] G (.int (i : Int)) := fun G => ev_is (ev_op (ev_int (ev_op (ev_var (i := 4) rfl) ev_c rv_I0)) (ev_var (i := 2) rfl) (rv_I (show 0 < m by omega))) (congrArg V.int hi)
      try dsimp only
      refine q_setL (j := i) (v := .int (ts.getD i 0 + ts.getD j 0 + 1)) hts2 (ev_op (ev_op (ev_op (ev_var (i := 3) rfl) (enx _) (rv_ixL (K := K) (sq_of hts2) (ati i im))) (ev_op (ev_var (i := 3) rfl) (ev_is (ev_var (i := 4) rfl) (congrArg V.int hj)) (rv_ixL (K := K) (sq_of hts2) (ati j jm))) rv_I0) ev_c rv_I0) (ev_var (i := 3) rfl) (enx _) (by rw [List.length_map]; omega) fun H3 e3 => ?_
      try dsimp only
      refine s_setL (j := j) (v := .int (-1)) upd_same (ev_op ev_c ev_c rv_I0) (ev_var (i := 3) rfl) (ev_is (ev_var (i := 4) rfl) (congrArg V.int hj)) (by rw [List.length_set, List.length_map]; omega) fun H4 e4 => hW _ _ ⟨tp, (ts.set i (ts.getD i 0 + ts.getD j 0 + 1)).set j (-1), rfl, ?_, htp, tw, ?_, ?_, by rw [List.length_set, List.length_set]; exact t13, fun _ => by rw [List.length_set, List.length_set]; exact tl, fun t ht => ?_⟩
      · exact Ex.mut ((Ex.mut (e.trans (e2.trans e3)) htp).trans e4) htp
      · rw [upd_ne tw.symm]
        exact e4 _ _ (by rw [upd_ne tw.symm]; exact e3 _ _ (e2 _ _ hw))
      · rw [upd_same, map_set, map_set]
      · have := gb i
        have := gb j
        rcases set_mem ht with rfl | ht
        · decide
        · rcases set_mem ht with rfl | ht
          · omega
          · have := tb t ht; omega
    clear hw hts e t13 tm tb htp tw gb tp ts
    rintro σ' H10 ⟨tp, ts, rfl, e, htp, tw, hw, hts, t13, tm, tb⟩
    have gb : ∀ k, (ts.getD k 0).natAbs ≤ 10 ^ 60 := fun k => by
      by_cases z : k < ts.length
      · exact tb _ (getD_mem z)
      · rw [List.getD_eq_getElem?_getD, List.getElem?_eq_none (by omega)]; decide
    try dsimp only
    refine q_alt (b := decide (d5 = 14)) (MD a wp ws m (d6 % m) U d5 (10 ^ 61) H (fun k => False)) (et_is (et_test (ev_op (ev_var (i := 7) rfl) ev_c (rv_eq rfl))) dec_ii) (fun hb H2 e2 W hW => ?_) (fun hb H2 e2 => ⟨tp, ts, rfl, e.trans e2, htp, tw, e2 _ _ hw, e2 _ _ hts, t13, fun z => z.elim, fun t ht => by have := tb t ht; omega⟩) ?_
    · have tl := tm (.inr (of_decide_eq_true hb))
      have hts2 := e2 _ _ hts
      have atj : atI (ts.map V.int) (j : Int) = some (.int (ts.getD j 0)) := atI_ints (by omega) (by omega)
      have ej : ∀ G, Ex H2 G → Ev (tOp (rIxL K) (tVar 3) (tVar 4)) [some (.ref a), some (.ref wp), some (.int m), some (.ref tp), some (.int (d6 % m)), none, some (.int U), some (.int d5)] G (.int (ts.getD j 0)) := fun G g => ev_op (ev_var (i := 3) rfl) (ev_is (ev_var (i := 4) rfl) (congrArg V.int hj)) (rv_ixL (K := K) (sq_of (g _ _ hts2)) atj)
      have r0 := Int.emod_nonneg d7 (b := 4) (by decide)
      have r4 := Int.emod_lt_of_pos d7 (b := 4) (by decide)
      have := gb j
      obtain ⟨y, hy, hyb⟩ : ∃ y : Int, atI (([1, U, 0 - ts.getD j 0 - 1, 0 - ts.getD j 0] : List Int).map V.int) (d7 % 4) = some (.int y) ∧ y.natAbs ≤ 10 ^ 60 + 1 := by
        have : d7 % 4 = 0 ∨ d7 % 4 = 1 ∨ d7 % 4 = 2 ∨ d7 % 4 = 3 := by omega
        rcases this with z | z | z | z
        · exact ⟨1, by rw [z]; rfl, by decide⟩
        · exact ⟨U, by rw [z]; rfl, by omega⟩
        · exact ⟨0 - ts.getD j 0 - 1, by rw [z]; rfl, by omega⟩
        · exact ⟨0 - ts.getD j 0, by rw [z]; rfl, by omega⟩
      refine s_setL (j := j) (v := .int (ts.getD j 0 + y)) hts2 (ev_op (ej _ (Ex.refl _)) (ev_opL1 (xs := ([1, U, 0 - ts.getD j 0 - 1, 0 - ts.getD j 0] : List Int).map V.int) (y := .int (d7 % 4)) (el_lst (ea_cons ev_c (ea_cons (ev_var (i := 6) rfl) (ea_cons (ev_op (ev_op ev_c (ej _ (Ex.refl _)) rv_I0) ev_c rv_I0) (ea_cons (ev_op ev_c (ej _ (Ex.refl _)) rv_I0) ea_nil)))) (by show 4 ≤ 100000; decide)) (fun G1 g1 => ev_op (ev_int (ev_op (ev_var (i := 1) rfl) ev_c (rv_ixL (K := K) (sq_of (g1 _ _ (e2 _ _ hw))) (by rw [hws]; rfl)))) ev_c (rv_I (show (0 : Int) < 4 by decide))) fun p G1 hp g1 => rv_ixL (K := K) (sq_of hp) hy) rv_I0) (ev_var (i := 3) rfl) (ev_is (ev_var (i := 4) rfl) (congrArg V.int hj)) (by rw [List.length_map]; omega) fun H3 e3 => hW _ _ ⟨tp, ts.set j (ts.getD j 0 + y), rfl, Ex.mut (e.trans (e2.trans e3)) htp, htp, tw, ?_, ?_, by rw [List.length_set]; exact t13, fun z => z.elim, fun t ht => ?_⟩
      · rw [upd_ne tw.symm]
        exact e3 _ _ (e2 _ _ hw)
      · rw [upd_same, map_set]
      · rcases set_mem ht with rfl | ht
        · omega
        · have := tb t ht; omega
    clear hw hts e t13 tm tb htp tw gb tp ts
    rintro σ' H11 ⟨tp, ts, rfl, e, htp, tw, hw, hts, t13, tm, tb⟩
    have big : ∀ z : Int, z.natAbs ≤ 10 ^ 61 → z.natAbs < 2 ^ 400 := fun z hz => Nat.lt_of_le_of_lt hz (Nat.lt_of_lt_of_le (show (10 : Nat) ^ 61 < 2 ^ 250 by decide +kernel) (Nat.pow_le_pow_right (by decide) (by decide)))
    have U2 : (U + 2).natAbs ≤ 10 ^ 61 := by omega
    try dsimp only
    refine ⟨_, rfl, _, rfl, er_drawsF (K := K) (ms := List.replicate 6 (U + 2)) (ev_cell (k := 2) (ev_var rfl) ev_c (ex_l e hS)) ev_c (el_rep (z := U + 2) (k := 6) (ev_op (ev_var (i := 6) rfl) ev_c rv_I0) ev_c (by decide)) (cellA_nn _ _) (by decide) (by rw [List.length_replicate]; decide) (fun x hx => by
      rw [(List.mem_replicate.mp hx).2]
      exact ⟨by omega, Nat.lt_of_lt_of_le (big _ U2) (Nat.pow_le_pow_right (by decide) (by decide))⟩) H11 (Ex.refl _) _ fun v H12 e12 hv => ?_⟩
    obtain ⟨dp, es, rfl, _, hdp, hD⟩ := hv
    refine ⟨by show 3 ≤ sizeLine; decide, fun p hp => k p tp dp _ ts U es (e.trans (e12.trans (Ex.new hp))) upd_same (Ex.new hp _ _ (e12 _ _ hts)) (Ex.new hp _ _ hdp) ⟨t13, Upos, big U (by omega), fun t ht => big t (tb t ht)⟩ (by rw [hD.1]; rfl)⟩

def dueD (ts : List Int) (U : Int) : PyData := if ts.length = 0 then .tuple [.str "BadNumber", .str "weights", .int 0] else if 12 < ts.length then .tuple [.str "TooMany", .str "weights", .int 12] else if sharesB ts U = true then .tuple [.str "good"] else .tuple [.str "BadShares"]
def dueS (ts : List Int) (U : Int) : Str := if ts.length = 0 then "BadNumber" else if 12 < ts.length then "TooMany" else if sharesB ts U = true then "good" else "BadShares"
def DueAt (K : PySem.W.Frag) (v : V) (H : Hp) (ts : List Int) (U : Int) : Prop := Dp K H v (dueD ts U) ∧ ∃ p xs, v = .ref p ∧ H p = some (.tup (.str (dueS ts U) :: xs))
def spDue (K : PySem.W.Frag) : Sp := fun vs H Q _ => ∃ (a : Addr) (ts : List Int) (U : Int), vs = [.ref a, .int U] ∧ SqL K H a (ts.map V.int) ∧ ts.length ≤ 13 ∧ ∀ v H', Ex H H' → DueAt K v H' ts U → Q v H' 
theorem ok_u_law_due (T : Txt K mg A) : FnOk P w K mg base CX0 3 A.f_u_law_due A.d_u_law_due (["tops", "under"] : List Str) (spDue K) := by
  refine T.F_u_law_due.ok sc_u_law_due (fun vs H Q E h => ?_) (fun cdv Ar outer s H vs Q E hr h => ?_)
  · obtain ⟨a, ts, U, rfl, _⟩ := h
    rfl
  · obtain ⟨a, ts, U, rfl, hS, hl, k⟩ := h
    refine ⟨_, (pss_cons (ps_if (pt_cmpR op_eq (pe_callB len_K (by rfl) T.z_len (by decide +kernel) (pa_cons (pv 0) pa_nil)) pe_int (nomark _)) (pss_one (ps_ret (pe_tup (pa_cons pe_str (pa_cons pe_str (pa_cons pe_int pa_nil)))))) pss_nil)
        (pss_cons (ps_if (pt_cmpR op_gt (pe_callB len_K (by rfl) T.z_len (by decide +kernel) (pa_cons (pv 0) pa_nil)) pe_int (nomark _)) (pss_one (ps_ret (pe_tup (pa_cons pe_str (pa_cons pe_str (pa_cons pe_int pa_nil)))))) pss_nil)
        (pss_cons (ps_if (PW.pt (pw_or (pt_cmpR op_gt (pe_callB len_K (by rfl) T.z_len (by decide +kernel) (pa_cons (pe_lc (own := [("top", 2)]) (g := gName 2) rfl sc_u_law_due.nd (pi_listK (pv 0)) (blkOk_by (own := [("top", 2)]) (N := N_u_law_due) (sc := defScope s_u_law_due) (by decide +kernel)) (fun _ _ _ _ _ => (pg_name (i := 2) sc_u_law_due.nd rfl (Or.inl rfl))) (fun _ _ _ _ _ => (pts_one (pt_cmpR op_lt (pv 2) pe_int (nomark _)))) (fun _ _ _ _ _ => (pv 2))) pa_nil)) pe_int (nomark _)) (pw_or1 (pt_cmpR op_ne (pe_callB (cr_sumK rfl) (by rfl) T.z_sum (by decide +kernel) (pa_cons (pv 0) pa_nil)) (pv 1) (nomark _))))) (pss_one (ps_ret (pe_tup (pa_cons pe_str pa_nil)))) pss_nil)
        (pss_one (ps_ret (pe_tup (pa_cons pe_str pa_nil))))))), ?_⟩
    have ld : ∀ (s : Str) (ds : List PyData) {ta : TA} {σ : L2.St} {G : Hp} {D : Ends}, Ex H G → EvDs K ta σ G ds → ds.length ≤ 100 → (∀ v H', Ex H H' → DueAt K v H' ts U → Q v H') → dueD ts U = .tuple (.str s :: ds) → dueS ts U = s → tRet (tTup (tCons (tC (.str s)) ta)) { nx := D.nx, rt := Q } σ G := fun s ds {ta σ G D} e hds hl kk h1 h2 =>
      hds G (Ex.refl _) _ fun vs H2 e2 hs => by
        have l := (dp_get hs).1
        refine ⟨by show vs.length + 1 ≤ sizeLine; exact Nat.le_trans (show _ ≤ 101 by omega) (by decide), fun p hp => kk _ _ (e.trans (e2.trans (Ex.new hp))) ⟨?_, p, vs, rfl, ?_⟩⟩
        · rw [h1]
          exact .tup (st_of upd_same) (.cons (.str s) (dpa_ex (Ex.new hp) hs))
        · rw [h2]
          exact upd_same
    try dsimp only
    refine q_when (b := decide (ts.length = 0)) (et_is (et_test (ev_op (ev_lenH (K := K) (ev_var (i := 0) rfl) hS) ev_c (rv_eq rfl))) (by rw [dec_ii, List.length_map, decide_eq_decide]; omega)) (fun hb H1 e1 => ?_) (fun hb H1 e1 => ?_)
    · have h0 := of_decide_eq_true hb
      refine ld "BadNumber" [.str "weights", .int 0] (D := { nx := fun _ _ => True, rt := Q }) e1 (eds_cons (ed_str ev_c) (eds_cons (ed_int ev_c) eds_nil)) (by decide) k (by unfold dueD; rw [if_pos h0]) (by unfold dueS; rw [if_pos h0])
    have h0 := of_decide_eq_false hb
    try dsimp only
    refine q_when (b := decide (12 < ts.length)) (et_is (et_test (ev_op (ev_lenH (K := K) (ev_var (i := 0) rfl) (ex_l e1 hS)) ev_c rv_I0)) (by rw [List.length_map, decide_eq_decide]; omega)) (fun hb H2 e2 => ?_) (fun hb H2 e2 => ?_)
    · have h1 := of_decide_eq_true hb
      refine ld "TooMany" [.str "weights", .int 12] (D := { nx := fun _ _ => True, rt := Q }) (e1.trans e2) (eds_cons (ed_str ev_c) (eds_cons (ed_int ev_c) eds_nil)) (by decide) k (by unfold dueD; rw [if_neg h0, if_pos h1]) (by unfold dueS; rw [if_neg h0, if_pos h1])
    have h1 := of_decide_eq_false hb
    have e02 := e1.trans e2
    have all_ : ∀ ts : List Int, (ts.filter fun t => decide (t < 0)).length = 0 ↔ (ts.all fun t => decide (0 ≤ t)) = true := fun ts => by
      rw [List.length_eq_zero_iff, List.filter_eq_nil_iff, List.all_eq_true]
      exact ⟨fun h x hx => by have := h x hx; rw [decide_eq_true_iff] at this; exact decide_eq_true (by omega), fun h x hx => by have := h x hx; rw [decide_eq_true_iff] at this; rw [decide_eq_true_iff]; omega⟩
    try dsimp only
    refine q_when (b := !sharesB ts U) (et_is (et_or (a := decide (0 < (ts.filter fun t => decide (t < 0)).length)) (et_is (et_test (ev_op (ev_lenNH (K := K) (el_lst1 (K := K) ts (fun t => decide (t < 0)) (ev_var (i := 0) rfl) (ex_l e02 hS) (by omega) (fun x => rfl) (fun x G1 g1 hx => et_test (ev_op (ev_var (i := 2) rfl) ev_c rv_I0)) (fun x G1 g1 hx => ev_var (i := 2) rfl))) ev_c rv_I0)) (by rw [List.length_map, decide_eq_decide]; omega)) fun _ => et_is (et_test (ev_op (ev_sumH (K := K) (ev_var (i := 0) rfl) (ex_l e02 hS)) (ev_var (i := 1) rfl) (rv_ne rfl))) (by rw [dec_ii])) ?_) (fun hb H3 e3 => ?_) (fun hb H3 e3 => ?_)
    · unfold sharesB
      have := all_ ts
      by_cases z : (ts.all fun t => decide (0 ≤ t)) = true
      · rw [z, decide_eq_false (by have := this.mpr z; omega)]
        simp
      · rw [Bool.not_eq_true] at z
        rw [z, decide_eq_true (by
          rcases Nat.eq_zero_or_pos (ts.filter fun t => decide (t < 0)).length with y | y
          · rw [this.mp y] at z; cases z
          · exact y)]
        simp
    · have hs : sharesB ts U = false := by simpa using hb
      refine ld "BadShares" [] (D := { nx := fun _ _ => True, rt := Q }) (e02.trans e3) eds_nil (by decide) k (by unfold dueD; rw [if_neg h0, if_neg h1, if_neg (by rw [hs]; decide)]) (by unfold dueS; rw [if_neg h0, if_neg h1, if_neg (by rw [hs]; decide)])
    · have hs : sharesB ts U = true := by simpa using hb
      refine ld "good" [] (D := { nx := fun _ _ => True, rt := Q }) (e02.trans e3) eds_nil (by decide) k (by unfold dueD; rw [if_neg h0, if_neg h1, if_pos hs]) (by unfold dueS; rw [if_neg h0, if_neg h1, if_pos hs])

theorem ev_xf {σ : L2.St} {H : Hp} {te : TE} {a C dd : Addr} {f : Str} {fs : List (Str × V)} {v : V} (h : Ev te σ H (.ref a)) (hx : H dd = some (.xd fs)) (hl : fs.lookup f = some v) : Ev (tXf a (.ref C) (some dd) C f te) σ H v := fun H1 e Q q => h H1 e _ fun H2 e2 => ⟨rfl, rfl, dd, fs, v, rfl, (e.trans e2) _ _ hx, hl, q H2 e2⟩
theorem made_none {H : Hp} {x dx l C : Addr} (h : (upd (upd H dx (.own x)) x (.ins C dx [])) l = none) : H l = none ∧ l ≠ x := by
  by_cases h1 : l = x
  · rw [h1, upd_same] at h; cases h
  · rw [upd_ne h1] at h
    by_cases h2 : l = dx
    · rw [h2, upd_same] at h; cases h
    · rw [upd_ne h2] at h; exact ⟨h, h1⟩
def goodB (ts : List Int) (U : Int) : Bool := decide (1 ≤ ts.length) && decide (ts.length ≤ 12) && sharesB ts U
theorem due_good {ts : List Int} {U : Int} : goodB ts U = true ↔ 1 ≤ ts.length ∧ ts.length ≤ 12 ∧ sharesB ts U = true := by
  unfold goodB
  rw [Bool.and_eq_true, Bool.and_eq_true, decide_eq_true_iff, decide_eq_true_iff, and_assoc]
def spTold79 (K : PySem.W.Frag) (A : Ads) : Sp := fun vs H Q _ => ∃ (a : Addr) (ts : List Int) (U : Int), vs = [.ref a] ∧ WsAt K A H a ts U ∧ Wb ts U ∧ ∀ p u w H', Ex H H' → H' p = some (.tup [u, w]) → Dp K H' u (dueD ts U) → (goodB ts U = true → NewP (fun G => TkAt A w G (U / gcI ts) (cnt ts)) H H') → Q (.ref p) H' 
theorem ok_u_law_told (T : Txt K mg A) : FnOk P w K mg base CX0 20 A.f_u_law_told A.d_u_law_told (["weights"] : List Str) (spTold79 K A) := by
  refine T.F_u_law_told.ok sc_u_law_told (fun vs H Q E h => ?_) (fun cdv Ar outer s H vs Q E hr h => ?_)
  · obtain ⟨a, ts, U, rfl, _⟩ := h
    rfl
  · obtain ⟨a, ts, U, rfl, hW, wb, k⟩ := h
    refine ⟨_, (pss_cons (ps_set (i := 1) sc_u_law_told.nd rfl (Or.inl rfl) (pe_tup (pa_cons pe_str pa_nil)))
        (pss_cons (ps_set (i := 2) sc_u_law_told.nd rfl (Or.inl rfl) pe_non)
        (pss_cons (ps_try_mas (Wo := fun _ _ _ _ => False) rfl rfl sc_u_law_told.nd takes0 (fun W pn xe tk _ => (pss_one (ps_set (i := 2) sc_u_law_told.nd rfl (Or.inl rfl) (pe_makeS T.mk_Tickets (ok_Tickets_init T) (hr.mono (by omega)) rfl T.g_Tickets (b_Tickets_init T) .nil (fun σ => passAt tk σ) (pa_cons (pv 0) pa_nil))))) (Clauses.named (i := 3) rfl rfl ⟨rfl, by decide, Or.inl T.g_BadNumber⟩ (fun a oe cls dd pn hz hf => (pss_one (ps_set (i := 1) sc_u_law_told.nd rfl (Or.inl rfl) (pe_tup (pa_cons pe_str (pa_cons (pe_xf T.xf_BadNumber T.nf_BadNumber_name hz hf (pv 3)) (pa_cons (pe_xf T.xf_BadNumber T.nf_BadNumber_value hz hf (pv 3)) pa_nil))))))) (Clauses.named (i := 3) rfl rfl ⟨rfl, by decide, Or.inl T.g_TooMany⟩ (fun a oe cls dd pn hz hf => (pss_one (ps_set (i := 1) sc_u_law_told.nd rfl (Or.inl rfl) (pe_tup (pa_cons pe_str (pa_cons (pe_xf T.xf_TooMany T.nf_TooMany_name hz hf (pv 3)) (pa_cons (pe_xf T.xf_TooMany T.nf_TooMany_most hz hf (pv 3)) pa_nil))))))) (Clauses.bare ⟨rfl, by decide, Or.inl T.g_BadShares⟩ (fun a oe cls dd pn hz hf => (pss_one (ps_set (i := 1) sc_u_law_told.nd rfl (Or.inl rfl) (pe_tup (pa_cons pe_str pa_nil))))) Clauses.nil))))
        (pss_one (ps_ret (pe_tup (pa_cons (pv 1) (pa_cons (pv 2) pa_nil)))))))), ?_⟩
    try dsimp only
    refine q_asgR (ed_tup (K := K) (ds := [.str "good"]) (eds_cons (ed_str ev_c) eds_nil) (by decide)) fun v0 H1 e1 hv0 => ?_
    try dsimp only
    refine q_asg (v := .non) ev_c fun H2 e2 => ?_
    have e02 := e1.trans e2
    have hv02 := dp_ex e2 hv0
    try dsimp only
    refine ⟨_, rfl, fun x dx hx hdx hne => ?_⟩
    have em : Ex H2 (upd (upd H2 dx (.own x)) x (.ins A.C_Tickets dx [])) := ex_made hx hdx fun b o _ h => h
    refine ⟨x, dx, a, ts, U, rfl, upd_same, hW.ex (e02.trans em), wb, fun h0 d H3 e3 hd => ?_, fun h0 d H3 e3 hd => ?_, fun hl hs H3 e3 => ?_, fun hl hs l H3 hln ho hx3 hl3 => ?_⟩
    · refine ⟨true, T.xm_BadNumber_BadNumber, fun _ ea hea => ?_, fun z => Bool.noConfusion z⟩
      refine s_asgR (ed_tup (K := K) (ds := [.str "BadNumber", .str "weights", .int 0]) (eds_cons (ed_str ev_c) (eds_cons (ed_str (ev_xf (ev_var (i := 3) rfl) hd rfl)) (eds_cons (ed_int (ev_xf (ev_var (i := 3) rfl) hd rfl)) eds_nil))) (by decide)) fun w H4 e4 hw => ?_
      have e04 := e02.trans (em.trans (e3.trans e4))
      exact ⟨_, rfl, _, rfl, by show 2 ≤ sizeLine; decide, fun p hp => k p w .non _ (e04.trans (Ex.new hp)) upd_same (dp_ex (Ex.new hp) (by unfold dueD; rw [if_pos h0]; exact hw)) fun hg => by
        have := due_good.mp hg
        exfalso
        omega⟩
    · refine ⟨false, T.xm_TooMany_BadNumber, fun z => Bool.noConfusion z, fun _ => ⟨true, T.xm_TooMany_TooMany, fun _ ea hea => ?_, fun z => Bool.noConfusion z⟩⟩
      refine s_asgR (ed_tup (K := K) (ds := [.str "TooMany", .str "weights", .int 12]) (eds_cons (ed_str ev_c) (eds_cons (ed_str (ev_xf (ev_var (i := 3) rfl) hd rfl)) (eds_cons (ed_int (ev_xf (ev_var (i := 3) rfl) hd rfl)) eds_nil))) (by decide)) fun w H4 e4 hw => ?_
      have e04 := e02.trans (em.trans (e3.trans e4))
      exact ⟨_, rfl, _, rfl, by show 2 ≤ sizeLine; decide, fun p hp => k p w .non _ (e04.trans (Ex.new hp)) upd_same (dp_ex (Ex.new hp) (by unfold dueD; rw [if_neg (by omega), if_pos h0]; exact hw)) fun hg => by
        have := due_good.mp hg
        exfalso
        omega⟩
    · refine ⟨false, T.xm_BadShares_BadNumber, fun z => Bool.noConfusion z, fun _ => ⟨false, T.xm_BadShares_TooMany, fun z => Bool.noConfusion z, fun _ => ⟨true, T.xm_BadShares_BadShares, fun _ ea hea => ?_, fun z => Bool.noConfusion z⟩⟩⟩
      refine s_asgR (ed_tup (K := K) (ds := [.str "BadShares"]) (eds_cons (ed_str ev_c) eds_nil) (by decide)) fun w H4 e4 hw => ?_
      have e04 := e02.trans (em.trans (e3.trans e4))
      exact ⟨_, rfl, _, rfl, by show 2 ≤ sizeLine; decide, fun p hp => k p w .non _ (e04.trans (Ex.new hp)) upd_same (dp_ex (Ex.new hp) (by unfold dueD; rw [if_neg (by omega), if_neg (by omega), if_neg (by rw [hs]; decide)]; exact hw)) fun hg => by
        have := due_good.mp hg
        exfalso
        rw [hs] at this; exact Bool.noConfusion this.2.2⟩
    · obtain ⟨hl2, hlx⟩ := made_none hln
      have e23 : Ex H2 H3 := ex_made hx hdx ho
      refine ⟨rfl, _, rfl, _, rfl, by show 2 ≤ sizeLine; decide, fun p hp => k p v0 (.ref x) _ (e02.trans (e23.trans (Ex.new hp))) upd_same (dp_ex (Ex.new hp) (by unfold dueD; rw [if_neg (by omega), if_neg (by omega), if_pos hs]; exact dp_ex e23 hv02)) fun _ G g => ⟨x, dx, l, rfl, g x _ (fresh_back e02 hx) (Ex.new hp _ _ hx3), g l _ (fresh_back e02 hl2) (Ex.new hp _ _ hl3)⟩⟩

theorem ev_lst4 {D : Ends} {σ : L2.St} {H : Hp} {b0 b1 b2 b3 : Bool} {t0 t1 t2 t3 : TE} {i : Nat} (h0 : Ev t0 σ H (.bl b0)) (h1 : Ev t1 σ H (.bl b1)) (h2 : Ev t2 σ H (.bl b2)) (h3 : Ev t3 σ H (.bl b3)) (k : ∀ p H1, Ex H H1 → H1 p = some (.lst [.bl b0, .bl b1, .bl b2, .bl b3]) → D.nx (σ.set i (some (.ref p))) H1) : tAsg (tLst (tCons t0 (tCons t1 (tCons t2 (tCons t3 tNil))))) (gName i) D σ H :=
  s_asgL (el_lst (ea_cons h0 (ea_cons h1 (ea_cons h2 (ea_cons h3 ea_nil)))) (by show 4 ≤ 100000; decide)) fun p H1 _ e hp => k p H1 e hp
def spClasses79 (K : PySem.W.Frag) (A : Ads) : Sp := fun vs H Q _ => ∃ (a : Addr) (ts : List Int) (U : Int), vs = [.ref a] ∧ WsAt K A H a ts U ∧ Wb ts U ∧ goodB ts U = false ∧ ∀ v H', Ex H H' → Dp K H' v (.list (.bool true :: (["BadNumber", "TooMany", "BadShares"] : List Str).map fun w => .bool (decide (w = dueS ts U)))) → Q v H' 
theorem ok_u_law_classes (T : Txt K mg A) : FnOk P w K mg base CX0 20 A.f_u_law_classes A.d_u_law_classes (["weights"] : List Str) (spClasses79 K A) := by
  refine T.F_u_law_classes.ok sc_u_law_classes (fun vs H Q E h => ?_) (fun cdv Ar outer s H vs Q E hr h => ?_)
  · obtain ⟨a, ts, U, rfl, _⟩ := h
    rfl
  · obtain ⟨a, ts, U, rfl, hW, wb, hg, k⟩ := h
    refine ⟨_, (pss_cons (ps_set (i := 1) sc_u_law_classes.nd rfl (Or.inl rfl) (pe_lst pa_nil))
        (pss_cons (ps_try_mas (Wo := fun _ _ _ _ => False) rfl rfl sc_u_law_classes.nd takes0 (fun W pn xe tk _ => (pss_one (ps_expr (pe_makeS T.mk_Tickets (ok_Tickets_init T) (hr.mono (by omega)) rfl T.g_Tickets (b_Tickets_init T) .nil (fun σ => passAt tk σ) (pa_cons (pv 0) pa_nil))))) (Clauses.named (i := 2) rfl rfl ⟨rfl, by decide, Or.inl T.g_WatchError⟩ (fun a oe cls dd pn hz hf => (pss_one (ps_set (i := 1) sc_u_law_classes.nd rfl (Or.inl rfl) (pe_lst (pa_cons (pe_callB (call_or (call_isX T.ex_BadNumber hz hf) (call_or (call_isX T.ex_TooMany hz hf) (call_isN T.ex_BadShares hz hf))) (by rfl) T.z_isinstance (by decide +kernel) (pa_cons (pv 2) (pa_cons (pe_bltn (v := .ty "ValueError") (by rfl) T.z_ValueError (by decide +kernel) rfl) pa_nil))) (pa_cons (pe_callB (call_or (call_isX T.ex_BadNumber hz hf) (call_or (call_isX T.ex_TooMany hz hf) (call_isN T.ex_BadShares hz hf))) (by rfl) T.z_isinstance (by decide +kernel) (pa_cons (pv 2) (pa_cons (pe_glob (v := .ref A.C_BadNumber) rfl T.g_BadNumber rfl) pa_nil))) (pa_cons (pe_callB (call_or (call_isX T.ex_BadNumber hz hf) (call_or (call_isX T.ex_TooMany hz hf) (call_isN T.ex_BadShares hz hf))) (by rfl) T.z_isinstance (by decide +kernel) (pa_cons (pv 2) (pa_cons (pe_glob (v := .ref A.C_TooMany) rfl T.g_TooMany rfl) pa_nil))) (pa_cons (pe_callB (call_or (call_isX T.ex_BadNumber hz hf) (call_or (call_isX T.ex_TooMany hz hf) (call_isN T.ex_BadShares hz hf))) (by rfl) T.z_isinstance (by decide +kernel) (pa_cons (pv 2) (pa_cons (pe_glob (v := .ref A.C_BadShares) rfl T.g_BadShares rfl) pa_nil))) pa_nil)))))))) Clauses.nil))
        (pss_one (ps_ret (pv 1))))), ?_⟩
    have hng : ¬ (1 ≤ ts.length ∧ ts.length ≤ 12 ∧ sharesB ts U = true) := fun z => by
      have := due_good.mpr z
      rw [hg] at this
      cases this
    try dsimp only
    refine q_asgL (xs := []) (el_lst ea_nil (by decide)) fun p0 H2 hp0 e02 hp0' => ?_
    try dsimp only
    refine ⟨_, rfl, fun x dx hx hdx hne => ?_⟩
    have em : Ex H2 (upd (upd H2 dx (.own x)) x (.ins A.C_Tickets dx [])) := ex_made hx hdx fun b o _ h => h
    refine ⟨x, dx, a, ts, U, rfl, upd_same, hW.ex (e02.trans em), wb, fun h0 d H3 e3 hd => ?_, fun h0 d H3 e3 hd => ?_, fun hl hs H3 e3 => ?_, fun hl hs l H3 hln ho hx3 hl3 => absurd ⟨hl.1, hl.2, hs⟩ hng⟩
    · refine ⟨true, T.xm_BadNumber_WatchError, fun _ ea hea => ?_, fun z => Bool.noConfusion z⟩
      try dsimp only
      refine ev_lst4 (fun G g Q q => ⟨_, rfl, .inl ⟨rfl, d, _, _, _, true, rfl, g _ _ hd, rfl, fun u h => h, T.kit_BadNumber_ValueError, q G (Ex.refl G)⟩⟩) (fun G g Q q => ⟨_, rfl, .inl ⟨rfl, d, _, _, _, true, rfl, g _ _ hd, rfl, fun u h => h, T.kit_BadNumber_BadNumber, q G (Ex.refl G)⟩⟩) (fun G g Q q => ⟨_, rfl, .inl ⟨rfl, d, _, _, _, false, rfl, g _ _ hd, rfl, fun u h => h, T.kit_BadNumber_TooMany, q G (Ex.refl G)⟩⟩) (fun G g Q q => ⟨_, rfl, .inl ⟨rfl, d, _, _, _, false, rfl, g _ _ hd, rfl, fun u h => h, T.kit_BadNumber_BadShares, q G (Ex.refl G)⟩⟩) fun p H4 e4 hp => ?_
      have e04 := e02.trans (em.trans (e3.trans e4))
      refine ⟨_, rfl, k (.ref p) H4 e04 ?_⟩
      have hS : dueS ts U = "BadNumber" := by unfold dueS; rw [if_pos h0]
      rw [hS]
      have t1 : decide (("BadNumber" : Str) = "BadNumber") = true := by decide +kernel
      have t2 : decide (("TooMany" : Str) = "BadNumber") = false := by decide +kernel
      have t3 : decide (("BadShares" : Str) = "BadNumber") = false := by decide +kernel
      show Dp K H4 (.ref p) (.list [.bool true, .bool (decide (("BadNumber" : Str) = "BadNumber")), .bool (decide (("TooMany" : Str) = "BadNumber")), .bool (decide (("BadShares" : Str) = "BadNumber"))])
      rw [t1, t2, t3]
      exact .lst (sq_of hp) (.cons (.bl _) (.cons (.bl _) (.cons (.bl _) (.cons (.bl _) .nil))))
    · refine ⟨true, T.xm_TooMany_WatchError, fun _ ea hea => ?_, fun z => Bool.noConfusion z⟩
      try dsimp only
      refine ev_lst4 (fun G g Q q => ⟨_, rfl, .inr (.inl ⟨rfl, d, _, _, _, true, rfl, g _ _ hd, rfl, fun u h => h, T.kit_TooMany_ValueError, q G (Ex.refl G)⟩)⟩) (fun G g Q q => ⟨_, rfl, .inr (.inl ⟨rfl, d, _, _, _, false, rfl, g _ _ hd, rfl, fun u h => h, T.kit_TooMany_BadNumber, q G (Ex.refl G)⟩)⟩) (fun G g Q q => ⟨_, rfl, .inr (.inl ⟨rfl, d, _, _, _, true, rfl, g _ _ hd, rfl, fun u h => h, T.kit_TooMany_TooMany, q G (Ex.refl G)⟩)⟩) (fun G g Q q => ⟨_, rfl, .inr (.inl ⟨rfl, d, _, _, _, false, rfl, g _ _ hd, rfl, fun u h => h, T.kit_TooMany_BadShares, q G (Ex.refl G)⟩)⟩) fun p H4 e4 hp => ?_
      have e04 := e02.trans (em.trans (e3.trans e4))
      refine ⟨_, rfl, k (.ref p) H4 e04 ?_⟩
      have hS : dueS ts U = "TooMany" := by unfold dueS; rw [if_neg (by omega), if_pos h0]
      rw [hS]
      have t1 : decide (("BadNumber" : Str) = "TooMany") = false := by decide +kernel
      have t2 : decide (("TooMany" : Str) = "TooMany") = true := by decide +kernel
      have t3 : decide (("BadShares" : Str) = "TooMany") = false := by decide +kernel
      show Dp K H4 (.ref p) (.list [.bool true, .bool (decide (("BadNumber" : Str) = "TooMany")), .bool (decide (("TooMany" : Str) = "TooMany")), .bool (decide (("BadShares" : Str) = "TooMany"))])
      rw [t1, t2, t3]
      exact .lst (sq_of hp) (.cons (.bl _) (.cons (.bl _) (.cons (.bl _) (.cons (.bl _) .nil))))
    · refine ⟨true, T.xm_BadShares_WatchError, fun _ ea hea => ?_, fun z => Bool.noConfusion z⟩
      try dsimp only
      refine ev_lst4 (fun G g Q q => ⟨_, rfl, .inr (.inr ⟨rfl, rfl, _, _, true, rfl, fun u h => h, T.kit_BadShares_ValueError, q G (Ex.refl G)⟩)⟩) (fun G g Q q => ⟨_, rfl, .inr (.inr ⟨rfl, rfl, _, _, false, rfl, fun u h => h, T.kit_BadShares_BadNumber, q G (Ex.refl G)⟩)⟩) (fun G g Q q => ⟨_, rfl, .inr (.inr ⟨rfl, rfl, _, _, false, rfl, fun u h => h, T.kit_BadShares_TooMany, q G (Ex.refl G)⟩)⟩) (fun G g Q q => ⟨_, rfl, .inr (.inr ⟨rfl, rfl, _, _, true, rfl, fun u h => h, T.kit_BadShares_BadShares, q G (Ex.refl G)⟩)⟩) fun p H4 e4 hp => ?_
      have e04 := e02.trans (em.trans (e3.trans e4))
      refine ⟨_, rfl, k (.ref p) H4 e04 ?_⟩
      have hS : dueS ts U = "BadShares" := by unfold dueS; rw [if_neg (by omega), if_neg (by omega), if_neg (by rw [hs]; decide)]
      rw [hS]
      have t1 : decide (("BadNumber" : Str) = "BadShares") = false := by decide +kernel
      have t2 : decide (("TooMany" : Str) = "BadShares") = false := by decide +kernel
      have t3 : decide (("BadShares" : Str) = "BadShares") = true := by decide +kernel
      show Dp K H4 (.ref p) (.list [.bool true, .bool (decide (("BadNumber" : Str) = "BadShares")), .bool (decide (("TooMany" : Str) = "BadShares")), .bool (decide (("BadShares" : Str) = "BadShares"))])
      rw [t1, t2, t3]
      exact .lst (sq_of hp) (.cons (.bl _) (.cons (.bl _) (.cons (.bl _) (.cons (.bl _) .nil))))

def tkD (cs : List Int) (D n : Int) : PyData := if 0 ≤ n ∧ n < D then .tuple [.str "index", .int ((tkt cs n).getD 0 : Nat)] else .tuple [.str "none"]
def spLTicket (K : PySem.W.Frag) (A : Ads) : Sp := fun vs H Q _ => ∃ (v : V) (D : Int) (cs : List Int) (n : Int), vs = [v, .int n] ∧ TkAt A v H D cs ∧ (∀ c ∈ cs, 0 ≤ c) ∧ cs.sum = D ∧ ∀ w H', Ex H H' → Dp K H' w (tkD cs D n) → Q w H' 
theorem ok_u_law_ticket (T : Txt K mg A) : FnOk P w K mg base CX0 8 A.f_u_law_ticket A.d_u_law_ticket (["tickets", "number"] : List Str) (spLTicket K A) := by
  refine T.F_u_law_ticket.ok sc_u_law_ticket (fun vs H Q E h => ?_) (fun cdv Ar outer s H vs Q E hr h => ?_)
  · obtain ⟨v, D, cs, n, rfl, _⟩ := h
    rfl
  · obtain ⟨v, D, cs, n, rfl, hT, hc, hs, k⟩ := h
    refine ⟨_, (pss_cons (ps_set (i := 2) sc_u_law_ticket.nd rfl (Or.inl rfl) (pe_tup (pa_cons pe_str pa_nil)))
        (pss_cons (ps_try_mas (Wo := fun _ _ _ _ => False) rfl rfl sc_u_law_ticket.nd takes0 (fun W pn xe tk _ => (pss_one (ps_set (i := 2) sc_u_law_ticket.nd rfl (Or.inl rfl) (pe_tup (pa_cons pe_str (pa_cons (pe_methS (pv 0) T.cl_Tickets T.M_Tickets_ticket (ok_Tickets_ticket T) (hr.mono (by omega)) (b_Tickets_ticket T) .nil (fun σ => passAt tk σ) (pa_cons (pv 1) pa_nil)) pa_nil)))))) (Clauses.bare ⟨rfl, by decide, Or.inl T.g_NoPlace⟩ (fun a oe cls dd pn hz hf => (pss_one (ps_set (i := 2) sc_u_law_ticket.nd rfl (Or.inl rfl) (pe_tup (pa_cons pe_str pa_nil))))) Clauses.nil))
        (pss_one (ps_ret (pv 2))))), ?_⟩
    obtain ⟨x, dx, l, rfl, h1, h2⟩ := id hT
    try dsimp only
    refine q_asgR (ed_tup (K := K) (ds := [.str "none"]) (eds_cons (ed_str ev_c) eds_nil) (by decide)) fun v0 H1 e1 hv0 => ?_
    try dsimp only
    refine ⟨_, rfl, x, dx, _, rfl, e1 _ _ h1, by rfl, _, rfl, .ref x, D, cs, n, rfl, hT.ex e1, fun hn => ?_, fun hn H2 e2 => ?_⟩
    · obtain ⟨r, hr⟩ := tkt_some hn.1 (by rw [hs]; exact hn.2)
      refine ⟨r, hr, fun H2 e2 => ⟨by show 2 ≤ sizeLine; decide, fun p hp => ⟨_, rfl, k (.ref p) _ (e1.trans (e2.trans (Ex.new hp))) ?_⟩⟩⟩
      unfold tkD
      rw [if_pos hn, hr]
      exact .tup (st_of upd_same) (.cons (.str _) (.cons (.int _) .nil))
    · refine ⟨true, T.xm_NoPlace_NoPlace, fun _ ea hea => ?_, fun z => Bool.noConfusion z⟩
      refine s_asgR (ed_tup (K := K) (ds := [.str "none"]) (eds_cons (ed_str ev_c) eds_nil) (by decide)) fun w H3 e3 hw => ⟨_, rfl, k w H3 (e1.trans (e2.trans e3)) ?_⟩
      unfold tkD
      rw [if_neg hn]
      exact hw

def mnD (cs : List Int) (i : Int) : PyData := if 0 ≤ i ∧ i < (cs.length : Int) then .tuple [.str "many", .int (cs.getD i.toNat 0)] else .tuple [.str "none"]
def spLMany (K : PySem.W.Frag) (A : Ads) : Sp := fun vs H Q _ => ∃ (v : V) (D : Int) (cs : List Int) (i : Int), vs = [v, .int i] ∧ TkAt A v H D cs ∧ ∀ w H', Ex H H' → Dp K H' w (mnD cs i) → Q w H' 
theorem ok_u_law_many (T : Txt K mg A) : FnOk P w K mg base CX0 8 A.f_u_law_many A.d_u_law_many (["tickets", "index"] : List Str) (spLMany K A) := by
  refine T.F_u_law_many.ok sc_u_law_many (fun vs H Q E h => ?_) (fun cdv Ar outer s H vs Q E hr h => ?_)
  · obtain ⟨v, D, cs, i, rfl, _⟩ := h
    rfl
  · obtain ⟨v, D, cs, i, rfl, hT, k⟩ := h
    refine ⟨_, (pss_cons (ps_set (i := 2) sc_u_law_many.nd rfl (Or.inl rfl) (pe_tup (pa_cons pe_str pa_nil)))
        (pss_cons (ps_try_mas (Wo := fun _ _ _ _ => False) rfl rfl sc_u_law_many.nd takes0 (fun W pn xe tk _ => (pss_one (ps_set (i := 2) sc_u_law_many.nd rfl (Or.inl rfl) (pe_tup (pa_cons pe_str (pa_cons (pe_methS (pv 0) T.cl_Tickets T.M_Tickets_many (ok_Tickets_many T) (hr.mono (by omega)) (b_Tickets_many T) .nil (fun σ => passAt tk σ) (pa_cons (pv 1) pa_nil)) pa_nil)))))) (Clauses.bare ⟨rfl, by decide, Or.inl T.g_NoPlace⟩ (fun a oe cls dd pn hz hf => (pss_one (ps_set (i := 2) sc_u_law_many.nd rfl (Or.inl rfl) (pe_tup (pa_cons pe_str pa_nil))))) Clauses.nil))
        (pss_one (ps_ret (pv 2))))), ?_⟩
    obtain ⟨x, dx, l, rfl, h1, h2⟩ := id hT
    try dsimp only
    refine q_asgR (ed_tup (K := K) (ds := [.str "none"]) (eds_cons (ed_str ev_c) eds_nil) (by decide)) fun v0 H1 e1 hv0 => ?_
    try dsimp only
    refine ⟨_, rfl, x, dx, _, rfl, e1 _ _ h1, by rfl, _, rfl, .ref x, D, cs, i, rfl, hT.ex e1, fun hn H2 e2 => ?_, fun hn H2 e2 => ?_⟩
    · refine ⟨by show 2 ≤ sizeLine; decide, fun p hp => ⟨_, rfl, k (.ref p) _ (e1.trans (e2.trans (Ex.new hp))) ?_⟩⟩
      unfold mnD
      rw [if_pos hn]
      exact .tup (st_of upd_same) (.cons (.str _) (.cons (.int _) .nil))
    · refine ⟨true, T.xm_NoPlace_NoPlace, fun _ ea hea => ?_, fun z => Bool.noConfusion z⟩
      refine s_asgR (ed_tup (K := K) (ds := [.str "none"]) (eds_cons (ed_str ev_c) eds_nil) (by decide)) fun w H3 e3 hw => ⟨_, rfl, k w H3 (e1.trans (e2.trans e3)) ?_⟩
      unfold mnD
      rw [if_neg hn]
      exact hw

def spDueT (K : PySem.W.Frag) : Sp := fun vs H Q _ => ∃ (a : Addr) (cs : List Int) (n : Int), vs = [.ref a, .int n] ∧ SqL K H a (cs.map V.int) ∧ cs.length ≤ 13 ∧ (∀ c ∈ cs, 0 ≤ c) ∧ ∀ w H', Ex H H' → Dp K H' w (tkD cs cs.sum n) → Q w H' 
theorem ok_u_law_due_ticket (T : Txt K mg A) : FnOk P w K mg base CX0 3 A.f_u_law_due_ticket A.d_u_law_due_ticket (["counts", "number"] : List Str) (spDueT K) := by
  refine T.F_u_law_due_ticket.ok sc_u_law_due_ticket (fun vs H Q E h => ?_) (fun cdv Ar outer s H vs Q E hr h => ?_)
  · obtain ⟨a, cs, n, rfl, _⟩ := h
    rfl
  · obtain ⟨a, cs, n, rfl, hS, hl, hc, k⟩ := h
    refine ⟨_, (pss_cons (ps_if (pt_cmpR op_lt (pv 1) pe_int (nomark _)) (pss_one (ps_ret (pe_tup (pa_cons pe_str pa_nil)))) pss_nil)
        (pss_cons (ps_for PassesOwn.never rfl (pi_range1 rfl T.z_range (pa_cons (pe_callB len_K (by rfl) T.z_len (by decide +kernel) (pa_cons (pv 0) pa_nil)) pa_nil)) (pg_name (i := 2) sc_u_law_due_ticket.nd rfl (Or.inl rfl)) (pss_cons (ps_if (pt_cmpR op_lt (pv 1) (pe_ix ix_lK (pv 0) (pv 2) (fun _ _ => rfl)) (nomark _)) (pss_one (ps_ret (pe_tup (pa_cons pe_str (pa_cons (pv 2) pa_nil))))) pss_nil)
        (pss_one (ps_set (i := 1) sc_u_law_due_ticket.nd rfl (Or.inl rfl) (pe_op op_sub (pv 1) (pe_ix ix_lK (pv 0) (pv 2) (fun _ _ => rfl)))))))
        (pss_one (ps_ret (pe_tup (pa_cons pe_str pa_nil)))))), ?_⟩
    have s0 := sum_nn hc
    try dsimp only
    refine q_when (b := decide (n < 0)) (et_test (ev_op (ev_var (i := 1) rfl) ev_c rv_I0)) (fun hb H1 e1 => ?_) (fun hb H1 e1 => ?_)
    · refine s_retR (ed_tup (K := K) (ds := [.str "none"]) (eds_cons (ed_str ev_c) eds_nil) (by decide)) fun w H2 e2 hw => k w H2 (e1.trans e2) ?_
      unfold tkD
      rw [if_neg (by have := of_decide_eq_true hb; omega)]
      exact hw
    have n0 := of_decide_eq_false hb
    try dsimp only
    refine q_forR1 (j := 2) (n := ((cs.map V.int).length : Int)) (ea_cons (ev_lenH (K := K) (ev_var (i := 0) rfl) (ex_l e1 hS)) ea_nil) (by rw [List.length_map]; omega) (fun i σ' G => ∃ (m : Int) (v2 : Option V), σ' = [some (.ref a), some (.int m), v2] ∧ Ex H G ∧ tkt cs n = (tkt (cs.drop i) m).map (· + i)) (fun G g => ⟨n, none, rfl, e1.trans g, by simp⟩) ?_ ?_
    · rintro i σ' G hi ⟨m, v2, rfl, eG, hm⟩
      rw [List.length_map] at hi
      have hil : i < cs.length := by omega
      have hcd : cs.drop i = cs.getD i 0 :: cs.drop (i + 1) := by
        rw [List.getD_eq_getElem?_getD, List.getElem?_eq_getElem hil]
        exact List.drop_eq_getElem_cons hil
      have at_ : atI (cs.map V.int) (i : Int) = some (.int (cs.getD i 0)) := atI_ints (by omega) (by omega)
      rw [hcd, show tkt (cs.getD i 0 :: cs.drop (i + 1)) m = if m < cs.getD i 0 then some 0 else (tkt (cs.drop (i + 1)) (m - cs.getD i 0)).map (· + 1) from rfl] at hm
      try dsimp only
      refine q_when (b := decide (m < cs.getD i 0)) (et_test (ev_op (ev_var (i := 1) rfl) (ev_op (ev_var (i := 0) rfl) (ev_var (i := 2) rfl) (rv_ixL (K := K) (ex_l eG hS) at_)) rv_I0)) (fun hb G1 g1 => ?_) (fun hb G1 g1 => ?_)
      · rw [if_pos (of_decide_eq_true hb)] at hm
        have hm2 : tkt cs n = some i := by
          rw [hm]
          simp
        refine s_retR (ed_tup (K := K) (ds := [.str "index", .int (i : Int)]) (eds_cons (ed_str ev_c) (eds_cons (ed_int (ev_var (i := 2) rfl)) eds_nil)) (by show 2 ≤ 1000; decide)) fun w H2 e2 hw => k w H2 (eG.trans (g1.trans e2)) ?_
        unfold tkD
        have : n < cs.sum := by
          by_cases z : n < cs.sum
          · exact z
          · rw [tkt_none hc (by omega)] at hm2; cases hm2
        rw [if_pos ⟨by omega, this⟩, hm2]
        exact hw
      · rw [if_neg (of_decide_eq_false hb)] at hm
        refine s_asg (v := .int (m - cs.getD i 0)) (ev_op (ev_var (i := 1) rfl) (ev_op (ev_var (i := 0) rfl) (ev_var (i := 2) rfl) (rv_ixL (K := K) (ex_l (eG.trans g1) hS) at_)) rv_I0) fun G2 g2 => ⟨_, _, rfl, eG.trans (g1.trans g2), ?_⟩
        rw [hm, Option.map_map]
        congr 1
        funext z
        show z + 1 + i = z + (i + 1)
        omega
    rintro σ' G ⟨m, v2, rfl, eG, hm⟩
    rw [Int.toNat_natCast, List.length_map, List.drop_length] at hm
    have hm2 : tkt cs n = none := hm
    try dsimp only
    refine s_retR (ed_tup (K := K) (ds := [.str "none"]) (eds_cons (ed_str ev_c) eds_nil) (by decide)) fun w H2 e2 hw => k w H2 (eG.trans e2) ?_
    unfold tkD
    rw [if_neg (fun z => by
      obtain ⟨r, hr⟩ := tkt_some z.1 z.2
      rw [hm2] at hr
      cases hr)]
    exact hw

/-- a list that is held, joined with a new one -/
theorem el_catH {σ : L2.St} {H : Hp} {ta tb : TE} {p : Addr} {xs ys : List V} (h1 : Ev ta σ H (.ref p)) (hp : H p = some (.lst xs)) (h2 : EvL tb σ H ys) (hz : xs.length + ys.length ≤ 100000) : EvL (tOp rCat ta tb) σ H (xs ++ ys) := fun H1 e Q q =>
  h1 H1 e _ fun H2 e2 => h2 H2 (e.trans e2) _ fun b H3 hb e3 g3 => ⟨p, b, xs, ys, rfl, rfl, ((e.trans e2).trans e3) _ _ hp, g3, Evl.sz_of hz, fun r hr => q r _ (fresh_back (e2.trans e3) hr) ((e2.trans e3).trans (Ex.new hr)) upd_same⟩
def spNumbers79 (K : PySem.W.Frag) : Sp := fun vs H Q _ => ∃ (a b : Addr) (cs ds : List Int), vs = [.ref a, .ref b] ∧ SqL K H a (cs.map V.int) ∧ SqL K H b (ds.map V.int) ∧ cs.length ≤ 13 ∧ ds.length = 6 ∧ 0 ≤ cs.sum ∧ ∀ (p : Addr) (ns : List Int) H', H p = none → Ex H H' → H' p = some (.lst (ns.map V.int)) → ns.length ≤ 100 → Q (.ref p) H' 
theorem ok_u_law_numbers (T : Txt K mg A) : FnOk P w K mg base CX0 3 A.f_u_law_numbers A.d_u_law_numbers (["counts", "drawn"] : List Str) (spNumbers79 K) := by
  refine T.F_u_law_numbers.ok sc_u_law_numbers (fun vs H Q E h => ?_) (fun cdv Ar outer s H vs Q E hr h => ?_)
  · obtain ⟨a, b, cs, ds, rfl, _⟩ := h
    rfl
  · obtain ⟨a, b, cs, ds, rfl, hS, hT, hl, hm, h0, k⟩ := h
    refine ⟨_, (pss_cons (ps_set (i := 2) sc_u_law_numbers.nd rfl (Or.inr rfl) (pe_callB (cr_sumK rfl) (by rfl) T.z_sum (by decide +kernel) (pa_cons (pv 0) pa_nil)))
        (pss_cons (ps_if (pt_cmpR op_le (pv 2) pe_int (nomark _)) (pss_one (ps_ret (pe_lc (own := [("number", 3)]) (g := gName 3) (tt := tYes) rfl sc_u_law_numbers.nd (pi_range1 rfl T.z_range (pa_cons (pe_op op_add (pv 2) pe_int) pa_nil)) (blkOk_by (own := [("number", 3)]) (N := N_u_law_numbers) (sc := defScope s_u_law_numbers) (by decide +kernel)) (fun _ _ _ _ _ => (pg_name (i := 3) sc_u_law_numbers.nd rfl (Or.inl rfl))) (fun _ _ _ _ _ => pts_nil) (fun _ _ _ _ _ => (pe_op op_sub (pv 3) pe_int))))) pss_nil)
        (pss_cons (ps_set (i := 4) sc_u_law_numbers.nd rfl (Or.inl rfl) (pe_lst (pa_cons (pe_op op_sub (pe_op op_sub pe_int pe_int) (pv 2)) (pa_cons (pe_op op_sub pe_int pe_int) (pa_cons (pv 2) (pa_cons (pe_op op_add (pv 2) pe_int) pa_nil))))))
        (pss_cons (ps_set (i := 5) sc_u_law_numbers.nd rfl (Or.inl rfl) pe_int)
        (pss_cons (ps_for PassesOwn.never rfl (pi_listK (pv 0)) (pg_name (i := 6) sc_u_law_numbers.nd rfl (Or.inl rfl)) (pss_cons (ps_set (i := 4) sc_u_law_numbers.nd rfl (Or.inl rfl) (pe_op op_cat (pv 4) (pe_lst (pa_cons (pv 5) (pa_cons (pe_op op_sub (pe_op op_add (pv 5) (pv 6)) pe_int) (pa_cons (pe_op op_add (pv 5) (pe_op op_fdivW (pv 6) pe_int)) pa_nil))))))
        (pss_one (ps_set (i := 5) sc_u_law_numbers.nd rfl (Or.inl rfl) (pe_op op_add (pv 5) (pv 6))))))
        (pss_one (ps_ret (pe_op op_cat (pv 4) (pe_lc (own := [("number", 3)]) (g := gName 3) (tt := tYes) rfl sc_u_law_numbers.nd (pi_listK (pv 1)) (blkOk_by (own := [("number", 3)]) (N := N_u_law_numbers) (sc := defScope s_u_law_numbers) (by decide +kernel)) (fun _ _ _ _ _ => (pg_name (i := 3) sc_u_law_numbers.nd rfl (Or.inl rfl))) (fun _ _ _ _ _ => pts_nil) (fun _ _ _ _ _ => (pe_op op_mod (pe_callTy call_int1 (by rfl) T.z_int (by decide +kernel) (pa_cons (pv 3) pa_nil)) (pv 2)))))))))))), ?_⟩
    try dsimp only
    refine q_asg (v := .int cs.sum) (ev_sumH (K := K) (ev_var (i := 0) rfl) hS) fun H1 e1 => ?_
    try dsimp only
    refine q_when (b := decide (cs.sum ≤ 60)) (et_test (ev_op (ev_var (i := 2) rfl) ev_c rv_I0)) (fun hb H2 e2 => ?_) (fun hb H2 e2 => ?_)
    · have hb := of_decide_eq_true hb
      exact s_retL (el_lcR1 (n := cs.sum + 4) (fun _ => true) (fun i => .int ((i : Int) - 2)) (ea_cons (ev_op (ev_var (i := 2) rfl) ev_c rv_I0) ea_nil) (by omega) (fun x => rfl) (fun i G1 g1 hi => yes_T) fun i G1 g1 hi _ => ev_op (ev_var (i := 3) rfl) ev_c rv_I0) fun p H3 hp e3 h3 => k p ((List.range (cs.sum + 4).toNat).map fun i : Nat => (i : Int) - 2) H3 (fresh_back (e1.trans e2) hp) (e1.trans (e2.trans e3)) (by rw [h3, given_all, List.map_map]; rfl) (by rw [List.length_map, List.length_range]; omega)
    have hb := of_decide_eq_false hb
    have e02 := e1.trans e2
    try dsimp only
    refine q_asgL (xs := ([0 - 1 - cs.sum, 0 - 1, cs.sum, cs.sum + 1] : List Int).map V.int) (el_lst (ea_cons (ev_op (ev_op ev_c ev_c rv_I0) (ev_var (i := 2) rfl) rv_I0) (ea_cons (ev_op ev_c ev_c rv_I0) (ea_cons (ev_var (i := 2) rfl) (ea_cons (ev_op (ev_var (i := 2) rfl) ev_c rv_I0) ea_nil)))) (by show 4 ≤ 100000; decide)) fun fp H3 hfp e3 h3 => ?_
    have e03 := e02.trans e3
    try dsimp only
    refine q_asg (v := .int 0) ev_c fun H4 e4 => ?_
    have e04 := e03.trans e4
    try dsimp only
    refine q_forLn (K := K) (a := a) (xs := cs.map V.int) (j := 6) (ev_var (i := 0) rfl) (ex_l e04 hS) (fun i σ' G => ∃ (fp : Addr) (st : Int) (v6 : Option V) (ns : List Int), σ' = [some (.ref a), some (.ref b), some (.int cs.sum), none, some (.ref fp), some (.int st), v6] ∧ Ex H G ∧ G fp = some (.lst (ns.map V.int)) ∧ ns.length = 4 + 3 * i) (fun G g => ⟨fp, 0, none, _, rfl, e04.trans g, g _ _ (e4 _ _ h3), by rfl⟩) (fun i σ' G _ ⟨_, _, _, _, _, e, _⟩ => ex_l e hS) ?_ ?_
    · rintro i y σ' G hy ⟨fp, st, v6, ns, rfl, eG, hfp, hl4⟩
      obtain ⟨c, rfl, hc⟩ := some_int hy
      have hi : i < cs.length := (List.getElem?_eq_some_iff.mp hc).1
      try dsimp only
      refine q_asgL (xs := (ns ++ [st, st + c - 1, st + c / 2]).map V.int) (el_isW (el_catH (ev_var (i := 4) rfl) hfp (el_lst (ea_cons (ev_var (i := 5) rfl) (ea_cons (ev_op (ev_op (ev_var (i := 5) rfl) (ev_var (i := 6) rfl) rv_I0) ev_c rv_I0) (ea_cons (ev_op (ev_var (i := 5) rfl) (ev_op (ev_var (i := 6) rfl) ev_c (rv_I (wide_div (b := 3) (by decide) (by decide) (by decide) (by decide)))) rv_I0) ea_nil))) (by show 3 ≤ 100000; decide)) (by simp only [List.length_map, List.length_cons, List.length_nil]; omega)) (by rw [List.map_append]; rfl)) fun qp G1 hq g1 hq1 => ?_
      try dsimp only
      exact s_asg (v := .int (st + c)) (ev_op (ev_var (i := 5) rfl) (ev_var (i := 6) rfl) rv_I0) fun G2 g2 => ⟨qp, _, _, _, rfl, eG.trans (g1.trans g2), g2 _ _ hq1, by simp only [List.length_append, List.length_cons, List.length_nil]; omega⟩
    rintro σ' G ⟨fp, st, v6, ns, rfl, eG, hfp, hl4⟩
    rw [List.length_map] at hl4
    try dsimp only
    exact s_retL (xs := (ns ++ ds.map fun d => d % cs.sum).map V.int) (el_isW (el_catH (ev_var (i := 4) rfl) hfp (el_mapA (K := K) ds (fun d => d % cs.sum) (ev_var (i := 1) rfl) (ex_l eG hT) (by omega) (fun x => rfl) fun x G1 g1 hx => ev_op (ev_int (ev_var (i := 3) rfl)) (ev_var (i := 2) rfl) (rv_I (show 0 < cs.sum by omega))) (by simp only [List.length_map]; omega)) (by rw [List.map_append])) fun p G1 hp g1 h1 => k p _ G1 (fresh_back eG hp) (eG.trans g1) h1 (by rw [List.length_append, List.length_map]; omega)

theorem el_rev {K : PySem.W.Frag} {te : TE} {σ : L2.St} {H : Hp} {a : Addr} {xs : List V} (h : Ev te σ H (.ref a)) (hs : SqL K H a xs) : EvL (tRevL K te) σ H xs.reverse := fun H1 e Q q =>
  h H1 e _ fun H2 e2 => ⟨a, _, rfl, ex_l (e.trans e2) hs, fun p hp => q p _ (fresh_back e2 hp) (e2.trans (Ex.new hp)) (by rw [upd_same])⟩
theorem ed_many {K : PySem.W.Frag} {A : Ads} {E : XK} {σ : L2.St} {H : Hp} {i : Nat} {tk : TE} {v : V} {D k : Int} {cs : List Int} (hi : σ[i]? = some (some v)) (hk : Ev tk σ H (.int k)) (hT : TkAt A v H D cs) : EvR (tCall (spLMany K A) [] E (tCons (tVar i) (tCons tk tNil))) σ H fun w H1 => Dp K H1 w (mnD cs k) :=
  er_call (ea_cons (ev_var hi) (ea_cons hk ea_nil)) fun H1 e Q q => ⟨v, D, cs, k, rfl, hT.ex e, fun w H' e' hw => q w H' e' hw⟩
theorem ed_tick {K : PySem.W.Frag} {A : Ads} {E : XK} {σ : L2.St} {H : Hp} {i : Nat} {tk : TE} {v : V} {D k : Int} {cs : List Int} (hi : σ[i]? = some (some v)) (hk : Ev tk σ H (.int k)) (hT : TkAt A v H D cs) (hc : ∀ c ∈ cs, 0 ≤ c) (hs : cs.sum = D) : EvR (tCall (spLTicket K A) [] E (tCons (tVar i) (tCons tk tNil))) σ H fun w H1 => Dp K H1 w (tkD cs cs.sum k) :=
  er_call (ea_cons (ev_var hi) (ea_cons hk ea_nil)) fun H1 e Q q => ⟨v, D, cs, k, rfl, hT.ex e, hc, hs, fun w H' e' hw => q w H' e' (by rw [hs]; exact hw)⟩
theorem ed_dueT {K : PySem.W.Frag} {E : XK} {σ : L2.St} {H : Hp} {i : Nat} {tk : TE} {a : Addr} {k : Int} {cs : List Int} (hi : σ[i]? = some (some (.ref a))) (hk : Ev tk σ H (.int k)) (hS : SqL K H a (cs.map V.int)) (hl : cs.length ≤ 13) (hc : ∀ c ∈ cs, 0 ≤ c) : EvR (tCall (spDueT K) [] E (tCons (tVar i) (tCons tk tNil))) σ H fun w H1 => Dp K H1 w (tkD cs cs.sum k) :=
  er_call (ea_cons (ev_var hi) (ea_cons hk ea_nil)) fun H1 e Q q => ⟨a, cs, k, rfl, ex_l e hS, hl, hc, fun w H' e' hw => q w H' e' hw⟩
theorem flat_tk {cs : List Int} {D k : Int} : Flat 4 (tkD cs D k) := by
  unfold tkD
  split
  · exact ⟨by show 2 ≤ 40000; decide, fun d hd => by
      simp only [List.mem_cons, List.not_mem_nil, or_false] at hd
      rcases hd with rfl | rfl <;> exact True.intro⟩
  · exact ⟨by show 1 ≤ 40000; decide, fun d hd => by
      simp only [List.mem_cons, List.not_mem_nil, or_false] at hd
      subst hd
      exact True.intro⟩
theorem flat_mn {cs : List Int} {k : Int} : Flat 3 (mnD cs k) := by
  unfold mnD
  split
  · exact ⟨by show 2 ≤ 40000; decide, fun d hd => by
      simp only [List.mem_cons, List.not_mem_nil, or_false] at hd
      rcases hd with rfl | rfl <;> exact True.intro⟩
  · exact ⟨by show 1 ≤ 40000; decide, fun d hd => by
      simp only [List.mem_cons, List.not_mem_nil, or_false] at hd
      subst hd
      exact True.intro⟩
theorem flat_mn4 {cs : List Int} {k : Int} : Flat 4 (mnD cs k) := by
  unfold mnD
  split
  · exact ⟨by show 2 ≤ 40000; decide, fun d hd => by
      simp only [List.mem_cons, List.not_mem_nil, or_false] at hd
      rcases hd with rfl | rfl <;> exact True.intro⟩
  · exact ⟨by show 1 ≤ 40000; decide, fun d hd => by
      simp only [List.mem_cons, List.not_mem_nil, or_false] at hd
      subst hd
      exact True.intro⟩
theorem flat_l2 {a b : PyData} (ha : Flat 3 a) (hb : Flat 3 b) : Flat 4 (.list [a, b]) := ⟨by show 2 ≤ 40000; decide, fun d hd => by
  simp only [List.mem_cons, List.not_mem_nil, or_false] at hd
  rcases hd with rfl | rfl
  · exact ha
  · exact hb⟩
theorem getD_rev {cs : List Int} {i : Nat} (h : i < cs.length) : (cs.map V.int).reverse[i]? = some (V.int (cs.reverse.getD i 0)) := by
  rw [← List.map_reverse, List.getElem?_map, List.getD_eq_getElem?_getD, List.getElem?_eq_getElem (by rw [List.length_reverse]; exact h)]
  rfl
def spRight79 (K : PySem.W.Frag) (A : Ads) : Sp := fun vs H Q _ => ∃ (v w : V) (a b : Addr) (cs ds : List Int), vs = [v, w, .ref a, .ref b] ∧ TkAt A v H cs.sum cs ∧ TkAt A w H cs.sum cs.reverse ∧ SqL K H a (cs.map V.int) ∧ SqL K H b (ds.map V.int) ∧ cs.length ≤ 13 ∧ ds.length = 6 ∧ (∀ c ∈ cs, 0 ≤ c) ∧ ∀ H', Ex H H' → Q (.bl true) H' 
theorem ok_u_law_right (T : Txt K mg A) : FnOk P w K mg base CX0 12 A.f_u_law_right A.d_u_law_right (["tickets", "other", "counts", "drawn"] : List Str) (spRight79 K A) := by
  refine T.F_u_law_right.ok sc_u_law_right (fun vs H Q E h => ?_) (fun cdv Ar outer s H vs Q E hr h => ?_)
  · obtain ⟨v, w, a, b, cs, ds, rfl, _⟩ := h
    rfl
  · obtain ⟨v, w, a, b, cs, ds, rfl, h1, h2, hS, hT, hl, hm, hc, k⟩ := h
    refine ⟨_, (pss_cons (ps_set (i := 4) sc_u_law_right.nd rfl (Or.inl rfl) (pe_callB (cr_sumK rfl) (by rfl) T.z_sum (by decide +kernel) (pa_cons (pv 2) pa_nil)))
        (pss_cons (ps_set (i := 5) sc_u_law_right.nd rfl (Or.inl rfl) (pe_revL (pv 2)))
        (pss_cons (ps_if (pt_not (pt_val (pe_call (ok_u_law_same T) (hr.mono (by omega)) rfl T.g_u_law_same T.k_u_law_same (b_u_law_same T) .nil pass0 (pa_cons (pe_lst (pa_cons (pe_fldK (pv 0) rfl) (pa_cons (pe_fldK (pv 1) rfl) pa_nil))) (pa_cons (pe_lst (pa_cons (pv 4) (pa_cons (pv 4) pa_nil))) pa_nil))))) (pss_one (ps_ret pe_bl)) pss_nil)
        (pss_cons (ps_for PassesOwn.never rfl (pi_range1 rfl T.z_range (pa_cons (pe_callB len_K (by rfl) T.z_len (by decide +kernel) (pa_cons (pv 2) pa_nil)) pa_nil)) (pg_name (i := 6) sc_u_law_right.nd rfl (Or.inl rfl)) (pss_cons (ps_if (pt_not (pt_val (pe_call (ok_u_law_same T) (hr.mono (by omega)) rfl T.g_u_law_same T.k_u_law_same (b_u_law_same T) .nil pass0 (pa_cons (pe_call (ok_u_law_many T) (hr.mono (by omega)) rfl T.g_u_law_many T.k_u_law_many (b_u_law_many T) .nil pass0 (pa_cons (pv 0) (pa_cons (pv 6) pa_nil))) (pa_cons (pe_tup (pa_cons pe_str (pa_cons (pe_ix ix_lK (pv 2) (pv 6) (fun _ _ => rfl)) pa_nil))) pa_nil))))) (pss_one (ps_ret pe_bl)) pss_nil)
        (pss_one (ps_if (pt_not (pt_val (pe_call (ok_u_law_same T) (hr.mono (by omega)) rfl T.g_u_law_same T.k_u_law_same (b_u_law_same T) .nil pass0 (pa_cons (pe_call (ok_u_law_many T) (hr.mono (by omega)) rfl T.g_u_law_many T.k_u_law_many (b_u_law_many T) .nil pass0 (pa_cons (pv 1) (pa_cons (pv 6) pa_nil))) (pa_cons (pe_tup (pa_cons pe_str (pa_cons (pe_ix ix_lK (pv 5) (pv 6) (fun _ _ => rfl)) pa_nil))) pa_nil))))) (pss_one (ps_ret pe_bl)) pss_nil))))
        (pss_cons (ps_for PassesOwn.never rfl (pi_listK (pe_lst (pa_cons (pe_op op_sub pe_int pe_int) (pa_cons (pe_callB len_K (by rfl) T.z_len (by decide +kernel) (pa_cons (pv 2) pa_nil)) (pa_cons (pe_op op_sub pe_int (pe_callB len_K (by rfl) T.z_len (by decide +kernel) (pa_cons (pv 2) pa_nil))) (pa_cons (pe_op op_add (pe_callB len_K (by rfl) T.z_len (by decide +kernel) (pa_cons (pv 2) pa_nil)) pe_int) pa_nil)))))) (pg_name (i := 6) sc_u_law_right.nd rfl (Or.inl rfl)) (pss_one (ps_if (pt_not (pt_val (pe_call (ok_u_law_same T) (hr.mono (by omega)) rfl T.g_u_law_same T.k_u_law_same (b_u_law_same T) .nil pass0 (pa_cons (pe_lst (pa_cons (pe_call (ok_u_law_many T) (hr.mono (by omega)) rfl T.g_u_law_many T.k_u_law_many (b_u_law_many T) .nil pass0 (pa_cons (pv 0) (pa_cons (pv 6) pa_nil))) (pa_cons (pe_call (ok_u_law_many T) (hr.mono (by omega)) rfl T.g_u_law_many T.k_u_law_many (b_u_law_many T) .nil pass0 (pa_cons (pv 1) (pa_cons (pv 6) pa_nil))) pa_nil))) (pa_cons (pe_lst (pa_cons (pe_tup (pa_cons pe_str pa_nil)) (pa_cons (pe_tup (pa_cons pe_str pa_nil)) pa_nil))) pa_nil))))) (pss_one (ps_ret pe_bl)) pss_nil)))
        (pss_cons (ps_for PassesOwn.never rfl (pi_listK (pe_call (ok_u_law_numbers T) (hr.mono (by omega)) rfl T.g_u_law_numbers T.k_u_law_numbers (b_u_law_numbers T) .nil pass0 (pa_cons (pv 2) (pa_cons (pv 3) pa_nil)))) (pg_name (i := 7) sc_u_law_right.nd rfl (Or.inl rfl)) (pss_cons (ps_if (pt_not (pt_val (pe_call (ok_u_law_same T) (hr.mono (by omega)) rfl T.g_u_law_same T.k_u_law_same (b_u_law_same T) .nil pass0 (pa_cons (pe_call (ok_u_law_ticket T) (hr.mono (by omega)) rfl T.g_u_law_ticket T.k_u_law_ticket (b_u_law_ticket T) .nil pass0 (pa_cons (pv 0) (pa_cons (pv 7) pa_nil))) (pa_cons (pe_call (ok_u_law_due_ticket T) (hr.mono (by omega)) rfl T.g_u_law_due_ticket T.k_u_law_due_ticket (b_u_law_due_ticket T) .nil pass0 (pa_cons (pv 2) (pa_cons (pv 7) pa_nil))) pa_nil))))) (pss_one (ps_ret pe_bl)) pss_nil)
        (pss_one (ps_if (pt_not (pt_val (pe_call (ok_u_law_same T) (hr.mono (by omega)) rfl T.g_u_law_same T.k_u_law_same (b_u_law_same T) .nil pass0 (pa_cons (pe_call (ok_u_law_ticket T) (hr.mono (by omega)) rfl T.g_u_law_ticket T.k_u_law_ticket (b_u_law_ticket T) .nil pass0 (pa_cons (pv 1) (pa_cons (pv 7) pa_nil))) (pa_cons (pe_call (ok_u_law_due_ticket T) (hr.mono (by omega)) rfl T.g_u_law_due_ticket T.k_u_law_due_ticket (b_u_law_due_ticket T) .nil pass0 (pa_cons (pv 5) (pa_cons (pv 7) pa_nil))) pa_nil))))) (pss_one (ps_ret pe_bl)) pss_nil))))
        (pss_one (ps_ret pe_bl)))))))), ?_⟩
    have sr : cs.reverse.sum = cs.sum := List.sum_reverse _
    have cr : ∀ c ∈ cs.reverse, 0 ≤ c := fun c h => hc c (List.mem_reverse.mp h)
    have lr : cs.reverse.length = cs.length := List.length_reverse
    obtain ⟨x, dx, l, rfl, hx, hxl⟩ := id h1
    obtain ⟨y, dy, m, rfl, hy, hyl⟩ := id h2
    try dsimp only
    refine q_asg (v := .int cs.sum) (ev_sumH (K := K) (ev_var (i := 2) rfl) hS) fun H1 e1 => ?_
    try dsimp only
    refine q_asgL (xs := cs.reverse.map V.int) (el_isW (el_rev (K := K) (ev_var (i := 2) rfl) (ex_l e1 hS)) (by rw [List.map_reverse])) fun bp H2 hbp e2 hb2 => ?_
    have e02 := e1.trans e2
    try dsimp only
    refine q_skip (et_notT (et_B (ev_same (K := K) (d := .list [.int cs.sum, .int cs.sum]) (ed_lst (eds_cons (ed_int (ev_fldQ (K := K) (ev_var (i := 0) rfl) (e02 _ _ hx) T.cl_Tickets T.na_Tickets_total (by rfl))) (eds_cons (ed_int (ev_fldQ (K := K) (ev_var (i := 1) rfl) (e02 _ _ hy) T.cl_Tickets T.na_Tickets_total (by rfl))) eds_nil)) (by show 2 ≤ 1000; decide)) (ed_lst (eds_cons (ed_int (ev_var (i := 4) rfl)) (eds_cons (ed_int (ev_var (i := 4) rfl)) eds_nil)) (by show 2 ≤ 1000; decide)) (flat_l2 True.intro True.intro)))) fun H3 e3 => ?_
    have e03 := e02.trans e3
    have hb3 := e3 _ _ hb2
    have lenE : ∀ {σ : L2.St} {G : Hp}, σ[2]? = some (some (.ref a)) → Ex H G → Ev (tCB (rLenK K) (tCons (tVar 2) tNil)) σ G (.int (cs.length : Int)) := fun hσ g => ev_is (ev_lenH (K := K) (ev_var hσ) (ex_l g hS)) (by rw [List.length_map])
    have ixS : ∀ {xs : List Int} {i : Nat}, i < xs.length → atI (xs.map V.int) (i : Int) = some (.int (xs.getD i 0)) := fun h => atI_ints (by omega) (by omega)
    try dsimp only
    refine q_forR1 (j := 6) (n := (cs.length : Int)) (ea_cons (lenE rfl e03) ea_nil) (by omega) (fun i σ' G => ∃ v6 : Option V, σ' = [some (.ref x), some (.ref y), some (.ref a), some (.ref b), some (.int cs.sum), some (.ref bp), v6, none] ∧ Ex H G ∧ G bp = some (.lst (cs.reverse.map V.int))) (fun G g => ⟨none, rfl, e03.trans g, g _ _ hb3⟩) ?_ ?_
    · rintro i σ' G hi ⟨v6, rfl, eG, hbG⟩
      have hi' : i < cs.length := by omega
      have m1 : mnD cs (i : Int) = .tuple [.str "many", .int (cs.getD i 0)] := by
        unfold mnD
        rw [if_pos (by omega), Int.toNat_natCast]
      have m2 : mnD cs.reverse (i : Int) = .tuple [.str "many", .int (cs.reverse.getD i 0)] := by
        unfold mnD
        rw [if_pos (by rw [lr]; omega), Int.toNat_natCast]
      try dsimp only
      refine q_skip (et_notT (et_B (ev_same (K := K) (d := mnD cs (i : Int)) (ed_many (i := 0) rfl (ev_var (i := 6) rfl) (h1.ex eG)) (by rw [m1]; exact ed_tup (eds_cons (ed_str ev_c) (eds_cons (ed_int (ev_op (ev_var (i := 2) rfl) (ev_var (i := 6) rfl) (rv_ixL (K := K) (ex_l eG hS) (ixS hi')))) eds_nil)) (by show 2 ≤ 1000; decide)) flat_mn4))) fun G1 g1 => ?_
      have eG1 := eG.trans g1
      try dsimp only
      refine s_when (b := false) (et_notT (et_B (ev_same (K := K) (d := mnD cs.reverse (i : Int)) (ed_many (i := 1) rfl (ev_var (i := 6) rfl) (h2.ex eG1)) (by rw [m2]; exact ed_tup (eds_cons (ed_str ev_c) (eds_cons (ed_int (ev_op (ev_var (i := 5) rfl) (ev_var (i := 6) rfl) (rv_ixL (K := K) (sq_of (g1 _ _ hbG)) (ixS (by omega))))) eds_nil)) (by show 2 ≤ 1000; decide)) flat_mn4))) (fun z => Bool.noConfusion z) fun _ G2 g2 => ⟨_, rfl, eG1.trans g2, (g1.trans g2) _ _ hbG⟩
    rintro σ' G ⟨v6, rfl, eG, hbG⟩
    try dsimp only
    refine q_forNLn (K := K) (j := 6) (xs := ([0 - 1, (cs.length : Int), 0 - (cs.length : Int), (cs.length : Int) + 5] : List Int).map V.int) (el_lst (ea_cons (ev_op ev_c ev_c rv_I0) (ea_cons (lenE rfl eG) (ea_cons (ev_op ev_c (lenE rfl eG) rv_I0) (ea_cons (ev_op (lenE rfl eG) ev_c rv_I0) ea_nil)))) (by show 4 ≤ 100000; decide)) (fun p i σ' G => ∃ v6 : Option V, σ' = [some (.ref x), some (.ref y), some (.ref a), some (.ref b), some (.int cs.sum), some (.ref bp), v6, none] ∧ Ex H G ∧ G bp = some (.lst (cs.reverse.map V.int)) ∧ G p = some (.lst (([0 - 1, (cs.length : Int), 0 - (cs.length : Int), (cs.length : Int) + 5] : List Int).map V.int))) (fun p G1 hp g1 hp1 => ⟨_, rfl, eG.trans g1, g1 _ _ hbG, hp1⟩) (fun p i σ' G1 _ ⟨_, _, _, _, hp⟩ => sq_of hp) ?_ ?_
    · rintro p i w σ' G1 hw ⟨v6, rfl, eG1, hb1, hp1⟩
      obtain ⟨z, rfl, hz⟩ := some_int hw
      have hzz : ¬ (0 ≤ z ∧ z < (cs.length : Int)) := by
        have := List.mem_of_getElem? hz
        simp only [List.mem_cons, List.not_mem_nil, or_false] at this
        omega
      have m1 : mnD cs z = .tuple [.str "none"] := by
        unfold mnD
        rw [if_neg hzz]
      have m2 : mnD cs.reverse z = .tuple [.str "none"] := by
        unfold mnD
        rw [if_neg (by rw [lr]; exact hzz)]
      have non : ∀ {σ : L2.St} {G : Hp}, EvR (tTup (tCons (tC (.str "none")) tNil)) σ G fun v H1 => Dp K H1 v (.tuple [.str "none"]) := ed_tup (eds_cons (ed_str ev_c) eds_nil) (by decide)
      try dsimp only
      exact s_when (b := false) (et_notT (et_B (ev_same (K := K) (d := .list [mnD cs z, mnD cs.reverse z]) (ed_lst (eds_cons (ed_many (i := 0) rfl (ev_var (i := 6) rfl) (h1.ex eG1)) (eds_cons (ed_many (i := 1) rfl (ev_var (i := 6) rfl) (h2.ex eG1)) eds_nil)) (by show 2 ≤ 1000; decide)) (by rw [m1, m2]; exact ed_lst (eds_cons non (eds_cons non eds_nil)) (by show 2 ≤ 1000; decide)) (flat_l2 flat_mn flat_mn)))) (fun z => Bool.noConfusion z) fun _ G2 g2 => ⟨_, rfl, eG1.trans g2, g2 _ _ hb1, g2 _ _ hp1⟩
    rintro p0 σ' G0 ⟨v6, rfl, eG0, hb0, _⟩
    try dsimp only
    refine q_forVia (P := fun v H1 => ∃ (p : Addr) (ns : List Int), v = .ref p ∧ H1 p = some (.lst (ns.map V.int))) (er_call (ea_cons (ev_var (i := 2) rfl) (ea_cons (ev_var (i := 3) rfl) ea_nil)) fun G1 g1 Q q => ⟨a, b, cs, ds, rfl, ex_l (eG0.trans g1) hS, ex_l (eG0.trans g1) hT, hl, hm, sum_nn hc, fun p ns H' _ e' hp _ => q _ H' e' ⟨p, ns, rfl, hp⟩⟩) fun v G1 g1 hv => ?_
    obtain ⟨p, ns, rfl, hp⟩ := hv
    replace eG0 := eG0.trans g1
    replace hb0 := g1 _ _ hb0
    try dsimp only
    refine q_forLn (K := K) (a := p) (xs := ns.map V.int) (j := 7) ev_c (sq_of hp) (fun i σ' G => ∃ v7 : Option V, σ' = [some (.ref x), some (.ref y), some (.ref a), some (.ref b), some (.int cs.sum), some (.ref bp), v6, v7] ∧ Ex G1 G) (fun G g => ⟨_, rfl, g⟩) (fun i σ' G _ ⟨_, _, g⟩ => sq_of (g _ _ hp)) ?_ ?_
    · rintro i w σ' G hw ⟨v7, rfl, g⟩
      obtain ⟨z, rfl, hz⟩ := some_int hw
      have eG := eG0.trans g
      try dsimp only
      refine q_skip (et_notT (et_B (ev_same (K := K) (d := tkD cs cs.sum z) (ed_tick (i := 0) rfl (ev_var (i := 7) rfl) (h1.ex eG) hc rfl) (ed_dueT (i := 2) rfl (ev_var (i := 7) rfl) (ex_l eG hS) hl hc) flat_tk))) fun G2 g2 => ?_
      have eG2 := eG.trans g2
      try dsimp only
      exact s_when (b := false) (et_notT (et_B (ev_same (K := K) (d := tkD cs.reverse cs.reverse.sum z) (ed_tick (i := 1) rfl (ev_var (i := 7) rfl) (h2.ex eG2) cr sr) (ed_dueT (i := 5) rfl (ev_var (i := 7) rfl) (sq_of ((g.trans g2) _ _ hb0)) (by omega) cr) flat_tk))) (fun z => Bool.noConfusion z) fun _ G3 g3 => ⟨_, rfl, (g.trans g2).trans g3⟩
    rintro σ' G ⟨v7, rfl, g⟩
    try dsimp only
    exact s_ret (v := .bl true) ev_c fun G2 g2 => k G2 (eG0.trans (g.trans g2))

theorem q_asgMake {C : Addr} {sp : Sp} {E : XK} {tl : TE} {tz : TS} {D : Ends} {σ : L2.St} {H : Hp} {i : Nat} {xs : List V} (h : EvL tl σ H xs) (k : ∀ rp H1, H rp = none → Ex H H1 → H1 rp = some (.lst xs) → ∀ x dx, H1 x = none → H1 dx = none → dx ≠ x → sp [.ref x, .ref rp] (upd (upd H1 dx (.own x)) x (.ins C dx [])) (fun v H2 => v = .non ∧ tz D (σ.set i (some (.ref x))) H2) E) :
    tSeq (tAsg (tMake C sp [] E (tCons tl tNil)) (gName i)) tz D σ H := h H (Ex.refl H) _ fun rp H1 hrp e1 h1 => fun x dx a b c => k rp H1 hrp e1 h1 x dx a b c
theorem er_listK2 {K : PySem.W.Frag} {σ : L2.St} {H : Hp} {te : TE} {xs : List V} (h : EvR te σ H fun v H1 => ∃ p, v = .ref p ∧ SqL K H1 p xs) : EvR (tCB (rListK K) (tCons te tNil)) σ H fun v H1 => ∃ p, v = .ref p ∧ H p = none ∧ H1 p = some (.lst xs) := fun H1 e Q q =>
  h H1 e _ fun v H2 e2 hv => by
    obtain ⟨p, rfl, hp⟩ := hv
    exact ⟨p, xs, rfl, .inl hp, fun l hl => q _ _ (e2.trans (Ex.new hl)) ⟨l, rfl, fresh_back (e.trans e2) hl, upd_same⟩⟩
/-- what a new list of new things is, and where it lies -/
theorem er_fresh {te : TE} {σ : L2.St} {H : Hp} {n : Nat} {P : Nat → V → Hp → Prop} (h : EvNew te σ H (ListP n P)) : EvR te σ H fun v G => ∃ (p : Addr) (vs : List V), v = .ref p ∧ H p = none ∧ G p = some (.lst vs) ∧ vs.length = n ∧ ∀ (k : Nat) x, vs[k]? = some x → P k x G := fun H1 e Q q =>
  h H1 e _ fun v H2 e2 hn => by
    obtain ⟨p, vs, rfl, h1, h2, h3⟩ := hn.self
    refine q _ H2 e2 ⟨p, vs, rfl, ?_, h1, h2, h3⟩
    let G0 : Hp := fun b => match H1 b with
      | none => H2 b
      | some _ => none
    obtain ⟨p', ws, ep, g1, _⟩ := hn G0 fun b o hb ho => by
      show (match H1 b with | none => H2 b | some _ => none) = some o
      rw [hb]
      exact ho
    cases ep
    have : H1 p = none := by
      have g2 : (match H1 p with | none => H2 p | some _ => none) = some (.lst ws) := g1
      cases z : H1 p with
      | none => rfl
      | some o => rw [z] at g2; cases g2
    exact fresh_back e this
theorem ev_eqSame {K : PySem.W.Frag} {A : Ads} {ta tb : TE} {σ : L2.St} {H : Hp} {v : V} {t U : Int} (ha : Ev ta σ H v) (hb : Ev tb σ H v) (hw : IsW A v H t U) (hU : 0 < U) (ty : ∀ (H : Hp) (a dx : Addr) (fs : List (Str × V)), H a = some (.ins A.C_Ratio dx fs) → TyX K H (.ref a) (.ref A.C_Ratio)) :
    Ev (tOpS (rAlt (rOwnC K A.C_Ratio (spEqR K A) fun _ => E0) fun _ => rEq) ta tb) σ H (.bl true) := fun H1 e Q q => ha H1 e _ fun H2 e2 => hb H2 (e.trans e2) _ fun H3 e3 => by
  have e03 := e.trans (e2.trans e3)
  rcases hw with hw | ⟨z, rfl, _⟩
  · have hW := hw.ex e03
    obtain ⟨p, u, l, a, dx, rfl, h1⟩ := id hW
    refine .inl ⟨a, dx, _, _, rfl, h1, ty _ a dx _ h1, nf_self, .ref a, .ref a, t, U, rfl, hW, hU, .inl ⟨t, U, .inl hW, hU, fun H' e' => ?_⟩⟩
    rw [show cEq (t * U) (t * U) = true from decide_eq_true rfl]
    exact q H' ((e2.trans e3).trans e')
  · refine .inr ⟨by rfl, ?_⟩
    rw [decide_eq_true rfl]
    exact q H3 (e2.trans e3)
def isRef : V → Bool
  | .ref _ => true
  | _ => false
theorem ev_isRat {K : PySem.W.Frag} {A : Ads} {te : TE} {σ : L2.St} {H : Hp} {v : V} {t U : Int} (h : Ev te σ H v) (hw : IsW A v H t U) (ty : ∀ (H : Hp) (a dx : Addr) (fs : List (Str × V)), H a = some (.ins A.C_Ratio dx fs) → TyX K H (.ref a) (.ref A.C_Ratio)) (ki : PySem.W.kitOne K (.type "int") (.ref A.C_Ratio) = some false) :
    ∃ b : Bool, b = isRef v ∧ Ev (tCB (rIsi K) (tCons te (tCons (tC (.ref A.C_Ratio)) tNil))) σ H (.bl b) := by
  rcases hw with hw | ⟨z, rfl, _⟩
  · obtain ⟨p, u, l, a, dx, rfl, h1⟩ := id hw
    exact ⟨true, rfl, fun H1 e Q q => h H1 e _ fun H2 e2 => ⟨_, _, _, _, true, rfl, .own _, ty _ a dx _ ((e.trans e2) _ _ h1), kit_self, q H2 e2⟩⟩
  · exact ⟨false, rfl, fun H1 e Q q => h H1 e _ fun H2 e2 => ⟨_, _, _, _, false, rfl, .own _, .base (.int z), ki, q H2 e2⟩⟩
theorem WsAt.rev {K : PySem.W.Frag} {A : Ads} {H : Hp} {r : Addr} {vs : List V} {ts : List Int} {U : Int} (hr : SqL K H r vs.reverse) (hl : vs.length = ts.length) (h : ∀ (i : Nat) v, vs[i]? = some v → IsW A v H (ts.getD i 0) U) : WsAt K A H r ts.reverse U := ⟨_, hr, by simp [hl], fun i v hv => by
  have hi : i < vs.length := by have := (List.getElem?_eq_some_iff.mp hv).1; simpa using this
  rw [List.getElem?_reverse hi] at hv
  have := h _ v hv
  rw [List.getD_eq_getElem?_getD, List.getElem?_reverse (by omega), ← List.getD_eq_getElem?_getD, ← hl]
  exact this⟩
theorem Wb.rev {ts : List Int} {U : Int} (h : Wb ts U) : Wb ts.reverse U := ⟨by rw [List.length_reverse]; exact h.len, h.pos, h.U, fun t ht => h.all t (List.mem_reverse.mp ht)⟩
theorem shares_rev {ts : List Int} {U : Int} : sharesB ts.reverse U = sharesB ts U := by
  unfold sharesB
  rw [List.all_reverse, List.sum_reverse]
theorem cnt_rev {ts : List Int} : cnt ts.reverse = (cnt ts).reverse := by
  unfold cnt gcI
  rw [gcdL_rev, List.map_reverse]
theorem q_clear {K : PySem.W.Frag} {ta : TE} {tz : TS} {D : Ends} {σ : L2.St} {H : Hp} {l : Addr} {xs : List V} (hl : H l = some (.lst xs)) (ha : Ev ta σ H (.ref l)) (k : ∀ H1, Ex H H1 → tz D σ (upd H1 l (.lst []))) : tSeq (tDrop (tBM0 K "list" rClear ta)) tz D σ H :=
  ha H (Ex.refl H) _ fun H1 e1 => ⟨Or.inl ⟨rfl, xs, sq_of (e1 l _ hl)⟩, l, xs, rfl, rfl, e1 l _ hl, k H1 e1⟩
theorem flat_due {ts : List Int} {U : Int} : Flat 4 (dueD ts U) := by
  have one : ∀ s : Str, Flat 4 (.tuple [.str s]) := fun s => ⟨by show 1 ≤ 40000; decide, fun d hd => by rw [List.mem_singleton.mp hd]; exact True.intro⟩
  have thr : ∀ (s r : Str) (z : Int), Flat 4 (.tuple [.str s, .str r, .int z]) := fun s r z => ⟨by show 3 ≤ 40000; decide, fun d hd => by
    simp only [List.mem_cons, List.not_mem_nil, or_false] at hd
    rcases hd with rfl | rfl | rfl <;> exact True.intro⟩
  unfold dueD
  split
  · exact thr _ _ _
  · split
    · exact thr _ _ _
    · split
      · exact one _
      · exact one _
theorem dueS_good {ts : List Int} {U : Int} : dueS ts U = "good" ↔ goodB ts U = true := by
  have n1 : ¬ ("BadNumber" : Str) = "good" := by decide +kernel
  have n2 : ¬ ("TooMany" : Str) = "good" := by decide +kernel
  have n3 : ¬ ("BadShares" : Str) = "good" := by decide +kernel
  rw [due_good]
  unfold dueS
  split
  · exact ⟨fun z => absurd z n1, fun z => by omega⟩
  · split
    · exact ⟨fun z => absurd z n2, fun z => by omega⟩
    · split
      · rename_i h
        exact ⟨fun _ => ⟨by omega, by omega, h⟩, fun _ => rfl⟩
      · rename_i h
        exact ⟨fun z => absurd z n3, fun z => absurd z.2.2 h⟩
theorem ev_right {K : PySem.W.Frag} {A : Ads} {E : XK} {σ : L2.St} {H : Hp} {i j m n : Nat} {v w : V} {a b : Addr} {cs ds : List Int} (hi : σ[i]? = some (some v)) (hj : σ[j]? = some (some w)) (hm : σ[m]? = some (some (.ref a))) (hn : σ[n]? = some (some (.ref b))) (h1 : TkAt A v H cs.sum cs) (h2 : TkAt A w H cs.sum cs.reverse) (hS : SqL K H a (cs.map V.int)) (hT : SqL K H b (ds.map V.int)) (hl : cs.length ≤ 13) (h6 : ds.length = 6) (hc : ∀ c ∈ cs, 0 ≤ c) :
    Ev (tCall (spRight79 K A) [] E (tCons (tVar i) (tCons (tVar j) (tCons (tVar m) (tCons (tVar n) tNil))))) σ H (.bl true) := ev_call (ea_cons (ev_var hi) (ea_cons (ev_var hj) (ea_cons (ev_var hm) (ea_cons (ev_var hn) ea_nil)))) fun H1 e Q q E => ⟨v, w, a, b, cs, ds, rfl, h1.ex e, h2.ex e, ex_l e hS, ex_l e hT, hl, h6, hc, fun H' e' => q H' e'⟩
def spLaw (K : PySem.W.Frag) : Sp := fun vs H Q _ => ∃ (a : Addr) (ns : List Int), vs = [.ref a] ∧ SqL K H a (ns.map V.int) ∧ ns.length ≤ 63 ∧ ∀ H', Q (.bl true) H' 
theorem ok_law (T : Txt K mg A) : FnOk P w K mg base CX0 24 A.f_law A.d_law (["script"] : List Str) (spLaw K) := by
  refine T.F_law.ok sc_law (fun vs H Q E h => ?_) (fun cdv Ar outer s H vs Q E hr h => ?_)
  · obtain ⟨a, ns, rfl, _⟩ := h
    rfl
  · obtain ⟨a, ns, rfl, hS, hl, k⟩ := h
    refine ⟨_, (pss_cons (ps_asg (pe_call (ok_u_law_drawn T) (hr.mono (by omega)) rfl T.g_u_law_drawn T.k_u_law_drawn (b_u_law_drawn T) .nil pass0 (pa_cons (pv 0) pa_nil)) (pg_tup rfl (pgs_cons (pg_name (i := 1) sc_law.nd rfl (Or.inr rfl)) (pgs_cons (pg_name (i := 2) sc_law.nd rfl (Or.inr rfl)) (pgs_cons (pg_name (i := 3) sc_law.nd rfl (Or.inl rfl)) pgs_nil)))))
        (pss_cons (ps_set (i := 4) sc_law.nd rfl (Or.inr rfl) (pe_lc (own := [("k", 5)]) (g := gName 5) (tt := tYes) rfl sc_law.nd (pi_range1 rfl T.z_range (pa_cons (pe_callB len_K (by rfl) T.z_len (by decide +kernel) (pa_cons (pv 1) pa_nil)) pa_nil)) (blkOk_by (own := [("k", 5)]) (N := N_law) (sc := defScope s_law) (by decide +kernel)) (fun _ _ _ _ _ => (pg_name (i := 5) sc_law.nd rfl (Or.inl rfl))) (fun _ _ _ _ _ => pts_nil) (fun _ _ _ _ _ => (pe_call (ok_u_law_weight T) (hr.mono (by omega)) rfl T.g_u_law_weight T.k_u_law_weight (b_u_law_weight T) .nil pass0 (pa_cons (pe_ix ix_lK (pv 1) (pv 5) (fun _ _ => rfl)) (pa_cons (pv 2) (pa_cons (pv 5) pa_nil)))))))
        (pss_cons (ps_set (i := 6) sc_law.nd rfl (Or.inr rfl) (pe_callTy list_K (by rfl) T.z_list (by decide +kernel) (pa_cons (pv 4) pa_nil)))
        (pss_cons (ps_set (i := 7) sc_law.nd rfl (Or.inr rfl) (pe_call (ok_u_law_due T) (hr.mono (by omega)) rfl T.g_u_law_due T.k_u_law_due (b_u_law_due T) .nil pass0 (pa_cons (pv 1) (pa_cons (pv 2) pa_nil))))
        (pss_cons (ps_asg (pe_call (ok_u_law_told T) (hr.mono (by omega)) rfl T.g_u_law_told T.k_u_law_told (b_u_law_told T) .nil pass0 (pa_cons (pv 4) pa_nil)) (pg_tup rfl (pgs_cons (pg_name (i := 8) sc_law.nd rfl (Or.inl rfl)) (pgs_cons (pg_name (i := 9) sc_law.nd rfl (Or.inl rfl)) pgs_nil))))
        (pss_cons (ps_if (pt_not (pt_val (pe_call (ok_u_law_same T) (hr.mono (by omega)) rfl T.g_u_law_same T.k_u_law_same (b_u_law_same T) .nil pass0 (pa_cons (pv 8) (pa_cons (pv 7) pa_nil))))) (pss_one (ps_ret pe_bl)) pss_nil)
        (pss_cons (ps_if (pt_cmpR op_ne (pe_ix ix_tK (pv 7) pe_int (fun _ _ => rfl)) pe_str (nomark _)) (pss_cons (ps_set (i := 10) sc_law.nd rfl (Or.inl rfl) (pe_lst (pa_cons pe_str (pa_cons pe_str (pa_cons pe_str pa_nil)))))
        (pss_one (ps_ret (pe_call (ok_u_law_same T) (hr.mono (by omega)) rfl T.g_u_law_same T.k_u_law_same (b_u_law_same T) .nil pass0 (pa_cons (pe_call (ok_u_law_classes T) (hr.mono (by omega)) rfl T.g_u_law_classes T.k_u_law_classes (b_u_law_classes T) .nil pass0 (pa_cons (pv 4) pa_nil)) (pa_cons (pe_op op_cat (pe_lst (pa_cons pe_bl pa_nil)) (pe_lc (own := [("word", 11)]) (g := gName 11) (tt := tYes) rfl sc_law.nd (pi_listK (pv 10)) (blkOk_by (own := [("word", 11)]) (N := N_law) (sc := defScope s_law) (by decide +kernel)) (fun _ _ _ _ _ => (pg_name (i := 11) sc_law.nd rfl (Or.inl rfl))) (fun _ _ _ _ _ => pts_nil) (fun _ _ _ _ _ => (pe_cmpR op_eq (pv 11) (pe_ix ix_tK (pv 7) pe_int (fun _ _ => rfl)) (nomark _))))) pa_nil)))))) pss_nil)
        (pss_cons (ps_set (i := 12) sc_law.nd rfl (Or.inr rfl) pe_int)
        (pss_cons (ps_for PassesOwn.never rfl (pi_listK (pv 1)) (pg_name (i := 13) sc_law.nd rfl (Or.inl rfl)) (pss_one (ps_set (i := 12) sc_law.nd rfl (Or.inr rfl) (pe_call (ok_u_law_gcd T) (hr.mono (by omega)) rfl T.g_u_law_gcd T.k_u_law_gcd (b_u_law_gcd T) .nil pass0 (pa_cons (pv 12) (pa_cons (pv 13) pa_nil))))))
        (pss_cons (ps_setLc (i := 14) (own := [("top", 13)]) (g := gName 13) (tt := tYes) rfl sc_law.nd rfl rfl (sw_true rfl rfl rfl (by decide +kernel)) (pi_listK (pv 1)) (blkOk_by (own := [("top", 13)]) (N := N_law) (sc := defScope s_law) (by decide +kernel)) (fun _ _ _ _ _ => (pg_name (i := 13) sc_law.nd rfl (Or.inl rfl))) (fun _ _ _ _ _ => pts_nil) (fun _ _ _ _ _ => (pe_op op_fdivW (pv 13) (pv 12))))
        (pss_cons (ps_set (i := 15) sc_law.nd rfl (Or.inl rfl) (pe_make T.mk_Tickets (ok_Tickets_init T) (hr.mono (by omega)) rfl T.g_Tickets (b_Tickets_init T) .nil passL (pa_cons (pe_revL (pv 4)) pa_nil)))
        (pss_cons (ps_if (pt_not (pt_val (pe_call (ok_u_law_right T) (hr.mono (by omega)) rfl T.g_u_law_right T.k_u_law_right (b_u_law_right T) .nil pass0 (pa_cons (pv 9) (pa_cons (pv 15) (pa_cons (pv 14) (pa_cons (pv 3) pa_nil))))))) (pss_one (ps_ret pe_bl)) pss_nil)
        (pss_cons (ps_if (PW.pt (pw_or (pt_cmpR op_ne (pe_callB len_K (by rfl) T.z_len (by decide +kernel) (pa_cons (pv 4) pa_nil)) (pe_callB len_K (by rfl) T.z_len (by decide +kernel) (pa_cons (pv 6) pa_nil)) (nomark _)) (pw_or1 (pt_cmpR op_gt (pe_callB len_K (by rfl) T.z_len (by decide +kernel) (pa_cons (pe_lc (own := [("k", 5)]) (g := gName 5) rfl sc_law.nd (pi_range1 rfl T.z_range (pa_cons (pe_callB len_K (by rfl) T.z_len (by decide +kernel) (pa_cons (pv 6) pa_nil)) pa_nil)) (blkOk_by (own := [("k", 5)]) (N := N_law) (sc := defScope s_law) (by decide +kernel)) (fun _ _ _ _ _ => (pg_name (i := 5) sc_law.nd rfl (Or.inl rfl))) (fun _ _ _ _ _ => (pts_one (pt_not (pt_cmpS (ops_or (op_ownC (op := .Eq) (E := fun _ => E0) (fun _ _ => rfl) T.M_Ratio_eq (ok_Ratio_eq T) (hr.mono (by omega)) (b_Ratio_eq T) (pAt pass0)) (ops_plain op_eq)) (pe_ix ix_lK (pv 4) (pv 5) (fun _ _ => rfl)) (pe_ix ix_lK (pv 6) (pv 5) (fun _ _ => rfl)) (nomark _))))) (fun _ _ _ _ _ => (pv 5))) pa_nil)) pe_int (nomark _))))) (pss_one (ps_ret pe_bl)) pss_nil)
        (pss_cons (ps_if (pt_cmpR op_gt (pe_callB len_K (by rfl) T.z_len (by decide +kernel) (pa_cons (pe_lc (own := [("k", 5)]) (g := gName 5) rfl sc_law.nd (pi_range1 rfl T.z_range (pa_cons (pe_callB len_K (by rfl) T.z_len (by decide +kernel) (pa_cons (pv 6) pa_nil)) pa_nil)) (blkOk_by (own := [("k", 5)]) (N := N_law) (sc := defScope s_law) (by decide +kernel)) (fun _ _ _ _ _ => (pg_name (i := 5) sc_law.nd rfl (Or.inl rfl))) (fun _ _ _ _ _ => (pts_one (pt_cmpR op_ne (pe_callB isi_K (by rfl) T.z_isinstance (by decide +kernel) (pa_cons (pe_ix ix_lK (pv 4) (pv 5) (fun _ _ => rfl)) (pa_cons (pe_glob (v := .ref A.C_Ratio) rfl T.g_Ratio rfl) pa_nil))) (pe_callB isi_K (by rfl) T.z_isinstance (by decide +kernel) (pa_cons (pe_ix ix_lK (pv 6) (pv 5) (fun _ _ => rfl)) (pa_cons (pe_glob (v := .ref A.C_Ratio) rfl T.g_Ratio rfl) pa_nil))) (nomark _)))) (fun _ _ _ _ _ => (pv 5))) pa_nil)) pe_int (nomark _)) (pss_one (ps_ret pe_bl)) pss_nil)
        (pss_cons (ps_expr (pe_bm0 PySem.F.plainAttrs_list PySem.F.slot_list_clear PySem.F.type_list_clear mt_clear (pv 4)))
        (pss_one (ps_ret (pe_call (ok_u_law_right T) (hr.mono (by omega)) rfl T.g_u_law_right T.k_u_law_right (b_u_law_right T) .nil pass0 (pa_cons (pv 9) (pa_cons (pv 15) (pa_cons (pv 14) (pa_cons (pv 3) pa_nil)))))))))))))))))))))), ?_⟩
    try dsimp only
    refine ⟨_, rfl, a, ns, rfl, hS, fun p tp dp H1 ts U ds e1 hp hts hds wb h6 => ?_⟩
    refine ⟨p, _, rfl, st_of hp, rfl, _, _, rfl, _, _, rfl, _, _, rfl, rfl, ?_⟩
    have U0 := wb.pos
    have tl := wb.len
    have tsl : SqL K H1 tp (ts.map V.int) := sq_of hts
    try dsimp only
    refine q_asgR (er_fresh (en_lcR1 (n := (ts.length : Int)) (j := 5) (fun i v G => IsW A v G (ts.getD i 0) U) (ea_cons (ev_is (ev_lenH (K := K) (ev_var (i := 1) rfl) tsl) (by rw [List.length_map])) ea_nil) (by omega) (fun x => rfl) fun i G1 g1 hi => fun G2 g2 Q q => ?_)) fun v H2 e2 hv => ?_
    · have hi' : i < ts.length := by omega
      refine ea_cons (ev_op (ev_var (i := 1) rfl) (ev_var (i := 5) rfl) (rv_ixL (K := K) (ex_l g1 tsl) (atI_ints (by omega) (by omega)))) (ea_cons (ev_var (i := 2) rfl) (ea_cons (ev_var (i := 5) rfl) ea_nil)) G2 g2 _ fun G3 g3 => ⟨ts.getD (i : Int).toNat 0, U, i, rfl, U0, wb.U, fun v H' e' hn => q v H' (g3.trans e') (by rw [Int.toNat_natCast] at hn; exact hn.out g3 (Ex.refl _))⟩
    obtain ⟨wp, vs, rfl, hwf, hwp, hvl, hvs⟩ := hv
    rw [Int.toNat_natCast] at hvl
    have wW : ∀ {G : Hp} {q : Addr}, Ex H2 G → SqL K G q vs → WsAt K A G q ts U := fun g hq => ⟨vs, hq, hvl, fun i v hv => (hvs i v hv).ex g⟩
    try dsimp only
    refine q_asgR (er_listK2 (K := K) (xs := vs) (er_ev (ev_var (i := 4) rfl) fun G e => ⟨wp, rfl, sq_of (e _ _ hwp)⟩)) fun v H3 e3 hv => ?_
    obtain ⟨kp, rfl, hkf, hkp⟩ := hv
    have hw3 := e3 _ _ hwp
    try dsimp only
    refine q_asgR (er_call (P := fun v G => DueAt K v G ts U) (ea_cons (ev_var (i := 1) rfl) (ea_cons (ev_var (i := 2) rfl) ea_nil)) fun G g Q q => ⟨tp, ts, U, rfl, ex_l ((e2.trans e3).trans g) tsl, by omega, fun v H' e' hv => q v H' e' hv⟩) fun v H4 e4 hv => ?_
    obtain ⟨hdd, q0, xs, rfl, hq0⟩ := hv
    have e24 := e3.trans e4
    have hw4 := e4 _ _ hw3
    try dsimp only
    refine ⟨_, rfl, wp, ts, U, rfl, wW e24 (sq_of hw4), wb, fun p2 u w H5 e5 hp2 hu hgood => ?_⟩
    refine ⟨p2, _, rfl, st_of hp2, rfl, _, _, rfl, _, _, rfl, rfl, ?_⟩
    have hdd5 := dp_ex e5 hdd
    have hq5 := e5 _ _ hq0
    have hw5 := e5 _ _ hw4
    try dsimp only
    refine q_skip (et_notT (et_B (ev_same (K := K) (d := dueD ts U) (ed_ev (ev_var (i := 8) rfl) fun G g => dp_ex g hu) (ed_ev (ev_var (i := 7) rfl) fun G g => dp_ex g hdd5) flat_due))) fun H6 e6 => ?_
    have hq6 := e6 _ _ hq5
    have e26 := e24.trans (e5.trans e6)
    have due0 : ∀ {σ : L2.St} {G : Hp}, σ[7]? = some (some (.ref q0)) → Ex H6 G → Ev (tOp (rIxT K) (tVar 7) (tC (.int 0))) σ G (.str (dueS ts U)) := fun hσ g => ev_op (ev_var hσ) ev_c (rv_ixT (K := K) (i := ((0 : Nat) : Int)) (st_of (g _ _ hq6)) (atI_nat rfl))
    try dsimp only
    refine q_when (b := !goodB ts U) (et_is (et_test (ev_op (due0 rfl (Ex.refl _)) ev_c (rv_ne rfl))) ?_) (fun hb H7 e7 => ?_) (fun hb H7 e7 => ?_)
    · congr 1
      rw [Bool.eq_iff_iff, decide_eq_true_iff]
      exact ⟨fun z => dueS_good.mp (by injection z), fun z => by rw [dueS_good.mpr z]⟩
    · have hng : goodB ts U = false := by simpa using hb
      have hw7 := (e6.trans e7) _ _ hw5
      try dsimp only
      refine q_asgL (xs := ([.str "BadNumber", .str "TooMany", .str "BadShares"] : List V)) (el_lst (ea_cons ev_c (ea_cons ev_c (ea_cons ev_c ea_nil))) (by show 3 ≤ 100000; decide)) fun wd H8 hwd e8 h8 => ?_
      have e28 := e26.trans (e7.trans e8)
      try dsimp only
      refine s_ret (v := .bl true) (ev_same (K := K) (d := .list (.bool true :: (["BadNumber", "TooMany", "BadShares"] : List Str).map fun w => .bool (decide (w = dueS ts U)))) (er_call (ea_cons (ev_var (i := 4) rfl) ea_nil) fun G g Q q => ⟨wp, ts, U, rfl, wW (e28.trans g) (sq_of ((e8.trans g) _ _ hw7)), wb, hng, fun v H' e' hv => q v H' e' hv⟩) ((er_L (el_cat (el_lst (ea_cons ev_c ea_nil) (by show 1 ≤ 100000; decide)) (el_lcL (K := K) (a := wd) (xs := ([.str "BadNumber", .str "TooMany", .str "BadShares"] : List V)) (j := 11) (fun _ => true) (fun i => .bl (decide ((["BadNumber", "TooMany", "BadShares"] : List Str).getD i "" = dueS ts U))) (ev_var (i := 10) rfl) (sq_of h8) (by show 3 ≤ 40000; decide) (fun x => rfl) (fun i x G g hx => yes_T) fun i x G g hx _ => ?_) (by show 1 + 3 ≤ 100000; decide))).imp fun v G hv => ?_) ⟨by show 4 ≤ 40000; decide, fun d hd => ?_⟩) fun H9 e9 => k H9
      · have hx' : x = .str ((["BadNumber", "TooMany", "BadShares"] : List Str).getD i "") := by
          match i, hx with
          | 0, h => cases h; rfl
          | 1, h => cases h; rfl
          | 2, h => cases h; rfl
        subst hx'
        exact ev_is (ev_op (ev_var (i := 11) rfl) (due0 rfl (e7.trans (e8.trans g))) (rv_eq rfl)) (by
          congr 1
          rw [decide_eq_decide]
          exact ⟨fun z => by injection z, fun z => by rw [z]⟩)
      · obtain ⟨p, rfl, hp⟩ := hv
        exact .lst (sq_of hp) (.cons (.bl _) (.cons (.bl _) (.cons (.bl _) (.cons (.bl _) .nil))))
      · simp only [List.map_cons, List.map_nil, List.mem_cons, List.not_mem_nil, or_false] at hd
        rcases hd with rfl | rfl | rfl | rfl <;> exact True.intro
    have hg : goodB ts U = true := by simpa using hb
    obtain ⟨l1, l12, hsh⟩ := due_good.mp hg
    have hTn := hgood hg
    have hsum : ts.sum = U := by
      unfold sharesB at hsh
      rw [Bool.and_eq_true] at hsh
      exact of_decide_eq_true hsh.2
    have hnn : ∀ t ∈ ts, 0 ≤ t := by
      unfold sharesB at hsh
      rw [Bool.and_eq_true, List.all_eq_true] at hsh
      exact fun t ht => of_decide_eq_true (hsh.1 t ht)
    have hdv : ∀ t ∈ ts, gcI ts ∣ t := fun t ht => gcdL_dvd ht
    have g0 : gcI ts ≠ 0 := fun z => by
      have := sum_dvd hdv
      rw [z, hsum] at this
      have := Int.zero_dvd.mp this
      omega
    have gp : 0 < gcI ts := by
      have : 0 ≤ gcI ts := Int.natCast_nonneg _
      omega
    have csum : (cnt ts).sum = U / gcI ts := by rw [← hsum]; exact sum_div g0 hdv
    have cnn : ∀ c ∈ cnt ts, 0 ≤ c := fun c hc => by
      obtain ⟨t, ht, rfl⟩ := List.mem_map.mp hc
      exact Int.ediv_nonneg (hnn t ht) (by omega)
    have cl : (cnt ts).length ≤ 13 := by
      unfold cnt
      rw [List.length_map]
      exact tl
    have e27 := e26.trans e7
    have hw7 := (e6.trans e7) _ _ hw5
    have ts7 := ex_l (e2.trans e27) tsl
    try dsimp only
    refine q_asg (v := .int ((gcdL (ts.take 0) : Nat) : Int)) (ev_is ev_c rfl) fun H8 e8 => ?_
    try dsimp only
    refine q_forLn (K := K) (a := tp) (xs := ts.map V.int) (j := 13) (ev_var (i := 1) rfl) (ex_l e8 ts7) (fun i σ' G => ∃ v13 : Option V, σ' = [some (.ref a), some (.ref tp), some (.int U), some (.ref dp), some (.ref wp), none, some (.ref kp), some (.ref q0), some u, some w, none, none, some (.int ((gcdL (ts.take i) : Nat) : Int)), v13, none, none] ∧ Ex H8 G) (fun G g => ⟨none, rfl, g⟩) (fun i σ' G _ ⟨_, _, g⟩ => ex_l (e8.trans g) ts7) ?_ ?_
    · rintro i y σ' G hy ⟨v13, rfl, g⟩
      obtain ⟨t, rfl, ht⟩ := some_int hy
      have hi : i < ts.length := (List.getElem?_eq_some_iff.mp ht).1
      have htk : ts.take (i + 1) = ts.take i ++ [t] := by
        rw [List.take_succ, ht]
        rfl
      try dsimp only
      refine s_asg (v := .int ((gcdL (ts.take (i + 1)) : Nat) : Int)) (ev_is (ev_lawGcd (ev_var (i := 12) rfl) (ev_var (i := 13) rfl)) ?_) fun G1 g1 => ⟨_, rfl, g.trans g1⟩
      rw [htk]
      unfold gcdL
      rw [List.foldl_append, Int.natAbs_natCast]
      rfl
    rintro σ' H9 ⟨v13, rfl, g⟩
    rw [List.length_map, List.take_length]
    have e29 := e27.trans (e8.trans g)
    have hw9 := (e8.trans g) _ _ hw7
    have gb : (gcI ts).natAbs < 2 ^ 400 := by
      obtain ⟨D, hD⟩ := (hsum ▸ sum_dvd hdv : gcI ts ∣ U)
      refine Nat.lt_of_le_of_lt (Nat.le_of_dvd (by omega) (Int.natAbs_dvd_natAbs.mpr ⟨D, hD⟩)) wb.U
    try dsimp only
    refine q_asgL (xs := (cnt ts).map V.int) (el_mapA (K := K) ts (fun t => t / gcI ts) (ev_var (i := 1) rfl) (ex_l (e8.trans g) ts7) (by omega) (fun x => rfl) fun x G1 g1 hx => ev_op (ev_var (i := 13) rfl) (ev_var (i := 12) rfl) (rv_I (wide_div gp gb (by decide) (by decide)))) fun cp H10 hcp e10 hc10 => ?_
    have e210 := e29.trans e10
    have hw10 := e10 _ _ hw9
    try dsimp only
    refine q_asgMake (el_rev (K := K) (te := tVar 4) (ev_var (i := 4) rfl) (sq_of hw10)) fun rp H11 hrp e11 hr11 x dx hx hdx hne => ?_
    have e211 := e210.trans e11
    have em : Ex H11 (upd (upd H11 dx (.own x)) x (.ins A.C_Tickets dx [])) := ex_made hx hdx fun b o _ h => h
    have rl : ts.reverse.length = ts.length := List.length_reverse
    refine ⟨x, dx, rp, ts.reverse, U, rfl, upd_same, (WsAt.rev (sq_of hr11) hvl fun i v hv => (hvs i v hv).ex e211).ex em, wb.rev, fun z => by omega, fun z => by omega, (fun _ z => by rw [shares_rev, hsh] at z; cases z), fun _ _ l H12 hln ho hx12 hl12 => ⟨rfl, ?_⟩⟩
    obtain ⟨hl11, hlx⟩ := made_none hln
    have e12 : Ex H11 H12 := ex_made hx hdx ho
    have e212 := e211.trans e12
    have e412 : Ex H5 H12 := e6.trans (e7.trans (e8.trans (g.trans (e10.trans (e11.trans e12)))))
    have T1 : TkAt A w H12 (cnt ts).sum (cnt ts) := by
      rw [csum]
      exact (hTn.self).ex e412
    have T2 : TkAt A (.ref x) H12 (cnt ts).sum (cnt ts).reverse := by
      rw [csum, ← cnt_rev, show gcI ts = gcI ts.reverse by unfold gcI; rw [gcdL_rev]]
      exact ⟨x, dx, l, rfl, hx12, hl12⟩
    have hds12 := (e2.trans e212) _ _ hds
    have hc12 := (e11.trans e12) _ _ hc10
    try dsimp only
    refine q_skip (et_notT (et_B (ev_right (K := K) (i := 9) (j := 15) (m := 14) (n := 3) rfl rfl rfl rfl T1 T2 (sq_of hc12) (sq_of hds12) cl h6 cnn))) fun H13 e13 => ?_
    have e213 := e212.trans e13
    have hw13 := (e11.trans (e12.trans e13)) _ _ hw10
    have hk13 := (e4.trans (e5.trans (e412.trans e13))) _ _ hkp
    have ixw : ∀ {i : Nat} {y : V} {G : Hp} {σ : L2.St}, σ[4]? = some (some (.ref wp)) → σ[5]? = some (some (.int (i : Int))) → vs[i]? = some y → Ex H13 G → Ev (tOp (rIxL K) (tVar 4) (tVar 5)) σ G y := fun h1 h2 h3 g => ev_op (ev_var h1) (ev_var h2) (rv_ixL (K := K) (sq_of (g _ _ hw13)) (atI_nat h3))
    have ixk : ∀ {i : Nat} {y : V} {G : Hp} {σ : L2.St}, σ[6]? = some (some (.ref kp)) → σ[5]? = some (some (.int (i : Int))) → vs[i]? = some y → Ex H13 G → Ev (tOp (rIxL K) (tVar 6) (tVar 5)) σ G y := fun h1 h2 h3 g => ev_op (ev_var h1) (ev_var h2) (rv_ixL (K := K) (sq_of (g _ _ hk13)) (atI_nat h3))
    have vat : ∀ {i : Nat}, (i : Int) < (vs.length : Int) → ∃ y, vs[i]? = some y := fun h => ⟨_, List.getElem?_eq_getElem (by omega)⟩
    have none_ : ∀ n : Nat, given n (fun _ => false) (fun i => V.int (i : Int)) = [] := fun n => by
      unfold given
      rw [List.filter_eq_nil_iff.mpr (fun _ _ => by decide)]
      rfl
    try dsimp only
    refine q_skip (et_orF (et_is (et_test (ev_op (ev_lenH (K := K) (ev_var (i := 4) rfl) (sq_of hw13)) (ev_lenH (K := K) (ev_var (i := 6) rfl) (sq_of hk13)) (rv_ne rfl))) (by rw [decide_eq_true rfl]; rfl)) (et_is (et_test (ev_op (ev_lenNH (K := K) (el_isW (el_lcR1 (n := (vs.length : Int)) (j := 5) (fun _ => false) (fun i => .int (i : Int)) (ea_cons (ev_lenH (K := K) (ev_var (i := 6) rfl) (sq_of hk13)) ea_nil) (by omega) (fun x => rfl) (fun i G1 g1 hi => ?_) (fun i G1 g1 hi z => Bool.noConfusion z)) (none_ _))) ev_c rv_I0)) rfl)) fun H14 e14 => ?_
    · obtain ⟨y, hy⟩ := vat hi
      exact et_notT (et_test (ev_eqSame (K := K) (ixw (σ := [some (.ref a), some (.ref tp), some (.int U), some (.ref dp), some (.ref wp), some (.int (i : Int)), some (.ref kp), some (.ref q0), some u, some w, none, none, some (.int ((gcdL ts : Nat) : Int)), v13, some (.ref cp), some (.ref x)]) rfl rfl hy g1) (ixk (σ := [some (.ref a), some (.ref tp), some (.int U), some (.ref dp), some (.ref wp), some (.int (i : Int)), some (.ref kp), some (.ref q0), some u, some w, none, none, some (.int ((gcdL ts : Nat) : Int)), v13, some (.ref cp), some (.ref x)]) rfl rfl hy g1) ((hvs i y hy).ex (e213.trans g1)) U0 T.ty_Ratio))
    try dsimp only
    refine q_skip (et_is (et_test (ev_op (ev_lenNH (K := K) (el_isW (el_lcR1 (n := (vs.length : Int)) (j := 5) (fun _ => false) (fun i => .int (i : Int)) (ea_cons (ev_lenH (K := K) (ev_var (i := 6) rfl) (sq_of (e14 _ _ hk13))) ea_nil) (by omega) (fun x => rfl) (fun i G1 g1 hi => ?_) (fun i G1 g1 hi z => Bool.noConfusion z)) (none_ _))) ev_c rv_I0)) rfl) fun H15 e15 => ?_
    · obtain ⟨y, hy⟩ := vat hi
      have eg := e14.trans g1
      obtain ⟨b1, hb1, i1⟩ := ev_isRat (K := K) (ixw (σ := [some (.ref a), some (.ref tp), some (.int U), some (.ref dp), some (.ref wp), some (.int (i : Int)), some (.ref kp), some (.ref q0), some u, some w, none, none, some (.int ((gcdL ts : Nat) : Int)), v13, some (.ref cp), some (.ref x)]) rfl rfl hy eg) ((hvs i y hy).ex (e213.trans eg)) T.ty_Ratio T.kit_int_Ratio
      obtain ⟨b2, hb2, i2⟩ := ev_isRat (K := K) (ixk (σ := [some (.ref a), some (.ref tp), some (.int U), some (.ref dp), some (.ref wp), some (.int (i : Int)), some (.ref kp), some (.ref q0), some u, some w, none, none, some (.int ((gcdL ts : Nat) : Int)), v13, some (.ref cp), some (.ref x)]) rfl rfl hy eg) ((hvs i y hy).ex (e213.trans eg)) T.ty_Ratio T.kit_int_Ratio
      exact et_is (et_test (ev_op i1 i2 (rv_ne rfl))) (by rw [hb1, hb2, decide_eq_true rfl]; rfl)
    have hw15 := (e14.trans e15) _ _ hw13
    try dsimp only
    refine q_clear (K := K) hw15 (ev_var (i := 4) rfl) fun H16 e16 => ?_
    have e416 : Ex H5 H16 := e412.trans (e13.trans (e14.trans (e15.trans e16)))
    have e216 := e213.trans (e14.trans (e15.trans e16))
    have ne : ∀ {b : Addr}, H2 b = none → b ≠ wp := fun h z => by rw [z, hwp] at h; cases h
    have ne4 : ∀ {b : Addr} {o : HO}, H4 b = none → H5 b = some o → (upd H16 wp (.lst [])) b = some o := fun {b o} h1 h2 => by
      rw [upd_ne (fun z => by rw [z, hw4] at h1; cases h1)]
      exact e416 _ _ h2
    have T1' : TkAt A w (upd H16 wp (.lst [])) (cnt ts).sum (cnt ts) := by
      rw [csum]
      exact hTn _ fun b o h1 h2 => ne4 h1 h2
    have T2' : TkAt A (.ref x) (upd H16 wp (.lst [])) (cnt ts).sum (cnt ts).reverse := by
      rw [csum, ← cnt_rev, show gcI ts = gcI ts.reverse by unfold gcI; rw [gcdL_rev]]
      have e1216 := e13.trans (e14.trans (e15.trans e16))
      refine ⟨x, dx, l, rfl, ?_, ?_⟩
      · rw [upd_ne (fun z => by rw [z, (e10.trans e11) _ _ hw9] at hx; cases hx)]
        exact e1216 _ _ hx12
      · rw [upd_ne (fun z => by rw [z, (e10.trans e11) _ _ hw9] at hl11; cases hl11)]
        exact e1216 _ _ hl12
    have hc16 : (upd H16 wp (.lst [])) cp = some (.lst ((cnt ts).map V.int)) := by
      rw [upd_ne (fun z => by rw [z, hw9] at hcp; cases hcp)]
      exact (e13.trans (e14.trans (e15.trans e16))) _ _ hc12
    have hd16 : (upd H16 wp (.lst [])) dp = some (.lst (ds.map V.int)) := by
      rw [upd_ne (fun z => by rw [z, hwf] at hds; cases hds)]
      exact (e13.trans (e14.trans (e15.trans e16))) _ _ hds12
    try dsimp only
    exact s_ret (v := .bl true) (ev_right (K := K) (i := 9) (j := 15) (m := 14) (n := 3) rfl rfl rfl rfl T1' T2' (sq_of hc16) (sq_of hd16) cl h6 cnn) fun H17 e17 => k H17
theorem all_mk {l : PySem.W.OpenLaw} {w : World} {K : PySem.W.Frag} {h : Heap} {mg : Str → Option Value} {fa : Addr} (X : K.In h) (G : h.Ns mainGlobals mg) (hfa : mg "law" = some (.ref fa))
    {od0 an0 : Option Addr} {sl0 : Array (Option Value)} {oc0 kV0 dc0 pm0 cd0 ct0 : Value} {f0 : Addr}
    {od1 an1 : Option Addr} {sl1 : Array (Option Value)} {oc1 kV1 dc1 pm1 cd1 ct1 : Value} {f1 : Addr}
    {od2 an2 : Option Addr} {sl2 : Array (Option Value)} {oc2 kV2 dc2 pm2 cd2 ct2 : Value} {f2 : Addr}
    {df2 : Addr} {do2 : Value} {dd2 : Option Addr} {dn2 : Nat} {ds2 : Array (Option Value)} {dt2_0 : Tok}
    {od3 an3 : Option Addr} {sl3 : Array (Option Value)} {oc3 kV3 dc3 pm3 cd3 ct3 : Value} {f3 : Addr}
    {od4 an4 : Option Addr} {sl4 : Array (Option Value)} {oc4 kV4 dc4 pm4 cd4 ct4 : Value} {f4 : Addr}
    {od5 an5 : Option Addr} {sl5 : Array (Option Value)} {oc5 kV5 dc5 pm5 cd5 ct5 : Value} {f5 : Addr}
    {od6 an6 : Option Addr} {sl6 : Array (Option Value)} {oc6 kV6 dc6 pm6 cd6 ct6 : Value} {f6 : Addr}
    {od7 an7 : Option Addr} {sl7 : Array (Option Value)} {oc7 kV7 dc7 pm7 cd7 ct7 : Value} {f7 : Addr}
    {od8 an8 : Option Addr} {sl8 : Array (Option Value)} {oc8 kV8 dc8 pm8 cd8 ct8 : Value} {f8 : Addr}
    {od9 an9 : Option Addr} {sl9 : Array (Option Value)} {oc9 kV9 dc9 pm9 cd9 ct9 : Value} {f9 : Addr}
    {od10 an10 : Option Addr} {sl10 : Array (Option Value)} {oc10 kV10 dc10 pm10 cd10 ct10 : Value} {f10 : Addr}
    {od11 an11 : Option Addr} {sl11 : Array (Option Value)} {oc11 kV11 dc11 pm11 cd11 ct11 : Value} {f11 : Addr}
    {od12 an12 : Option Addr} {sl12 : Array (Option Value)} {oc12 kV12 dc12 pm12 cd12 ct12 : Value} {f12 : Addr}
    {od13 an13 : Option Addr} {sl13 : Array (Option Value)} {oc13 kV13 dc13 pm13 cd13 ct13 : Value} {f13 : Addr}
    {od14 an14 : Option Addr} {sl14 : Array (Option Value)} {oc14 kV14 dc14 pm14 cd14 ct14 : Value} {f14 : Addr}
    {od15 an15 : Option Addr} {sl15 : Array (Option Value)} {oc15 kV15 dc15 pm15 cd15 ct15 : Value} {f15 : Addr}
    {od16 an16 : Option Addr} {sl16 : Array (Option Value)} {oc16 kV16 dc16 pm16 cd16 ct16 : Value} {f16 : Addr}
    {od17 an17 : Option Addr} {sl17 : Array (Option Value)} {oc17 kV17 dc17 pm17 cd17 ct17 : Value} {f17 : Addr}
    {od18 an18 : Option Addr} {sl18 : Array (Option Value)} {oc18 kV18 dc18 pm18 cd18 ct18 : Value} {f18 : Addr}
    {od19 an19 : Option Addr} {sl19 : Array (Option Value)} {oc19 kV19 dc19 pm19 cd19 ct19 : Value} {f19 : Addr}
    {od20 an20 : Option Addr} {sl20 : Array (Option Value)} {oc20 kV20 dc20 pm20 cd20 ct20 : Value} {f20 : Addr}
    {od21 an21 : Option Addr} {sl21 : Array (Option Value)} {oc21 kV21 dc21 pm21 cd21 ct21 : Value} {f21 : Addr}
    {od22 an22 : Option Addr} {sl22 : Array (Option Value)} {oc22 kV22 dc22 pm22 cd22 ct22 : Value} {f22 : Addr}
    {od23 an23 : Option Addr} {sl23 : Array (Option Value)} {oc23 kV23 dc23 pm23 cd23 ct23 : Value} {f23 : Addr}
    {od24 an24 : Option Addr} {sl24 : Array (Option Value)} {oc24 kV24 dc24 pm24 cd24 ct24 : Value} {f24 : Addr}
    {od25 an25 : Option Addr} {sl25 : Array (Option Value)} {oc25 kV25 dc25 pm25 cd25 ct25 : Value} {f25 : Addr}
    {od26 an26 : Option Addr} {sl26 : Array (Option Value)} {oc26 kV26 dc26 pm26 cd26 ct26 : Value} {f26 : Addr}
    {od27 an27 : Option Addr} {sl27 : Array (Option Value)} {oc27 kV27 dc27 pm27 cd27 ct27 : Value} {f27 : Addr}
    {od28 an28 : Option Addr} {sl28 : Array (Option Value)} {oc28 kV28 dc28 pm28 cd28 ct28 : Value} {f28 : Addr}
    {od29 an29 : Option Addr} {sl29 : Array (Option Value)} {oc29 kV29 dc29 pm29 cd29 ct29 : Value} {f29 : Addr}
    {od30 an30 : Option Addr} {sl30 : Array (Option Value)} {oc30 kV30 dc30 pm30 cd30 ct30 : Value} {f30 : Addr}
    {C_WatchError : Addr} {C_ZeroUnder : Addr} {C_BadNumber : Addr} {C_TooMany : Addr} {C_NoPlace : Addr} {C_BadShares : Addr} {C_Ratio : Addr} {C_Tickets : Addr}
    {t_MOST_WEIGHTS : Tok}
    {nm_BadNumber q_BadNumber : Str} {N_BadNumber : Addr} {bs_BadNumber : List Value} {sn_BadNumber : List Str} {sub_BadNumber : List Value} {ab_BadNumber : Bool} {col_BadNumber : Option Bool} {dd_BadNumber : Option Addr} {m0_BadNumber m1_BadNumber m2_BadNumber m3_BadNumber m5_BadNumber : Option Value}
    {nm_TooMany q_TooMany : Str} {N_TooMany : Addr} {bs_TooMany : List Value} {sn_TooMany : List Str} {sub_TooMany : List Value} {ab_TooMany : Bool} {col_TooMany : Option Bool} {dd_TooMany : Option Addr} {m0_TooMany m1_TooMany m2_TooMany m3_TooMany m5_TooMany : Option Value}
    {fo_Ratio_add ro_Ratio_add : Option Value} {rf_Ratio_add : Addr}
    (g_WatchError : PySem.W.nsIn K mainGlobals "WatchError" = some (some (.ref C_WatchError)))
    (g_ZeroUnder : PySem.W.nsIn K mainGlobals "ZeroUnder" = some (some (.ref C_ZeroUnder)))
    (g_BadNumber : PySem.W.nsIn K mainGlobals "BadNumber" = some (some (.ref C_BadNumber)))
    (g_TooMany : PySem.W.nsIn K mainGlobals "TooMany" = some (some (.ref C_TooMany)))
    (g_NoPlace : PySem.W.nsIn K mainGlobals "NoPlace" = some (some (.ref C_NoPlace)))
    (g_BadShares : PySem.W.nsIn K mainGlobals "BadShares" = some (some (.ref C_BadShares)))
    (g_Ratio : PySem.W.nsIn K mainGlobals "Ratio" = some (some (.ref C_Ratio)))
    (g_Tickets : PySem.W.nsIn K mainGlobals "Tickets" = some (some (.ref C_Tickets)))
    (a0 : PySem.W.findIn K (.ref C_BadNumber) "__init__" = some (some (.ref f0)))
    (l0 : K.lookup f0 = some ⟨oc0, od0, .func (PySem.W.fnOf "__init__" "BadNumber.__init__" (defArgs s_BadNumber_init) (defBody s_BadNumber_init) (defScope s_BadNumber_init) .none kV0 dc0 pm0 an0 cd0 ct0), sl0⟩)
    (c0 : PySem.W.codeIn K cd0 "BadNumber.__init__" = true)
    (k0 : PySem.W.keepIn K (.ref f0) = true)
    (a1 : PySem.W.findIn K (.ref C_TooMany) "__init__" = some (some (.ref f1)))
    (l1 : K.lookup f1 = some ⟨oc1, od1, .func (PySem.W.fnOf "__init__" "TooMany.__init__" (defArgs s_TooMany_init) (defBody s_TooMany_init) (defScope s_TooMany_init) .none kV1 dc1 pm1 an1 cd1 ct1), sl1⟩)
    (c1 : PySem.W.codeIn K cd1 "TooMany.__init__" = true)
    (k1 : PySem.W.keepIn K (.ref f1) = true)
    (a2 : PySem.W.findIn K (.ref C_Ratio) "__init__" = some (some (.ref f2)))
    (l2 : K.lookup f2 = some ⟨oc2, od2, .func (PySem.W.fnOf "__init__" "Ratio.__init__" (defArgs s_Ratio_init) (defBody s_Ratio_init) (defScope s_Ratio_init) (.ref df2) kV2 dc2 pm2 an2 cd2 ct2), sl2⟩)
    (dl2 : K.lookup df2 = some ⟨do2, dd2, .seq #[.int 1 dt2_0] dn2, ds2⟩)
    (c2 : PySem.W.codeIn K cd2 "Ratio.__init__" = true)
    (k2 : PySem.W.keepIn K (.ref f2) = true)
    (a3 : PySem.W.nsIn K mainGlobals "as_ratio" = some (some (.ref f3)))
    (l3 : K.lookup f3 = some ⟨oc3, od3, .func (PySem.W.fnOf "as_ratio" "as_ratio" (defArgs s_as_ratio) (defBody s_as_ratio) (defScope s_as_ratio) .none kV3 dc3 pm3 an3 cd3 ct3), sl3⟩)
    (c3 : PySem.W.codeIn K cd3 "as_ratio" = true)
    (k3 : PySem.W.keepIn K (.ref f3) = true)
    (a4 : PySem.W.findIn K (.ref C_Ratio) "__add__" = some (some (.ref f4)))
    (l4 : K.lookup f4 = some ⟨oc4, od4, .func (PySem.W.fnOf "__add__" "Ratio.__add__" (defArgs s_Ratio_add) (defBody s_Ratio_add) (defScope s_Ratio_add) .none kV4 dc4 pm4 an4 cd4 ct4), sl4⟩)
    (c4 : PySem.W.codeIn K cd4 "Ratio.__add__" = true)
    (k4 : PySem.W.keepIn K (.ref f4) = true)
    (a5 : PySem.W.findIn K (.ref C_Ratio) "__radd__" = some (some (.ref f5)))
    (l5 : K.lookup f5 = some ⟨oc5, od5, .func (PySem.W.fnOf "__radd__" "Ratio.__radd__" (defArgs s_Ratio_radd) (defBody s_Ratio_radd) (defScope s_Ratio_radd) .none kV5 dc5 pm5 an5 cd5 ct5), sl5⟩)
    (c5 : PySem.W.codeIn K cd5 "Ratio.__radd__" = true)
    (k5 : PySem.W.keepIn K (.ref f5) = true)
    (a6 : PySem.W.nsIn K mainGlobals "_lead" = some (some (.ref f6)))
    (l6 : K.lookup f6 = some ⟨oc6, od6, .func (PySem.W.fnOf "_lead" "_lead" (defArgs s_u_lead) (defBody s_u_lead) (defScope s_u_lead) .none kV6 dc6 pm6 an6 cd6 ct6), sl6⟩)
    (c6 : PySem.W.codeIn K cd6 "_lead" = true)
    (k6 : PySem.W.keepIn K (.ref f6) = true)
    (a7 : PySem.W.findIn K (.ref C_Ratio) "__ge__" = some (some (.ref f7)))
    (l7 : K.lookup f7 = some ⟨oc7, od7, .func (PySem.W.fnOf "__ge__" "Ratio.__ge__" (defArgs s_Ratio_ge) (defBody s_Ratio_ge) (defScope s_Ratio_ge) .none kV7 dc7 pm7 an7 cd7 ct7), sl7⟩)
    (c7 : PySem.W.codeIn K cd7 "Ratio.__ge__" = true)
    (k7 : PySem.W.keepIn K (.ref f7) = true)
    (a8 : PySem.W.findIn K (.ref C_Ratio) "__eq__" = some (some (.ref f8)))
    (l8 : K.lookup f8 = some ⟨oc8, od8, .func (PySem.W.fnOf "__eq__" "Ratio.__eq__" (defArgs s_Ratio_eq) (defBody s_Ratio_eq) (defScope s_Ratio_eq) .none kV8 dc8 pm8 an8 cd8 ct8), sl8⟩)
    (c8 : PySem.W.codeIn K cd8 "Ratio.__eq__" = true)
    (k8 : PySem.W.keepIn K (.ref f8) = true)
    (a9 : PySem.W.nsIn K mainGlobals "over_one" = some (some (.ref f9)))
    (l9 : K.lookup f9 = some ⟨oc9, od9, .func (PySem.W.fnOf "over_one" "over_one" (defArgs s_over_one) (defBody s_over_one) (defScope s_over_one) .none kV9 dc9 pm9 an9 cd9 ct9), sl9⟩)
    (c9 : PySem.W.codeIn K cd9 "over_one" = true)
    (k9 : PySem.W.keepIn K (.ref f9) = true)
    (a10 : PySem.W.nsIn K mainGlobals "are_shares" = some (some (.ref f10)))
    (l10 : K.lookup f10 = some ⟨oc10, od10, .func (PySem.W.fnOf "are_shares" "are_shares" (defArgs s_are_shares) (defBody s_are_shares) (defScope s_are_shares) .none kV10 dc10 pm10 an10 cd10 ct10), sl10⟩)
    (c10 : PySem.W.codeIn K cd10 "are_shares" = true)
    (k10 : PySem.W.keepIn K (.ref f10) = true)
    (a11 : PySem.W.nsIn K mainGlobals "check_shares" = some (some (.ref f11)))
    (l11 : K.lookup f11 = some ⟨oc11, od11, .func (PySem.W.fnOf "check_shares" "check_shares" (defArgs s_check_shares) (defBody s_check_shares) (defScope s_check_shares) .none kV11 dc11 pm11 an11 cd11 ct11), sl11⟩)
    (c11 : PySem.W.codeIn K cd11 "check_shares" = true)
    (k11 : PySem.W.keepIn K (.ref f11) = true)
    (a12 : PySem.W.findIn K (.ref C_Tickets) "__init__" = some (some (.ref f12)))
    (l12 : K.lookup f12 = some ⟨oc12, od12, .func (PySem.W.fnOf "__init__" "Tickets.__init__" (defArgs s_Tickets_init) (defBody s_Tickets_init) (defScope s_Tickets_init) .none kV12 dc12 pm12 an12 cd12 ct12), sl12⟩)
    (c12 : PySem.W.codeIn K cd12 "Tickets.__init__" = true)
    (k12 : PySem.W.keepIn K (.ref f12) = true)
    (a13 : PySem.W.findIn K (.ref C_Tickets) "many" = some (some (.ref f13)))
    (l13 : K.lookup f13 = some ⟨oc13, od13, .func (PySem.W.fnOf "many" "Tickets.many" (defArgs s_Tickets_many) (defBody s_Tickets_many) (defScope s_Tickets_many) .none kV13 dc13 pm13 an13 cd13 ct13), sl13⟩)
    (c13 : PySem.W.codeIn K cd13 "Tickets.many" = true)
    (k13 : PySem.W.keepIn K (.ref f13) = true)
    (a14 : PySem.W.findIn K (.ref C_Tickets) "ticket" = some (some (.ref f14)))
    (l14 : K.lookup f14 = some ⟨oc14, od14, .func (PySem.W.fnOf "ticket" "Tickets.ticket" (defArgs s_Tickets_ticket) (defBody s_Tickets_ticket) (defScope s_Tickets_ticket) .none kV14 dc14 pm14 an14 cd14 ct14), sl14⟩)
    (c14 : PySem.W.codeIn K cd14 "Tickets.ticket" = true)
    (k14 : PySem.W.keepIn K (.ref f14) = true)
    (a15 : PySem.W.nsIn K mainGlobals "_law_cell" = some (some (.ref f15)))
    (l15 : K.lookup f15 = some ⟨oc15, od15, .func (PySem.W.fnOf "_law_cell" "_law_cell" (defArgs s_u_law_cell) (defBody s_u_law_cell) (defScope s_u_law_cell) .none kV15 dc15 pm15 an15 cd15 ct15), sl15⟩)
    (c15 : PySem.W.codeIn K cd15 "_law_cell" = true)
    (k15 : PySem.W.keepIn K (.ref f15) = true)
    (a16 : PySem.W.nsIn K mainGlobals "_law_draws" = some (some (.ref f16)))
    (l16 : K.lookup f16 = some ⟨oc16, od16, .func (PySem.W.fnOf "_law_draws" "_law_draws" (defArgs s_u_law_draws) (defBody s_u_law_draws) (defScope s_u_law_draws) .none kV16 dc16 pm16 an16 cd16 ct16), sl16⟩)
    (c16 : PySem.W.codeIn K cd16 "_law_draws" = true)
    (k16 : PySem.W.keepIn K (.ref f16) = true)
    (a17 : PySem.W.nsIn K mainGlobals "_law_gcd" = some (some (.ref f17)))
    (l17 : K.lookup f17 = some ⟨oc17, od17, .func (PySem.W.fnOf "_law_gcd" "_law_gcd" (defArgs s_u_law_gcd) (defBody s_u_law_gcd) (defScope s_u_law_gcd) .none kV17 dc17 pm17 an17 cd17 ct17), sl17⟩)
    (c17 : PySem.W.codeIn K cd17 "_law_gcd" = true)
    (k17 : PySem.W.keepIn K (.ref f17) = true)
    (a18 : PySem.W.nsIn K mainGlobals "_law_is_int" = some (some (.ref f18)))
    (l18 : K.lookup f18 = some ⟨oc18, od18, .func (PySem.W.fnOf "_law_is_int" "_law_is_int" (defArgs s_u_law_is_int) (defBody s_u_law_is_int) (defScope s_u_law_is_int) .none kV18 dc18 pm18 an18 cd18 ct18), sl18⟩)
    (c18 : PySem.W.codeIn K cd18 "_law_is_int" = true)
    (k18 : PySem.W.keepIn K (.ref f18) = true)
    (a19 : PySem.W.nsIn K mainGlobals "_law_same" = some (some (.ref f19)))
    (l19 : K.lookup f19 = some ⟨oc19, od19, .func (PySem.W.fnOf "_law_same" "_law_same" (defArgs s_u_law_same) (defBody s_u_law_same) (defScope s_u_law_same) .none kV19 dc19 pm19 an19 cd19 ct19), sl19⟩)
    (c19 : PySem.W.codeIn K cd19 "_law_same" = true)
    (k19 : PySem.W.keepIn K (.ref f19) = true)
    (a20 : PySem.W.nsIn K mainGlobals "_law_weight" = some (some (.ref f20)))
    (l20 : K.lookup f20 = some ⟨oc20, od20, .func (PySem.W.fnOf "_law_weight" "_law_weight" (defArgs s_u_law_weight) (defBody s_u_law_weight) (defScope s_u_law_weight) .none kV20 dc20 pm20 an20 cd20 ct20), sl20⟩)
    (c20 : PySem.W.codeIn K cd20 "_law_weight" = true)
    (k20 : PySem.W.keepIn K (.ref f20) = true)
    (a21 : PySem.W.nsIn K mainGlobals "_law_drawn" = some (some (.ref f21)))
    (l21 : K.lookup f21 = some ⟨oc21, od21, .func (PySem.W.fnOf "_law_drawn" "_law_drawn" (defArgs s_u_law_drawn) (defBody s_u_law_drawn) (defScope s_u_law_drawn) .none kV21 dc21 pm21 an21 cd21 ct21), sl21⟩)
    (c21 : PySem.W.codeIn K cd21 "_law_drawn" = true)
    (k21 : PySem.W.keepIn K (.ref f21) = true)
    (a22 : PySem.W.nsIn K mainGlobals "_law_due" = some (some (.ref f22)))
    (l22 : K.lookup f22 = some ⟨oc22, od22, .func (PySem.W.fnOf "_law_due" "_law_due" (defArgs s_u_law_due) (defBody s_u_law_due) (defScope s_u_law_due) .none kV22 dc22 pm22 an22 cd22 ct22), sl22⟩)
    (c22 : PySem.W.codeIn K cd22 "_law_due" = true)
    (k22 : PySem.W.keepIn K (.ref f22) = true)
    (a23 : PySem.W.nsIn K mainGlobals "_law_told" = some (some (.ref f23)))
    (l23 : K.lookup f23 = some ⟨oc23, od23, .func (PySem.W.fnOf "_law_told" "_law_told" (defArgs s_u_law_told) (defBody s_u_law_told) (defScope s_u_law_told) .none kV23 dc23 pm23 an23 cd23 ct23), sl23⟩)
    (c23 : PySem.W.codeIn K cd23 "_law_told" = true)
    (k23 : PySem.W.keepIn K (.ref f23) = true)
    (a24 : PySem.W.nsIn K mainGlobals "_law_classes" = some (some (.ref f24)))
    (l24 : K.lookup f24 = some ⟨oc24, od24, .func (PySem.W.fnOf "_law_classes" "_law_classes" (defArgs s_u_law_classes) (defBody s_u_law_classes) (defScope s_u_law_classes) .none kV24 dc24 pm24 an24 cd24 ct24), sl24⟩)
    (c24 : PySem.W.codeIn K cd24 "_law_classes" = true)
    (k24 : PySem.W.keepIn K (.ref f24) = true)
    (a25 : PySem.W.nsIn K mainGlobals "_law_ticket" = some (some (.ref f25)))
    (l25 : K.lookup f25 = some ⟨oc25, od25, .func (PySem.W.fnOf "_law_ticket" "_law_ticket" (defArgs s_u_law_ticket) (defBody s_u_law_ticket) (defScope s_u_law_ticket) .none kV25 dc25 pm25 an25 cd25 ct25), sl25⟩)
    (c25 : PySem.W.codeIn K cd25 "_law_ticket" = true)
    (k25 : PySem.W.keepIn K (.ref f25) = true)
    (a26 : PySem.W.nsIn K mainGlobals "_law_many" = some (some (.ref f26)))
    (l26 : K.lookup f26 = some ⟨oc26, od26, .func (PySem.W.fnOf "_law_many" "_law_many" (defArgs s_u_law_many) (defBody s_u_law_many) (defScope s_u_law_many) .none kV26 dc26 pm26 an26 cd26 ct26), sl26⟩)
    (c26 : PySem.W.codeIn K cd26 "_law_many" = true)
    (k26 : PySem.W.keepIn K (.ref f26) = true)
    (a27 : PySem.W.nsIn K mainGlobals "_law_due_ticket" = some (some (.ref f27)))
    (l27 : K.lookup f27 = some ⟨oc27, od27, .func (PySem.W.fnOf "_law_due_ticket" "_law_due_ticket" (defArgs s_u_law_due_ticket) (defBody s_u_law_due_ticket) (defScope s_u_law_due_ticket) .none kV27 dc27 pm27 an27 cd27 ct27), sl27⟩)
    (c27 : PySem.W.codeIn K cd27 "_law_due_ticket" = true)
    (k27 : PySem.W.keepIn K (.ref f27) = true)
    (a28 : PySem.W.nsIn K mainGlobals "_law_numbers" = some (some (.ref f28)))
    (l28 : K.lookup f28 = some ⟨oc28, od28, .func (PySem.W.fnOf "_law_numbers" "_law_numbers" (defArgs s_u_law_numbers) (defBody s_u_law_numbers) (defScope s_u_law_numbers) .none kV28 dc28 pm28 an28 cd28 ct28), sl28⟩)
    (c28 : PySem.W.codeIn K cd28 "_law_numbers" = true)
    (k28 : PySem.W.keepIn K (.ref f28) = true)
    (a29 : PySem.W.nsIn K mainGlobals "_law_right" = some (some (.ref f29)))
    (l29 : K.lookup f29 = some ⟨oc29, od29, .func (PySem.W.fnOf "_law_right" "_law_right" (defArgs s_u_law_right) (defBody s_u_law_right) (defScope s_u_law_right) .none kV29 dc29 pm29 an29 cd29 ct29), sl29⟩)
    (c29 : PySem.W.codeIn K cd29 "_law_right" = true)
    (k29 : PySem.W.keepIn K (.ref f29) = true)
    (a30 : PySem.W.nsIn K mainGlobals "law" = some (some (.ref f30)))
    (l30 : K.lookup f30 = some ⟨oc30, od30, .func (PySem.W.fnOf "law" "law" (defArgs s_law) (defBody s_law) (defScope s_law) .none kV30 dc30 pm30 an30 cd30 ct30), sl30⟩)
    (c30 : PySem.W.codeIn K cd30 "law" = true)
    (k30 : PySem.W.keepIn K (.ref f30) = true)
    (kc_MOST_WEIGHTS : PySem.W.nsIn K mainGlobals "_MOST_WEIGHTS" = some (some (.int 12 t_MOST_WEIGHTS)))
    (z_abs : PySem.W.nsIn K mainGlobals "abs" = some none)
    (z_len : PySem.W.nsIn K mainGlobals "len" = some none)
    (z_int : PySem.W.nsIn K mainGlobals "int" = some none)
    (z_bool : PySem.W.nsIn K mainGlobals "bool" = some none)
    (z_str : PySem.W.nsIn K mainGlobals "str" = some none)
    (z_list : PySem.W.nsIn K mainGlobals "list" = some none)
    (z_tuple : PySem.W.nsIn K mainGlobals "tuple" = some none)
    (z_isinstance : PySem.W.nsIn K mainGlobals "isinstance" = some none)
    (z_range : PySem.W.nsIn K mainGlobals "range" = some none)
    (z_ValueError : PySem.W.nsIn K mainGlobals "ValueError" = some none)
    (z_all : PySem.W.nsIn K mainGlobals "all" = some none)
    (z_sum : PySem.W.nsIn K mainGlobals "sum" = some none)
    (gG : PySem.W.nsIn K mainGlobals "gcd" = some (some (.builtin "math.gcd")))
    (hdR : PySem.W.hasDictIn K C_Ratio = true)
    (tyR : PySem.W.typeIn K (.ref C_Ratio) = some (.type "type"))
    (meC_Ratio : PySem.W.subIn K (.ref C_Ratio) (.ref C_Ratio) = some true)
    (siR : PySem.W.subIn K (.type "int") (.ref C_Ratio) = some false)
    (gLcm : PySem.W.nsIn K mainGlobals "lcm" = some (some (.builtin "math.lcm")))
    (exC_BadNumber : PySem.W.subIn K (.ref C_BadNumber) (.type "BaseException") = some true)
    (hdC_BadNumber : PySem.W.hasDictIn K C_BadNumber = true)
    (tyC_BadNumber : PySem.W.typeIn K (.ref C_BadNumber) = some (.type "type"))
    (meC_BadNumber : PySem.W.subIn K (.ref C_BadNumber) (.ref C_BadNumber) = some true)
    (xL_BadNumber : K.lookup C_BadNumber = some (excClassObj nm_BadNumber q_BadNumber C_BadNumber N_BadNumber bs_BadNumber [.ref C_WatchError, .type "ValueError", .type "Exception", .type "BaseException", .type "object"] true sn_BadNumber sub_BadNumber ab_BadNumber col_BadNumber dd_BadNumber m0_BadNumber m1_BadNumber m2_BadNumber m3_BadNumber m5_BadNumber "ValueError.__new__"))
    (sa_BadNumber : PySem.W.findIn K (.ref C_BadNumber) "__setattr__" = some (some (.builtin "object.__setattr__")))
    (kC_BadNumber : PySem.W.keepIn K (.ref C_BadNumber) = true)
    (ti_BadNumber : PySem.W.typeIn K (.ref f0) = some (.type "function"))
    (ga_BadNumber : PySem.W.findIn K (.ref C_BadNumber) "__getattribute__" = some (some (.builtin "BaseException.__getattribute__")))
    (gg_BadNumber : PySem.W.findIn K (.ref C_BadNumber) "__getattr__" = some none)
    (ha_BadNumber : PySem.W.findIn K (.ref C_BadNumber) "__class__" = some (some (.builtin "object.__class__")))
    (hn_ : PySem.W.specialIn K (.builtin "object.__class__") "__get__" = some (some (.builtin "getset_descriptor.__get__")))
    (ht_ : PySem.W.takesIn K (.builtin "object.__class__") = some true)
    (hm_BadNumber : PySem.W.mroIn K C_BadNumber (.type "object") = some true)
    (nf_BadNumber_name : PySem.W.findIn K (.ref C_BadNumber) "name" = some none)
    (nf_BadNumber_value : PySem.W.findIn K (.ref C_BadNumber) "value" = some none)
    (exC_TooMany : PySem.W.subIn K (.ref C_TooMany) (.type "BaseException") = some true)
    (hdC_TooMany : PySem.W.hasDictIn K C_TooMany = true)
    (tyC_TooMany : PySem.W.typeIn K (.ref C_TooMany) = some (.type "type"))
    (meC_TooMany : PySem.W.subIn K (.ref C_TooMany) (.ref C_TooMany) = some true)
    (xL_TooMany : K.lookup C_TooMany = some (excClassObj nm_TooMany q_TooMany C_TooMany N_TooMany bs_TooMany [.ref C_WatchError, .type "ValueError", .type "Exception", .type "BaseException", .type "object"] true sn_TooMany sub_TooMany ab_TooMany col_TooMany dd_TooMany m0_TooMany m1_TooMany m2_TooMany m3_TooMany m5_TooMany "ValueError.__new__"))
    (sa_TooMany : PySem.W.findIn K (.ref C_TooMany) "__setattr__" = some (some (.builtin "object.__setattr__")))
    (kC_TooMany : PySem.W.keepIn K (.ref C_TooMany) = true)
    (ti_TooMany : PySem.W.typeIn K (.ref f1) = some (.type "function"))
    (ga_TooMany : PySem.W.findIn K (.ref C_TooMany) "__getattribute__" = some (some (.builtin "BaseException.__getattribute__")))
    (gg_TooMany : PySem.W.findIn K (.ref C_TooMany) "__getattr__" = some none)
    (ha_TooMany : PySem.W.findIn K (.ref C_TooMany) "__class__" = some (some (.builtin "object.__class__")))
    (hm_TooMany : PySem.W.mroIn K C_TooMany (.type "object") = some true)
    (nf_TooMany_name : PySem.W.findIn K (.ref C_TooMany) "name" = some none)
    (nf_TooMany_most : PySem.W.findIn K (.ref C_TooMany) "most" = some none)
    (exC_ZeroUnder : PySem.W.subIn K (.ref C_ZeroUnder) (.type "BaseException") = some true)
    (hdC_ZeroUnder : PySem.W.hasDictIn K C_ZeroUnder = true)
    (tyC_ZeroUnder : PySem.W.typeIn K (.ref C_ZeroUnder) = some (.type "type"))
    (meC_ZeroUnder : PySem.W.subIn K (.ref C_ZeroUnder) (.ref C_ZeroUnder) = some true)
    (xP_ZeroUnder : PySem.W.excIn K C_ZeroUnder [.type "ValueError", .type "Exception", .type "BaseException", .type "object"] "ValueError.__new__" = true)
    (kP_ZeroUnder : PySem.W.keepIn K (.ref C_ZeroUnder) = true)
    (ga_ZeroUnder : PySem.W.findIn K (.ref C_ZeroUnder) "__getattribute__" = some (some (.builtin "BaseException.__getattribute__")))
    (gg_ZeroUnder : PySem.W.findIn K (.ref C_ZeroUnder) "__getattr__" = some none)
    (ha_ZeroUnder : PySem.W.findIn K (.ref C_ZeroUnder) "__class__" = some (some (.builtin "object.__class__")))
    (hm_ZeroUnder : PySem.W.mroIn K C_ZeroUnder (.type "object") = some true)
    (exC_NoPlace : PySem.W.subIn K (.ref C_NoPlace) (.type "BaseException") = some true)
    (hdC_NoPlace : PySem.W.hasDictIn K C_NoPlace = true)
    (tyC_NoPlace : PySem.W.typeIn K (.ref C_NoPlace) = some (.type "type"))
    (meC_NoPlace : PySem.W.subIn K (.ref C_NoPlace) (.ref C_NoPlace) = some true)
    (xP_NoPlace : PySem.W.excIn K C_NoPlace [.type "ValueError", .type "Exception", .type "BaseException", .type "object"] "ValueError.__new__" = true)
    (kP_NoPlace : PySem.W.keepIn K (.ref C_NoPlace) = true)
    (ga_NoPlace : PySem.W.findIn K (.ref C_NoPlace) "__getattribute__" = some (some (.builtin "BaseException.__getattribute__")))
    (gg_NoPlace : PySem.W.findIn K (.ref C_NoPlace) "__getattr__" = some none)
    (ha_NoPlace : PySem.W.findIn K (.ref C_NoPlace) "__class__" = some (some (.builtin "object.__class__")))
    (hm_NoPlace : PySem.W.mroIn K C_NoPlace (.type "object") = some true)
    (exC_BadShares : PySem.W.subIn K (.ref C_BadShares) (.type "BaseException") = some true)
    (hdC_BadShares : PySem.W.hasDictIn K C_BadShares = true)
    (tyC_BadShares : PySem.W.typeIn K (.ref C_BadShares) = some (.type "type"))
    (meC_BadShares : PySem.W.subIn K (.ref C_BadShares) (.ref C_BadShares) = some true)
    (xP_BadShares : PySem.W.excIn K C_BadShares [.type "ValueError", .type "Exception", .type "BaseException", .type "object"] "ValueError.__new__" = true)
    (kP_BadShares : PySem.W.keepIn K (.ref C_BadShares) = true)
    (ga_BadShares : PySem.W.findIn K (.ref C_BadShares) "__getattribute__" = some (some (.builtin "BaseException.__getattribute__")))
    (gg_BadShares : PySem.W.findIn K (.ref C_BadShares) "__getattr__" = some none)
    (ha_BadShares : PySem.W.findIn K (.ref C_BadShares) "__class__" = some (some (.builtin "object.__class__")))
    (hm_BadShares : PySem.W.mroIn K C_BadShares (.type "object") = some true)
    (sub_BadNumber_TooMany : PySem.W.subIn K (.ref C_BadNumber) (.ref C_TooMany) = some false)
    (sub_BadNumber_BadShares : PySem.W.subIn K (.ref C_BadNumber) (.ref C_BadShares) = some false)
    (sub_TooMany_BadNumber : PySem.W.subIn K (.ref C_TooMany) (.ref C_BadNumber) = some false)
    (sub_TooMany_BadShares : PySem.W.subIn K (.ref C_TooMany) (.ref C_BadShares) = some false)
    (sub_BadShares_BadNumber : PySem.W.subIn K (.ref C_BadShares) (.ref C_BadNumber) = some false)
    (sub_BadShares_TooMany : PySem.W.subIn K (.ref C_BadShares) (.ref C_TooMany) = some false)
    (exC_WatchError : PySem.W.subIn K (.ref C_WatchError) (.type "BaseException") = some true)
    (hdC_WatchError : PySem.W.hasDictIn K C_WatchError = true)
    (tyC_WatchError : PySem.W.typeIn K (.ref C_WatchError) = some (.type "type"))
    (meC_WatchError : PySem.W.subIn K (.ref C_WatchError) (.ref C_WatchError) = some true)
    (sub_BadNumber_WatchError : PySem.W.subIn K (.ref C_BadNumber) (.ref C_WatchError) = some true)
    (sub_TooMany_WatchError : PySem.W.subIn K (.ref C_TooMany) (.ref C_WatchError) = some true)
    (sub_BadShares_WatchError : PySem.W.subIn K (.ref C_BadShares) (.ref C_WatchError) = some true)
    (sub_Ratio_int : PySem.W.subIn K (.ref C_Ratio) (.type "int") = some false)
    (sub_BadNumber_ValueError : PySem.W.subIn K (.ref C_BadNumber) (.type "ValueError") = some true)
    (sub_TooMany_ValueError : PySem.W.subIn K (.ref C_TooMany) (.type "ValueError") = some true)
    (sub_BadShares_ValueError : PySem.W.subIn K (.ref C_BadShares) (.type "ValueError") = some true)
    (pg_Ratio : PySem.W.plainGet K C_Ratio Str.empty = true)
    (hd_Ratio : PySem.W.hasDictIn K C_Ratio = true)
    (po_Ratio : PySem.W.plainOver K C_Ratio = true)
    (sa_Ratio : PySem.W.findIn K (.ref C_Ratio) "__setattr__" = some (some (.builtin "object.__setattr__")))
    (mk_Ratio : PySem.W.makesIn K C_Ratio = true)
    (kc_Ratio : PySem.W.keepIn K (.ref C_Ratio) = true)
    (if_2 : PySem.W.isFn K (.ref f2) = true)
    (na_Ratio_top : PySem.W.findIn K (.ref C_Ratio) "top" = some none)
    (na_Ratio_under : PySem.W.findIn K (.ref C_Ratio) "under" = some none)
    (sf_Ratio : PySem.W.selfFirst K C_Ratio = true)
    (si_Ratio : PySem.W.subIn K (.type "int") (.ref C_Ratio) = some false)
    (dn_Ratio_add : PySem.W.findIn K (.ref C_Ratio) (PySem.dunder "add") = some (some (.ref f4)))
    (dr_Ratio_add : PySem.W.findIn K (.ref C_Ratio) (dunderR "add") = some (some (.ref f5)))
    (if_5 : PySem.W.isFn K (.ref f5) = true)
    (rc_Ratio_add : PySem.W.findIn K (.ref C_Ratio) (dunderR "add") = some (some (.ref rf_Ratio_add)))
    (lo_Ratio_add : PySem.W.findIn K (.type "int") (PySem.dunder "add") = some fo_Ratio_add)
    (ro_Ratio_add : PySem.W.findIn K (.type "int") (dunderR "add") = some ro_Ratio_add)
    (ha_Ratio : PySem.W.findIn K (.ref C_Ratio) "__class__" = some (some (.builtin "object.__class__")))
    (hm_Ratio : PySem.W.mroIn K C_Ratio (.type "object") = some true)
    (pg_Tickets : PySem.W.plainGet K C_Tickets Str.empty = true)
    (hd_Tickets : PySem.W.hasDictIn K C_Tickets = true)
    (po_Tickets : PySem.W.plainOver K C_Tickets = true)
    (sa_Tickets : PySem.W.findIn K (.ref C_Tickets) "__setattr__" = some (some (.builtin "object.__setattr__")))
    (mk_Tickets : PySem.W.makesIn K C_Tickets = true)
    (kc_Tickets : PySem.W.keepIn K (.ref C_Tickets) = true)
    (if_12 : PySem.W.isFn K (.ref f12) = true)
    (na_Tickets_total : PySem.W.findIn K (.ref C_Tickets) "total" = some none)
    (na_Tickets_tickets_each : PySem.W.findIn K (.ref C_Tickets) "_tickets_each" = some none)
    (if_4 : PySem.W.isFn K (.ref f4) = true)
    (if_7 : PySem.W.isFn K (.ref f7) = true)
    (if_8 : PySem.W.isFn K (.ref f8) = true)
    (if_13 : PySem.W.isFn K (.ref f13) = true)
    (if_14 : PySem.W.isFn K (.ref f14) = true)
    : ∃ fd : FuncData, (∀ (s : Shared) (v : Value), BindsTo s fd ⟨[v], []⟩ [("script", v)]) ∧ ∀ base : Heap, K.In base → base.Ns mainGlobals mg → FnOk l.prog w K mg base CX0 24 fa fd ["script"] ((spLaw K)) := by
  have e := hfa.symm.trans (PySem.W.mg_of X G a30)
  cases e
  let A : Ads := {
    f_BadNumber_init := f0,
    d_BadNumber_init := PySem.W.fnOf "__init__" "BadNumber.__init__" (defArgs s_BadNumber_init) (defBody s_BadNumber_init) (defScope s_BadNumber_init) .none kV0 dc0 pm0 an0 cd0 ct0,
    f_TooMany_init := f1,
    d_TooMany_init := PySem.W.fnOf "__init__" "TooMany.__init__" (defArgs s_TooMany_init) (defBody s_TooMany_init) (defScope s_TooMany_init) .none kV1 dc1 pm1 an1 cd1 ct1,
    f_Ratio_init := f2,
    d_Ratio_init := PySem.W.fnOf "__init__" "Ratio.__init__" (defArgs s_Ratio_init) (defBody s_Ratio_init) (defScope s_Ratio_init) (.ref df2) kV2 dc2 pm2 an2 cd2 ct2,
    f_as_ratio := f3,
    d_as_ratio := PySem.W.fnOf "as_ratio" "as_ratio" (defArgs s_as_ratio) (defBody s_as_ratio) (defScope s_as_ratio) .none kV3 dc3 pm3 an3 cd3 ct3,
    f_Ratio_add := f4,
    d_Ratio_add := PySem.W.fnOf "__add__" "Ratio.__add__" (defArgs s_Ratio_add) (defBody s_Ratio_add) (defScope s_Ratio_add) .none kV4 dc4 pm4 an4 cd4 ct4,
    f_Ratio_radd := f5,
    d_Ratio_radd := PySem.W.fnOf "__radd__" "Ratio.__radd__" (defArgs s_Ratio_radd) (defBody s_Ratio_radd) (defScope s_Ratio_radd) .none kV5 dc5 pm5 an5 cd5 ct5,
    f_u_lead := f6,
    d_u_lead := PySem.W.fnOf "_lead" "_lead" (defArgs s_u_lead) (defBody s_u_lead) (defScope s_u_lead) .none kV6 dc6 pm6 an6 cd6 ct6,
    f_Ratio_ge := f7,
    d_Ratio_ge := PySem.W.fnOf "__ge__" "Ratio.__ge__" (defArgs s_Ratio_ge) (defBody s_Ratio_ge) (defScope s_Ratio_ge) .none kV7 dc7 pm7 an7 cd7 ct7,
    f_Ratio_eq := f8,
    d_Ratio_eq := PySem.W.fnOf "__eq__" "Ratio.__eq__" (defArgs s_Ratio_eq) (defBody s_Ratio_eq) (defScope s_Ratio_eq) .none kV8 dc8 pm8 an8 cd8 ct8,
    f_over_one := f9,
    d_over_one := PySem.W.fnOf "over_one" "over_one" (defArgs s_over_one) (defBody s_over_one) (defScope s_over_one) .none kV9 dc9 pm9 an9 cd9 ct9,
    f_are_shares := f10,
    d_are_shares := PySem.W.fnOf "are_shares" "are_shares" (defArgs s_are_shares) (defBody s_are_shares) (defScope s_are_shares) .none kV10 dc10 pm10 an10 cd10 ct10,
    f_check_shares := f11,
    d_check_shares := PySem.W.fnOf "check_shares" "check_shares" (defArgs s_check_shares) (defBody s_check_shares) (defScope s_check_shares) .none kV11 dc11 pm11 an11 cd11 ct11,
    f_Tickets_init := f12,
    d_Tickets_init := PySem.W.fnOf "__init__" "Tickets.__init__" (defArgs s_Tickets_init) (defBody s_Tickets_init) (defScope s_Tickets_init) .none kV12 dc12 pm12 an12 cd12 ct12,
    f_Tickets_many := f13,
    d_Tickets_many := PySem.W.fnOf "many" "Tickets.many" (defArgs s_Tickets_many) (defBody s_Tickets_many) (defScope s_Tickets_many) .none kV13 dc13 pm13 an13 cd13 ct13,
    f_Tickets_ticket := f14,
    d_Tickets_ticket := PySem.W.fnOf "ticket" "Tickets.ticket" (defArgs s_Tickets_ticket) (defBody s_Tickets_ticket) (defScope s_Tickets_ticket) .none kV14 dc14 pm14 an14 cd14 ct14,
    f_u_law_cell := f15,
    d_u_law_cell := PySem.W.fnOf "_law_cell" "_law_cell" (defArgs s_u_law_cell) (defBody s_u_law_cell) (defScope s_u_law_cell) .none kV15 dc15 pm15 an15 cd15 ct15,
    f_u_law_draws := f16,
    d_u_law_draws := PySem.W.fnOf "_law_draws" "_law_draws" (defArgs s_u_law_draws) (defBody s_u_law_draws) (defScope s_u_law_draws) .none kV16 dc16 pm16 an16 cd16 ct16,
    f_u_law_gcd := f17,
    d_u_law_gcd := PySem.W.fnOf "_law_gcd" "_law_gcd" (defArgs s_u_law_gcd) (defBody s_u_law_gcd) (defScope s_u_law_gcd) .none kV17 dc17 pm17 an17 cd17 ct17,
    f_u_law_is_int := f18,
    d_u_law_is_int := PySem.W.fnOf "_law_is_int" "_law_is_int" (defArgs s_u_law_is_int) (defBody s_u_law_is_int) (defScope s_u_law_is_int) .none kV18 dc18 pm18 an18 cd18 ct18,
    f_u_law_same := f19,
    d_u_law_same := PySem.W.fnOf "_law_same" "_law_same" (defArgs s_u_law_same) (defBody s_u_law_same) (defScope s_u_law_same) .none kV19 dc19 pm19 an19 cd19 ct19,
    f_u_law_weight := f20,
    d_u_law_weight := PySem.W.fnOf "_law_weight" "_law_weight" (defArgs s_u_law_weight) (defBody s_u_law_weight) (defScope s_u_law_weight) .none kV20 dc20 pm20 an20 cd20 ct20,
    f_u_law_drawn := f21,
    d_u_law_drawn := PySem.W.fnOf "_law_drawn" "_law_drawn" (defArgs s_u_law_drawn) (defBody s_u_law_drawn) (defScope s_u_law_drawn) .none kV21 dc21 pm21 an21 cd21 ct21,
    f_u_law_due := f22,
    d_u_law_due := PySem.W.fnOf "_law_due" "_law_due" (defArgs s_u_law_due) (defBody s_u_law_due) (defScope s_u_law_due) .none kV22 dc22 pm22 an22 cd22 ct22,
    f_u_law_told := f23,
    d_u_law_told := PySem.W.fnOf "_law_told" "_law_told" (defArgs s_u_law_told) (defBody s_u_law_told) (defScope s_u_law_told) .none kV23 dc23 pm23 an23 cd23 ct23,
    f_u_law_classes := f24,
    d_u_law_classes := PySem.W.fnOf "_law_classes" "_law_classes" (defArgs s_u_law_classes) (defBody s_u_law_classes) (defScope s_u_law_classes) .none kV24 dc24 pm24 an24 cd24 ct24,
    f_u_law_ticket := f25,
    d_u_law_ticket := PySem.W.fnOf "_law_ticket" "_law_ticket" (defArgs s_u_law_ticket) (defBody s_u_law_ticket) (defScope s_u_law_ticket) .none kV25 dc25 pm25 an25 cd25 ct25,
    f_u_law_many := f26,
    d_u_law_many := PySem.W.fnOf "_law_many" "_law_many" (defArgs s_u_law_many) (defBody s_u_law_many) (defScope s_u_law_many) .none kV26 dc26 pm26 an26 cd26 ct26,
    f_u_law_due_ticket := f27,
    d_u_law_due_ticket := PySem.W.fnOf "_law_due_ticket" "_law_due_ticket" (defArgs s_u_law_due_ticket) (defBody s_u_law_due_ticket) (defScope s_u_law_due_ticket) .none kV27 dc27 pm27 an27 cd27 ct27,
    f_u_law_numbers := f28,
    d_u_law_numbers := PySem.W.fnOf "_law_numbers" "_law_numbers" (defArgs s_u_law_numbers) (defBody s_u_law_numbers) (defScope s_u_law_numbers) .none kV28 dc28 pm28 an28 cd28 ct28,
    f_u_law_right := f29,
    d_u_law_right := PySem.W.fnOf "_law_right" "_law_right" (defArgs s_u_law_right) (defBody s_u_law_right) (defScope s_u_law_right) .none kV29 dc29 pm29 an29 cd29 ct29,
    f_law := fa,
    d_law := PySem.W.fnOf "law" "law" (defArgs s_law) (defBody s_law) (defScope s_law) .none kV30 dc30 pm30 an30 cd30 ct30,
    C_WatchError := C_WatchError,
    C_ZeroUnder := C_ZeroUnder,
    C_BadNumber := C_BadNumber,
    C_TooMany := C_TooMany,
    C_NoPlace := C_NoPlace,
    C_BadShares := C_BadShares,
    C_Ratio := C_Ratio,
    C_Tickets := C_Tickets }
  have T : Txt K mg A := {
    F_BadNumber_init := fun_mk (st := s_BadNumber_init) l0 c0 k0,
    F_TooMany_init := fun_mk (st := s_TooMany_init) l1 c1 k1,
    F_Ratio_init := ⟨⟨_, _, _, _, _, _, _, _, _, _, rfl, l2, c2, .inr ⟨by simp, df2, _, _, _, rfl, dl2, rfl, .cons ⟨_, rfl⟩ (.nil)⟩, .inl rfl⟩, k2⟩,
    F_as_ratio := fun_mk (st := s_as_ratio) l3 c3 k3,
    g_as_ratio := PySem.W.mg_of X G a3,
    k_as_ratio := k3,
    F_Ratio_add := fun_mk (st := s_Ratio_add) l4 c4 k4,
    F_Ratio_radd := fun_mk (st := s_Ratio_radd) l5 c5 k5,
    F_u_lead := fun_mk (st := s_u_lead) l6 c6 k6,
    g_u_lead := PySem.W.mg_of X G a6,
    k_u_lead := k6,
    F_Ratio_ge := fun_mk (st := s_Ratio_ge) l7 c7 k7,
    F_Ratio_eq := fun_mk (st := s_Ratio_eq) l8 c8 k8,
    F_over_one := fun_mk (st := s_over_one) l9 c9 k9,
    g_over_one := PySem.W.mg_of X G a9,
    k_over_one := k9,
    F_are_shares := fun_mk (st := s_are_shares) l10 c10 k10,
    g_are_shares := PySem.W.mg_of X G a10,
    k_are_shares := k10,
    F_check_shares := fun_mk (st := s_check_shares) l11 c11 k11,
    g_check_shares := PySem.W.mg_of X G a11,
    k_check_shares := k11,
    F_Tickets_init := fun_mk (st := s_Tickets_init) l12 c12 k12,
    F_Tickets_many := fun_mk (st := s_Tickets_many) l13 c13 k13,
    F_Tickets_ticket := fun_mk (st := s_Tickets_ticket) l14 c14 k14,
    F_u_law_cell := fun_mk (st := s_u_law_cell) l15 c15 k15,
    g_u_law_cell := PySem.W.mg_of X G a15,
    k_u_law_cell := k15,
    F_u_law_draws := fun_mk (st := s_u_law_draws) l16 c16 k16,
    g_u_law_draws := PySem.W.mg_of X G a16,
    k_u_law_draws := k16,
    F_u_law_gcd := fun_mk (st := s_u_law_gcd) l17 c17 k17,
    g_u_law_gcd := PySem.W.mg_of X G a17,
    k_u_law_gcd := k17,
    F_u_law_is_int := fun_mk (st := s_u_law_is_int) l18 c18 k18,
    g_u_law_is_int := PySem.W.mg_of X G a18,
    k_u_law_is_int := k18,
    F_u_law_same := fun_mk (st := s_u_law_same) l19 c19 k19,
    g_u_law_same := PySem.W.mg_of X G a19,
    k_u_law_same := k19,
    F_u_law_weight := fun_mk (st := s_u_law_weight) l20 c20 k20,
    g_u_law_weight := PySem.W.mg_of X G a20,
    k_u_law_weight := k20,
    F_u_law_drawn := fun_mk (st := s_u_law_drawn) l21 c21 k21,
    g_u_law_drawn := PySem.W.mg_of X G a21,
    k_u_law_drawn := k21,
    F_u_law_due := fun_mk (st := s_u_law_due) l22 c22 k22,
    g_u_law_due := PySem.W.mg_of X G a22,
    k_u_law_due := k22,
    F_u_law_told := fun_mk (st := s_u_law_told) l23 c23 k23,
    g_u_law_told := PySem.W.mg_of X G a23,
    k_u_law_told := k23,
    F_u_law_classes := fun_mk (st := s_u_law_classes) l24 c24 k24,
    g_u_law_classes := PySem.W.mg_of X G a24,
    k_u_law_classes := k24,
    F_u_law_ticket := fun_mk (st := s_u_law_ticket) l25 c25 k25,
    g_u_law_ticket := PySem.W.mg_of X G a25,
    k_u_law_ticket := k25,
    F_u_law_many := fun_mk (st := s_u_law_many) l26 c26 k26,
    g_u_law_many := PySem.W.mg_of X G a26,
    k_u_law_many := k26,
    F_u_law_due_ticket := fun_mk (st := s_u_law_due_ticket) l27 c27 k27,
    g_u_law_due_ticket := PySem.W.mg_of X G a27,
    k_u_law_due_ticket := k27,
    F_u_law_numbers := fun_mk (st := s_u_law_numbers) l28 c28 k28,
    g_u_law_numbers := PySem.W.mg_of X G a28,
    k_u_law_numbers := k28,
    F_u_law_right := fun_mk (st := s_u_law_right) l29 c29 k29,
    g_u_law_right := PySem.W.mg_of X G a29,
    k_u_law_right := k29,
    F_law := fun_mk (st := s_law) l30 c30 k30,
    g_law := hfa,
    k_law := k30,
    c_MOST_WEIGHTS := ⟨_, PySem.W.mg_of X G kc_MOST_WEIGHTS⟩,
    z_abs := PySem.W.mg_none_of X G z_abs,
    z_len := PySem.W.mg_none_of X G z_len,
    z_int := PySem.W.mg_none_of X G z_int,
    z_bool := PySem.W.mg_none_of X G z_bool,
    z_str := PySem.W.mg_none_of X G z_str,
    z_list := PySem.W.mg_none_of X G z_list,
    z_tuple := PySem.W.mg_none_of X G z_tuple,
    z_isinstance := PySem.W.mg_none_of X G z_isinstance,
    z_range := PySem.W.mg_none_of X G z_range,
    z_ValueError := PySem.W.mg_none_of X G z_ValueError,
    z_all := PySem.W.mg_none_of X G z_all,
    z_sum := PySem.W.mg_none_of X G z_sum,
    g_WatchError := PySem.W.mg_of X G g_WatchError,
    g_ZeroUnder := PySem.W.mg_of X G g_ZeroUnder,
    g_BadNumber := PySem.W.mg_of X G g_BadNumber,
    g_TooMany := PySem.W.mg_of X G g_TooMany,
    g_NoPlace := PySem.W.mg_of X G g_NoPlace,
    g_BadShares := PySem.W.mg_of X G g_BadShares,
    g_Ratio := PySem.W.mg_of X G g_Ratio,
    g_Tickets := PySem.W.mg_of X G g_Tickets,
    g_gcd := PySem.W.mg_of X G gG,
    kit_int_Ratio := kit_no hdR tyR meC_Ratio siR,
    g_lcm := PySem.W.mg_of X G gLcm,
    ox_BadNumber := ⟨⟨nm_BadNumber, q_BadNumber, N_BadNumber, bs_BadNumber, _, sn_BadNumber, sub_BadNumber, ab_BadNumber, col_BadNumber, dd_BadNumber, m0_BadNumber, m1_BadNumber, m2_BadNumber, m3_BadNumber, m5_BadNumber, xL_BadNumber, rfl⟩, sa_BadNumber, exC_BadNumber, tyC_BadNumber, kC_BadNumber⟩,
    ni_BadNumber := a0,
    ti_BadNumber := ti_BadNumber,
    nf_BadNumber_name := nf_BadNumber_name,
    nf_BadNumber_value := nf_BadNumber_value,
    xf_BadNumber := ⟨ga_BadNumber, gg_BadNumber, exC_BadNumber, hdC_BadNumber⟩,
    ex_BadNumber := ⟨ga_BadNumber, gg_BadNumber, exC_BadNumber, hdC_BadNumber, ha_BadNumber, hn_, ht_, hm_BadNumber⟩,
    ox_TooMany := ⟨⟨nm_TooMany, q_TooMany, N_TooMany, bs_TooMany, _, sn_TooMany, sub_TooMany, ab_TooMany, col_TooMany, dd_TooMany, m0_TooMany, m1_TooMany, m2_TooMany, m3_TooMany, m5_TooMany, xL_TooMany, rfl⟩, sa_TooMany, exC_TooMany, tyC_TooMany, kC_TooMany⟩,
    ni_TooMany := a1,
    ti_TooMany := ti_TooMany,
    nf_TooMany_name := nf_TooMany_name,
    nf_TooMany_most := nf_TooMany_most,
    xf_TooMany := ⟨ga_TooMany, gg_TooMany, exC_TooMany, hdC_TooMany⟩,
    ex_TooMany := ⟨ga_TooMany, gg_TooMany, exC_TooMany, hdC_TooMany, ha_TooMany, hn_, ht_, hm_TooMany⟩,
    xP_ZeroUnder := xP_ZeroUnder,
    kP_ZeroUnder := kP_ZeroUnder,
    bP_ZeroUnder := exC_ZeroUnder,
    tP_ZeroUnder := tyC_ZeroUnder,
    ex_ZeroUnder := ⟨ga_ZeroUnder, gg_ZeroUnder, exC_ZeroUnder, hdC_ZeroUnder, ha_ZeroUnder, hn_, ht_, hm_ZeroUnder⟩,
    xP_NoPlace := xP_NoPlace,
    kP_NoPlace := kP_NoPlace,
    bP_NoPlace := exC_NoPlace,
    tP_NoPlace := tyC_NoPlace,
    ex_NoPlace := ⟨ga_NoPlace, gg_NoPlace, exC_NoPlace, hdC_NoPlace, ha_NoPlace, hn_, ht_, hm_NoPlace⟩,
    xP_BadShares := xP_BadShares,
    kP_BadShares := kP_BadShares,
    bP_BadShares := exC_BadShares,
    tP_BadShares := tyC_BadShares,
    ex_BadShares := ⟨ga_BadShares, gg_BadShares, exC_BadShares, hdC_BadShares, ha_BadShares, hn_, ht_, hm_BadShares⟩,
    xm_BadNumber_BadNumber := PySem.W.exm_ref exC_BadNumber hdC_BadNumber tyC_BadNumber meC_BadNumber,
    xm_BadNumber_TooMany := PySem.W.exm_ref exC_TooMany hdC_TooMany tyC_TooMany sub_BadNumber_TooMany,
    xm_BadNumber_BadShares := PySem.W.exm_ref exC_BadShares hdC_BadShares tyC_BadShares sub_BadNumber_BadShares,
    xm_TooMany_BadNumber := PySem.W.exm_ref exC_BadNumber hdC_BadNumber tyC_BadNumber sub_TooMany_BadNumber,
    xm_TooMany_TooMany := PySem.W.exm_ref exC_TooMany hdC_TooMany tyC_TooMany meC_TooMany,
    xm_TooMany_BadShares := PySem.W.exm_ref exC_BadShares hdC_BadShares tyC_BadShares sub_TooMany_BadShares,
    xm_BadShares_BadNumber := PySem.W.exm_ref exC_BadNumber hdC_BadNumber tyC_BadNumber sub_BadShares_BadNumber,
    xm_BadShares_TooMany := PySem.W.exm_ref exC_TooMany hdC_TooMany tyC_TooMany sub_BadShares_TooMany,
    xm_BadShares_BadShares := PySem.W.exm_ref exC_BadShares hdC_BadShares tyC_BadShares meC_BadShares,
    xm_BadNumber_WatchError := PySem.W.exm_ref exC_WatchError hdC_WatchError tyC_WatchError sub_BadNumber_WatchError,
    xm_TooMany_WatchError := PySem.W.exm_ref exC_WatchError hdC_WatchError tyC_WatchError sub_TooMany_WatchError,
    xm_BadShares_WatchError := PySem.W.exm_ref exC_WatchError hdC_WatchError tyC_WatchError sub_BadShares_WatchError,
    xm_NoPlace_NoPlace := PySem.W.exm_ref exC_NoPlace hdC_NoPlace tyC_NoPlace meC_NoPlace,
    kit_Ratio_int := kit_bi (by decide +kernel) sub_Ratio_int,
    kit_Ratio_Ratio := kit_self,
    kit_BadNumber_ValueError := kit_bi (by decide +kernel) sub_BadNumber_ValueError,
    kit_TooMany_ValueError := kit_bi (by decide +kernel) sub_TooMany_ValueError,
    kit_BadShares_ValueError := kit_bi (by decide +kernel) sub_BadShares_ValueError,
    kit_BadNumber_BadNumber := kit_self,
    kit_BadNumber_TooMany := kit_no hdC_TooMany tyC_TooMany meC_TooMany sub_BadNumber_TooMany,
    kit_BadNumber_BadShares := kit_no hdC_BadShares tyC_BadShares meC_BadShares sub_BadNumber_BadShares,
    kit_TooMany_BadNumber := kit_no hdC_BadNumber tyC_BadNumber meC_BadNumber sub_TooMany_BadNumber,
    kit_TooMany_TooMany := kit_self,
    kit_TooMany_BadShares := kit_no hdC_BadShares tyC_BadShares meC_BadShares sub_TooMany_BadShares,
    kit_BadShares_BadNumber := kit_no hdC_BadNumber tyC_BadNumber meC_BadNumber sub_BadShares_BadNumber,
    kit_BadShares_TooMany := kit_no hdC_TooMany tyC_TooMany meC_TooMany sub_BadShares_TooMany,
    kit_BadShares_BadShares := kit_self,
    cl_Ratio := ⟨pg_Ratio, hd_Ratio, po_Ratio, sa_Ratio⟩,
    mk_Ratio := ⟨mk_Ratio, a2, if_2, kc_Ratio⟩,
    na_Ratio_top := na_Ratio_top,
    na_Ratio_under := na_Ratio_under,
    op_Ratio := ⟨sf_Ratio, si_Ratio⟩,
    D_Ratio_add := ⟨dn_Ratio_add, if_4, k4⟩,
    R_Ratio_add := ⟨dr_Ratio_add, if_5, k5⟩,
    li_Ratio := sub_Ratio_int,
    I_Ratio_add := ⟨⟨_, rc_Ratio_add, .inr ⟨_, rfl⟩⟩, ⟨_, lo_Ratio_add⟩, ⟨_, ro_Ratio_add⟩⟩,
    ty_Ratio := fun H a dx fs e => .base (.ins e ⟨pg_Ratio, hd_Ratio, po_Ratio, sa_Ratio⟩ ha_Ratio hn_ ht_ hm_Ratio),
    cl_Tickets := ⟨pg_Tickets, hd_Tickets, po_Tickets, sa_Tickets⟩,
    mk_Tickets := ⟨mk_Tickets, a12, if_12, kc_Tickets⟩,
    na_Tickets_total := na_Tickets_total,
    na_Tickets_tickets_each := na_Tickets_tickets_each,
    M_Ratio_add := ⟨a4, if_4, k4⟩,
    M_Ratio_radd := ⟨a5, if_5, k5⟩,
    M_Ratio_ge := ⟨a7, if_7, k7⟩,
    M_Ratio_eq := ⟨a8, if_8, k8⟩,
    M_Tickets_many := ⟨a13, if_13, k13⟩,
    M_Tickets_ticket := ⟨a14, if_14, k14⟩ }
  exact ⟨A.d_law, fun s v => .of_eq rfl, fun base _ _ => ok_law T⟩
end
theorem walk {l : PySem.W.OpenLaw} {q : Program} {loose : List Str} {XP : (Str → Option Value) → Heap → Prop} {YP : World → Heap → Prop} {d : DefRec} {K : Params → PySem.W.Frag} (hn : l.most = some 63) (hdf : d.params.defaults = [])
    (hY : ∀ (w : World) (h : Heap), YP w h → (K w.params).In h)
    (F : ∀ (w : World) (mg : Str → Option Value) (fa : Addr) (h : Heap), (K w.params).In h → h.Ns mainGlobals mg → mg d.name = some (.ref fa) →
      ∃ fd : FuncData, (∀ (s : Shared) (u : Value), BindsTo s fd ⟨[u], []⟩ [("script", u)]) ∧ ∀ base : Heap, (K w.params).In base → base.Ns mainGlobals mg → FnOk l.prog w (K w.params) mg base CX0 24 fa fd ["script"] ((spLaw) (K w.params))) :
    PySem.W.WalkO q loose XP YP l.row.toRowW d [] (fun f vs => PySem.call f vs) :=
  L2.walk_of (n := 63) (k := 24) (x := "script") (CX := fun _ => CX0) (sp := fun w => (spLaw) (K w.params)) hn (by decide) hdf ⟨rfl, by decide, by decide⟩ hY F (fun _ _ a ns hl _ hS => ⟨a, ns, rfl, hS, hl, fun _ => rfl⟩) fun _ _ _ _ _ z => z
end Pf
open PySem PySem.W PyProof.Rows
set_option maxRecDepth 100000 in
set_option maxHeartbeats 0 in
theorem PySem.Challenge.cw_watchbeats_k79_tickets_dealt_holds : PySem.Challenge.rw_watchbeats_k79_tickets_dealt.Holds := by
  w_on; o_law; k_head; (case hw => w_witness2)
  k_fill
  refine Pf.walk (l := PySem.Challenge.rw_watchbeats_k79_tickets_dealt) rfl rfl (fun w h Y => PySem.W.kIn_of Y) ?F
  case F =>
    intro w mg fa h KX G hmg
    refine' Pf.all_mk KX G hmg ?g_WatchError ?g_ZeroUnder ?g_BadNumber ?g_TooMany ?g_NoPlace ?g_BadShares ?g_Ratio ?g_Tickets ?a0 ?l0 ?c0 ?k0 ?a1 ?l1 ?c1 ?k1 ?a2 ?l2 ?dl2 ?c2 ?k2 ?a3 ?l3 ?c3 ?k3 ?a4 ?l4 ?c4 ?k4 ?a5 ?l5 ?c5 ?k5 ?a6 ?l6 ?c6 ?k6 ?a7 ?l7 ?c7 ?k7 ?a8 ?l8 ?c8 ?k8 ?a9 ?l9 ?c9 ?k9 ?a10 ?l10 ?c10 ?k10 ?a11 ?l11 ?c11 ?k11 ?a12 ?l12 ?c12 ?k12 ?a13 ?l13 ?c13 ?k13 ?a14 ?l14 ?c14 ?k14 ?a15 ?l15 ?c15 ?k15 ?a16 ?l16 ?c16 ?k16 ?a17 ?l17 ?c17 ?k17 ?a18 ?l18 ?c18 ?k18 ?a19 ?l19 ?c19 ?k19 ?a20 ?l20 ?c20 ?k20 ?a21 ?l21 ?c21 ?k21 ?a22 ?l22 ?c22 ?k22 ?a23 ?l23 ?c23 ?k23 ?a24 ?l24 ?c24 ?k24 ?a25 ?l25 ?c25 ?k25 ?a26 ?l26 ?c26 ?k26 ?a27 ?l27 ?c27 ?k27 ?a28 ?l28 ?c28 ?k28 ?a29 ?l29 ?c29 ?k29 ?a30 ?l30 ?c30 ?k30 ?kc_MOST_WEIGHTS ?z_abs ?z_len ?z_int ?z_bool ?z_str ?z_list ?z_tuple ?z_isinstance ?z_range ?z_ValueError ?z_all ?z_sum ?gG ?hdR ?tyR ?meC_Ratio ?siR ?gLcm ?exC_BadNumber ?hdC_BadNumber ?tyC_BadNumber ?meC_BadNumber ?xL_BadNumber ?sa_BadNumber ?kC_BadNumber ?ti_BadNumber ?ga_BadNumber ?gg_BadNumber ?ha_BadNumber ?hn_ ?ht_ ?hm_BadNumber ?nf_BadNumber_name ?nf_BadNumber_value ?exC_TooMany ?hdC_TooMany ?tyC_TooMany ?meC_TooMany ?xL_TooMany ?sa_TooMany ?kC_TooMany ?ti_TooMany ?ga_TooMany ?gg_TooMany ?ha_TooMany ?hm_TooMany ?nf_TooMany_name ?nf_TooMany_most ?exC_ZeroUnder ?hdC_ZeroUnder ?tyC_ZeroUnder ?meC_ZeroUnder ?xP_ZeroUnder ?kP_ZeroUnder ?ga_ZeroUnder ?gg_ZeroUnder ?ha_ZeroUnder ?hm_ZeroUnder ?exC_NoPlace ?hdC_NoPlace ?tyC_NoPlace ?meC_NoPlace ?xP_NoPlace ?kP_NoPlace ?ga_NoPlace ?gg_NoPlace ?ha_NoPlace ?hm_NoPlace ?exC_BadShares ?hdC_BadShares ?tyC_BadShares ?meC_BadShares ?xP_BadShares ?kP_BadShares ?ga_BadShares ?gg_BadShares ?ha_BadShares ?hm_BadShares ?sub_BadNumber_TooMany ?sub_BadNumber_BadShares ?sub_TooMany_BadNumber ?sub_TooMany_BadShares ?sub_BadShares_BadNumber ?sub_BadShares_TooMany ?exC_WatchError ?hdC_WatchError ?tyC_WatchError ?meC_WatchError ?sub_BadNumber_WatchError ?sub_TooMany_WatchError ?sub_BadShares_WatchError ?sub_Ratio_int ?sub_BadNumber_ValueError ?sub_TooMany_ValueError ?sub_BadShares_ValueError ?pg_Ratio ?hd_Ratio ?po_Ratio ?sa_Ratio ?mk_Ratio ?kc_Ratio ?if_2 ?na_Ratio_top ?na_Ratio_under ?sf_Ratio ?si_Ratio ?dn_Ratio_add ?dr_Ratio_add ?if_5 ?rc_Ratio_add ?lo_Ratio_add ?ro_Ratio_add ?ha_Ratio ?hm_Ratio ?pg_Tickets ?hd_Tickets ?po_Tickets ?sa_Tickets ?mk_Tickets ?kc_Tickets ?if_12 ?na_Tickets_total ?na_Tickets_tickets_each ?if_4 ?if_7 ?if_8 ?if_13 ?if_14
    (case g_WatchError => k_is)
    (case g_ZeroUnder => k_is)
    (case g_BadNumber => k_is)
    (case g_TooMany => k_is)
    (case g_NoPlace => k_is)
    (case g_BadShares => k_is)
    (case g_Ratio => k_is)
    (case g_Tickets => k_is)
    (case a0 => k_is)
    (case l0 => k_is)
    (case c0 => k_is)
    (case k0 => k_is)
    (case a1 => k_is)
    (case l1 => k_is)
    (case c1 => k_is)
    (case k1 => k_is)
    (case a2 => k_is)
    (case l2 => k_is)
    (case dl2 => k_is)
    (case c2 => k_is)
    (case k2 => k_is)
    (case a3 => k_is)
    (case l3 => k_is)
    (case c3 => k_is)
    (case k3 => k_is)
    (case a4 => k_is)
    (case l4 => k_is)
    (case c4 => k_is)
    (case k4 => k_is)
    (case a5 => k_is)
    (case l5 => k_is)
    (case c5 => k_is)
    (case k5 => k_is)
    (case a6 => k_is)
    (case l6 => k_is)
    (case c6 => k_is)
    (case k6 => k_is)
    (case a7 => k_is)
    (case l7 => k_is)
    (case c7 => k_is)
    (case k7 => k_is)
    (case a8 => k_is)
    (case l8 => k_is)
    (case c8 => k_is)
    (case k8 => k_is)
    (case a9 => k_is)
    (case l9 => k_is)
    (case c9 => k_is)
    (case k9 => k_is)
    (case a10 => k_is)
    (case l10 => k_is)
    (case c10 => k_is)
    (case k10 => k_is)
    (case a11 => k_is)
    (case l11 => k_is)
    (case c11 => k_is)
    (case k11 => k_is)
    (case a12 => k_is)
    (case l12 => k_is)
    (case c12 => k_is)
    (case k12 => k_is)
    (case a13 => k_is)
    (case l13 => k_is)
    (case c13 => k_is)
    (case k13 => k_is)
    (case a14 => k_is)
    (case l14 => k_is)
    (case c14 => k_is)
    (case k14 => k_is)
    (case a15 => k_is)
    (case l15 => k_is)
    (case c15 => k_is)
    (case k15 => k_is)
    (case a16 => k_is)
    (case l16 => k_is)
    (case c16 => k_is)
    (case k16 => k_is)
    (case a17 => k_is)
    (case l17 => k_is)
    (case c17 => k_is)
    (case k17 => k_is)
    (case a18 => k_is)
    (case l18 => k_is)
    (case c18 => k_is)
    (case k18 => k_is)
    (case a19 => k_is)
    (case l19 => k_is)
    (case c19 => k_is)
    (case k19 => k_is)
    (case a20 => k_is)
    (case l20 => k_is)
    (case c20 => k_is)
    (case k20 => k_is)
    (case a21 => k_is)
    (case l21 => k_is)
    (case c21 => k_is)
    (case k21 => k_is)
    (case a22 => k_is)
    (case l22 => k_is)
    (case c22 => k_is)
    (case k22 => k_is)
    (case a23 => k_is)
    (case l23 => k_is)
    (case c23 => k_is)
    (case k23 => k_is)
    (case a24 => k_is)
    (case l24 => k_is)
    (case c24 => k_is)
    (case k24 => k_is)
    (case a25 => k_is)
    (case l25 => k_is)
    (case c25 => k_is)
    (case k25 => k_is)
    (case a26 => k_is)
    (case l26 => k_is)
    (case c26 => k_is)
    (case k26 => k_is)
    (case a27 => k_is)
    (case l27 => k_is)
    (case c27 => k_is)
    (case k27 => k_is)
    (case a28 => k_is)
    (case l28 => k_is)
    (case c28 => k_is)
    (case k28 => k_is)
    (case a29 => k_is)
    (case l29 => k_is)
    (case c29 => k_is)
    (case k29 => k_is)
    (case a30 => k_is)
    (case l30 => k_is)
    (case c30 => k_is)
    (case k30 => k_is)
    (case kc_MOST_WEIGHTS => k_is)
    (case z_abs => k_is)
    (case z_len => k_is)
    (case z_int => k_is)
    (case z_bool => k_is)
    (case z_str => k_is)
    (case z_list => k_is)
    (case z_tuple => k_is)
    (case z_isinstance => k_is)
    (case z_range => k_is)
    (case z_ValueError => k_is)
    (case z_all => k_is)
    (case z_sum => k_is)
    (case gG => k_is)
    (case hdR => k_is)
    (case tyR => k_is)
    (case meC_Ratio => first | rfl | k_is)
    (case siR => k_is)
    (case gLcm => k_is)
    (case exC_BadNumber => k_is)
    (case hdC_BadNumber => k_is)
    (case tyC_BadNumber => k_is)
    (case meC_BadNumber => first | rfl | k_is)
    (case xL_BadNumber => k_is)
    (case sa_BadNumber => k_is)
    (case kC_BadNumber => k_is)
    (case ti_BadNumber => k_is)
    (case ga_BadNumber => k_is)
    (case gg_BadNumber => k_is)
    (case ha_BadNumber => k_is)
    (case hn_ => k_is)
    (case ht_ => k_is)
    (case hm_BadNumber => k_is)
    (case nf_BadNumber_name => k_is)
    (case nf_BadNumber_value => k_is)
    (case exC_TooMany => k_is)
    (case hdC_TooMany => k_is)
    (case tyC_TooMany => k_is)
    (case meC_TooMany => first | rfl | k_is)
    (case xL_TooMany => k_is)
    (case sa_TooMany => k_is)
    (case kC_TooMany => k_is)
    (case ti_TooMany => k_is)
    (case ga_TooMany => k_is)
    (case gg_TooMany => k_is)
    (case ha_TooMany => k_is)
    (case hm_TooMany => k_is)
    (case nf_TooMany_name => k_is)
    (case nf_TooMany_most => k_is)
    (case exC_ZeroUnder => k_is)
    (case hdC_ZeroUnder => k_is)
    (case tyC_ZeroUnder => k_is)
    (case meC_ZeroUnder => first | rfl | k_is)
    (case xP_ZeroUnder => k_exc)
    (case kP_ZeroUnder => k_is)
    (case ga_ZeroUnder => k_is)
    (case gg_ZeroUnder => k_is)
    (case ha_ZeroUnder => k_is)
    (case hm_ZeroUnder => k_is)
    (case exC_NoPlace => k_is)
    (case hdC_NoPlace => k_is)
    (case tyC_NoPlace => k_is)
    (case meC_NoPlace => first | rfl | k_is)
    (case xP_NoPlace => k_exc)
    (case kP_NoPlace => k_is)
    (case ga_NoPlace => k_is)
    (case gg_NoPlace => k_is)
    (case ha_NoPlace => k_is)
    (case hm_NoPlace => k_is)
    (case exC_BadShares => k_is)
    (case hdC_BadShares => k_is)
    (case tyC_BadShares => k_is)
    (case meC_BadShares => first | rfl | k_is)
    (case xP_BadShares => k_exc)
    (case kP_BadShares => k_is)
    (case ga_BadShares => k_is)
    (case gg_BadShares => k_is)
    (case ha_BadShares => k_is)
    (case hm_BadShares => k_is)
    (case sub_BadNumber_TooMany => k_is)
    (case sub_BadNumber_BadShares => k_is)
    (case sub_TooMany_BadNumber => k_is)
    (case sub_TooMany_BadShares => k_is)
    (case sub_BadShares_BadNumber => k_is)
    (case sub_BadShares_TooMany => k_is)
    (case exC_WatchError => k_is)
    (case hdC_WatchError => k_is)
    (case tyC_WatchError => k_is)
    (case meC_WatchError => first | rfl | k_is)
    (case sub_BadNumber_WatchError => k_is)
    (case sub_TooMany_WatchError => k_is)
    (case sub_BadShares_WatchError => k_is)
    (case sub_Ratio_int => k_is)
    (case sub_BadNumber_ValueError => k_is)
    (case sub_TooMany_ValueError => k_is)
    (case sub_BadShares_ValueError => k_is)
    (case pg_Ratio => k_is)
    (case hd_Ratio => k_is)
    (case po_Ratio => k_is)
    (case sa_Ratio => k_is)
    (case mk_Ratio => k_is)
    (case kc_Ratio => k_is)
    (case if_2 => k_is)
    (case na_Ratio_top => k_is)
    (case na_Ratio_under => k_is)
    (case sf_Ratio => k_is)
    (case si_Ratio => k_is)
    (case dn_Ratio_add => k_is)
    (case dr_Ratio_add => k_is)
    (case if_5 => k_is)
    (case rc_Ratio_add => k_is)
    (case lo_Ratio_add => k_is)
    (case ro_Ratio_add => k_is)
    (case ha_Ratio => k_is)
    (case hm_Ratio => k_is)
    (case pg_Tickets => k_is)
    (case hd_Tickets => k_is)
    (case po_Tickets => k_is)
    (case sa_Tickets => k_is)
    (case mk_Tickets => k_is)
    (case kc_Tickets => k_is)
    (case if_12 => k_is)
    (case na_Tickets_total => k_is)
    (case na_Tickets_tickets_each => k_is)
    (case if_4 => k_is)
    (case if_7 => k_is)
    (case if_8 => k_is)
    (case if_13 => k_is)
    (case if_14 => k_is)
#print axioms PySem.Challenge.cw_watchbeats_k79_tickets_dealt_holds
