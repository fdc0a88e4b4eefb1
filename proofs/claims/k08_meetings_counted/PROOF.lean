import PyProof.Rows.All
import Wide.All
import OpenK.AllK
import Wide.FinOn
import HandS.ForMost
import HandS.Exc
import HandS.ExcInit
import HandS.ExcField
import HandS.ExcIs
import KE.KExcIs
import HandS.IsInst
import HandS.CallSlots
import HandS.WordsExc
import HandS.Wide
import HandS.Gcd
import HandS.Style
import HandS.Evl
import HandS.Property
import HandS.ClsMeth
import HandS.Deep
import HandS.IterVal
import HandS.OwnIter
import HandS.Conv
import KE.KOwnIter
import PySem.Challenge.RW_watchbeats_k08_meetings_counted
set_option Elab.async false
set_option linter.all false
set_option maxRecDepth 100000
set_option maxHeartbeats 4000000
/-! meetings of two lots, counted, def by def -/
namespace Pf
open PySem L2 Evl

def topS (i : Nat) : Stmt := PySem.Challenge.pw_watchbeats_k08_meetings_counted.main.body.getD i (.Pass ⟨0, 0, 0, 0⟩)
abbrev s_BadNumber_init : Stmt := inClass (topS 3) 0
abbrev N_BadNumber_init : List Str := ["self", "name", "value"]
abbrev s_RepeatedHour_init : Stmt := inClass (topS 4) 0
abbrev N_RepeatedHour_init : List Str := ["self", "hour"]
abbrev s_Lot_init : Stmt := inClass (topS 14) 1
abbrev N_Lot_init : List Str := ["self", "hours", "members", "taken", "member", "hour"]
abbrev s_Lot_members : Stmt := inClass (topS 14) 3
abbrev N_Lot_members : List Str := ["self"]
abbrev s_Lot_iter : Stmt := inClass (topS 14) 7
abbrev N_Lot_iter : List Str := ["self"]
abbrev s_u_law_cell : Stmt := topS 18
abbrev N_u_law_cell : List Str := ["script", "k"]
abbrev s_u_law_draws : Stmt := topS 19
abbrev N_u_law_draws : List Str := ["cell", "salt", "menu", "found", "rest", "mixed", "k"]
abbrev s_u_law_is_int : Stmt := topS 20
abbrev N_u_law_is_int : List Str := ["x"]
abbrev s_u_law_same : Stmt := topS 21
abbrev N_u_law_same : List Str := ["got", "due", "k"]
abbrev s_meetings : Stmt := topS 11
abbrev N_meetings : List Str := ["one", "other", "counts", "x", "y", "by"]
abbrev s_differences : Stmt := topS 12
abbrev N_differences : List Str := ["lot"]
abbrev s_u_law_bits : Stmt := topS 22
abbrev N_u_law_bits : List Str := ["n", "number", "found", "h"]
abbrev s_u_law_subset : Stmt := topS 23
abbrev N_u_law_subset : List Str := ["cell", "salt", "n", "found", "pieces", "k", "h"]
abbrev s_u_law_sparse : Stmt := topS 24
abbrev N_u_law_sparse : List Str := ["cell", "salt", "n", "drawn", "residues", "number", "h"]
abbrev s_u_law_drawn_lot : Stmt := topS 25
abbrev N_u_law_drawn_lot : List Str := ["cell", "salt", "n", "few", "way"]
abbrev s_u_law_counts : Stmt := topS 26
abbrev N_u_law_counts : List Str := ["first", "second", "n", "marks", "h", "counts", "d", "y"]
abbrev s_u_law_agrees : Stmt := topS 27
abbrev N_u_law_agrees : List Str := ["one", "two", "due", "told"]
abbrev s_u_law_differs : Stmt := topS 28
abbrev N_u_law_differs : List Str := ["lot", "due", "told"]
abbrev s_u_law_kept_apart : Stmt := topS 29
abbrev N_u_law_kept_apart : List Str := ["one", "two", "told", "kinds", "e"]
abbrev s_law : Stmt := topS 30
abbrev N_law : List Str := ["script", "ways", "n", "few", "ring", "first", "second", "h", "one", "two", "due", "d"]

theorem some_int {ns : List Int} {i : Nat} {y : V} (h : (ns.map V.int)[i]? = some y) : ∃ u, y = V.int u ∧ ns[i]? = some u := by
  rw [List.getElem?_map] at h
  cases e : ns[i]? with
  | none => rw [e] at h; cases h
  | some u => rw [e] at h; exact ⟨u, (Option.some.inj h).symm, rfl⟩
theorem wayT {c A B : Prop} [Decidable c] (h : c) (a : A) : if decide c = true then A else B := by rw [decide_eq_true h]; exact iteT a
theorem wayF {c A B : Prop} [Decidable c] (h : ¬ c) (b : B) : if decide c = true then A else B := by rw [decide_eq_false h]; exact iteF b
theorem way {c A B : Prop} [Decidable c] (a : c → A) (b : ¬ c → B) : if decide c = true then A else B := by
  by_cases h : c
  · exact wayT h (a h)
  · exact wayF h (b h)
theorem wayNT {c A B : Prop} [Decidable c] (h : c) (b : B) : if (!decide c) = true then A else B := by rw [decide_eq_true h]; exact iteF b
theorem wayNF {c A B : Prop} [Decidable c] (h : ¬ c) (a : A) : if (!decide c) = true then A else B := by rw [decide_eq_false h]; exact iteT a
theorem dec_ii {a b : Int} : decide (V.int a = V.int b) = decide (a = b) := by simp
theorem dec_bb {a b : Bool} : decide (V.bl a = V.bl b) = decide (a = b) := by simp
/-- the ints that a comprehension over a range gives -/
def pick (n : Nat) (f : Nat → Bool) (g : Nat → Int) : List Int := ((List.range n).filter f).map g
theorem given_pick (n : Nat) (f : Nat → Bool) (g : Nat → Int) : given n f (fun i => V.int (g i)) = (pick n f g).map V.int := by
  unfold given pick
  rw [List.map_map]
  rfl
theorem pick_len (n : Nat) (f : Nat → Bool) (g : Nat → Int) : (pick n f g).length ≤ n := by
  unfold pick
  rw [List.length_map]
  have := List.length_filter_le f (List.range n)
  rwa [List.length_range] at this
theorem pick_congr {n : Nat} {f f' : Nat → Bool} {g : Nat → Int} (h : ∀ i, i < n → f i = f' i) : pick n f g = pick n f' g := by
  unfold pick
  rw [List.filter_congr fun i hi => h i (List.mem_range.mp hi)]
theorem el_rng2 {σ : L2.St} {H : Hp} {te : TE} {tt : TT} {ta : TA} {j : Nat} {vs : List Nat} {lo hi : Int} (f : Nat → Bool) (v : Nat → V) (h : EvA ta σ H [.int lo, .int hi]) (hn : 0 ≤ lo ∧ lo ≤ 40000 ∧ -40000 ≤ hi ∧ hi ≤ 40000)
    (hw : ∀ x, wipe ((wipe σ vs).set j (some x)) vs = wipe σ vs)
    (ht : ∀ (i : Nat) H1, Ex H H1 → lo + (i : Int) < hi → EvT tt ((wipe σ vs).set j (some (.int (lo + (i : Int))))) H1 (f i))
    (he : ∀ (i : Nat) H1, Ex H H1 → lo + (i : Int) < hi → f i = true → Ev te ((wipe σ vs).set j (some (.int (lo + (i : Int))))) H1 (v i)) :
    EvL (tLc (iRng2 ta) (gName j) tt te vs) σ H (given (hi - lo).toNat f v) := by
  intro H0 e Q q
  refine h H0 e _ fun H1 e1 => ⟨lo, hi, rfl, ⟨by omega, by omega, by omega, by omega⟩, fun D hD => ?_⟩
  exact lc_range (lo := lo) (n := (hi - lo).toNat) (Cw H1 f v D) ⟨hD, Ex.new hD, upd_same⟩
    (fun i H' hi' p => ⟨hw _, cw_turn p (by omega) (ht i H1 (e.trans e1) (by omega)) (fun hf => he i H1 (e.trans e1) (by omega) hf)⟩)
    (fun H' p => q D H' (fresh_back e1 p.1) (e1.trans p.2.1) p.2.2)
theorem given_list (xs : List Int) (p : Int → Bool) : given (xs.map V.int).length (fun i => p (xs.getD i 0)) (fun i => V.int (xs.getD i 0)) = (xs.filter p).map V.int := by
  rw [List.length_map]
  induction xs with
  | nil => rfl
  | cons x xs ih =>
    unfold given at ih ⊢
    rw [List.length_cons, List.range_succ_eq_map, List.filter_cons, List.filter_map]
    have e : ∀ (z : List Nat), (z.filter ((fun i => p ((x :: xs).getD i 0)) ∘ Nat.succ)) = z.filter fun i => p (xs.getD i 0) := fun z => List.filter_congr fun i _ => by simp
    rw [e]
    by_cases hp : p x = true
    · rw [if_pos (by simpa using hp), List.filter_cons, if_pos hp, List.map_cons, List.map_cons, ← ih, List.map_map]
      simp
    · rw [if_neg (by simpa using hp), List.filter_cons, if_neg hp, ← ih, List.map_map]
      simp
theorem el_lst1 {K : PySem.W.Frag} {σ : L2.St} {H : Hp} {te tl : TE} {tt : TT} {j : Nat} {vs : List Nat} {a : Addr} (xs : List Int) (p : Int → Bool) (h : Ev tl σ H (.ref a)) (hx : SqL K H a (xs.map V.int)) (hz : xs.length ≤ 40000)
    (hw : ∀ x, wipe ((wipe σ vs).set j (some x)) vs = wipe σ vs)
    (ht : ∀ (x : Int) H1, Ex H H1 → x ∈ xs → EvT tt ((wipe σ vs).set j (some (.int x))) H1 (p x))
    (he : ∀ (x : Int) H1, Ex H H1 → x ∈ xs → Ev te ((wipe σ vs).set j (some (.int x))) H1 (.int x)) :
    EvL (tLc (iList K tl) (gName j) tt te vs) σ H ((xs.filter p).map V.int) := by
  rw [← given_list]
  have get : ∀ (i : Nat) (x : V), (xs.map V.int)[i]? = some x → x = .int (xs.getD i 0) ∧ xs.getD i 0 ∈ xs := fun i x hi => by
    obtain ⟨u, e, hu⟩ := some_int hi
    rw [List.getD_eq_getElem?_getD, hu]
    exact ⟨e, List.mem_of_getElem? hu⟩
  refine el_lcL _ _ h hx (by rw [List.length_map]; exact hz) hw (fun i x H1 e1 hi => ?_) (fun i x H1 e1 hi _ => ?_)
  · obtain ⟨rfl, hm⟩ := get i x hi
    exact ht _ H1 e1 hm
  · obtain ⟨rfl, hm⟩ := get i x hi
    exact he _ H1 e1 hm
theorem given_gen {α : Type} (d : α) (ps : List α) (p : α → Bool) (v : α → V) : given ps.length (fun i => p (ps.getD i d)) (fun i => v (ps.getD i d)) = (ps.filter p).map v := by
  induction ps with
  | nil => rfl
  | cons x xs ih =>
    unfold given at ih ⊢
    rw [List.length_cons, List.range_succ_eq_map, List.filter_cons, List.filter_map]
    have e : ∀ (z : List Nat), (z.filter ((fun i => p ((x :: xs).getD i d)) ∘ Nat.succ)) = z.filter fun i => p (xs.getD i d) := fun z => List.filter_congr fun i _ => by simp
    rw [e]
    by_cases hp : p x = true
    · rw [if_pos (by simpa using hp), List.filter_cons, if_pos hp, List.map_cons, List.map_cons, ← ih, List.map_map]
      simp
    · rw [if_neg (by simpa using hp), List.filter_cons, if_neg hp, ← ih, List.map_map]
      simp
/-- a comprehension over a list whose items stand for the things of ps, the target of any form -/
theorem el_lstG {α : Type} (d : α) {K : PySem.W.Frag} {σ : L2.St} {H : Hp} {te tl : TE} {tt : TT} {g : TG} {vs : List Nat} {a : Addr} (xs : List V) (ps : List α) (p : α → Bool) (v : α → V) (τ : α → L2.St)
    (h : Ev tl σ H (.ref a)) (hx : SqL K H a xs) (hl : xs.length = ps.length) (hz : ps.length ≤ 40000)
    (hg : ∀ (i : Nat) x y H1 (k : L2.St → Hp → Prop), Ex H H1 → xs[i]? = some x → ps[i]? = some y → k (τ y) H1 → g x (wipe σ vs) H1 k)
    (hw : ∀ y, wipe (τ y) vs = wipe σ vs) (ht : ∀ y H1, Ex H H1 → y ∈ ps → EvT tt (τ y) H1 (p y)) (he : ∀ y H1, Ex H H1 → y ∈ ps → p y = true → Ev te (τ y) H1 (v y)) :
    EvL (tLc (iList K tl) g tt te vs) σ H ((ps.filter p).map v) := by
  rw [← given_gen d ps p v]
  intro H0 e0 Q q
  refine h H0 e0 _ fun H1 e1 => ⟨a, rfl, ⟨xs, ex_l (e0.trans e1) hx⟩, fun D hD => ?_⟩
  refine lc_list (xs := xs) (Cw H1 (fun i => p (ps.getD i d)) (fun i => v (ps.getD i d)) D) ⟨hD, Ex.new hD, upd_same⟩ (fun i H' _ c => ex_l ((e0.trans e1).trans c.2.1) hx) (fun i x H' hi c => ?_)
    (fun H' c => by rw [hl] at c; exact q D H' (fresh_back e1 c.1) (e1.trans c.2.1) c.2.2)
  have hil : i < ps.length := by
    have := (List.getElem?_eq_some_iff.mp hi).1
    omega
  have hy : ps[i]? = some (ps.getD i d) := by rw [List.getD_eq_getElem?_getD, List.getElem?_eq_getElem hil]; rfl
  refine hg i x _ H' _ ((e0.trans e1).trans c.2.1) hi hy ⟨hw _, ?_⟩
  exact cw_turn c (by omega) (ht _ H1 (e0.trans e1) (List.mem_of_getElem? hy)) (fun hf => he _ H1 (e0.trans e1) (List.mem_of_getElem? hy) hf)
/-- an if without else, then what follows where M holds -/
theorem q_alt {b : Bool} {t : TT} {tu tz : TS} {D : Ends} {σ : L2.St} {H : Hp} (M : L2.St → Hp → Prop) (h : EvT t σ H b) (h1 : b = true → ∀ H1, Ex H H1 → ∀ W : L2.St → Hp → Prop, (∀ σ' H', M σ' H' → W σ' H') → tu { D with nx := W } σ H1)
    (h2 : b = false → ∀ H1, Ex H H1 → M σ H1) (k : ∀ σ' H', M σ' H' → tz D σ' H') : tSeq (tIfS t tu tNext) tz D σ H :=
  q_when h (fun hb H1 e1 => h1 hb H1 e1 _ k) (fun hb H1 e1 => k _ _ (h2 hb H1 e1))
theorem q_two {b : Bool} {t : TT} {tu tw tz : TS} {D : Ends} {σ : L2.St} {H : Hp} (M : L2.St → Hp → Prop) (h : EvT t σ H b) (h1 : b = true → ∀ H1, Ex H H1 → ∀ W : L2.St → Hp → Prop, (∀ σ' H', M σ' H' → W σ' H') → tu { D with nx := W } σ H1)
    (h2 : b = false → ∀ H1, Ex H H1 → ∀ W : L2.St → Hp → Prop, (∀ σ' H', M σ' H' → W σ' H') → tw { D with nx := W } σ H1) (k : ∀ σ' H', M σ' H' → tz D σ' H') : tSeq (tIfS t tu tw) tz D σ H :=
  q_if h (fun hb H1 e1 => h1 hb H1 e1 _ k) (fun hb H1 e1 => h2 hb H1 e1 _ k)
/-- .. over a list that was just made -/
theorem el_lstN {α : Type} (d : α) {K : PySem.W.Frag} {σ : L2.St} {H : Hp} {te tl : TE} {tt : TT} {g : TG} {vs : List Nat} (xs : List V) (ps : List α) (p : α → Bool) (v : α → V) (τ : α → L2.St)
    (h : EvL tl σ H xs) (hl : xs.length = ps.length) (hz : ps.length ≤ 40000) (hg : ∀ (i : Nat) x y H1 (k : L2.St → Hp → Prop), Ex H H1 → xs[i]? = some x → ps[i]? = some y → k (τ y) H1 → g x (wipe σ vs) H1 k)
    (hw : ∀ y, wipe (τ y) vs = wipe σ vs) (ht : ∀ y H1, Ex H H1 → y ∈ ps → EvT tt (τ y) H1 (p y)) (he : ∀ y H1, Ex H H1 → y ∈ ps → p y = true → Ev te (τ y) H1 (v y)) :
    EvL (tLc (iList K tl) g tt te vs) σ H ((ps.filter p).map v) := by
  intro H0 e0 Q q
  refine h H0 e0 _ fun a H1 ha e1 h1 => ?_
  refine el_lstG (K := K) (te := te) (tl := tC (.ref a)) (tt := tt) (g := g) (vs := vs) (σ := σ) (H := H1) d xs ps p v τ ev_c (sq_of h1) hl hz (fun i x y H2 k e2 => hg i x y H2 k ((e0.trans e1).trans e2)) hw (fun y H2 e2 => ht y H2 ((e0.trans e1).trans e2)) (fun y H2 e2 => he y H2 ((e0.trans e1).trans e2)) H1 (Ex.refl _) Q fun b H2 hb e2 h2 => q b H2 (fresh_back e1 hb) (e1.trans e2) h2
theorem pick_succ {n : Nat} {f : Nat → Bool} {g : Nat → Int} : pick (n + 1) f g = pick n f g ++ (if f n = true then [g n] else []) := by
  unfold pick
  rw [List.range_succ, List.filter_append, List.map_append, List.filter_cons]
  by_cases h : f n = true
  · rw [if_pos h, if_pos h]; rfl
  · rw [if_neg h, if_neg h]; rfl
theorem ev_gcd {σ : L2.St} {H : Hp} {ta : TA} {a b : Int} (h : EvA ta σ H [.int a, .int b]) : Ev (tCB rGcd ta) σ H (.int ((Nat.gcd a.natAbs b.natAbs : Nat) : Int)) :=
  ev_cb h fun H1 _ _ q => ⟨a, b, rfl, q H1 (Ex.refl H1)⟩
/-! ### rules whose reading says K by its own letter (within a comprehension's block too) -/
theorem ix_lK {X : Cx} {K : PySem.W.Frag} (h : X.K = K := by rfl) : IxR X (rIxL K) := by subst h; exact ix_list
theorem ix_tK {X : Cx} {K : PySem.W.Frag} (h : X.K = K := by rfl) : IxR X (rIxT K) := by subst h; exact ix_tup
theorem ix_sK {X : Cx} {K : PySem.W.Frag} (h : X.K = K := by rfl) : IxR X (rIx K) := by subst h; exact ix_seq
def rLenK (K : PySem.W.Frag) : List V → Hp → VK → Prop := fun xs H Q => ∃ x n, xs = [x] ∧ LenV K x H n ∧ Q (.int (n : Nat)) H
theorem len_K {X : Cx} {K : PySem.W.Frag} (h : X.K = K := by rfl) : CallR X (.builtin "len") (rLenK K) := by subst h; exact call_len
def rListK (K : PySem.W.Frag) : List V → Hp → VK → Prop := fun zs H Q => ∃ p ys, zs = [.ref p] ∧ (SqL K H p ys ∨ SqT K H p ys) ∧
  ∀ l, H l = none → Q (.ref l) (upd H l (.lst ys))
theorem list_K {X : Cx} {K : PySem.W.Frag} (h : X.K = K := by rfl) : CallR X (.type "list") (rListK K) := by subst h; exact call_list_of
theorem in_K {X : Cx} {K : PySem.W.Frag} (h : X.K = K := by rfl) : OpR X (compareOp .In) (rIn K false) := by subst h; exact op_in_seq
theorem notin_K {X : Cx} {K : PySem.W.Frag} (h : X.K = K := by rfl) : OpR X (compareOp .NotIn) (rIn K true) := by subst h; exact op_notIn_seq
theorem pg_tupK {X : Cx} {K : PySem.W.Frag} {pos : Pos} {es : List Expr} {k : Nat} {t : TGs} {n : Nat} (hk : X.K = K) (hc : X.calm = true) (h : PGs X es t)
    (hn : (assignEach es X.env).length = n := by rfl) (hst : (assignEach es X.env).findIdx? (·.1) = none := by rfl) : PG X (.Tuple es k pos) (gTup K n t) := by subst hk; exact pg_tup hc h hn hst
theorem isi_K {X : Cx} {K : PySem.W.Frag} (h : X.K = K := by rfl) : CallR X (.builtin "isinstance") (rIsi K) := by subst h; exact call_isi
/-! ### data -/
/-- data of a depth below n, of lists and tuples that are not too long -/
def Flat : Nat → PyData → Prop
  | 0, _ => False
  | n + 1, .list ds => ds.length ≤ 40000 ∧ ∀ d ∈ ds, Flat n d
  | n + 1, .tuple ds => ds.length ≤ 40000 ∧ ∀ d ∈ ds, Flat n d
  | _ + 1, .dict _ => False
  | _ + 1, _ => True
theorem dp_get {K : PySem.W.Frag} {H : Hp} : ∀ {xs : List V} {ds : List PyData}, DpAll K H xs ds → xs.length = ds.length ∧ ∀ (i : Nat) (d : PyData), ds[i]? = some d → ∃ x, xs[i]? = some x ∧ Dp K H x d
  | _, _, .nil => ⟨rfl, fun i d h => by simp at h⟩
  | _, _, .cons a r => by
    obtain ⟨l, g⟩ := dp_get r
    refine ⟨by simp [l], fun i d h => ?_⟩
    cases i with
    | zero => exact ⟨_, rfl, by simp at h; subst h; exact a⟩
    | succ i => simpa using g i d (by simpa using h)
theorem flatI {ns : List Int} (h : ns.length ≤ 360) : Flat 4 (.list (ns.map .int)) :=
  ⟨by rw [List.length_map]; omega, fun d hd => by
    obtain ⟨i, _, rfl⟩ := List.mem_map.mp hd
    exact True.intro⟩
theorem dp_ints {K : PySem.W.Frag} {H : Hp} : ∀ ns : List Int, DpAll K H (ns.map V.int) (ns.map PyData.int)
  | [] => .nil
  | n :: ns => .cons (.int n) (dp_ints ns)
mutual
theorem dp_ex {K : PySem.W.Frag} {H H' : Hp} (e : Ex H H') : ∀ {v : V} {d : PyData}, Dp K H v d → Dp K H' v d
  | _, _, .non => .non
  | _, _, .bl b => .bl b
  | _, _, .int i => .int i
  | _, _, .str x => .str x
  | _, _, .lst s a => .lst (ex_l e s) (dpa_ex e a)
  | _, _, .tup s a => .tup (ex_t e s) (dpa_ex e a)
theorem dpa_ex {K : PySem.W.Frag} {H H' : Hp} (e : Ex H H') : ∀ {vs : List V} {ds : List PyData}, DpAll K H vs ds → DpAll K H' vs ds
  | _, _, .nil => .nil
  | _, _, .cons a r => .cons (dp_ex e a) (dpa_ex e r)
end
theorem tyx_l {K : PySem.W.Frag} {H : Hp} {a : Addr} {xs : List V} (h : SqL K H a xs) : TyX K H (.ref a) (.type "list") := by
  rcases h with (h | ⟨o, h⟩) | ⟨o, its, n, h, c, _⟩
  · exact .base (.lst h)
  · exact .base (.frz h)
  · exact .kList h c
theorem tyx_t {K : PySem.W.Frag} {H : Hp} {a : Addr} {xs : List V} (h : SqT K H a xs) : TyX K H (.ref a) (.type "tuple") := by
  rcases h with (h | ⟨o, h⟩) | ⟨o, its, n, h, c, _⟩
  · exact .base (.tup h)
  · exact .fTuple h
  · exact .kTuple h c
/-- x is True, x is False, whatever x is -/
def rIsK : R2 := fun x y H Q => ∃ b : Bool, y = .bl b ∧ Q (.bl (decide (x = .bl b))) H
theorem op_isK {X : Cx} : OpR X (compareOp .Is) rIsK := by
  intro pins s σ H x y v u Q I rx ry h
  obtain ⟨b, hy, q⟩ := h
  subst hy
  cases (show u = Value.bool b from ry)
  have fin : ∀ k : Bool, k = decide (x = V.bl b) → EP X pins σ Q (.bool k) s := fun k e => ⟨.bl k, H, I, rfl, by rw [e]; exact q⟩
  cases x with
  | non => cases (show v = Value.none from rx); exact wpAny_is_other rfl (fun z => by cases z) (fin _ (by simp))
  | bl a =>
    cases (show v = Value.bool a from rx)
    by_cases e : a = b
    · subst e; exact wpAny_is_self rfl (fin _ (by simp))
    · exact wpAny_is_other rfl (fun z => e (Value.bool.inj z)) (fin _ (by simp [e]))
  | int i => obtain ⟨t, ev⟩ := rx; subst ev; exact wpAny_is_other rfl (fun z => by cases z) (fin _ (by simp))
  | str i => obtain ⟨t, ev⟩ := rx; subst ev; exact wpAny_is_other rfl (fun z => by cases z) (fin _ (by simp))
  | byt i => obtain ⟨t, ev⟩ := rx; subst ev; exact wpAny_is_other rfl (fun z => by cases z) (fin _ (by simp))
  | flt i => obtain ⟨t, ev⟩ := rx; subst ev; exact wpAny_is_other rfl (fun z => by cases z) (fin _ (by simp))
  | ref a => cases (show v = Value.ref a from rx); exact wpAny_is_other rfl (fun z => by cases z) (fin _ (by simp))
  | ty n => cases (show v = Value.type n from rx); exact wpAny_is_other rfl (fun z => by cases z) (fin _ (by simp))
theorem atI_ints {ns : List Int} {i : Int} (h0 : 0 ≤ i) (h1 : i < (ns.length : Int)) : atI (ns.map V.int) i = some (.int (ns.getD i.toNat 0)) := by
  obtain ⟨j, rfl⟩ : ∃ j : Nat, i = (j : Int) := ⟨i.toNat, by omega⟩
  refine atI_nat ?_
  have hj : j < ns.length := by omega
  rw [List.getElem?_map, Int.toNat_natCast, List.getD_eq_getElem?_getD, List.getElem?_eq_getElem hj]
  rfl
/-! ### a caught error with fields -/
def rIsX (K : PySem.W.Frag) (D a : Addr) (cls : Value) (d : Option Addr) : List V → Hp → VK → Prop := fun xs H Q => cls = .ref D ∧ ∃ (dd : Addr) (fs : List (Str × V)) (c : V) (cv : Value) (b : Bool),
  d = some dd ∧ H dd = some (.xd fs) ∧ xs = [.ref a, c] ∧ (∀ u, RelV c u → u = cv) ∧ PySem.W.kitOne K (.ref D) cv = some b ∧ Q (.bl b) H
theorem call_isX {X : Cx} {a D : Addr} {oe : Obj} {cls : Value} {d : Option Addr} {pn : List (Addr × Obj)} (C : ExcC X.K D) (hz : Zc cls d oe) (hf : ∃ vs, oe.data = .fields vs) : CallR (X.suite a ((a, oe) :: pn)) (.builtin "isinstance") (rIsX X.K D a cls d) := by
  intro pins sh σ H zs us Q I rr hq
  obtain ⟨ec, dd, fs, c, cv, b, ed, hx, ez, hcv, hk, q⟩ := hq
  subst ez
  obtain ⟨u1, u2, eu, r1, r2⟩ := vals2 rr
  subst eu
  cases (show u1 = Value.ref a from r1)
  have e2 := hcv _ r2
  subst e2
  obtain ⟨hget, _⟩ := I.pin (a, oe) (List.mem_append.mpr (.inl List.mem_cons_self))
  obtain ⟨vs, hv⟩ := hf
  have ho : ObjOk X.prog X.w H sh.heap dd (.xd fs) := I.hok dd _ hx
  obtain ⟨mA, hns, _⟩ := ho
  obtain ⟨od, hod, _⟩ := lookIn_ns hns
  obtain ⟨cd, hcd, _⟩ := PySem.W.any_some C.hd
  have hcl : (PySem.W.clsIn X.K D).isSome = true := by rw [hcd]; rfl
  have J : PySem.W.InstAt sh.heap a oe D (some od) := ⟨hget, hz.1.trans ec, by unfold PySem.W.notCls; rw [hv], by rw [hz.2, ed]; exact hod⟩
  exact PySem.W.kia_one (PySem.W.kitx_exc hcl C.hg C.hk C.hs C.ha C.hn C.ht C.hm) I.kIn J hk (fun z => nomatch z) fun tk => ⟨.bl b, H, I.tok tk, rfl, q⟩
def rIsN (K : PySem.W.Frag) (D a : Addr) (cls : Value) (d : Option Addr) : List V → Hp → VK → Prop := fun xs H Q => cls = .ref D ∧ d = none ∧ rIsE K D a xs H Q
theorem call_isN {X : Cx} {a D : Addr} {oe : Obj} {cls : Value} {d : Option Addr} {pn : List (Addr × Obj)} (C : ExcC X.K D) (hz : Zc cls d oe) (hf : ∃ vs, oe.data = .fields vs) : CallR (X.suite a ((a, oe) :: pn)) (.builtin "isinstance") (rIsN X.K D a cls d) := by
  intro pins s σ H xs us Q I r h
  obtain ⟨e1, e2, h⟩ := h
  subst e1 e2
  exact call_isE C hz hf pins s σ H xs us Q I r h
/-- X(), X an error class without __init__ -/
theorem pmk_none {X : Cx} {C : Addr} {bmB : List Value} {B newId initId : String} {x : Str} {p pos : Pos} (F : PySem.ExcBaseFacts B newId initId bmB) (q : PySem.W.excIn X.K C bmB newId = true) (gC : X.mg x = some (.ref C)) (kC : PySem.W.keepIn X.K (.ref C) = true)
    (r : Raises X (.ref C)) (hg : Gl X x) (hdb : (x == ("__debug__" : Str)) = false := by decide) : PMk X (.Call (.Name x p) [] [] pos) (fun _ H Q => Q (.ref C) none H) := by
  intro pins s σ H Q I h
  refine wpAny_Call_Name_kw (ld_glob I hg gC ?_ hdb)
  refine PySem.W.callWith_K0 I.kIn kC ?_
  obtain ⟨bm, N, nm, qn, bs, hdct, sn, sub, ab, col, dd, k0, k1, k2, k3, k5, mN, hC, hN, hni, T⟩ := exc_obj I.kIn q
  refine wpAny_call_exc_subT F T hC hN hni (fun h' e hm => ?_) (Nat.zero_le _)
  exact mk_of I hm r h (I.hok.gone hm.new)
/-- a list drawn by a menu -/
def Drawn (ms ds : List Int) : Prop := ds.length = ms.length ∧ ∀ (i : Nat) (m : Int), ms[i]? = some m → ∃ d : Int, ds[i]? = some d ∧ 0 ≤ d ∧ d < m
theorem kitCls_own {K : PySem.W.Frag} {t : Value} {C : Addr} (hd : PySem.W.hasDictIn K C = true) (ty : PySem.W.typeIn K (.ref C) = some (.type "type")) : PySem.W.kitCls K t (.ref C) = PySem.W.subIn K t (.ref C) := by
  obtain ⟨cd, hc, _⟩ := PySem.W.any_some hd
  unfold PySem.W.kitCls
  simp [hc, ty]
theorem kit_self {K : PySem.W.Frag} {t : Value} : PySem.W.kitOne K t t = some true := by
  unfold PySem.W.kitOne
  rw [if_pos (beq_self_eq_true t)]
theorem kit_yes {K : PySem.W.Frag} {t : Value} {C : Addr} (hd : PySem.W.hasDictIn K C = true) (ty : PySem.W.typeIn K (.ref C) = some (.type "type")) (s : PySem.W.subIn K t (.ref C) = some true) : PySem.W.kitOne K t (.ref C) = some true := by
  unfold PySem.W.kitOne
  split
  · rfl
  · rw [kitCls_own hd ty]; exact s
theorem kit_no {K : PySem.W.Frag} {t : Value} {C : Addr} (hd : PySem.W.hasDictIn K C = true) (ty : PySem.W.typeIn K (.ref C) = some (.type "type")) (me : PySem.W.subIn K (.ref C) (.ref C) = some true) (s : PySem.W.subIn K t (.ref C) = some false) : PySem.W.kitOne K t (.ref C) = some false := by
  unfold PySem.W.kitOne
  split
  · rename_i e
    rw [beq_iff_eq] at e
    rw [e, me] at s
    cases s
  · rw [kitCls_own hd ty]; exact s
theorem kit_bi {K : PySem.W.Frag} {C : Addr} {n : String} {b : Bool} (hm : PySem.W.kitMeta n = true) (s : PySem.W.subIn K (.ref C) (.type n) = some b) : PySem.W.kitOne K (.ref C) (.type n) = some b := by
  unfold PySem.W.kitOne PySem.W.kitCls
  rw [if_neg (by simp)]
  show (if PySem.W.kitMeta n = true then PySem.W.subIn K (.ref C) (.type n) else none) = some b
  rw [if_pos hm]
  exact s
theorem drawn4 {a b c d : Int} {ds : List Int} (h : Drawn [a, b, c, d] ds) : ∃ w x y z, ds = [w, x, y, z] ∧ (0 ≤ w ∧ w < a) ∧ (0 ≤ x ∧ x < b) ∧ (0 ≤ y ∧ y < c) ∧ (0 ≤ z ∧ z < d) := by
  obtain ⟨hl, g⟩ := h
  match ds, hl with
  | [w, x, y, z], _ =>
    obtain ⟨w', e0, h0⟩ := g 0 a rfl
    obtain ⟨x', e1, h1⟩ := g 1 b rfl
    obtain ⟨y', e2, h2⟩ := g 2 c rfl
    obtain ⟨z', e3, h3⟩ := g 3 d rfl
    cases e0; cases e1; cases e2; cases e3
    exact ⟨_, _, _, _, rfl, h0, h1, h2, h3⟩
/-! ### own errors with one field and with two -/
def spErr1 (K : PySem.W.Frag) (C : Addr) (f : Str) : Sp := fun vs H Q _ => ∃ (a : Addr) (x : V), vs = [.ref a, x] ∧ OexC K C ∧ H a = some (exo a C none) ∧ ∀ d, H d = none → d ≠ a → Q .non (upd (upd H d (exd d [(f, x)])) a (exo a C (some d)))
def spErr2 (K : PySem.W.Frag) (C : Addr) (f g : Str) : Sp := fun vs H Q _ => ∃ (a : Addr) (x y : V), vs = [.ref a, x, y] ∧ OexC K C ∧ H a = some (exo a C none) ∧
  ∀ d, H d = none → d ≠ a → Q .non (upd (upd (upd H d (exd d [(f, x)])) a (exo a C (some d))) d (exd d [(g, y), (f, x)]))
theorem raise1 {K : PySem.W.Frag} {C : Addr} {f : Str} {H : Hp} {E : XK} {σ : L2.St} {ta : TA} {x : V} (hC : OexC K C) (hta : ∀ Q : List V → Hp → Prop, Q [x] H → ta σ H Q)
    (k : ∀ d H', Ex H H' → H' d = some (.xd [(f, x)]) → E (.ref C) (some d) H') : tMkO C (spErr1 K C f) [] ta σ H E := by
  refine hta _ ⟨by show (1 : Nat) ≤ 1000; decide, fun a ha => ⟨a, x, rfl, hC, upd_same, fun d hd hne => ?_⟩⟩
  have hd' : H d = none := by rw [upd_ne hne] at hd; exact hd
  have han : a ≠ d := fun e => hne e.symm
  refine ⟨rfl, d, _, upd_same, ?_, hd', k d _ (fun b o hb => ?_) upd_same⟩
  · rw [upd_ne hne, upd_same]
  · have h1 : b ≠ a := ne_of_none hb ha
    have h2 : b ≠ d := ne_of_none hb hd'
    rw [upd_ne h2, del_ne h1, upd_ne h1, upd_ne h2, upd_ne h1]
    exact hb
theorem raise2 {K : PySem.W.Frag} {C : Addr} {f g : Str} {H : Hp} {E : XK} {σ : L2.St} {ta : TA} {x y : V} (hC : OexC K C) (hta : ∀ Q : List V → Hp → Prop, Q [x, y] H → ta σ H Q)
    (k : ∀ d H', Ex H H' → H' d = some (.xd [(g, y), (f, x)]) → E (.ref C) (some d) H') : tMkO C (spErr2 K C f g) [] ta σ H E := by
  refine hta _ ⟨by show (2 : Nat) ≤ 1000; decide, fun a ha => ⟨a, x, y, rfl, hC, upd_same, fun d hd hne => ?_⟩⟩
  have hd' : H d = none := by rw [upd_ne hne] at hd; exact hd
  have han : a ≠ d := fun e => hne e.symm
  refine ⟨rfl, d, _, ?_, upd_same, hd', k d _ (fun b o hb => ?_) upd_same⟩
  · rw [upd_ne han, upd_same]
  · have h1 : b ≠ a := ne_of_none hb ha
    have h2 : b ≠ d := ne_of_none hb hd'
    rw [upd_ne h2, del_ne h1, upd_ne h2, upd_ne h1, upd_ne h2, upd_ne h1]
    exact hb
/-- what a cell of the script is worth -/
def cellA (ns : List Int) (k : Nat) : Int := if k < ns.length then (if ns.getD k 0 < 0 then - ns.getD k 0 else ns.getD k 0) else 0
theorem cellA_nn (ns : List Int) (k : Nat) : 0 ≤ cellA ns k := by
  unfold cellA
  split
  · split <;> omega
  · omega

/-! ### lots -/
def lotF (n : Int) (l : Addr) : List (Str × V) := [("hours", .int n), ("_members", .ref l)]
/-- v is a lot of n hours with the members ms -/
def LotAt (C : Addr) (H : Hp) (v : V) (n : Int) (ms : List Int) : Prop := ∃ a dx l, v = .ref a ∧ H a = some (.ins C dx (lotF n l)) ∧ H l = some (.lst (ms.map V.int))
theorem LotAt.ex {C : Addr} {H H' : Hp} {v : V} {n : Int} {ms : List Int} (e : Ex H H') (h : LotAt C H v n ms) : LotAt C H' v n ms := by
  obtain ⟨a, dx, l, rfl, h1, h2⟩ := h
  exact ⟨a, dx, l, rfl, e _ _ h1, e _ _ h2⟩
/-- the first residue that was seen before -/
def scanR (n : Int) : List Int → List Int → Option Int
  | _, [] => none
  | seen, m :: r => if m % n ∈ seen then some (m % n) else scanR n (seen ++ [m % n]) r
def resid (n : Int) (S : List Int) : List Int := pick n.toNat (fun h => decide ((h : Int) ∈ S)) fun h => (h : Int)
def flags (N : Nat) (S : List Int) : List V := (List.range N).map fun h : Nat => V.bl (decide ((h : Int) ∈ S))
theorem flags_nil (N : Nat) : (List.replicate N [V.bl false]).flatten = flags N [] := by
  unfold flags
  induction N with
  | zero => rfl
  | succ N ih =>
    rw [List.range_succ, List.map_append, ← ih, List.replicate_succ', List.flatten_append]
    simp
theorem flags_get {N : Nat} {S : List Int} {j : Nat} (h : j < N) : (flags N S)[j]? = some (.bl (decide ((j : Int) ∈ S))) := by
  unfold flags
  rw [List.getElem?_map, List.getElem?_range h]
  rfl
theorem flags_len {N : Nat} {S : List Int} : (flags N S).length = N := by
  unfold flags
  rw [List.length_map, List.length_range]
theorem flags_set {N : Nat} {S : List Int} {j : Nat} (h : j < N) : (flags N S).set j (.bl true) = flags N (S ++ [(j : Int)]) := by
  refine List.ext_getElem? fun i => ?_
  by_cases hi : i < N
  · rw [flags_get hi]
    by_cases e : i = j
    · subst e
      rw [List.getElem?_set_self (by rw [flags_len]; exact hi)]
      simp
    · rw [List.getElem?_set_ne (by omega), flags_get hi]
      have : ¬ (i : Int) = (j : Int) := by omega
      simp [this]
  · rw [List.getElem?_eq_none (by rw [List.length_set, flags_len]; omega), List.getElem?_eq_none (by rw [flags_len]; omega)]
theorem el_rng1 {σ : L2.St} {H : Hp} {te : TE} {tt : TT} {ta : TA} {j : Nat} {vs : List Nat} {n : Int} (f : Nat → Bool) (v : Nat → V) (h : EvA ta σ H [.int n]) (hn : 0 ≤ n ∧ n ≤ 40000)
    (hw : ∀ x, wipe ((wipe σ vs).set j (some x)) vs = wipe σ vs)
    (ht : ∀ (i : Nat) H1, Ex H H1 → (i : Int) < n → EvT tt ((wipe σ vs).set j (some (.int (i : Int)))) H1 (f i))
    (he : ∀ (i : Nat) H1, Ex H H1 → (i : Int) < n → f i = true → Ev te ((wipe σ vs).set j (some (.int (i : Int)))) H1 (v i)) :
    EvL (tLc (iRng1 ta) (gName j) tt te vs) σ H (given n.toNat f v) := el_lcR1 f v h hn hw ht he
theorem putF2 {y z : V} : putF "_members" z (putF "hours" y []) = [(("hours" : Str), y), (("_members" : Str), z)] := by
  have h : ¬ ("hours" : Str) = "_members" := by decide +kernel
  show (if ("hours" : Str) = "_members" then _ else (("hours" : Str), y) :: putF "_members" z []) = _
  rw [if_neg h]
  rfl

/-! ### for x in o, o of a class whose __iter__ tells the iterator of a list that o holds -/
/-- a def whose promise may speak of the number of objects that stand when it is called -/
structure FnS (P : Program) (w : World) (K : PySem.W.Frag) (mg : Str → Option Value) (base : Heap) (k : Nat) (f : Addr) (fd : FuncData) (ps : List Str) (sp : Nat → Sp) : Prop where
  go : ∀ (A : Around) (outer : List Env) (s : Shared) (H : Hp) (args : Args) (us : List Value) (vs : List V) (Q : VK) (E : XK),
    Room k A → Env0 P w K mg base A outer s H → BindsTo s fd args (ps.zip us) → Vals vs us → sp s.heap.objs.size vs H Q E →
    codeAny (model P w) A (.call (.ref f) args) (CR CX0 outer P w H s Q E) s
theorem fnS_mk {P : Program} {w : World} {K : PySem.W.Frag} {mg : Str → Option Value} {base : Heap} {x qual : Str} {st : Stmt} {f : Addr} {fd : FuncData} {N ps : List Str} {k : Nat} {sp : Nat → Sp}
    (F : Fun K x qual st f fd) (S : FnScope N ps (defScope st)) (len : ∀ n vs H Q E, sp n vs H Q E → vs.length = ps.length)
    (bd : ∀ (cdv : Value) (A : Around) (outer : List Env) (s : Shared) (H : Hp) (vs : List V) (Q : VK) (E : XK),
      Room k (A.deeper (PyProof.Rows.envOfC qual (defScope st) s.heap.objs.size f cdv)) → sp s.heap.objs.size vs H Q E →
      ∃ t, PSs (cxOf CX0 P w K mg base N qual (defScope st) f cdv A outer s H E) (defBody st) t ∧ t { nx := fun _ H' => Q .non H', rt := Q } (L2.start N vs) H) : FnS P w K mg base (k + 1) f fd ps sp := by
  obtain ⟨oc, od, kV, doc, pm, an, cdv, ct, osl, rfl, lk, hcd⟩ := F.ex
  constructor
  intro A outer s H args us vs Q E hr e0 hb rv hsp
  have many := len _ _ _ _ _ hsp
  have held : K.In s.heap := e0.mod.kin.keeps fun b o e => (e0.bs b o e).1
  have wide : s.heap.NoLimit := e0.mod.nolimit.keeps fun b o e => (e0.bs b o e).1
  have kinds : ∀ y ∈ ps.zip us, (defScope st).names.lookup y.1 = some .local ∨ ((defScope st).names.lookup y.1 = some .cell ∧ ((cellsFrom (s.heap.objs.size + 1) (defScope st).names []).lookup y.1).isSome = true) := by
    rintro ⟨n, v⟩ hy
    cases S.par n (List.of_mem_zip hy).1 with
    | inl q => exact .inl q
    | inr q => exact .inr ⟨q, PySem.W.cellsFrom_some _ _ _ (.inl q)⟩
  refine codeAny_call_function hr.depth (held _ _ lk) rfl S.co S.gen rfl (PySem.W.codeRec_of held hcd)
    (hb _ _ _ _ ?_)
  refine wpAny_newFunctionEnv_cells S.kind kinds fun env he s1 x1 => ?_
  cases he
  refine ⟨wide.keeps x1.toInCall.keep, codeAny_func ?_⟩
  obtain ⟨t, ht, hq⟩ := bd cdv A outer s H vs Q E (hr.deeper _) hsp
  have I := inv_start (E := E) (CX := CX0) S hr.hd e0 many rv x1
  refine wpAny_mono (ht.run [] s1 (L2.start N vs) H _ I hq) (fun fl s' hs => ?_) (fun e s' hs => hs)
  cases fl with
  | ret u =>
    obtain ⟨v, σ', H', J, r, q⟩ := hs
    exact ⟨v, H', J.os, J.bare, J.base, J.hok, r, q⟩
  | next =>
    obtain ⟨σ', H', J, q⟩ := hs
    exact ⟨V.non, H', J.os, J.bare, J.base, J.hok, rfl, q⟩
  | brk => obtain ⟨_, _, _, q⟩ := hs; exact q.elim
  | cont => obtain ⟨_, _, _, q⟩ := hs; exact q.elim
def spIt (K : PySem.W.Frag) (C : Addr) (fld : Str) (n : Nat) : Sp := fun vs H Q _ => ∃ (a dx l : Addr) (fs : List (Str × V)) (xs : List V), vs = [.ref a] ∧ H a = some (.ins C dx fs) ∧ fs.lookup fld = some (.ref l) ∧ SqL K H l xs ∧
  ∀ it, H it = none → n ≤ it → Q (.ref it) (upd H it (ItO l it 0))
/-- the list that o holds -/
def tOwn (C : Addr) (fld : Str) (te : TE) : TE := fun σ H Q => te σ H fun x H1 => ∃ (a dx l : Addr) (fs : List (Str × V)), x = .ref a ∧ H1 a = some (.ins C dx fs) ∧ fs.lookup fld = some (.ref l) ∧ Q (.ref l) H1
theorem ev_own {σ : L2.St} {H : Hp} {te : TE} {C a dx l : Addr} {fld : Str} {fs : List (Str × V)} (h : Ev te σ H (.ref a)) (hi : H a = some (.ins C dx fs)) (hl : fs.lookup fld = some (.ref l)) : Ev (tOwn C fld te) σ H (.ref l) := fun H1 e Q q =>
  h H1 e _ fun H2 e2 => ⟨a, dx, l, fs, rfl, e2 _ _ (e _ _ hi), hl, q H2 e2⟩
theorem pi_own {X : Cx} {K : PySem.W.Frag} {tg e : Expr} {te : TE} {C f : Addr} {fd : FuncData} {fld : Str} {n : Nat} (hk : X.K = K) (he : PE X e te) (hm : Meth K C "__iter__" f)
    (F : FnS X.prog X.w X.K X.mg X.base n f fd ["self"] (spIt K C fld)) (hr : Room n X.A) (hb : Binds X.K fd ["self"] []) : PI X tg e (iList K (tOwn C fld te)) := by
  subst hk
  refine ⟨fun pins s σ H R I h => ?_⟩
  refine thn (he.run pins s σ H _ I h) fun u s1 ⟨x, H1, I1, rx, a, dx, l, fs, ex, ea, el, l', e2, ⟨xs, hq⟩, q⟩ => ?_
  subst ex
  cases e2
  obtain rfl : u = Value.ref a := rx
  obtain ⟨mA, J0, _⟩ := ins_get I1.hok ea
  obtain ⟨od, J, _⟩ := J0.look
  obtain ⟨m, hF⟩ := I1.fr
  refine PySem.W.owit_iter hF I1.ok.mod.kin J hm.at_ hm.fn ?_
  have h2 := hb s1 [.ref a] I1.kIn rfl
  refine wpAny_call (codeAny_mono (F.go X.A X.stack s1 H1 ⟨[.ref a], []⟩ [.ref a] [.ref a] (fun v H' => ∃ it, v = .ref it ∧ H1 it = none ∧ s1.heap.objs.size ≤ it ∧ H' = upd H1 it (ItO l it 0)) E0 hr I1.env0 (by simpa using h2) (.cons rfl .nil)
    ⟨a, dx, l, fs, xs, rfl, ea, el, hq, fun it hit hn => ⟨it, rfl, hit, hn, rfl⟩⟩) fun r s' hce => ?_)
  cases r with
  | error e => exact False.elim hce
  | ok fl =>
    cases fl with
    | next => exact False.elim hce
    | brk => exact False.elim hce
    | cont => exact False.elim hce
    | ret u =>
      obtain ⟨v, H2, I2, rv, it, ev, hit, hsz, eH⟩ := I1.after hce
      subst ev eH
      cases rv
      have hi : (upd H1 it (ItO l it 0)) it = some (ItO l it 0) := upd_same
      have eo := itO_get I2 hi
      have hT : s'.TypeIs (.ref it) "list_iterator" := ⟨_, eo, rfl⟩
      show PySem.W.OwitIt _ _ _ _ (Value.ref it) s'
      unfold PySem.W.OwitIt
      refine wpAny_specialOf (name := Str.ofString "__next__") hT slot_listiter_next.lookup ?_
      have I3 := ItX.inv_drop I2 hi
      refine ⟨it, [it], _, _, _, rfl, I3, turn_list l it, ⟨_, eo, rfl, rfl⟩, fun b hb => ?_, ?_⟩
      · have e : b = it := by simpa using hb
        rw [e]
        exact ItX.inv_fp I2 hi (Nat.le_trans I1.sz hsz)
      · rw [ItX.dropH_upd hit]
        exact q

/-! ### ascending hours -/
def Asc (lo hi : Int) (xs : List Int) : Prop := xs.Pairwise (· < ·) ∧ ∀ x ∈ xs, lo ≤ x ∧ x < hi
theorem Asc.nil {lo hi : Int} : Asc lo hi [] := ⟨.nil, fun x h => by cases h⟩
theorem Asc.append {lo mid mid' hi : Int} {xs ys : List Int} (h : Asc lo mid xs) (g : Asc mid' hi ys) (h1 : lo ≤ mid') (h2 : mid ≤ mid') (h3 : mid ≤ hi) : Asc lo hi (xs ++ ys) := by
  refine ⟨List.pairwise_append.mpr ⟨h.1, g.1, fun x hx y hy => ?_⟩, fun x hx => ?_⟩
  · have := h.2 x hx
    have := g.2 y hy
    omega
  · rcases List.mem_append.mp hx with hx | hx
    · have := h.2 x hx
      omega
    · have := g.2 x hx
      omega
theorem Asc.mono {lo hi lo' hi' : Int} {xs : List Int} (h : Asc lo hi xs) (h1 : lo' ≤ lo) (h2 : hi ≤ hi') : Asc lo' hi' xs := ⟨h.1, fun x hx => by have := h.2 x hx; omega⟩
theorem Asc.filter {lo hi : Int} {xs : List Int} (p : Int → Bool) (h : Asc lo hi xs) : Asc lo hi (xs.filter p) := ⟨h.1.filter p, fun x hx => h.2 x (List.mem_filter.mp hx).1⟩
theorem asc_range {f : Nat → Bool} : ∀ n : Nat, Asc 0 (n : Int) (pick n f fun i => (i : Int))
  | 0 => by unfold pick; exact .nil
  | n + 1 => by
    rw [pick_succ]
    refine (asc_range n).append (mid' := (n : Int)) ?_ (by omega) (by omega) (by omega)
    by_cases h : f n = true
    · rw [if_pos h]
      exact ⟨List.pairwise_singleton _ _, fun x hx => by cases List.mem_singleton.mp hx; omega⟩
    · rw [if_neg h]
      exact .nil
theorem Asc.len {xs : List Int} : ∀ {lo hi : Int}, Asc lo hi xs → (xs.length : Int) ≤ max 0 (hi - lo) := by
  induction xs with
  | nil => intro lo hi _; simp; omega
  | cons x xs ih =>
    intro lo hi h
    have hx := h.2 x List.mem_cons_self
    have h' : Asc (x + 1) hi xs := ⟨(List.pairwise_cons.mp h.1).2, fun y hy => by
      have a := (List.pairwise_cons.mp h.1).1 y hy
      have b := h.2 y (List.mem_cons_of_mem _ hy)
      omega⟩
    have := ih h'
    simp only [List.length_cons]
    omega
theorem asc_shift {c : Int} {bs : List Int} (p : Int → Bool) (h : Asc 0 25 bs) : Asc c (c + 25) ((bs.filter p).map fun b => c + b) := by
  have hf := h.filter p
  refine ⟨List.pairwise_map.mpr (hf.1.imp fun {a b} hab => by show c + a < c + b; omega), fun x hx => ?_⟩
  obtain ⟨b, hb, rfl⟩ := List.mem_map.mp hx
  have := hf.2 b hb
  omega
theorem rg_pick (n : Int) : rgV 0 n = (pick n.toNat (fun _ => true) fun i => (i : Int)).map V.int := by
  unfold rgV pick
  rw [List.filter_eq_self.mpr fun _ _ => rfl, List.map_map, Int.sub_zero]
  exact List.map_congr_left fun i _ => congrArg V.int (Int.zero_add _)
theorem ev_lenN' {K : PySem.W.Frag} {σ : L2.St} {H : Hp} {ta : TE} {xs : List V} (ha : EvL ta σ H xs) : Ev (tCB (rLenK K) (tCons ta tNil)) σ H (.int (xs.length : Int)) := fun H1 e Q q =>
  ha H1 e _ fun p H2 _ e2 hp => ⟨.ref p, xs.length, rfl, .inl ⟨_, sq_of hp, rfl⟩, q H2 e2⟩
theorem rep_ints (m : Nat) (c : Int) : (List.replicate m [V.int c]).flatten = (List.replicate m c).map V.int := by
  induction m with
  | zero => rfl
  | succ m ih => rw [List.replicate_succ, List.flatten_cons, ih, List.replicate_succ, List.map_cons]; rfl
/-! ### counts of pairs -/
def cntP (n : Int) (P : List (Int × Int)) : List Int := (List.range n.toNat).map fun d : Nat => ((P.filter fun p => decide ((p.1 - p.2) % n = (d : Int))).length : Int)
theorem cntP_nil (n : Int) : (List.replicate n.toNat [V.int 0]).flatten = (cntP n []).map V.int := by
  unfold cntP
  generalize n.toNat = N
  induction N with
  | zero => rfl
  | succ N ih =>
    rw [List.range_succ, List.map_append, List.map_append, List.replicate_succ', List.flatten_append, ih]
    simp
theorem cntP_len {n : Int} {P : List (Int × Int)} : (cntP n P).length = n.toNat := by
  unfold cntP
  rw [List.length_map, List.length_range]
theorem cntP_get {n : Int} {P : List (Int × Int)} {d : Nat} (h : d < n.toNat) : (cntP n P)[d]? = some ((P.filter fun p => decide ((p.1 - p.2) % n = (d : Int))).length : Int) := by
  unfold cntP
  rw [List.getElem?_map, List.getElem?_range h]
  rfl
theorem cntP_set {n x y : Int} {P : List (Int × Int)} {d : Nat} (h : d < n.toNat) (hd : (x - y) % n = (d : Int)) :
    (cntP n P).set d (((P.filter fun p => decide ((p.1 - p.2) % n = (d : Int))).length : Int) + 1) = cntP n (P ++ [(x, y)]) := by
  refine List.ext_getElem? fun i => ?_
  by_cases hi : i < n.toNat
  · rw [cntP_get hi]
    by_cases e : i = d
    · subst e
      rw [List.getElem?_set_self (by rw [cntP_len]; exact hi), List.filter_append]
      simp [hd]
    · rw [List.getElem?_set_ne (by omega), cntP_get hi, List.filter_append]
      have : ¬ (d : Int) = (i : Int) := by omega
      simp [hd, this]
  · rw [List.getElem?_eq_none (by rw [List.length_set, cntP_len]; omega), List.getElem?_eq_none (by rw [cntP_len]; omega)]
def prod (xs ys : List Int) : List (Int × Int) := xs.flatMap fun x => ys.map fun y => (x, y)
theorem prod_take {xs ys : List Int} {i : Nat} {x : Int} (h : xs[i]? = some x) : prod (xs.take (i + 1)) ys = prod (xs.take i) ys ++ ys.map fun y => (x, y) := by
  unfold prod
  rw [List.take_succ, h, List.flatMap_append]
  simp

/-! ### ascending lists of hours as members of a lot -/
theorem asc_unique : ∀ {xs ys : List Int}, xs.Pairwise (· < ·) → ys.Pairwise (· < ·) → (∀ z, z ∈ xs ↔ z ∈ ys) → xs = ys
  | [], [], _, _, _ => rfl
  | [], y :: ys, _, _, h => by have := (h y).mpr List.mem_cons_self; cases this
  | x :: xs, [], _, _, h => by have := (h x).mp List.mem_cons_self; cases this
  | x :: xs, y :: ys, hx, hy, h => by
    have hx' := List.pairwise_cons.mp hx
    have hy' := List.pairwise_cons.mp hy
    have e : x = y := by
      have a : y ≤ x := by
        rcases List.mem_cons.mp ((h x).mp List.mem_cons_self) with z | z
        · omega
        · have := hy'.1 x z; omega
      have b : x ≤ y := by
        rcases List.mem_cons.mp ((h y).mpr List.mem_cons_self) with z | z
        · omega
        · have := hx'.1 y z; omega
      omega
    subst e
    rw [asc_unique hx'.2 hy'.2 fun z => ?_]
    constructor
    · intro hz
      rcases List.mem_cons.mp ((h z).mp (List.mem_cons_of_mem _ hz)) with q | q
      · have := hx'.1 z hz; omega
      · exact q
    · intro hz
      rcases List.mem_cons.mp ((h z).mpr (List.mem_cons_of_mem _ hz)) with q | q
      · have := hy'.1 z hz; omega
      · exact q
theorem asc_mod {n : Int} {xs : List Int} (h : Asc 0 n xs) : (xs.map fun x => x % n) = xs := by
  have e : ∀ x ∈ xs, (fun x => x % n) x = id x := fun x hx => Int.emod_eq_of_lt (h.2 x hx).1 (h.2 x hx).2
  rw [List.map_congr_left e, List.map_id]
theorem asc_resid {n : Int} {xs : List Int} (hn : 0 ≤ n) (h : Asc 0 n xs) : resid n (xs.map fun x => x % n) = xs := by
  rw [asc_mod h]
  unfold resid
  refine asc_unique (asc_range n.toNat).1 h.1 fun z => ?_
  unfold pick
  constructor
  · intro hz
    obtain ⟨i, hi, rfl⟩ := List.mem_map.mp hz
    exact of_decide_eq_true (List.mem_filter.mp hi).2
  · intro hz
    have b := h.2 z hz
    refine List.mem_map.mpr ⟨z.toNat, List.mem_filter.mpr ⟨List.mem_range.mpr (by omega), decide_eq_true ?_⟩, by omega⟩
    rw [show ((z.toNat : Nat) : Int) = z by omega]
    exact hz
theorem asc_scan {n : Int} : ∀ {xs : List Int} (seen : List Int), Asc 0 n xs → (∀ x ∈ xs, x ∉ seen) → scanR n seen xs = none
  | [], _, _, _ => rfl
  | x :: xs, seen, h, hs => by
    have b := h.2 x List.mem_cons_self
    have e : x % n = x := Int.emod_eq_of_lt b.1 b.2
    have hp := List.pairwise_cons.mp h.1
    unfold scanR
    rw [e, if_neg (hs x List.mem_cons_self)]
    refine asc_scan _ ⟨hp.2, fun y hy => h.2 y (List.mem_cons_of_mem _ hy)⟩ fun y hy hm => ?_
    rcases List.mem_append.mp hm with q | q
    · exact hs y (List.mem_cons_of_mem _ hy) q
    · have := hp.1 y hy
      have := List.mem_singleton.mp q
      omega
/-! ### counts two ways -/
def cnt (n : Int) (xs ys : List Int) : List Int := (List.range n.toNat).map fun d : Nat => ((ys.filter fun y => decide ((y + (d : Int)) % n ∈ xs)).length : Int)
theorem mod_turn {n x y d : Int} (hn : 0 < n) (hx : 0 ≤ x ∧ x < n) (hd : 0 ≤ d ∧ d < n) : (x - y) % n = d ↔ (y + d) % n = x := by
  constructor
  · intro h
    have e := Int.emod_add_mul_ediv (x - y) n
    have e2 : y + d = x + n * (-((x - y) / n)) := by rw [Int.mul_neg]; omega
    rw [e2, Int.add_mul_emod_self_left]
    exact Int.emod_eq_of_lt hx.1 hx.2
  · intro h
    have e := Int.emod_add_mul_ediv (y + d) n
    have e2 : x - y = d + n * (-((y + d) / n)) := by rw [Int.mul_neg]; omega
    rw [e2, Int.add_mul_emod_self_left]
    exact Int.emod_eq_of_lt hd.1 hd.2
theorem prod_cons {x : Int} {xs ys : List Int} : prod (x :: xs) ys = (ys.map fun y => (x, y)) ++ prod xs ys := by
  unfold prod
  rw [List.flatMap_cons]
theorem filt_or {ys : List Int} {p q : Int → Bool} (h : ∀ y ∈ ys, ¬ (p y = true ∧ q y = true)) : (ys.filter fun y => p y || q y).length = (ys.filter p).length + (ys.filter q).length := by
  induction ys with
  | nil => rfl
  | cons y ys ih =>
    have := ih fun z hz => h z (List.mem_cons_of_mem _ hz)
    have hy := h y List.mem_cons_self
    simp only [List.filter_cons]
    cases hp : p y <;> cases hq : q y <;> simp [hp, hq] at hy ⊢ <;> omega
theorem pairs_cnt {n : Int} {ys : List Int} (hn : 0 < n) {d : Int} (hd : 0 ≤ d ∧ d < n) : ∀ {xs : List Int}, Asc 0 n xs →
    ((prod xs ys).filter fun p => decide ((p.1 - p.2) % n = d)).length = (ys.filter fun y => decide ((y + d) % n ∈ xs)).length
  | [], _ => by
    have e : (ys.filter fun y => decide ((y + d) % n ∈ ([] : List Int))) = [] := List.filter_eq_nil_iff.mpr fun y _ => by simp
    rw [e]
    rfl
  | x :: xs, h => by
    have hp := List.pairwise_cons.mp h.1
    have hx := h.2 x List.mem_cons_self
    have ih := pairs_cnt (ys := ys) hn hd (xs := xs) ⟨hp.2, fun y hy => h.2 y (List.mem_cons_of_mem _ hy)⟩
    rw [prod_cons, List.filter_append, List.length_append, ih, List.filter_map, List.length_map]
    have e1 : (ys.filter ((fun p : Int × Int => decide ((p.1 - p.2) % n = d)) ∘ fun y => (x, y))) = ys.filter fun y => decide ((y + d) % n = x) :=
      List.filter_congr fun y _ => decide_eq_decide.mpr (mod_turn hn hx hd)
    have e2 : (ys.filter fun y => decide ((y + d) % n ∈ x :: xs)) = ys.filter fun y => decide ((y + d) % n = x) || decide ((y + d) % n ∈ xs) :=
      List.filter_congr fun y _ => by rw [← Bool.decide_or]; exact decide_eq_decide.mpr List.mem_cons
    rw [e1, e2, filt_or]
    rintro y _ ⟨h1, h2⟩
    have h1 := of_decide_eq_true h1
    have h2 := of_decide_eq_true h2
    rw [h1] at h2
    have := hp.1 x h2
    omega
theorem cnt_eq {n : Int} {xs ys : List Int} (hn : 0 < n) (h : Asc 0 n xs) : cntP n (prod xs ys) = cnt n xs ys := by
  unfold cntP cnt
  refine List.map_congr_left fun d hd => ?_
  have := List.mem_range.mp hd
  rw [pairs_cnt hn (by omega) h]
theorem swap_cons {x : Int} {xs : List Int} {r : Int × Int → Bool} : ∀ ys : List Int, ((prod ys (x :: xs)).filter r).length = (ys.filter fun y => r (y, x)).length + ((prod ys xs).filter r).length
  | [] => rfl
  | y :: ys => by
    rw [prod_cons, prod_cons, List.filter_append, List.filter_append, List.length_append, List.length_append, swap_cons ys, List.map_cons, List.filter_cons, List.filter_cons]
    cases r (y, x) <;> simp <;> omega
theorem swap_cnt {ys : List Int} {p : Int × Int → Bool} : ∀ xs : List Int, ((prod xs ys).filter p).length = ((prod ys xs).filter fun q => p (q.2, q.1)).length
  | [] => by
    have e : prod ys [] = [] := by
      unfold prod
      simp
    rw [e]
    rfl
  | x :: xs => by
    rw [prod_cons, List.filter_append, List.length_append, swap_cnt xs, swap_cons, List.filter_map, List.length_map]
    rfl
theorem cnt_back {n : Int} {xs ys : List Int} (hn : 0 < n) (h : Asc 0 n xs) : ((List.range n.toNat).map fun d : Nat => (cnt n xs ys).getD ((0 - (d : Int)) % n).toNat 0) = cntP n (prod ys xs) := by
  rw [← cnt_eq hn h]
  unfold cntP
  refine List.map_congr_left fun d hd => ?_
  have hd' := List.mem_range.mp hd
  have m0 : 0 ≤ (0 - (d : Int)) % n := Int.emod_nonneg _ (by omega)
  have m1 : (0 - (d : Int)) % n < n := Int.emod_lt_of_pos _ hn
  rw [List.getD_eq_getElem?_getD, List.getElem?_map, List.getElem?_range (by omega), Option.map_some, Option.getD_some, swap_cnt]
  have e : (fun q : Int × Int => decide (((q.2, q.1).1 - (q.2, q.1).2) % n = ((((0 - (d : Int)) % n).toNat : Nat) : Int))) = fun q : Int × Int => decide ((q.1 - q.2) % n = (d : Int)) := by
    funext q
    refine decide_eq_decide.mpr ?_
    rw [show ((((0 - (d : Int)) % n).toNat : Nat) : Int) = (0 - (d : Int)) % n by omega]
    show (q.2 - q.1) % n = (0 - (d : Int)) % n ↔ (q.1 - q.2) % n = (d : Int)
    have hd2 : (d : Int) % n = (d : Int) := Int.emod_eq_of_lt (by omega) (by omega)
    constructor
    · intro z
      have := Int.emod_emod_of_dvd (0 - (q.2 - q.1)) (Int.dvd_refl n)
      have z2 : (0 - (q.2 - q.1)) % n = (0 - (0 - (d : Int))) % n := by rw [Int.sub_emod, z, ← Int.sub_emod]
      rw [show q.1 - q.2 = 0 - (q.2 - q.1) by omega, z2, show (0 : Int) - (0 - (d : Int)) = (d : Int) by omega, hd2]
    · intro z
      have z2 : (0 - (q.1 - q.2)) % n = (0 - (d : Int)) % n := by rw [Int.sub_emod, z, ← hd2, ← Int.sub_emod, hd2]
      rw [show q.2 - q.1 = 0 - (q.1 - q.2) by omega, z2]
  rw [e]
theorem inV_ints {i : Int} {xs : List Int} : inV (V.int i) (xs.map V.int) = decide (i ∈ xs) := by
  unfold inV
  induction xs with
  | nil => rfl
  | cons x xs ih =>
    rw [List.map_cons, List.any_cons, ih]
    by_cases h : x = i
    · subst h
      simp [eqV]
    · have h' : ¬ i = x := fun z => h z.symm
      simp [eqV, h, h']
structure Ads where
  f_BadNumber_init : Addr
  d_BadNumber_init : FuncData
  f_RepeatedHour_init : Addr
  d_RepeatedHour_init : FuncData
  f_Lot_init : Addr
  d_Lot_init : FuncData
  f_Lot_members : Addr
  d_Lot_members : FuncData
  f_Lot_iter : Addr
  d_Lot_iter : FuncData
  f_u_law_cell : Addr
  d_u_law_cell : FuncData
  f_u_law_draws : Addr
  d_u_law_draws : FuncData
  f_u_law_is_int : Addr
  d_u_law_is_int : FuncData
  f_u_law_same : Addr
  d_u_law_same : FuncData
  f_meetings : Addr
  d_meetings : FuncData
  f_differences : Addr
  d_differences : FuncData
  f_u_law_bits : Addr
  d_u_law_bits : FuncData
  f_u_law_subset : Addr
  d_u_law_subset : FuncData
  f_u_law_sparse : Addr
  d_u_law_sparse : FuncData
  f_u_law_drawn_lot : Addr
  d_u_law_drawn_lot : FuncData
  f_u_law_counts : Addr
  d_u_law_counts : FuncData
  f_u_law_agrees : Addr
  d_u_law_agrees : FuncData
  f_u_law_differs : Addr
  d_u_law_differs : FuncData
  f_u_law_kept_apart : Addr
  d_u_law_kept_apart : FuncData
  f_law : Addr
  d_law : FuncData
  C_BadNumber : Addr
  C_RepeatedHour : Addr
  C_WatchError : Addr
  C_OtherHours : Addr
  C_OtherHouse : Addr
  C_Meets : Addr
  C_WrongLength : Addr
  C_Lot : Addr
  p_Lot_members : Addr
structure Txt (K : PySem.W.Frag) (mg : Str → Option Value) (A : Ads) : Prop where
  F_BadNumber_init : Fun K "__init__" "BadNumber.__init__" s_BadNumber_init A.f_BadNumber_init A.d_BadNumber_init
  F_RepeatedHour_init : Fun K "__init__" "RepeatedHour.__init__" s_RepeatedHour_init A.f_RepeatedHour_init A.d_RepeatedHour_init
  F_Lot_init : Fun K "__init__" "Lot.__init__" s_Lot_init A.f_Lot_init A.d_Lot_init
  F_Lot_members : Fun K "members" "Lot.members" s_Lot_members A.f_Lot_members A.d_Lot_members
  F_Lot_iter : Fun K "__iter__" "Lot.__iter__" s_Lot_iter A.f_Lot_iter A.d_Lot_iter
  F_u_law_cell : Fun K "_law_cell" "_law_cell" s_u_law_cell A.f_u_law_cell A.d_u_law_cell
  g_u_law_cell : mg "_law_cell" = some (.ref A.f_u_law_cell)
  k_u_law_cell : PySem.W.keepIn K (.ref A.f_u_law_cell) = true
  F_u_law_draws : Fun K "_law_draws" "_law_draws" s_u_law_draws A.f_u_law_draws A.d_u_law_draws
  g_u_law_draws : mg "_law_draws" = some (.ref A.f_u_law_draws)
  k_u_law_draws : PySem.W.keepIn K (.ref A.f_u_law_draws) = true
  F_u_law_is_int : Fun K "_law_is_int" "_law_is_int" s_u_law_is_int A.f_u_law_is_int A.d_u_law_is_int
  g_u_law_is_int : mg "_law_is_int" = some (.ref A.f_u_law_is_int)
  k_u_law_is_int : PySem.W.keepIn K (.ref A.f_u_law_is_int) = true
  F_u_law_same : Fun K "_law_same" "_law_same" s_u_law_same A.f_u_law_same A.d_u_law_same
  g_u_law_same : mg "_law_same" = some (.ref A.f_u_law_same)
  k_u_law_same : PySem.W.keepIn K (.ref A.f_u_law_same) = true
  F_meetings : Fun K "meetings" "meetings" s_meetings A.f_meetings A.d_meetings
  g_meetings : mg "meetings" = some (.ref A.f_meetings)
  k_meetings : PySem.W.keepIn K (.ref A.f_meetings) = true
  F_differences : Fun K "differences" "differences" s_differences A.f_differences A.d_differences
  g_differences : mg "differences" = some (.ref A.f_differences)
  k_differences : PySem.W.keepIn K (.ref A.f_differences) = true
  F_u_law_bits : Fun K "_law_bits" "_law_bits" s_u_law_bits A.f_u_law_bits A.d_u_law_bits
  g_u_law_bits : mg "_law_bits" = some (.ref A.f_u_law_bits)
  k_u_law_bits : PySem.W.keepIn K (.ref A.f_u_law_bits) = true
  F_u_law_subset : Fun K "_law_subset" "_law_subset" s_u_law_subset A.f_u_law_subset A.d_u_law_subset
  g_u_law_subset : mg "_law_subset" = some (.ref A.f_u_law_subset)
  k_u_law_subset : PySem.W.keepIn K (.ref A.f_u_law_subset) = true
  F_u_law_sparse : Fun K "_law_sparse" "_law_sparse" s_u_law_sparse A.f_u_law_sparse A.d_u_law_sparse
  g_u_law_sparse : mg "_law_sparse" = some (.ref A.f_u_law_sparse)
  k_u_law_sparse : PySem.W.keepIn K (.ref A.f_u_law_sparse) = true
  F_u_law_drawn_lot : Fun K "_law_drawn_lot" "_law_drawn_lot" s_u_law_drawn_lot A.f_u_law_drawn_lot A.d_u_law_drawn_lot
  g_u_law_drawn_lot : mg "_law_drawn_lot" = some (.ref A.f_u_law_drawn_lot)
  k_u_law_drawn_lot : PySem.W.keepIn K (.ref A.f_u_law_drawn_lot) = true
  F_u_law_counts : Fun K "_law_counts" "_law_counts" s_u_law_counts A.f_u_law_counts A.d_u_law_counts
  g_u_law_counts : mg "_law_counts" = some (.ref A.f_u_law_counts)
  k_u_law_counts : PySem.W.keepIn K (.ref A.f_u_law_counts) = true
  F_u_law_agrees : Fun K "_law_agrees" "_law_agrees" s_u_law_agrees A.f_u_law_agrees A.d_u_law_agrees
  g_u_law_agrees : mg "_law_agrees" = some (.ref A.f_u_law_agrees)
  k_u_law_agrees : PySem.W.keepIn K (.ref A.f_u_law_agrees) = true
  F_u_law_differs : Fun K "_law_differs" "_law_differs" s_u_law_differs A.f_u_law_differs A.d_u_law_differs
  g_u_law_differs : mg "_law_differs" = some (.ref A.f_u_law_differs)
  k_u_law_differs : PySem.W.keepIn K (.ref A.f_u_law_differs) = true
  F_u_law_kept_apart : Fun K "_law_kept_apart" "_law_kept_apart" s_u_law_kept_apart A.f_u_law_kept_apart A.d_u_law_kept_apart
  g_u_law_kept_apart : mg "_law_kept_apart" = some (.ref A.f_u_law_kept_apart)
  k_u_law_kept_apart : PySem.W.keepIn K (.ref A.f_u_law_kept_apart) = true
  F_law : Fun K "law" "law" s_law A.f_law A.d_law
  g_law : mg "law" = some (.ref A.f_law)
  k_law : PySem.W.keepIn K (.ref A.f_law) = true
  z_abs : mg "abs" = none
  z_len : mg "len" = none
  z_int : mg "int" = none
  z_bool : mg "bool" = none
  z_str : mg "str" = none
  z_list : mg "list" = none
  z_tuple : mg "tuple" = none
  z_isinstance : mg "isinstance" = none
  z_range : mg "range" = none
  z_ValueError : mg "ValueError" = none
  z_iter : mg "iter" = none
  z_min : mg "min" = none
  g_BadNumber : mg "BadNumber" = some (.ref A.C_BadNumber)
  g_RepeatedHour : mg "RepeatedHour" = some (.ref A.C_RepeatedHour)
  g_WatchError : mg "WatchError" = some (.ref A.C_WatchError)
  g_OtherHours : mg "OtherHours" = some (.ref A.C_OtherHours)
  g_OtherHouse : mg "OtherHouse" = some (.ref A.C_OtherHouse)
  g_Meets : mg "Meets" = some (.ref A.C_Meets)
  g_WrongLength : mg "WrongLength" = some (.ref A.C_WrongLength)
  g_Lot : mg "Lot" = some (.ref A.C_Lot)
  ox_BadNumber : OexC K A.C_BadNumber
  ni_BadNumber : PySem.W.findIn K (.ref A.C_BadNumber) "__init__" = some (some (.ref A.f_BadNumber_init))
  ti_BadNumber : PySem.W.typeIn K (.ref A.f_BadNumber_init) = some (.type "function")
  nf_BadNumber_name : PySem.W.findIn K (.ref A.C_BadNumber) "name" = some none
  nf_BadNumber_value : PySem.W.findIn K (.ref A.C_BadNumber) "value" = some none
  xf_BadNumber : XfC K A.C_BadNumber
  ex_BadNumber : ExcC K A.C_BadNumber
  ox_RepeatedHour : OexC K A.C_RepeatedHour
  ni_RepeatedHour : PySem.W.findIn K (.ref A.C_RepeatedHour) "__init__" = some (some (.ref A.f_RepeatedHour_init))
  ti_RepeatedHour : PySem.W.typeIn K (.ref A.f_RepeatedHour_init) = some (.type "function")
  nf_RepeatedHour_hour : PySem.W.findIn K (.ref A.C_RepeatedHour) "hour" = some none
  xf_RepeatedHour : XfC K A.C_RepeatedHour
  ex_RepeatedHour : ExcC K A.C_RepeatedHour
  xP_OtherHours : PySem.W.excIn K A.C_OtherHours [.type "ValueError", .type "Exception", .type "BaseException", .type "object"] "ValueError.__new__" = true
  kP_OtherHours : PySem.W.keepIn K (.ref A.C_OtherHours) = true
  bP_OtherHours : PySem.W.subIn K (.ref A.C_OtherHours) (.type "BaseException") = some true
  tP_OtherHours : PySem.W.typeIn K (.ref A.C_OtherHours) = some (.type "type")
  ex_OtherHours : ExcC K A.C_OtherHours
  xm_OtherHours_WatchError : PySem.W.exmOne K (.ref A.C_OtherHours) (.ref A.C_WatchError) = some true
  kit_OtherHours_OtherHours : PySem.W.kitOne K (.ref A.C_OtherHours) (.ref A.C_OtherHours) = some true
  kit_OtherHours_ValueError : PySem.W.kitOne K (.ref A.C_OtherHours) (.type "ValueError") = some true
  kit_OtherHours_OtherHouse : PySem.W.kitOne K (.ref A.C_OtherHours) (.ref A.C_OtherHouse) = some false
  kit_OtherHours_Meets : PySem.W.kitOne K (.ref A.C_OtherHours) (.ref A.C_Meets) = some false
  kit_OtherHours_WrongLength : PySem.W.kitOne K (.ref A.C_OtherHours) (.ref A.C_WrongLength) = some false
  cl_Lot : Cls K A.C_Lot
  mk_Lot : Mk K A.C_Lot A.f_Lot_init
  na_Lot_hours : NoAttr K A.C_Lot "hours"
  na_Lot_members : NoAttr K A.C_Lot "_members"
  ty_Lot : ∀ (H : Hp) (a dx : Addr) (fs : List (Str × V)), H a = some (.ins A.C_Lot dx fs) → TyX K H (.ref a) (.ref A.C_Lot)
  rd_Lot : ∃ mc, ClX.CRead K A.C_Lot mc ∧ (∃ t, ClX.CVal K A.C_Lot mc "MOST" (.int 360) (.int 360 t))
  P_Lot_members : PropOf K A.C_Lot "members" A.p_Lot_members A.f_Lot_members
  M_Lot_iter : Meth K A.C_Lot "__iter__" A.f_Lot_iter
section
variable {P : Program} {w : World} {K : PySem.W.Frag} {mg : Str → Option Value} {base : Heap} {A : Ads}
theorem sc_BadNumber_init : FnScope N_BadNumber_init (["self", "name", "value"] : List Str) (defScope s_BadNumber_init) := ⟨rfl, rfl, rfl, by decide +kernel, rfl, by decide +kernel, by decide +kernel⟩
theorem b_BadNumber_init (T : Txt K mg A) : Binds K A.d_BadNumber_init (["self", "name", "value"] : List Str) [] := T.F_BadNumber_init.binds (ps := (["self", "name", "value"] : List Str)) fun _ _ _ _ _ _ us hl => match us, hl with | [_, _, _], _ => rfl
theorem sc_RepeatedHour_init : FnScope N_RepeatedHour_init (["self", "hour"] : List Str) (defScope s_RepeatedHour_init) := ⟨rfl, rfl, rfl, by decide +kernel, rfl, by decide +kernel, by decide +kernel⟩
theorem b_RepeatedHour_init (T : Txt K mg A) : Binds K A.d_RepeatedHour_init (["self", "hour"] : List Str) [] := T.F_RepeatedHour_init.binds (ps := (["self", "hour"] : List Str)) fun _ _ _ _ _ _ us hl => match us, hl with | [_, _], _ => rfl
theorem sc_Lot_init : FnScope N_Lot_init (["self", "hours", "members"] : List Str) (defScope s_Lot_init) := ⟨rfl, rfl, rfl, by decide +kernel, rfl, by decide +kernel, by decide +kernel⟩
theorem b_Lot_init (T : Txt K mg A) : Binds K A.d_Lot_init (["self", "hours", "members"] : List Str) [] := T.F_Lot_init.binds (ps := (["self", "hours", "members"] : List Str)) fun _ _ _ _ _ _ us hl => match us, hl with | [_, _, _], _ => rfl
theorem sc_Lot_members : FnScope N_Lot_members (["self"] : List Str) (defScope s_Lot_members) := ⟨rfl, rfl, rfl, by decide +kernel, rfl, by decide +kernel, by decide +kernel⟩
theorem b_Lot_members (T : Txt K mg A) : Binds K A.d_Lot_members (["self"] : List Str) [] := T.F_Lot_members.binds (ps := (["self"] : List Str)) fun _ _ _ _ _ _ us hl => match us, hl with | [_], _ => rfl
theorem sc_Lot_iter : FnScope N_Lot_iter (["self"] : List Str) (defScope s_Lot_iter) := ⟨rfl, rfl, rfl, by decide +kernel, rfl, by decide +kernel, by decide +kernel⟩
theorem b_Lot_iter (T : Txt K mg A) : Binds K A.d_Lot_iter (["self"] : List Str) [] := T.F_Lot_iter.binds (ps := (["self"] : List Str)) fun _ _ _ _ _ _ us hl => match us, hl with | [_], _ => rfl
theorem sc_u_law_cell : FnScope N_u_law_cell (["script", "k"] : List Str) (defScope s_u_law_cell) := ⟨rfl, rfl, rfl, by decide +kernel, rfl, by decide +kernel, by decide +kernel⟩
theorem b_u_law_cell (T : Txt K mg A) : Binds K A.d_u_law_cell (["script", "k"] : List Str) [] := T.F_u_law_cell.binds (ps := (["script", "k"] : List Str)) fun _ _ _ _ _ _ us hl => match us, hl with | [_, _], _ => rfl
theorem sc_u_law_draws : FnScope N_u_law_draws (["cell", "salt", "menu"] : List Str) (defScope s_u_law_draws) := ⟨rfl, rfl, rfl, by decide +kernel, rfl, by decide +kernel, by decide +kernel⟩
theorem b_u_law_draws (T : Txt K mg A) : Binds K A.d_u_law_draws (["cell", "salt", "menu"] : List Str) [] := T.F_u_law_draws.binds (ps := (["cell", "salt", "menu"] : List Str)) fun _ _ _ _ _ _ us hl => match us, hl with | [_, _, _], _ => rfl
theorem sc_u_law_is_int : FnScope N_u_law_is_int (["x"] : List Str) (defScope s_u_law_is_int) := ⟨rfl, rfl, rfl, by decide +kernel, rfl, by decide +kernel, by decide +kernel⟩
theorem b_u_law_is_int (T : Txt K mg A) : Binds K A.d_u_law_is_int (["x"] : List Str) [] := T.F_u_law_is_int.binds (ps := (["x"] : List Str)) fun _ _ _ _ _ _ us hl => match us, hl with | [_], _ => rfl
theorem sc_u_law_same : FnScope N_u_law_same (["got", "due"] : List Str) (defScope s_u_law_same) := ⟨rfl, rfl, rfl, by decide +kernel, rfl, by decide +kernel, by decide +kernel⟩
theorem b_u_law_same (T : Txt K mg A) : Binds K A.d_u_law_same (["got", "due"] : List Str) [] := T.F_u_law_same.binds (ps := (["got", "due"] : List Str)) fun _ _ _ _ _ _ us hl => match us, hl with | [_, _], _ => rfl
theorem sc_meetings : FnScope N_meetings (["one", "other"] : List Str) (defScope s_meetings) := ⟨rfl, rfl, rfl, by decide +kernel, rfl, by decide +kernel, by decide +kernel⟩
theorem b_meetings (T : Txt K mg A) : Binds K A.d_meetings (["one", "other"] : List Str) [] := T.F_meetings.binds (ps := (["one", "other"] : List Str)) fun _ _ _ _ _ _ us hl => match us, hl with | [_, _], _ => rfl
theorem sc_differences : FnScope N_differences (["lot"] : List Str) (defScope s_differences) := ⟨rfl, rfl, rfl, by decide +kernel, rfl, by decide +kernel, by decide +kernel⟩
theorem b_differences (T : Txt K mg A) : Binds K A.d_differences (["lot"] : List Str) [] := T.F_differences.binds (ps := (["lot"] : List Str)) fun _ _ _ _ _ _ us hl => match us, hl with | [_], _ => rfl
theorem sc_u_law_bits : FnScope N_u_law_bits (["n", "number"] : List Str) (defScope s_u_law_bits) := ⟨rfl, rfl, rfl, by decide +kernel, rfl, by decide +kernel, by decide +kernel⟩
theorem b_u_law_bits (T : Txt K mg A) : Binds K A.d_u_law_bits (["n", "number"] : List Str) [] := T.F_u_law_bits.binds (ps := (["n", "number"] : List Str)) fun _ _ _ _ _ _ us hl => match us, hl with | [_, _], _ => rfl
theorem sc_u_law_subset : FnScope N_u_law_subset (["cell", "salt", "n"] : List Str) (defScope s_u_law_subset) := ⟨rfl, rfl, rfl, by decide +kernel, rfl, by decide +kernel, by decide +kernel⟩
theorem b_u_law_subset (T : Txt K mg A) : Binds K A.d_u_law_subset (["cell", "salt", "n"] : List Str) [] := T.F_u_law_subset.binds (ps := (["cell", "salt", "n"] : List Str)) fun _ _ _ _ _ _ us hl => match us, hl with | [_, _, _], _ => rfl
theorem sc_u_law_sparse : FnScope N_u_law_sparse (["cell", "salt", "n"] : List Str) (defScope s_u_law_sparse) := ⟨rfl, rfl, rfl, by decide +kernel, rfl, by decide +kernel, by decide +kernel⟩
theorem b_u_law_sparse (T : Txt K mg A) : Binds K A.d_u_law_sparse (["cell", "salt", "n"] : List Str) [] := T.F_u_law_sparse.binds (ps := (["cell", "salt", "n"] : List Str)) fun _ _ _ _ _ _ us hl => match us, hl with | [_, _, _], _ => rfl
theorem sc_u_law_drawn_lot : FnScope N_u_law_drawn_lot (["cell", "salt", "n", "few", "way"] : List Str) (defScope s_u_law_drawn_lot) := ⟨rfl, rfl, rfl, by decide +kernel, rfl, by decide +kernel, by decide +kernel⟩
theorem b_u_law_drawn_lot (T : Txt K mg A) : Binds K A.d_u_law_drawn_lot (["cell", "salt", "n", "few", "way"] : List Str) [] := T.F_u_law_drawn_lot.binds (ps := (["cell", "salt", "n", "few", "way"] : List Str)) fun _ _ _ _ _ _ us hl => match us, hl with | [_, _, _, _, _], _ => rfl
theorem sc_u_law_counts : FnScope N_u_law_counts (["first", "second", "n"] : List Str) (defScope s_u_law_counts) := ⟨rfl, rfl, rfl, by decide +kernel, rfl, by decide +kernel, by decide +kernel⟩
theorem b_u_law_counts (T : Txt K mg A) : Binds K A.d_u_law_counts (["first", "second", "n"] : List Str) [] := T.F_u_law_counts.binds (ps := (["first", "second", "n"] : List Str)) fun _ _ _ _ _ _ us hl => match us, hl with | [_, _, _], _ => rfl
theorem sc_u_law_agrees : FnScope N_u_law_agrees (["one", "two", "due"] : List Str) (defScope s_u_law_agrees) := ⟨rfl, rfl, rfl, by decide +kernel, rfl, by decide +kernel, by decide +kernel⟩
theorem b_u_law_agrees (T : Txt K mg A) : Binds K A.d_u_law_agrees (["one", "two", "due"] : List Str) [] := T.F_u_law_agrees.binds (ps := (["one", "two", "due"] : List Str)) fun _ _ _ _ _ _ us hl => match us, hl with | [_, _, _], _ => rfl
theorem sc_u_law_differs : FnScope N_u_law_differs (["lot", "due"] : List Str) (defScope s_u_law_differs) := ⟨rfl, rfl, rfl, by decide +kernel, rfl, by decide +kernel, by decide +kernel⟩
theorem b_u_law_differs (T : Txt K mg A) : Binds K A.d_u_law_differs (["lot", "due"] : List Str) [] := T.F_u_law_differs.binds (ps := (["lot", "due"] : List Str)) fun _ _ _ _ _ _ us hl => match us, hl with | [_, _], _ => rfl
theorem sc_u_law_kept_apart : FnScope N_u_law_kept_apart (["one", "two"] : List Str) (defScope s_u_law_kept_apart) := ⟨rfl, rfl, rfl, by decide +kernel, rfl, by decide +kernel, by decide +kernel⟩
theorem b_u_law_kept_apart (T : Txt K mg A) : Binds K A.d_u_law_kept_apart (["one", "two"] : List Str) [] := T.F_u_law_kept_apart.binds (ps := (["one", "two"] : List Str)) fun _ _ _ _ _ _ us hl => match us, hl with | [_, _], _ => rfl
theorem sc_law : FnScope N_law (["script"] : List Str) (defScope s_law) := ⟨rfl, rfl, rfl, by decide +kernel, rfl, by decide +kernel, by decide +kernel⟩
theorem b_law (T : Txt K mg A) : Binds K A.d_law (["script"] : List Str) [] := T.F_law.binds (ps := (["script"] : List Str)) fun _ _ _ _ _ _ us hl => match us, hl with | [_], _ => rfl
theorem ok_BadNumber_init (T : Txt K mg A) : FnOk P w K mg base CX0 1 A.f_BadNumber_init A.d_BadNumber_init (["self", "name", "value"] : List Str) (spErr2 K A.C_BadNumber "name" "value") := by
  refine T.F_BadNumber_init.ok sc_BadNumber_init (fun vs H Q E h => ?_) (fun cdv Ar outer s H vs Q E hr h => ?_)
  · obtain ⟨a, x, y, rfl, _⟩ := h
    rfl
  · obtain ⟨a, x, y, rfl, hC, ha, k⟩ := h
    refine ⟨_, (pss_cons (ps_ost (pv 0) (pv 1))
        (pss_one (ps_ost (pv 0) (pv 2)))), ?_⟩
    refine ⟨_, rfl, _, rfl, a, _, rfl, hC, T.nf_BadNumber_name, .inl ⟨ha, fun d hd hne => ?_⟩⟩
    refine ⟨_, rfl, _, rfl, a, _, rfl, hC, T.nf_BadNumber_value, .inr ⟨d, _, upd_same, ?_, by show (1 : Nat) ≤ 900; decide, k d hd hne⟩⟩
    rw [upd_ne hne, upd_same]
theorem ok_RepeatedHour_init (T : Txt K mg A) : FnOk P w K mg base CX0 1 A.f_RepeatedHour_init A.d_RepeatedHour_init (["self", "hour"] : List Str) (spErr1 K A.C_RepeatedHour "hour") := by
  refine T.F_RepeatedHour_init.ok sc_RepeatedHour_init (fun vs H Q E h => ?_) (fun cdv Ar outer s H vs Q E hr h => ?_)
  · obtain ⟨a, x, rfl, _⟩ := h
    rfl
  · obtain ⟨a, x, rfl, hC, ha, k⟩ := h
    refine ⟨_, (pss_one (ps_ost (pv 0) (pv 1))), ?_⟩
    exact ⟨_, rfl, _, rfl, a, _, rfl, hC, T.nf_RepeatedHour_hour, .inl ⟨ha, fun d hd hne => k d hd hne⟩⟩

def spLotInit (K : PySem.W.Frag) (A : Ads) : Sp := fun vs H Q E => ∃ (x dx a : Addr) (n : Int) (ms : List Int), vs = [.ref x, .int n, .ref a] ∧ H x = some (.ins A.C_Lot dx []) ∧ SqL K H a (ms.map V.int) ∧
  (¬ (1 ≤ n ∧ n ≤ 360) → ∀ d H', Ex H H' → H' d = some (.xd [("value", .int n), ("name", .str "hours")]) → E (.ref A.C_BadNumber) (some d) H') ∧
  (1 ≤ n ∧ n ≤ 360 → ∀ r, scanR n [] ms = some r → ∀ d H', Ex H H' → H' d = some (.xd [("hour", .int r)]) → E (.ref A.C_RepeatedHour) (some d) H') ∧
  (1 ≤ n ∧ n ≤ 360 → scanR n [] ms = none → ∀ l H', (∀ b o, b ≠ x → H b = some o → H' b = some o) → H l = none → H' x = some (.ins A.C_Lot dx (lotF n l)) → H' l = some (.lst ((resid n (ms.map (· % n))).map V.int)) → Q .non H')
theorem ok_Lot_init (T : Txt K mg A) : FnOk P w K mg base (L2.CX P w) 4 A.f_Lot_init A.d_Lot_init (["self", "hours", "members"] : List Str) (spLotInit K A) := by
  refine T.F_Lot_init.okX sc_Lot_init (fun vs H Q E h => ?_) (fun cdv Ar outer s H vs Q E hr h => ?_)
  · obtain ⟨x, dx, a, n, ms, rfl, _⟩ := h
    rfl
  · obtain ⟨x, dx, a, n, ms, rfl, hx, hS, k1, k2, k3⟩ := h
    refine ⟨_, (pss_cons (ps_if (PW.pt (pw_or (pt_cmpR op_lt (pv 1) pe_int (nomark _)) (pw_or1 (pt_cmpR op_gt (pv 1) (ClX.pe_cval (pe_glob (v := .ref A.C_Lot) rfl T.g_Lot rfl)) (nomark _))))) (pss_one (ps_raise rfl (takes_of rfl rfl rfl rfl) (pmk_oex T.ox_BadNumber T.ni_BadNumber T.ti_BadNumber (ok_BadNumber_init T) (hr.mono (by omega)) (b_BadNumber_init T) .nil pass0 rfl T.g_BadNumber (pa_cons pe_str (pa_cons (pv 1) pa_nil))))) pss_nil)
        (pss_cons (ps_set (i := 3) sc_Lot_init.nd rfl (Or.inr rfl) (pe_op op_rep (pe_lst (pa_cons pe_bl pa_nil)) (pv 1)))
        (pss_cons (ps_for (passes_of rfl) rfl (pi_list (pv 2)) (pg_name (i := 4) sc_Lot_init.nd rfl (Or.inl rfl)) (pss_cons (ps_if (pt_val (pe_ix ix_lK (pv 3) (pe_op op_mod (pv 4) (pv 1)) (fun _ _ => rfl))) (pss_one (ps_raise rfl (takes_of rfl rfl rfl rfl) (pmk_oex T.ox_RepeatedHour T.ni_RepeatedHour T.ti_RepeatedHour (ok_RepeatedHour_init T) (hr.mono (by omega)) (b_RepeatedHour_init T) .nil pass0 rfl T.g_RepeatedHour (pa_cons (pe_op op_mod (pv 4) (pv 1)) pa_nil)))) pss_nil)
        (pss_one (ps_asg pe_bl (pg_sub (pv 3) (pe_op op_mod (pv 4) (pv 1)) set_list)))))
        (pss_cons (ps_fld (pv 0) (pv 1) rfl)
        (pss_one (ps_fld (pv 0) (pe_lc (own := [("hour", 5)]) (g := gName 5) rfl sc_Lot_init.nd (pi_range1 rfl T.z_range (pa_cons (pv 1) pa_nil)) (blkOk_by (own := [("hour", 5)]) (N := N_Lot_init) (sc := defScope s_Lot_init) (by decide +kernel)) (fun _ _ _ _ _ => (pg_name (i := 5) sc_Lot_init.nd rfl (Or.inl rfl))) (fun _ _ _ _ _ => (pts_one (pt_val (pe_ix ix_lK (pv 3) (pv 5) (fun _ _ => rfl))))) (fun _ _ _ _ _ => (pv 5))) rfl)))))), ?_⟩
    obtain ⟨mc, rdL, tL, cvL⟩ := T.rd_Lot
    refine ⟨_, rfl, n, 1, rfl, rfl, _, rfl, ?_⟩
    by_cases hn : 1 ≤ n ∧ n ≤ 360
    case neg =>
      have fin := raise2 (C := A.C_BadNumber) (f := "name") (g := "value") (σ := L2.start N_Lot_init [V.ref x, V.int n, V.ref a]) (ta := tCons (tC (.str "hours")) (tCons (tVar 1) tNil)) (x := .str "hours") (y := .int n) T.ox_BadNumber (fun Q q => ⟨_, rfl, q⟩) (k1 hn)
      by_cases c1 : n < 1
      · exact wayT c1 (iteT fin)
      · exact wayF c1 ⟨_, rfl, A.C_Lot, mc, _, _, rfl, rdL, cvL, n, 360, rfl, rfl, _, rfl, wayT (show 360 < n by omega) fin⟩
    refine wayF (by omega) ⟨_, rfl, A.C_Lot, mc, _, _, rfl, rdL, cvL, n, 360, rfl, rfl, _, rfl, wayF (by omega) ?_⟩
    refine ⟨by show 1 ≤ sizeLine; decide, fun q hq => ⟨_, rfl, q, n, _, rfl, rfl, upd_same, by omega, by omega, ?_, fun tk htk => ?_⟩⟩
    · show 1 * n.toNat ≤ sizeLine
      exact Nat.le_trans (show 1 * n.toNat ≤ 360 by omega) (by decide)
    have htk0 : H tk = none := fresh_back (Ex.new hq) htk
    have ex0 : ∀ o, Ex H (upd (upd H q (.lst [.bl false])) tk o) := fun o => (Ex.new hq).trans (Ex.new htk)
    rw [flags_nil]
    dsimp only
    refine q_forLn (K := K) (a := a) (xs := ms.map V.int) (ev_var rfl) (ex_l (ex0 _) hS)
      (fun i σ' H' => ∃ mv : Option V, σ' = [some (.ref x), some (.int n), some (.ref a), some (.ref tk), mv, none] ∧ Ex H H' ∧ H' tk = some (.lst (flags n.toNat ((ms.take i).map (· % n)))) ∧
        scanR n [] ms = scanR n ((ms.take i).map (· % n)) (ms.drop i))
      (fun H2 e2 => ⟨none, rfl, (ex0 _).trans e2, e2 _ _ upd_same, rfl⟩) (fun i σ' H' _ ⟨_, _, e, _⟩ => ex_l e hS) ?_ ?_
    · rintro i y σ' H' hi ⟨mv, rfl, ex, ht, hsc⟩
      obtain ⟨m, rfl, hm⟩ := some_int hi
      have m0 : 0 ≤ m % n := Int.emod_nonneg _ (by omega)
      have m1 : m % n < n := Int.emod_lt_of_pos _ (by omega)
      obtain ⟨j, hj⟩ : ∃ j : Nat, m % n = (j : Int) := ⟨(m % n).toNat, by omega⟩
      have hjn : j < n.toNat := by omega
      have hil : i < ms.length := (List.getElem?_eq_some_iff.mp hm).1
      have hd : ms.drop i = m :: ms.drop (i + 1) := by
        rw [List.drop_eq_getElem_cons hil]
        rw [List.getElem?_eq_getElem hil] at hm
        rw [Option.some.inj hm]
      have htake : (ms.take (i + 1)).map (· % n) = (ms.take i).map (· % n) ++ [(j : Int)] := by
        rw [List.take_succ, hm, List.map_append]
        show _ ++ [m % n] = _
        rw [hj]
      have hat : ∀ S : List Int, atI (flags n.toNat S) (m % n) = some (.bl (decide ((j : Int) ∈ S))) := fun S => by
        rw [hj]
        exact atI_nat (flags_get hjn)
      refine ⟨_, rfl, _, rfl, _, rfl, _, _, rfl, rfl, (by show (0 : Int) < n; omega), tk, _, _, _, rfl, rfl, SqL.of ht, hat _, _, rfl, ?_⟩
      rw [hd] at hsc
      refine way (fun hc => ?_) (fun hc => ?_)
      · refine raise1 (C := A.C_RepeatedHour) (f := "hour") (x := .int (m % n)) T.ox_RepeatedHour (fun Q q => ⟨_, rfl, _, rfl, _, _, rfl, rfl, (by show (0 : Int) < n; omega), q⟩) (fun d H2 e2 h2 => k2 hn (m % n) ?_ d H2 (ex.trans e2) h2)
        rw [hsc]
        unfold scanR
        rw [if_pos (by rw [hj]; exact hc)]
      · refine ⟨_, rfl, _, rfl, _, rfl, _, _, rfl, rfl, (by show (0 : Int) < n; omega), tk, _, _, j, rfl, rfl, ht, ?_, ?_⟩
        · show ixN (flags n.toNat _).length (m % n) = some j
          rw [hj]
          exact ixN_nat (by rw [flags_len]; exact hjn)
        · refine ⟨_, rfl, Ex.mut ex htk0, ?_, ?_⟩
          · rw [upd_same, flags_set hjn, htake]
          · rw [hsc, htake]
            conv => lhs; unfold scanR
            rw [if_neg (by rw [hj]; exact hc), hj]
    · rintro σ' H' ⟨mv, rfl, ex, ht, hsc⟩
      rw [List.length_map, List.take_length] at ht hsc
      rw [List.drop_length] at hsc
      have hx' := ex _ _ hx
      refine ⟨_, rfl, _, rfl, x, _, dx, [], rfl, hx', T.cl_Lot, T.na_Lot_hours, by decide, ?_⟩
      have xtk : tk ≠ x := fun e => by rw [e, hx] at htk0; cases htk0
      have ev : EvL _ [some (V.ref x), some (V.int n), some (V.ref a), some (V.ref tk), mv, none] (upd H' x (.ins A.C_Lot dx (putF "hours" (.int n) []))) (given n.toNat (fun h => decide ((h : Int) ∈ ms.map (· % n))) fun h => .int (h : Int)) :=
        el_rng1 (tt := tB (tOp (rIxL K) (tVar 3) (tVar 5))) (te := tVar 5) (ta := tCons (tVar 1) tNil) (j := 5) (vs := [5]) _ _ (ea_cons (ev_var rfl) ea_nil) (by omega) (fun x => rfl)
          (fun i H1 e1 hi => et_B (ev_op (ev_var rfl) (ev_var rfl) (rv_ixL (sq_of (e1 _ _ (by rw [upd_ne xtk]; exact ht))) (atI_nat (flags_get (by omega))))))
          (fun i H1 _ hi _ => ev_var rfl)
      dsimp only [sFld]
      refine ev _ (Ex.refl _) _ fun l H4 hl e4 h4 => ?_
      have hl0 : H' l = none := by
        by_cases e : l = x
        · rw [e, upd_same] at hl; cases hl
        · rw [upd_ne e] at hl; exact hl
      refine ⟨_, rfl, x, _, dx, _, rfl, e4 _ _ upd_same, T.cl_Lot, T.na_Lot_members, (by show 1 < 1000; decide), ?_⟩
      have lx : l ≠ x := fun e => by rw [e, upd_same] at hl; cases hl
      refine k3 hn (by rw [hsc]; rfl) l _ (fun b o hb ho => ?_) (fresh_back ex hl0) ?_ ?_
      · rw [upd_ne hb]
        exact e4 _ _ (by rw [upd_ne hb]; exact ex _ _ ho)
      · rw [upd_same, putF2]
        rfl
      · rw [upd_ne lx, h4, given_pick]
        rfl
/-- a lot is made: what spLotInit asks is answered by what is wished of the lot and of the errors -/
theorem mk_lot {K : PySem.W.Frag} {A : Ads} {H : Hp} {Q : VK} {E : XK} {l : Addr} {n : Int} {ms : List Int} (hS : SqL K H l (ms.map V.int))
    (k1 : ¬ (1 ≤ n ∧ n ≤ 360) → ∀ d H', Ex H H' → H' d = some (.xd [("value", .int n), ("name", .str "hours")]) → E (.ref A.C_BadNumber) (some d) H')
    (k2 : 1 ≤ n ∧ n ≤ 360 → ∀ r, scanR n [] ms = some r → ∀ d H', Ex H H' → H' d = some (.xd [("hour", .int r)]) → E (.ref A.C_RepeatedHour) (some d) H')
    (k3 : 1 ≤ n ∧ n ≤ 360 → scanR n [] ms = none → ∀ a dx m H', H a = none → H m = none → Ex H H' → H' a = some (.ins A.C_Lot dx (lotF n m)) → H' m = some (.lst ((resid n (ms.map (· % n))).map V.int)) → Q (.ref a) H') :
    ∀ x dx, H x = none → H dx = none → dx ≠ x → spLotInit K A (.ref x :: ([.int n, .ref l] ++ [])) (upd (upd H dx (.own x)) x (.ins A.C_Lot dx [])) (fun v H2 => v = .non ∧ Q (.ref x) H2) E := by
  intro x dx hx hdx hne
  have e0 : Ex H (upd (upd H dx (.own x)) x (.ins A.C_Lot dx [])) := fun b o hb => by rw [upd_ne (ne_of_none hb hx), upd_ne (ne_of_none hb hdx)]; exact hb
  refine ⟨x, dx, l, n, ms, rfl, upd_same, ex_l e0 hS, fun hn d H' e hd => k1 hn d H' (e0.trans e) hd, fun hn r hr d H' e hd => k2 hn r hr d H' (e0.trans e) hd, fun hn hs m H' hk hm h1 h2 => ⟨rfl, k3 hn hs x dx m H' hx (fresh_back e0 hm) (fun b o hb => ?_) h1 h2⟩⟩
  exact hk b o (ne_of_none hb hx) (e0 b o hb)
/-- .. what is wished told of the address -/
theorem mk_lotP {K : PySem.W.Frag} {A : Ads} {H : Hp} {P : Addr → Hp → Prop} {E : XK} {l : Addr} {n : Int} {ms : List Int} (hS : SqL K H l (ms.map V.int)) (hn : 1 ≤ n ∧ n ≤ 360) (hs : scanR n [] ms = none)
    (k : ∀ a dx m H', H a = none → H m = none → Ex H H' → H' a = some (.ins A.C_Lot dx (lotF n m)) → H' m = some (.lst ((resid n (ms.map (· % n))).map V.int)) → P a H') :
    ∀ x dx, H x = none → H dx = none → dx ≠ x → spLotInit K A (.ref x :: ([.int n, .ref l] ++ [])) (upd (upd H dx (.own x)) x (.ins A.C_Lot dx [])) (fun v H2 => v = .non ∧ P x H2) E := by
  intro x dx hx hdx hne
  have h := mk_lot (K := K) (A := A) (H := H) (Q := fun v H2 => ∃ y, v = .ref y ∧ P y H2) (E := E) (l := l) (n := n) (ms := ms) hS (fun z => absurd hn z) (fun _ r hr => by rw [hs] at hr; cases hr) (fun _ _ a dx m H' ha hm e g1 g2 => ⟨a, rfl, k a dx m H' ha hm e g1 g2⟩) x dx hx hdx hne
  obtain ⟨x1, dx1, a1, n1, ms1, e1, h1, h2, h3, h4, h5⟩ := h
  refine ⟨x1, dx1, a1, n1, ms1, e1, h1, h2, h3, h4, fun z1 z2 l H' a b c d => ?_⟩
  obtain ⟨r1, y, r2, r3⟩ := h5 z1 z2 l H' a b c d
  cases r2
  exact ⟨r1, r3⟩
def spLotMembers (A : Ads) : Sp := fun vs H Q _ => ∃ (a dx l : Addr) (n : Int) (ms : List Int), vs = [.ref a] ∧ H a = some (.ins A.C_Lot dx (lotF n l)) ∧ H l = some (.lst (ms.map V.int)) ∧
  ∀ p H', H p = none → Ex H H' → H' p = some (.lst (ms.map V.int)) → Q (.ref p) H' 
theorem ok_Lot_members (T : Txt K mg A) : FnOk P w K mg base CX0 1 A.f_Lot_members A.d_Lot_members (["self"] : List Str) (spLotMembers A) := by
  refine T.F_Lot_members.ok sc_Lot_members (fun vs H Q E h => ?_) (fun cdv Ar outer s H vs Q E hr h => ?_)
  · obtain ⟨a, dx, l, n, ms, rfl, _⟩ := h
    rfl
  · obtain ⟨a, dx, l, n, ms, rfl, h1, h2, k⟩ := h
    refine ⟨_, (pss_one (ps_ret (pe_callTy list_K (by rfl) T.z_list (by decide +kernel) (pa_cons (pe_fld (pv 0) rfl) pa_nil)))), ?_⟩
    exact ⟨_, rfl, a, _, dx, _, _, rfl, h1, T.cl_Lot, T.na_Lot_members, rfl, l, _, rfl, .inl (SqL.of h2), fun p hp => k p _ hp (Ex.new hp) upd_same⟩
theorem ok_Lot_iter (T : Txt K mg A) : FnS P w K mg base 1 A.f_Lot_iter A.d_Lot_iter (["self"] : List Str) (spIt K A.C_Lot "_members") := by
  refine fnS_mk T.F_Lot_iter sc_Lot_iter (fun n vs H Q E h => ?_) (fun cdv Ar outer s H vs Q E hr h => ?_)
  · obtain ⟨a, dx, l, fs, xs, rfl, _⟩ := h
    rfl
  · obtain ⟨a, dx, l, fs, xs, rfl, ea, el, hq, k⟩ := h
    refine ⟨_, (pss_one (ps_ret (pe_callB ItX.call_iterN (by rfl) T.z_iter (by decide +kernel) (pa_cons (pe_fld (pv 0) rfl) pa_nil)))), ?_⟩
    exact ⟨_, rfl, a, _, dx, fs, _, rfl, ea, T.cl_Lot, T.na_Lot_members, el, l, xs, rfl, hq, k⟩

def sp_cell (K : PySem.W.Frag) : Sp := fun vs H Q _ => ∃ (a : Addr) (ns : List Int) (k : Nat), vs = [.ref a, .int (k : Int)] ∧ SqL K H a (ns.map V.int) ∧ Q (.int (cellA ns k)) H
theorem ok_u_law_cell (T : Txt K mg A) : FnOk P w K mg base CX0 1 A.f_u_law_cell A.d_u_law_cell (["script", "k"] : List Str) (sp_cell K) := by
  refine T.F_u_law_cell.ok sc_u_law_cell (fun vs H Q E h => ?_) (fun cdv Ar outer s H vs Q E hr h => ?_)
  · obtain ⟨a, ns, k, rfl, _⟩ := h
    rfl
  · obtain ⟨a, ns, k, rfl, hS, q⟩ := h
    refine ⟨_, (pss_cons (ps_if (pt_cmpR op_lt (pv 1) (pe_callB len_K (by rfl) T.z_len (by decide +kernel) (pa_cons (pv 0) pa_nil)) (nomark _)) (pss_one (ps_ret (pe_callB call_abs (by rfl) T.z_abs (by decide +kernel) (pa_cons (pe_ix ix_lK (pv 0) (pv 1) (fun _ _ => rfl)) pa_nil)))) pss_nil)
        (pss_one (ps_ret pe_int))), ?_⟩
    refine ⟨_, rfl, _, rfl, .ref a, _, rfl, .inl ⟨_, hS, rfl⟩, _, _, rfl, rfl, _, rfl, ?_⟩
    unfold cellA at q
    rw [List.length_map]
    by_cases hk : k < ns.length
    · refine wayT (show (k : Int) < (ns.length : Int) by omega) ?_
      rw [if_pos hk] at q
      refine ⟨_, rfl, _, rfl, a, _, _, .int (ns.getD k 0), rfl, rfl, hS, atI_nat ?_, _, rfl, q⟩
      rw [List.getElem?_map, List.getD_eq_getElem?_getD, List.getElem?_eq_getElem hk]
      rfl
    · refine wayF (show ¬ (k : Int) < (ns.length : Int) by omega) ?_
      rw [if_neg hk] at q
      exact q

def sp_draws (K : PySem.W.Frag) : Sp := fun vs H Q _ => ∃ (c s : Int) (m : Addr) (ms : List Int), vs = [.int c, .int s, .ref m] ∧ SqL K H m (ms.map V.int) ∧ 0 ≤ c ∧ (-1000000 ≤ s ∧ s ≤ 1000000) ∧ ms.length ≤ 64 ∧
  (∀ x ∈ ms, 1 ≤ x ∧ x.natAbs < 2 ^ 1000) ∧ ∀ p H' ds, H p = none → Ex H H' → H' p = some (.lst (ds.map V.int)) → Drawn ms ds → Q (.ref p) H'
theorem drawn_more {ms ds : List Int} {i : Nat} {m d : Int} (h : Drawn (ms.take i) ds) (hm : ms[i]? = some m) (h0 : 0 ≤ d) (h1 : d < m) : Drawn (ms.take (i + 1)) (ds ++ [d]) := by
  have hi : i < ms.length := (List.getElem?_eq_some_iff.mp hm).1
  obtain ⟨hl, hd⟩ := h
  have hl' : ds.length = i := by rw [hl, List.length_take]; omega
  refine ⟨by rw [List.length_append, hl', List.length_take]; simp; omega, fun j x hj => ?_⟩
  by_cases hji : j < i
  · have hx : (ms.take i)[j]? = some x := by
      rw [List.getElem?_take_of_lt hji]
      rw [List.getElem?_take_of_lt (by omega)] at hj
      exact hj
    obtain ⟨d', e, z⟩ := hd j x hx
    exact ⟨d', by rw [List.getElem?_append_left (by omega)]; exact e, z⟩
  · have hlt : j < i + 1 := by
      have := (List.getElem?_eq_some_iff.mp hj).1
      rw [List.length_take] at this
      omega
    have ej : j = i := by omega
    subst ej
    rw [List.getElem?_take_of_lt hlt, hm] at hj
    cases hj
    exact ⟨d, by rw [List.getElem?_append_right (by omega), hl', Nat.sub_self]; rfl, h0, h1⟩
theorem ok_u_law_draws (T : Txt K mg A) : FnOk P w K mg base CX0 1 A.f_u_law_draws A.d_u_law_draws (["cell", "salt", "menu"] : List Str) (sp_draws K) := by
  refine T.F_u_law_draws.ok sc_u_law_draws (fun vs H Q E h => ?_) (fun cdv Ar outer s H vs Q E hr h => ?_)
  · obtain ⟨c, s, m, ms, rfl, _⟩ := h
    rfl
  · obtain ⟨c, sa, m, ms, rfl, hS, hc, hs, hl, hm, k⟩ := h
    refine ⟨_, (pss_cons (ps_set (i := 3) sc_u_law_draws.nd rfl (Or.inl rfl) (pe_lst pa_nil))
        (pss_cons (ps_set (i := 4) sc_u_law_draws.nd rfl (Or.inl rfl) (pe_op op_sub (pv 0) (pe_op op_pow pe_int pe_int)))
        (pss_cons (ps_set (i := 5) sc_u_law_draws.nd rfl (Or.inl rfl) (pe_op op_add (pv 0) (pe_op op_mul pe_int (pv 1))))
        (pss_cons (ps_for PassesOwn.never rfl (pi_range1 rfl T.z_range (pa_cons (pe_callB len_K (by rfl) T.z_len (by decide +kernel) (pa_cons (pv 2) pa_nil)) pa_nil)) (pg_name (i := 6) sc_u_law_draws.nd rfl (Or.inl rfl)) (pss_one (ps_if (pt_cmpR op_ge (pv 4) pe_int (nomark _)) (pss_cons (ps_expr (pe_bm PySem.F.plainAttrs_list PySem.F.slot_list_append PySem.F.type_list_append mt_append (pv 3) (pa_cons (pe_op op_mod (pe_callTy call_int1 (by rfl) T.z_int (by decide +kernel) (pa_cons (pv 4) pa_nil)) (pe_ix ix_lK (pv 2) (pv 6) (fun _ _ => rfl))) pa_nil)))
        (pss_one (ps_set (i := 4) sc_u_law_draws.nd rfl (Or.inl rfl) (pe_op op_fdivW (pv 4) (pe_ix ix_lK (pv 2) (pv 6) (fun _ _ => rfl)))))) (pss_cons (ps_set (i := 5) sc_u_law_draws.nd rfl (Or.inl rfl) (pe_op op_mod (pe_callTy call_int1 (by rfl) T.z_int (by decide +kernel) (pa_cons (pe_op op_add (pe_op op_add (pe_op op_mul (pv 5) (pv 5)) (pe_op op_mul pe_int (pe_op op_add (pv 6) pe_int))) pe_int) pa_nil)) pe_int))
        (pss_cons (ps_set (i := 5) sc_u_law_draws.nd rfl (Or.inl rfl) (pe_op op_mod (pe_callTy call_int1 (by rfl) T.z_int (by decide +kernel) (pa_cons (pe_op op_add (pe_op op_mul (pv 5) (pv 5)) (pe_op op_fdiv (pv 5) pe_int)) pa_nil)) pe_int))
        (pss_one (ps_expr (pe_bm PySem.F.plainAttrs_list PySem.F.slot_list_append PySem.F.type_list_append mt_append (pv 3) (pa_cons (pe_op op_mod (pe_callTy call_int1 (by rfl) T.z_int (by decide +kernel) (pa_cons (pe_op op_fdiv (pv 5) pe_int) pa_nil)) (pe_ix ix_lK (pv 2) (pv 6) (fun _ _ => rfl))) pa_nil)))))))))
        (pss_one (ps_ret (pv 3))))))), ?_⟩
    refine ⟨Nat.zero_le _, fun p hp => ?_⟩
    refine ⟨_, rfl, _, _, rfl, rfl, ⟨by decide, by decide, by decide⟩, _, _, rfl, rfl, ?_⟩
    refine ⟨_, rfl, _, rfl, _, _, rfl, rfl, .inl ⟨by decide, by decide⟩, _, _, rfl, rfl, ?_⟩
    have e10 : ((10 : Int) ^ (18 : Int).toNat) = 1000000000000000000 := by decide
    have hS1 : SqL K (upd H p (.lst [])) m (ms.map V.int) := ex_l (Ex.new hp) hS
    refine ⟨_, rfl, .ref m, _, rfl, .inl ⟨_, hS1, rfl⟩, _, rfl, by omega, by rw [List.length_map]; omega, ?_⟩
    refine for_range (lo := 0) (n := ((ms.map V.int).length : Int).toNat) (fun i σ H' => ∃ (ds : List Int) (rest mixed : Int) (kv : Option V), σ = [some (.int c), some (.int sa), some (.ref m), some (.ref p), some (.int rest), some (.int mixed), kv] ∧ Ex H H' ∧
        H' p = some (.lst (ds.map V.int)) ∧ Drawn (ms.take i) ds ∧ (0 ≤ rest ∨ (-18446744073709551616 < mixed ∧ mixed < 18446744073709551616))) ?_ ?_ ?_
    · refine ⟨[], _, _, none, rfl, Ex.new hp, upd_same, ⟨by simp, fun i x h => by simp at h⟩, ?_⟩
      rw [e10]
      omega
    · rintro i σ H' hi ⟨ds, rest, mixed, kv, rfl, ex, hH, hD, hr0⟩
      have hi' : i < ms.length := by simpa using hi
      obtain ⟨mi, hmi⟩ : ∃ mi, ms[i]? = some mi := ⟨ms[i], List.getElem?_eq_getElem hi'⟩
      have hmm := hm mi (List.mem_of_getElem? hmi)
      have hSi : SqL K H' m (ms.map V.int) := ex_l ex hS
      have hat : atI (ms.map V.int) (0 + (i : Int)) = some (.int mi) := by
        rw [Int.zero_add]
        refine atI_nat ?_
        rw [List.getElem?_map, hmi]
        rfl
      have hdl : ds.length ≤ 64 := by
        have := hD.1
        rw [List.length_take] at this
        omega
      have hsz : (ds.map V.int).length < sizeLine := by
        rw [List.length_map]
        exact Nat.lt_of_le_of_lt hdl (by decide)
      have e0 : (0 : Int) + (i : Int) = (i : Int) := Int.zero_add _
      refine ⟨_, rfl, _, _, rfl, rfl, _, rfl, way (fun hr => ?_) (fun hr => ?_)⟩
      · refine ⟨_, rfl, .inl ⟨rfl, _, SqL.of hH⟩, _, rfl, .inl ⟨rest, rfl, _, rfl, _, rfl, m, _, _, .int mi, rfl, rfl, hSi, hat, _, _, rfl, rfl, (by show (0 : Int) < mi; omega), p, _, _, rfl, rfl, hH, hsz, ?_⟩⟩
        have ex2 : Ex H (upd H' p (.lst (ds.map V.int ++ [.int (rest % mi)]))) := Ex.mut ex hp
        refine ⟨_, rfl, _, rfl, _, rfl, m, _, _, .int mi, rfl, rfl, ex_l ex2 hS, hat, _, _, rfl, rfl, wide_div (by omega) hmm.2 (by decide) (by decide), ?_⟩
        refine ⟨ds ++ [rest % mi], rest / mi, mixed, _, rfl, ex2, ?_, drawn_more hD hmi (Int.emod_nonneg _ (by omega)) (Int.emod_lt_of_pos _ (by omega)), .inl (Int.ediv_nonneg hr (by omega))⟩
        rw [upd_same, List.map_append]
        rfl
      · have hx : -18446744073709551616 < mixed ∧ mixed < 18446744073709551616 := by omega
        refine ⟨_, rfl, _, rfl, _, _, rfl, rfl, .inl ⟨hx.1, hx.2⟩, _, rfl, _, _, rfl, rfl, _, _, rfl, rfl, .inl ⟨by decide, by decide⟩, _, _, rfl, rfl, _, _, rfl, rfl, .inl ⟨_, rfl, _, _, rfl, rfl, (by show (0 : Int) < 2147483399; decide), ?_⟩⟩
        have b1 : ∀ z : Int, 0 ≤ z % 2147483399 ∧ z % 2147483399 < 2147483399 := fun z => ⟨Int.emod_nonneg _ (by decide), Int.emod_lt_of_pos _ (by decide)⟩
        have b2 : ∀ z : Int, 0 ≤ z % 2147483629 ∧ z % 2147483629 < 2147483629 := fun z => ⟨Int.emod_nonneg _ (by decide), Int.emod_lt_of_pos _ (by decide)⟩
        refine ⟨_, rfl, _, rfl, _, _, rfl, rfl, .inl ⟨Int.lt_of_lt_of_le (by decide) (b1 _).1, Int.lt_trans (b1 _).2 (by decide)⟩, _, rfl, _, _, rfl, rfl, ⟨by decide, by decide⟩, _, _, rfl, rfl, .inl ⟨_, rfl, _, _, rfl, rfl, (by show (0 : Int) < 2147483629; decide), ?_⟩⟩
        refine ⟨_, rfl, .inl ⟨rfl, _, SqL.of hH⟩, _, rfl, _, _, rfl, rfl, ⟨by decide, by decide⟩, .inl ⟨_, rfl, _, rfl, _, rfl, m, _, _, .int mi, rfl, rfl, hSi, hat, _, _, rfl, rfl, (by show (0 : Int) < mi; omega), p, _, _, rfl, rfl, hH, hsz, ?_⟩⟩
        refine ⟨ds ++ [((((mixed * mixed + 3571 * (0 + (i : Int) + 1) + 40692) % 2147483399) * ((mixed * mixed + 3571 * (0 + (i : Int) + 1) + 40692) % 2147483399) + ((mixed * mixed + 3571 * (0 + (i : Int) + 1) + 40692) % 2147483399) / 97) % 2147483629) / 8 % mi], rest, _, _, rfl, Ex.mut ex hp, ?_, drawn_more hD hmi (Int.emod_nonneg _ (by omega)) (Int.emod_lt_of_pos _ (by omega)), .inr ⟨Int.lt_of_lt_of_le (by decide) (b2 _).1, Int.lt_trans (b2 _).2 (by decide)⟩⟩
        rw [upd_same, List.map_append]
        rfl
    · rintro σ H' ⟨ds, rest, mixed, kv, rfl, ex, hH, hD, _⟩
      refine ⟨_, rfl, k p H' ds hp ex hH ?_⟩
      have e : ((ms.map V.int).length : Int).toNat = ms.length := by simp
      rw [e, List.take_length] at hD
      exact hD

theorem isi {K : PySem.W.Frag} {H : Hp} {x : V} {t n : String} {b : Bool} {Q : VK} (ty : TyX K H x (.type t)) (h : kitB t n = some b) (q : Q (.bl b) H) : rIsi K [x, .ty n] H Q := ⟨x, .ty n, _, _, b, rfl, .ty n, ty, kit_ty h, q⟩
def sp_is_int (K : PySem.W.Frag) : Sp := fun vs H Q _ => ∃ i : Int, vs = [.int i] ∧ Q (.bl true) H
theorem ok_u_law_is_int (T : Txt K mg A) : FnOk P w K mg base CX0 1 A.f_u_law_is_int A.d_u_law_is_int (["x"] : List Str) (sp_is_int K) := by
  refine T.F_u_law_is_int.ok sc_u_law_is_int (fun vs H Q E h => ?_) (fun cdv Ar outer s H vs Q E hr h => ?_)
  · obtain ⟨i, rfl, _⟩ := h
    rfl
  · obtain ⟨i, rfl, q⟩ := h
    refine ⟨_, (pss_one (ps_ret (pe_and (pe_callB isi_K (by rfl) T.z_isinstance (by decide +kernel) (pa_cons (pv 0) (pa_cons (pe_bltn (v := .ty "int") (by rfl) T.z_int (by decide +kernel) rfl) pa_nil))) (pe_one (pe_not (pe_callB isi_K (by rfl) T.z_isinstance (by decide +kernel) (pa_cons (pv 0) (pa_cons (pe_bltn (v := .ty "bool") (by rfl) T.z_bool (by decide +kernel) rfl) pa_nil)))))))), ?_⟩
    refine ⟨_, rfl, _, _, _, _, true, rfl, .ty _, .base (.int i), kit_ty (by decide +kernel), ⟨_, rfl, iteT ?_⟩⟩
    exact ⟨_, rfl, _, _, _, _, false, rfl, .ty _, .base (.int i), kit_ty (by decide +kernel), ⟨_, rfl, q⟩⟩
/-- like data are told alike -/
def sp_same (K : PySem.W.Frag) (n : Nat) : Sp := fun vs H Q _ => ∃ (x y : V) (d : PyData), vs = [x, y] ∧ Dp K H x d ∧ Dp K H y d ∧ Flat n d ∧ Q (.bl true) H
theorem same_loop {K : PySem.W.Frag} {H : Hp} {n k : Nat} {xs ys : List V} {ds : List PyData} {x y : V} {kv : Option V} {Q : VK} {N : L2.St → Hp → Prop} {tb : TS} (hk : k = ds.length) (hx : DpAll K H xs ds) (hy : DpAll K H ys ds) (hf : ∀ d ∈ ds, Flat n d) (hl : ds.length ≤ 40000)
    (hb : ∀ (i : Nat) (u v : V) (d : PyData) (kv : Option V) (D : Ends), i < ds.length → xs[i]? = some u → ys[i]? = some v → Dp K H u d → Dp K H v d → Flat n d → D.nx [some x, some y, some (.int (i : Int))] H → tb D ([some x, some y, kv].set 2 (some (.int (i : Int)))) H)
    (hq : ∀ kv, N [some x, some y, kv] H) :
    ∃ W : Nat → Nat → L2.St → Hp → Prop, (∃ m, W 0 m [some x, some y, kv] H) ∧ ∀ i m σ H, W i m σ H →
      ((Itr 0 k).stop i H ∧ N σ H) ∨ ((Itr 0 k).go i H ∧ ∃ N' : L2.St → Hp → Prop, (∀ σ' H', N' σ' H' → ∃ m', m' < m ∧ W (i + 1) m' σ' H') ∧ ∀ z H', (Itr 0 k).yld i H z H' → gName 2 z σ H' fun σ2 H2 => tb { nx := N', ct := N', bk := N, rt := Q } σ2 H2) := by
  subst hk
  refine for_range (D := { nx := N, rt := Q }) (fun i σ H' => H' = H ∧ ∃ kv, σ = [some x, some y, kv]) ⟨rfl, _, rfl⟩ ?_ ?_
  · rintro i σ H' hi ⟨rfl, kv, rfl⟩
    obtain ⟨_, gx⟩ := dp_get hx
    obtain ⟨_, gy⟩ := dp_get hy
    have ed := List.getElem?_eq_getElem hi
    obtain ⟨u, eu, du⟩ := gx i _ ed
    obtain ⟨v, ev, dv⟩ := gy i _ ed
    show tb _ ([some x, some y, kv].set 2 (some (.int (0 + (i : Int))))) H'
    rw [Int.zero_add]
    exact hb i u v _ kv _ hi eu ev du dv (hf _ (List.getElem_mem hi)) ⟨rfl, _, rfl⟩
  · rintro σ H' ⟨rfl, kv, rfl⟩
    exact hq kv
theorem ok_u_law_same_n (T : Txt K mg A) : ∀ n, FnOk P w K mg base CX0 (n + 2) A.f_u_law_same A.d_u_law_same (["got", "due"] : List Str) (sp_same K n) := by
  intro n
  induction n with
  | zero => exact ⟨fun vs H Q E h => by obtain ⟨x, y, d, rfl, _⟩ := h; rfl, fun Ar outer s H args us vs Q E _ _ _ _ h => by obtain ⟨x, y, d, _, _, _, hf, _⟩ := h; exact hf.elim⟩
  | succ n ih =>
    refine T.F_u_law_same.ok sc_u_law_same (fun vs H Q E h => ?_) (fun cdv Ar outer s H vs Q E hr h => ?_)
    · obtain ⟨x, y, d, rfl, _⟩ := h
      rfl
    · obtain ⟨x, y, d, rfl, hx, hy, hf, q⟩ := h
      have ihx := ih
      refine ⟨_, (pss_cons (ps_if (pt_cmpR op_isN (pv 1) pe_non (nomark _)) (pss_one (ps_ret (pe_cmpR op_isN (pv 0) pe_non (nomark _)))) pss_nil)
        (pss_cons (ps_if (pt_cmpR op_isK (pv 1) pe_bl (nomark _)) (pss_one (ps_ret (pe_cmpR op_isK (pv 0) pe_bl (nomark _)))) pss_nil)
        (pss_cons (ps_if (pt_cmpR op_isK (pv 1) pe_bl (nomark _)) (pss_one (ps_ret (pe_cmpR op_isK (pv 0) pe_bl (nomark _)))) pss_nil)
        (pss_cons (ps_if (pt_val (pe_callB isi_K (by rfl) T.z_isinstance (by decide +kernel) (pa_cons (pv 1) (pa_cons (pe_bltn (v := .ty "int") (by rfl) T.z_int (by decide +kernel) rfl) pa_nil)))) (pss_one (ps_ret (pe_and (pe_call (ok_u_law_is_int T) (hr.mono (by omega)) rfl T.g_u_law_is_int T.k_u_law_is_int (b_u_law_is_int T) .nil pass0 (pa_cons (pv 0) pa_nil)) (pe_one (pe_cmpR op_eq (pv 0) (pv 1) (nomark _)))))) pss_nil)
        (pss_cons (ps_if (pt_val (pe_callB isi_K (by rfl) T.z_isinstance (by decide +kernel) (pa_cons (pv 1) (pa_cons (pe_bltn (v := .ty "str") (by rfl) T.z_str (by decide +kernel) rfl) pa_nil)))) (pss_one (ps_ret (pe_and (pe_callB isi_K (by rfl) T.z_isinstance (by decide +kernel) (pa_cons (pv 0) (pa_cons (pe_bltn (v := .ty "str") (by rfl) T.z_str (by decide +kernel) rfl) pa_nil))) (pe_one (pe_cmpR op_eq (pv 0) (pv 1) (nomark _)))))) pss_nil)
        (pss_cons (ps_if (pt_val (pe_callB isi_K (by rfl) T.z_isinstance (by decide +kernel) (pa_cons (pv 1) (pa_cons (pe_bltn (v := .ty "tuple") (by rfl) T.z_tuple (by decide +kernel) rfl) pa_nil)))) (pss_one (ps_if (PW.pt (pw_or (pt_not (pt_val (pe_callB isi_K (by rfl) T.z_isinstance (by decide +kernel) (pa_cons (pv 0) (pa_cons (pe_bltn (v := .ty "tuple") (by rfl) T.z_tuple (by decide +kernel) rfl) pa_nil))))) (pw_or1 (pt_cmpR op_ne (pe_callB len_K (by rfl) T.z_len (by decide +kernel) (pa_cons (pv 0) pa_nil)) (pe_callB len_K (by rfl) T.z_len (by decide +kernel) (pa_cons (pv 1) pa_nil)) (nomark _))))) (pss_one (ps_ret pe_bl)) pss_nil)) (pss_one (ps_if (PW.pt (pw_or (pt_not (pt_val (pe_callB isi_K (by rfl) T.z_isinstance (by decide +kernel) (pa_cons (pv 0) (pa_cons (pe_bltn (v := .ty "list") (by rfl) T.z_list (by decide +kernel) rfl) pa_nil))))) (pw_or1 (pt_cmpR op_ne (pe_callB len_K (by rfl) T.z_len (by decide +kernel) (pa_cons (pv 0) pa_nil)) (pe_callB len_K (by rfl) T.z_len (by decide +kernel) (pa_cons (pv 1) pa_nil)) (nomark _))))) (pss_one (ps_ret pe_bl)) pss_nil)))
        (pss_cons (ps_for PassesOwn.never rfl (pi_range1 rfl T.z_range (pa_cons (pe_callB len_K (by rfl) T.z_len (by decide +kernel) (pa_cons (pv 1) pa_nil)) pa_nil)) (pg_name (i := 2) sc_u_law_same.nd rfl (Or.inl rfl)) (pss_one (ps_if (pt_not (pt_val (pe_call ih (hr.mono (by omega)) rfl T.g_u_law_same T.k_u_law_same (b_u_law_same T) .nil pass0 (pa_cons (pe_ix ix_sK (pv 0) (pv 2) (fun _ _ => rfl)) (pa_cons (pe_ix ix_sK (pv 1) (pv 2) (fun _ _ => rfl)) pa_nil))))) (pss_one (ps_ret pe_bl)) pss_nil)))
        (pss_one (ps_ret pe_bl))))))))), ?_⟩
      cases hx with
      | non => cases hy; exact ⟨_, rfl, rfl, _, rfl, wayT rfl ⟨_, rfl, rfl, q⟩⟩
      | bl b =>
        cases hy
        refine ⟨_, rfl, rfl, _, rfl, wayF (fun z => by cases z) ?_⟩
        cases b with
        | true => exact ⟨_, rfl, _, rfl, _, rfl, wayT rfl ⟨_, rfl, _, rfl, q⟩⟩
        | false => exact ⟨_, rfl, _, rfl, _, rfl, wayF (fun z => by cases z) ⟨_, rfl, _, rfl, _, rfl, wayT rfl ⟨_, rfl, _, rfl, q⟩⟩⟩
      | int i =>
        cases hy
        refine ⟨_, rfl, rfl, _, rfl, wayF (fun z => by cases z) ⟨_, rfl, _, rfl, _, rfl, wayF (fun z => by cases z) ⟨_, rfl, _, rfl, _, rfl, wayF (fun z => by cases z) ?_⟩⟩⟩
        refine ⟨_, rfl, _, _, _, _, true, rfl, .ty _, .base (.int i), kit_ty (by decide +kernel), ⟨_, rfl, iteT ?_⟩⟩
        refine ⟨_, rfl, i, rfl, _, rfl, iteT ?_⟩
        refine ⟨_, rfl, _, rfl, rfl, ?_⟩
        rw [decide_eq_true rfl]
        exact q
      | str z =>
        cases hy
        refine ⟨_, rfl, rfl, _, rfl, wayF (fun z => by cases z) ⟨_, rfl, _, rfl, _, rfl, wayF (fun z => by cases z) ⟨_, rfl, _, rfl, _, rfl, wayF (fun z => by cases z) ?_⟩⟩⟩
        refine ⟨_, rfl, _, _, _, _, false, rfl, .ty _, .base (.str z), kit_ty (by decide +kernel), ⟨_, rfl, iteF ?_⟩⟩
        refine ⟨_, rfl, _, _, _, _, true, rfl, .ty _, .base (.str z), kit_ty (by decide +kernel), ⟨_, rfl, iteT ?_⟩⟩
        refine ⟨_, rfl, _, _, _, _, true, rfl, .ty _, .base (.str z), kit_ty (by decide +kernel), ⟨_, rfl, iteT ?_⟩⟩
        refine ⟨_, rfl, _, rfl, rfl, ?_⟩
        rw [decide_eq_true rfl]
        exact q
      | lst sx ax =>
        cases hy with
        | lst sy ay =>
          refine ⟨_, rfl, rfl, _, rfl, wayF (fun z => by cases z) ⟨_, rfl, _, rfl, _, rfl, wayF (fun z => by cases z) ⟨_, rfl, _, rfl, _, rfl, wayF (fun z => by cases z) ?_⟩⟩⟩
          refine ⟨_, rfl, _, _, _, _, false, rfl, .ty _, tyx_l sy, kit_ty (by decide +kernel), ⟨_, rfl, iteF ?_⟩⟩
          refine ⟨_, rfl, _, _, _, _, false, rfl, .ty _, tyx_l sy, kit_ty (by decide +kernel), ⟨_, rfl, iteF ?_⟩⟩
          refine ⟨_, rfl, _, _, _, _, false, rfl, .ty _, tyx_l sy, kit_ty (by decide +kernel), ⟨_, rfl, iteF ?_⟩⟩
          refine ⟨_, rfl, _, _, _, _, true, rfl, .ty _, tyx_l sx, kit_ty (by decide +kernel), ⟨_, rfl, iteF ?_⟩⟩
          have lx := (dp_get ax).1
          have ly := (dp_get ay).1
          refine ⟨_, rfl, _, _, rfl, .inl ⟨_, sx, rfl⟩, _, rfl, _, _, rfl, .inl ⟨_, sy, rfl⟩, rfl, _, rfl, wayNT (by rw [lx, ly]) ?_⟩
          have h40 := hf.1
          refine ⟨_, rfl, _, _, rfl, .inl ⟨_, sy, rfl⟩, _, rfl, by omega, by omega, same_loop (by omega) ax ay hf.2 hf.1 (fun i u v d kv D hi eu ev du dv fd hn => ?_) (fun kv => q)⟩
          refine ⟨_, rfl, _, rfl, .inl ⟨_, _, _, u, rfl, rfl, sx, atI_nat eu, ?_⟩⟩
          refine ⟨_, rfl, _, rfl, .inl ⟨_, _, _, v, rfl, rfl, sy, atI_nat ev, ?_⟩⟩
          exact ⟨u, v, d, rfl, du, dv, fd, _, rfl, iteF hn⟩
      | tup sx ax =>
        cases hy with
        | tup sy ay =>
          refine ⟨_, rfl, rfl, _, rfl, wayF (fun z => by cases z) ⟨_, rfl, _, rfl, _, rfl, wayF (fun z => by cases z) ⟨_, rfl, _, rfl, _, rfl, wayF (fun z => by cases z) ?_⟩⟩⟩
          refine ⟨_, rfl, _, _, _, _, false, rfl, .ty _, tyx_t sy, kit_ty (by decide +kernel), ⟨_, rfl, iteF ?_⟩⟩
          refine ⟨_, rfl, _, _, _, _, false, rfl, .ty _, tyx_t sy, kit_ty (by decide +kernel), ⟨_, rfl, iteF ?_⟩⟩
          refine ⟨_, rfl, _, _, _, _, true, rfl, .ty _, tyx_t sy, kit_ty (by decide +kernel), ⟨_, rfl, iteT ?_⟩⟩
          refine ⟨_, rfl, _, _, _, _, true, rfl, .ty _, tyx_t sx, kit_ty (by decide +kernel), ⟨_, rfl, iteF ?_⟩⟩
          have lx := (dp_get ax).1
          have ly := (dp_get ay).1
          refine ⟨_, rfl, _, _, rfl, .inr ⟨_, sx, rfl⟩, _, rfl, _, _, rfl, .inr ⟨_, sy, rfl⟩, rfl, _, rfl, wayNT (by rw [lx, ly]) ?_⟩
          have h40 := hf.1
          refine ⟨_, rfl, _, _, rfl, .inr ⟨_, sy, rfl⟩, _, rfl, by omega, by omega, same_loop (by omega) ax ay hf.2 hf.1 (fun i u v d kv D hi eu ev du dv fd hn => ?_) (fun kv => q)⟩
          refine ⟨_, rfl, _, rfl, .inr (.inl ⟨_, _, _, u, rfl, rfl, sx, atI_nat eu, ?_⟩)⟩
          refine ⟨_, rfl, _, rfl, .inr (.inl ⟨_, _, _, v, rfl, rfl, sy, atI_nat ev, ?_⟩)⟩
          exact ⟨u, v, d, rfl, du, dv, fd, _, rfl, iteF hn⟩
theorem ok_u_law_same (T : Txt K mg A) : FnOk P w K mg base CX0 6 A.f_u_law_same A.d_u_law_same (["got", "due"] : List Str) (sp_same K 4) := ok_u_law_same_n T 4

def spMeet (A : Ads) : Sp := fun vs H Q E => ∃ (v w : V) (n m : Int) (xs ys : List Int), vs = [v, w] ∧ LotAt A.C_Lot H v n xs ∧ LotAt A.C_Lot H w m ys ∧ (1 ≤ n ∧ n ≤ 360) ∧ xs.length ≤ 360 ∧ ys.length ≤ 360 ∧
  (n ≠ m → E (.ref A.C_OtherHours) none H) ∧ (n = m → ∀ p H', H p = none → Ex H H' → H' p = some (.lst ((cntP n (prod xs ys)).map V.int)) → Q (.ref p) H')
theorem ok_meetings (T : Txt K mg A) : FnOk P w K mg base (L2.CX P w) 4 A.f_meetings A.d_meetings (["one", "other"] : List Str) (spMeet A) := by
  refine T.F_meetings.okX sc_meetings (fun vs H Q E h => ?_) (fun cdv Ar outer s H vs Q E hr h => ?_)
  · obtain ⟨v, w, n, m, xs, ys, rfl, _⟩ := h
    rfl
  · obtain ⟨v, w, n, m, xs, ys, rfl, ⟨a, dx, l, rfl, hi, hL⟩, ⟨b, dy, k, rfl, hj, hK⟩, hn, hx, hy, k1, k2⟩ := h
    refine ⟨_, (pss_cons (ps_if (pt_cmpR op_ne (pe_fld (pv 0) rfl) (pe_fld (pv 1) rfl) (nomark _)) (pss_one (ps_raise rfl (takes_of rfl rfl rfl rfl) (pmk_none PySem.F.excBase_ValueError T.xP_OtherHours T.g_OtherHours T.kP_OtherHours (raises_own T.bP_OtherHours T.tP_OtherHours) rfl))) pss_nil)
        (pss_cons (ps_set (i := 2) sc_meetings.nd rfl (Or.inl rfl) (pe_op op_rep (pe_lst (pa_cons pe_int pa_nil)) (pe_fld (pv 0) rfl)))
        (pss_cons (ps_for (passes_of rfl) rfl (pi_own rfl (pv 0) T.M_Lot_iter (ok_Lot_iter T) (hr.mono (by omega)) (b_Lot_iter T)) (pg_name (i := 3) sc_meetings.nd rfl (Or.inl rfl)) (pss_one (ps_for (passes_of rfl) rfl (pi_own rfl (pv 1) T.M_Lot_iter (ok_Lot_iter T) (hr.mono (by omega)) (b_Lot_iter T)) (pg_name (i := 4) sc_meetings.nd rfl (Or.inl rfl)) (pss_cons (ps_set (i := 5) sc_meetings.nd rfl (Or.inl rfl) (pe_op op_mod (pe_op op_sub (pv 3) (pv 4)) (pe_fld (pv 0) rfl)))
        (pss_one (ps_asg (pe_op op_add (pe_ix ix_lK (pv 2) (pv 5) (fun _ _ => rfl)) pe_int) (pg_sub (pv 2) (pv 5) set_list)))))))
        (pss_one (ps_ret (pv 2)))))), ?_⟩
    refine ⟨_, rfl, a, _, dx, _, _, rfl, hi, T.cl_Lot, T.na_Lot_hours, rfl, _, rfl, b, _, dy, _, _, rfl, hj, T.cl_Lot, T.na_Lot_hours, rfl, rfl, _, rfl, ?_⟩
    by_cases hnm : n = m
    case neg =>
      refine wayNF (fun z => hnm (V.int.inj z)) ?_
      exact k1 hnm
    subst hnm
    refine wayNT rfl ?_
    refine ⟨by show 1 ≤ sizeLine; decide, fun q hq => ⟨_, rfl, a, _, dx, _, _, rfl, Ex.new hq _ _ hi, T.cl_Lot, T.na_Lot_hours, rfl, q, n, _, rfl, rfl, upd_same, by omega, by omega, ?_, fun tk htk => ?_⟩⟩
    · show 1 * n.toNat ≤ sizeLine
      exact Nat.le_trans (show 1 * n.toNat ≤ 360 by omega) (by decide)
    have htk0 : H tk = none := fresh_back (Ex.new hq) htk
    have ex0 : ∀ o, Ex H (upd (upd H q (.lst [.int 0])) tk o) := fun o => (Ex.new hq).trans (Ex.new htk)
    rw [cntP_nil]
    try dsimp only
    refine q_forLn (K := K) (a := l) (xs := xs.map V.int) (j := 3) (ev_own (ev_var (i := 0) rfl) (ex0 _ _ _ hi) rfl) (sq_of (ex0 _ _ _ hL))
      (fun i σ' H' => ∃ xv yv bv : Option V, σ' = [some (.ref a), some (.ref b), some (.ref tk), xv, yv, bv] ∧ Ex H H' ∧ H' tk = some (.lst ((cntP n (prod (xs.take i) ys)).map V.int)))
      (fun H2 e2 => ⟨none, none, none, rfl, (ex0 _).trans e2, e2 _ _ upd_same⟩) (fun i σ' H' _ ⟨_, _, _, _, e, _⟩ => sq_of (e _ _ hL)) ?_ ?_
    · rintro i x' σ' H' hix ⟨xv, yv, bv, rfl, ex, ht⟩
      obtain ⟨x, rfl, hxi⟩ := some_int hix
      try dsimp only
      refine s_forLn (K := K) (a := k) (xs := ys.map V.int) (j := 4) (ev_own (ev_var (i := 1) rfl) (ex _ _ hj) rfl) (sq_of (ex _ _ hK))
        (fun j σ' H' => ∃ yv bv : Option V, σ' = [some (.ref a), some (.ref b), some (.ref tk), some (.int x), yv, bv] ∧ Ex H H' ∧ H' tk = some (.lst ((cntP n (prod (xs.take i) ys ++ (ys.take j).map fun y => (x, y))).map V.int)))
        (fun H2 e2 => ⟨yv, bv, rfl, ex.trans e2, by rw [e2 _ _ ht]; simp⟩) (fun i σ' H' _ ⟨_, _, _, e, _⟩ => sq_of (e _ _ hK)) ?_ ?_
      · rintro j y' σ' H' hjy ⟨yv, bv, rfl, ex, ht⟩
        obtain ⟨y, rfl, hyj⟩ := some_int hjy
        have m0 : 0 ≤ (x - y) % n := Int.emod_nonneg _ (by omega)
        have m1 : (x - y) % n < n := Int.emod_lt_of_pos _ (by omega)
        obtain ⟨d, hd⟩ : ∃ d : Nat, (x - y) % n = (d : Int) := ⟨((x - y) % n).toNat, by omega⟩
        have hdn : d < n.toNat := by omega
        refine ⟨_, rfl, _, rfl, _, _, rfl, rfl, _, rfl, a, _, dx, _, _, rfl, ex _ _ hi, T.cl_Lot, T.na_Lot_hours, rfl, _, _, rfl, rfl, (show (0 : Int) < n by omega), ?_⟩
        try dsimp only
        refine s_setL (j := d) (v := .int (((((prod (xs.take i) ys ++ (ys.take j).map fun y => (x, y))).filter fun p => decide ((p.1 - p.2) % n = (d : Int))).length : Int) + 1)) ht (ev_op (ev_op (ev_var (i := 2) rfl) (ev_var (i := 5) rfl) (rv_ixL (sq_of ht) (by rw [hd]; exact atI_nat (by rw [List.getElem?_map, cntP_get hdn]; rfl)))) ev_c rv_I0) (ev_var (i := 2) rfl) (by rw [← hd]; exact ev_var (i := 5) rfl) (by rw [List.length_map, cntP_len]; exact hdn) fun H3 e3 => ?_
        refine ⟨_, _, rfl, Ex.mut (ex.trans e3) htk0, ?_⟩
        rw [upd_same, List.take_succ, hyj, List.map_append, ← List.append_assoc]
        show some (HO.lst _) = some (HO.lst ((cntP n (_ ++ [(x, y)])).map V.int))
        rw [← cntP_set hdn hd, List.map_set]
      · rintro σ' H' ⟨yv, bv, rfl, ex, ht⟩
        refine ⟨_, _, _, rfl, ex, ?_⟩
        rw [ht, prod_take hxi, List.length_map, List.take_length]
    rintro σ' H' ⟨xv, yv, bv, rfl, ex, ht⟩
    rw [List.length_map, List.take_length] at ht
    exact ⟨_, rfl, k2 rfl tk H' htk0 ex ht⟩

def spDiff (A : Ads) : Sp := fun vs H Q E => ∃ (v : V) (n : Int) (xs : List Int), vs = [v] ∧ LotAt A.C_Lot H v n xs ∧ (1 ≤ n ∧ n ≤ 360) ∧ xs.length ≤ 360 ∧
  ∀ p H', H p = none → Ex H H' → H' p = some (.lst ((cntP n (prod xs xs)).map V.int)) → Q (.ref p) H' 
theorem ok_differences (T : Txt K mg A) : FnOk P w K mg base (L2.CX P w) 5 A.f_differences A.d_differences (["lot"] : List Str) (spDiff A) := by
  refine T.F_differences.okX sc_differences (fun vs H Q E h => ?_) (fun cdv Ar outer s H vs Q E hr h => ?_)
  · obtain ⟨v, n, xs, rfl, _⟩ := h
    rfl
  · obtain ⟨v, n, xs, rfl, hi, hn, hx, k⟩ := h
    refine ⟨_, (pss_one (ps_ret (pe_call (ok_meetings T) (hr.mono (by omega)) rfl T.g_meetings T.k_meetings (b_meetings T) .nil (passes_call (takes_of rfl rfl rfl rfl) (fun _ _ _ _ h => h)) (pa_cons (pv 0) (pa_cons (pv 0) pa_nil))))), ?_⟩
    exact ⟨_, rfl, _, rfl, v, v, n, n, xs, xs, rfl, hi, hi, hn, hx, hx, fun z => absurd rfl z, fun _ p H' hp e hp' => k p H' hp e hp'⟩

def spBits : Sp := fun vs H Q _ => ∃ n z : Int, vs = [.int n, .int z] ∧ (0 ≤ n ∧ n ≤ 25) ∧ ∀ p H' xs, H p = none → Ex H H' → H' p = some (.lst (xs.map V.int)) → Asc 0 n xs → Q (.ref p) H' 
theorem ok_u_law_bits (T : Txt K mg A) : FnOk P w K mg base CX0 1 A.f_u_law_bits A.d_u_law_bits (["n", "number"] : List Str) spBits := by
  refine T.F_u_law_bits.ok sc_u_law_bits (fun vs H Q E h => ?_) (fun cdv Ar outer s H vs Q E hr h => ?_)
  · obtain ⟨n, z, rfl, _⟩ := h
    rfl
  · obtain ⟨n, z, rfl, hn, k⟩ := h
    refine ⟨_, (pss_cons (ps_set (i := 2) sc_u_law_bits.nd rfl (Or.inl rfl) (pe_lst pa_nil))
        (pss_cons (ps_for PassesOwn.never rfl (pi_range1 rfl T.z_range (pa_cons (pv 0) pa_nil)) (pg_name (i := 3) sc_u_law_bits.nd rfl (Or.inl rfl)) (pss_cons (ps_if (pt_cmpR op_eq (pe_op op_mod (pe_callTy call_int1 (by rfl) T.z_int (by decide +kernel) (pa_cons (pv 1) pa_nil)) pe_int) pe_int (nomark _)) (pss_one (ps_expr (pe_bm PySem.F.plainAttrs_list PySem.F.slot_list_append PySem.F.type_list_append mt_append (pv 2) (pa_cons (pv 3) pa_nil)))) pss_nil)
        (pss_one (ps_set (i := 1) sc_u_law_bits.nd rfl (Or.inl rfl) (pe_op op_fdiv (pv 1) pe_int)))))
        (pss_one (ps_ret (pv 2))))), ?_⟩
    try dsimp only
    refine q_asgL (xs := []) (el_lst ea_nil (by decide)) fun fp H1 hfp e1 h1 => ?_
    refine q_forR1 (j := 3) (n := n) (ea_cons (ev_var rfl) ea_nil) (by omega)
      (fun i σ' H' => ∃ (z : Int) (hv : Option V) (xs : List Int), σ' = [some (.int n), some (.int z), some (.ref fp), hv] ∧ Ex H H' ∧ H' fp = some (.lst (xs.map V.int)) ∧ Asc 0 (i : Int) xs)
      (fun H2 e2 => ⟨z, none, [], rfl, e1.trans e2, e2 _ _ h1, .nil⟩) ?_ ?_
    · rintro i σ' H' hi ⟨z, hv, xs, rfl, ex, hf, hA⟩
      have hl := hA.len
      have hsz : (xs.map V.int).length < 100000 := by rw [List.length_map]; omega
      try dsimp only
      have tail : ∀ (H2 : Hp) (ys : List Int) (D : Ends), Ex H H2 → H2 fp = some (.lst (ys.map V.int)) → Asc 0 ((i : Int) + 1) ys →
          (∀ σ' H', (∃ (z : Int) (hv : Option V) (xs : List Int), σ' = [some (.int n), some (.int z), some (.ref fp), hv] ∧ Ex H H' ∧ H' fp = some (.lst (xs.map V.int)) ∧ Asc 0 ((i + 1 : Nat) : Int) xs) → D.nx σ' H') →
          tAsg (tOp (rI CDiv fun i j => V.int (i / j)) (tVar 1) (tC (V.int 2))) (gName 1) D [some (.int n), some (.int z), some (.ref fp), some (.int (i : Int))] H2 := fun H2 ys D e2 h2 hA2 hD =>
        s_asg (v := .int (z / 2)) (ev_op (ev_var (i := 1) rfl) ev_c (rv_I (show CDiv z 2 from ⟨by decide, by decide⟩))) fun H3 e3 => hD _ _ ⟨z / 2, _, ys, rfl, e2.trans e3, e3 _ _ h2, by simpa using hA2⟩
      refine q_when (b := decide (z % 2 = 1)) (et_test (ev_is (ev_op (ev_op (ev_cb (ea_cons (ev_var (i := 1) rfl) ea_nil) (fun H1 _ _ q => .inl ⟨_, rfl, q H1 (Ex.refl H1)⟩)) ev_c (rv_I (show (0 : Int) < 2 by decide))) ev_c (rv_eq rfl)) (by rw [dec_ii]))) (fun _ H2 e2 => ?_) (fun _ H2 e2 => ?_)
      · refine s_app (e2 _ _ hf) (ev_var (i := 2) rfl) (ev_var (i := 3) rfl) hsz fun H3 e3 => ?_
        refine tail _ (xs ++ [(i : Int)]) _ (Ex.mut ((ex.trans e2).trans e3) hfp) (by rw [upd_same, List.map_append]; rfl) ?_ (fun _ _ h => h)
        exact hA.append (mid' := (i : Int)) ⟨List.pairwise_singleton _ _, fun x hx => by cases List.mem_singleton.mp hx; omega⟩ (by omega) (by omega) (by omega)
      · exact tail _ xs _ (ex.trans e2) (e2 _ _ hf) (hA.mono (by omega) (by omega)) (fun _ _ h => h)
    rintro σ' H' ⟨z, hv, xs, rfl, ex, hf, hA⟩
    exact ⟨_, rfl, k fp H' xs hfp ex hf (hA.mono (by omega) (by omega))⟩

def spSubset (K : PySem.W.Frag) : Sp := fun vs H Q _ => ∃ c s n : Int, vs = [.int c, .int s, .int n] ∧ 0 ≤ c ∧ (-1000000 ≤ s ∧ s ≤ 1000000) ∧ (1 ≤ n ∧ n ≤ 360) ∧ ∀ p H' xs, H p = none → Ex H H' → H' p = some (.lst (xs.map V.int)) → Asc 0 n xs → Q (.ref p) H' 
theorem ok_u_law_subset (T : Txt K mg A) : FnOk P w K mg base CX0 3 A.f_u_law_subset A.d_u_law_subset (["cell", "salt", "n"] : List Str) (spSubset K) := by
  refine T.F_u_law_subset.ok sc_u_law_subset (fun vs H Q E h => ?_) (fun cdv Ar outer s H vs Q E hr h => ?_)
  · obtain ⟨c, s, n, rfl, _⟩ := h
    rfl
  · obtain ⟨c, sa, n, rfl, hc, hs, hn, k⟩ := h
    refine ⟨_, (pss_cons (ps_set (i := 3) sc_u_law_subset.nd rfl (Or.inl rfl) (pe_lst pa_nil))
        (pss_cons (ps_set (i := 4) sc_u_law_subset.nd rfl (Or.inl rfl) (pe_call (ok_u_law_draws T) (hr.mono (by omega)) rfl T.g_u_law_draws T.k_u_law_draws (b_u_law_draws T) .nil pass0 (pa_cons (pv 0) (pa_cons (pv 1) (pa_cons (pe_op op_rep (pe_lst (pa_cons (pe_op op_pow pe_int pe_int) pa_nil)) (pe_op op_add pe_int (pe_op op_fdiv (pe_op op_sub (pv 2) pe_int) pe_int))) pa_nil)))))
        (pss_cons (ps_for PassesOwn.never rfl (pi_range1 rfl T.z_range (pa_cons (pe_callB len_K (by rfl) T.z_len (by decide +kernel) (pa_cons (pv 4) pa_nil)) pa_nil)) (pg_name (i := 5) sc_u_law_subset.nd rfl (Or.inr rfl)) (pss_one (ps_set (i := 3) sc_u_law_subset.nd rfl (Or.inl rfl) (pe_op op_cat (pv 3) (pe_lc (own := [("h", 6)]) (g := gName 6) rfl sc_u_law_subset.nd (pi_list (pe_call (ok_u_law_bits T) (hr.mono (by omega)) rfl T.g_u_law_bits T.k_u_law_bits (b_u_law_bits T) .nil pass0 (pa_cons pe_int (pa_cons (pe_ix ix_lK (pv 4) (pv 5) (fun _ _ => rfl)) pa_nil)))) (blkOk_by (own := [("h", 6)]) (N := N_u_law_subset) (sc := defScope s_u_law_subset) (by decide +kernel)) (fun _ _ _ _ _ => (pg_name (i := 6) sc_u_law_subset.nd rfl (Or.inl rfl))) (fun _ _ _ _ _ => (pts_one (pt_cmpR op_lt (pe_op op_add (pe_op op_mul pe_int (pv 5)) (pv 6)) (pv 2) (nomark _)))) (fun _ _ _ _ _ => (pe_op op_add (pe_op op_mul pe_int (pv 5)) (pv 6))))))))
        (pss_one (ps_ret (pv 3)))))), ?_⟩
    try dsimp only
    refine q_asgL (xs := []) (el_lst ea_nil (by decide)) fun f0 H1 hf0 e1 h1 => ?_
    have hm : 0 ≤ (n - 1) / 25 ∧ (n - 1) / 25 ≤ 14 := by omega
    refine ⟨_, rfl, _, rfl, _, _, rfl, rfl, ⟨by decide, by decide, by decide⟩, by show 1 ≤ sizeLine; decide, fun q hq => ?_⟩
    refine ⟨_, rfl, _, _, rfl, rfl, _, _, rfl, rfl, ⟨by decide, by decide⟩, _, _, rfl, rfl, q, 1 + (n - 1) / 25, _, rfl, rfl, upd_same, by omega, by omega, ?_, fun l hl => ?_⟩
    · show 1 * (1 + (n - 1) / 25).toNat ≤ sizeLine
      exact Nat.le_trans (show 1 * (1 + (n - 1) / 25).toNat ≤ 15 by omega) (by decide)
    have h25 : ((2 : Int) ^ (25 : Int).toNat) = 33554432 := by decide
    have em : (List.replicate (1 + (n - 1) / 25).toNat [V.int ((2 : Int) ^ (25 : Int).toNat)]).flatten = (List.replicate (1 + (n - 1) / 25).toNat (33554432 : Int)).map V.int := by rw [h25, rep_ints]
    have e2 : Ex H1 (upd (upd H1 q (.lst [V.int ((2 : Int) ^ (25 : Int).toNat)])) l (.lst (List.replicate (1 + (n - 1) / 25).toNat [V.int ((2 : Int) ^ (25 : Int).toNat)]).flatten)) := (Ex.new hq).trans (Ex.new hl)
    have hl' : (upd (upd H1 q (.lst [V.int ((2 : Int) ^ (25 : Int).toNat)])) l (.lst (List.replicate (1 + (n - 1) / 25).toNat [V.int ((2 : Int) ^ (25 : Int).toNat)]).flatten)) l = some (.lst ((List.replicate (1 + (n - 1) / 25).toNat (33554432 : Int)).map V.int)) := by rw [upd_same, em]
    refine ⟨c, sa, l, List.replicate (1 + (n - 1) / 25).toNat 33554432, rfl, SqL.of hl', hc, hs, by rw [List.length_replicate]; omega, fun x hx => ?_, fun dp H3 ds hdp e3 hds hD => ?_⟩
    · rw [(List.mem_replicate.mp hx).2]
      exact ⟨by decide, by decide +kernel⟩
    have hdl : (ds.length : Int) = 1 + (n - 1) / 25 := by
      have := hD.1
      rw [List.length_replicate] at this
      omega
    have e13 := (e1.trans e2).trans e3
    try dsimp only
    let Pv : Nat → L2.St → Hp → Prop := fun i σ' H' => ∃ (fp : Addr) (kv : Option V) (xs : List Int), σ' = [some (.int c), some (.int sa), some (.int n), some (.ref fp), some (.ref dp), kv, none] ∧ Ex H3 H' ∧ H fp = none ∧ H' fp = some (.lst (xs.map V.int)) ∧ Asc 0 (25 * (i : Int)) xs ∧ Asc 0 n xs
    refine q_forR1 (j := 5) (n := (ds.length : Int)) (ea_cons (ev_cb (ea_cons (ev_var (i := 4) rfl) ea_nil) (fun H4 e Q q => ⟨.ref dp, ds.length, rfl, .inl ⟨ds.map V.int, sq_of (e _ _ hds), (List.length_map _).symm⟩, q H4 (Ex.refl H4)⟩)) ea_nil) (by omega)
      Pv
      (fun H4 e4 => ⟨f0, none, [], rfl, e4, hf0, e4 _ _ (e3 _ _ (e2 _ _ h1)), .nil, .nil⟩) ?_ ?_
    · rintro i σ' H' hi ⟨fp, kv, xs, rfl, ex, hfp, hf, hA, hB⟩
      have hil : i < ds.length := by omega
      refine ⟨_, rfl, _, rfl, _, rfl, dp, _, _, .int ds[i], rfl, rfl, sq_of (ex _ _ hds), atI_nat (by rw [List.getElem?_map, List.getElem?_eq_getElem hil]; rfl), 25, ds[i], rfl, by decide, fun bp H4 bs hbp e4 hb hbA => ?_⟩
      have hbl := hbA.len
      have mul : CMul 25 (i : Int) := .inl ⟨by decide, by decide⟩
      have add : ∀ (b : Int) H5, Ev (tOp (rI0 fun i j => V.int (i + j)) (tOp (rI CMul fun i j => V.int (i * j)) (tC (V.int 25)) (tVar 5)) (tVar 6)) [some (.int c), some (.int sa), some (.int n), some (.ref fp), some (.ref dp), some (.int (i : Int)), some (.int b)] H5 (.int (25 * (i : Int) + b)) := fun b H5 =>
        ev_op (ev_op ev_c (ev_var (i := 5) rfl) (rv_I mul)) (ev_var (i := 6) rfl) rv_I0
      have lc : EvL (tLc (iList K (tC (V.ref bp))) (gName 6) (tTest (tOp (rI0 fun i j => V.bl (decide (i < j))) (tOp (rI0 fun i j => V.int (i + j)) (tOp (rI CMul fun i j => V.int (i * j)) (tC (V.int 25)) (tVar 5)) (tVar 6)) (tVar 2)))
          (tOp (rI0 fun i j => V.int (i + j)) (tOp (rI CMul fun i j => V.int (i * j)) (tC (V.int 25)) (tVar 5)) (tVar 6)) [6]) [some (.int c), some (.int sa), some (.int n), some (.ref fp), some (.ref dp), some (.int (i : Int)), none] H4 ((bs.filter fun b => decide (25 * (i : Int) + b < n)).map fun b => V.int (25 * (i : Int) + b)) :=
        el_lstG (K := K) 0 (bs.map V.int) bs (fun b => decide (25 * (i : Int) + b < n)) (fun b => V.int (25 * (i : Int) + b)) (fun b => [some (.int c), some (.int sa), some (.int n), some (.ref fp), some (.ref dp), some (.int (i : Int)), some (.int b)])
          ev_c (sq_of hb) (List.length_map _) (by omega)
          (fun j x y H1 kk _ hx hy hk => by
            obtain ⟨u, rfl, hu⟩ := some_int hx
            rw [hu] at hy
            cases hy
            exact hk)
          (fun y => rfl)
          (fun y H1 _ _ => et_test (ev_op (add y H1) (ev_var (i := 2) rfl) rv_I0))
          (fun y H1 _ _ _ => add y H1)
      refine lc _ (Ex.refl _) (fun y H2 => rCat (V.ref fp) y H2 fun x H1 => Pv (i + 1) [some (.int c), some (.int sa), some (.int n), some x, some (.ref dp), some (.int (i : Int)), none] H1) fun l H5 hl5 e5 h5 => ?_
      have hS := asc_shift (c := 25 * (i : Int)) (fun b => decide (25 * (i : Int) + b < n)) hbA
      have e45 := e4.trans e5
      have hAl := hA.len
      have hSl := hS.len
      have esz : (((bs.filter fun b => decide (25 * (i : Int) + b < n)).map fun b => V.int (25 * (i : Int) + b))) = (((bs.filter fun b => decide (25 * (i : Int) + b < n)).map fun b => 25 * (i : Int) + b)).map V.int := by
        rw [List.map_map]
        rfl
      rw [esz] at h5
      refine ⟨fp, l, _, _, rfl, rfl, e45 _ _ hf, h5, ?_, fun p hp => ⟨p, _, xs ++ ((bs.filter fun b => decide (25 * (i : Int) + b < n)).map fun b => 25 * (i : Int) + b), rfl, (ex.trans e45).trans (Ex.new hp), ?_, ?_, ?_, ?_⟩⟩
      · rw [List.length_map, List.length_map]
        exact Nat.le_trans (show _ ≤ 1000 by omega) (by decide)
      · exact fresh_back (e13.trans (ex.trans e45)) hp
      · rw [upd_same, List.map_append]
      · exact (hA.append hS (by omega) (by omega) (by omega)).mono (by omega) (by omega)
      · refine ⟨(hA.append hS (by omega) (by omega) (by omega)).1, fun x hx => ?_⟩
        rcases List.mem_append.mp hx with hx | hx
        · exact hB.2 x hx
        · obtain ⟨b, hb', rfl⟩ := List.mem_map.mp hx
          have h1 := (List.mem_filter.mp hb')
          have h2 := hbA.2 b h1.1
          have h3 := of_decide_eq_true h1.2
          omega
    rintro σ' H' ⟨fp, kv, xs, rfl, ex, hfp, hf, hA, hB⟩
    exact ⟨_, rfl, k fp H' xs hfp (e13.trans ex) hf hB⟩
theorem ok_u_law_sparse (T : Txt K mg A) : FnOk P w K mg base CX0 3 A.f_u_law_sparse A.d_u_law_sparse (["cell", "salt", "n"] : List Str) (spSubset K) := by
  refine T.F_u_law_sparse.ok sc_u_law_sparse (fun vs H Q E h => ?_) (fun cdv Ar outer s H vs Q E hr h => ?_)
  · obtain ⟨c, s, n, rfl, _⟩ := h
    rfl
  · obtain ⟨c, sa, n, rfl, hc, hs, hn, k⟩ := h
    refine ⟨_, (pss_cons (ps_set (i := 3) sc_u_law_sparse.nd rfl (Or.inl rfl) (pe_call (ok_u_law_draws T) (hr.mono (by omega)) rfl T.g_u_law_draws T.k_u_law_draws (b_u_law_draws T) .nil pass0 (pa_cons (pv 0) (pa_cons (pv 1) (pa_cons (pe_op op_cat (pe_lst (pa_cons pe_int pa_nil)) (pe_op op_rep (pe_lst (pa_cons pe_int pa_nil)) pe_int)) pa_nil)))))
        (pss_cons (ps_set (i := 4) sc_u_law_sparse.nd rfl (Or.inr rfl) (pe_lc (own := [("number", 5)]) (g := gName 5) (tt := tYes) rfl sc_u_law_sparse.nd (pi_list (pe_slice sl_list (pv 3) (po_some pe_int) (po_some (pe_op op_add pe_int (pe_ix ix_lK (pv 3) pe_int (fun _ _ => rfl)))))) (blkOk_by (own := [("number", 5)]) (N := N_u_law_sparse) (sc := defScope s_u_law_sparse) (by decide +kernel)) (fun _ _ _ _ _ => (pg_name (i := 5) sc_u_law_sparse.nd rfl (Or.inl rfl))) (fun _ _ _ _ _ => pts_nil) (fun _ _ _ _ _ => (pe_op op_mod (pe_callTy call_int1 (by rfl) T.z_int (by decide +kernel) (pa_cons (pv 5) pa_nil)) (pv 2)))))
        (pss_one (ps_ret (pe_lc (own := [("h", 6)]) (g := gName 6) rfl sc_u_law_sparse.nd (pi_range1 rfl T.z_range (pa_cons (pv 2) pa_nil)) (blkOk_by (own := [("h", 6)]) (N := N_u_law_sparse) (sc := defScope s_u_law_sparse) (by decide +kernel)) (fun _ _ _ _ _ => (pg_name (i := 6) sc_u_law_sparse.nd rfl (Or.inl rfl))) (fun _ _ _ _ _ => (pts_one (pt_cmpR in_K (pv 6) (pv 4) (by with_unfolding_all rfl)))) (fun _ _ _ _ _ => (pv 6))))))), ?_⟩
    refine ⟨_, rfl, _, rfl, by show 1 ≤ sizeLine; decide, fun q0 hq0 => ⟨by show 1 ≤ sizeLine; decide, fun q1 hq1 => ?_⟩⟩
    refine ⟨q1, 6, _, rfl, rfl, upd_same, by decide, by decide, by show 6 ≤ sizeLine; decide, fun q2 hq2 => ?_⟩
    refine ⟨q0, q2, _, _, rfl, rfl, Ex.new hq2 _ _ (Ex.new hq1 _ _ upd_same), upd_same, by show 7 ≤ sizeLine; decide, fun l hl => ?_⟩
    refine ⟨c, sa, l, [7, 360, 360, 360, 360, 360, 360], rfl, SqL.of upd_same, hc, hs, by show 7 ≤ 64; decide, by decide +kernel, fun dp H1 ds hdp e1' hds hD => ?_⟩
    have e1 : Ex H H1 := (((Ex.new hq0).trans (Ex.new hq1)).trans (Ex.new hq2)).trans ((Ex.new hl).trans e1')
    obtain ⟨d0, hd0, h00, h01⟩ := hD.2 0 7 rfl
    have hdl : ds.length = 7 := hD.1
    let a := HT.sIx (ds.map V.int).length 0 (some 1)
    let b := HT.sIx (ds.map V.int).length (ds.map V.int).length (some (1 + d0)) - a
    have ecut : cutV (ds.map V.int) (some 1) (some (1 + d0)) = ((ds.drop a).take b).map V.int := by
      show ((ds.map V.int).drop a).take b = _
      rw [← List.map_drop, ← List.map_take]
    have hrl : ((ds.drop a).take b).length ≤ 7 := by rw [List.length_take, List.length_drop]; omega
    have sl := el_sl (K := K) (te := tVar 3) (σ := [some (.int c), some (.int sa), some (.int n), some (.ref dp), none, none, none]) (H := H1) (ev_var rfl) (eo_some (i := 1) ev_c)
      (eo_some (i := 1 + d0) (ev_op ev_c (ev_op (ev_var (i := 3) rfl) ev_c (rv_ixL (K := K) (sq_of hds) (atI_nat (j := 0) (by rw [List.getElem?_map, hd0]; rfl)))) (rv_I0 (g := fun i j => V.int (i + j))))) (sq_of hds)
    rw [ecut] at sl
    try dsimp only
    refine q_asgL (el_lstN (K := K) 0 _ ((ds.drop a).take b) (fun _ => true) (fun y => V.int (y % n)) (fun y => [some (.int c), some (.int sa), some (.int n), some (.ref dp), none, some (.int y), none]) sl (List.length_map _) (by omega)
      (fun j x y H1 kk _ hx hy hk => by
        obtain ⟨u, rfl, hu⟩ := some_int hx
        rw [hu] at hy
        cases hy
        exact hk)
      (fun y => rfl) (fun y H1 _ _ => fun H2 _ Q q => q H2 (Ex.refl H2))
      (fun y H1 _ _ _ => ev_op (ev_cb (ea_cons (ev_var (i := 5) rfl) ea_nil) (fun H1 _ _ q => .inl ⟨_, rfl, q H1 (Ex.refl H1)⟩)) (ev_var (i := 2) rfl) (rv_I (show (0 : Int) < n by omega)))) fun rp H2 hrp e2 h2 => ?_
    have flat : ((((ds.drop a).take b).filter fun _ => true).map fun y => V.int (y % n)).all flatV = true := by
      rw [List.all_map, List.all_eq_true]
      exact fun _ _ => rfl
    try dsimp only
    refine s_retL (el_rng1 (σ := [some (.int c), some (.int sa), some (.int n), some (.ref dp), some (.ref rp), none, none]) (j := 6) (vs := [6]) (fun h => inV (V.int (h : Int)) ((((ds.drop a).take b).filter fun _ => true).map fun y => V.int (y % n))) (fun h => V.int (h : Int)) (ea_cons (ev_var rfl) ea_nil) (by omega) (fun x => rfl)
      (fun i H3 e3 hi => et_test (ev_op (ev_var (i := 6) rfl) (ev_var (i := 4) rfl) (rv_inL (neg := false) (sq_of (e3 _ _ h2)) rfl flat))) (fun i H3 _ _ _ => ev_var (i := 6) rfl)) fun p H3 hp e3 h3 => ?_
    rw [given_pick] at h3
    exact k p H3 _ (fresh_back (e1.trans e2) hp) ((e1.trans e2).trans e3) h3 ((asc_range n.toNat).mono (by omega) (by omega))

def spDrawnLot (K : PySem.W.Frag) : Sp := fun vs H Q _ => ∃ (c s n w : Int) (f : Bool), vs = [.int c, .int s, .int n, .bl f, .int w] ∧ 0 ≤ c ∧ (-999999 ≤ s ∧ s ≤ 999999) ∧ (1 ≤ n ∧ n ≤ 360) ∧ ∀ p H' xs, H p = none → Ex H H' → H' p = some (.lst (xs.map V.int)) → Asc 0 n xs → Q (.ref p) H' 
theorem ok_u_law_drawn_lot (T : Txt K mg A) : FnOk P w K mg base CX0 4 A.f_u_law_drawn_lot A.d_u_law_drawn_lot (["cell", "salt", "n", "few", "way"] : List Str) (spDrawnLot K) := by
  refine T.F_u_law_drawn_lot.ok sc_u_law_drawn_lot (fun vs H Q E h => ?_) (fun cdv Ar outer s H vs Q E hr h => ?_)
  · obtain ⟨c, s, n, w, f, rfl, _⟩ := h
    rfl
  · obtain ⟨c, sa, n, wy, f, rfl, hc, hs, hn, k⟩ := h
    refine ⟨_, (pss_cons (ps_if (pt_cmpR op_eq (pv 4) pe_int (nomark _)) (pss_one (ps_ret (pe_lst pa_nil))) pss_nil)
        (pss_cons (ps_if (PW.pt (pw_and (pt_cmpR op_eq (pv 4) pe_int (nomark _)) (pw_and1 (pt_not (pt_val (pv 3)))))) (pss_one (ps_ret (pe_listRg rfl rfl T.z_list (prg_1 rfl T.z_range (pv 2))))) pss_nil)
        (pss_cons (ps_if (PW.pt (pw_or (pt_cmpR op_le (pv 4) pe_int (nomark _)) (pw_or1 (pt_val (pv 3))))) (pss_one (ps_ret (pe_call (ok_u_law_sparse T) (hr.mono (by omega)) rfl T.g_u_law_sparse T.k_u_law_sparse (b_u_law_sparse T) .nil pass0 (pa_cons (pv 0) (pa_cons (pe_op op_add (pv 1) pe_int) (pa_cons (pv 2) pa_nil)))))) pss_nil)
        (pss_one (ps_ret (pe_call (ok_u_law_subset T) (hr.mono (by omega)) rfl T.g_u_law_subset T.k_u_law_subset (b_u_law_subset T) .nil pass0 (pa_cons (pv 0) (pa_cons (pv 1) (pa_cons (pv 2) pa_nil))))))))), ?_⟩
    try dsimp only
    refine q_when (b := decide (wy = 0)) (et_test (ev_is (ev_op (ev_var (i := 4) rfl) ev_c (rv_eq rfl)) (by rw [dec_ii]))) (fun _ H1 e1 => s_retL (xs := []) (el_lst ea_nil (by decide)) fun p H2 hp e2 h2 => k p H2 [] (fresh_back e1 hp) (e1.trans e2) h2 .nil) (fun _ H1 e1 => ?_)
    refine q_when (et_and (et_test (ev_is (w := V.bl (decide (wy = 1))) (ev_op (ev_var (i := 4) rfl) ev_c (rv_eq rfl)) (by rw [dec_ii]))) (fun _ => et_not (et_B (ev_var (i := 3) rfl)))) (fun _ H2 e2 => ?_) (fun _ H2 e2 => ?_)
    · refine ⟨_, rfl, n, rfl, .of_le (by decide) (by omega) (by decide) (by omega), fun q hq => k q _ _ (fresh_back (e1.trans e2) hq) ((e1.trans e2).trans (Ex.new hq)) (by rw [upd_same, rg_pick]) ((asc_range n.toNat).mono (by omega) (by omega))⟩
    refine q_when (et_or (et_test (ev_op (ev_var (i := 4) rfl) ev_c rv_I0)) (fun _ => et_B (ev_var (i := 3) rfl))) (fun _ H3 e3 => ?_) (fun _ H3 e3 => ?_)
    · exact ⟨_, rfl, _, rfl, _, _, rfl, rfl, _, rfl, c, sa + 1, n, rfl, hc, by omega, hn, fun p H4 xs hp e4 h4 hA => k p H4 xs (fresh_back ((e1.trans e2).trans e3) hp) (((e1.trans e2).trans e3).trans e4) h4 hA⟩
    · exact ⟨_, rfl, _, rfl, _, rfl, c, sa, n, rfl, hc, by omega, hn, fun p H4 xs hp e4 h4 hA => k p H4 xs (fresh_back ((e1.trans e2).trans e3) hp) (((e1.trans e2).trans e3).trans e4) h4 hA⟩

def spCounts (K : PySem.W.Frag) : Sp := fun vs H Q _ => ∃ (a b : Addr) (n : Int) (xs ys : List Int), vs = [.ref a, .ref b, .int n] ∧ SqL K H a (xs.map V.int) ∧ SqL K H b (ys.map V.int) ∧ (1 ≤ n ∧ n ≤ 360) ∧ xs.length ≤ 360 ∧ ys.length ≤ 360 ∧
  ∀ p H', H p = none → Ex H H' → H' p = some (.lst ((cnt n xs ys).map V.int)) → Q (.ref p) H' 
theorem ok_u_law_counts (T : Txt K mg A) : FnOk P w K mg base CX0 1 A.f_u_law_counts A.d_u_law_counts (["first", "second", "n"] : List Str) (spCounts K) := by
  refine T.F_u_law_counts.ok sc_u_law_counts (fun vs H Q E h => ?_) (fun cdv Ar outer s H vs Q E hr h => ?_)
  · obtain ⟨a, b, n, xs, ys, rfl, _⟩ := h
    rfl
  · obtain ⟨a, b, n, xs, ys, rfl, hS, hS2, hn, hx, hy, k⟩ := h
    refine ⟨_, (pss_cons (ps_set (i := 3) sc_u_law_counts.nd rfl (Or.inr rfl) (pe_lc (own := [("h", 4)]) (g := gName 4) (tt := tYes) rfl sc_u_law_counts.nd (pi_range1 rfl T.z_range (pa_cons (pv 2) pa_nil)) (blkOk_by (own := [("h", 4)]) (N := N_u_law_counts) (sc := defScope s_u_law_counts) (by decide +kernel)) (fun _ _ _ _ _ => (pg_name (i := 4) sc_u_law_counts.nd rfl (Or.inl rfl))) (fun _ _ _ _ _ => pts_nil) (fun _ _ _ _ _ => (pe_cmpR in_K (pv 4) (pv 0) (by with_unfolding_all rfl)))))
        (pss_cons (ps_set (i := 5) sc_u_law_counts.nd rfl (Or.inl rfl) (pe_lst pa_nil))
        (pss_cons (ps_for PassesOwn.never rfl (pi_range1 rfl T.z_range (pa_cons (pv 2) pa_nil)) (pg_name (i := 6) sc_u_law_counts.nd rfl (Or.inr rfl)) (pss_one (ps_expr (pe_bm PySem.F.plainAttrs_list PySem.F.slot_list_append PySem.F.type_list_append mt_append (pv 5) (pa_cons (pe_callB len_K (by rfl) T.z_len (by decide +kernel) (pa_cons (pe_lc (own := [("y", 7)]) (g := gName 7) rfl sc_u_law_counts.nd (pi_list (pv 1)) (blkOk_by (own := [("y", 7)]) (N := N_u_law_counts) (sc := defScope s_u_law_counts) (by decide +kernel)) (fun _ _ _ _ _ => (pg_name (i := 7) sc_u_law_counts.nd rfl (Or.inl rfl))) (fun _ _ _ _ _ => (pts_one (pt_val (pe_ix ix_lK (pv 3) (pe_op op_mod (pe_callTy call_int1 (by rfl) T.z_int (by decide +kernel) (pa_cons (pe_op op_add (pv 7) (pv 6)) pa_nil)) (pv 2)) (fun _ _ => rfl))))) (fun _ _ _ _ _ => (pv 7))) pa_nil)) pa_nil)))))
        (pss_one (ps_ret (pv 5)))))), ?_⟩
    try dsimp only
    have flat : (xs.map V.int).all flatV = true := by
      rw [List.all_map, List.all_eq_true]
      exact fun _ _ => rfl
    have evm := el_rng1 (σ := [some (.ref a), some (.ref b), some (.int n), none, none, none, none, none]) (H := H) (te := tOp (rIn K false) (tVar 4) (tVar 0)) (tt := tYes) (ta := tCons (tVar 2) tNil) (j := 4) (vs := [4]) (fun _ => true) (fun h => .bl (inV (V.int (h : Int)) (xs.map V.int))) (ea_cons (ev_var rfl) ea_nil) (by omega) (fun x => rfl)
      (fun j H1 _ _ => fun H2 e Q q => q H2 (Ex.refl H2)) (fun j H1 e1 _ _ => ev_op (ev_var (i := 4) rfl) (ev_var (i := 0) rfl) (rv_inL (neg := false) (ex_l e1 hS) rfl flat))
    refine q_asgL evm fun mk H1 hmk e1 h1 => ?_
    try dsimp only
    refine q_asgL (xs := []) (el_lst ea_nil (by decide)) fun cp H2 hcp e2 h2 => ?_
    refine q_forR1 (j := 6) (n := n) (ea_cons (ev_var (i := 2) rfl) ea_nil) (by omega)
      (fun i σ' H' => ∃ dv : Option V, σ' = [some (.ref a), some (.ref b), some (.int n), some (.ref mk), none, some (.ref cp), dv, none] ∧ Ex H1 H' ∧ H' cp = some (.lst (((List.range i).map fun d : Nat => ((ys.filter fun y => decide ((y + (d : Int)) % n ∈ xs)).length : Int)).map V.int)))
      (fun H3 e3 => ⟨none, rfl, e2.trans e3, e3 _ _ h2⟩) ?_ ?_
    · rintro i σ' H' hi ⟨dv, rfl, ex, hc⟩
      have int1 : ∀ (z : Int) (σ : L2.St) (te : TE) H0, Ev te σ H0 (.int z) → Ev (tCB (fun xs H Q => (∃ i, xs = [V.int i] ∧ Q (V.int i) H) ∨ ∃ k, xs = [V.bl k] ∧ Q (V.int (if k = true then 1 else 0)) H) (tCons te tNil)) σ H0 (.int z) := fun z σ te H0 h =>
        ev_cb (ea_cons h ea_nil) fun H1 _ _ q => .inl ⟨_, rfl, q H1 (Ex.refl H1)⟩
      try dsimp only
      refine s_app (xs := ((List.range i).map fun d : Nat => ((ys.filter fun y => decide ((y + (d : Int)) % n ∈ xs)).length : Int)).map V.int) (v := .int (((ys.filter fun y => decide ((y + (i : Int)) % n ∈ xs)).map V.int).length : Int)) hc (ev_var (i := 5) rfl)
        (ev_lenN' (el_lst1 (σ := [some (.ref a), some (.ref b), some (.int n), some (.ref mk), none, some (.ref cp), some (.int (i : Int)), none]) (j := 7) (vs := [7]) ys (fun y => decide ((y + (i : Int)) % n ∈ xs)) (ev_var (i := 1) rfl) (ex_l (e1.trans ex) hS2) (by omega) (fun x => rfl)
          (fun y H3 e3 hy' => ?_) (fun y H3 e3 hy' => ev_var (i := 7) rfl))) (by rw [List.length_map, List.length_map, List.length_range]; omega) fun H3 e3 => ?_
      · have m0 : 0 ≤ (y + (i : Int)) % n := Int.emod_nonneg _ (by omega)
        have m1 : (y + (i : Int)) % n < n := Int.emod_lt_of_pos _ (by omega)
        obtain ⟨d, hd⟩ : ∃ d : Nat, (y + (i : Int)) % n = (d : Int) := ⟨((y + (i : Int)) % n).toNat, by omega⟩
        have hat : atI (given n.toNat (fun _ => true) fun h => V.bl (inV (V.int (h : Int)) (xs.map V.int))) ((y + (i : Int)) % n) = some (.bl (decide ((y + (i : Int)) % n ∈ xs))) := by
          rw [hd]
          refine atI_nat ?_
          unfold given
          rw [List.filter_eq_self.mpr fun _ _ => rfl, List.getElem?_map, List.getElem?_range (by omega), Option.map_some, inV_ints]
        exact et_B (ev_op (ev_var (i := 3) rfl) (ev_op (int1 _ _ _ _ (ev_op (ev_var (i := 7) rfl) (ev_var (i := 6) rfl) rv_I0)) (ev_var (i := 2) rfl) (rv_I (show (0 : Int) < n by omega))) (rv_ixL (sq_of ((ex.trans e3) _ _ h1)) hat))
      · refine ⟨_, rfl, Ex.mut (ex.trans e3) hcp, ?_⟩
        rw [upd_same, List.range_succ, List.map_append, List.map_append, List.length_map]
        rfl
    rintro σ' H' ⟨dv, rfl, ex, hc⟩
    exact ⟨_, rfl, k cp H' (fresh_back e1 hcp) (e1.trans ex) hc⟩

def spAgrees (K : PySem.W.Frag) (A : Ads) : Sp := fun vs H Q _ => ∃ (v w : V) (dl : Addr) (n : Int) (xs ys : List Int), vs = [v, w, .ref dl] ∧ LotAt A.C_Lot H v n xs ∧ LotAt A.C_Lot H w n ys ∧ (1 ≤ n ∧ n ≤ 360) ∧ xs.length ≤ 360 ∧ ys.length ≤ 360 ∧
  SqL K H dl ((cntP n (prod xs ys)).map V.int) ∧ ∀ H', Ex H H' → Q (.bl true) H' 
theorem ok_u_law_agrees (T : Txt K mg A) : FnOk P w K mg base CX0 7 A.f_u_law_agrees A.d_u_law_agrees (["one", "two", "due"] : List Str) (spAgrees K A) := by
  refine T.F_u_law_agrees.ok sc_u_law_agrees (fun vs H Q E h => ?_) (fun cdv Ar outer s H vs Q E hr h => ?_)
  · obtain ⟨v, w, dl, n, xs, ys, rfl, _⟩ := h
    rfl
  · obtain ⟨v, w, dl, n, xs, ys, rfl, hv, hw, hn, hx, hy, hd, k⟩ := h
    refine ⟨_, (pss_cons (ps_set (i := 3) sc_u_law_agrees.nd rfl (Or.inl rfl) (pe_call (ok_meetings T) (hr.mono (by omega)) rfl T.g_meetings T.k_meetings (b_meetings T) .nil passL (pa_cons (pv 0) (pa_cons (pv 1) pa_nil))))
        (pss_cons (ps_if (pt_not (pt_val (pe_call (ok_u_law_same T) (hr.mono (by omega)) rfl T.g_u_law_same T.k_u_law_same (b_u_law_same T) .nil pass0 (pa_cons (pv 3) (pa_cons (pv 2) pa_nil))))) (pss_one (ps_ret pe_bl)) pss_nil)
        (pss_cons (ps_asg (pe_op op_add (pe_ix ix_lK (pv 3) pe_int (fun _ _ => rfl)) pe_int) (pg_sub (pv 3) pe_int set_list))
        (pss_cons (ps_expr (pe_bm PySem.F.plainAttrs_list PySem.F.slot_list_append PySem.F.type_list_append mt_append (pv 3) (pa_cons pe_int pa_nil)))
        (pss_one (ps_ret (pe_call (ok_u_law_same T) (hr.mono (by omega)) rfl T.g_u_law_same T.k_u_law_same (b_u_law_same T) .nil pass0 (pa_cons (pe_call (ok_meetings T) (hr.mono (by omega)) rfl T.g_meetings T.k_meetings (b_meetings T) .nil passL (pa_cons (pv 0) (pa_cons (pv 1) pa_nil))) (pa_cons (pv 2) pa_nil))))))))), ?_⟩
    have hcl : (cntP n (prod xs ys)).length ≤ 360 := by rw [cntP_len]; omega
    refine ⟨_, rfl, _, rfl, v, w, n, n, xs, ys, rfl, hv, hw, hn, hx, hy, fun z => absurd rfl z, fun _ tp H1 htp e1 h1 => ?_⟩
    refine ⟨_, rfl, _, rfl, _, _, .list ((cntP n (prod xs ys)).map .int), rfl, .lst (sq_of h1) (dp_ints _), .lst (ex_l e1 hd) (dp_ints _), flatI hcl, _, rfl, iteF ?_⟩
    have h0 : (cntP n (prod xs ys))[0]? = some _ := cntP_get (by omega)
    have g0 : ((cntP n (prod xs ys)).map V.int)[0]? = some (.int (((prod xs ys).filter fun p => decide ((p.1 - p.2) % n = ((0 : Nat) : Int))).length : Int)) := by rw [List.getElem?_map, h0]; rfl
    have hsz : ∀ z : V, (((cntP n (prod xs ys)).map V.int).set 0 z).length < sizeLine := fun z => by
      rw [List.length_set, List.length_map]
      exact Nat.lt_of_le_of_lt hcl (by decide)
    refine ⟨_, rfl, tp, _, 0, _, rfl, rfl, SqL.of h1, atI_nat (j := 0) g0, _, _, rfl, rfl, _, rfl, tp, _, 0, 0, rfl, rfl, h1, ixN_nat (j := 0) (by rw [List.length_map, cntP_len]; omega), ?_⟩
    refine ⟨_, rfl, .inl ⟨rfl, _, SqL.of upd_same⟩, tp, _, _, rfl, rfl, upd_same, hsz _, ?_⟩
    have e2 : ∀ o o', Ex H (upd (upd H1 tp o) tp o') := fun o o' => Ex.mut (Ex.mut e1 htp) htp
    refine ⟨_, rfl, _, rfl, v, w, n, n, xs, ys, rfl, hv.ex (e2 _ _), hw.ex (e2 _ _), hn, hx, hy, fun z => absurd rfl z, fun _ t2 H2 ht2 e3 h2 => ?_⟩
    exact ⟨_, rfl, _, _, .list ((cntP n (prod xs ys)).map .int), rfl, .lst (sq_of h2) (dp_ints _), .lst (ex_l ((e2 _ _).trans e3) hd) (dp_ints _), flatI hcl, k _ ((e2 _ _).trans e3)⟩

def spDiffers (K : PySem.W.Frag) (A : Ads) : Sp := fun vs H Q _ => ∃ (v : V) (dl : Addr) (n : Int) (xs : List Int), vs = [v, .ref dl] ∧ LotAt A.C_Lot H v n xs ∧ (1 ≤ n ∧ n ≤ 360) ∧ xs.length ≤ 360 ∧
  SqL K H dl ((cntP n (prod xs xs)).map V.int) ∧ ∀ H', Ex H H' → Q (.bl true) H' 
theorem ok_u_law_differs (T : Txt K mg A) : FnOk P w K mg base CX0 7 A.f_u_law_differs A.d_u_law_differs (["lot", "due"] : List Str) (spDiffers K A) := by
  refine T.F_u_law_differs.ok sc_u_law_differs (fun vs H Q E h => ?_) (fun cdv Ar outer s H vs Q E hr h => ?_)
  · obtain ⟨v, dl, n, xs, rfl, _⟩ := h
    rfl
  · obtain ⟨v, dl, n, xs, rfl, hv, hn, hx, hd, k⟩ := h
    refine ⟨_, (pss_cons (ps_set (i := 2) sc_u_law_differs.nd rfl (Or.inl rfl) (pe_call (ok_differences T) (hr.mono (by omega)) rfl T.g_differences T.k_differences (b_differences T) .nil passL (pa_cons (pv 0) pa_nil)))
        (pss_cons (ps_if (pt_not (pt_val (pe_call (ok_u_law_same T) (hr.mono (by omega)) rfl T.g_u_law_same T.k_u_law_same (b_u_law_same T) .nil pass0 (pa_cons (pv 2) (pa_cons (pv 1) pa_nil))))) (pss_one (ps_ret pe_bl)) pss_nil)
        (pss_cons (ps_asg (pe_op op_add (pe_ix ix_lK (pv 2) pe_int (fun _ _ => rfl)) pe_int) (pg_sub (pv 2) pe_int set_list))
        (pss_cons (ps_expr (pe_bm PySem.F.plainAttrs_list PySem.F.slot_list_append PySem.F.type_list_append mt_append (pv 2) (pa_cons pe_int pa_nil)))
        (pss_one (ps_ret (pe_call (ok_u_law_same T) (hr.mono (by omega)) rfl T.g_u_law_same T.k_u_law_same (b_u_law_same T) .nil pass0 (pa_cons (pe_call (ok_differences T) (hr.mono (by omega)) rfl T.g_differences T.k_differences (b_differences T) .nil passL (pa_cons (pv 0) pa_nil)) (pa_cons (pv 1) pa_nil))))))))), ?_⟩
    have hcl : (cntP n (prod xs xs)).length ≤ 360 := by rw [cntP_len]; omega
    refine ⟨_, rfl, v, n, xs, rfl, hv, hn, hx, fun tp H1 htp e1 h1 => ?_⟩
    refine ⟨_, rfl, _, rfl, _, _, .list ((cntP n (prod xs xs)).map .int), rfl, .lst (sq_of h1) (dp_ints _), .lst (ex_l e1 hd) (dp_ints _), flatI hcl, _, rfl, iteF ?_⟩
    have h0 : (cntP n (prod xs xs))[0]? = some _ := cntP_get (by omega)
    have g0 : ((cntP n (prod xs xs)).map V.int)[0]? = some (.int (((prod xs xs).filter fun p => decide ((p.1 - p.2) % n = ((0 : Nat) : Int))).length : Int)) := by rw [List.getElem?_map, h0]; rfl
    have hsz : ∀ z : V, (((cntP n (prod xs xs)).map V.int).set 0 z).length < sizeLine := fun z => by
      rw [List.length_set, List.length_map]
      exact Nat.lt_of_le_of_lt hcl (by decide)
    refine ⟨_, rfl, tp, _, 0, _, rfl, rfl, SqL.of h1, atI_nat (j := 0) g0, _, _, rfl, rfl, _, rfl, tp, _, 0, 0, rfl, rfl, h1, ixN_nat (j := 0) (by rw [List.length_map, cntP_len]; omega), ?_⟩
    refine ⟨_, rfl, .inl ⟨rfl, _, SqL.of upd_same⟩, tp, _, _, rfl, rfl, upd_same, hsz _, ?_⟩
    have e2 : ∀ o o', Ex H (upd (upd H1 tp o) tp o') := fun o o' => Ex.mut (Ex.mut e1 htp) htp
    refine ⟨_, rfl, v, n, xs, rfl, hv.ex (e2 _ _), hn, hx, fun t2 H2 ht2 e3 h2 => ?_⟩
    exact ⟨_, rfl, _, _, .list ((cntP n (prod xs xs)).map .int), rfl, .lst (sq_of h2) (dp_ints _), .lst (ex_l ((e2 _ _).trans e3) hd) (dp_ints _), flatI hcl, k _ ((e2 _ _).trans e3)⟩

def spApart (A : Ads) : Sp := fun vs H Q _ => ∃ (v w : V) (n m : Int) (xs ys : List Int), vs = [v, w] ∧ LotAt A.C_Lot H v n xs ∧ LotAt A.C_Lot H w m ys ∧ (1 ≤ n ∧ n ≤ 360) ∧ xs.length ≤ 360 ∧ ys.length ≤ 360 ∧ n ≠ m ∧ ∀ H', Ex H H' → Q (.bl true) H' 
theorem ok_u_law_kept_apart (T : Txt K mg A) : FnOk P w K mg base CX0 7 A.f_u_law_kept_apart A.d_u_law_kept_apart (["one", "two"] : List Str) (spApart A) := by
  refine T.F_u_law_kept_apart.ok sc_u_law_kept_apart (fun vs H Q E h => ?_) (fun cdv Ar outer s H vs Q E hr h => ?_)
  · obtain ⟨v, w, n, m, xs, ys, rfl, _⟩ := h
    rfl
  · obtain ⟨v, w, n, m, xs, ys, rfl, hv, hw, hn, hx, hy, hnm, k⟩ := h
    refine ⟨_, (pss_cons (ps_set (i := 2) sc_u_law_kept_apart.nd rfl (Or.inl rfl) pe_non)
        (pss_cons (ps_set (i := 3) sc_u_law_kept_apart.nd rfl (Or.inl rfl) (pe_lst pa_nil))
        (pss_cons (ps_try_as (i := 4) (Wout := fun _ _ _ _ => False) rfl rfl sc_u_law_kept_apart.nd rfl rfl ⟨rfl, by decide, Or.inl T.g_WatchError⟩ takes0 (fun W pn xe tk _ => (pss_one (ps_set (i := 2) sc_u_law_kept_apart.nd rfl (Or.inl rfl) (pe_callS (ok_meetings T) (hr.mono (by omega)) rfl T.g_meetings T.k_meetings (b_meetings T) (fun σ => passAt tk σ) (pa_cons (pv 0) (pa_cons (pv 1) pa_nil)))))) (fun a oe cls dd pn hz hf => (pss_cons (ps_set (i := 3) sc_u_law_kept_apart.nd rfl (Or.inl rfl) (pe_lst (pa_cons (pe_callB (call_isN T.ex_OtherHours hz hf) (by rfl) T.z_isinstance (by decide +kernel) (pa_cons (pv 4) (pa_cons (pe_glob (v := .ref A.C_OtherHours) rfl T.g_OtherHours rfl) pa_nil))) (pa_cons (pe_callB (call_isN T.ex_OtherHours hz hf) (by rfl) T.z_isinstance (by decide +kernel) (pa_cons (pv 4) (pa_cons (pe_bltn (v := .ty "ValueError") (by rfl) T.z_ValueError (by decide +kernel) rfl) pa_nil))) (pa_cons (pe_callB (call_isN T.ex_OtherHours hz hf) (by rfl) T.z_isinstance (by decide +kernel) (pa_cons (pv 4) (pa_cons (pe_glob (v := .ref A.C_OtherHouse) rfl T.g_OtherHouse rfl) pa_nil))) (pa_cons (pe_callB (call_isN T.ex_OtherHours hz hf) (by rfl) T.z_isinstance (by decide +kernel) (pa_cons (pv 4) (pa_cons (pe_glob (v := .ref A.C_Meets) rfl T.g_Meets rfl) pa_nil))) pa_nil))))))
        (pss_one (ps_set (i := 3) sc_u_law_kept_apart.nd rfl (Or.inl rfl) (pe_op op_cat (pv 3) (pe_lst (pa_cons (pe_callB (call_isN T.ex_OtherHours hz hf) (by rfl) T.z_isinstance (by decide +kernel) (pa_cons (pv 4) (pa_cons (pe_glob (v := .ref A.C_WrongLength) rfl T.g_WrongLength rfl) pa_nil))) pa_nil))))))))
        (pss_one (ps_ret (pe_and (pe_cmpR op_isN (pv 2) pe_non (nomark _)) (pe_one (pe_cmpR (op_eqD hr.units) (pv 3) (pe_lst (pa_cons pe_bl (pa_cons pe_bl (pa_cons pe_bl (pa_cons pe_bl (pa_cons pe_bl pa_nil)))))) (nomark _))))))))), ?_⟩
    refine ⟨Nat.zero_le _, fun kl hkl => ?_⟩
    refine ⟨_, rfl, _, rfl, v, w, n, m, xs, ys, rfl, hv.ex (Ex.new hkl), hw.ex (Ex.new hkl), hn, hx, hy, fun _ => ⟨true, T.xm_OtherHours_WatchError, fun _ a ha => ?_, fun q => Bool.noConfusion q⟩, fun e => absurd e hnm⟩
    refine ⟨_, rfl, rfl, rfl, _, _, true, rfl, fun u h => h, T.kit_OtherHours_OtherHours, _, rfl, rfl, rfl, _, _, true, rfl, fun u h => h, T.kit_OtherHours_ValueError, _, rfl, rfl, rfl, _, _, false, rfl, fun u h => h, T.kit_OtherHours_OtherHouse, _, rfl, rfl, rfl, _, _, false, rfl, fun u h => h, T.kit_OtherHours_Meets, by show 4 ≤ sizeLine; decide, fun p hp => ?_⟩
    refine ⟨_, rfl, _, rfl, rfl, rfl, _, _, false, rfl, fun u h => h, T.kit_OtherHours_WrongLength, by show 1 ≤ sizeLine; decide, fun q hq => ⟨p, q, _, _, rfl, rfl, Ex.new hq _ _ upd_same, upd_same, by show 5 ≤ sizeLine; decide, fun r hr' => ?_⟩⟩
    have db : ∀ H' : Hp, DpAll K H' [.bl true, .bl true, .bl false, .bl false, .bl false] [.bool true, .bool true, .bool false, .bool false, .bool false] := fun _ => .cons (.bl _) (.cons (.bl _) (.cons (.bl _) (.cons (.bl _) (.cons (.bl _) .nil))))
    refine ⟨_, rfl, rfl, _, rfl, wayT rfl ⟨_, rfl, by show 5 ≤ sizeLine; decide, fun l hl => ?_⟩⟩
    refine ⟨.list [.bool true, .bool true, .bool false, .bool false, .bool false], .list [.bool true, .bool true, .bool false, .bool false, .bool false], .lst (sq_of (Ex.new hl _ _ upd_same)) (db _), .lst (sq_of upd_same) (db _), rfl, rfl, ?_⟩
    rw [SeqAt.eqv_refl]
    · exact k _ ((((Ex.new hkl).trans (Ex.new hp)).trans ((Ex.new hq).trans (Ex.new hr'))).trans (Ex.new hl))
    · rfl

def spLaw (K : PySem.W.Frag) : Sp := fun vs H Q _ => ∃ (a : Addr) (ns : List Int), vs = [.ref a] ∧ SqL K H a (ns.map V.int) ∧ ns.length ≤ 63 ∧ ∀ H', Q (.bl true) H' 
theorem ok_law (T : Txt K mg A) : FnOk P w K mg base CX0 9 A.f_law A.d_law (["script"] : List Str) (spLaw K) := by
  refine T.F_law.ok sc_law (fun vs H Q E h => ?_) (fun cdv Ar outer s H vs Q E hr h => ?_)
  · obtain ⟨a, ns, rfl, _⟩ := h
    rfl
  · obtain ⟨a, ns, rfl, hS, hl, k⟩ := h
    refine ⟨_, (pss_cons (ps_set (i := 1) sc_law.nd rfl (Or.inl rfl) (pe_call (ok_u_law_draws T) (hr.mono (by omega)) rfl T.g_u_law_draws T.k_u_law_draws (b_u_law_draws T) .nil pass0 (pa_cons (pe_call (ok_u_law_cell T) (hr.mono (by omega)) rfl T.g_u_law_cell T.k_u_law_cell (b_u_law_cell T) .nil pass0 (pa_cons (pv 0) (pa_cons pe_int pa_nil))) (pa_cons pe_int (pa_cons (pe_lst (pa_cons pe_int (pa_cons pe_int (pa_cons pe_int (pa_cons pe_int (pa_cons pe_int (pa_cons pe_int (pa_cons pe_int (pa_cons pe_int pa_nil))))))))) pa_nil)))))
        (pss_cons (ps_set (i := 2) sc_law.nd rfl (Or.inr rfl) (pe_ix ix_lK (pe_lst (pa_cons (pe_op op_add pe_int (pe_ix ix_lK (pv 1) pe_int (fun _ _ => rfl))) (pa_cons (pe_op op_add pe_int (pe_ix ix_lK (pv 1) pe_int (fun _ _ => rfl))) (pa_cons (pe_op op_add pe_int (pe_ix ix_lK (pv 1) pe_int (fun _ _ => rfl))) (pa_cons (pe_op op_add pe_int (pe_ix ix_lK (pv 1) pe_int (fun _ _ => rfl))) (pa_cons (pe_op op_add pe_int (pe_ix ix_lK (pv 1) pe_int (fun _ _ => rfl))) pa_nil)))))) (pe_callB (call_min2 rfl) (by rfl) T.z_min (by decide +kernel) (pa_cons pe_int (pa_cons (pe_ix ix_lK (pv 1) pe_int (fun _ _ => rfl)) pa_nil))) (fun _ _ => rfl)))
        (pss_cons (ps_set (i := 3) sc_law.nd rfl (Or.inl rfl) (pe_cmpR op_eq (pe_ix ix_lK (pv 1) pe_int (fun _ _ => rfl)) pe_int (nomark _)))
        (pss_cons (ps_set (i := 4) sc_law.nd rfl (Or.inr rfl) (pv 2))
        (pss_cons (ps_if (pt_cmpR op_eq (pe_ix ix_lK (pv 1) pe_int (fun _ _ => rfl)) pe_int (nomark _)) (pss_one (ps_set (i := 4) sc_law.nd rfl (Or.inr rfl) (pe_op op_add (pe_op op_mod (pe_callTy call_int1 (by rfl) T.z_int (by decide +kernel) (pa_cons (pv 2) pa_nil)) pe_int) pe_int))) pss_nil)
        (pss_cons (ps_set (i := 5) sc_law.nd rfl (Or.inl rfl) (pe_call (ok_u_law_drawn_lot T) (hr.mono (by omega)) rfl T.g_u_law_drawn_lot T.k_u_law_drawn_lot (b_u_law_drawn_lot T) .nil pass0 (pa_cons (pe_call (ok_u_law_cell T) (hr.mono (by omega)) rfl T.g_u_law_cell T.k_u_law_cell (b_u_law_cell T) .nil pass0 (pa_cons (pv 0) (pa_cons pe_int pa_nil))) (pa_cons pe_int (pa_cons (pv 2) (pa_cons (pv 3) (pa_cons (pe_ix ix_lK (pv 1) pe_int (fun _ _ => rfl)) pa_nil)))))))
        (pss_cons (ps_set (i := 6) sc_law.nd rfl (Or.inl rfl) (pe_call (ok_u_law_drawn_lot T) (hr.mono (by omega)) rfl T.g_u_law_drawn_lot T.k_u_law_drawn_lot (b_u_law_drawn_lot T) .nil pass0 (pa_cons (pe_call (ok_u_law_cell T) (hr.mono (by omega)) rfl T.g_u_law_cell T.k_u_law_cell (b_u_law_cell T) .nil pass0 (pa_cons (pv 0) (pa_cons pe_int pa_nil))) (pa_cons pe_int (pa_cons (pv 4) (pa_cons (pv 3) (pa_cons (pe_ix ix_lK (pv 1) pe_int (fun _ _ => rfl)) pa_nil)))))))
        (pss_cons (ps_if (pt_cmpR op_eq (pe_ix ix_lK (pv 1) pe_int (fun _ _ => rfl)) pe_int (nomark _)) (pss_one (ps_setLc (i := 6) (own := [("h", 7)]) (g := gName 7) rfl sc_law.nd rfl rfl (sw_true rfl rfl rfl (by decide +kernel)) (pi_list (pv 5)) (blkOk_by (own := [("h", 7)]) (N := N_law) (sc := defScope s_law) (by decide +kernel)) (fun _ _ _ _ _ => (pg_name (i := 7) sc_law.nd rfl (Or.inl rfl))) (fun _ _ _ _ _ => (pts_one (pt_cmpR op_lt (pv 7) (pv 4) (nomark _)))) (fun _ _ _ _ _ => (pv 7)))) pss_nil)
        (pss_cons (ps_set (i := 8) sc_law.nd rfl (Or.inl rfl) (pe_make T.mk_Lot (ok_Lot_init T) (hr.mono (by omega)) rfl T.g_Lot (b_Lot_init T) .nil passL (pa_cons (pv 2) (pa_cons (pe_callTy list_K (by rfl) T.z_list (by decide +kernel) (pa_cons (pv 5) pa_nil)) pa_nil))))
        (pss_cons (ps_set (i := 9) sc_law.nd rfl (Or.inl rfl) (pe_make T.mk_Lot (ok_Lot_init T) (hr.mono (by omega)) rfl T.g_Lot (b_Lot_init T) .nil passL (pa_cons (pv 4) (pa_cons (pe_callTy list_K (by rfl) T.z_list (by decide +kernel) (pa_cons (pv 6) pa_nil)) pa_nil))))
        (pss_cons (ps_if (pt_cmpR op_ne (pv 2) (pv 4) (nomark _)) (pss_cons (ps_if (PW.pt (pw_or (pt_not (pt_val (pe_call (ok_u_law_kept_apart T) (hr.mono (by omega)) rfl T.g_u_law_kept_apart T.k_u_law_kept_apart (b_u_law_kept_apart T) .nil pass0 (pa_cons (pv 8) (pa_cons (pv 9) pa_nil))))) (pw_or1 (pt_not (pt_val (pe_call (ok_u_law_kept_apart T) (hr.mono (by omega)) rfl T.g_u_law_kept_apart T.k_u_law_kept_apart (b_u_law_kept_apart T) .nil pass0 (pa_cons (pv 9) (pa_cons (pv 8) pa_nil)))))))) (pss_one (ps_ret pe_bl)) pss_nil)
        (pss_one (ps_ret (pe_and (pe_call (ok_u_law_same T) (hr.mono (by omega)) rfl T.g_u_law_same T.k_u_law_same (b_u_law_same T) .nil pass0 (pa_cons (pe_prop (pv 8) T.cl_Lot T.P_Lot_members (ok_Lot_members T) (hr.mono (by omega)) (b_Lot_members T) .nil pass0 rfl) (pa_cons (pv 5) pa_nil))) (pe_one (pe_call (ok_u_law_same T) (hr.mono (by omega)) rfl T.g_u_law_same T.k_u_law_same (b_u_law_same T) .nil pass0 (pa_cons (pe_prop (pv 9) T.cl_Lot T.P_Lot_members (ok_Lot_members T) (hr.mono (by omega)) (b_Lot_members T) .nil pass0 rfl) (pa_cons (pv 6) pa_nil)))))))) pss_nil)
        (pss_cons (ps_set (i := 10) sc_law.nd rfl (Or.inr rfl) (pe_call (ok_u_law_counts T) (hr.mono (by omega)) rfl T.g_u_law_counts T.k_u_law_counts (b_u_law_counts T) .nil pass0 (pa_cons (pv 5) (pa_cons (pv 6) (pa_cons (pv 2) pa_nil)))))
        (pss_cons (ps_if (PW.pt (pw_or (pt_not (pt_val (pe_call (ok_u_law_agrees T) (hr.mono (by omega)) rfl T.g_u_law_agrees T.k_u_law_agrees (b_u_law_agrees T) .nil pass0 (pa_cons (pv 8) (pa_cons (pv 9) (pa_cons (pv 10) pa_nil)))))) (pw_or1 (pt_not (pt_val (pe_call (ok_u_law_agrees T) (hr.mono (by omega)) rfl T.g_u_law_agrees T.k_u_law_agrees (b_u_law_agrees T) .nil pass0 (pa_cons (pv 9) (pa_cons (pv 8) (pa_cons (pe_lc (own := [("d", 11)]) (g := gName 11) (tt := tYes) rfl sc_law.nd (pi_range1 rfl T.z_range (pa_cons (pv 2) pa_nil)) (blkOk_by (own := [("d", 11)]) (N := N_law) (sc := defScope s_law) (by decide +kernel)) (fun _ _ _ _ _ => (pg_name (i := 11) sc_law.nd rfl (Or.inl rfl))) (fun _ _ _ _ _ => pts_nil) (fun _ _ _ _ _ => (pe_ix ix_lK (pv 10) (pe_op op_mod (pe_callTy call_int1 (by rfl) T.z_int (by decide +kernel) (pa_cons (pe_op op_sub pe_int (pv 11)) pa_nil)) (pv 2)) (fun _ _ => rfl)))) pa_nil))))))))) (pss_one (ps_ret pe_bl)) pss_nil)
        (pss_cons (ps_set (i := 10) sc_law.nd rfl (Or.inr rfl) (pe_call (ok_u_law_counts T) (hr.mono (by omega)) rfl T.g_u_law_counts T.k_u_law_counts (b_u_law_counts T) .nil pass0 (pa_cons (pv 5) (pa_cons (pv 5) (pa_cons (pv 2) pa_nil)))))
        (pss_cons (ps_if (PW.pt (pw_or (pt_not (pt_val (pe_call (ok_u_law_differs T) (hr.mono (by omega)) rfl T.g_u_law_differs T.k_u_law_differs (b_u_law_differs T) .nil pass0 (pa_cons (pv 8) (pa_cons (pv 10) pa_nil))))) (pw_or1 (pt_not (pt_val (pe_call (ok_u_law_agrees T) (hr.mono (by omega)) rfl T.g_u_law_agrees T.k_u_law_agrees (b_u_law_agrees T) .nil pass0 (pa_cons (pv 8) (pa_cons (pv 8) (pa_cons (pv 10) pa_nil))))))))) (pss_one (ps_ret pe_bl)) pss_nil)
        (pss_cons (ps_if (PW.pt (pw_or (pt_not (pt_val (pe_call (ok_u_law_differs T) (hr.mono (by omega)) rfl T.g_u_law_differs T.k_u_law_differs (b_u_law_differs T) .nil pass0 (pa_cons (pv 9) (pa_cons (pe_call (ok_u_law_counts T) (hr.mono (by omega)) rfl T.g_u_law_counts T.k_u_law_counts (b_u_law_counts T) .nil pass0 (pa_cons (pv 6) (pa_cons (pv 6) (pa_cons (pv 2) pa_nil)))) pa_nil))))) (pw_or1 (pt_not (pt_val (pe_call (ok_u_law_differs T) (hr.mono (by omega)) rfl T.g_u_law_differs T.k_u_law_differs (b_u_law_differs T) .nil pass0 (pa_cons (pv 8) (pa_cons (pv 10) pa_nil)))))))) (pss_one (ps_ret pe_bl)) pss_nil)
        (pss_one (ps_ret (pe_and (pe_call (ok_u_law_same T) (hr.mono (by omega)) rfl T.g_u_law_same T.k_u_law_same (b_u_law_same T) .nil pass0 (pa_cons (pe_prop (pv 8) T.cl_Lot T.P_Lot_members (ok_Lot_members T) (hr.mono (by omega)) (b_Lot_members T) .nil pass0 rfl) (pa_cons (pv 5) pa_nil))) (pe_one (pe_call (ok_u_law_same T) (hr.mono (by omega)) rfl T.g_u_law_same T.k_u_law_same (b_u_law_same T) .nil pass0 (pa_cons (pe_prop (pv 9) T.cl_Lot T.P_Lot_members (ok_Lot_members T) (hr.mono (by omega)) (b_Lot_members T) .nil pass0 rfl) (pa_cons (pv 6) pa_nil))))))))))))))))))))))), ?_⟩
    refine ⟨_, rfl, a, ns, 0, rfl, hS, by show 8 ≤ sizeLine; decide, fun m hm => ?_⟩
    refine ⟨_, 21, m, [8, 12, 24, 120, 360, 8, 6, 6], rfl, SqL.of upd_same, cellA_nn _ _, by decide, by decide, by decide +kernel, fun dp H1 ds hdp e1' hds hD => ?_⟩
    have e1 : Ex H H1 := (Ex.new hm).trans e1'
    obtain ⟨d0, hd0, h00, h01⟩ := hD.2 0 8 rfl
    obtain ⟨d1, hd1, h10, h11⟩ := hD.2 1 12 rfl
    obtain ⟨d2, hd2, h20, h21⟩ := hD.2 2 24 rfl
    obtain ⟨d3, hd3, h30, h31⟩ := hD.2 3 120 rfl
    obtain ⟨d4, hd4, h40, h41⟩ := hD.2 4 360 rfl
    obtain ⟨d5, hd5, h50, h51⟩ := hD.2 5 8 rfl
    obtain ⟨d6, hd6, h60, h61⟩ := hD.2 6 6 rfl
    obtain ⟨d7, hd7, h70, h71⟩ := hD.2 7 6 rfl
    have get : ∀ (i : Nat) (x : Int), ds[i]? = some x → ∀ (σ : L2.St) H', Ex H1 H' → σ[1]? = some (some (.ref dp)) → Ev (tOp (rIxL K) (tVar 1) (tC (.int (i : Int)))) σ H' (.int x) := fun i x hi σ H' e hσ =>
      ev_op (ev_var hσ) ev_c (rv_ixL (sq_of (e _ _ hds)) (atI_nat (by rw [List.getElem?_map, hi]; rfl)))
    have tst : ∀ (i : Nat) (x y : Int), ds[i]? = some x → ∀ (σ : L2.St) H', Ex H1 H' → σ[1]? = some (some (.ref dp)) → Ev (tOp rEq (tOp (rIxL K) (tVar 1) (tC (.int (i : Int)))) (tC (.int y))) σ H' (.bl (decide (x = y))) := fun i x y hi σ H' e hσ =>
      ev_is (ev_op (get i x hi σ H' e hσ) ev_c (rv_eq rfl)) (by rw [dec_ii])
    try dsimp only
    let L : List Int := [1 + d4, 1 + d3, 1 + d2, 1 + d2, 1 + d1]
    obtain ⟨j, hj⟩ : ∃ j : Int, j = (if d0 < 4 then d0 else 4) := ⟨_, rfl⟩
    have hjb : 0 ≤ j ∧ j < 5 := by
      rw [hj]
      split <;> omega
    obtain ⟨n, hnv⟩ : ∃ n : Int, n = L.getD j.toNat 0 := ⟨_, rfl⟩
    have hn : 1 ≤ n ∧ n ≤ 360 := by
      have hj5 : j.toNat = 0 ∨ j.toNat = 1 ∨ j.toNat = 2 ∨ j.toNat = 3 ∨ j.toNat = 4 := by omega
      rcases hj5 with h | h | h | h | h
      · rw [h] at hnv; have : n = 1 + d4 := hnv; omega
      · rw [h] at hnv; have : n = 1 + d3 := hnv; omega
      · rw [h] at hnv; have : n = 1 + d2 := hnv; omega
      · rw [h] at hnv; have : n = 1 + d2 := hnv; omega
      · rw [h] at hnv; have : n = 1 + d1 := hnv; omega
    have int1 : ∀ (z : Int) (σ : L2.St) (te : TE) H0, Ev te σ H0 (.int z) → Ev (tCB (fun xs H Q => (∃ i, xs = [V.int i] ∧ Q (V.int i) H) ∨ ∃ k, xs = [V.bl k] ∧ Q (V.int (if k = true then 1 else 0)) H) (tCons te tNil)) σ H0 (.int z) := fun z σ te H0 h =>
      ev_cb (ea_cons h ea_nil) fun H1 _ _ q => .inl ⟨_, rfl, q H1 (Ex.refl H1)⟩
    have gg : ∀ (i : Nat) (x : Int) H', ds[i]? = some x → Ex H1 H' → Ev (tOp (rI0 fun i j => V.int (i + j)) (tC (V.int 1)) (tOp (rIxL K) (tVar 1) (tC (.int (i : Int))))) [some (.ref a), some (.ref dp), none, none, none, none, none, none, none, none, none, none] H' (.int (1 + x)) := fun i x H' hi e => ev_op ev_c (get i x hi _ H' e rfl) rv_I0
    have evn : Ev _ [some (.ref a), some (.ref dp), none, none, none, none, none, none, none, none, none, none] H1 (.int n) := ev_opL1 (r := rIxL K) (xs := L.map V.int) (y := .int j)
      (el_lst (ea_cons (gg 4 d4 _ hd4 (Ex.refl _)) (ea_cons (gg 3 d3 _ hd3 (Ex.refl _)) (ea_cons (gg 2 d2 _ hd2 (Ex.refl _)) (ea_cons (gg 2 d2 _ hd2 (Ex.refl _)) (ea_cons (gg 1 d1 _ hd1 (Ex.refl _)) ea_nil))))) (by show 5 ≤ 100000; decide))
      (fun H2 e2 => ev_is (ev_cb (r := fun xs H Q => ∃ i j, xs = [V.int i, V.int j] ∧ Q (V.int (if j < i then j else i)) H) (z := .int (if d0 < 4 then d0 else 4)) (ea_cons (ev_c (v := .int 4)) (ea_cons (get 0 d0 hd0 _ _ e2 rfl) ea_nil)) (fun H3 _ _ q => ⟨_, _, rfl, q H3 (Ex.refl H3)⟩)) (by rw [← hj]))
      (fun p H2 hp e2 => by rw [hnv]; exact rv_ixL (sq_of hp) (atI_ints hjb.1 hjb.2))
    refine q_asg evn fun H2 e2 => ?_
    try dsimp only
    refine q_asg (v := .bl (decide (d0 = 0))) (tst 0 d0 0 hd0 _ _ e2 rfl) fun H3 e3 => ?_
    refine q_asg (v := .int n) (ev_var (i := 2) rfl) fun H4 e4 => ?_
    try dsimp only
    let M1 : L2.St → Hp → Prop := fun σ H' => ∃ r : Int, σ = [some (.ref a), some (.ref dp), some (.int n), some (.bl (decide (d0 = 0))), some (.int r), none, none, none, none, none, none, none] ∧ (1 ≤ r ∧ r ≤ 360) ∧ Ex H1 H'
    refine q_alt M1 (et_test (tst 5 d5 0 hd5 _ _ ((e2.trans e3).trans e4) rfl)) (fun _ H5 e5 W hW => s_asg (v := .int (n % 360 + 1)) (ev_op (ev_op (int1 _ _ _ _ (ev_var (i := 2) rfl)) ev_c (rv_I (show (0 : Int) < 360 by decide))) ev_c rv_I0) fun H6 e6 => hW _ _ ⟨n % 360 + 1, rfl, by omega, (((e2.trans e3).trans e4).trans e5).trans e6⟩)
      (fun _ H5 e5 => ⟨n, rfl, hn, ((e2.trans e3).trans e4).trans e5⟩) fun σ5 H5 h5 => ?_
    obtain ⟨r, rfl, hr, e5⟩ := h5
    try dsimp only
    refine ⟨_, rfl, a, ns, 1, rfl, ex_l (e1.trans e5) hS, _, rfl, _, rfl, get 6 d6 hd6 _ _ e5 rfl _ (Ex.refl _) _ fun H6 e6 => ⟨_, 26, n, d6, decide (d0 = 0), rfl, cellA_nn _ _, by decide, hn, fun fp H7 xs hfp e7 hfx0 hA => ?_⟩⟩
    have e17 := (e5.trans e6).trans e7
    refine ⟨_, rfl, a, ns, 2, rfl, ex_l (e1.trans e17) hS, _, rfl, _, rfl, get 7 d7 hd7 _ _ e17 rfl _ (Ex.refl _) _ fun H8 e8 => ⟨_, 42, r, d7, decide (d0 = 0), rfl, cellA_nn _ _, by decide, hr, fun sp H9 ys0 hsp e9 hsy0 hB0 => ?_⟩⟩
    have e79 := e8.trans e9
    have lx : xs.length ≤ 360 := by have := hA.len; omega
    let M2 : L2.St → Hp → Prop := fun σ H' => ∃ (sp : Addr) (ys : List Int), σ = [some (.ref a), some (.ref dp), some (.int n), some (.bl (decide (d0 = 0))), some (.int r), some (.ref fp), some (.ref sp), none, none, none, none, none] ∧ Ex H7 H' ∧ H' sp = some (.lst (ys.map V.int)) ∧ Asc 0 r ys
    try dsimp only
    refine q_alt M2 (et_test (tst 7 d7 3 hd7 _ _ (e17.trans e79) rfl)) (fun _ H10 e10 W hW => s_asgL (el_lst1 (K := K) (j := 7) (vs := [7]) xs (fun x => decide (x < r)) (ev_var (i := 5) rfl) (sq_of (e10 _ _ (e79 _ _ hfx0))) (by omega) (fun x => rfl) (fun x H11 _ hx => et_test (ev_op (ev_var (i := 7) rfl) (ev_var (i := 4) rfl) rv_I0)) (fun x H11 _ hx => ev_var (i := 7) rfl)) fun p H11 hp e11 h11 => hW _ _ ⟨p, xs.filter fun x => decide (x < r), rfl, (e79.trans e10).trans e11, h11, (hA.filter _).1, fun x hx => ?_⟩)
      (fun _ H10 e10 => ⟨sp, ys0, rfl, e79.trans e10, e10 _ _ hsy0, hB0⟩) fun σ10 H10 h10 => ?_
    · have z := List.mem_filter.mp hx
      exact ⟨(hA.2 x z.1).1, of_decide_eq_true z.2⟩
    obtain ⟨sp, ys, rfl, e10, hsy1, hB⟩ := h10
    have ly : ys.length ≤ 360 := by have := hB.len; omega
    have sx : scanR n [] xs = none := asc_scan [] hA fun x _ h => by cases h
    have sy : scanR r [] ys = none := asc_scan [] hB fun x _ h => by cases h
    try dsimp only
    refine ⟨_, rfl, _, rfl, fp, _, rfl, .inl (sq_of (e10 _ _ hfx0)), fun l1 hl1 => mk_lotP (K := K) (ms := xs) (SqL.of upd_same) hn sx fun la dx lm H11 hla hlm e11 g1 g2 => ?_⟩
    rw [asc_resid (by omega) hA] at g2
    have e11' := (Ex.new hl1).trans e11
    refine ⟨_, rfl, _, rfl, sp, _, rfl, .inl (sq_of (e11' _ _ hsy1)), fun l2 hl2 => mk_lotP (K := K) (ms := ys) (SqL.of upd_same) hr sy fun lb dy ln Hb hlb hln e12 j1 j2 => ?_⟩
    rw [asc_resid (by omega) hB] at j2
    have e12' := (Ex.new hl2).trans e12
    replace g1 := e12' _ _ g1
    replace g2 := e12' _ _ g2
    have hfx := e12' _ _ (e11' _ _ (e10 _ _ hfx0))
    have hsy := e12' _ _ (e11' _ _ hsy1)
    have A1 : LotAt A.C_Lot Hb (.ref la) n xs := ⟨la, dx, lm, rfl, g1, g2⟩
    have B1 : LotAt A.C_Lot Hb (.ref lb) r ys := ⟨lb, dy, ln, rfl, j1, j2⟩
    try dsimp only
    refine q_when (b := !decide (n = r)) (et_test (ev_is (ev_op (ev_var (i := 2) rfl) (ev_var (i := 4) rfl) (rv_ne rfl)) (by rw [dec_ii]))) (fun hb Hc ec => ?_) (fun hb Hc ec => ?_)
    · have hnr : n ≠ r := by
        intro z
        rw [decide_eq_true z] at hb
        cases hb
      refine ⟨_, rfl, _, rfl, _, _, n, r, xs, ys, rfl, A1.ex ec, B1.ex ec, hn, lx, ly, hnr, fun Hd ed => ⟨_, rfl, iteF ?_⟩⟩
      refine ⟨_, rfl, _, rfl, _, _, r, n, ys, xs, rfl, B1.ex (ec.trans ed), A1.ex (ec.trans ed), hr, ly, lx, fun z => hnr z.symm, fun He ee => ⟨_, rfl, iteF ?_⟩⟩
      have ef := (ec.trans ed).trans ee
      refine ⟨_, rfl, la, dx, _, rfl, ef _ _ g1, la, dx, lm, n, xs, rfl, ef _ _ g1, ef _ _ g2, fun p1 Hp hp1 ep1 hp1' => ?_⟩
      refine ⟨_, rfl, _, _, .list (xs.map .int), rfl, .lst (sq_of hp1') (dp_ints _), .lst (sq_of (ep1 _ _ (ef _ _ hfx))) (dp_ints _), flatI lx, true, rfl, iteT ?_⟩
      refine ⟨_, rfl, lb, dy, _, rfl, ep1 _ _ (ef _ _ j1), lb, dy, ln, r, ys, rfl, ep1 _ _ (ef _ _ j1), ep1 _ _ (ef _ _ j2), fun p2 Hq hp2 ep2 hp2' => ?_⟩
      exact ⟨_, rfl, _, _, .list (ys.map .int), rfl, .lst (sq_of hp2') (dp_ints _), .lst (sq_of (ep2 _ _ (ep1 _ _ (ef _ _ hsy)))) (dp_ints _), flatI ly, k _⟩
    have hnr : n = r := by
      by_cases z : n = r
      · exact z
      · rw [decide_eq_false z] at hb
        cases hb
    subst hnr
    have n0 : 0 < n := by omega
    refine ⟨_, rfl, _, rfl, _, rfl, fp, sp, n, xs, ys, rfl, sq_of (ec _ _ hfx), sq_of (ec _ _ hsy), hn, lx, ly, fun du Hd hdu ed hdu' => ?_⟩
    have ecd := ec.trans ed
    have hdu1 : Hd du = some (.lst ((cntP n (prod xs ys)).map V.int)) := by rw [hdu', cnt_eq n0 hA]
    refine ⟨_, rfl, _, rfl, _, rfl, _, _, du, n, xs, ys, rfl, A1.ex ecd, B1.ex ecd, hn, lx, ly, sq_of hdu1, fun He ee => ⟨_, rfl, iteF ?_⟩⟩
    have hcl : (cnt n xs ys).length = n.toNat := by unfold cnt; rw [List.length_map, List.length_range]
    have evb := el_rng1 (σ := [some (.ref a), some (.ref dp), some (.int n), some (.bl (decide (d0 = 0))), some (.int n), some (.ref fp), some (.ref sp), none, some (.ref la), some (.ref lb), some (.ref du), none]) (H := He)
      (te := tOp (rIxL K) (tVar 10) (tOp (rI (fun x j => 0 < j) fun i j => V.int (i % j)) (tCB (fun xs H Q => (∃ i, xs = [V.int i] ∧ Q (V.int i) H) ∨ ∃ k, xs = [V.bl k] ∧ Q (V.int (if k = true then 1 else 0)) H) (tCons (tOp (rI0 fun i j => V.int (i - j)) (tC (V.int 0)) (tVar 11)) tNil)) (tVar 2)))
      (tt := tYes) (ta := tCons (tVar 2) tNil) (j := 11) (vs := [11]) (fun _ => true) (fun d => V.int ((cnt n xs ys).getD ((0 - (d : Int)) % n).toNat 0)) (ea_cons (ev_var rfl) ea_nil) (by omega) (fun x => rfl)
      (fun d H1 _ _ => fun H2 e Q q => q H2 (Ex.refl H2))
      (fun d Hf ef hd _ => ev_op (ev_var (i := 10) rfl) (ev_op (int1 _ _ _ _ (ev_op ev_c (ev_var (i := 11) rfl) rv_I0)) (ev_var (i := 2) rfl) (rv_I (show (0 : Int) < n by omega)))
        (rv_ixL (sq_of (ef _ _ (ee _ _ hdu'))) (atI_ints (Int.emod_nonneg _ (by omega)) (by rw [hcl]; have := Int.emod_lt_of_pos (0 - (d : Int)) n0; omega))))
    have egv : given n.toNat (fun _ => true) (fun d => V.int ((cnt n xs ys).getD ((0 - (d : Int)) % n).toNat 0)) = (cntP n (prod ys xs)).map V.int := by
      rw [← cnt_back n0 hA]
      unfold given
      rw [List.filter_eq_self.mpr fun _ _ => rfl, List.map_map]
      rfl
    rw [egv] at evb
    refine ⟨_, rfl, _, rfl, ?_⟩
    refine evb _ (Ex.refl _) _ fun db Hf hdb ef hdb' => ?_
    have ebf := (ecd.trans ee).trans ef
    refine ⟨_, _, db, n, ys, xs, rfl, B1.ex ebf, A1.ex ebf, hn, ly, lx, sq_of hdb', fun Hg eg => ⟨_, rfl, iteF ?_⟩⟩
    have ebg := ebf.trans eg
    refine ⟨_, rfl, _, rfl, _, rfl, fp, fp, n, xs, xs, rfl, sq_of (ebg _ _ hfx), sq_of (ebg _ _ hfx), hn, lx, lx, fun dv Hh hdv eh hdv' => ?_⟩
    have ebh := ebg.trans eh
    have hdv1 : Hh dv = some (.lst ((cntP n (prod xs xs)).map V.int)) := by rw [hdv', cnt_eq n0 hA]
    refine ⟨_, rfl, _, rfl, _, dv, n, xs, rfl, A1.ex ebh, hn, lx, sq_of hdv1, fun Hi ei => ⟨_, rfl, iteF ?_⟩⟩
    refine ⟨_, rfl, _, rfl, _, rfl, _, _, dv, n, xs, xs, rfl, A1.ex (ebh.trans ei), A1.ex (ebh.trans ei), hn, lx, lx, sq_of (ei _ _ hdv1), fun Hj ej => ⟨_, rfl, iteF ?_⟩⟩
    have ebj := (ebh.trans ei).trans ej
    refine ⟨_, rfl, _, rfl, _, rfl, _, rfl, sp, sp, n, ys, ys, rfl, sq_of (ebj _ _ hsy), sq_of (ebj _ _ hsy), hn, ly, ly, fun dw Hk hdw ek hdw' => ?_⟩
    have hdw1 : Hk dw = some (.lst ((cntP n (prod ys ys)).map V.int)) := by rw [hdw', cnt_eq n0 hB]
    have ebk := ebj.trans ek
    refine ⟨_, dw, n, ys, rfl, B1.ex ebk, hn, ly, sq_of hdw1, fun Hl el => ⟨_, rfl, iteF ?_⟩⟩
    refine ⟨_, rfl, _, rfl, _, dv, n, xs, rfl, A1.ex (ebk.trans el), hn, lx, sq_of (((ei.trans ej).trans (ek.trans el)) _ _ hdv1), fun Hm em => ⟨_, rfl, iteF ?_⟩⟩
    have efin := (ebk.trans el).trans em
    refine ⟨_, rfl, la, dx, _, rfl, efin _ _ g1, la, dx, lm, n, xs, rfl, efin _ _ g1, efin _ _ g2, fun p1 Hp hp1 ep1 hp1' => ?_⟩
    refine ⟨_, rfl, _, _, .list (xs.map .int), rfl, .lst (sq_of hp1') (dp_ints _), .lst (sq_of (ep1 _ _ (efin _ _ hfx))) (dp_ints _), flatI lx, true, rfl, iteT ?_⟩
    refine ⟨_, rfl, lb, dy, _, rfl, ep1 _ _ (efin _ _ j1), lb, dy, ln, n, ys, rfl, ep1 _ _ (efin _ _ j1), ep1 _ _ (efin _ _ j2), fun p2 Hq hp2 ep2 hp2' => ?_⟩
    exact ⟨_, rfl, _, _, .list (ys.map .int), rfl, .lst (sq_of hp2') (dp_ints _), .lst (sq_of (ep2 _ _ (ep1 _ _ (efin _ _ hsy)))) (dp_ints _), flatI ly, k _⟩
theorem all_mk {l : PySem.W.OpenLaw} {w : World} {K : PySem.W.Frag} {h : Heap} {mg : Str → Option Value} {fa : Addr} (X : K.In h) (G : h.Ns mainGlobals mg) (hfa : mg "law" = some (.ref fa))
    {od0 an0 : Option Addr} {sl0 : Array (Option Value)} {oc0 kV0 dc0 pm0 cd0 ct0 : Value} {f0 : Addr}
    {od1 an1 : Option Addr} {sl1 : Array (Option Value)} {oc1 kV1 dc1 pm1 cd1 ct1 : Value} {f1 : Addr}
    {od2 an2 : Option Addr} {sl2 : Array (Option Value)} {oc2 kV2 dc2 pm2 cd2 ct2 : Value} {f2 : Addr}
    {od3 an3 : Option Addr} {sl3 : Array (Option Value)} {oc3 kV3 dc3 pm3 cd3 ct3 : Value} {f3 : Addr}
    {od4 an4 : Option Addr} {sl4 : Array (Option Value)} {oc4 kV4 dc4 pm4 cd4 ct4 : Value} {f4 : Addr}
    {od5 an5 : Option Addr} {sl5 : Array (Option Value)} {oc5 kV5 dc5 pm5 cd5 ct5 : Value} {f5 : Addr}
    {od6 an6 : Option Addr} {sl6 : Array (Option Value)} {oc6 kV6 dc6 pm6 cd6 ct6 : Value} {f6 : Addr}
    {od7 an7 : Option Addr} {sl7 : Array (Option Value)} {oc7 kV7 dc7 pm7 cd7 ct7 : Value} {f7 : Addr}
    {od8 an8 : Option Addr} {sl8 : Array (Option Value)} {oc8 kV8 dc8 pm8 cd8 ct8 : Value} {f8 : Addr}
    {od9 an9 : Option Addr} {sl9 : Array (Option Value)} {oc9 kV9 dc9 pm9 cd9 ct9 : Value} {f9 : Addr}
    {od10 an10 : Option Addr} {sl10 : Array (Option Value)} {oc10 kV10 dc10 pm10 cd10 ct10 : Value} {f10 : Addr}
    {od11 an11 : Option Addr} {sl11 : Array (Option Value)} {oc11 kV11 dc11 pm11 cd11 ct11 : Value} {f11 : Addr}
    {od12 an12 : Option Addr} {sl12 : Array (Option Value)} {oc12 kV12 dc12 pm12 cd12 ct12 : Value} {f12 : Addr}
    {od13 an13 : Option Addr} {sl13 : Array (Option Value)} {oc13 kV13 dc13 pm13 cd13 ct13 : Value} {f13 : Addr}
    {od14 an14 : Option Addr} {sl14 : Array (Option Value)} {oc14 kV14 dc14 pm14 cd14 ct14 : Value} {f14 : Addr}
    {od15 an15 : Option Addr} {sl15 : Array (Option Value)} {oc15 kV15 dc15 pm15 cd15 ct15 : Value} {f15 : Addr}
    {od16 an16 : Option Addr} {sl16 : Array (Option Value)} {oc16 kV16 dc16 pm16 cd16 ct16 : Value} {f16 : Addr}
    {od17 an17 : Option Addr} {sl17 : Array (Option Value)} {oc17 kV17 dc17 pm17 cd17 ct17 : Value} {f17 : Addr}
    {od18 an18 : Option Addr} {sl18 : Array (Option Value)} {oc18 kV18 dc18 pm18 cd18 ct18 : Value} {f18 : Addr}
    {od19 an19 : Option Addr} {sl19 : Array (Option Value)} {oc19 kV19 dc19 pm19 cd19 ct19 : Value} {f19 : Addr}
    {C_BadNumber : Addr} {C_RepeatedHour : Addr} {C_WatchError : Addr} {C_OtherHours : Addr} {C_OtherHouse : Addr} {C_Meets : Addr} {C_WrongLength : Addr} {C_Lot : Addr}
    {nm_BadNumber q_BadNumber : Str} {N_BadNumber : Addr} {bs_BadNumber : List Value} {sn_BadNumber : List Str} {sub_BadNumber : List Value} {ab_BadNumber : Bool} {col_BadNumber : Option Bool} {dd_BadNumber : Option Addr} {m0_BadNumber m1_BadNumber m2_BadNumber m3_BadNumber m5_BadNumber : Option Value}
    {nm_RepeatedHour q_RepeatedHour : Str} {N_RepeatedHour : Addr} {bs_RepeatedHour : List Value} {sn_RepeatedHour : List Str} {sub_RepeatedHour : List Value} {ab_RepeatedHour : Bool} {col_RepeatedHour : Option Bool} {dd_RepeatedHour : Option Addr} {m0_RepeatedHour m1_RepeatedHour m2_RepeatedHour m3_RepeatedHour m5_RepeatedHour : Option Value}
    {tk_Lot_MOST : Tok}
    {p3 : Addr} {rest3 : List Value}
    (g_BadNumber : PySem.W.nsIn K mainGlobals "BadNumber" = some (some (.ref C_BadNumber)))
    (g_RepeatedHour : PySem.W.nsIn K mainGlobals "RepeatedHour" = some (some (.ref C_RepeatedHour)))
    (g_WatchError : PySem.W.nsIn K mainGlobals "WatchError" = some (some (.ref C_WatchError)))
    (g_OtherHours : PySem.W.nsIn K mainGlobals "OtherHours" = some (some (.ref C_OtherHours)))
    (g_OtherHouse : PySem.W.nsIn K mainGlobals "OtherHouse" = some (some (.ref C_OtherHouse)))
    (g_Meets : PySem.W.nsIn K mainGlobals "Meets" = some (some (.ref C_Meets)))
    (g_WrongLength : PySem.W.nsIn K mainGlobals "WrongLength" = some (some (.ref C_WrongLength)))
    (g_Lot : PySem.W.nsIn K mainGlobals "Lot" = some (some (.ref C_Lot)))
    (a0 : PySem.W.findIn K (.ref C_BadNumber) "__init__" = some (some (.ref f0)))
    (l0 : K.lookup f0 = some ⟨oc0, od0, .func (PySem.W.fnOf "__init__" "BadNumber.__init__" (defArgs s_BadNumber_init) (defBody s_BadNumber_init) (defScope s_BadNumber_init) .none kV0 dc0 pm0 an0 cd0 ct0), sl0⟩)
    (c0 : PySem.W.codeIn K cd0 "BadNumber.__init__" = true)
    (k0 : PySem.W.keepIn K (.ref f0) = true)
    (a1 : PySem.W.findIn K (.ref C_RepeatedHour) "__init__" = some (some (.ref f1)))
    (l1 : K.lookup f1 = some ⟨oc1, od1, .func (PySem.W.fnOf "__init__" "RepeatedHour.__init__" (defArgs s_RepeatedHour_init) (defBody s_RepeatedHour_init) (defScope s_RepeatedHour_init) .none kV1 dc1 pm1 an1 cd1 ct1), sl1⟩)
    (c1 : PySem.W.codeIn K cd1 "RepeatedHour.__init__" = true)
    (k1 : PySem.W.keepIn K (.ref f1) = true)
    (a2 : PySem.W.findIn K (.ref C_Lot) "__init__" = some (some (.ref f2)))
    (l2 : K.lookup f2 = some ⟨oc2, od2, .func (PySem.W.fnOf "__init__" "Lot.__init__" (defArgs s_Lot_init) (defBody s_Lot_init) (defScope s_Lot_init) .none kV2 dc2 pm2 an2 cd2 ct2), sl2⟩)
    (c2 : PySem.W.codeIn K cd2 "Lot.__init__" = true)
    (k2 : PySem.W.keepIn K (.ref f2) = true)
    (pa_3 : PySem.W.findIn K (.ref C_Lot) "members" = some (some (.ref p3)))
    (a3 : PySem.W.recIn K p3 "property" = some (.ref f3 :: rest3))
    (l3 : K.lookup f3 = some ⟨oc3, od3, .func (PySem.W.fnOf "members" "Lot.members" (defArgs s_Lot_members) (defBody s_Lot_members) (defScope s_Lot_members) .none kV3 dc3 pm3 an3 cd3 ct3), sl3⟩)
    (c3 : PySem.W.codeIn K cd3 "Lot.members" = true)
    (k3 : PySem.W.keepIn K (.ref f3) = true)
    (a4 : PySem.W.findIn K (.ref C_Lot) "__iter__" = some (some (.ref f4)))
    (l4 : K.lookup f4 = some ⟨oc4, od4, .func (PySem.W.fnOf "__iter__" "Lot.__iter__" (defArgs s_Lot_iter) (defBody s_Lot_iter) (defScope s_Lot_iter) .none kV4 dc4 pm4 an4 cd4 ct4), sl4⟩)
    (c4 : PySem.W.codeIn K cd4 "Lot.__iter__" = true)
    (k4 : PySem.W.keepIn K (.ref f4) = true)
    (a5 : PySem.W.nsIn K mainGlobals "_law_cell" = some (some (.ref f5)))
    (l5 : K.lookup f5 = some ⟨oc5, od5, .func (PySem.W.fnOf "_law_cell" "_law_cell" (defArgs s_u_law_cell) (defBody s_u_law_cell) (defScope s_u_law_cell) .none kV5 dc5 pm5 an5 cd5 ct5), sl5⟩)
    (c5 : PySem.W.codeIn K cd5 "_law_cell" = true)
    (k5 : PySem.W.keepIn K (.ref f5) = true)
    (a6 : PySem.W.nsIn K mainGlobals "_law_draws" = some (some (.ref f6)))
    (l6 : K.lookup f6 = some ⟨oc6, od6, .func (PySem.W.fnOf "_law_draws" "_law_draws" (defArgs s_u_law_draws) (defBody s_u_law_draws) (defScope s_u_law_draws) .none kV6 dc6 pm6 an6 cd6 ct6), sl6⟩)
    (c6 : PySem.W.codeIn K cd6 "_law_draws" = true)
    (k6 : PySem.W.keepIn K (.ref f6) = true)
    (a7 : PySem.W.nsIn K mainGlobals "_law_is_int" = some (some (.ref f7)))
    (l7 : K.lookup f7 = some ⟨oc7, od7, .func (PySem.W.fnOf "_law_is_int" "_law_is_int" (defArgs s_u_law_is_int) (defBody s_u_law_is_int) (defScope s_u_law_is_int) .none kV7 dc7 pm7 an7 cd7 ct7), sl7⟩)
    (c7 : PySem.W.codeIn K cd7 "_law_is_int" = true)
    (k7 : PySem.W.keepIn K (.ref f7) = true)
    (a8 : PySem.W.nsIn K mainGlobals "_law_same" = some (some (.ref f8)))
    (l8 : K.lookup f8 = some ⟨oc8, od8, .func (PySem.W.fnOf "_law_same" "_law_same" (defArgs s_u_law_same) (defBody s_u_law_same) (defScope s_u_law_same) .none kV8 dc8 pm8 an8 cd8 ct8), sl8⟩)
    (c8 : PySem.W.codeIn K cd8 "_law_same" = true)
    (k8 : PySem.W.keepIn K (.ref f8) = true)
    (a9 : PySem.W.nsIn K mainGlobals "meetings" = some (some (.ref f9)))
    (l9 : K.lookup f9 = some ⟨oc9, od9, .func (PySem.W.fnOf "meetings" "meetings" (defArgs s_meetings) (defBody s_meetings) (defScope s_meetings) .none kV9 dc9 pm9 an9 cd9 ct9), sl9⟩)
    (c9 : PySem.W.codeIn K cd9 "meetings" = true)
    (k9 : PySem.W.keepIn K (.ref f9) = true)
    (a10 : PySem.W.nsIn K mainGlobals "differences" = some (some (.ref f10)))
    (l10 : K.lookup f10 = some ⟨oc10, od10, .func (PySem.W.fnOf "differences" "differences" (defArgs s_differences) (defBody s_differences) (defScope s_differences) .none kV10 dc10 pm10 an10 cd10 ct10), sl10⟩)
    (c10 : PySem.W.codeIn K cd10 "differences" = true)
    (k10 : PySem.W.keepIn K (.ref f10) = true)
    (a11 : PySem.W.nsIn K mainGlobals "_law_bits" = some (some (.ref f11)))
    (l11 : K.lookup f11 = some ⟨oc11, od11, .func (PySem.W.fnOf "_law_bits" "_law_bits" (defArgs s_u_law_bits) (defBody s_u_law_bits) (defScope s_u_law_bits) .none kV11 dc11 pm11 an11 cd11 ct11), sl11⟩)
    (c11 : PySem.W.codeIn K cd11 "_law_bits" = true)
    (k11 : PySem.W.keepIn K (.ref f11) = true)
    (a12 : PySem.W.nsIn K mainGlobals "_law_subset" = some (some (.ref f12)))
    (l12 : K.lookup f12 = some ⟨oc12, od12, .func (PySem.W.fnOf "_law_subset" "_law_subset" (defArgs s_u_law_subset) (defBody s_u_law_subset) (defScope s_u_law_subset) .none kV12 dc12 pm12 an12 cd12 ct12), sl12⟩)
    (c12 : PySem.W.codeIn K cd12 "_law_subset" = true)
    (k12 : PySem.W.keepIn K (.ref f12) = true)
    (a13 : PySem.W.nsIn K mainGlobals "_law_sparse" = some (some (.ref f13)))
    (l13 : K.lookup f13 = some ⟨oc13, od13, .func (PySem.W.fnOf "_law_sparse" "_law_sparse" (defArgs s_u_law_sparse) (defBody s_u_law_sparse) (defScope s_u_law_sparse) .none kV13 dc13 pm13 an13 cd13 ct13), sl13⟩)
    (c13 : PySem.W.codeIn K cd13 "_law_sparse" = true)
    (k13 : PySem.W.keepIn K (.ref f13) = true)
    (a14 : PySem.W.nsIn K mainGlobals "_law_drawn_lot" = some (some (.ref f14)))
    (l14 : K.lookup f14 = some ⟨oc14, od14, .func (PySem.W.fnOf "_law_drawn_lot" "_law_drawn_lot" (defArgs s_u_law_drawn_lot) (defBody s_u_law_drawn_lot) (defScope s_u_law_drawn_lot) .none kV14 dc14 pm14 an14 cd14 ct14), sl14⟩)
    (c14 : PySem.W.codeIn K cd14 "_law_drawn_lot" = true)
    (k14 : PySem.W.keepIn K (.ref f14) = true)
    (a15 : PySem.W.nsIn K mainGlobals "_law_counts" = some (some (.ref f15)))
    (l15 : K.lookup f15 = some ⟨oc15, od15, .func (PySem.W.fnOf "_law_counts" "_law_counts" (defArgs s_u_law_counts) (defBody s_u_law_counts) (defScope s_u_law_counts) .none kV15 dc15 pm15 an15 cd15 ct15), sl15⟩)
    (c15 : PySem.W.codeIn K cd15 "_law_counts" = true)
    (k15 : PySem.W.keepIn K (.ref f15) = true)
    (a16 : PySem.W.nsIn K mainGlobals "_law_agrees" = some (some (.ref f16)))
    (l16 : K.lookup f16 = some ⟨oc16, od16, .func (PySem.W.fnOf "_law_agrees" "_law_agrees" (defArgs s_u_law_agrees) (defBody s_u_law_agrees) (defScope s_u_law_agrees) .none kV16 dc16 pm16 an16 cd16 ct16), sl16⟩)
    (c16 : PySem.W.codeIn K cd16 "_law_agrees" = true)
    (k16 : PySem.W.keepIn K (.ref f16) = true)
    (a17 : PySem.W.nsIn K mainGlobals "_law_differs" = some (some (.ref f17)))
    (l17 : K.lookup f17 = some ⟨oc17, od17, .func (PySem.W.fnOf "_law_differs" "_law_differs" (defArgs s_u_law_differs) (defBody s_u_law_differs) (defScope s_u_law_differs) .none kV17 dc17 pm17 an17 cd17 ct17), sl17⟩)
    (c17 : PySem.W.codeIn K cd17 "_law_differs" = true)
    (k17 : PySem.W.keepIn K (.ref f17) = true)
    (a18 : PySem.W.nsIn K mainGlobals "_law_kept_apart" = some (some (.ref f18)))
    (l18 : K.lookup f18 = some ⟨oc18, od18, .func (PySem.W.fnOf "_law_kept_apart" "_law_kept_apart" (defArgs s_u_law_kept_apart) (defBody s_u_law_kept_apart) (defScope s_u_law_kept_apart) .none kV18 dc18 pm18 an18 cd18 ct18), sl18⟩)
    (c18 : PySem.W.codeIn K cd18 "_law_kept_apart" = true)
    (k18 : PySem.W.keepIn K (.ref f18) = true)
    (a19 : PySem.W.nsIn K mainGlobals "law" = some (some (.ref f19)))
    (l19 : K.lookup f19 = some ⟨oc19, od19, .func (PySem.W.fnOf "law" "law" (defArgs s_law) (defBody s_law) (defScope s_law) .none kV19 dc19 pm19 an19 cd19 ct19), sl19⟩)
    (c19 : PySem.W.codeIn K cd19 "law" = true)
    (k19 : PySem.W.keepIn K (.ref f19) = true)
    (z_abs : PySem.W.nsIn K mainGlobals "abs" = some none)
    (z_len : PySem.W.nsIn K mainGlobals "len" = some none)
    (z_int : PySem.W.nsIn K mainGlobals "int" = some none)
    (z_bool : PySem.W.nsIn K mainGlobals "bool" = some none)
    (z_str : PySem.W.nsIn K mainGlobals "str" = some none)
    (z_list : PySem.W.nsIn K mainGlobals "list" = some none)
    (z_tuple : PySem.W.nsIn K mainGlobals "tuple" = some none)
    (z_isinstance : PySem.W.nsIn K mainGlobals "isinstance" = some none)
    (z_range : PySem.W.nsIn K mainGlobals "range" = some none)
    (z_ValueError : PySem.W.nsIn K mainGlobals "ValueError" = some none)
    (z_iter : PySem.W.nsIn K mainGlobals "iter" = some none)
    (z_min : PySem.W.nsIn K mainGlobals "min" = some none)
    (exC_BadNumber : PySem.W.subIn K (.ref C_BadNumber) (.type "BaseException") = some true)
    (hdC_BadNumber : PySem.W.hasDictIn K C_BadNumber = true)
    (tyC_BadNumber : PySem.W.typeIn K (.ref C_BadNumber) = some (.type "type"))
    (meC_BadNumber : PySem.W.subIn K (.ref C_BadNumber) (.ref C_BadNumber) = some true)
    (xL_BadNumber : K.lookup C_BadNumber = some (excClassObj nm_BadNumber q_BadNumber C_BadNumber N_BadNumber bs_BadNumber [.ref C_WatchError, .type "ValueError", .type "Exception", .type "BaseException", .type "object"] true sn_BadNumber sub_BadNumber ab_BadNumber col_BadNumber dd_BadNumber m0_BadNumber m1_BadNumber m2_BadNumber m3_BadNumber m5_BadNumber "ValueError.__new__"))
    (sa_BadNumber : PySem.W.findIn K (.ref C_BadNumber) "__setattr__" = some (some (.builtin "object.__setattr__")))
    (kC_BadNumber : PySem.W.keepIn K (.ref C_BadNumber) = true)
    (ti_BadNumber : PySem.W.typeIn K (.ref f0) = some (.type "function"))
    (ga_BadNumber : PySem.W.findIn K (.ref C_BadNumber) "__getattribute__" = some (some (.builtin "BaseException.__getattribute__")))
    (gg_BadNumber : PySem.W.findIn K (.ref C_BadNumber) "__getattr__" = some none)
    (ha_BadNumber : PySem.W.findIn K (.ref C_BadNumber) "__class__" = some (some (.builtin "object.__class__")))
    (hn_ : PySem.W.specialIn K (.builtin "object.__class__") "__get__" = some (some (.builtin "getset_descriptor.__get__")))
    (ht_ : PySem.W.takesIn K (.builtin "object.__class__") = some true)
    (hm_BadNumber : PySem.W.mroIn K C_BadNumber (.type "object") = some true)
    (nf_BadNumber_name : PySem.W.findIn K (.ref C_BadNumber) "name" = some none)
    (nf_BadNumber_value : PySem.W.findIn K (.ref C_BadNumber) "value" = some none)
    (exC_RepeatedHour : PySem.W.subIn K (.ref C_RepeatedHour) (.type "BaseException") = some true)
    (hdC_RepeatedHour : PySem.W.hasDictIn K C_RepeatedHour = true)
    (tyC_RepeatedHour : PySem.W.typeIn K (.ref C_RepeatedHour) = some (.type "type"))
    (meC_RepeatedHour : PySem.W.subIn K (.ref C_RepeatedHour) (.ref C_RepeatedHour) = some true)
    (xL_RepeatedHour : K.lookup C_RepeatedHour = some (excClassObj nm_RepeatedHour q_RepeatedHour C_RepeatedHour N_RepeatedHour bs_RepeatedHour [.ref C_WatchError, .type "ValueError", .type "Exception", .type "BaseException", .type "object"] true sn_RepeatedHour sub_RepeatedHour ab_RepeatedHour col_RepeatedHour dd_RepeatedHour m0_RepeatedHour m1_RepeatedHour m2_RepeatedHour m3_RepeatedHour m5_RepeatedHour "ValueError.__new__"))
    (sa_RepeatedHour : PySem.W.findIn K (.ref C_RepeatedHour) "__setattr__" = some (some (.builtin "object.__setattr__")))
    (kC_RepeatedHour : PySem.W.keepIn K (.ref C_RepeatedHour) = true)
    (ti_RepeatedHour : PySem.W.typeIn K (.ref f1) = some (.type "function"))
    (ga_RepeatedHour : PySem.W.findIn K (.ref C_RepeatedHour) "__getattribute__" = some (some (.builtin "BaseException.__getattribute__")))
    (gg_RepeatedHour : PySem.W.findIn K (.ref C_RepeatedHour) "__getattr__" = some none)
    (ha_RepeatedHour : PySem.W.findIn K (.ref C_RepeatedHour) "__class__" = some (some (.builtin "object.__class__")))
    (hm_RepeatedHour : PySem.W.mroIn K C_RepeatedHour (.type "object") = some true)
    (nf_RepeatedHour_hour : PySem.W.findIn K (.ref C_RepeatedHour) "hour" = some none)
    (exC_OtherHours : PySem.W.subIn K (.ref C_OtherHours) (.type "BaseException") = some true)
    (hdC_OtherHours : PySem.W.hasDictIn K C_OtherHours = true)
    (tyC_OtherHours : PySem.W.typeIn K (.ref C_OtherHours) = some (.type "type"))
    (meC_OtherHours : PySem.W.subIn K (.ref C_OtherHours) (.ref C_OtherHours) = some true)
    (xP_OtherHours : PySem.W.excIn K C_OtherHours [.type "ValueError", .type "Exception", .type "BaseException", .type "object"] "ValueError.__new__" = true)
    (kP_OtherHours : PySem.W.keepIn K (.ref C_OtherHours) = true)
    (ga_OtherHours : PySem.W.findIn K (.ref C_OtherHours) "__getattribute__" = some (some (.builtin "BaseException.__getattribute__")))
    (gg_OtherHours : PySem.W.findIn K (.ref C_OtherHours) "__getattr__" = some none)
    (ha_OtherHours : PySem.W.findIn K (.ref C_OtherHours) "__class__" = some (some (.builtin "object.__class__")))
    (hm_OtherHours : PySem.W.mroIn K C_OtherHours (.type "object") = some true)
    (exC_WatchError : PySem.W.subIn K (.ref C_WatchError) (.type "BaseException") = some true)
    (hdC_WatchError : PySem.W.hasDictIn K C_WatchError = true)
    (tyC_WatchError : PySem.W.typeIn K (.ref C_WatchError) = some (.type "type"))
    (meC_WatchError : PySem.W.subIn K (.ref C_WatchError) (.ref C_WatchError) = some true)
    (sub_OtherHours_WatchError : PySem.W.subIn K (.ref C_OtherHours) (.ref C_WatchError) = some true)
    (sub_OtherHours_ValueError : PySem.W.subIn K (.ref C_OtherHours) (.type "ValueError") = some true)
    (exC_OtherHouse : PySem.W.subIn K (.ref C_OtherHouse) (.type "BaseException") = some true)
    (hdC_OtherHouse : PySem.W.hasDictIn K C_OtherHouse = true)
    (tyC_OtherHouse : PySem.W.typeIn K (.ref C_OtherHouse) = some (.type "type"))
    (meC_OtherHouse : PySem.W.subIn K (.ref C_OtherHouse) (.ref C_OtherHouse) = some true)
    (sub_OtherHours_OtherHouse : PySem.W.subIn K (.ref C_OtherHours) (.ref C_OtherHouse) = some false)
    (exC_Meets : PySem.W.subIn K (.ref C_Meets) (.type "BaseException") = some true)
    (hdC_Meets : PySem.W.hasDictIn K C_Meets = true)
    (tyC_Meets : PySem.W.typeIn K (.ref C_Meets) = some (.type "type"))
    (meC_Meets : PySem.W.subIn K (.ref C_Meets) (.ref C_Meets) = some true)
    (sub_OtherHours_Meets : PySem.W.subIn K (.ref C_OtherHours) (.ref C_Meets) = some false)
    (exC_WrongLength : PySem.W.subIn K (.ref C_WrongLength) (.type "BaseException") = some true)
    (hdC_WrongLength : PySem.W.hasDictIn K C_WrongLength = true)
    (tyC_WrongLength : PySem.W.typeIn K (.ref C_WrongLength) = some (.type "type"))
    (meC_WrongLength : PySem.W.subIn K (.ref C_WrongLength) (.ref C_WrongLength) = some true)
    (sub_OtherHours_WrongLength : PySem.W.subIn K (.ref C_OtherHours) (.ref C_WrongLength) = some false)
    (pg_Lot : PySem.W.plainGet K C_Lot Str.empty = true)
    (hd_Lot : PySem.W.hasDictIn K C_Lot = true)
    (po_Lot : PySem.W.plainOver K C_Lot = true)
    (sa_Lot : PySem.W.findIn K (.ref C_Lot) "__setattr__" = some (some (.builtin "object.__setattr__")))
    (mk_Lot : PySem.W.makesIn K C_Lot = true)
    (kc_Lot : PySem.W.keepIn K (.ref C_Lot) = true)
    (if_2 : PySem.W.isFn K (.ref f2) = true)
    (na_Lot_hours : PySem.W.findIn K (.ref C_Lot) "hours" = some none)
    (na_Lot_members : PySem.W.findIn K (.ref C_Lot) "_members" = some none)
    (ha_Lot : PySem.W.findIn K (.ref C_Lot) "__class__" = some (some (.builtin "object.__class__")))
    (hm_Lot : PySem.W.mroIn K C_Lot (.type "object") = some true)
    (rd_Lot : PySem.W.readsIn K C_Lot (.type "type") = true)
    (gt_Lot : PySem.W.specialIn K (.ref C_Lot) "__getattribute__" = some (some (.builtin "type.__getattribute__")))
    (cv_Lot_MOST : PySem.W.findCls K (.ref C_Lot) (.type "type") "MOST" = some (.val (.int 360 tk_Lot_MOST)))
    (pg_3 : PySem.W.specialIn K (.ref p3) "__get__" = some (some (.builtin "property.__get__")))
    (pt_3 : PySem.W.takesIn K (.ref p3) = some true)
    (if_4 : PySem.W.isFn K (.ref f4) = true)
    : ∃ fd : FuncData, (∀ (s : Shared) (v : Value), BindsTo s fd ⟨[v], []⟩ [("script", v)]) ∧ ∀ base : Heap, K.In base → base.Ns mainGlobals mg → FnOk l.prog w K mg base CX0 9 fa fd ["script"] ((spLaw K)) := by
  have e := hfa.symm.trans (PySem.W.mg_of X G a19)
  cases e
  let A : Ads := {
    f_BadNumber_init := f0,
    d_BadNumber_init := PySem.W.fnOf "__init__" "BadNumber.__init__" (defArgs s_BadNumber_init) (defBody s_BadNumber_init) (defScope s_BadNumber_init) .none kV0 dc0 pm0 an0 cd0 ct0,
    f_RepeatedHour_init := f1,
    d_RepeatedHour_init := PySem.W.fnOf "__init__" "RepeatedHour.__init__" (defArgs s_RepeatedHour_init) (defBody s_RepeatedHour_init) (defScope s_RepeatedHour_init) .none kV1 dc1 pm1 an1 cd1 ct1,
    f_Lot_init := f2,
    d_Lot_init := PySem.W.fnOf "__init__" "Lot.__init__" (defArgs s_Lot_init) (defBody s_Lot_init) (defScope s_Lot_init) .none kV2 dc2 pm2 an2 cd2 ct2,
    f_Lot_members := f3,
    d_Lot_members := PySem.W.fnOf "members" "Lot.members" (defArgs s_Lot_members) (defBody s_Lot_members) (defScope s_Lot_members) .none kV3 dc3 pm3 an3 cd3 ct3,
    f_Lot_iter := f4,
    d_Lot_iter := PySem.W.fnOf "__iter__" "Lot.__iter__" (defArgs s_Lot_iter) (defBody s_Lot_iter) (defScope s_Lot_iter) .none kV4 dc4 pm4 an4 cd4 ct4,
    f_u_law_cell := f5,
    d_u_law_cell := PySem.W.fnOf "_law_cell" "_law_cell" (defArgs s_u_law_cell) (defBody s_u_law_cell) (defScope s_u_law_cell) .none kV5 dc5 pm5 an5 cd5 ct5,
    f_u_law_draws := f6,
    d_u_law_draws := PySem.W.fnOf "_law_draws" "_law_draws" (defArgs s_u_law_draws) (defBody s_u_law_draws) (defScope s_u_law_draws) .none kV6 dc6 pm6 an6 cd6 ct6,
    f_u_law_is_int := f7,
    d_u_law_is_int := PySem.W.fnOf "_law_is_int" "_law_is_int" (defArgs s_u_law_is_int) (defBody s_u_law_is_int) (defScope s_u_law_is_int) .none kV7 dc7 pm7 an7 cd7 ct7,
    f_u_law_same := f8,
    d_u_law_same := PySem.W.fnOf "_law_same" "_law_same" (defArgs s_u_law_same) (defBody s_u_law_same) (defScope s_u_law_same) .none kV8 dc8 pm8 an8 cd8 ct8,
    f_meetings := f9,
    d_meetings := PySem.W.fnOf "meetings" "meetings" (defArgs s_meetings) (defBody s_meetings) (defScope s_meetings) .none kV9 dc9 pm9 an9 cd9 ct9,
    f_differences := f10,
    d_differences := PySem.W.fnOf "differences" "differences" (defArgs s_differences) (defBody s_differences) (defScope s_differences) .none kV10 dc10 pm10 an10 cd10 ct10,
    f_u_law_bits := f11,
    d_u_law_bits := PySem.W.fnOf "_law_bits" "_law_bits" (defArgs s_u_law_bits) (defBody s_u_law_bits) (defScope s_u_law_bits) .none kV11 dc11 pm11 an11 cd11 ct11,
    f_u_law_subset := f12,
    d_u_law_subset := PySem.W.fnOf "_law_subset" "_law_subset" (defArgs s_u_law_subset) (defBody s_u_law_subset) (defScope s_u_law_subset) .none kV12 dc12 pm12 an12 cd12 ct12,
    f_u_law_sparse := f13,
    d_u_law_sparse := PySem.W.fnOf "_law_sparse" "_law_sparse" (defArgs s_u_law_sparse) (defBody s_u_law_sparse) (defScope s_u_law_sparse) .none kV13 dc13 pm13 an13 cd13 ct13,
    f_u_law_drawn_lot := f14,
    d_u_law_drawn_lot := PySem.W.fnOf "_law_drawn_lot" "_law_drawn_lot" (defArgs s_u_law_drawn_lot) (defBody s_u_law_drawn_lot) (defScope s_u_law_drawn_lot) .none kV14 dc14 pm14 an14 cd14 ct14,
    f_u_law_counts := f15,
    d_u_law_counts := PySem.W.fnOf "_law_counts" "_law_counts" (defArgs s_u_law_counts) (defBody s_u_law_counts) (defScope s_u_law_counts) .none kV15 dc15 pm15 an15 cd15 ct15,
    f_u_law_agrees := f16,
    d_u_law_agrees := PySem.W.fnOf "_law_agrees" "_law_agrees" (defArgs s_u_law_agrees) (defBody s_u_law_agrees) (defScope s_u_law_agrees) .none kV16 dc16 pm16 an16 cd16 ct16,
    f_u_law_differs := f17,
    d_u_law_differs := PySem.W.fnOf "_law_differs" "_law_differs" (defArgs s_u_law_differs) (defBody s_u_law_differs) (defScope s_u_law_differs) .none kV17 dc17 pm17 an17 cd17 ct17,
    f_u_law_kept_apart := f18,
    d_u_law_kept_apart := PySem.W.fnOf "_law_kept_apart" "_law_kept_apart" (defArgs s_u_law_kept_apart) (defBody s_u_law_kept_apart) (defScope s_u_law_kept_apart) .none kV18 dc18 pm18 an18 cd18 ct18,
    f_law := fa,
    d_law := PySem.W.fnOf "law" "law" (defArgs s_law) (defBody s_law) (defScope s_law) .none kV19 dc19 pm19 an19 cd19 ct19,
    C_BadNumber := C_BadNumber,
    C_RepeatedHour := C_RepeatedHour,
    C_WatchError := C_WatchError,
    C_OtherHours := C_OtherHours,
    C_OtherHouse := C_OtherHouse,
    C_Meets := C_Meets,
    C_WrongLength := C_WrongLength,
    C_Lot := C_Lot,
    p_Lot_members := p3 }
  have T : Txt K mg A := {
    F_BadNumber_init := fun_mk (st := s_BadNumber_init) l0 c0 k0,
    F_RepeatedHour_init := fun_mk (st := s_RepeatedHour_init) l1 c1 k1,
    F_Lot_init := fun_mk (st := s_Lot_init) l2 c2 k2,
    F_Lot_members := fun_mk (st := s_Lot_members) l3 c3 k3,
    F_Lot_iter := fun_mk (st := s_Lot_iter) l4 c4 k4,
    F_u_law_cell := fun_mk (st := s_u_law_cell) l5 c5 k5,
    g_u_law_cell := PySem.W.mg_of X G a5,
    k_u_law_cell := k5,
    F_u_law_draws := fun_mk (st := s_u_law_draws) l6 c6 k6,
    g_u_law_draws := PySem.W.mg_of X G a6,
    k_u_law_draws := k6,
    F_u_law_is_int := fun_mk (st := s_u_law_is_int) l7 c7 k7,
    g_u_law_is_int := PySem.W.mg_of X G a7,
    k_u_law_is_int := k7,
    F_u_law_same := fun_mk (st := s_u_law_same) l8 c8 k8,
    g_u_law_same := PySem.W.mg_of X G a8,
    k_u_law_same := k8,
    F_meetings := fun_mk (st := s_meetings) l9 c9 k9,
    g_meetings := PySem.W.mg_of X G a9,
    k_meetings := k9,
    F_differences := fun_mk (st := s_differences) l10 c10 k10,
    g_differences := PySem.W.mg_of X G a10,
    k_differences := k10,
    F_u_law_bits := fun_mk (st := s_u_law_bits) l11 c11 k11,
    g_u_law_bits := PySem.W.mg_of X G a11,
    k_u_law_bits := k11,
    F_u_law_subset := fun_mk (st := s_u_law_subset) l12 c12 k12,
    g_u_law_subset := PySem.W.mg_of X G a12,
    k_u_law_subset := k12,
    F_u_law_sparse := fun_mk (st := s_u_law_sparse) l13 c13 k13,
    g_u_law_sparse := PySem.W.mg_of X G a13,
    k_u_law_sparse := k13,
    F_u_law_drawn_lot := fun_mk (st := s_u_law_drawn_lot) l14 c14 k14,
    g_u_law_drawn_lot := PySem.W.mg_of X G a14,
    k_u_law_drawn_lot := k14,
    F_u_law_counts := fun_mk (st := s_u_law_counts) l15 c15 k15,
    g_u_law_counts := PySem.W.mg_of X G a15,
    k_u_law_counts := k15,
    F_u_law_agrees := fun_mk (st := s_u_law_agrees) l16 c16 k16,
    g_u_law_agrees := PySem.W.mg_of X G a16,
    k_u_law_agrees := k16,
    F_u_law_differs := fun_mk (st := s_u_law_differs) l17 c17 k17,
    g_u_law_differs := PySem.W.mg_of X G a17,
    k_u_law_differs := k17,
    F_u_law_kept_apart := fun_mk (st := s_u_law_kept_apart) l18 c18 k18,
    g_u_law_kept_apart := PySem.W.mg_of X G a18,
    k_u_law_kept_apart := k18,
    F_law := fun_mk (st := s_law) l19 c19 k19,
    g_law := hfa,
    k_law := k19,
    z_abs := PySem.W.mg_none_of X G z_abs,
    z_len := PySem.W.mg_none_of X G z_len,
    z_int := PySem.W.mg_none_of X G z_int,
    z_bool := PySem.W.mg_none_of X G z_bool,
    z_str := PySem.W.mg_none_of X G z_str,
    z_list := PySem.W.mg_none_of X G z_list,
    z_tuple := PySem.W.mg_none_of X G z_tuple,
    z_isinstance := PySem.W.mg_none_of X G z_isinstance,
    z_range := PySem.W.mg_none_of X G z_range,
    z_ValueError := PySem.W.mg_none_of X G z_ValueError,
    z_iter := PySem.W.mg_none_of X G z_iter,
    z_min := PySem.W.mg_none_of X G z_min,
    g_BadNumber := PySem.W.mg_of X G g_BadNumber,
    g_RepeatedHour := PySem.W.mg_of X G g_RepeatedHour,
    g_WatchError := PySem.W.mg_of X G g_WatchError,
    g_OtherHours := PySem.W.mg_of X G g_OtherHours,
    g_OtherHouse := PySem.W.mg_of X G g_OtherHouse,
    g_Meets := PySem.W.mg_of X G g_Meets,
    g_WrongLength := PySem.W.mg_of X G g_WrongLength,
    g_Lot := PySem.W.mg_of X G g_Lot,
    ox_BadNumber := ⟨⟨nm_BadNumber, q_BadNumber, N_BadNumber, bs_BadNumber, _, sn_BadNumber, sub_BadNumber, ab_BadNumber, col_BadNumber, dd_BadNumber, m0_BadNumber, m1_BadNumber, m2_BadNumber, m3_BadNumber, m5_BadNumber, xL_BadNumber, rfl⟩, sa_BadNumber, exC_BadNumber, tyC_BadNumber, kC_BadNumber⟩,
    ni_BadNumber := a0,
    ti_BadNumber := ti_BadNumber,
    nf_BadNumber_name := nf_BadNumber_name,
    nf_BadNumber_value := nf_BadNumber_value,
    xf_BadNumber := ⟨ga_BadNumber, gg_BadNumber, exC_BadNumber, hdC_BadNumber⟩,
    ex_BadNumber := ⟨ga_BadNumber, gg_BadNumber, exC_BadNumber, hdC_BadNumber, ha_BadNumber, hn_, ht_, hm_BadNumber⟩,
    ox_RepeatedHour := ⟨⟨nm_RepeatedHour, q_RepeatedHour, N_RepeatedHour, bs_RepeatedHour, _, sn_RepeatedHour, sub_RepeatedHour, ab_RepeatedHour, col_RepeatedHour, dd_RepeatedHour, m0_RepeatedHour, m1_RepeatedHour, m2_RepeatedHour, m3_RepeatedHour, m5_RepeatedHour, xL_RepeatedHour, rfl⟩, sa_RepeatedHour, exC_RepeatedHour, tyC_RepeatedHour, kC_RepeatedHour⟩,
    ni_RepeatedHour := a1,
    ti_RepeatedHour := ti_RepeatedHour,
    nf_RepeatedHour_hour := nf_RepeatedHour_hour,
    xf_RepeatedHour := ⟨ga_RepeatedHour, gg_RepeatedHour, exC_RepeatedHour, hdC_RepeatedHour⟩,
    ex_RepeatedHour := ⟨ga_RepeatedHour, gg_RepeatedHour, exC_RepeatedHour, hdC_RepeatedHour, ha_RepeatedHour, hn_, ht_, hm_RepeatedHour⟩,
    xP_OtherHours := xP_OtherHours,
    kP_OtherHours := kP_OtherHours,
    bP_OtherHours := exC_OtherHours,
    tP_OtherHours := tyC_OtherHours,
    ex_OtherHours := ⟨ga_OtherHours, gg_OtherHours, exC_OtherHours, hdC_OtherHours, ha_OtherHours, hn_, ht_, hm_OtherHours⟩,
    xm_OtherHours_WatchError := PySem.W.exm_ref exC_WatchError hdC_WatchError tyC_WatchError sub_OtherHours_WatchError,
    kit_OtherHours_OtherHours := kit_self,
    kit_OtherHours_ValueError := kit_bi (by decide +kernel) sub_OtherHours_ValueError,
    kit_OtherHours_OtherHouse := kit_no hdC_OtherHouse tyC_OtherHouse meC_OtherHouse sub_OtherHours_OtherHouse,
    kit_OtherHours_Meets := kit_no hdC_Meets tyC_Meets meC_Meets sub_OtherHours_Meets,
    kit_OtherHours_WrongLength := kit_no hdC_WrongLength tyC_WrongLength meC_WrongLength sub_OtherHours_WrongLength,
    cl_Lot := ⟨pg_Lot, hd_Lot, po_Lot, sa_Lot⟩,
    mk_Lot := ⟨mk_Lot, a2, if_2, kc_Lot⟩,
    na_Lot_hours := na_Lot_hours,
    na_Lot_members := na_Lot_members,
    ty_Lot := fun H a dx fs e => .base (.ins e ⟨pg_Lot, hd_Lot, po_Lot, sa_Lot⟩ ha_Lot hn_ ht_ hm_Lot),
    rd_Lot := ⟨.type "type", ⟨rd_Lot, gt_Lot⟩, ⟨_, cv_Lot_MOST, ⟨_, rfl⟩⟩⟩,
    P_Lot_members := ⟨pa_3, pg_3, pt_3, ⟨_, a3⟩⟩,
    M_Lot_iter := ⟨a4, if_4, k4⟩ }
  exact ⟨A.d_law, fun s v => .of_eq rfl, fun base _ _ => ok_law T⟩
end
theorem walk {l : PySem.W.OpenLaw} {q : Program} {loose : List Str} {XP : (Str → Option Value) → Heap → Prop} {YP : World → Heap → Prop} {d : DefRec} {K : Params → PySem.W.Frag} (hn : l.most = some 63) (hdf : d.params.defaults = [])
    (hY : ∀ (w : World) (h : Heap), YP w h → (K w.params).In h)
    (F : ∀ (w : World) (mg : Str → Option Value) (fa : Addr) (h : Heap), (K w.params).In h → h.Ns mainGlobals mg → mg d.name = some (.ref fa) →
      ∃ fd : FuncData, (∀ (s : Shared) (u : Value), BindsTo s fd ⟨[u], []⟩ [("script", u)]) ∧ ∀ base : Heap, (K w.params).In base → base.Ns mainGlobals mg → FnOk l.prog w (K w.params) mg base CX0 9 fa fd ["script"] ((spLaw) (K w.params))) :
    PySem.W.WalkO q loose XP YP l.row.toRowW d [] (fun f vs => PySem.call f vs) :=
  L2.walk_of (n := 63) (k := 9) (x := "script") (CX := fun _ => CX0) (sp := fun w => (spLaw) (K w.params)) hn (by decide) hdf ⟨rfl, by decide, by decide⟩ hY F (fun _ _ a ns hl _ hS => ⟨a, ns, rfl, hS, hl, fun _ => rfl⟩) fun _ _ _ _ _ z => z
end Pf
open PySem PySem.W PyProof.Rows
set_option maxRecDepth 100000 in
set_option maxHeartbeats 0 in
theorem PySem.Challenge.cw_watchbeats_k08_meetings_counted_holds : PySem.Challenge.rw_watchbeats_k08_meetings_counted.Holds := by
  w_on; o_law; k_head; (case hw => w_witness2)
  k_fill
  refine Pf.walk (l := PySem.Challenge.rw_watchbeats_k08_meetings_counted) rfl rfl (fun w h Y => PySem.W.kIn_of Y) ?F
  case F =>
    intro w mg fa h KX G hmg
    refine' Pf.all_mk KX G hmg ?g_BadNumber ?g_RepeatedHour ?g_WatchError ?g_OtherHours ?g_OtherHouse ?g_Meets ?g_WrongLength ?g_Lot ?a0 ?l0 ?c0 ?k0 ?a1 ?l1 ?c1 ?k1 ?a2 ?l2 ?c2 ?k2 ?pa_3 ?a3 ?l3 ?c3 ?k3 ?a4 ?l4 ?c4 ?k4 ?a5 ?l5 ?c5 ?k5 ?a6 ?l6 ?c6 ?k6 ?a7 ?l7 ?c7 ?k7 ?a8 ?l8 ?c8 ?k8 ?a9 ?l9 ?c9 ?k9 ?a10 ?l10 ?c10 ?k10 ?a11 ?l11 ?c11 ?k11 ?a12 ?l12 ?c12 ?k12 ?a13 ?l13 ?c13 ?k13 ?a14 ?l14 ?c14 ?k14 ?a15 ?l15 ?c15 ?k15 ?a16 ?l16 ?c16 ?k16 ?a17 ?l17 ?c17 ?k17 ?a18 ?l18 ?c18 ?k18 ?a19 ?l19 ?c19 ?k19 ?z_abs ?z_len ?z_int ?z_bool ?z_str ?z_list ?z_tuple ?z_isinstance ?z_range ?z_ValueError ?z_iter ?z_min ?exC_BadNumber ?hdC_BadNumber ?tyC_BadNumber ?meC_BadNumber ?xL_BadNumber ?sa_BadNumber ?kC_BadNumber ?ti_BadNumber ?ga_BadNumber ?gg_BadNumber ?ha_BadNumber ?hn_ ?ht_ ?hm_BadNumber ?nf_BadNumber_name ?nf_BadNumber_value ?exC_RepeatedHour ?hdC_RepeatedHour ?tyC_RepeatedHour ?meC_RepeatedHour ?xL_RepeatedHour ?sa_RepeatedHour ?kC_RepeatedHour ?ti_RepeatedHour ?ga_RepeatedHour ?gg_RepeatedHour ?ha_RepeatedHour ?hm_RepeatedHour ?nf_RepeatedHour_hour ?exC_OtherHours ?hdC_OtherHours ?tyC_OtherHours ?meC_OtherHours ?xP_OtherHours ?kP_OtherHours ?ga_OtherHours ?gg_OtherHours ?ha_OtherHours ?hm_OtherHours ?exC_WatchError ?hdC_WatchError ?tyC_WatchError ?meC_WatchError ?sub_OtherHours_WatchError ?sub_OtherHours_ValueError ?exC_OtherHouse ?hdC_OtherHouse ?tyC_OtherHouse ?meC_OtherHouse ?sub_OtherHours_OtherHouse ?exC_Meets ?hdC_Meets ?tyC_Meets ?meC_Meets ?sub_OtherHours_Meets ?exC_WrongLength ?hdC_WrongLength ?tyC_WrongLength ?meC_WrongLength ?sub_OtherHours_WrongLength ?pg_Lot ?hd_Lot ?po_Lot ?sa_Lot ?mk_Lot ?kc_Lot ?if_2 ?na_Lot_hours ?na_Lot_members ?ha_Lot ?hm_Lot ?rd_Lot ?gt_Lot ?cv_Lot_MOST ?pg_3 ?pt_3 ?if_4
    (case g_BadNumber => k_is)
    (case g_RepeatedHour => k_is)
    (case g_WatchError => k_is)
    (case g_OtherHours => k_is)
    (case g_OtherHouse => k_is)
    (case g_Meets => k_is)
    (case g_WrongLength => k_is)
    (case g_Lot => k_is)
    (case a0 => k_is)
    (case l0 => k_is)
    (case c0 => k_is)
    (case k0 => k_is)
    (case a1 => k_is)
    (case l1 => k_is)
    (case c1 => k_is)
    (case k1 => k_is)
    (case a2 => k_is)
    (case l2 => k_is)
    (case c2 => k_is)
    (case k2 => k_is)
    (case pa_3 => k_is)
    (case a3 => k_is)
    (case l3 => k_is)
    (case c3 => k_is)
    (case k3 => k_is)
    (case a4 => k_is)
    (case l4 => k_is)
    (case c4 => k_is)
    (case k4 => k_is)
    (case a5 => k_is)
    (case l5 => k_is)
    (case c5 => k_is)
    (case k5 => k_is)
    (case a6 => k_is)
    (case l6 => k_is)
    (case c6 => k_is)
    (case k6 => k_is)
    (case a7 => k_is)
    (case l7 => k_is)
    (case c7 => k_is)
    (case k7 => k_is)
    (case a8 => k_is)
    (case l8 => k_is)
    (case c8 => k_is)
    (case k8 => k_is)
    (case a9 => k_is)
    (case l9 => k_is)
    (case c9 => k_is)
    (case k9 => k_is)
    (case a10 => k_is)
    (case l10 => k_is)
    (case c10 => k_is)
    (case k10 => k_is)
    (case a11 => k_is)
    (case l11 => k_is)
    (case c11 => k_is)
    (case k11 => k_is)
    (case a12 => k_is)
    (case l12 => k_is)
    (case c12 => k_is)
    (case k12 => k_is)
    (case a13 => k_is)
    (case l13 => k_is)
    (case c13 => k_is)
    (case k13 => k_is)
    (case a14 => k_is)
    (case l14 => k_is)
    (case c14 => k_is)
    (case k14 => k_is)
    (case a15 => k_is)
    (case l15 => k_is)
    (case c15 => k_is)
    (case k15 => k_is)
    (case a16 => k_is)
    (case l16 => k_is)
    (case c16 => k_is)
    (case k16 => k_is)
    (case a17 => k_is)
    (case l17 => k_is)
    (case c17 => k_is)
    (case k17 => k_is)
    (case a18 => k_is)
    (case l18 => k_is)
    (case c18 => k_is)
    (case k18 => k_is)
    (case a19 => k_is)
    (case l19 => k_is)
    (case c19 => k_is)
    (case k19 => k_is)
    (case z_abs => k_is)
    (case z_len => k_is)
    (case z_int => k_is)
    (case z_bool => k_is)
    (case z_str => k_is)
    (case z_list => k_is)
    (case z_tuple => k_is)
    (case z_isinstance => k_is)
    (case z_range => k_is)
    (case z_ValueError => k_is)
    (case z_iter => k_is)
    (case z_min => k_is)
    (case exC_BadNumber => k_is)
    (case hdC_BadNumber => k_is)
    (case tyC_BadNumber => k_is)
    (case meC_BadNumber => first | rfl | k_is)
    (case xL_BadNumber => k_is)
    (case sa_BadNumber => k_is)
    (case kC_BadNumber => k_is)
    (case ti_BadNumber => k_is)
    (case ga_BadNumber => k_is)
    (case gg_BadNumber => k_is)
    (case ha_BadNumber => k_is)
    (case hn_ => k_is)
    (case ht_ => k_is)
    (case hm_BadNumber => k_is)
    (case nf_BadNumber_name => k_is)
    (case nf_BadNumber_value => k_is)
    (case exC_RepeatedHour => k_is)
    (case hdC_RepeatedHour => k_is)
    (case tyC_RepeatedHour => k_is)
    (case meC_RepeatedHour => first | rfl | k_is)
    (case xL_RepeatedHour => k_is)
    (case sa_RepeatedHour => k_is)
    (case kC_RepeatedHour => k_is)
    (case ti_RepeatedHour => k_is)
    (case ga_RepeatedHour => k_is)
    (case gg_RepeatedHour => k_is)
    (case ha_RepeatedHour => k_is)
    (case hm_RepeatedHour => k_is)
    (case nf_RepeatedHour_hour => k_is)
    (case exC_OtherHours => k_is)
    (case hdC_OtherHours => k_is)
    (case tyC_OtherHours => k_is)
    (case meC_OtherHours => first | rfl | k_is)
    (case xP_OtherHours => k_exc)
    (case kP_OtherHours => k_is)
    (case ga_OtherHours => k_is)
    (case gg_OtherHours => k_is)
    (case ha_OtherHours => k_is)
    (case hm_OtherHours => k_is)
    (case exC_WatchError => k_is)
    (case hdC_WatchError => k_is)
    (case tyC_WatchError => k_is)
    (case meC_WatchError => first | rfl | k_is)
    (case sub_OtherHours_WatchError => k_is)
    (case sub_OtherHours_ValueError => k_is)
    (case exC_OtherHouse => k_is)
    (case hdC_OtherHouse => k_is)
    (case tyC_OtherHouse => k_is)
    (case meC_OtherHouse => first | rfl | k_is)
    (case sub_OtherHours_OtherHouse => k_is)
    (case exC_Meets => k_is)
    (case hdC_Meets => k_is)
    (case tyC_Meets => k_is)
    (case meC_Meets => first | rfl | k_is)
    (case sub_OtherHours_Meets => k_is)
    (case exC_WrongLength => k_is)
    (case hdC_WrongLength => k_is)
    (case tyC_WrongLength => k_is)
    (case meC_WrongLength => first | rfl | k_is)
    (case sub_OtherHours_WrongLength => k_is)
    (case pg_Lot => k_is)
    (case hd_Lot => k_is)
    (case po_Lot => k_is)
    (case sa_Lot => k_is)
    (case mk_Lot => k_is)
    (case kc_Lot => k_is)
    (case if_2 => k_is)
    (case na_Lot_hours => k_is)
    (case na_Lot_members => k_is)
    (case ha_Lot => k_is)
    (case hm_Lot => k_is)
    (case rd_Lot => k_is)
    (case gt_Lot => k_is)
    (case cv_Lot_MOST => k_is)
    (case pg_3 => k_is)
    (case pt_3 => k_is)
    (case if_4 => k_is)
#print axioms PySem.Challenge.cw_watchbeats_k08_meetings_counted_holds
