import PyProof.Rows.All
import Wide.All
import OpenK.AllK
import Wide.FinOn
import HandS.ForMost
import HandS.Exc
import HandS.ExcInit
import HandS.ExcField
import HandS.ExcIs
import KE.KExcIs
import HandS.IsInst
import HandS.CallSlots
import HandS.WordsExc
import HandS.Wide
import HandS.Gcd
import HandS.Style
import HandS.Evl
import HandS.Property
import HandS.ClsMeth
import HandS.Deep
import PySem.Challenge.RW_watchbeats_k12_starts_of_parts
set_option Elab.async false
set_option linter.all false
set_option maxRecDepth 100000
set_option maxHeartbeats 4000000
/-! the starts of the parts with an index, def by def -/
namespace Pf
open PySem L2 Evl

def topS (i : Nat) : Stmt := PySem.Challenge.pw_watchbeats_k12_starts_of_parts.main.body.getD i (.Pass ⟨0, 0, 0, 0⟩)
abbrev s_BadNumber_init : Stmt := inClass (topS 3) 0
abbrev N_BadNumber_init : List Str := ["self", "name", "value"]
abbrev s_RepeatedHour_init : Stmt := inClass (topS 4) 0
abbrev N_RepeatedHour_init : List Str := ["self", "hour"]
abbrev s_Lot_init : Stmt := inClass (topS 9) 1
abbrev N_Lot_init : List Str := ["self", "hours", "members", "taken", "member", "hour"]
abbrev s_Lot_members : Stmt := inClass (topS 9) 3
abbrev N_Lot_members : List Str := ["self"]
abbrev s_starts_of : Stmt := topS 13
abbrev N_starts_of : List Str := ["parts", "hours", "index", "tile", "start"]
abbrev s_u_law_cell : Stmt := topS 15
abbrev N_u_law_cell : List Str := ["script", "k"]
abbrev s_u_law_draws : Stmt := topS 16
abbrev N_u_law_draws : List Str := ["cell", "salt", "menu", "found", "rest", "mixed", "k"]
abbrev s_u_law_is_int : Stmt := topS 17
abbrev N_u_law_is_int : List Str := ["x"]
abbrev s_u_law_same : Stmt := topS 18
abbrev N_u_law_same : List Str := ["got", "due", "k"]
abbrev s_u_law_any_parts : Stmt := topS 19
abbrev N_u_law_any_parts : List Str := ["cell", "n", "base", "doubles", "menu", "k", "draws", "parts", "part"]
abbrev s_u_law_round_parts : Stmt := topS 20
abbrev N_u_law_round_parts : List Str := ["cell", "n", "base", "doubles", "draws", "parts", "k", "later", "part"]
abbrev s_u_law_due : Stmt := topS 21
abbrev N_u_law_due : List Str := ["parts", "n", "index", "met", "h", "i", "s"]
abbrev s_u_law_refused_by_base : Stmt := topS 22
abbrev N_u_law_refused_by_base : List Str := ["parts", "n", "index", "told", "e"]
abbrev s_u_law_right : Stmt := topS 23
abbrev N_u_law_right : List Str := ["parts", "n", "index", "due", "handed", "lot", "told", "e", "row"]
abbrev s_u_law_bad_hours : Stmt := topS 24
abbrev N_u_law_bad_hours : List Str := ["parts", "hours", "index", "told", "e"]
abbrev s_law : Stmt := topS 25
abbrev N_law : List Str := ["script", "first", "n", "base", "parts", "once", "part", "index", "hours"]

theorem some_int {ns : List Int} {i : Nat} {y : V} (h : (ns.map V.int)[i]? = some y) : ∃ u, y = V.int u ∧ ns[i]? = some u := by
  rw [List.getElem?_map] at h
  cases e : ns[i]? with
  | none => rw [e] at h; cases h
  | some u => rw [e] at h; exact ⟨u, (Option.some.inj h).symm, rfl⟩
theorem wayT {c A B : Prop} [Decidable c] (h : c) (a : A) : if decide c = true then A else B := by rw [decide_eq_true h]; exact iteT a
theorem wayF {c A B : Prop} [Decidable c] (h : ¬ c) (b : B) : if decide c = true then A else B := by rw [decide_eq_false h]; exact iteF b
theorem way {c A B : Prop} [Decidable c] (a : c → A) (b : ¬ c → B) : if decide c = true then A else B := by
  by_cases h : c
  · exact wayT h (a h)
  · exact wayF h (b h)
theorem wayNT {c A B : Prop} [Decidable c] (h : c) (b : B) : if (!decide c) = true then A else B := by rw [decide_eq_true h]; exact iteF b
theorem wayNF {c A B : Prop} [Decidable c] (h : ¬ c) (a : A) : if (!decide c) = true then A else B := by rw [decide_eq_false h]; exact iteT a
theorem dec_ii {a b : Int} : decide (V.int a = V.int b) = decide (a = b) := by simp
theorem dec_bb {a b : Bool} : decide (V.bl a = V.bl b) = decide (a = b) := by simp
/-- the ints that a comprehension over a range gives -/
def pick (n : Nat) (f : Nat → Bool) (g : Nat → Int) : List Int := ((List.range n).filter f).map g
theorem given_pick (n : Nat) (f : Nat → Bool) (g : Nat → Int) : given n f (fun i => V.int (g i)) = (pick n f g).map V.int := by
  unfold given pick
  rw [List.map_map]
  rfl
theorem pick_len (n : Nat) (f : Nat → Bool) (g : Nat → Int) : (pick n f g).length ≤ n := by
  unfold pick
  rw [List.length_map]
  have := List.length_filter_le f (List.range n)
  rwa [List.length_range] at this
theorem pick_congr {n : Nat} {f f' : Nat → Bool} {g : Nat → Int} (h : ∀ i, i < n → f i = f' i) : pick n f g = pick n f' g := by
  unfold pick
  rw [List.filter_congr fun i hi => h i (List.mem_range.mp hi)]
theorem el_rng2 {σ : L2.St} {H : Hp} {te : TE} {tt : TT} {ta : TA} {j : Nat} {vs : List Nat} {lo hi : Int} (f : Nat → Bool) (v : Nat → V) (h : EvA ta σ H [.int lo, .int hi]) (hn : 0 ≤ lo ∧ lo ≤ 40000 ∧ -40000 ≤ hi ∧ hi ≤ 40000)
    (hw : ∀ x, wipe ((wipe σ vs).set j (some x)) vs = wipe σ vs)
    (ht : ∀ (i : Nat) H1, Ex H H1 → lo + (i : Int) < hi → EvT tt ((wipe σ vs).set j (some (.int (lo + (i : Int))))) H1 (f i))
    (he : ∀ (i : Nat) H1, Ex H H1 → lo + (i : Int) < hi → f i = true → Ev te ((wipe σ vs).set j (some (.int (lo + (i : Int))))) H1 (v i)) :
    EvL (tLc (iRng2 ta) (gName j) tt te vs) σ H (given (hi - lo).toNat f v) := by
  intro H0 e Q q
  refine h H0 e _ fun H1 e1 => ⟨lo, hi, rfl, ⟨by omega, by omega, by omega, by omega⟩, fun D hD => ?_⟩
  exact lc_range (lo := lo) (n := (hi - lo).toNat) (Cw H1 f v D) ⟨hD, Ex.new hD, upd_same⟩
    (fun i H' hi' p => ⟨hw _, cw_turn p (by omega) (ht i H1 (e.trans e1) (by omega)) (fun hf => he i H1 (e.trans e1) (by omega) hf)⟩)
    (fun H' p => q D H' (fresh_back e1 p.1) (e1.trans p.2.1) p.2.2)
theorem given_list (xs : List Int) (p : Int → Bool) : given (xs.map V.int).length (fun i => p (xs.getD i 0)) (fun i => V.int (xs.getD i 0)) = (xs.filter p).map V.int := by
  rw [List.length_map]
  induction xs with
  | nil => rfl
  | cons x xs ih =>
    unfold given at ih ⊢
    rw [List.length_cons, List.range_succ_eq_map, List.filter_cons, List.filter_map]
    have e : ∀ (z : List Nat), (z.filter ((fun i => p ((x :: xs).getD i 0)) ∘ Nat.succ)) = z.filter fun i => p (xs.getD i 0) := fun z => List.filter_congr fun i _ => by simp
    rw [e]
    by_cases hp : p x = true
    · rw [if_pos (by simpa using hp), List.filter_cons, if_pos hp, List.map_cons, List.map_cons, ← ih, List.map_map]
      simp
    · rw [if_neg (by simpa using hp), List.filter_cons, if_neg hp, ← ih, List.map_map]
      simp
theorem el_lst1 {K : PySem.W.Frag} {σ : L2.St} {H : Hp} {te tl : TE} {tt : TT} {j : Nat} {vs : List Nat} {a : Addr} (xs : List Int) (p : Int → Bool) (h : Ev tl σ H (.ref a)) (hx : SqL K H a (xs.map V.int)) (hz : xs.length ≤ 40000)
    (hw : ∀ x, wipe ((wipe σ vs).set j (some x)) vs = wipe σ vs)
    (ht : ∀ (x : Int) H1, Ex H H1 → x ∈ xs → EvT tt ((wipe σ vs).set j (some (.int x))) H1 (p x))
    (he : ∀ (x : Int) H1, Ex H H1 → x ∈ xs → Ev te ((wipe σ vs).set j (some (.int x))) H1 (.int x)) :
    EvL (tLc (iList K tl) (gName j) tt te vs) σ H ((xs.filter p).map V.int) := by
  rw [← given_list]
  have get : ∀ (i : Nat) (x : V), (xs.map V.int)[i]? = some x → x = .int (xs.getD i 0) ∧ xs.getD i 0 ∈ xs := fun i x hi => by
    obtain ⟨u, e, hu⟩ := some_int hi
    rw [List.getD_eq_getElem?_getD, hu]
    exact ⟨e, List.mem_of_getElem? hu⟩
  refine el_lcL _ _ h hx (by rw [List.length_map]; exact hz) hw (fun i x H1 e1 hi => ?_) (fun i x H1 e1 hi _ => ?_)
  · obtain ⟨rfl, hm⟩ := get i x hi
    exact ht _ H1 e1 hm
  · obtain ⟨rfl, hm⟩ := get i x hi
    exact he _ H1 e1 hm
theorem given_gen {α : Type} (d : α) (ps : List α) (p : α → Bool) (v : α → V) : given ps.length (fun i => p (ps.getD i d)) (fun i => v (ps.getD i d)) = (ps.filter p).map v := by
  induction ps with
  | nil => rfl
  | cons x xs ih =>
    unfold given at ih ⊢
    rw [List.length_cons, List.range_succ_eq_map, List.filter_cons, List.filter_map]
    have e : ∀ (z : List Nat), (z.filter ((fun i => p ((x :: xs).getD i d)) ∘ Nat.succ)) = z.filter fun i => p (xs.getD i d) := fun z => List.filter_congr fun i _ => by simp
    rw [e]
    by_cases hp : p x = true
    · rw [if_pos (by simpa using hp), List.filter_cons, if_pos hp, List.map_cons, List.map_cons, ← ih, List.map_map]
      simp
    · rw [if_neg (by simpa using hp), List.filter_cons, if_neg hp, ← ih, List.map_map]
      simp
/-- a comprehension over a list whose items stand for the things of ps, the target of any form -/
theorem el_lstG {α : Type} (d : α) {K : PySem.W.Frag} {σ : L2.St} {H : Hp} {te tl : TE} {tt : TT} {g : TG} {vs : List Nat} {a : Addr} (xs : List V) (ps : List α) (p : α → Bool) (v : α → V) (τ : α → L2.St)
    (h : Ev tl σ H (.ref a)) (hx : SqL K H a xs) (hl : xs.length = ps.length) (hz : ps.length ≤ 40000)
    (hg : ∀ (i : Nat) x y H1 (k : L2.St → Hp → Prop), Ex H H1 → xs[i]? = some x → ps[i]? = some y → k (τ y) H1 → g x (wipe σ vs) H1 k)
    (hw : ∀ y, wipe (τ y) vs = wipe σ vs) (ht : ∀ y H1, Ex H H1 → y ∈ ps → EvT tt (τ y) H1 (p y)) (he : ∀ y H1, Ex H H1 → y ∈ ps → p y = true → Ev te (τ y) H1 (v y)) :
    EvL (tLc (iList K tl) g tt te vs) σ H ((ps.filter p).map v) := by
  rw [← given_gen d ps p v]
  intro H0 e0 Q q
  refine h H0 e0 _ fun H1 e1 => ⟨a, rfl, ⟨xs, ex_l (e0.trans e1) hx⟩, fun D hD => ?_⟩
  refine lc_list (xs := xs) (Cw H1 (fun i => p (ps.getD i d)) (fun i => v (ps.getD i d)) D) ⟨hD, Ex.new hD, upd_same⟩ (fun i H' _ c => ex_l ((e0.trans e1).trans c.2.1) hx) (fun i x H' hi c => ?_)
    (fun H' c => by rw [hl] at c; exact q D H' (fresh_back e1 c.1) (e1.trans c.2.1) c.2.2)
  have hil : i < ps.length := by
    have := (List.getElem?_eq_some_iff.mp hi).1
    omega
  have hy : ps[i]? = some (ps.getD i d) := by rw [List.getD_eq_getElem?_getD, List.getElem?_eq_getElem hil]; rfl
  refine hg i x _ H' _ ((e0.trans e1).trans c.2.1) hi hy ⟨hw _, ?_⟩
  exact cw_turn c (by omega) (ht _ H1 (e0.trans e1) (List.mem_of_getElem? hy)) (fun hf => he _ H1 (e0.trans e1) (List.mem_of_getElem? hy) hf)
theorem pick_succ {n : Nat} {f : Nat → Bool} {g : Nat → Int} : pick (n + 1) f g = pick n f g ++ (if f n = true then [g n] else []) := by
  unfold pick
  rw [List.range_succ, List.filter_append, List.map_append, List.filter_cons]
  by_cases h : f n = true
  · rw [if_pos h, if_pos h]; rfl
  · rw [if_neg h, if_neg h]; rfl
theorem ev_gcd {σ : L2.St} {H : Hp} {ta : TA} {a b : Int} (h : EvA ta σ H [.int a, .int b]) : Ev (tCB rGcd ta) σ H (.int ((Nat.gcd a.natAbs b.natAbs : Nat) : Int)) :=
  ev_cb h fun H1 _ _ q => ⟨a, b, rfl, q H1 (Ex.refl H1)⟩
/-! ### rules whose reading says K by its own letter (within a comprehension's block too) -/
theorem ix_lK {X : Cx} {K : PySem.W.Frag} (h : X.K = K := by rfl) : IxR X (rIxL K) := by subst h; exact ix_list
theorem ix_tK {X : Cx} {K : PySem.W.Frag} (h : X.K = K := by rfl) : IxR X (rIxT K) := by subst h; exact ix_tup
theorem ix_sK {X : Cx} {K : PySem.W.Frag} (h : X.K = K := by rfl) : IxR X (rIx K) := by subst h; exact ix_seq
def rLenK (K : PySem.W.Frag) : List V → Hp → VK → Prop := fun xs H Q => ∃ x n, xs = [x] ∧ LenV K x H n ∧ Q (.int (n : Nat)) H
theorem len_K {X : Cx} {K : PySem.W.Frag} (h : X.K = K := by rfl) : CallR X (.builtin "len") (rLenK K) := by subst h; exact call_len
def rListK (K : PySem.W.Frag) : List V → Hp → VK → Prop := fun zs H Q => ∃ p ys, zs = [.ref p] ∧ (SqL K H p ys ∨ SqT K H p ys) ∧
  ∀ l, H l = none → Q (.ref l) (upd H l (.lst ys))
theorem list_K {X : Cx} {K : PySem.W.Frag} (h : X.K = K := by rfl) : CallR X (.type "list") (rListK K) := by subst h; exact call_list_of
theorem in_K {X : Cx} {K : PySem.W.Frag} (h : X.K = K := by rfl) : OpR X (compareOp .In) (rIn K false) := by subst h; exact op_in_seq
theorem notin_K {X : Cx} {K : PySem.W.Frag} (h : X.K = K := by rfl) : OpR X (compareOp .NotIn) (rIn K true) := by subst h; exact op_notIn_seq
theorem pg_tupK {X : Cx} {K : PySem.W.Frag} {pos : Pos} {es : List Expr} {k : Nat} {t : TGs} {n : Nat} (hk : X.K = K) (hc : X.calm = true) (h : PGs X es t)
    (hn : (assignEach es X.env).length = n := by rfl) (hst : (assignEach es X.env).findIdx? (·.1) = none := by rfl) : PG X (.Tuple es k pos) (gTup K n t) := by subst hk; exact pg_tup hc h hn hst
theorem isi_K {X : Cx} {K : PySem.W.Frag} (h : X.K = K := by rfl) : CallR X (.builtin "isinstance") (rIsi K) := by subst h; exact call_isi
/-! ### data -/
/-- data of a depth below n, of lists and tuples that are not too long -/
def Flat : Nat → PyData → Prop
  | 0, _ => False
  | n + 1, .list ds => ds.length ≤ 40000 ∧ ∀ d ∈ ds, Flat n d
  | n + 1, .tuple ds => ds.length ≤ 40000 ∧ ∀ d ∈ ds, Flat n d
  | _ + 1, .dict _ => False
  | _ + 1, _ => True
theorem dp_get {K : PySem.W.Frag} {H : Hp} : ∀ {xs : List V} {ds : List PyData}, DpAll K H xs ds → xs.length = ds.length ∧ ∀ (i : Nat) (d : PyData), ds[i]? = some d → ∃ x, xs[i]? = some x ∧ Dp K H x d
  | _, _, .nil => ⟨rfl, fun i d h => by simp at h⟩
  | _, _, .cons a r => by
    obtain ⟨l, g⟩ := dp_get r
    refine ⟨by simp [l], fun i d h => ?_⟩
    cases i with
    | zero => exact ⟨_, rfl, by simp at h; subst h; exact a⟩
    | succ i => simpa using g i d (by simpa using h)
theorem flatI {ns : List Int} (h : ns.length ≤ 360) : Flat 4 (.list (ns.map .int)) :=
  ⟨by rw [List.length_map]; omega, fun d hd => by
    obtain ⟨i, _, rfl⟩ := List.mem_map.mp hd
    exact True.intro⟩
theorem dp_ints {K : PySem.W.Frag} {H : Hp} : ∀ ns : List Int, DpAll K H (ns.map V.int) (ns.map PyData.int)
  | [] => .nil
  | n :: ns => .cons (.int n) (dp_ints ns)
mutual
theorem dp_ex {K : PySem.W.Frag} {H H' : Hp} (e : Ex H H') : ∀ {v : V} {d : PyData}, Dp K H v d → Dp K H' v d
  | _, _, .non => .non
  | _, _, .bl b => .bl b
  | _, _, .int i => .int i
  | _, _, .str x => .str x
  | _, _, .lst s a => .lst (ex_l e s) (dpa_ex e a)
  | _, _, .tup s a => .tup (ex_t e s) (dpa_ex e a)
theorem dpa_ex {K : PySem.W.Frag} {H H' : Hp} (e : Ex H H') : ∀ {vs : List V} {ds : List PyData}, DpAll K H vs ds → DpAll K H' vs ds
  | _, _, .nil => .nil
  | _, _, .cons a r => .cons (dp_ex e a) (dpa_ex e r)
end
theorem tyx_l {K : PySem.W.Frag} {H : Hp} {a : Addr} {xs : List V} (h : SqL K H a xs) : TyX K H (.ref a) (.type "list") := by
  rcases h with (h | ⟨o, h⟩) | ⟨o, its, n, h, c, _⟩
  · exact .base (.lst h)
  · exact .base (.frz h)
  · exact .kList h c
theorem tyx_t {K : PySem.W.Frag} {H : Hp} {a : Addr} {xs : List V} (h : SqT K H a xs) : TyX K H (.ref a) (.type "tuple") := by
  rcases h with (h | ⟨o, h⟩) | ⟨o, its, n, h, c, _⟩
  · exact .base (.tup h)
  · exact .fTuple h
  · exact .kTuple h c
/-- x is True, x is False, whatever x is -/
def rIsK : R2 := fun x y H Q => ∃ b : Bool, y = .bl b ∧ Q (.bl (decide (x = .bl b))) H
theorem op_isK {X : Cx} : OpR X (compareOp .Is) rIsK := by
  intro pins s σ H x y v u Q I rx ry h
  obtain ⟨b, hy, q⟩ := h
  subst hy
  cases (show u = Value.bool b from ry)
  have fin : ∀ k : Bool, k = decide (x = V.bl b) → EP X pins σ Q (.bool k) s := fun k e => ⟨.bl k, H, I, rfl, by rw [e]; exact q⟩
  cases x with
  | non => cases (show v = Value.none from rx); exact wpAny_is_other rfl (fun z => by cases z) (fin _ (by simp))
  | bl a =>
    cases (show v = Value.bool a from rx)
    by_cases e : a = b
    · subst e; exact wpAny_is_self rfl (fin _ (by simp))
    · exact wpAny_is_other rfl (fun z => e (Value.bool.inj z)) (fin _ (by simp [e]))
  | int i => obtain ⟨t, ev⟩ := rx; subst ev; exact wpAny_is_other rfl (fun z => by cases z) (fin _ (by simp))
  | str i => obtain ⟨t, ev⟩ := rx; subst ev; exact wpAny_is_other rfl (fun z => by cases z) (fin _ (by simp))
  | byt i => obtain ⟨t, ev⟩ := rx; subst ev; exact wpAny_is_other rfl (fun z => by cases z) (fin _ (by simp))
  | flt i => obtain ⟨t, ev⟩ := rx; subst ev; exact wpAny_is_other rfl (fun z => by cases z) (fin _ (by simp))
  | ref a => cases (show v = Value.ref a from rx); exact wpAny_is_other rfl (fun z => by cases z) (fin _ (by simp))
  | ty n => cases (show v = Value.type n from rx); exact wpAny_is_other rfl (fun z => by cases z) (fin _ (by simp))
theorem atI_ints {ns : List Int} {i : Int} (h0 : 0 ≤ i) (h1 : i < (ns.length : Int)) : atI (ns.map V.int) i = some (.int (ns.getD i.toNat 0)) := by
  obtain ⟨j, rfl⟩ : ∃ j : Nat, i = (j : Int) := ⟨i.toNat, by omega⟩
  refine atI_nat ?_
  have hj : j < ns.length := by omega
  rw [List.getElem?_map, Int.toNat_natCast, List.getD_eq_getElem?_getD, List.getElem?_eq_getElem hj]
  rfl
/-! ### a caught error with fields -/
def rIsX (K : PySem.W.Frag) (D a : Addr) (cls : Value) (d : Option Addr) : List V → Hp → VK → Prop := fun xs H Q => cls = .ref D ∧ ∃ (dd : Addr) (fs : List (Str × V)) (c : V) (cv : Value) (b : Bool),
  d = some dd ∧ H dd = some (.xd fs) ∧ xs = [.ref a, c] ∧ (∀ u, RelV c u → u = cv) ∧ PySem.W.kitOne K (.ref D) cv = some b ∧ Q (.bl b) H
theorem call_isX {X : Cx} {a D : Addr} {oe : Obj} {cls : Value} {d : Option Addr} {pn : List (Addr × Obj)} (C : ExcC X.K D) (hz : Zc cls d oe) (hf : ∃ vs, oe.data = .fields vs) : CallR (X.suite a ((a, oe) :: pn)) (.builtin "isinstance") (rIsX X.K D a cls d) := by
  intro pins sh σ H zs us Q I rr hq
  obtain ⟨ec, dd, fs, c, cv, b, ed, hx, ez, hcv, hk, q⟩ := hq
  subst ez
  obtain ⟨u1, u2, eu, r1, r2⟩ := vals2 rr
  subst eu
  cases (show u1 = Value.ref a from r1)
  have e2 := hcv _ r2
  subst e2
  obtain ⟨hget, _⟩ := I.pin (a, oe) (List.mem_append.mpr (.inl List.mem_cons_self))
  obtain ⟨vs, hv⟩ := hf
  have ho : ObjOk X.prog X.w H sh.heap dd (.xd fs) := I.hok dd _ hx
  obtain ⟨mA, hns, _⟩ := ho
  obtain ⟨od, hod, _⟩ := lookIn_ns hns
  obtain ⟨cd, hcd, _⟩ := PySem.W.any_some C.hd
  have hcl : (PySem.W.clsIn X.K D).isSome = true := by rw [hcd]; rfl
  have J : PySem.W.InstAt sh.heap a oe D (some od) := ⟨hget, hz.1.trans ec, by unfold PySem.W.notCls; rw [hv], by rw [hz.2, ed]; exact hod⟩
  exact PySem.W.kia_one (PySem.W.kitx_exc hcl C.hg C.hk C.hs C.ha C.hn C.ht C.hm) I.kIn J hk (fun z => nomatch z) fun tk => ⟨.bl b, H, I.tok tk, rfl, q⟩
/-- a list drawn by a menu -/
def Drawn (ms ds : List Int) : Prop := ds.length = ms.length ∧ ∀ (i : Nat) (m : Int), ms[i]? = some m → ∃ d : Int, ds[i]? = some d ∧ 0 ≤ d ∧ d < m
theorem kitCls_own {K : PySem.W.Frag} {t : Value} {C : Addr} (hd : PySem.W.hasDictIn K C = true) (ty : PySem.W.typeIn K (.ref C) = some (.type "type")) : PySem.W.kitCls K t (.ref C) = PySem.W.subIn K t (.ref C) := by
  obtain ⟨cd, hc, _⟩ := PySem.W.any_some hd
  unfold PySem.W.kitCls
  simp [hc, ty]
theorem kit_self {K : PySem.W.Frag} {t : Value} : PySem.W.kitOne K t t = some true := by
  unfold PySem.W.kitOne
  rw [if_pos (beq_self_eq_true t)]
theorem kit_yes {K : PySem.W.Frag} {t : Value} {C : Addr} (hd : PySem.W.hasDictIn K C = true) (ty : PySem.W.typeIn K (.ref C) = some (.type "type")) (s : PySem.W.subIn K t (.ref C) = some true) : PySem.W.kitOne K t (.ref C) = some true := by
  unfold PySem.W.kitOne
  split
  · rfl
  · rw [kitCls_own hd ty]; exact s
theorem kit_no {K : PySem.W.Frag} {t : Value} {C : Addr} (hd : PySem.W.hasDictIn K C = true) (ty : PySem.W.typeIn K (.ref C) = some (.type "type")) (me : PySem.W.subIn K (.ref C) (.ref C) = some true) (s : PySem.W.subIn K t (.ref C) = some false) : PySem.W.kitOne K t (.ref C) = some false := by
  unfold PySem.W.kitOne
  split
  · rename_i e
    rw [beq_iff_eq] at e
    rw [e, me] at s
    cases s
  · rw [kitCls_own hd ty]; exact s
theorem kit_bi {K : PySem.W.Frag} {C : Addr} {n : String} {b : Bool} (hm : PySem.W.kitMeta n = true) (s : PySem.W.subIn K (.ref C) (.type n) = some b) : PySem.W.kitOne K (.ref C) (.type n) = some b := by
  unfold PySem.W.kitOne PySem.W.kitCls
  rw [if_neg (by simp)]
  show (if PySem.W.kitMeta n = true then PySem.W.subIn K (.ref C) (.type n) else none) = some b
  rw [if_pos hm]
  exact s
theorem drawn4 {a b c d : Int} {ds : List Int} (h : Drawn [a, b, c, d] ds) : ∃ w x y z, ds = [w, x, y, z] ∧ (0 ≤ w ∧ w < a) ∧ (0 ≤ x ∧ x < b) ∧ (0 ≤ y ∧ y < c) ∧ (0 ≤ z ∧ z < d) := by
  obtain ⟨hl, g⟩ := h
  match ds, hl with
  | [w, x, y, z], _ =>
    obtain ⟨w', e0, h0⟩ := g 0 a rfl
    obtain ⟨x', e1, h1⟩ := g 1 b rfl
    obtain ⟨y', e2, h2⟩ := g 2 c rfl
    obtain ⟨z', e3, h3⟩ := g 3 d rfl
    cases e0; cases e1; cases e2; cases e3
    exact ⟨_, _, _, _, rfl, h0, h1, h2, h3⟩
/-! ### own errors with one field and with two -/
def spErr1 (K : PySem.W.Frag) (C : Addr) (f : Str) : Sp := fun vs H Q _ => ∃ (a : Addr) (x : V), vs = [.ref a, x] ∧ OexC K C ∧ H a = some (exo a C none) ∧ ∀ d, H d = none → d ≠ a → Q .non (upd (upd H d (exd d [(f, x)])) a (exo a C (some d)))
def spErr2 (K : PySem.W.Frag) (C : Addr) (f g : Str) : Sp := fun vs H Q _ => ∃ (a : Addr) (x y : V), vs = [.ref a, x, y] ∧ OexC K C ∧ H a = some (exo a C none) ∧
  ∀ d, H d = none → d ≠ a → Q .non (upd (upd (upd H d (exd d [(f, x)])) a (exo a C (some d))) d (exd d [(g, y), (f, x)]))
theorem raise1 {K : PySem.W.Frag} {C : Addr} {f : Str} {H : Hp} {E : XK} {σ : L2.St} {ta : TA} {x : V} (hC : OexC K C) (hta : ∀ Q : List V → Hp → Prop, Q [x] H → ta σ H Q)
    (k : ∀ d H', Ex H H' → H' d = some (.xd [(f, x)]) → E (.ref C) (some d) H') : tMkO C (spErr1 K C f) [] ta σ H E := by
  refine hta _ ⟨by show (1 : Nat) ≤ 1000; decide, fun a ha => ⟨a, x, rfl, hC, upd_same, fun d hd hne => ?_⟩⟩
  have hd' : H d = none := by rw [upd_ne hne] at hd; exact hd
  have han : a ≠ d := fun e => hne e.symm
  refine ⟨rfl, d, _, upd_same, ?_, hd', k d _ (fun b o hb => ?_) upd_same⟩
  · rw [upd_ne hne, upd_same]
  · have h1 : b ≠ a := ne_of_none hb ha
    have h2 : b ≠ d := ne_of_none hb hd'
    rw [upd_ne h2, del_ne h1, upd_ne h1, upd_ne h2, upd_ne h1]
    exact hb
theorem raise2 {K : PySem.W.Frag} {C : Addr} {f g : Str} {H : Hp} {E : XK} {σ : L2.St} {ta : TA} {x y : V} (hC : OexC K C) (hta : ∀ Q : List V → Hp → Prop, Q [x, y] H → ta σ H Q)
    (k : ∀ d H', Ex H H' → H' d = some (.xd [(g, y), (f, x)]) → E (.ref C) (some d) H') : tMkO C (spErr2 K C f g) [] ta σ H E := by
  refine hta _ ⟨by show (2 : Nat) ≤ 1000; decide, fun a ha => ⟨a, x, y, rfl, hC, upd_same, fun d hd hne => ?_⟩⟩
  have hd' : H d = none := by rw [upd_ne hne] at hd; exact hd
  have han : a ≠ d := fun e => hne e.symm
  refine ⟨rfl, d, _, ?_, upd_same, hd', k d _ (fun b o hb => ?_) upd_same⟩
  · rw [upd_ne han, upd_same]
  · have h1 : b ≠ a := ne_of_none hb ha
    have h2 : b ≠ d := ne_of_none hb hd'
    rw [upd_ne h2, del_ne h1, upd_ne h2, upd_ne h1, upd_ne h2, upd_ne h1]
    exact hb
/-- what a cell of the script is worth -/
def cellA (ns : List Int) (k : Nat) : Int := if k < ns.length then (if ns.getD k 0 < 0 then - ns.getD k 0 else ns.getD k 0) else 0
theorem cellA_nn (ns : List Int) (k : Nat) : 0 ≤ cellA ns k := by
  unfold cellA
  split
  · split <;> omega
  · omega

/-! ### lots -/
def lotF (n : Int) (l : Addr) : List (Str × V) := [("hours", .int n), ("_members", .ref l)]
/-- v is a lot of n hours with the members ms -/
def LotAt (C : Addr) (H : Hp) (v : V) (n : Int) (ms : List Int) : Prop := ∃ a dx l, v = .ref a ∧ H a = some (.ins C dx (lotF n l)) ∧ H l = some (.lst (ms.map V.int))
theorem LotAt.ex {C : Addr} {H H' : Hp} {v : V} {n : Int} {ms : List Int} (e : Ex H H') (h : LotAt C H v n ms) : LotAt C H' v n ms := by
  obtain ⟨a, dx, l, rfl, h1, h2⟩ := h
  exact ⟨a, dx, l, rfl, e _ _ h1, e _ _ h2⟩
/-- the first residue that was seen before -/
def scanR (n : Int) : List Int → List Int → Option Int
  | _, [] => none
  | seen, m :: r => if m % n ∈ seen then some (m % n) else scanR n (seen ++ [m % n]) r
def resid (n : Int) (S : List Int) : List Int := pick n.toNat (fun h => decide ((h : Int) ∈ S)) fun h => (h : Int)
def flags (N : Nat) (S : List Int) : List V := (List.range N).map fun h : Nat => V.bl (decide ((h : Int) ∈ S))
theorem flags_nil (N : Nat) : (List.replicate N [V.bl false]).flatten = flags N [] := by
  unfold flags
  induction N with
  | zero => rfl
  | succ N ih =>
    rw [List.range_succ, List.map_append, ← ih, List.replicate_succ', List.flatten_append]
    simp
theorem flags_get {N : Nat} {S : List Int} {j : Nat} (h : j < N) : (flags N S)[j]? = some (.bl (decide ((j : Int) ∈ S))) := by
  unfold flags
  rw [List.getElem?_map, List.getElem?_range h]
  rfl
theorem flags_len {N : Nat} {S : List Int} : (flags N S).length = N := by
  unfold flags
  rw [List.length_map, List.length_range]
theorem flags_set {N : Nat} {S : List Int} {j : Nat} (h : j < N) : (flags N S).set j (.bl true) = flags N (S ++ [(j : Int)]) := by
  refine List.ext_getElem? fun i => ?_
  by_cases hi : i < N
  · rw [flags_get hi]
    by_cases e : i = j
    · subst e
      rw [List.getElem?_set_self (by rw [flags_len]; exact hi)]
      simp
    · rw [List.getElem?_set_ne (by omega), flags_get hi]
      have : ¬ (i : Int) = (j : Int) := by omega
      simp [this]
  · rw [List.getElem?_eq_none (by rw [List.length_set, flags_len]; omega), List.getElem?_eq_none (by rw [flags_len]; omega)]
theorem el_rng1 {σ : L2.St} {H : Hp} {te : TE} {tt : TT} {ta : TA} {j : Nat} {vs : List Nat} {n : Int} (f : Nat → Bool) (v : Nat → V) (h : EvA ta σ H [.int n]) (hn : 0 ≤ n ∧ n ≤ 40000)
    (hw : ∀ x, wipe ((wipe σ vs).set j (some x)) vs = wipe σ vs)
    (ht : ∀ (i : Nat) H1, Ex H H1 → (i : Int) < n → EvT tt ((wipe σ vs).set j (some (.int (i : Int)))) H1 (f i))
    (he : ∀ (i : Nat) H1, Ex H H1 → (i : Int) < n → f i = true → Ev te ((wipe σ vs).set j (some (.int (i : Int)))) H1 (v i)) :
    EvL (tLc (iRng1 ta) (gName j) tt te vs) σ H (given n.toNat f v) := el_lcR1 f v h hn hw ht he
theorem putF2 {y z : V} : putF "_members" z (putF "hours" y []) = [(("hours" : Str), y), (("_members" : Str), z)] := by
  have h : ¬ ("hours" : Str) = "_members" := by decide +kernel
  show (if ("hours" : Str) = "_members" then _ else (("hours" : Str), y) :: putF "_members" z []) = _
  rw [if_neg h]
  rfl

/-! ### parts -/
/-- the items xs are the pairs ps -/
def Prs (K : PySem.W.Frag) (H : Hp) (xs : List V) (ps : List (Int × Int)) : Prop := xs.length = ps.length ∧
  ∀ (i : Nat) x, xs[i]? = some x → ∃ (t : Addr) (p : Int × Int), x = .ref t ∧ ps[i]? = some p ∧ SqT K H t [.int p.1, .int p.2]
/-- v is a list of parts -/
def PartsAt (K : PySem.W.Frag) (H : Hp) (v : V) (ps : List (Int × Int)) : Prop := ∃ a xs, v = .ref a ∧ SqL K H a xs ∧ Prs K H xs ps
theorem Prs.ex {K : PySem.W.Frag} {H H' : Hp} {xs : List V} {ps : List (Int × Int)} (e : Ex H H') (h : Prs K H xs ps) : Prs K H' xs ps :=
  ⟨h.1, fun i x hx => by
    obtain ⟨t, p, e1, e2, e3⟩ := h.2 i x hx
    exact ⟨t, p, e1, e2, ex_t e e3⟩⟩
theorem PartsAt.ex {K : PySem.W.Frag} {H H' : Hp} {v : V} {ps : List (Int × Int)} (e : Ex H H') (h : PartsAt K H v ps) : PartsAt K H' v ps := by
  obtain ⟨a, xs, rfl, h1, h2⟩ := h
  exact ⟨a, xs, rfl, ex_l e h1, h2.ex e⟩
theorem sqT_mut {K : PySem.W.Frag} {H : Hp} {l t : Addr} {o : HO} {xs ys : List V} (hl : H l = some (.lst ys)) (h : SqT K H t xs) : SqT K (upd H l o) t xs := by
  have ne : ∀ {z : HO}, H t = some z → (∀ ys, z ≠ .lst ys) → t ≠ l := fun hz hn e => by
    rw [e, hl] at hz
    exact hn _ (Option.some.inj hz).symm
  rcases h with (h | ⟨o', h⟩) | h
  · exact .inl (.inl (by rw [upd_ne (ne h fun _ z => by cases z)]; exact h))
  · exact .inl (.inr ⟨o', by rw [upd_ne (ne h fun _ z => by cases z)]; exact h⟩)
  · exact .inr h
theorem Prs.mut {K : PySem.W.Frag} {H : Hp} {l : Addr} {o : HO} {ys xs : List V} {ps : List (Int × Int)} (hl : H l = some (.lst ys)) (h : Prs K H xs ps) : Prs K (upd H l o) xs ps :=
  ⟨h.1, fun i x hx => by
    obtain ⟨t, p, e1, e2, e3⟩ := h.2 i x hx
    exact ⟨t, p, e1, e2, sqT_mut hl e3⟩⟩
theorem Prs.nil {K : PySem.W.Frag} {H : Hp} : Prs K H [] [] := ⟨rfl, fun i x h => by simp at h⟩
theorem Prs.snoc {K : PySem.W.Frag} {H : Hp} {xs : List V} {ps : List (Int × Int)} {t : Addr} {p : Int × Int} (h : Prs K H xs ps) (ht : SqT K H t [.int p.1, .int p.2]) : Prs K H (xs ++ [.ref t]) (ps ++ [p]) := by
  refine ⟨by simp [h.1], fun i x hx => ?_⟩
  by_cases hi : i < xs.length
  · rw [List.getElem?_append_left hi] at hx
    obtain ⟨t', p', e1, e2, e3⟩ := h.2 i x hx
    exact ⟨t', p', e1, by rw [List.getElem?_append_left (by rw [← h.1]; exact hi)]; exact e2, e3⟩
  · rw [List.getElem?_append_right (by omega)] at hx
    have hz : i - xs.length = 0 := by
      have := (List.getElem?_eq_some_iff.mp hx).1
      simp at this
      omega
    rw [hz] at hx
    cases hx
    refine ⟨t, p, rfl, ?_, ht⟩
    rw [List.getElem?_append_right (by rw [← h.1]; omega), ← h.1, hz]
    rfl
def ptD (p : Int × Int) : PyData := .tuple [.int p.1, .int p.2]
theorem Prs.dp {K : PySem.W.Frag} {H : Hp} : ∀ {xs : List V} {ps : List (Int × Int)}, Prs K H xs ps → DpAll K H xs (ps.map ptD)
  | [], [], _ => .nil
  | [], _ :: _, h => by cases h.1
  | _ :: _, [], h => by cases h.1
  | x :: xs, p :: ps, h => by
    obtain ⟨t, p', rfl, e2, e3⟩ := h.2 0 x rfl
    cases e2
    exact .cons (.tup e3 (.cons (.int _) (.cons (.int _) .nil))) (Prs.dp ⟨Nat.succ.inj h.1, fun i y hy => h.2 (i + 1) y (by simpa using hy)⟩)
theorem ptD_shaped (p : Int × Int) : SeqAt.shaped (ptD p) = true := by
  have h : (ptD p).canLay0 = true ∧ (ptD p).depth = 1 := by simp [ptD, PyData.canLay0, PyData.canLayAll0, PyData.depth, PyData.depthAll]
  unfold SeqAt.shaped
  rw [h.1, h.2]
  rfl
theorem ptDs_shaped (ps : List (Int × Int)) : SeqAt.shaped (.list (ps.map ptD)) = true := by
  have h : PyData.canLayAll0 (ps.map ptD) = true ∧ PyData.depthAll (ps.map ptD) ≤ 1 := by
    induction ps with
    | nil => simp [PyData.canLayAll0, PyData.depthAll]
    | cons p ps ih =>
      have h1 : (ptD p).canLay0 = true ∧ (ptD p).depth = 1 := by simp [ptD, PyData.canLay0, PyData.canLayAll0, PyData.depth, PyData.depthAll]
      simp only [List.map_cons, PyData.canLayAll0, PyData.depthAll]
      rw [h1.1, h1.2, ih.1]
      exact ⟨rfl, by omega⟩
  unfold SeqAt.shaped
  simp only [PyData.canLay0, PyData.depth]
  rw [h.1]
  simp
  omega
theorem flat_pts {ps : List (Int × Int)} (h : ps.length ≤ 40000) : Flat 4 (.list (ps.map ptD)) := ⟨by rw [List.length_map]; exact h, fun d hd => by
  obtain ⟨p, _, rfl⟩ := List.mem_map.mp hd
  exact ⟨by show 2 ≤ 40000; decide, fun d hd => by
    simp only [List.mem_cons, List.not_mem_nil, or_false] at hd
    rcases hd with rfl | rfl <;> exact True.intro⟩⟩
theorem room65 {k : Nat} {A : Around} (r : Room k A) : A.units + 65 < cLine := by have := r.un; omega
theorem rv_new {K : PySem.W.Frag} {H : Hp} {xs : List V} {ps : List (Int × Int)} {p : Int × Int} {l t : Addr} (hl : SqL K H l xs) (hp : Prs K H xs ps) (ht : SqT K H t [.int p.1, .int p.2]) :
    RV (rNotInD K) (.ref t) (.ref l) H (.bl (!(ps.map ptD).any fun z => PyData.eqv z (ptD p))) := fun H1 e Q q =>
  ⟨ptD p, ps.map ptD, dp_ex e (.tup ht (.cons (.int _) (.cons (.int _) .nil))), .lst (ex_l e hl) (dpa_ex e hp.dp), ptD_shaped p, ptDs_shaped ps, q H1 (Ex.refl H1)⟩
/-- a part is put in, if it is not there or may be there twice -/
theorem add_part {K : PySem.W.Frag} {σ : L2.St} {H : Hp} {D : Ends} {j : Nat} {d : Bool} {l t : Addr} {xs : List V} {ps : List (Int × Int)} {p : Int × Int} (hd : σ[3]? = some (some (.bl d))) (hj : σ[j]? = some (some (.ref l))) (h8 : σ[8]? = some (some (.ref t)))
    (hl : H l = some (.lst xs)) (hp : Prs K H xs ps) (ht : SqT K H t [.int p.1, .int p.2]) (hz : ps.length < 100000) (k1 : ∀ H1, Ex H H1 → D.nx σ H1) (k2 : ∀ H1, Ex H H1 → D.nx σ (upd H1 l (.lst (xs ++ [.ref t])))) :
    tIfS (tOr (tB (tVar 3)) (tTest (tOp (rNotInD K) (tVar 8) (tVar j)))) (tDrop (tBM K "list" rAppend (tVar j) (tCons (tVar 8) tNil))) tNext D σ H :=
  s_when (et_or (et_B (ev_var hd)) fun _ => et_test (ev_op (ev_var h8) (ev_var hj) (rv_new (sq_of hl) hp ht))) (fun _ H1 e1 => s_app (e1 _ _ hl) (ev_var hj) (ev_var h8) (by rw [hp.1]; exact hz) fun H2 e2 => k2 H2 (e1.trans e2)) (fun _ H1 e1 => k1 H1 e1)
/-- the starts of the parts with an index -/
def sel (ps : List (Int × Int)) (i : Int) : List Int := (ps.filter fun p => decide (p.1 = i)).map (·.2)
theorem sel_take {ps : List (Int × Int)} {j : Nat} {p : Int × Int} {i : Int} (h : ps[j]? = some p) : sel (ps.take (j + 1)) i = sel (ps.take j) i ++ (if p.1 = i then [p.2] else []) := by
  unfold sel
  rw [List.take_succ, h, List.filter_append, List.map_append]
  by_cases e : p.1 = i <;> simp [e]
theorem sel_drop {ps : List (Int × Int)} {j : Nat} {p : Int × Int} {i : Int} (h : ps[j]? = some p) : sel (ps.drop j) i = (if p.1 = i then [p.2] else []) ++ sel (ps.drop (j + 1)) i := by
  unfold sel
  have hj := (List.getElem?_eq_some_iff.mp h)
  obtain ⟨hl, hp⟩ := hj
  rw [List.drop_eq_getElem_cons hl, hp]
  by_cases e : p.1 = i <;> simp [e]
def flagI (N : Nat) (S : List Int) : List V := (List.range N).map fun h : Nat => V.int (if (h : Int) ∈ S then 1 else 0)
theorem flagI_get {N : Nat} {S : List Int} {j : Nat} (h : j < N) : (flagI N S)[j]? = some (.int (if (j : Int) ∈ S then 1 else 0)) := by
  unfold flagI
  rw [List.getElem?_map, List.getElem?_range h]
  rfl
theorem flagI_len {N : Nat} {S : List Int} : (flagI N S).length = N := by
  unfold flagI
  rw [List.length_map, List.length_range]
theorem flagI_set {N : Nat} {S : List Int} {j : Nat} (h : j < N) : (flagI N S).set j (.int 1) = flagI N (S ++ [(j : Int)]) := by
  refine List.ext_getElem? fun i => ?_
  by_cases hi : i < N
  · rw [flagI_get hi]
    by_cases e : i = j
    · subst e
      rw [List.getElem?_set_self (by rw [flagI_len]; exact hi)]
      simp
    · rw [List.getElem?_set_ne (by omega), flagI_get hi]
      have : ¬ (i : Int) = (j : Int) := by omega
      simp [this]
  · rw [List.getElem?_eq_none (by rw [List.length_set, flagI_len]; omega), List.getElem?_eq_none (by rw [flagI_len]; omega)]
/-- an if without else, then what follows where M holds -/
theorem q_alt {b : Bool} {t : TT} {tu tz : TS} {D : Ends} {σ : L2.St} {H : Hp} (M : L2.St → Hp → Prop) (h : EvT t σ H b) (h1 : b = true → ∀ H1, Ex H H1 → ∀ W : L2.St → Hp → Prop, (∀ σ' H', M σ' H' → W σ' H') → tu { D with nx := W } σ H1)
    (h2 : b = false → ∀ H1, Ex H H1 → M σ H1) (k : ∀ σ' H', M σ' H' → tz D σ' H') : tSeq (tIfS t tu tNext) tz D σ H :=
  q_when h (fun hb H1 e1 => h1 hb H1 e1 _ k) (fun hb H1 e1 => k _ _ (h2 hb H1 e1))
theorem q_two {b : Bool} {t : TT} {tu tw tz : TS} {D : Ends} {σ : L2.St} {H : Hp} (M : L2.St → Hp → Prop) (h : EvT t σ H b) (h1 : b = true → ∀ H1, Ex H H1 → ∀ W : L2.St → Hp → Prop, (∀ σ' H', M σ' H' → W σ' H') → tu { D with nx := W } σ H1)
    (h2 : b = false → ∀ H1, Ex H H1 → ∀ W : L2.St → Hp → Prop, (∀ σ' H', M σ' H' → W σ' H') → tw { D with nx := W } σ H1) (k : ∀ σ' H', M σ' H' → tz D σ' H') : tSeq (tIfS t tu tw) tz D σ H :=
  q_if h (fun hb H1 e1 => h1 hb H1 e1 _ k) (fun hb H1 e1 => h2 hb H1 e1 _ k)
/-- all starts stand on the ring -/
def Fit (n : Int) (ps : List (Int × Int)) : Prop := ∀ p ∈ ps, 0 ≤ p.2 ∧ p.2 < n
theorem Fit.sel {n : Int} {ps : List (Int × Int)} {i : Int} (h : Fit n ps) : ((Pf.sel ps i).map fun s => s % n) = Pf.sel ps i := by
  have e : ∀ x ∈ Pf.sel ps i, (fun s => s % n) x = id x := fun x hx => by
    obtain ⟨p, hp, rfl⟩ := List.mem_map.mp hx
    have := h p (List.mem_filter.mp hp).1
    exact Int.emod_eq_of_lt this.1 this.2
  rw [List.map_congr_left e, List.map_id]
theorem Fit.snoc {n : Int} {ps : List (Int × Int)} {p : Int × Int} (h : Fit n ps) (h0 : 0 ≤ p.2) (h1 : p.2 < n) : Fit n (ps ++ [p]) := fun q hq => by
  rcases List.mem_append.mp hq with hq | hq
  · exact h q hq
  · cases List.mem_singleton.mp hq
    exact ⟨h0, h1⟩
structure Ads where
  f_BadNumber_init : Addr
  d_BadNumber_init : FuncData
  f_RepeatedHour_init : Addr
  d_RepeatedHour_init : FuncData
  f_Lot_init : Addr
  d_Lot_init : FuncData
  f_Lot_members : Addr
  d_Lot_members : FuncData
  f_starts_of : Addr
  d_starts_of : FuncData
  f_u_law_cell : Addr
  d_u_law_cell : FuncData
  f_u_law_draws : Addr
  d_u_law_draws : FuncData
  f_u_law_is_int : Addr
  d_u_law_is_int : FuncData
  f_u_law_same : Addr
  d_u_law_same : FuncData
  f_u_law_any_parts : Addr
  d_u_law_any_parts : FuncData
  f_u_law_round_parts : Addr
  d_u_law_round_parts : FuncData
  f_u_law_due : Addr
  d_u_law_due : FuncData
  f_u_law_refused_by_base : Addr
  d_u_law_refused_by_base : FuncData
  f_u_law_right : Addr
  d_u_law_right : FuncData
  f_u_law_bad_hours : Addr
  d_u_law_bad_hours : FuncData
  f_law : Addr
  d_law : FuncData
  C_BadNumber : Addr
  C_RepeatedHour : Addr
  C_WatchError : Addr
  C_Lot : Addr
  p_Lot_members : Addr
structure Txt (K : PySem.W.Frag) (mg : Str → Option Value) (A : Ads) : Prop where
  F_BadNumber_init : Fun K "__init__" "BadNumber.__init__" s_BadNumber_init A.f_BadNumber_init A.d_BadNumber_init
  F_RepeatedHour_init : Fun K "__init__" "RepeatedHour.__init__" s_RepeatedHour_init A.f_RepeatedHour_init A.d_RepeatedHour_init
  F_Lot_init : Fun K "__init__" "Lot.__init__" s_Lot_init A.f_Lot_init A.d_Lot_init
  F_Lot_members : Fun K "members" "Lot.members" s_Lot_members A.f_Lot_members A.d_Lot_members
  F_starts_of : Fun K "starts_of" "starts_of" s_starts_of A.f_starts_of A.d_starts_of
  g_starts_of : mg "starts_of" = some (.ref A.f_starts_of)
  k_starts_of : PySem.W.keepIn K (.ref A.f_starts_of) = true
  F_u_law_cell : Fun K "_law_cell" "_law_cell" s_u_law_cell A.f_u_law_cell A.d_u_law_cell
  g_u_law_cell : mg "_law_cell" = some (.ref A.f_u_law_cell)
  k_u_law_cell : PySem.W.keepIn K (.ref A.f_u_law_cell) = true
  F_u_law_draws : Fun K "_law_draws" "_law_draws" s_u_law_draws A.f_u_law_draws A.d_u_law_draws
  g_u_law_draws : mg "_law_draws" = some (.ref A.f_u_law_draws)
  k_u_law_draws : PySem.W.keepIn K (.ref A.f_u_law_draws) = true
  F_u_law_is_int : Fun K "_law_is_int" "_law_is_int" s_u_law_is_int A.f_u_law_is_int A.d_u_law_is_int
  g_u_law_is_int : mg "_law_is_int" = some (.ref A.f_u_law_is_int)
  k_u_law_is_int : PySem.W.keepIn K (.ref A.f_u_law_is_int) = true
  F_u_law_same : Fun K "_law_same" "_law_same" s_u_law_same A.f_u_law_same A.d_u_law_same
  g_u_law_same : mg "_law_same" = some (.ref A.f_u_law_same)
  k_u_law_same : PySem.W.keepIn K (.ref A.f_u_law_same) = true
  F_u_law_any_parts : Fun K "_law_any_parts" "_law_any_parts" s_u_law_any_parts A.f_u_law_any_parts A.d_u_law_any_parts
  g_u_law_any_parts : mg "_law_any_parts" = some (.ref A.f_u_law_any_parts)
  k_u_law_any_parts : PySem.W.keepIn K (.ref A.f_u_law_any_parts) = true
  F_u_law_round_parts : Fun K "_law_round_parts" "_law_round_parts" s_u_law_round_parts A.f_u_law_round_parts A.d_u_law_round_parts
  g_u_law_round_parts : mg "_law_round_parts" = some (.ref A.f_u_law_round_parts)
  k_u_law_round_parts : PySem.W.keepIn K (.ref A.f_u_law_round_parts) = true
  F_u_law_due : Fun K "_law_due" "_law_due" s_u_law_due A.f_u_law_due A.d_u_law_due
  g_u_law_due : mg "_law_due" = some (.ref A.f_u_law_due)
  k_u_law_due : PySem.W.keepIn K (.ref A.f_u_law_due) = true
  F_u_law_refused_by_base : Fun K "_law_refused_by_base" "_law_refused_by_base" s_u_law_refused_by_base A.f_u_law_refused_by_base A.d_u_law_refused_by_base
  g_u_law_refused_by_base : mg "_law_refused_by_base" = some (.ref A.f_u_law_refused_by_base)
  k_u_law_refused_by_base : PySem.W.keepIn K (.ref A.f_u_law_refused_by_base) = true
  F_u_law_right : Fun K "_law_right" "_law_right" s_u_law_right A.f_u_law_right A.d_u_law_right
  g_u_law_right : mg "_law_right" = some (.ref A.f_u_law_right)
  k_u_law_right : PySem.W.keepIn K (.ref A.f_u_law_right) = true
  F_u_law_bad_hours : Fun K "_law_bad_hours" "_law_bad_hours" s_u_law_bad_hours A.f_u_law_bad_hours A.d_u_law_bad_hours
  g_u_law_bad_hours : mg "_law_bad_hours" = some (.ref A.f_u_law_bad_hours)
  k_u_law_bad_hours : PySem.W.keepIn K (.ref A.f_u_law_bad_hours) = true
  F_law : Fun K "law" "law" s_law A.f_law A.d_law
  g_law : mg "law" = some (.ref A.f_law)
  k_law : PySem.W.keepIn K (.ref A.f_law) = true
  z_abs : mg "abs" = none
  z_len : mg "len" = none
  z_int : mg "int" = none
  z_bool : mg "bool" = none
  z_str : mg "str" = none
  z_list : mg "list" = none
  z_tuple : mg "tuple" = none
  z_isinstance : mg "isinstance" = none
  z_range : mg "range" = none
  z_ValueError : mg "ValueError" = none
  g_BadNumber : mg "BadNumber" = some (.ref A.C_BadNumber)
  g_RepeatedHour : mg "RepeatedHour" = some (.ref A.C_RepeatedHour)
  g_WatchError : mg "WatchError" = some (.ref A.C_WatchError)
  g_Lot : mg "Lot" = some (.ref A.C_Lot)
  ox_BadNumber : OexC K A.C_BadNumber
  ni_BadNumber : PySem.W.findIn K (.ref A.C_BadNumber) "__init__" = some (some (.ref A.f_BadNumber_init))
  ti_BadNumber : PySem.W.typeIn K (.ref A.f_BadNumber_init) = some (.type "function")
  nf_BadNumber_name : PySem.W.findIn K (.ref A.C_BadNumber) "name" = some none
  nf_BadNumber_value : PySem.W.findIn K (.ref A.C_BadNumber) "value" = some none
  xf_BadNumber : XfC K A.C_BadNumber
  ex_BadNumber : ExcC K A.C_BadNumber
  ox_RepeatedHour : OexC K A.C_RepeatedHour
  ni_RepeatedHour : PySem.W.findIn K (.ref A.C_RepeatedHour) "__init__" = some (some (.ref A.f_RepeatedHour_init))
  ti_RepeatedHour : PySem.W.typeIn K (.ref A.f_RepeatedHour_init) = some (.type "function")
  nf_RepeatedHour_hour : PySem.W.findIn K (.ref A.C_RepeatedHour) "hour" = some none
  xf_RepeatedHour : XfC K A.C_RepeatedHour
  ex_RepeatedHour : ExcC K A.C_RepeatedHour
  xm_BadNumber_BadNumber : PySem.W.exmOne K (.ref A.C_BadNumber) (.ref A.C_BadNumber) = some true
  xm_RepeatedHour_RepeatedHour : PySem.W.exmOne K (.ref A.C_RepeatedHour) (.ref A.C_RepeatedHour) = some true
  xm_RepeatedHour_WatchError : PySem.W.exmOne K (.ref A.C_RepeatedHour) (.ref A.C_WatchError) = some true
  kit_RepeatedHour_ValueError : PySem.W.kitOne K (.ref A.C_RepeatedHour) (.type "ValueError") = some true
  kit_RepeatedHour_RepeatedHour : PySem.W.kitOne K (.ref A.C_RepeatedHour) (.ref A.C_RepeatedHour) = some true
  kit_RepeatedHour_BadNumber : PySem.W.kitOne K (.ref A.C_RepeatedHour) (.ref A.C_BadNumber) = some false
  cl_Lot : Cls K A.C_Lot
  mk_Lot : Mk K A.C_Lot A.f_Lot_init
  na_Lot_hours : NoAttr K A.C_Lot "hours"
  na_Lot_members : NoAttr K A.C_Lot "_members"
  ty_Lot : ∀ (H : Hp) (a dx : Addr) (fs : List (Str × V)), H a = some (.ins A.C_Lot dx fs) → TyX K H (.ref a) (.ref A.C_Lot)
  rd_Lot : ∃ mc, ClX.CRead K A.C_Lot mc ∧ (∃ t, ClX.CVal K A.C_Lot mc "MOST" (.int 360) (.int 360 t))
  P_Lot_members : PropOf K A.C_Lot "members" A.p_Lot_members A.f_Lot_members
section
variable {P : Program} {w : World} {K : PySem.W.Frag} {mg : Str → Option Value} {base : Heap} {A : Ads}
theorem sc_BadNumber_init : FnScope N_BadNumber_init (["self", "name", "value"] : List Str) (defScope s_BadNumber_init) := ⟨rfl, rfl, rfl, by decide +kernel, rfl, by decide +kernel, by decide +kernel⟩
theorem b_BadNumber_init (T : Txt K mg A) : Binds K A.d_BadNumber_init (["self", "name", "value"] : List Str) [] := T.F_BadNumber_init.binds (ps := (["self", "name", "value"] : List Str)) fun _ _ _ _ _ _ us hl => match us, hl with | [_, _, _], _ => rfl
theorem sc_RepeatedHour_init : FnScope N_RepeatedHour_init (["self", "hour"] : List Str) (defScope s_RepeatedHour_init) := ⟨rfl, rfl, rfl, by decide +kernel, rfl, by decide +kernel, by decide +kernel⟩
theorem b_RepeatedHour_init (T : Txt K mg A) : Binds K A.d_RepeatedHour_init (["self", "hour"] : List Str) [] := T.F_RepeatedHour_init.binds (ps := (["self", "hour"] : List Str)) fun _ _ _ _ _ _ us hl => match us, hl with | [_, _], _ => rfl
theorem sc_Lot_init : FnScope N_Lot_init (["self", "hours", "members"] : List Str) (defScope s_Lot_init) := ⟨rfl, rfl, rfl, by decide +kernel, rfl, by decide +kernel, by decide +kernel⟩
theorem b_Lot_init (T : Txt K mg A) : Binds K A.d_Lot_init (["self", "hours", "members"] : List Str) [] := T.F_Lot_init.binds (ps := (["self", "hours", "members"] : List Str)) fun _ _ _ _ _ _ us hl => match us, hl with | [_, _, _], _ => rfl
theorem sc_Lot_members : FnScope N_Lot_members (["self"] : List Str) (defScope s_Lot_members) := ⟨rfl, rfl, rfl, by decide +kernel, rfl, by decide +kernel, by decide +kernel⟩
theorem b_Lot_members (T : Txt K mg A) : Binds K A.d_Lot_members (["self"] : List Str) [] := T.F_Lot_members.binds (ps := (["self"] : List Str)) fun _ _ _ _ _ _ us hl => match us, hl with | [_], _ => rfl
theorem sc_starts_of : FnScope N_starts_of (["parts", "hours", "index"] : List Str) (defScope s_starts_of) := ⟨rfl, rfl, rfl, by decide +kernel, rfl, by decide +kernel, by decide +kernel⟩
theorem b_starts_of (T : Txt K mg A) : Binds K A.d_starts_of (["parts", "hours", "index"] : List Str) [] := T.F_starts_of.binds (ps := (["parts", "hours", "index"] : List Str)) fun _ _ _ _ _ _ us hl => match us, hl with | [_, _, _], _ => rfl
theorem sc_u_law_cell : FnScope N_u_law_cell (["script", "k"] : List Str) (defScope s_u_law_cell) := ⟨rfl, rfl, rfl, by decide +kernel, rfl, by decide +kernel, by decide +kernel⟩
theorem b_u_law_cell (T : Txt K mg A) : Binds K A.d_u_law_cell (["script", "k"] : List Str) [] := T.F_u_law_cell.binds (ps := (["script", "k"] : List Str)) fun _ _ _ _ _ _ us hl => match us, hl with | [_, _], _ => rfl
theorem sc_u_law_draws : FnScope N_u_law_draws (["cell", "salt", "menu"] : List Str) (defScope s_u_law_draws) := ⟨rfl, rfl, rfl, by decide +kernel, rfl, by decide +kernel, by decide +kernel⟩
theorem b_u_law_draws (T : Txt K mg A) : Binds K A.d_u_law_draws (["cell", "salt", "menu"] : List Str) [] := T.F_u_law_draws.binds (ps := (["cell", "salt", "menu"] : List Str)) fun _ _ _ _ _ _ us hl => match us, hl with | [_, _, _], _ => rfl
theorem sc_u_law_is_int : FnScope N_u_law_is_int (["x"] : List Str) (defScope s_u_law_is_int) := ⟨rfl, rfl, rfl, by decide +kernel, rfl, by decide +kernel, by decide +kernel⟩
theorem b_u_law_is_int (T : Txt K mg A) : Binds K A.d_u_law_is_int (["x"] : List Str) [] := T.F_u_law_is_int.binds (ps := (["x"] : List Str)) fun _ _ _ _ _ _ us hl => match us, hl with | [_], _ => rfl
theorem sc_u_law_same : FnScope N_u_law_same (["got", "due"] : List Str) (defScope s_u_law_same) := ⟨rfl, rfl, rfl, by decide +kernel, rfl, by decide +kernel, by decide +kernel⟩
theorem b_u_law_same (T : Txt K mg A) : Binds K A.d_u_law_same (["got", "due"] : List Str) [] := T.F_u_law_same.binds (ps := (["got", "due"] : List Str)) fun _ _ _ _ _ _ us hl => match us, hl with | [_, _], _ => rfl
theorem sc_u_law_any_parts : FnScope N_u_law_any_parts (["cell", "n", "base", "doubles"] : List Str) (defScope s_u_law_any_parts) := ⟨rfl, rfl, rfl, by decide +kernel, rfl, by decide +kernel, by decide +kernel⟩
theorem b_u_law_any_parts (T : Txt K mg A) : Binds K A.d_u_law_any_parts (["cell", "n", "base", "doubles"] : List Str) [] := T.F_u_law_any_parts.binds (ps := (["cell", "n", "base", "doubles"] : List Str)) fun _ _ _ _ _ _ us hl => match us, hl with | [_, _, _, _], _ => rfl
theorem sc_u_law_round_parts : FnScope N_u_law_round_parts (["cell", "n", "base", "doubles"] : List Str) (defScope s_u_law_round_parts) := ⟨rfl, rfl, rfl, by decide +kernel, rfl, by decide +kernel, by decide +kernel⟩
theorem b_u_law_round_parts (T : Txt K mg A) : Binds K A.d_u_law_round_parts (["cell", "n", "base", "doubles"] : List Str) [] := T.F_u_law_round_parts.binds (ps := (["cell", "n", "base", "doubles"] : List Str)) fun _ _ _ _ _ _ us hl => match us, hl with | [_, _, _, _], _ => rfl
theorem sc_u_law_due : FnScope N_u_law_due (["parts", "n", "index"] : List Str) (defScope s_u_law_due) := ⟨rfl, rfl, rfl, by decide +kernel, rfl, by decide +kernel, by decide +kernel⟩
theorem b_u_law_due (T : Txt K mg A) : Binds K A.d_u_law_due (["parts", "n", "index"] : List Str) [] := T.F_u_law_due.binds (ps := (["parts", "n", "index"] : List Str)) fun _ _ _ _ _ _ us hl => match us, hl with | [_, _, _], _ => rfl
theorem sc_u_law_refused_by_base : FnScope N_u_law_refused_by_base (["parts", "n", "index"] : List Str) (defScope s_u_law_refused_by_base) := ⟨rfl, rfl, rfl, by decide +kernel, rfl, by decide +kernel, by decide +kernel⟩
theorem b_u_law_refused_by_base (T : Txt K mg A) : Binds K A.d_u_law_refused_by_base (["parts", "n", "index"] : List Str) [] := T.F_u_law_refused_by_base.binds (ps := (["parts", "n", "index"] : List Str)) fun _ _ _ _ _ _ us hl => match us, hl with | [_, _, _], _ => rfl
theorem sc_u_law_right : FnScope N_u_law_right (["parts", "n", "index"] : List Str) (defScope s_u_law_right) := ⟨rfl, rfl, rfl, by decide +kernel, rfl, by decide +kernel, by decide +kernel⟩
theorem b_u_law_right (T : Txt K mg A) : Binds K A.d_u_law_right (["parts", "n", "index"] : List Str) [] := T.F_u_law_right.binds (ps := (["parts", "n", "index"] : List Str)) fun _ _ _ _ _ _ us hl => match us, hl with | [_, _, _], _ => rfl
theorem sc_u_law_bad_hours : FnScope N_u_law_bad_hours (["parts", "hours", "index"] : List Str) (defScope s_u_law_bad_hours) := ⟨rfl, rfl, rfl, by decide +kernel, rfl, by decide +kernel, by decide +kernel⟩
theorem b_u_law_bad_hours (T : Txt K mg A) : Binds K A.d_u_law_bad_hours (["parts", "hours", "index"] : List Str) [] := T.F_u_law_bad_hours.binds (ps := (["parts", "hours", "index"] : List Str)) fun _ _ _ _ _ _ us hl => match us, hl with | [_, _, _], _ => rfl
theorem sc_law : FnScope N_law (["script"] : List Str) (defScope s_law) := ⟨rfl, rfl, rfl, by decide +kernel, rfl, by decide +kernel, by decide +kernel⟩
theorem b_law (T : Txt K mg A) : Binds K A.d_law (["script"] : List Str) [] := T.F_law.binds (ps := (["script"] : List Str)) fun _ _ _ _ _ _ us hl => match us, hl with | [_], _ => rfl
theorem ok_BadNumber_init (T : Txt K mg A) : FnOk P w K mg base CX0 1 A.f_BadNumber_init A.d_BadNumber_init (["self", "name", "value"] : List Str) (spErr2 K A.C_BadNumber "name" "value") := by
  refine T.F_BadNumber_init.ok sc_BadNumber_init (fun vs H Q E h => ?_) (fun cdv Ar outer s H vs Q E hr h => ?_)
  · obtain ⟨a, x, y, rfl, _⟩ := h
    rfl
  · obtain ⟨a, x, y, rfl, hC, ha, k⟩ := h
    refine ⟨_, (pss_cons (ps_ost (pv 0) (pv 1))
        (pss_one (ps_ost (pv 0) (pv 2)))), ?_⟩
    refine ⟨_, rfl, _, rfl, a, _, rfl, hC, T.nf_BadNumber_name, .inl ⟨ha, fun d hd hne => ?_⟩⟩
    refine ⟨_, rfl, _, rfl, a, _, rfl, hC, T.nf_BadNumber_value, .inr ⟨d, _, upd_same, ?_, by show (1 : Nat) ≤ 900; decide, k d hd hne⟩⟩
    rw [upd_ne hne, upd_same]
theorem ok_RepeatedHour_init (T : Txt K mg A) : FnOk P w K mg base CX0 1 A.f_RepeatedHour_init A.d_RepeatedHour_init (["self", "hour"] : List Str) (spErr1 K A.C_RepeatedHour "hour") := by
  refine T.F_RepeatedHour_init.ok sc_RepeatedHour_init (fun vs H Q E h => ?_) (fun cdv Ar outer s H vs Q E hr h => ?_)
  · obtain ⟨a, x, rfl, _⟩ := h
    rfl
  · obtain ⟨a, x, rfl, hC, ha, k⟩ := h
    refine ⟨_, (pss_one (ps_ost (pv 0) (pv 1))), ?_⟩
    exact ⟨_, rfl, _, rfl, a, _, rfl, hC, T.nf_RepeatedHour_hour, .inl ⟨ha, fun d hd hne => k d hd hne⟩⟩

def spLotInit (K : PySem.W.Frag) (A : Ads) : Sp := fun vs H Q E => ∃ (x dx a : Addr) (n : Int) (ms : List Int), vs = [.ref x, .int n, .ref a] ∧ H x = some (.ins A.C_Lot dx []) ∧ SqL K H a (ms.map V.int) ∧
  (¬ (1 ≤ n ∧ n ≤ 360) → ∀ d H', Ex H H' → H' d = some (.xd [("value", .int n), ("name", .str "hours")]) → E (.ref A.C_BadNumber) (some d) H') ∧
  (1 ≤ n ∧ n ≤ 360 → ∀ r, scanR n [] ms = some r → ∀ d H', Ex H H' → H' d = some (.xd [("hour", .int r)]) → E (.ref A.C_RepeatedHour) (some d) H') ∧
  (1 ≤ n ∧ n ≤ 360 → scanR n [] ms = none → ∀ l H', (∀ b o, b ≠ x → H b = some o → H' b = some o) → H l = none → H' x = some (.ins A.C_Lot dx (lotF n l)) → H' l = some (.lst ((resid n (ms.map (· % n))).map V.int)) → Q .non H')
theorem ok_Lot_init (T : Txt K mg A) : FnOk P w K mg base (L2.CX P w) 4 A.f_Lot_init A.d_Lot_init (["self", "hours", "members"] : List Str) (spLotInit K A) := by
  refine T.F_Lot_init.okX sc_Lot_init (fun vs H Q E h => ?_) (fun cdv Ar outer s H vs Q E hr h => ?_)
  · obtain ⟨x, dx, a, n, ms, rfl, _⟩ := h
    rfl
  · obtain ⟨x, dx, a, n, ms, rfl, hx, hS, k1, k2, k3⟩ := h
    refine ⟨_, (pss_cons (ps_if (PW.pt (pw_or (pt_cmpR op_lt (pv 1) pe_int (nomark _)) (pw_or1 (pt_cmpR op_gt (pv 1) (ClX.pe_cval (pe_glob (v := .ref A.C_Lot) rfl T.g_Lot rfl)) (nomark _))))) (pss_one (ps_raise rfl (takes_of rfl rfl rfl rfl) (pmk_oex T.ox_BadNumber T.ni_BadNumber T.ti_BadNumber (ok_BadNumber_init T) (hr.mono (by omega)) (b_BadNumber_init T) .nil pass0 rfl T.g_BadNumber (pa_cons pe_str (pa_cons (pv 1) pa_nil))))) pss_nil)
        (pss_cons (ps_set (i := 3) sc_Lot_init.nd rfl (Or.inr rfl) (pe_op op_rep (pe_lst (pa_cons pe_bl pa_nil)) (pv 1)))
        (pss_cons (ps_for (passes_of rfl) rfl (pi_list (pv 2)) (pg_name (i := 4) sc_Lot_init.nd rfl (Or.inl rfl)) (pss_cons (ps_if (pt_val (pe_ix ix_lK (pv 3) (pe_op op_mod (pv 4) (pv 1)) (fun _ _ => rfl))) (pss_one (ps_raise rfl (takes_of rfl rfl rfl rfl) (pmk_oex T.ox_RepeatedHour T.ni_RepeatedHour T.ti_RepeatedHour (ok_RepeatedHour_init T) (hr.mono (by omega)) (b_RepeatedHour_init T) .nil pass0 rfl T.g_RepeatedHour (pa_cons (pe_op op_mod (pv 4) (pv 1)) pa_nil)))) pss_nil)
        (pss_one (ps_asg pe_bl (pg_sub (pv 3) (pe_op op_mod (pv 4) (pv 1)) set_list)))))
        (pss_cons (ps_fld (pv 0) (pv 1) rfl)
        (pss_one (ps_fld (pv 0) (pe_lc (own := [("hour", 5)]) (g := gName 5) rfl sc_Lot_init.nd (pi_range1 rfl T.z_range (pa_cons (pv 1) pa_nil)) (blkOk_by (own := [("hour", 5)]) (N := N_Lot_init) (sc := defScope s_Lot_init) (by decide +kernel)) (fun _ _ _ _ _ => (pg_name (i := 5) sc_Lot_init.nd rfl (Or.inl rfl))) (fun _ _ _ _ _ => (pts_one (pt_val (pe_ix ix_lK (pv 3) (pv 5) (fun _ _ => rfl))))) (fun _ _ _ _ _ => (pv 5))) rfl)))))), ?_⟩
    obtain ⟨mc, rdL, tL, cvL⟩ := T.rd_Lot
    refine ⟨_, rfl, n, 1, rfl, rfl, _, rfl, ?_⟩
    by_cases hn : 1 ≤ n ∧ n ≤ 360
    case neg =>
      have fin := raise2 (C := A.C_BadNumber) (f := "name") (g := "value") (σ := L2.start N_Lot_init [V.ref x, V.int n, V.ref a]) (ta := tCons (tC (.str "hours")) (tCons (tVar 1) tNil)) (x := .str "hours") (y := .int n) T.ox_BadNumber (fun Q q => ⟨_, rfl, q⟩) (k1 hn)
      by_cases c1 : n < 1
      · exact wayT c1 (iteT fin)
      · exact wayF c1 ⟨_, rfl, A.C_Lot, mc, _, _, rfl, rdL, cvL, n, 360, rfl, rfl, _, rfl, wayT (show 360 < n by omega) fin⟩
    refine wayF (by omega) ⟨_, rfl, A.C_Lot, mc, _, _, rfl, rdL, cvL, n, 360, rfl, rfl, _, rfl, wayF (by omega) ?_⟩
    refine ⟨by show 1 ≤ sizeLine; decide, fun q hq => ⟨_, rfl, q, n, _, rfl, rfl, upd_same, by omega, by omega, ?_, fun tk htk => ?_⟩⟩
    · show 1 * n.toNat ≤ sizeLine
      exact Nat.le_trans (show 1 * n.toNat ≤ 360 by omega) (by decide)
    have htk0 : H tk = none := fresh_back (Ex.new hq) htk
    have ex0 : ∀ o, Ex H (upd (upd H q (.lst [.bl false])) tk o) := fun o => (Ex.new hq).trans (Ex.new htk)
    rw [flags_nil]
    dsimp only
    refine q_forLn (K := K) (a := a) (xs := ms.map V.int) (ev_var rfl) (ex_l (ex0 _) hS)
      (fun i σ' H' => ∃ mv : Option V, σ' = [some (.ref x), some (.int n), some (.ref a), some (.ref tk), mv, none] ∧ Ex H H' ∧ H' tk = some (.lst (flags n.toNat ((ms.take i).map (· % n)))) ∧
        scanR n [] ms = scanR n ((ms.take i).map (· % n)) (ms.drop i))
      (fun H2 e2 => ⟨none, rfl, (ex0 _).trans e2, e2 _ _ upd_same, rfl⟩) (fun i σ' H' _ ⟨_, _, e, _⟩ => ex_l e hS) ?_ ?_
    · rintro i y σ' H' hi ⟨mv, rfl, ex, ht, hsc⟩
      obtain ⟨m, rfl, hm⟩ := some_int hi
      have m0 : 0 ≤ m % n := Int.emod_nonneg _ (by omega)
      have m1 : m % n < n := Int.emod_lt_of_pos _ (by omega)
      obtain ⟨j, hj⟩ : ∃ j : Nat, m % n = (j : Int) := ⟨(m % n).toNat, by omega⟩
      have hjn : j < n.toNat := by omega
      have hil : i < ms.length := (List.getElem?_eq_some_iff.mp hm).1
      have hd : ms.drop i = m :: ms.drop (i + 1) := by
        rw [List.drop_eq_getElem_cons hil]
        rw [List.getElem?_eq_getElem hil] at hm
        rw [Option.some.inj hm]
      have htake : (ms.take (i + 1)).map (· % n) = (ms.take i).map (· % n) ++ [(j : Int)] := by
        rw [List.take_succ, hm, List.map_append]
        show _ ++ [m % n] = _
        rw [hj]
      have hat : ∀ S : List Int, atI (flags n.toNat S) (m % n) = some (.bl (decide ((j : Int) ∈ S))) := fun S => by
        rw [hj]
        exact atI_nat (flags_get hjn)
      refine ⟨_, rfl, _, rfl, _, rfl, _, _, rfl, rfl, (by show (0 : Int) < n; omega), tk, _, _, _, rfl, rfl, SqL.of ht, hat _, _, rfl, ?_⟩
      rw [hd] at hsc
      refine way (fun hc => ?_) (fun hc => ?_)
      · refine raise1 (C := A.C_RepeatedHour) (f := "hour") (x := .int (m % n)) T.ox_RepeatedHour (fun Q q => ⟨_, rfl, _, rfl, _, _, rfl, rfl, (by show (0 : Int) < n; omega), q⟩) (fun d H2 e2 h2 => k2 hn (m % n) ?_ d H2 (ex.trans e2) h2)
        rw [hsc]
        unfold scanR
        rw [if_pos (by rw [hj]; exact hc)]
      · refine ⟨_, rfl, _, rfl, _, rfl, _, _, rfl, rfl, (by show (0 : Int) < n; omega), tk, _, _, j, rfl, rfl, ht, ?_, ?_⟩
        · show ixN (flags n.toNat _).length (m % n) = some j
          rw [hj]
          exact ixN_nat (by rw [flags_len]; exact hjn)
        · refine ⟨_, rfl, Ex.mut ex htk0, ?_, ?_⟩
          · rw [upd_same, flags_set hjn, htake]
          · rw [hsc, htake]
            conv => lhs; unfold scanR
            rw [if_neg (by rw [hj]; exact hc), hj]
    · rintro σ' H' ⟨mv, rfl, ex, ht, hsc⟩
      rw [List.length_map, List.take_length] at ht hsc
      rw [List.drop_length] at hsc
      have hx' := ex _ _ hx
      refine ⟨_, rfl, _, rfl, x, _, dx, [], rfl, hx', T.cl_Lot, T.na_Lot_hours, by decide, ?_⟩
      have xtk : tk ≠ x := fun e => by rw [e, hx] at htk0; cases htk0
      have ev : EvL _ [some (V.ref x), some (V.int n), some (V.ref a), some (V.ref tk), mv, none] (upd H' x (.ins A.C_Lot dx (putF "hours" (.int n) []))) (given n.toNat (fun h => decide ((h : Int) ∈ ms.map (· % n))) fun h => .int (h : Int)) :=
        el_rng1 (tt := tB (tOp (rIxL K) (tVar 3) (tVar 5))) (te := tVar 5) (ta := tCons (tVar 1) tNil) (j := 5) (vs := [5]) _ _ (ea_cons (ev_var rfl) ea_nil) (by omega) (fun x => rfl)
          (fun i H1 e1 hi => et_B (ev_op (ev_var rfl) (ev_var rfl) (rv_ixL (sq_of (e1 _ _ (by rw [upd_ne xtk]; exact ht))) (atI_nat (flags_get (by omega))))))
          (fun i H1 _ hi _ => ev_var rfl)
      dsimp only [sFld]
      refine ev _ (Ex.refl _) _ fun l H4 hl e4 h4 => ?_
      have hl0 : H' l = none := by
        by_cases e : l = x
        · rw [e, upd_same] at hl; cases hl
        · rw [upd_ne e] at hl; exact hl
      refine ⟨_, rfl, x, _, dx, _, rfl, e4 _ _ upd_same, T.cl_Lot, T.na_Lot_members, (by show 1 < 1000; decide), ?_⟩
      have lx : l ≠ x := fun e => by rw [e, upd_same] at hl; cases hl
      refine k3 hn (by rw [hsc]; rfl) l _ (fun b o hb ho => ?_) (fresh_back ex hl0) ?_ ?_
      · rw [upd_ne hb]
        exact e4 _ _ (by rw [upd_ne hb]; exact ex _ _ ho)
      · rw [upd_same, putF2]
        rfl
      · rw [upd_ne lx, h4, given_pick]
        rfl
/-- a lot is made: what spLotInit asks is answered by what is wished of the lot and of the errors -/
theorem mk_lot {K : PySem.W.Frag} {A : Ads} {H : Hp} {Q : VK} {E : XK} {l : Addr} {n : Int} {ms : List Int} (hS : SqL K H l (ms.map V.int))
    (k1 : ¬ (1 ≤ n ∧ n ≤ 360) → ∀ d H', Ex H H' → H' d = some (.xd [("value", .int n), ("name", .str "hours")]) → E (.ref A.C_BadNumber) (some d) H')
    (k2 : 1 ≤ n ∧ n ≤ 360 → ∀ r, scanR n [] ms = some r → ∀ d H', Ex H H' → H' d = some (.xd [("hour", .int r)]) → E (.ref A.C_RepeatedHour) (some d) H')
    (k3 : 1 ≤ n ∧ n ≤ 360 → scanR n [] ms = none → ∀ a dx m H', H a = none → H m = none → Ex H H' → H' a = some (.ins A.C_Lot dx (lotF n m)) → H' m = some (.lst ((resid n (ms.map (· % n))).map V.int)) → Q (.ref a) H') :
    ∀ x dx, H x = none → H dx = none → dx ≠ x → spLotInit K A (.ref x :: ([.int n, .ref l] ++ [])) (upd (upd H dx (.own x)) x (.ins A.C_Lot dx [])) (fun v H2 => v = .non ∧ Q (.ref x) H2) E := by
  intro x dx hx hdx hne
  have e0 : Ex H (upd (upd H dx (.own x)) x (.ins A.C_Lot dx [])) := fun b o hb => by rw [upd_ne (ne_of_none hb hx), upd_ne (ne_of_none hb hdx)]; exact hb
  refine ⟨x, dx, l, n, ms, rfl, upd_same, ex_l e0 hS, fun hn d H' e hd => k1 hn d H' (e0.trans e) hd, fun hn r hr d H' e hd => k2 hn r hr d H' (e0.trans e) hd, fun hn hs m H' hk hm h1 h2 => ⟨rfl, k3 hn hs x dx m H' hx (fresh_back e0 hm) (fun b o hb => ?_) h1 h2⟩⟩
  exact hk b o (ne_of_none hb hx) (e0 b o hb)
def spLotMembers (A : Ads) : Sp := fun vs H Q _ => ∃ (a dx l : Addr) (n : Int) (ms : List Int), vs = [.ref a] ∧ H a = some (.ins A.C_Lot dx (lotF n l)) ∧ H l = some (.lst (ms.map V.int)) ∧
  ∀ p H', H p = none → Ex H H' → H' p = some (.lst (ms.map V.int)) → Q (.ref p) H' 
theorem ok_Lot_members (T : Txt K mg A) : FnOk P w K mg base CX0 1 A.f_Lot_members A.d_Lot_members (["self"] : List Str) (spLotMembers A) := by
  refine T.F_Lot_members.ok sc_Lot_members (fun vs H Q E h => ?_) (fun cdv Ar outer s H vs Q E hr h => ?_)
  · obtain ⟨a, dx, l, n, ms, rfl, _⟩ := h
    rfl
  · obtain ⟨a, dx, l, n, ms, rfl, h1, h2, k⟩ := h
    refine ⟨_, (pss_one (ps_ret (pe_callTy list_K (by rfl) T.z_list (by decide +kernel) (pa_cons (pe_fld (pv 0) rfl) pa_nil)))), ?_⟩
    exact ⟨_, rfl, a, _, dx, _, _, rfl, h1, T.cl_Lot, T.na_Lot_members, rfl, l, _, rfl, .inl (SqL.of h2), fun p hp => k p _ hp (Ex.new hp) upd_same⟩

def spStarts (K : PySem.W.Frag) (A : Ads) : Sp := fun vs H Q E => ∃ (v : V) (ps : List (Int × Int)) (n i : Int), vs = [v, .int n, .int i] ∧ PartsAt K H v ps ∧ ps.length ≤ 40000 ∧
  (¬ (1 ≤ n ∧ n ≤ 360) → ∀ d H', Ex H H' → H' d = some (.xd [("value", .int n), ("name", .str "hours")]) → E (.ref A.C_BadNumber) (some d) H') ∧
  (1 ≤ n ∧ n ≤ 360 → ∀ r, scanR n [] (sel ps i) = some r → ∀ d H', Ex H H' → H' d = some (.xd [("hour", .int r)]) → E (.ref A.C_RepeatedHour) (some d) H') ∧
  (1 ≤ n ∧ n ≤ 360 → scanR n [] (sel ps i) = none → ∀ a dx m H', H a = none → H m = none → Ex H H' → H' a = some (.ins A.C_Lot dx (lotF n m)) → H' m = some (.lst ((resid n ((sel ps i).map (· % n))).map V.int)) → Q (.ref a) H')
theorem ok_starts_of (T : Txt K mg A) : FnOk P w K mg base (L2.CX P w) 6 A.f_starts_of A.d_starts_of (["parts", "hours", "index"] : List Str) (spStarts K A) := by
  refine T.F_starts_of.okX sc_starts_of (fun vs H Q E h => ?_) (fun cdv Ar outer s H vs Q E hr h => ?_)
  · obtain ⟨v, ps, n, i, rfl, _⟩ := h
    rfl
  · obtain ⟨v, ps, n, i, rfl, ⟨a, xs, rfl, hS, hxl, hP⟩, hz, k1, k2, k3⟩ := h
    refine ⟨_, (pss_one (ps_ret (pe_make T.mk_Lot (ok_Lot_init T) (hr.mono (by omega)) rfl T.g_Lot (b_Lot_init T) .nil (passes_call (takes_of rfl rfl rfl rfl) (fun _ _ _ _ h => h)) (pa_cons (pv 1) (pa_cons (pe_lc (own := [("tile", 3), ("start", 4)]) (g := gTup K 2 (gCons (gName 3) (gCons (gName 4) gNil))) rfl sc_starts_of.nd (pi_list (pv 0)) (blkOk_by (own := [("tile", 3), ("start", 4)]) (N := N_starts_of) (sc := defScope s_starts_of) (by decide +kernel)) (fun _ _ _ _ _ => (pg_tupK rfl rfl (pgs_cons (pg_name (i := 3) sc_starts_of.nd rfl (Or.inl rfl)) (pgs_cons (pg_name (i := 4) sc_starts_of.nd rfl (Or.inl rfl)) pgs_nil)))) (fun _ _ _ _ _ => (pts_one (pt_cmpR op_eq (pv 3) (pv 2) (nomark _)))) (fun _ _ _ _ _ => (pv 4))) pa_nil))))), ?_⟩
    refine ⟨_, rfl, ?_⟩
    have ev : EvL _ [some (V.ref a), some (V.int n), some (V.int i), none, none] H ((ps.filter fun p => decide (p.1 = i)).map fun p => V.int p.2) :=
      el_lstG (K := K) (te := tVar 4) (tl := tVar 0) (tt := tB (tOp rEq (tVar 3) (tVar 2))) (g := gTup K 2 (gCons (gName 3) (gCons (gName 4) gNil))) (vs := [3, 4]) (0, 0) xs ps (fun p => decide (p.1 = i)) (fun p => .int p.2)
        (fun y => [some (.ref a), some (.int n), some (.int i), some (.int y.1), some (.int y.2)])
        (ev_var rfl) hS hxl hz
        (fun j x y H1 k e1 hx hy hk => by
          obtain ⟨t, p, rfl, hp, hT⟩ := hP j x hx
          rw [hp] at hy
          cases hy
          exact ⟨t, _, rfl, ex_t e1 hT, rfl, _, _, rfl, _, _, rfl, rfl, hk⟩)
        (fun y => rfl)
        (fun y H1 e1 hy => et_B (by
          have := ev_op (r := rEq) (σ := [some (.ref a), some (.int n), some (.int i), some (.int y.1), some (.int y.2)]) (H := H1) (ev_var (i := 3) rfl) (ev_var (i := 2) rfl) (rv_eq rfl)
          rw [dec_ii] at this
          exact this))
        (fun y H1 e1 hy _ => ev_var rfl)
    refine ev _ (Ex.refl _) _ fun l H1 hl e1 h1 => ?_
    have h1' : SqL K H1 l ((sel ps i).map V.int) := by
      unfold sel
      rw [List.map_map]
      exact SqL.of h1
    refine mk_lot (K := K) h1' (fun hn d H' e hd => k1 hn d H' (e1.trans e) hd) (fun hn r hr' d H' e hd => k2 hn r hr' d H' (e1.trans e) hd) (fun hn hs a' dx m H' ha hm e g1 g2 => k3 hn hs a' dx m H' (fresh_back e1 ha) (fresh_back e1 hm) (e1.trans e) g1 g2)

def sp_cell (K : PySem.W.Frag) : Sp := fun vs H Q _ => ∃ (a : Addr) (ns : List Int) (k : Nat), vs = [.ref a, .int (k : Int)] ∧ SqL K H a (ns.map V.int) ∧ Q (.int (cellA ns k)) H
theorem ok_u_law_cell (T : Txt K mg A) : FnOk P w K mg base CX0 1 A.f_u_law_cell A.d_u_law_cell (["script", "k"] : List Str) (sp_cell K) := by
  refine T.F_u_law_cell.ok sc_u_law_cell (fun vs H Q E h => ?_) (fun cdv Ar outer s H vs Q E hr h => ?_)
  · obtain ⟨a, ns, k, rfl, _⟩ := h
    rfl
  · obtain ⟨a, ns, k, rfl, hS, q⟩ := h
    refine ⟨_, (pss_cons (ps_if (pt_cmpR op_lt (pv 1) (pe_callB len_K (by rfl) T.z_len (by decide +kernel) (pa_cons (pv 0) pa_nil)) (nomark _)) (pss_one (ps_ret (pe_callB call_abs (by rfl) T.z_abs (by decide +kernel) (pa_cons (pe_ix ix_lK (pv 0) (pv 1) (fun _ _ => rfl)) pa_nil)))) pss_nil)
        (pss_one (ps_ret pe_int))), ?_⟩
    refine ⟨_, rfl, _, rfl, .ref a, _, rfl, .inl ⟨_, hS, rfl⟩, _, _, rfl, rfl, _, rfl, ?_⟩
    unfold cellA at q
    rw [List.length_map]
    by_cases hk : k < ns.length
    · refine wayT (show (k : Int) < (ns.length : Int) by omega) ?_
      rw [if_pos hk] at q
      refine ⟨_, rfl, _, rfl, a, _, _, .int (ns.getD k 0), rfl, rfl, hS, atI_nat ?_, _, rfl, q⟩
      rw [List.getElem?_map, List.getD_eq_getElem?_getD, List.getElem?_eq_getElem hk]
      rfl
    · refine wayF (show ¬ (k : Int) < (ns.length : Int) by omega) ?_
      rw [if_neg hk] at q
      exact q

def sp_draws (K : PySem.W.Frag) : Sp := fun vs H Q _ => ∃ (c s : Int) (m : Addr) (ms : List Int), vs = [.int c, .int s, .ref m] ∧ SqL K H m (ms.map V.int) ∧ 0 ≤ c ∧ (-1000000 ≤ s ∧ s ≤ 1000000) ∧ ms.length ≤ 64 ∧
  (∀ x ∈ ms, 1 ≤ x ∧ x.natAbs < 2 ^ 1000) ∧ ∀ p H' ds, H p = none → Ex H H' → H' p = some (.lst (ds.map V.int)) → Drawn ms ds → Q (.ref p) H'
theorem drawn_more {ms ds : List Int} {i : Nat} {m d : Int} (h : Drawn (ms.take i) ds) (hm : ms[i]? = some m) (h0 : 0 ≤ d) (h1 : d < m) : Drawn (ms.take (i + 1)) (ds ++ [d]) := by
  have hi : i < ms.length := (List.getElem?_eq_some_iff.mp hm).1
  obtain ⟨hl, hd⟩ := h
  have hl' : ds.length = i := by rw [hl, List.length_take]; omega
  refine ⟨by rw [List.length_append, hl', List.length_take]; simp; omega, fun j x hj => ?_⟩
  by_cases hji : j < i
  · have hx : (ms.take i)[j]? = some x := by
      rw [List.getElem?_take_of_lt hji]
      rw [List.getElem?_take_of_lt (by omega)] at hj
      exact hj
    obtain ⟨d', e, z⟩ := hd j x hx
    exact ⟨d', by rw [List.getElem?_append_left (by omega)]; exact e, z⟩
  · have hlt : j < i + 1 := by
      have := (List.getElem?_eq_some_iff.mp hj).1
      rw [List.length_take] at this
      omega
    have ej : j = i := by omega
    subst ej
    rw [List.getElem?_take_of_lt hlt, hm] at hj
    cases hj
    exact ⟨d, by rw [List.getElem?_append_right (by omega), hl', Nat.sub_self]; rfl, h0, h1⟩
theorem ok_u_law_draws (T : Txt K mg A) : FnOk P w K mg base CX0 1 A.f_u_law_draws A.d_u_law_draws (["cell", "salt", "menu"] : List Str) (sp_draws K) := by
  refine T.F_u_law_draws.ok sc_u_law_draws (fun vs H Q E h => ?_) (fun cdv Ar outer s H vs Q E hr h => ?_)
  · obtain ⟨c, s, m, ms, rfl, _⟩ := h
    rfl
  · obtain ⟨c, sa, m, ms, rfl, hS, hc, hs, hl, hm, k⟩ := h
    refine ⟨_, (pss_cons (ps_set (i := 3) sc_u_law_draws.nd rfl (Or.inl rfl) (pe_lst pa_nil))
        (pss_cons (ps_set (i := 4) sc_u_law_draws.nd rfl (Or.inl rfl) (pe_op op_sub (pv 0) (pe_op op_pow pe_int pe_int)))
        (pss_cons (ps_set (i := 5) sc_u_law_draws.nd rfl (Or.inl rfl) (pe_op op_add (pv 0) (pe_op op_mul pe_int (pv 1))))
        (pss_cons (ps_for PassesOwn.never rfl (pi_range1 rfl T.z_range (pa_cons (pe_callB len_K (by rfl) T.z_len (by decide +kernel) (pa_cons (pv 2) pa_nil)) pa_nil)) (pg_name (i := 6) sc_u_law_draws.nd rfl (Or.inl rfl)) (pss_one (ps_if (pt_cmpR op_ge (pv 4) pe_int (nomark _)) (pss_cons (ps_expr (pe_bm PySem.F.plainAttrs_list PySem.F.slot_list_append PySem.F.type_list_append mt_append (pv 3) (pa_cons (pe_op op_mod (pe_callTy call_int1 (by rfl) T.z_int (by decide +kernel) (pa_cons (pv 4) pa_nil)) (pe_ix ix_lK (pv 2) (pv 6) (fun _ _ => rfl))) pa_nil)))
        (pss_one (ps_set (i := 4) sc_u_law_draws.nd rfl (Or.inl rfl) (pe_op op_fdivW (pv 4) (pe_ix ix_lK (pv 2) (pv 6) (fun _ _ => rfl)))))) (pss_cons (ps_set (i := 5) sc_u_law_draws.nd rfl (Or.inl rfl) (pe_op op_mod (pe_callTy call_int1 (by rfl) T.z_int (by decide +kernel) (pa_cons (pe_op op_add (pe_op op_add (pe_op op_mul (pv 5) (pv 5)) (pe_op op_mul pe_int (pe_op op_add (pv 6) pe_int))) pe_int) pa_nil)) pe_int))
        (pss_cons (ps_set (i := 5) sc_u_law_draws.nd rfl (Or.inl rfl) (pe_op op_mod (pe_callTy call_int1 (by rfl) T.z_int (by decide +kernel) (pa_cons (pe_op op_add (pe_op op_mul (pv 5) (pv 5)) (pe_op op_fdiv (pv 5) pe_int)) pa_nil)) pe_int))
        (pss_one (ps_expr (pe_bm PySem.F.plainAttrs_list PySem.F.slot_list_append PySem.F.type_list_append mt_append (pv 3) (pa_cons (pe_op op_mod (pe_callTy call_int1 (by rfl) T.z_int (by decide +kernel) (pa_cons (pe_op op_fdiv (pv 5) pe_int) pa_nil)) (pe_ix ix_lK (pv 2) (pv 6) (fun _ _ => rfl))) pa_nil)))))))))
        (pss_one (ps_ret (pv 3))))))), ?_⟩
    refine ⟨Nat.zero_le _, fun p hp => ?_⟩
    refine ⟨_, rfl, _, _, rfl, rfl, ⟨by decide, by decide, by decide⟩, _, _, rfl, rfl, ?_⟩
    refine ⟨_, rfl, _, rfl, _, _, rfl, rfl, .inl ⟨by decide, by decide⟩, _, _, rfl, rfl, ?_⟩
    have e10 : ((10 : Int) ^ (18 : Int).toNat) = 1000000000000000000 := by decide
    have hS1 : SqL K (upd H p (.lst [])) m (ms.map V.int) := ex_l (Ex.new hp) hS
    refine ⟨_, rfl, .ref m, _, rfl, .inl ⟨_, hS1, rfl⟩, _, rfl, by omega, by rw [List.length_map]; omega, ?_⟩
    refine for_range (lo := 0) (n := ((ms.map V.int).length : Int).toNat) (fun i σ H' => ∃ (ds : List Int) (rest mixed : Int) (kv : Option V), σ = [some (.int c), some (.int sa), some (.ref m), some (.ref p), some (.int rest), some (.int mixed), kv] ∧ Ex H H' ∧
        H' p = some (.lst (ds.map V.int)) ∧ Drawn (ms.take i) ds ∧ (0 ≤ rest ∨ (-18446744073709551616 < mixed ∧ mixed < 18446744073709551616))) ?_ ?_ ?_
    · refine ⟨[], _, _, none, rfl, Ex.new hp, upd_same, ⟨by simp, fun i x h => by simp at h⟩, ?_⟩
      rw [e10]
      omega
    · rintro i σ H' hi ⟨ds, rest, mixed, kv, rfl, ex, hH, hD, hr0⟩
      have hi' : i < ms.length := by simpa using hi
      obtain ⟨mi, hmi⟩ : ∃ mi, ms[i]? = some mi := ⟨ms[i], List.getElem?_eq_getElem hi'⟩
      have hmm := hm mi (List.mem_of_getElem? hmi)
      have hSi : SqL K H' m (ms.map V.int) := ex_l ex hS
      have hat : atI (ms.map V.int) (0 + (i : Int)) = some (.int mi) := by
        rw [Int.zero_add]
        refine atI_nat ?_
        rw [List.getElem?_map, hmi]
        rfl
      have hdl : ds.length ≤ 64 := by
        have := hD.1
        rw [List.length_take] at this
        omega
      have hsz : (ds.map V.int).length < sizeLine := by
        rw [List.length_map]
        exact Nat.lt_of_le_of_lt hdl (by decide)
      have e0 : (0 : Int) + (i : Int) = (i : Int) := Int.zero_add _
      refine ⟨_, rfl, _, _, rfl, rfl, _, rfl, way (fun hr => ?_) (fun hr => ?_)⟩
      · refine ⟨_, rfl, .inl ⟨rfl, _, SqL.of hH⟩, _, rfl, .inl ⟨rest, rfl, _, rfl, _, rfl, m, _, _, .int mi, rfl, rfl, hSi, hat, _, _, rfl, rfl, (by show (0 : Int) < mi; omega), p, _, _, rfl, rfl, hH, hsz, ?_⟩⟩
        have ex2 : Ex H (upd H' p (.lst (ds.map V.int ++ [.int (rest % mi)]))) := Ex.mut ex hp
        refine ⟨_, rfl, _, rfl, _, rfl, m, _, _, .int mi, rfl, rfl, ex_l ex2 hS, hat, _, _, rfl, rfl, wide_div (by omega) hmm.2 (by decide) (by decide), ?_⟩
        refine ⟨ds ++ [rest % mi], rest / mi, mixed, _, rfl, ex2, ?_, drawn_more hD hmi (Int.emod_nonneg _ (by omega)) (Int.emod_lt_of_pos _ (by omega)), .inl (Int.ediv_nonneg hr (by omega))⟩
        rw [upd_same, List.map_append]
        rfl
      · have hx : -18446744073709551616 < mixed ∧ mixed < 18446744073709551616 := by omega
        refine ⟨_, rfl, _, rfl, _, _, rfl, rfl, .inl ⟨hx.1, hx.2⟩, _, rfl, _, _, rfl, rfl, _, _, rfl, rfl, .inl ⟨by decide, by decide⟩, _, _, rfl, rfl, _, _, rfl, rfl, .inl ⟨_, rfl, _, _, rfl, rfl, (by show (0 : Int) < 2147483399; decide), ?_⟩⟩
        have b1 : ∀ z : Int, 0 ≤ z % 2147483399 ∧ z % 2147483399 < 2147483399 := fun z => ⟨Int.emod_nonneg _ (by decide), Int.emod_lt_of_pos _ (by decide)⟩
        have b2 : ∀ z : Int, 0 ≤ z % 2147483629 ∧ z % 2147483629 < 2147483629 := fun z => ⟨Int.emod_nonneg _ (by decide), Int.emod_lt_of_pos _ (by decide)⟩
        refine ⟨_, rfl, _, rfl, _, _, rfl, rfl, .inl ⟨Int.lt_of_lt_of_le (by decide) (b1 _).1, Int.lt_trans (b1 _).2 (by decide)⟩, _, rfl, _, _, rfl, rfl, ⟨by decide, by decide⟩, _, _, rfl, rfl, .inl ⟨_, rfl, _, _, rfl, rfl, (by show (0 : Int) < 2147483629; decide), ?_⟩⟩
        refine ⟨_, rfl, .inl ⟨rfl, _, SqL.of hH⟩, _, rfl, _, _, rfl, rfl, ⟨by decide, by decide⟩, .inl ⟨_, rfl, _, rfl, _, rfl, m, _, _, .int mi, rfl, rfl, hSi, hat, _, _, rfl, rfl, (by show (0 : Int) < mi; omega), p, _, _, rfl, rfl, hH, hsz, ?_⟩⟩
        refine ⟨ds ++ [((((mixed * mixed + 3571 * (0 + (i : Int) + 1) + 40692) % 2147483399) * ((mixed * mixed + 3571 * (0 + (i : Int) + 1) + 40692) % 2147483399) + ((mixed * mixed + 3571 * (0 + (i : Int) + 1) + 40692) % 2147483399) / 97) % 2147483629) / 8 % mi], rest, _, _, rfl, Ex.mut ex hp, ?_, drawn_more hD hmi (Int.emod_nonneg _ (by omega)) (Int.emod_lt_of_pos _ (by omega)), .inr ⟨Int.lt_of_lt_of_le (by decide) (b2 _).1, Int.lt_trans (b2 _).2 (by decide)⟩⟩
        rw [upd_same, List.map_append]
        rfl
    · rintro σ H' ⟨ds, rest, mixed, kv, rfl, ex, hH, hD, _⟩
      refine ⟨_, rfl, k p H' ds hp ex hH ?_⟩
      have e : ((ms.map V.int).length : Int).toNat = ms.length := by simp
      rw [e, List.take_length] at hD
      exact hD

theorem isi {K : PySem.W.Frag} {H : Hp} {x : V} {t n : String} {b : Bool} {Q : VK} (ty : TyX K H x (.type t)) (h : kitB t n = some b) (q : Q (.bl b) H) : rIsi K [x, .ty n] H Q := ⟨x, .ty n, _, _, b, rfl, .ty n, ty, kit_ty h, q⟩
def sp_is_int (K : PySem.W.Frag) : Sp := fun vs H Q _ => ∃ i : Int, vs = [.int i] ∧ Q (.bl true) H
theorem ok_u_law_is_int (T : Txt K mg A) : FnOk P w K mg base CX0 1 A.f_u_law_is_int A.d_u_law_is_int (["x"] : List Str) (sp_is_int K) := by
  refine T.F_u_law_is_int.ok sc_u_law_is_int (fun vs H Q E h => ?_) (fun cdv Ar outer s H vs Q E hr h => ?_)
  · obtain ⟨i, rfl, _⟩ := h
    rfl
  · obtain ⟨i, rfl, q⟩ := h
    refine ⟨_, (pss_one (ps_ret (pe_and (pe_callB isi_K (by rfl) T.z_isinstance (by decide +kernel) (pa_cons (pv 0) (pa_cons (pe_bltn (v := .ty "int") (by rfl) T.z_int (by decide +kernel) rfl) pa_nil))) (pe_one (pe_not (pe_callB isi_K (by rfl) T.z_isinstance (by decide +kernel) (pa_cons (pv 0) (pa_cons (pe_bltn (v := .ty "bool") (by rfl) T.z_bool (by decide +kernel) rfl) pa_nil)))))))), ?_⟩
    refine ⟨_, rfl, _, _, _, _, true, rfl, .ty _, .base (.int i), kit_ty (by decide +kernel), ⟨_, rfl, iteT ?_⟩⟩
    exact ⟨_, rfl, _, _, _, _, false, rfl, .ty _, .base (.int i), kit_ty (by decide +kernel), ⟨_, rfl, q⟩⟩
/-- like data are told alike -/
def sp_same (K : PySem.W.Frag) (n : Nat) : Sp := fun vs H Q _ => ∃ (x y : V) (d : PyData), vs = [x, y] ∧ Dp K H x d ∧ Dp K H y d ∧ Flat n d ∧ Q (.bl true) H
theorem same_loop {K : PySem.W.Frag} {H : Hp} {n k : Nat} {xs ys : List V} {ds : List PyData} {x y : V} {kv : Option V} {Q : VK} {N : L2.St → Hp → Prop} {tb : TS} (hk : k = ds.length) (hx : DpAll K H xs ds) (hy : DpAll K H ys ds) (hf : ∀ d ∈ ds, Flat n d) (hl : ds.length ≤ 40000)
    (hb : ∀ (i : Nat) (u v : V) (d : PyData) (kv : Option V) (D : Ends), i < ds.length → xs[i]? = some u → ys[i]? = some v → Dp K H u d → Dp K H v d → Flat n d → D.nx [some x, some y, some (.int (i : Int))] H → tb D ([some x, some y, kv].set 2 (some (.int (i : Int)))) H)
    (hq : ∀ kv, N [some x, some y, kv] H) :
    ∃ W : Nat → Nat → L2.St → Hp → Prop, (∃ m, W 0 m [some x, some y, kv] H) ∧ ∀ i m σ H, W i m σ H →
      ((Itr 0 k).stop i H ∧ N σ H) ∨ ((Itr 0 k).go i H ∧ ∃ N' : L2.St → Hp → Prop, (∀ σ' H', N' σ' H' → ∃ m', m' < m ∧ W (i + 1) m' σ' H') ∧ ∀ z H', (Itr 0 k).yld i H z H' → gName 2 z σ H' fun σ2 H2 => tb { nx := N', ct := N', bk := N, rt := Q } σ2 H2) := by
  subst hk
  refine for_range (D := { nx := N, rt := Q }) (fun i σ H' => H' = H ∧ ∃ kv, σ = [some x, some y, kv]) ⟨rfl, _, rfl⟩ ?_ ?_
  · rintro i σ H' hi ⟨rfl, kv, rfl⟩
    obtain ⟨_, gx⟩ := dp_get hx
    obtain ⟨_, gy⟩ := dp_get hy
    have ed := List.getElem?_eq_getElem hi
    obtain ⟨u, eu, du⟩ := gx i _ ed
    obtain ⟨v, ev, dv⟩ := gy i _ ed
    show tb _ ([some x, some y, kv].set 2 (some (.int (0 + (i : Int))))) H'
    rw [Int.zero_add]
    exact hb i u v _ kv _ hi eu ev du dv (hf _ (List.getElem_mem hi)) ⟨rfl, _, rfl⟩
  · rintro σ H' ⟨rfl, kv, rfl⟩
    exact hq kv
theorem ok_u_law_same_n (T : Txt K mg A) : ∀ n, FnOk P w K mg base CX0 (n + 2) A.f_u_law_same A.d_u_law_same (["got", "due"] : List Str) (sp_same K n) := by
  intro n
  induction n with
  | zero => exact ⟨fun vs H Q E h => by obtain ⟨x, y, d, rfl, _⟩ := h; rfl, fun Ar outer s H args us vs Q E _ _ _ _ h => by obtain ⟨x, y, d, _, _, _, hf, _⟩ := h; exact hf.elim⟩
  | succ n ih =>
    refine T.F_u_law_same.ok sc_u_law_same (fun vs H Q E h => ?_) (fun cdv Ar outer s H vs Q E hr h => ?_)
    · obtain ⟨x, y, d, rfl, _⟩ := h
      rfl
    · obtain ⟨x, y, d, rfl, hx, hy, hf, q⟩ := h
      have ihx := ih
      refine ⟨_, (pss_cons (ps_if (pt_cmpR op_isN (pv 1) pe_non (nomark _)) (pss_one (ps_ret (pe_cmpR op_isN (pv 0) pe_non (nomark _)))) pss_nil)
        (pss_cons (ps_if (pt_cmpR op_isK (pv 1) pe_bl (nomark _)) (pss_one (ps_ret (pe_cmpR op_isK (pv 0) pe_bl (nomark _)))) pss_nil)
        (pss_cons (ps_if (pt_cmpR op_isK (pv 1) pe_bl (nomark _)) (pss_one (ps_ret (pe_cmpR op_isK (pv 0) pe_bl (nomark _)))) pss_nil)
        (pss_cons (ps_if (pt_val (pe_callB isi_K (by rfl) T.z_isinstance (by decide +kernel) (pa_cons (pv 1) (pa_cons (pe_bltn (v := .ty "int") (by rfl) T.z_int (by decide +kernel) rfl) pa_nil)))) (pss_one (ps_ret (pe_and (pe_call (ok_u_law_is_int T) (hr.mono (by omega)) rfl T.g_u_law_is_int T.k_u_law_is_int (b_u_law_is_int T) .nil pass0 (pa_cons (pv 0) pa_nil)) (pe_one (pe_cmpR op_eq (pv 0) (pv 1) (nomark _)))))) pss_nil)
        (pss_cons (ps_if (pt_val (pe_callB isi_K (by rfl) T.z_isinstance (by decide +kernel) (pa_cons (pv 1) (pa_cons (pe_bltn (v := .ty "str") (by rfl) T.z_str (by decide +kernel) rfl) pa_nil)))) (pss_one (ps_ret (pe_and (pe_callB isi_K (by rfl) T.z_isinstance (by decide +kernel) (pa_cons (pv 0) (pa_cons (pe_bltn (v := .ty "str") (by rfl) T.z_str (by decide +kernel) rfl) pa_nil))) (pe_one (pe_cmpR op_eq (pv 0) (pv 1) (nomark _)))))) pss_nil)
        (pss_cons (ps_if (pt_val (pe_callB isi_K (by rfl) T.z_isinstance (by decide +kernel) (pa_cons (pv 1) (pa_cons (pe_bltn (v := .ty "tuple") (by rfl) T.z_tuple (by decide +kernel) rfl) pa_nil)))) (pss_one (ps_if (PW.pt (pw_or (pt_not (pt_val (pe_callB isi_K (by rfl) T.z_isinstance (by decide +kernel) (pa_cons (pv 0) (pa_cons (pe_bltn (v := .ty "tuple") (by rfl) T.z_tuple (by decide +kernel) rfl) pa_nil))))) (pw_or1 (pt_cmpR op_ne (pe_callB len_K (by rfl) T.z_len (by decide +kernel) (pa_cons (pv 0) pa_nil)) (pe_callB len_K (by rfl) T.z_len (by decide +kernel) (pa_cons (pv 1) pa_nil)) (nomark _))))) (pss_one (ps_ret pe_bl)) pss_nil)) (pss_one (ps_if (PW.pt (pw_or (pt_not (pt_val (pe_callB isi_K (by rfl) T.z_isinstance (by decide +kernel) (pa_cons (pv 0) (pa_cons (pe_bltn (v := .ty "list") (by rfl) T.z_list (by decide +kernel) rfl) pa_nil))))) (pw_or1 (pt_cmpR op_ne (pe_callB len_K (by rfl) T.z_len (by decide +kernel) (pa_cons (pv 0) pa_nil)) (pe_callB len_K (by rfl) T.z_len (by decide +kernel) (pa_cons (pv 1) pa_nil)) (nomark _))))) (pss_one (ps_ret pe_bl)) pss_nil)))
        (pss_cons (ps_for PassesOwn.never rfl (pi_range1 rfl T.z_range (pa_cons (pe_callB len_K (by rfl) T.z_len (by decide +kernel) (pa_cons (pv 1) pa_nil)) pa_nil)) (pg_name (i := 2) sc_u_law_same.nd rfl (Or.inl rfl)) (pss_one (ps_if (pt_not (pt_val (pe_call ih (hr.mono (by omega)) rfl T.g_u_law_same T.k_u_law_same (b_u_law_same T) .nil pass0 (pa_cons (pe_ix ix_sK (pv 0) (pv 2) (fun _ _ => rfl)) (pa_cons (pe_ix ix_sK (pv 1) (pv 2) (fun _ _ => rfl)) pa_nil))))) (pss_one (ps_ret pe_bl)) pss_nil)))
        (pss_one (ps_ret pe_bl))))))))), ?_⟩
      cases hx with
      | non => cases hy; exact ⟨_, rfl, rfl, _, rfl, wayT rfl ⟨_, rfl, rfl, q⟩⟩
      | bl b =>
        cases hy
        refine ⟨_, rfl, rfl, _, rfl, wayF (fun z => by cases z) ?_⟩
        cases b with
        | true => exact ⟨_, rfl, _, rfl, _, rfl, wayT rfl ⟨_, rfl, _, rfl, q⟩⟩
        | false => exact ⟨_, rfl, _, rfl, _, rfl, wayF (fun z => by cases z) ⟨_, rfl, _, rfl, _, rfl, wayT rfl ⟨_, rfl, _, rfl, q⟩⟩⟩
      | int i =>
        cases hy
        refine ⟨_, rfl, rfl, _, rfl, wayF (fun z => by cases z) ⟨_, rfl, _, rfl, _, rfl, wayF (fun z => by cases z) ⟨_, rfl, _, rfl, _, rfl, wayF (fun z => by cases z) ?_⟩⟩⟩
        refine ⟨_, rfl, _, _, _, _, true, rfl, .ty _, .base (.int i), kit_ty (by decide +kernel), ⟨_, rfl, iteT ?_⟩⟩
        refine ⟨_, rfl, i, rfl, _, rfl, iteT ?_⟩
        refine ⟨_, rfl, _, rfl, rfl, ?_⟩
        rw [decide_eq_true rfl]
        exact q
      | str z =>
        cases hy
        refine ⟨_, rfl, rfl, _, rfl, wayF (fun z => by cases z) ⟨_, rfl, _, rfl, _, rfl, wayF (fun z => by cases z) ⟨_, rfl, _, rfl, _, rfl, wayF (fun z => by cases z) ?_⟩⟩⟩
        refine ⟨_, rfl, _, _, _, _, false, rfl, .ty _, .base (.str z), kit_ty (by decide +kernel), ⟨_, rfl, iteF ?_⟩⟩
        refine ⟨_, rfl, _, _, _, _, true, rfl, .ty _, .base (.str z), kit_ty (by decide +kernel), ⟨_, rfl, iteT ?_⟩⟩
        refine ⟨_, rfl, _, _, _, _, true, rfl, .ty _, .base (.str z), kit_ty (by decide +kernel), ⟨_, rfl, iteT ?_⟩⟩
        refine ⟨_, rfl, _, rfl, rfl, ?_⟩
        rw [decide_eq_true rfl]
        exact q
      | lst sx ax =>
        cases hy with
        | lst sy ay =>
          refine ⟨_, rfl, rfl, _, rfl, wayF (fun z => by cases z) ⟨_, rfl, _, rfl, _, rfl, wayF (fun z => by cases z) ⟨_, rfl, _, rfl, _, rfl, wayF (fun z => by cases z) ?_⟩⟩⟩
          refine ⟨_, rfl, _, _, _, _, false, rfl, .ty _, tyx_l sy, kit_ty (by decide +kernel), ⟨_, rfl, iteF ?_⟩⟩
          refine ⟨_, rfl, _, _, _, _, false, rfl, .ty _, tyx_l sy, kit_ty (by decide +kernel), ⟨_, rfl, iteF ?_⟩⟩
          refine ⟨_, rfl, _, _, _, _, false, rfl, .ty _, tyx_l sy, kit_ty (by decide +kernel), ⟨_, rfl, iteF ?_⟩⟩
          refine ⟨_, rfl, _, _, _, _, true, rfl, .ty _, tyx_l sx, kit_ty (by decide +kernel), ⟨_, rfl, iteF ?_⟩⟩
          have lx := (dp_get ax).1
          have ly := (dp_get ay).1
          refine ⟨_, rfl, _, _, rfl, .inl ⟨_, sx, rfl⟩, _, rfl, _, _, rfl, .inl ⟨_, sy, rfl⟩, rfl, _, rfl, wayNT (by rw [lx, ly]) ?_⟩
          have h40 := hf.1
          refine ⟨_, rfl, _, _, rfl, .inl ⟨_, sy, rfl⟩, _, rfl, by omega, by omega, same_loop (by omega) ax ay hf.2 hf.1 (fun i u v d kv D hi eu ev du dv fd hn => ?_) (fun kv => q)⟩
          refine ⟨_, rfl, _, rfl, .inl ⟨_, _, _, u, rfl, rfl, sx, atI_nat eu, ?_⟩⟩
          refine ⟨_, rfl, _, rfl, .inl ⟨_, _, _, v, rfl, rfl, sy, atI_nat ev, ?_⟩⟩
          exact ⟨u, v, d, rfl, du, dv, fd, _, rfl, iteF hn⟩
      | tup sx ax =>
        cases hy with
        | tup sy ay =>
          refine ⟨_, rfl, rfl, _, rfl, wayF (fun z => by cases z) ⟨_, rfl, _, rfl, _, rfl, wayF (fun z => by cases z) ⟨_, rfl, _, rfl, _, rfl, wayF (fun z => by cases z) ?_⟩⟩⟩
          refine ⟨_, rfl, _, _, _, _, false, rfl, .ty _, tyx_t sy, kit_ty (by decide +kernel), ⟨_, rfl, iteF ?_⟩⟩
          refine ⟨_, rfl, _, _, _, _, false, rfl, .ty _, tyx_t sy, kit_ty (by decide +kernel), ⟨_, rfl, iteF ?_⟩⟩
          refine ⟨_, rfl, _, _, _, _, true, rfl, .ty _, tyx_t sy, kit_ty (by decide +kernel), ⟨_, rfl, iteT ?_⟩⟩
          refine ⟨_, rfl, _, _, _, _, true, rfl, .ty _, tyx_t sx, kit_ty (by decide +kernel), ⟨_, rfl, iteF ?_⟩⟩
          have lx := (dp_get ax).1
          have ly := (dp_get ay).1
          refine ⟨_, rfl, _, _, rfl, .inr ⟨_, sx, rfl⟩, _, rfl, _, _, rfl, .inr ⟨_, sy, rfl⟩, rfl, _, rfl, wayNT (by rw [lx, ly]) ?_⟩
          have h40 := hf.1
          refine ⟨_, rfl, _, _, rfl, .inr ⟨_, sy, rfl⟩, _, rfl, by omega, by omega, same_loop (by omega) ax ay hf.2 hf.1 (fun i u v d kv D hi eu ev du dv fd hn => ?_) (fun kv => q)⟩
          refine ⟨_, rfl, _, rfl, .inr (.inl ⟨_, _, _, u, rfl, rfl, sx, atI_nat eu, ?_⟩)⟩
          refine ⟨_, rfl, _, rfl, .inr (.inl ⟨_, _, _, v, rfl, rfl, sy, atI_nat ev, ?_⟩)⟩
          exact ⟨u, v, d, rfl, du, dv, fd, _, rfl, iteF hn⟩
theorem ok_u_law_same (T : Txt K mg A) : FnOk P w K mg base CX0 6 A.f_u_law_same A.d_u_law_same (["got", "due"] : List Str) (sp_same K 4) := ok_u_law_same_n T 4

def spParts (K : PySem.W.Frag) : Sp := fun vs H Q _ => ∃ (c n b : Int) (d : Bool), vs = [.int c, .int n, .int b, .bl d] ∧ 0 ≤ c ∧ (1 ≤ n ∧ n ≤ 360) ∧
  ∀ p H' xs ps, H p = none → Ex H H' → H' p = some (.lst xs) → Prs K H' xs ps → ps.length ≤ 100 → Fit n ps → Q (.ref p) H'
def menuA (n : Int) (i : Nat) : List Int := [21] ++ (List.replicate i [4, n]).flatten
theorem menuA_succ {n : Int} {i : Nat} : menuA n (i + 1) = menuA n i ++ [4, n] := by
  unfold menuA
  rw [List.replicate_succ', List.flatten_append, ← List.append_assoc]
  simp
theorem menuA_len {n : Int} {i : Nat} : (menuA n i).length = 1 + 2 * i := by
  induction i with
  | zero => rfl
  | succ i ih => rw [menuA_succ, List.length_append, ih]; simp; omega
theorem menuA_get {n : Int} {i k : Nat} (h : k < i) : (menuA n i)[2 * k + 2]? = some n := by
  induction i with
  | zero => omega
  | succ i ih =>
    rw [menuA_succ]
    by_cases hk : k < i
    · rw [List.getElem?_append_left (by rw [menuA_len]; omega)]
      exact ih hk
    · rw [List.getElem?_append_right (by rw [menuA_len]; omega), menuA_len, show 2 * k + 2 - (1 + 2 * i) = 1 by omega]
      rfl
theorem menuA_mem {n : Int} {i : Nat} (hn : 1 ≤ n ∧ n ≤ 360) : ∀ x ∈ menuA n i, 1 ≤ x ∧ x ≤ 360 := by
  induction i with
  | zero => intro x hx; cases List.mem_singleton.mp hx; decide
  | succ i ih =>
    intro x hx
    rw [menuA_succ] at hx
    rcases List.mem_append.mp hx with hx | hx
    · exact ih x hx
    · simp only [List.mem_cons, List.not_mem_nil, or_false] at hx
      rcases hx with rfl | rfl
      · decide
      · exact hn
theorem ok_u_law_any_parts (T : Txt K mg A) : FnOk P w K mg base CX0 3 A.f_u_law_any_parts A.d_u_law_any_parts (["cell", "n", "base", "doubles"] : List Str) (spParts K) := by
  refine T.F_u_law_any_parts.ok sc_u_law_any_parts (fun vs H Q E h => ?_) (fun cdv Ar outer s H vs Q E hr h => ?_)
  · obtain ⟨c, n, b, d, rfl, _⟩ := h
    rfl
  · obtain ⟨c, n, b, d, rfl, hc, hn, k⟩ := h
    refine ⟨_, (pss_cons (ps_set (i := 4) sc_u_law_any_parts.nd rfl (Or.inl rfl) (pe_lst (pa_cons pe_int pa_nil)))
        (pss_cons (ps_for PassesOwn.never rfl (pi_range1 rfl T.z_range (pa_cons pe_int pa_nil)) (pg_name (i := 5) sc_u_law_any_parts.nd rfl (Or.inl rfl)) (pss_one (ps_set (i := 4) sc_u_law_any_parts.nd rfl (Or.inl rfl) (pe_op op_cat (pv 4) (pe_lst (pa_cons pe_int (pa_cons (pv 1) pa_nil)))))))
        (pss_cons (ps_set (i := 6) sc_u_law_any_parts.nd rfl (Or.inl rfl) (pe_call (ok_u_law_draws T) (hr.mono (by omega)) rfl T.g_u_law_draws T.k_u_law_draws (b_u_law_draws T) .nil pass0 (pa_cons (pv 0) (pa_cons pe_int (pa_cons (pv 4) pa_nil)))))
        (pss_cons (ps_set (i := 7) sc_u_law_any_parts.nd rfl (Or.inl rfl) (pe_lst pa_nil))
        (pss_cons (ps_for PassesOwn.never rfl (pi_range1 rfl T.z_range (pa_cons (pe_ix ix_lK (pv 6) pe_int (fun _ _ => rfl)) pa_nil)) (pg_name (i := 5) sc_u_law_any_parts.nd rfl (Or.inl rfl)) (pss_cons (ps_set (i := 8) sc_u_law_any_parts.nd rfl (Or.inl rfl) (pe_tup (pa_cons (pe_op op_add (pv 2) (pe_ix ix_lK (pv 6) (pe_op op_add (pe_op op_mul pe_int (pv 5)) pe_int) (fun _ _ => rfl))) (pa_cons (pe_ix ix_lK (pv 6) (pe_op op_add (pe_op op_mul pe_int (pv 5)) pe_int) (fun _ _ => rfl)) pa_nil))))
        (pss_one (ps_if (PW.pt (pw_or (pt_val (pv 3)) (pw_or1 (pt_cmpR (op_notInD (room65 hr)) (pv 8) (pv 7) (by with_unfolding_all rfl))))) (pss_one (ps_expr (pe_bm PySem.F.plainAttrs_list PySem.F.slot_list_append PySem.F.type_list_append mt_append (pv 7) (pa_cons (pv 8) pa_nil)))) pss_nil))))
        (pss_one (ps_ret (pv 7)))))))), ?_⟩
    dsimp only
    refine q_asgL (xs := [.int 21]) (el_lst (ea_cons ev_c ea_nil) (by decide)) fun m0 H1 hm0 e1 h1 => ?_
    refine q_forR1 (j := 5) (n := 20) (ea_cons ev_c ea_nil) (by decide)
      (fun i σ' H' => ∃ (m : Addr) (kv : Option V), σ' = [some (.int c), some (.int n), some (.int b), some (.bl d), some (.ref m), kv, none, none, none] ∧ Ex H H' ∧ H' m = some (.lst ((menuA n i).map V.int)))
      (fun H2 e2 => ⟨m0, none, rfl, e1.trans e2, e2 _ _ h1⟩) ?_ ?_
    · rintro i σ' H' hi ⟨m, kv, rfl, ex, hm⟩
      refine ⟨_, rfl, _, rfl, by show 2 ≤ sizeLine; decide, fun q hq => ?_⟩
      have hz : ((menuA n i).map V.int).length + 2 ≤ sizeLine := by
        rw [List.length_map, menuA_len]
        exact Nat.le_trans (show 1 + 2 * i + 2 ≤ 100 by omega) (by decide)
      refine ⟨m, q, _, _, rfl, rfl, Ex.new hq _ _ hm, upd_same, hz, fun p hp => ⟨p, _, rfl, ex.trans ((Ex.new hq).trans (Ex.new hp)), ?_⟩⟩
      rw [upd_same, menuA_succ, List.map_append]
      rfl
    rintro σ' H' ⟨m, kv, rfl, ex, hm⟩
    have hlen : (menuA n 20).length = 41 := menuA_len
    refine ⟨_, rfl, _, rfl, c, 3, m, menuA n 20, rfl, SqL.of hm, hc, by decide, by omega, fun x hx => ?_, fun dp H1 ds hdp e1' hds hD => ?_⟩
    · have hx' := menuA_mem hn x hx
      exact ⟨hx'.1, Nat.lt_of_le_of_lt (show x.natAbs ≤ 360 by omega) (by decide +kernel)⟩
    obtain ⟨d0, hd0, h00, h01⟩ := hD.2 0 21 rfl
    have get : ∀ (i : Nat) (x : Int) H', Ex H1 H' → ds[i]? = some x → ∀ σ : L2.St, σ[6]? = some (some (.ref dp)) → ∀ te : TE, Ev te σ H' (.int (i : Int)) → Ev (tOp (rIxL K) (tVar 6) te) σ H' (.int x) := fun i x H' e hi σ hσ te ht =>
      ev_op (ev_var hσ) ht (rv_ixL (sq_of (e _ _ hds)) (atI_nat (by rw [List.getElem?_map, hi]; rfl)))
    dsimp only
    refine q_asgL (xs := []) (el_lst ea_nil (by decide)) fun pp H2 hpp e2 h2 => ?_
    refine q_forR1 (j := 5) (n := d0) (ea_cons (get 0 d0 _ e2 hd0 _ rfl _ ev_c) ea_nil) (by omega)
      (fun i σ' H' => ∃ (kv qv : Option V) (xs : List V) (ps : List (Int × Int)), σ' = [some (.int c), some (.int n), some (.int b), some (.bl d), some (.ref m), kv, some (.ref dp), some (.ref pp), qv] ∧ Ex H1 H' ∧ H' pp = some (.lst xs) ∧ Prs K H' xs ps ∧ ps.length ≤ i ∧ Fit n ps)
      (fun H3 e3 => ⟨kv, none, [], [], rfl, e2.trans e3, e3 _ _ h2, Prs.nil, Nat.le_refl _, fun p hp => by cases hp⟩) ?_ ?_
    · rintro i σ' H' hi ⟨kv, qv, xs, ps, rfl, ex1, hp, hP, hpl, hF⟩
      have hi20 : i < 20 := by omega
      have hdl : ds.length = 41 := by rw [hD.1, hlen]
      obtain ⟨x, hx⟩ : ∃ x, ds[2 * i + 1]? = some x := ⟨_, List.getElem?_eq_getElem (by omega)⟩
      obtain ⟨y, hy, hy0, hy1⟩ := hD.2 (2 * i + 2) n (menuA_get hi20)
      dsimp only
      refine q_asgU (xs := [.int (b + x), .int y]) (eu_tup (ea_cons (ev_op (ev_var (i := 2) rfl) (get (2 * i + 1) x H' ex1 hx _ rfl _ ?_) rv_I0) (ea_cons (get (2 * i + 2) y H' ex1 hy _ rfl _ ?_) ea_nil)) (by show 2 ≤ 100000; decide)) fun t H3 ht e3 h3 => ?_
      · exact ev_is (ev_op (ev_op ev_c (ev_var (i := 5) rfl) (rv_I (show CMul 2 (i : Int) from .inl ⟨by decide, by decide⟩))) ev_c rv_I0) (by simp)
      · exact ev_is (ev_op (ev_op ev_c (ev_var (i := 5) rfl) (rv_I (show CMul 2 (i : Int) from .inl ⟨by decide, by decide⟩))) ev_c rv_I0) (by simp)
      refine add_part (K := K) (j := 7) (p := (b + x, y)) rfl rfl rfl (e3 _ _ hp) (hP.ex e3) (st_of h3) (by omega) (fun H4 e4 => ?_) (fun H4 e4 => ?_)
      · exact ⟨_, _, xs, ps, rfl, (ex1.trans e3).trans e4, e4 _ _ (e3 _ _ hp), (hP.ex e3).ex e4, by omega, hF⟩
      · have em : Ex H1 (upd H4 pp (.lst (xs ++ [.ref t]))) := Ex.mut ((ex1.trans e3).trans e4) hpp
        have h4 := e4 _ _ (e3 _ _ hp)
        exact ⟨_, _, _, ps ++ [(b + x, y)], rfl, em, upd_same, (((hP.ex e3).ex e4).mut h4).snoc (sqT_mut h4 (st_of (e4 _ _ h3))), by rw [List.length_append, List.length_singleton]; omega, hF.snoc hy0 hy1⟩
    rintro σ' H' ⟨kv, qv, xs, ps, rfl, ex1, hp, hP, hpl, hF⟩
    exact ⟨_, rfl, k pp H' xs ps (fresh_back (ex.trans e1') hpp) ((ex.trans e1').trans ex1) hp hP (by omega) hF⟩
theorem ok_u_law_round_parts (T : Txt K mg A) : FnOk P w K mg base CX0 3 A.f_u_law_round_parts A.d_u_law_round_parts (["cell", "n", "base", "doubles"] : List Str) (spParts K) := by
  refine T.F_u_law_round_parts.ok sc_u_law_round_parts (fun vs H Q E h => ?_) (fun cdv Ar outer s H vs Q E hr h => ?_)
  · obtain ⟨c, n, b, d, rfl, _⟩ := h
    rfl
  · obtain ⟨c, n, b, d, rfl, hc, hn, k⟩ := h
    refine ⟨_, (pss_cons (ps_set (i := 4) sc_u_law_round_parts.nd rfl (Or.inl rfl) (pe_call (ok_u_law_draws T) (hr.mono (by omega)) rfl T.g_u_law_draws T.k_u_law_draws (b_u_law_draws T) .nil pass0 (pa_cons (pv 0) (pa_cons pe_int (pa_cons (pe_lst (pa_cons pe_int (pa_cons (pv 1) (pa_cons (pv 1) (pa_cons pe_int (pa_cons pe_int pa_nil)))))) pa_nil)))))
        (pss_cons (ps_set (i := 5) sc_u_law_round_parts.nd rfl (Or.inl rfl) (pe_lst pa_nil))
        (pss_cons (ps_for PassesOwn.never rfl (pi_range1 rfl T.z_range (pa_cons (pe_op op_add pe_int (pe_ix ix_lK (pv 4) pe_int (fun _ _ => rfl))) pa_nil)) (pg_name (i := 6) sc_u_law_round_parts.nd rfl (Or.inl rfl)) (pss_cons (ps_set (i := 7) sc_u_law_round_parts.nd rfl (Or.inl rfl) (pe_op op_add (pe_op op_mul (pv 6) (pe_ix ix_lK (pv 4) pe_int (fun _ _ => rfl))) (pe_op op_fdiv (pv 6) (pe_op op_add pe_int (pe_ix ix_lK (pv 4) pe_int (fun _ _ => rfl))))))
        (pss_cons (ps_set (i := 8) sc_u_law_round_parts.nd rfl (Or.inl rfl) (pe_tup (pa_cons (pe_op op_add (pv 2) (pe_op op_mod (pe_callTy call_int1 (by rfl) T.z_int (by decide +kernel) (pa_cons (pv 7) pa_nil)) pe_int)) (pa_cons (pe_op op_mod (pe_callTy call_int1 (by rfl) T.z_int (by decide +kernel) (pa_cons (pe_op op_add (pe_ix ix_lK (pv 4) pe_int (fun _ _ => rfl)) (pe_op op_mul (pv 6) (pe_ix ix_lK (pv 4) pe_int (fun _ _ => rfl)))) pa_nil)) (pv 1)) pa_nil))))
        (pss_one (ps_if (PW.pt (pw_or (pt_val (pv 3)) (pw_or1 (pt_cmpR (op_notInD (room65 hr)) (pv 8) (pv 5) (by with_unfolding_all rfl))))) (pss_one (ps_expr (pe_bm PySem.F.plainAttrs_list PySem.F.slot_list_append PySem.F.type_list_append mt_append (pv 5) (pa_cons (pv 8) pa_nil)))) pss_nil)))))
        (pss_one (ps_ret (pv 5)))))), ?_⟩
    refine ⟨_, rfl, _, rfl, _, rfl, by show 5 ≤ sizeLine; decide, fun m hm => ?_⟩
    have h1000 : (360 : Nat) < 2 ^ 1000 := by decide +kernel
    refine ⟨c, 3, m, [100, n, n, 4, 9], rfl, SqL.of upd_same, hc, by decide, by show 5 ≤ 64; decide, fun x hx => ?_, fun dp H1 ds hdp e1' hds hD => ?_⟩
    · simp only [List.mem_cons, List.not_mem_nil, or_false] at hx
      exact ⟨by omega, Nat.lt_of_le_of_lt (show x.natAbs ≤ 360 by omega) h1000⟩
    obtain ⟨d0, hd0, h00, h01⟩ := hD.2 0 100 rfl
    obtain ⟨d1, hd1, h10, h11⟩ := hD.2 1 n rfl
    obtain ⟨d2, hd2, h20, h21⟩ := hD.2 2 n rfl
    obtain ⟨d3, hd3, h30, h31⟩ := hD.2 3 4 rfl
    obtain ⟨d4, hd4, h40, h41⟩ := hD.2 4 9 rfl
    have ex : Ex H H1 := (Ex.new hm).trans e1'
    have get : ∀ (i : Nat) (x : Int) H', Ex H1 H' → ds[i]? = some x → ∀ σ : L2.St, σ[4]? = some (some (.ref dp)) → ∀ te : TE, Ev te σ H' (.int (i : Int)) → Ev (tOp (rIxL K) (tVar 4) te) σ H' (.int x) := fun i x H' e hi σ hσ te ht =>
      ev_op (ev_var hσ) ht (rv_ixL (sq_of (e _ _ hds)) (atI_nat (by rw [List.getElem?_map, hi]; rfl)))
    dsimp only
    refine q_asgL (xs := []) (el_lst ea_nil (by decide)) fun pp H2 hpp e2 h2 => ?_
    refine q_forR1 (j := 6) (n := 1 + d0) (ea_cons (ev_op ev_c (get 0 d0 _ e2 hd0 _ rfl _ ev_c) rv_I0) ea_nil) (by omega)
      (fun i σ' H' => ∃ (kv lv qv : Option V) (xs : List V) (ps : List (Int × Int)), σ' = [some (.int c), some (.int n), some (.int b), some (.bl d), some (.ref dp), some (.ref pp), kv, lv, qv] ∧ Ex H1 H' ∧ H' pp = some (.lst xs) ∧ Prs K H' xs ps ∧ ps.length ≤ i ∧ Fit n ps)
      (fun H3 e3 => ⟨none, none, none, [], [], rfl, e2.trans e3, e3 _ _ h2, Prs.nil, Nat.le_refl _, fun p hp => by cases hp⟩) ?_ ?_
    · rintro i σ' H' hi ⟨kv, lv, qv, xs, ps, rfl, ex1, hp, hP, hpl, hF⟩
      dsimp only
      have i6 : ∀ σ : L2.St, σ[6]? = some (some (.int (i : Int))) → ∀ H1, Ev (tVar 6) σ H1 (.int (i : Int)) := fun σ h H1 => ev_var h
      have hk : ∀ (σ : L2.St) H2, Ex H1 H2 → σ[4]? = some (some (.ref dp)) → ∀ (j : Nat) x, ds[j]? = some x → Ev (tOp (rIxL K) (tVar 4) (tC (.int (j : Int)))) σ H2 (.int x) := fun σ H2 e h j x hx => get j x H2 e hx σ h _ ev_c
      refine q_asg (v := .int ((i : Int) * d3 + (i : Int) / (1 + d4))) (ev_op (ev_op (ev_var rfl) (hk _ H' ex1 rfl 3 d3 hd3) (rv_I (show CMul (i : Int) d3 from .inr ⟨by omega, by omega⟩))) (ev_op (ev_var rfl) (ev_op ev_c (hk _ H' ex1 rfl 4 d4 hd4) rv_I0) (rv_I (show CDiv (i : Int) (1 + d4) from ⟨by omega, by omega⟩))) rv_I0) fun H3 e3 => ?_
      have int1 : ∀ (z : Int) (σ : L2.St) (te : TE) H0, Ev te σ H0 (.int z) → Ev (tCB (fun xs H Q => (∃ i, xs = [V.int i] ∧ Q (V.int i) H) ∨ ∃ k, xs = [V.bl k] ∧ Q (V.int (if k = true then 1 else 0)) H) (tCons te tNil)) σ H0 (.int z) := fun z σ te H0 h =>
        ev_cb (ea_cons h ea_nil) fun H1 _ _ q => .inl ⟨_, rfl, q H1 (Ex.refl H1)⟩
      refine q_asgU (xs := [.int (b + ((i : Int) * d3 + (i : Int) / (1 + d4)) % 4), .int ((d1 + (i : Int) * d2) % n)])
        (eu_tup (ea_cons (ev_op (ev_var (i := 2) rfl) (ev_op (int1 _ _ _ _ (ev_var (i := 7) rfl)) ev_c (rv_I (show (0 : Int) < 4 by decide))) rv_I0)
          (ea_cons (ev_op (int1 _ _ _ _ (ev_op (hk _ H3 (ex1.trans e3) rfl 1 d1 hd1) (ev_op (ev_var (i := 6) rfl) (hk _ H3 (ex1.trans e3) rfl 2 d2 hd2) (rv_I (show CMul (i : Int) d2 from .inr ⟨by omega, by omega⟩))) rv_I0)) (ev_var (i := 1) rfl) (rv_I (show (0 : Int) < n by omega))) ea_nil)) (by show 2 ≤ 100000; decide)) fun t H4 ht e4 h4 => ?_
      have e34 := e3.trans e4
      have m0 : 0 ≤ (d1 + (i : Int) * d2) % n := Int.emod_nonneg _ (by omega)
      have m1 : (d1 + (i : Int) * d2) % n < n := Int.emod_lt_of_pos _ (by omega)
      refine add_part (K := K) (j := 5) (p := (b + ((i : Int) * d3 + (i : Int) / (1 + d4)) % 4, (d1 + (i : Int) * d2) % n)) rfl rfl rfl (e34 _ _ hp) (hP.ex e34) (st_of h4) (by omega) (fun H5 e5 => ?_) (fun H5 e5 => ?_)
      · exact ⟨_, _, _, xs, ps, rfl, (ex1.trans e34).trans e5, e5 _ _ (e34 _ _ hp), (hP.ex e34).ex e5, by omega, hF⟩
      · have em : Ex H1 (upd H5 pp (.lst (xs ++ [.ref t]))) := Ex.mut ((ex1.trans e34).trans e5) hpp
        have h5 := e5 _ _ (e34 _ _ hp)
        exact ⟨_, _, _, _, ps ++ [(b + ((i : Int) * d3 + (i : Int) / (1 + d4)) % 4, (d1 + (i : Int) * d2) % n)], rfl, em, upd_same, (((hP.ex e34).ex e5).mut h5).snoc (sqT_mut h5 (st_of (e5 _ _ h4))), by rw [List.length_append, List.length_singleton]; omega, hF.snoc m0 m1⟩
    rintro σ' H' ⟨kv, lv, qv, xs, ps, rfl, ex1, hp, hP, hpl, hF⟩
    exact ⟨_, rfl, k pp H' xs ps (fresh_back ex hpp) (ex.trans ex1) hp hP (by omega) hF⟩

def spDue (K : PySem.W.Frag) : Sp := fun vs H Q _ => ∃ (v : V) (ps : List (Int × Int)) (n i : Int), vs = [v, .int n, .int i] ∧ PartsAt K H v ps ∧ ps.length ≤ 100 ∧ (1 ≤ n ∧ n ≤ 360) ∧ Fit n ps ∧
  (∀ r, scanR n [] (sel ps i) = some r → ∀ p H', H p = none → Ex H H' → H' p = some (.tup [.str "RepeatedHour", .int r]) → Q (.ref p) H') ∧
  (scanR n [] (sel ps i) = none → ∀ p l H', H p = none → H l = none → Ex H H' → H' p = some (.tup [.str "Lot", .ref l]) → H' l = some (.lst ((resid n (sel ps i)).map V.int)) → Q (.ref p) H')
theorem ok_u_law_due (T : Txt K mg A) : FnOk P w K mg base CX0 1 A.f_u_law_due A.d_u_law_due (["parts", "n", "index"] : List Str) (spDue K) := by
  refine T.F_u_law_due.ok sc_u_law_due (fun vs H Q E h => ?_) (fun cdv Ar outer s H vs Q E hr h => ?_)
  · obtain ⟨v, ps, n, i, rfl, _⟩ := h
    rfl
  · obtain ⟨v, ps, n, i, rfl, ⟨a, xs, rfl, hS, hP⟩, hz, hn, hF, k1, k2⟩ := h
    refine ⟨_, (pss_cons (ps_set (i := 3) sc_u_law_due.nd rfl (Or.inr rfl) (pe_lc (own := [("h", 4)]) (g := gName 4) (tt := tYes) rfl sc_u_law_due.nd (pi_range1 rfl T.z_range (pa_cons (pv 1) pa_nil)) (blkOk_by (own := [("h", 4)]) (N := N_u_law_due) (sc := defScope s_u_law_due) (by decide +kernel)) (fun _ _ _ _ _ => (pg_name (i := 4) sc_u_law_due.nd rfl (Or.inl rfl))) (fun _ _ _ _ _ => pts_nil) (fun _ _ _ _ _ => pe_int)))
        (pss_cons (ps_for PassesOwn.never rfl (pi_list (pv 0)) (pg_tup rfl (pgs_cons (pg_name (i := 5) sc_u_law_due.nd rfl (Or.inl rfl)) (pgs_cons (pg_name (i := 6) sc_u_law_due.nd rfl (Or.inl rfl)) pgs_nil))) (pss_one (ps_if (pt_cmpR op_eq (pv 5) (pv 2) (nomark _)) (pss_cons (ps_if (pt_cmpR op_eq (pe_ix ix_lK (pv 3) (pv 6) (fun _ _ => rfl)) pe_int (nomark _)) (pss_one (ps_ret (pe_tup (pa_cons pe_str (pa_cons (pv 6) pa_nil))))) pss_nil)
        (pss_one (ps_asg pe_int (pg_sub (pv 3) (pv 6) set_list)))) pss_nil)))
        (pss_one (ps_ret (pe_tup (pa_cons pe_str (pa_cons (pe_lc (own := [("h", 4)]) (g := gName 4) rfl sc_u_law_due.nd (pi_range1 rfl T.z_range (pa_cons (pv 1) pa_nil)) (blkOk_by (own := [("h", 4)]) (N := N_u_law_due) (sc := defScope s_u_law_due) (by decide +kernel)) (fun _ _ _ _ _ => (pg_name (i := 4) sc_u_law_due.nd rfl (Or.inl rfl))) (fun _ _ _ _ _ => (pts_one (pt_cmpR op_eq (pe_ix ix_lK (pv 3) (pv 4) (fun _ _ => rfl)) pe_int (nomark _)))) (fun _ _ _ _ _ => (pv 4))) pa_nil))))))), ?_⟩
    dsimp only
    have ev0 : EvL (tLc (iRng1 (tCons (tVar 1) tNil)) (gName 4) tYes (tC (V.int 0)) [4]) [some (V.ref a), some (V.int n), some (V.int i), none, none, none, none] H (flagI n.toNat []) := by
      have h := el_rng1 (σ := [some (V.ref a), some (V.int n), some (V.int i), none, none, none, none]) (H := H) (te := tC (.int 0)) (tt := tYes) (ta := tCons (tVar 1) tNil) (j := 4) (vs := [4]) (fun _ => true) (fun _ => .int 0) (ea_cons (ev_var rfl) ea_nil) (by omega) (fun x => rfl)
        (fun j H1 _ _ => fun H2 e Q q => q H2 (Ex.refl H2)) (fun j H1 _ _ _ => ev_c)
      have e : given n.toNat (fun _ => true) (fun _ => V.int 0) = flagI n.toNat [] := by
        unfold given flagI
        rw [List.filter_eq_self.mpr fun _ _ => rfl]
        simp
      rw [e] at h
      exact h
    refine q_asgL ev0 fun tk H1 htk e1 h1 => ?_
    refine q_forL (K := K) (a := a) (xs := xs) (ev_var rfl) (ex_l e1 hS)
      (fun j σ' H' => ∃ iv sv : Option V, σ' = [some (V.ref a), some (V.int n), some (V.int i), some (.ref tk), none, iv, sv] ∧ Ex H H' ∧ H' tk = some (.lst (flagI n.toNat (sel (ps.take j) i))) ∧
        scanR n [] (sel ps i) = scanR n (sel (ps.take j) i) (sel (ps.drop j) i))
      (fun H2 e2 => ⟨none, none, rfl, e1.trans e2, e2 _ _ h1, rfl⟩) (fun j σ' H' _ ⟨_, _, _, e, _⟩ => ex_l e hS) ?_ ?_
    · rintro j x σ' H' hj ⟨iv, sv, rfl, ex, ht, hsc⟩
      obtain ⟨t, p, rfl, hp, hT⟩ := hP.2 j x hj
      have hf := hF p (List.mem_of_getElem? hp)
      obtain ⟨m, hm⟩ : ∃ m : Nat, p.2 = (m : Int) := ⟨p.2.toNat, by omega⟩
      have hmn : m < n.toNat := by omega
      have hs2 : (m : Int) % n = (m : Int) := Int.emod_eq_of_lt (by omega) (by omega)
      rw [sel_drop hp] at hsc
      refine ⟨t, _, rfl, ex_t ex hT, rfl, _, _, rfl, _, _, rfl, rfl, ?_⟩
      dsimp only
      refine s_when (b := decide (p.1 = i)) (et_test (ev_is (ev_op (ev_var (i := 5) rfl) (ev_var (i := 2) rfl) (rv_eq rfl)) (by rw [dec_ii]))) (fun hb H2 e2 => ?_) (fun hb H2 e2 => ?_)
      · have hb' := of_decide_eq_true hb
        rw [if_pos hb', hm] at hsc
        have hat : atI (flagI n.toNat (sel (ps.take j) i)) p.2 = some (.int (if (m : Int) ∈ sel (ps.take j) i then 1 else 0)) := by
          rw [hm]
          exact atI_nat (flagI_get hmn)
        refine q_when (b := decide ((m : Int) ∈ sel (ps.take j) i)) (et_test (ev_is (ev_op (ev_op (ev_var (i := 3) rfl) (ev_var (i := 6) rfl) (rv_ixL (sq_of (e2 _ _ ht)) hat)) ev_c (rv_eq rfl)) (by by_cases h : (m : Int) ∈ sel (ps.take j) i <;> simp [h]))) (fun hc H3 e3 => ?_) (fun hc H3 e3 => ?_)
        · have hc' := of_decide_eq_true hc
          refine s_retU (xs := [.str "RepeatedHour", .int p.2]) (eu_tup (ea_cons ev_c (ea_cons (ev_var (i := 6) rfl) ea_nil)) (by show 2 ≤ 100000; decide)) fun q H4 hq e4 h4 => ?_
          have e34 := (ex.trans e2).trans e3
          refine k1 p.2 ?_ q H4 (fresh_back e34 hq) (e34.trans e4) h4
          rw [hsc, hm, List.singleton_append]
          unfold scanR
          rw [if_pos (by rw [hs2]; exact hc'), hs2]
        · have hc' := of_decide_eq_false hc
          refine s_setL (xs := flagI n.toNat (sel (ps.take j) i)) (j := m) (v := .int 1) (e3 _ _ (e2 _ _ ht)) ev_c (ev_var (i := 3) rfl) (by rw [← hm]; exact ev_var (i := 6) rfl) (by rw [flagI_len]; exact hmn) fun H4 e4 => ?_
          have e34 := ((ex.trans e2).trans e3).trans e4
          refine ⟨_, _, rfl, Ex.mut e34 htk, ?_, ?_⟩
          · rw [upd_same, flagI_set hmn, sel_take hp, if_pos hb', hm]
          · rw [hsc, sel_take hp, if_pos hb', hm, List.singleton_append]
            conv => lhs; unfold scanR
            rw [if_neg (by rw [hs2]; exact hc'), hs2]
      · have hb' := of_decide_eq_false hb
        rw [if_neg hb', List.nil_append] at hsc
        exact ⟨_, _, rfl, ex.trans e2, by rw [e2 _ _ ht, sel_take hp, if_neg hb', List.append_nil], by rw [hsc, sel_take hp, if_neg hb', List.append_nil]⟩
    rintro σ' H' ⟨iv, sv, rfl, ex, ht, hsc⟩
    rw [hP.1, List.take_length] at ht hsc
    rw [List.drop_length] at hsc
    have evl : EvL (tLc (iRng1 (tCons (tVar 1) tNil)) (gName 4) (tTest (tOp rEq (tOp (rIxL K) (tVar 3) (tVar 4)) (tC (V.int 1)))) (tVar 4) [4]) [some (V.ref a), some (V.int n), some (V.int i), some (.ref tk), none, iv, sv] H' ((resid n (sel ps i)).map V.int) := by
      have h := el_rng1 (σ := [some (V.ref a), some (V.int n), some (V.int i), some (.ref tk), none, iv, sv]) (H := H') (te := tVar 4) (tt := tTest (tOp rEq (tOp (rIxL K) (tVar 3) (tVar 4)) (tC (V.int 1)))) (ta := tCons (tVar 1) tNil) (j := 4) (vs := [4]) (fun h => decide ((h : Int) ∈ sel ps i)) (fun h => .int (h : Int)) (ea_cons (ev_var rfl) ea_nil) (by omega) (fun x => rfl)
        (fun j H1 e1 hj => et_test (ev_is (ev_op (ev_op (ev_var (i := 3) rfl) (ev_var (i := 4) rfl) (rv_ixL (sq_of (e1 _ _ ht)) (atI_nat (flagI_get (by omega))))) ev_c (rv_eq rfl)) (by by_cases h : (j : Int) ∈ sel ps i <;> simp [h]))) (fun j H1 _ _ _ => ev_var (i := 4) rfl)
      rw [given_pick] at h
      exact h
    dsimp only [tRet, tTup, tCons, tNil, tC, List.map]
    refine evl _ (Ex.refl _) _ fun l H2 hl e2 h2 => ?_
    exact ⟨by show 2 ≤ sizeLine; decide, fun p hp => k2 (by rw [hsc]; rfl) p l _ (fresh_back (ex.trans e2) hp) (fresh_back ex hl) ((ex.trans e2).trans (Ex.new hp)) upd_same (Ex.new hp _ _ h2)⟩

def spRef (K : PySem.W.Frag) : Sp := fun vs H Q _ => ∃ (v : V) (ps : List (Int × Int)) (n i r : Int), vs = [v, .int n, .int i] ∧ PartsAt K H v ps ∧ ps.length ≤ 100 ∧ (1 ≤ n ∧ n ≤ 360) ∧ scanR n [] (sel ps i) = some r ∧ ∀ H', Ex H H' → Q (.bl true) H' 
theorem ok_u_law_refused_by_base (T : Txt K mg A) : FnOk P w K mg base CX0 7 A.f_u_law_refused_by_base A.d_u_law_refused_by_base (["parts", "n", "index"] : List Str) (spRef K) := by
  refine T.F_u_law_refused_by_base.ok sc_u_law_refused_by_base (fun vs H Q E h => ?_) (fun cdv Ar outer s H vs Q E hr h => ?_)
  · obtain ⟨v, ps, n, i, r, rfl, _⟩ := h
    rfl
  · obtain ⟨v, ps, n, i, r, rfl, ⟨aa, xs, rfl, hS, hP⟩, hz, hn, hsc, k⟩ := h
    refine ⟨_, (pss_cons (ps_set (i := 3) sc_u_law_refused_by_base.nd rfl (Or.inl rfl) pe_bl)
        (pss_cons (ps_try_as (i := 4) (Wout := fun _ _ _ _ => False) rfl rfl sc_u_law_refused_by_base.nd rfl rfl ⟨rfl, by decide, Or.inl T.g_WatchError⟩ takes0 (fun W pn xe tk _ => (pss_one (ps_expr (pe_callS (ok_starts_of T) (hr.mono (by omega)) rfl T.g_starts_of T.k_starts_of (b_starts_of T) (fun σ => passAt tk σ) (pa_cons (pe_callTy list_K (by rfl) T.z_list (by decide +kernel) (pa_cons (pv 0) pa_nil)) (pa_cons (pv 1) (pa_cons (pv 2) pa_nil))))))) (fun a oe cls dd pn hz hf => (pss_one (ps_set (i := 3) sc_u_law_refused_by_base.nd rfl (Or.inl rfl) (pe_and (pe_callB (call_isX T.ex_RepeatedHour hz hf) (by rfl) T.z_isinstance (by decide +kernel) (pa_cons (pv 4) (pa_cons (pe_bltn (v := .ty "ValueError") (by rfl) T.z_ValueError (by decide +kernel) rfl) pa_nil))) (pe_and (pe_callB (call_isX T.ex_RepeatedHour hz hf) (by rfl) T.z_isinstance (by decide +kernel) (pa_cons (pv 4) (pa_cons (pe_glob (v := .ref A.C_RepeatedHour) rfl T.g_RepeatedHour rfl) pa_nil))) (pe_one (pe_not (pe_callB (call_isX T.ex_RepeatedHour hz hf) (by rfl) T.z_isinstance (by decide +kernel) (pa_cons (pv 4) (pa_cons (pe_glob (v := .ref A.C_BadNumber) rfl T.g_BadNumber rfl) pa_nil)))))))))))
        (pss_one (ps_ret (pv 3))))), ?_⟩
    refine ⟨_, rfl, aa, xs, rfl, .inl hS, fun l hl => ⟨_, rfl, _, rfl, _, ps, n, i, rfl, ⟨l, xs, rfl, SqL.of upd_same, hP.ex (Ex.new hl)⟩, by omega, fun hc => absurd hn hc, fun _ r' hr' d H' e hd => ?_, fun _ hs => by rw [hsc] at hs; cases hs⟩⟩
    refine ⟨true, T.xm_RepeatedHour_WatchError, fun _ a ha => ?_, fun q => Bool.noConfusion q⟩
    have rc : ∀ (c : V) (cv : Value) (b : Bool), (∀ u, RelV c u → u = cv) → PySem.W.kitOne K (.ref A.C_RepeatedHour) cv = some b → Ev (tCB (rIsX K A.C_RepeatedHour a (.ref A.C_RepeatedHour) (some d)) (tCons (tVar 4) (tCons (tC c) tNil))) [some (.ref aa), some (.int n), some (.int i), some (.bl false), some (.ref a)] H' (.bl b) := fun c cv b hc hk =>
      ev_cb (ea_cons (ev_var rfl) (ea_cons ev_c ea_nil)) fun H1 e1 Q q => ⟨rfl, d, _, _, _, _, rfl, e1 _ _ hd, rfl, hc, hk, q H1 (Ex.refl _)⟩
    dsimp only
    refine s_asg (v := .bl true) (ev_andV (a := true) (b := true) (rc _ _ true (fun u h => h) T.kit_RepeatedHour_ValueError) fun _ => ev_andV (a := true) (b := true) (rc _ _ true (fun u h => h) T.kit_RepeatedHour_RepeatedHour) fun _ => ev_notV (a := false) (rc _ _ false (fun u h => h) T.kit_RepeatedHour_BadNumber)) fun H1 e1 => ?_
    exact ⟨_, rfl, k H1 (((Ex.new hl).trans e).trans e1)⟩

def spRight (K : PySem.W.Frag) : Sp := fun vs H Q _ => ∃ (v : V) (ps : List (Int × Int)) (n i : Int), vs = [v, .int n, .int i] ∧ PartsAt K H v ps ∧ ps.length ≤ 100 ∧ (1 ≤ n ∧ n ≤ 360) ∧ Fit n ps ∧ ∀ H', Ex H H' → Q (.bl true) H' 
theorem ok_u_law_right (T : Txt K mg A) : FnOk P w K mg base CX0 8 A.f_u_law_right A.d_u_law_right (["parts", "n", "index"] : List Str) (spRight K) := by
  refine T.F_u_law_right.ok sc_u_law_right (fun vs H Q E h => ?_) (fun cdv Ar outer s H vs Q E hr h => ?_)
  · obtain ⟨v, ps, n, i, rfl, _⟩ := h
    rfl
  · obtain ⟨v, ps, n, i, rfl, ⟨a, xs, rfl, hS, hP⟩, hz, hn, hF, k⟩ := h
    refine ⟨_, (pss_cons (ps_set (i := 3) sc_u_law_right.nd rfl (Or.inl rfl) (pe_call (ok_u_law_due T) (hr.mono (by omega)) rfl T.g_u_law_due T.k_u_law_due (b_u_law_due T) .nil pass0 (pa_cons (pv 0) (pa_cons (pv 1) (pa_cons (pv 2) pa_nil)))))
        (pss_cons (ps_set (i := 4) sc_u_law_right.nd rfl (Or.inl rfl) (pe_callTy list_K (by rfl) T.z_list (by decide +kernel) (pa_cons (pv 0) pa_nil)))
        (pss_cons (ps_set (i := 5) sc_u_law_right.nd rfl (Or.inl rfl) pe_non)
        (pss_cons (ps_set (i := 6) sc_u_law_right.nd rfl (Or.inl rfl) (pe_tup (pa_cons pe_str (pa_cons pe_int pa_nil))))
        (pss_cons (ps_try_as (i := 7) (Wout := fun _ _ _ _ => False) rfl rfl sc_u_law_right.nd rfl rfl ⟨rfl, by decide, Or.inl T.g_RepeatedHour⟩ takes0 (fun W pn xe tk _ => (pss_one (ps_set (i := 5) sc_u_law_right.nd rfl (Or.inl rfl) (pe_callS (ok_starts_of T) (hr.mono (by omega)) rfl T.g_starts_of T.k_starts_of (b_starts_of T) (fun σ => passAt tk σ) (pa_cons (pv 4) (pa_cons (pv 1) (pa_cons (pv 2) pa_nil))))))) (fun a oe cls dd pn hz hf => (pss_one (ps_set (i := 6) sc_u_law_right.nd rfl (Or.inl rfl) (pe_tup (pa_cons pe_str (pa_cons (pe_xf T.xf_RepeatedHour T.nf_RepeatedHour_hour hz hf (pv 7)) pa_nil)))))))
        (pss_cons (ps_if (pt_not (pt_val (pe_call (ok_u_law_same T) (hr.mono (by omega)) rfl T.g_u_law_same T.k_u_law_same (b_u_law_same T) .nil pass0 (pa_cons (pv 4) (pa_cons (pv 0) pa_nil))))) (pss_one (ps_ret pe_bl)) pss_nil)
        (pss_cons (ps_if (pt_cmpR op_eq (pe_ix ix_tK (pv 3) pe_int (fun _ _ => rfl)) pe_str (nomark _)) (pss_one (ps_ret (pe_and (pe_call (ok_u_law_same T) (hr.mono (by omega)) rfl T.g_u_law_same T.k_u_law_same (b_u_law_same T) .nil pass0 (pa_cons (pv 6) (pa_cons (pv 3) pa_nil))) (pe_one (pe_call (ok_u_law_refused_by_base T) (hr.mono (by omega)) rfl T.g_u_law_refused_by_base T.k_u_law_refused_by_base (b_u_law_refused_by_base T) .nil pass0 (pa_cons (pv 0) (pa_cons (pv 1) (pa_cons (pv 2) pa_nil)))))))) pss_nil)
        (pss_cons (ps_if (pt_not (pt_val (pe_callB isi_K (by rfl) T.z_isinstance (by decide +kernel) (pa_cons (pv 5) (pa_cons (pe_glob (v := .ref A.C_Lot) rfl T.g_Lot rfl) pa_nil))))) (pss_one (ps_ret pe_bl)) pss_nil)
        (pss_cons (ps_expr (pe_bm0 PySem.F.plainAttrs_list PySem.F.slot_list_clear PySem.F.type_list_clear mt_clear (pv 4)))
        (pss_cons (ps_set (i := 8) sc_u_law_right.nd rfl (Or.inl rfl) (pe_prop (pv 5) T.cl_Lot T.P_Lot_members (ok_Lot_members T) (hr.mono (by omega)) (b_Lot_members T) .nil pass0 rfl))
        (pss_cons (ps_if (PW.pt (pw_or (pt_not (pt_val (pe_call (ok_u_law_same T) (hr.mono (by omega)) rfl T.g_u_law_same T.k_u_law_same (b_u_law_same T) .nil pass0 (pa_cons (pe_fld (pv 5) rfl) (pa_cons (pv 1) pa_nil))))) (pw_or1 (pt_not (pt_val (pe_call (ok_u_law_same T) (hr.mono (by omega)) rfl T.g_u_law_same T.k_u_law_same (b_u_law_same T) .nil pass0 (pa_cons (pv 8) (pa_cons (pe_ix ix_tK (pv 3) pe_int (fun _ _ => rfl)) pa_nil)))))))) (pss_one (ps_ret pe_bl)) pss_nil)
        (pss_cons (ps_expr (pe_bm PySem.F.plainAttrs_list PySem.F.slot_list_append PySem.F.type_list_append mt_append (pv 8) (pa_cons (pv 1) pa_nil)))
        (pss_one (ps_ret (pe_call (ok_u_law_same T) (hr.mono (by omega)) rfl T.g_u_law_same T.k_u_law_same (b_u_law_same T) .nil pass0 (pa_cons (pe_prop (pv 5) T.cl_Lot T.P_Lot_members (ok_Lot_members T) (hr.mono (by omega)) (b_Lot_members T) .nil pass0 rfl) (pa_cons (pe_ix ix_tK (pv 3) pe_int (fun _ _ => rfl)) pa_nil))))))))))))))))), ?_⟩
    have pa : ∀ {H'}, Ex H H' → PartsAt K H' (.ref a) ps := fun e => ⟨a, xs, rfl, ex_l e hS, hP.ex e⟩
    cases hsc : scanR n [] (sel ps i) with
    | some r =>
      refine ⟨_, rfl, _, rfl, _, rfl, _, ps, n, i, rfl, pa (Ex.refl H), hz, hn, hF, fun r' hr' du H1 hdu e1 h1 => ?_, fun hs => by rw [hsc] at hs; cases hs⟩
      rw [hsc] at hr'
      cases hr'
      refine ⟨_, rfl, a, xs, rfl, .inl (ex_l e1 hS), fun hd hhd => ⟨by show 2 ≤ sizeLine; decide, fun tp htp => ?_⟩⟩
      have e2 : Ex H (upd (upd H1 hd (.lst xs)) tp (.tup [.str "Lot", .int 0])) := (e1.trans (Ex.new hhd)).trans (Ex.new htp)
      refine ⟨_, rfl, _, rfl, _, rfl, _, ps, n, i, rfl, ⟨hd, xs, rfl, SqL.of (Ex.new htp _ _ upd_same), hP.ex e2⟩, by omega, fun hc => absurd hn hc, fun _ r' hr' d H' e hd' => ?_, fun _ hs => by rw [hsc] at hs; cases hs⟩
      rw [hsc] at hr'
      cases hr'
      refine ⟨true, T.xm_RepeatedHour_RepeatedHour, fun _ ea hea => ?_, fun q => Bool.noConfusion q⟩
      refine ⟨_, rfl, rfl, rfl, d, _, _, rfl, hd', rfl, by show 2 ≤ sizeLine; decide, fun tp2 htp2 => ?_⟩
      have e3 : Ex H (upd H' tp2 (.tup [.str "RepeatedHour", .int r])) := (e2.trans e).trans (Ex.new htp2)
      have e5 : Ex (upd (upd H1 hd (.lst xs)) tp (.tup [.str "Lot", .int 0])) (upd H' tp2 (.tup [.str "RepeatedHour", .int r])) := e.trans (Ex.new htp2)
      have hhd' := e5 _ _ (Ex.new htp _ _ upd_same)
      have hdu' := e5 _ _ (Ex.new htp _ _ (Ex.new hhd _ _ h1))
      refine ⟨_, rfl, _, rfl, _, _, .list (ps.map ptD), rfl, .lst (sq_of hhd') (hP.ex e3).dp, .lst (ex_l e3 hS) (hP.ex e3).dp, flat_pts (by omega), _, rfl, iteF ?_⟩
      refine ⟨_, rfl, du, _, _, _, rfl, rfl, SqT.of hdu', rfl, rfl, _, rfl, wayT rfl ?_⟩
      have dt : ∀ H' : Hp, DpAll K H' [.str "RepeatedHour", .int r] [.str "RepeatedHour", .int r] := fun _ => .cons (.str _) (.cons (.int _) .nil)
      refine ⟨_, rfl, _, rfl, _, _, .tuple [.str "RepeatedHour", .int r], rfl, .tup (st_of upd_same) (dt _), .tup (st_of hdu') (dt _), ⟨by show 2 ≤ 40000; decide, fun d hd => ?_⟩, ?_⟩
      · simp only [List.mem_cons, List.not_mem_nil, or_false] at hd
        rcases hd with rfl | rfl <;> exact True.intro
      exact ⟨true, rfl, iteT ⟨_, rfl, _, rfl, _, rfl, _, ps, n, i, r, rfl, pa e3, hz, hn, hsc, fun H4 e4 => k H4 (e3.trans e4)⟩⟩
    | none =>
      refine ⟨_, rfl, _, rfl, _, rfl, _, ps, n, i, rfl, pa (Ex.refl H), hz, hn, hF, fun r' hr' => (by rw [hsc] at hr'; cases hr'), fun _ du dl H1 hdu hdl e1 h1 h1l => ?_⟩
      refine ⟨_, rfl, a, xs, rfl, .inl (ex_l e1 hS), fun hd hhd => ⟨by show 2 ≤ sizeLine; decide, fun tp htp => ?_⟩⟩
      have e2 : Ex H (upd (upd H1 hd (.lst xs)) tp (.tup [.str "Lot", .int 0])) := (e1.trans (Ex.new hhd)).trans (Ex.new htp)
      refine ⟨_, rfl, _, rfl, _, rfl, _, ps, n, i, rfl, ⟨hd, xs, rfl, SqL.of (Ex.new htp _ _ upd_same), hP.ex e2⟩, by omega, fun hc => absurd hn hc, fun _ r' hr' => (by rw [hsc] at hr'; cases hr'), fun _ _ la dx lm H' hla hlm e g1 g2 => ?_⟩
      have hhd' := e _ _ (Ex.new htp _ _ upd_same)
      have hdu' := e _ _ (Ex.new htp _ _ (Ex.new hhd _ _ h1))
      have hdl' := e _ _ (Ex.new htp _ _ (Ex.new hhd _ _ h1l))
      have e3 : Ex H H' := e2.trans e
      refine ⟨_, rfl, _, rfl, _, _, .list (ps.map ptD), rfl, .lst (sq_of hhd') (hP.ex e3).dp, .lst (ex_l e3 hS) (hP.ex e3).dp, flat_pts (by omega), _, rfl, iteF ?_⟩
      refine ⟨_, rfl, du, _, _, _, rfl, rfl, SqT.of hdu', rfl, rfl, _, rfl, wayF (fun z => absurd (V.str.inj z) (by decide +kernel)) ?_⟩
      refine ⟨_, rfl, _, _, _, _, true, rfl, .own _, T.ty_Lot _ la dx _ g1, kit_self, ⟨_, rfl, iteF ?_⟩⟩
      refine ⟨_, rfl, .inl ⟨rfl, _, SqL.of hhd'⟩, hd, xs, rfl, rfl, hhd', ?_⟩
      rw [hF.sel] at g2
      have fr : ∀ b : Addr, (upd (upd H1 hd (.lst xs)) tp (.tup [.str "Lot", .int 0])) b = none → b ≠ hd := fun b hb he => by
        rw [he, Ex.new htp _ _ upd_same] at hb
        cases hb
      have n3 : du ≠ hd := fun h => by rw [h, hhd] at h1; cases h1
      have n4 : dl ≠ hd := fun h => by rw [h, hhd] at h1l; cases h1l
      have e4 : Ex H (upd H' hd (.lst [])) := Ex.mut e3 (fresh_back e1 hhd)
      have g1' : (upd H' hd (.lst [])) la = some (.ins A.C_Lot dx (lotF n lm)) := by rw [upd_ne (fr _ hla)]; exact g1
      have g2' : (upd H' hd (.lst [])) lm = some (.lst ((resid n (sel ps i)).map V.int)) := by rw [upd_ne (fr _ hlm)]; exact g2
      have d1 : (upd H' hd (.lst [])) du = some (.tup [.str "Lot", .ref dl]) := by rw [upd_ne n3]; exact hdu'
      have d2 : (upd H' hd (.lst [])) dl = some (.lst ((resid n (sel ps i)).map V.int)) := by rw [upd_ne n4]; exact hdl'
      have hln : (resid n (sel ps i)).length ≤ 360 := Nat.le_trans (pick_len _ _ _) (by omega)
      refine ⟨_, rfl, la, dx, _, rfl, g1', la, dx, lm, n, _, rfl, g1', g2', fun ro H2 hro e5 h5 => ?_⟩
      refine ⟨_, rfl, la, _, dx, _, _, rfl, e5 _ _ g1', T.cl_Lot, T.na_Lot_hours, rfl, _, rfl, _, _, .int n, rfl, .int n, .int n, True.intro, _, rfl, iteF ?_⟩
      refine ⟨_, rfl, _, rfl, du, _, _, _, rfl, rfl, SqT.of (e5 _ _ d1), rfl, _, _, .list ((resid n (sel ps i)).map .int), rfl, .lst (sq_of h5) (dp_ints _), .lst (sq_of (e5 _ _ d2)) (dp_ints _), flatI hln, _, rfl, iteF ?_⟩
      have hsz : ((resid n (sel ps i)).map V.int).length < sizeLine := by
        rw [List.length_map]
        exact Nat.lt_of_le_of_lt hln (by decide)
      refine ⟨_, rfl, .inl ⟨rfl, _, SqL.of h5⟩, _, rfl, ro, _, _, rfl, rfl, h5, hsz, ?_⟩
      have e7 := Ex.mut (o := .lst ((resid n (sel ps i)).map V.int ++ [.int n])) e5 hro
      refine ⟨_, rfl, la, dx, _, rfl, e7 _ _ g1', la, dx, lm, n, _, rfl, e7 _ _ g1', e7 _ _ g2', fun p3 H3 hp3 e6 h6 => ?_⟩
      exact ⟨_, rfl, du, _, _, _, rfl, rfl, SqT.of (e6 _ _ (e7 _ _ d1)), rfl, _, _, .list ((resid n (sel ps i)).map .int), rfl, .lst (sq_of h6) (dp_ints _), .lst (sq_of (e6 _ _ (e7 _ _ d2))) (dp_ints _), flatI hln, k _ ((e4.trans e7).trans e6)⟩

def spBad (K : PySem.W.Frag) : Sp := fun vs H Q _ => ∃ (v : V) (ps : List (Int × Int)) (n i : Int), vs = [v, .int n, .int i] ∧ PartsAt K H v ps ∧ ps.length ≤ 100 ∧ ¬ (1 ≤ n ∧ n ≤ 360) ∧ ∀ H', Ex H H' → Q (.bl true) H' 
theorem ok_u_law_bad_hours (T : Txt K mg A) : FnOk P w K mg base CX0 8 A.f_u_law_bad_hours A.d_u_law_bad_hours (["parts", "hours", "index"] : List Str) (spBad K) := by
  refine T.F_u_law_bad_hours.ok sc_u_law_bad_hours (fun vs H Q E h => ?_) (fun cdv Ar outer s H vs Q E hr h => ?_)
  · obtain ⟨v, ps, n, i, rfl, _⟩ := h
    rfl
  · obtain ⟨v, ps, n, i, rfl, ⟨aa, xs, rfl, hS, hP⟩, hz, hn, k⟩ := h
    refine ⟨_, (pss_cons (ps_set (i := 3) sc_u_law_bad_hours.nd rfl (Or.inl rfl) (pe_tup (pa_cons pe_str (pa_cons pe_str (pa_cons pe_int pa_nil)))))
        (pss_cons (ps_try_as (i := 4) (Wout := fun _ _ _ _ => False) rfl rfl sc_u_law_bad_hours.nd rfl rfl ⟨rfl, by decide, Or.inl T.g_BadNumber⟩ takes0 (fun W pn xe tk _ => (pss_one (ps_expr (pe_callS (ok_starts_of T) (hr.mono (by omega)) rfl T.g_starts_of T.k_starts_of (b_starts_of T) (fun σ => passAt tk σ) (pa_cons (pe_callTy list_K (by rfl) T.z_list (by decide +kernel) (pa_cons (pv 0) pa_nil)) (pa_cons (pv 1) (pa_cons (pv 2) pa_nil))))))) (fun a oe cls dd pn hz hf => (pss_one (ps_set (i := 3) sc_u_law_bad_hours.nd rfl (Or.inl rfl) (pe_tup (pa_cons pe_str (pa_cons (pe_xf T.xf_BadNumber T.nf_BadNumber_name hz hf (pv 4)) (pa_cons (pe_xf T.xf_BadNumber T.nf_BadNumber_value hz hf (pv 4)) pa_nil))))))))
        (pss_one (ps_ret (pe_call (ok_u_law_same T) (hr.mono (by omega)) rfl T.g_u_law_same T.k_u_law_same (b_u_law_same T) .nil pass0 (pa_cons (pv 3) (pa_cons (pe_tup (pa_cons pe_str (pa_cons pe_str (pa_cons (pv 1) pa_nil)))) pa_nil))))))), ?_⟩
    refine ⟨by show 3 ≤ sizeLine; decide, fun tp htp => ?_⟩
    refine ⟨_, rfl, aa, xs, rfl, .inl (ex_l (Ex.new htp) hS), fun l hl => ⟨_, rfl, _, rfl, _, ps, n, i, rfl, ⟨l, xs, rfl, SqL.of upd_same, hP.ex ((Ex.new htp).trans (Ex.new hl))⟩, by omega, fun _ d H' e hd => ?_, fun hc => absurd hc hn, fun hc => absurd hc hn⟩⟩
    refine ⟨true, T.xm_BadNumber_BadNumber, fun _ a ha => ?_, fun q => Bool.noConfusion q⟩
    refine ⟨_, rfl, rfl, rfl, d, _, _, rfl, hd, rfl, _, rfl, rfl, rfl, d, _, _, rfl, hd, rfl, by show 3 ≤ sizeLine; decide, fun p hp => ?_⟩
    have e1 : Ex H (upd H' p (.tup [.str "BadNumber", .str "hours", .int n])) := (((Ex.new htp).trans (Ex.new hl)).trans e).trans (Ex.new hp)
    have dt : ∀ H' : Hp, DpAll K H' [.str "BadNumber", .str "hours", .int n] [.str "BadNumber", .str "hours", .int n] := fun _ => .cons (.str _) (.cons (.str _) (.cons (.int _) .nil))
    refine ⟨_, rfl, _, rfl, by show 3 ≤ sizeLine; decide, fun q hq => ?_⟩
    refine ⟨_, _, .tuple [.str "BadNumber", .str "hours", .int n], rfl, .tup (st_of (Ex.new hq _ _ upd_same)) (dt _), .tup (st_of upd_same) (dt _), ⟨by show 3 ≤ 40000; decide, fun d hd => ?_⟩, k _ (e1.trans (Ex.new hq))⟩
    simp only [List.mem_cons, List.not_mem_nil, or_false] at hd
    rcases hd with rfl | rfl | rfl <;> exact True.intro

def spLaw (K : PySem.W.Frag) : Sp := fun vs H Q _ => ∃ (a : Addr) (ns : List Int), vs = [.ref a] ∧ SqL K H a (ns.map V.int) ∧ ns.length ≤ 63 ∧ ∀ H', Q (.bl true) H' 
theorem ok_law (T : Txt K mg A) : FnOk P w K mg base CX0 9 A.f_law A.d_law (["script"] : List Str) (spLaw K) := by
  refine T.F_law.ok sc_law (fun vs H Q E h => ?_) (fun cdv Ar outer s H vs Q E hr h => ?_)
  · obtain ⟨a, ns, rfl, _⟩ := h
    rfl
  · obtain ⟨a, ns, rfl, hS, hl, k⟩ := h
    refine ⟨_, (pss_cons (ps_set (i := 1) sc_law.nd rfl (Or.inl rfl) (pe_call (ok_u_law_draws T) (hr.mono (by omega)) rfl T.g_u_law_draws T.k_u_law_draws (b_u_law_draws T) .nil pass0 (pa_cons (pe_call (ok_u_law_cell T) (hr.mono (by omega)) rfl T.g_u_law_cell T.k_u_law_cell (b_u_law_cell T) .nil pass0 (pa_cons (pv 0) (pa_cons pe_int pa_nil))) (pa_cons pe_int (pa_cons (pe_lst (pa_cons pe_int (pa_cons pe_int (pa_cons pe_int (pa_cons pe_int (pa_cons pe_int (pa_cons pe_int (pa_cons pe_int (pa_cons pe_int pa_nil))))))))) pa_nil)))))
        (pss_cons (ps_set (i := 2) sc_law.nd rfl (Or.inl rfl) (pe_op op_add pe_int (pe_ix ix_lK (pv 1) pe_int (fun _ _ => rfl))))
        (pss_cons (ps_if (pt_cmpR op_eq (pe_ix ix_lK (pv 1) pe_int (fun _ _ => rfl)) pe_int (nomark _)) (pss_one (ps_set (i := 2) sc_law.nd rfl (Or.inl rfl) (pe_op op_add pe_int (pe_ix ix_lK (pv 1) pe_int (fun _ _ => rfl))))) pss_nil)
        (pss_cons (ps_if (pt_cmpR op_eq (pe_ix ix_lK (pv 1) pe_int (fun _ _ => rfl)) pe_int (nomark _)) (pss_one (ps_set (i := 2) sc_law.nd rfl (Or.inl rfl) pe_int)) pss_nil)
        (pss_cons (ps_set (i := 3) sc_law.nd rfl (Or.inl rfl) pe_int)
        (pss_cons (ps_if (pt_cmpR op_eq (pe_ix ix_lK (pv 1) pe_int (fun _ _ => rfl)) pe_int (nomark _)) (pss_one (ps_set (i := 3) sc_law.nd rfl (Or.inl rfl) (pe_ix ix_lK (pv 1) pe_int (fun _ _ => rfl)))) pss_nil)
        (pss_cons (ps_if (pt_cmpR op_eq (pe_ix ix_lK (pv 1) pe_int (fun _ _ => rfl)) pe_int (nomark _)) (pss_one (ps_set (i := 4) sc_law.nd rfl (Or.inl rfl) (pe_call (ok_u_law_round_parts T) (hr.mono (by omega)) rfl T.g_u_law_round_parts T.k_u_law_round_parts (b_u_law_round_parts T) .nil pass0 (pa_cons (pe_call (ok_u_law_cell T) (hr.mono (by omega)) rfl T.g_u_law_cell T.k_u_law_cell (b_u_law_cell T) .nil pass0 (pa_cons (pv 0) (pa_cons pe_int pa_nil))) (pa_cons (pv 2) (pa_cons (pv 3) (pa_cons (pe_cmpR op_eq (pe_ix ix_lK (pv 1) pe_int (fun _ _ => rfl)) pe_int (nomark _)) pa_nil))))))) (pss_one (ps_set (i := 4) sc_law.nd rfl (Or.inl rfl) (pe_call (ok_u_law_any_parts T) (hr.mono (by omega)) rfl T.g_u_law_any_parts T.k_u_law_any_parts (b_u_law_any_parts T) .nil pass0 (pa_cons (pe_call (ok_u_law_cell T) (hr.mono (by omega)) rfl T.g_u_law_cell T.k_u_law_cell (b_u_law_cell T) .nil pass0 (pa_cons (pv 0) (pa_cons pe_int pa_nil))) (pa_cons (pv 2) (pa_cons (pv 3) (pa_cons (pe_cmpR op_eq (pe_ix ix_lK (pv 1) pe_int (fun _ _ => rfl)) pe_int (nomark _)) pa_nil))))))))
        (pss_cons (ps_set (i := 5) sc_law.nd rfl (Or.inl rfl) (pe_lst pa_nil))
        (pss_cons (ps_for PassesOwn.never rfl (pi_list (pv 4)) (pg_name (i := 6) sc_law.nd rfl (Or.inl rfl)) (pss_one (ps_if (pt_cmpR (op_notInD (room65 hr)) (pv 6) (pv 5) (by with_unfolding_all rfl)) (pss_one (ps_expr (pe_bm PySem.F.plainAttrs_list PySem.F.slot_list_append PySem.F.type_list_append mt_append (pv 5) (pa_cons (pv 6) pa_nil)))) pss_nil)))
        (pss_cons (ps_for PassesOwn.never rfl (pi_range2 rfl T.z_range (pa_cons (pv 3) (pa_cons (pe_op op_add (pv 3) pe_int) pa_nil))) (pg_name (i := 7) sc_law.nd rfl (Or.inl rfl)) (pss_one (ps_if (PW.pt (pw_or (pt_not (pt_val (pe_call (ok_u_law_right T) (hr.mono (by omega)) rfl T.g_u_law_right T.k_u_law_right (b_u_law_right T) .nil pass0 (pa_cons (pv 4) (pa_cons (pv 2) (pa_cons (pv 7) pa_nil)))))) (pw_or1 (pt_not (pt_val (pe_call (ok_u_law_right T) (hr.mono (by omega)) rfl T.g_u_law_right T.k_u_law_right (b_u_law_right T) .nil pass0 (pa_cons (pv 5) (pa_cons (pv 2) (pa_cons (pv 7) pa_nil))))))))) (pss_one (ps_ret pe_bl)) pss_nil)))
        (pss_cons (ps_if (pt_cmpR op_eq (pe_ix ix_lK (pv 1) pe_int (fun _ _ => rfl)) pe_int (nomark _)) (pss_cons (ps_for PassesOwn.never rfl (pi_list (pe_lst (pa_cons pe_int (pa_cons (pe_un un_neg pe_int) pa_nil)))) (pg_name (i := 8) sc_law.nd rfl (Or.inl rfl)) (pss_one (ps_if (pt_not (pt_val (pe_call (ok_u_law_bad_hours T) (hr.mono (by omega)) rfl T.g_u_law_bad_hours T.k_u_law_bad_hours (b_u_law_bad_hours T) .nil pass0 (pa_cons (pe_lst pa_nil) (pa_cons (pv 8) (pa_cons (pv 3) pa_nil)))))) (pss_one (ps_ret pe_bl)) pss_nil)))
        (pss_one (ps_ret (pe_call (ok_u_law_bad_hours T) (hr.mono (by omega)) rfl T.g_u_law_bad_hours T.k_u_law_bad_hours (b_u_law_bad_hours T) .nil pass0 (pa_cons (pv 4) (pa_cons pe_int (pa_cons (pv 3) pa_nil))))))) pss_nil)
        (pss_one (ps_ret pe_bl))))))))))))), ?_⟩
    refine ⟨_, rfl, a, ns, 0, rfl, hS, by show 8 ≤ sizeLine; decide, fun m hm => ?_⟩
    refine ⟨_, 13, m, [24, 8, 360, 3, 2, 4, 57, 8], rfl, SqL.of upd_same, cellA_nn _ _, by decide, by decide, by decide +kernel, fun dp H1 ds hdp e1' hds hD => ?_⟩
    have e1 : Ex H H1 := (Ex.new hm).trans e1'
    obtain ⟨d0, hd0, h00, h01⟩ := hD.2 0 24 rfl
    obtain ⟨d1, hd1, h10, h11⟩ := hD.2 1 8 rfl
    obtain ⟨d2, hd2, h20, h21⟩ := hD.2 2 360 rfl
    obtain ⟨d3, hd3, h30, h31⟩ := hD.2 3 3 rfl
    obtain ⟨d4, hd4, h40, h41⟩ := hD.2 4 2 rfl
    obtain ⟨d5, hd5, h50, h51⟩ := hD.2 5 4 rfl
    obtain ⟨d6, hd6, h60, h61⟩ := hD.2 6 57 rfl
    obtain ⟨d7, hd7, h70, h71⟩ := hD.2 7 8 rfl
    have get : ∀ (i : Nat) (x : Int), ds[i]? = some x → ∀ (σ : L2.St) H', Ex H1 H' → σ[1]? = some (some (.ref dp)) → Ev (tOp (rIxL K) (tVar 1) (tC (.int (i : Int)))) σ H' (.int x) := fun i x hi σ H' e hσ =>
      ev_op (ev_var hσ) ev_c (rv_ixL (sq_of (e _ _ hds)) (atI_nat (by rw [List.getElem?_map, hi]; rfl)))
    have tst : ∀ (i : Nat) (x y : Int), ds[i]? = some x → ∀ (σ : L2.St) H', Ex H1 H' → σ[1]? = some (some (.ref dp)) → Ev (tOp rEq (tOp (rIxL K) (tVar 1) (tC (.int (i : Int)))) (tC (.int y))) σ H' (.bl (decide (x = y))) := fun i x y hi σ H' e hσ =>
      ev_is (ev_op (get i x hi σ H' e hσ) ev_c (rv_eq rfl)) (by rw [dec_ii])
    refine q_asg (v := .int (1 + d0)) (ev_op ev_c (get 0 d0 hd0 _ _ (Ex.refl _) rfl) rv_I0) fun H2 e2 => ?_
    let M1 : L2.St → Hp → Prop := fun σ H' => ∃ n : Int, σ = [some (.ref a), some (.ref dp), some (.int n), none, none, none, none, none, none] ∧ (1 ≤ n ∧ n ≤ 360) ∧ Ex H1 H'
    refine q_alt M1 (et_test (tst 1 d1 0 hd1 _ _ e2 rfl)) (fun _ H3 e3 W hW => s_asg (v := .int (1 + d2)) (ev_op ev_c (get 2 d2 hd2 _ _ (e2.trans e3) rfl) rv_I0) fun H4 e4 => hW _ _ ⟨1 + d2, rfl, by omega, (e2.trans e3).trans e4⟩) (fun _ H3 e3 => ⟨1 + d0, rfl, by omega, e2.trans e3⟩) fun σ3 H3 h3 => ?_
    obtain ⟨n3, rfl, hn3, e3⟩ := h3
    refine q_alt M1 (et_test (tst 1 d1 1 hd1 _ _ e3 rfl)) (fun _ H4 e4 W hW => s_asg (v := .int 360) ev_c fun H5 e5 => hW _ _ ⟨360, rfl, by omega, (e3.trans e4).trans e5⟩) (fun _ H4 e4 => ⟨n3, rfl, hn3, e3.trans e4⟩) fun σ4 H4 h4 => ?_
    obtain ⟨n, rfl, hn, e4⟩ := h4
    try dsimp only
    refine q_asg (v := .int 0) ev_c fun H5 e5 => ?_
    let M2 : L2.St → Hp → Prop := fun σ H' => ∃ b : Int, σ = [some (.ref a), some (.ref dp), some (.int n), some (.int b), none, none, none, none, none] ∧ (0 ≤ b ∧ b ≤ 56) ∧ Ex H1 H'
    refine q_alt M2 (et_test (tst 5 d5 0 hd5 _ _ (e4.trans e5) rfl)) (fun _ H6 e6 W hW => s_asg (v := .int d6) (get 6 d6 hd6 _ _ ((e4.trans e5).trans e6) rfl) fun H7 e7 => hW _ _ ⟨d6, rfl, by omega, ((e4.trans e5).trans e6).trans e7⟩) (fun _ H6 e6 => ⟨0, rfl, by omega, (e4.trans e5).trans e6⟩) fun σ6 H6 h6 => ?_
    obtain ⟨b, rfl, hb, e6⟩ := h6
    let M3 : L2.St → Hp → Prop := fun σ H' => ∃ (pl : Addr) (xs : List V) (ps : List (Int × Int)), σ = [some (.ref a), some (.ref dp), some (.int n), some (.int b), some (.ref pl), none, none, none, none] ∧ H' pl = some (.lst xs) ∧ Prs K H' xs ps ∧ ps.length ≤ 100 ∧ Fit n ps ∧ Ex H1 H'
    refine q_two M3 (et_test (tst 3 d3 0 hd3 _ _ e6 rfl))
      (fun _ H7 e7 W hW => ⟨_, rfl, a, ns, 1, rfl, ex_l (e1.trans (e6.trans e7)) hS, _, rfl, _, rfl, tst 4 d4 0 hd4 _ _ (e6.trans e7) rfl _ (Ex.refl _) _ fun H8 e8 => ⟨_, n, b, decide (d4 = 0), rfl, cellA_nn _ _, hn, fun pl H9 xs ps _ e9 hpx hP hz hF => hW _ _ ⟨pl, xs, ps, rfl, hpx, hP, hz, hF, ((e6.trans e7).trans e8).trans e9⟩⟩⟩)
      (fun _ H7 e7 W hW => ⟨_, rfl, a, ns, 1, rfl, ex_l (e1.trans (e6.trans e7)) hS, _, rfl, _, rfl, tst 4 d4 0 hd4 _ _ (e6.trans e7) rfl _ (Ex.refl _) _ fun H8 e8 => ⟨_, n, b, decide (d4 = 0), rfl, cellA_nn _ _, hn, fun pl H9 xs ps _ e9 hpx hP hz hF => hW _ _ ⟨pl, xs, ps, rfl, hpx, hP, hz, hF, ((e6.trans e7).trans e8).trans e9⟩⟩⟩) fun σ7 H7 h7 => ?_
    obtain ⟨pl, xs, ps, rfl, hpx, hP, hz, hF, e7⟩ := h7
    try dsimp only
    refine q_asgL (xs := []) (el_lst ea_nil (by decide)) fun po H8 hpo e8 h8 => ?_
    refine q_forLn (K := K) (a := pl) (xs := xs) (j := 6) (ev_var rfl) (sq_of (e8 _ _ hpx))
      (fun j σ' H' => ∃ (qv : Option V) (ys : List V) (qs : List (Int × Int)), σ' = [some (.ref a), some (.ref dp), some (.int n), some (.int b), some (.ref pl), some (.ref po), qv, none, none] ∧ Ex H7 H' ∧ H' po = some (.lst ys) ∧ Prs K H' ys qs ∧ qs.length ≤ j ∧ Fit n qs)
      (fun H9 e9 => ⟨none, [], [], rfl, e8.trans e9, e9 _ _ h8, Prs.nil, Nat.le_refl _, fun p hp => by cases hp⟩) (fun j σ' H' _ ⟨_, _, _, _, e, _⟩ => sq_of (e _ _ hpx)) ?_ ?_
    · rintro j x σ' H' hj ⟨qv, ys, qs, rfl, ex, hy, hQ, hql, hFq⟩
      obtain ⟨t, p, rfl, hp, hT⟩ := hP.2 j x hj
      have hf := hF p (List.mem_of_getElem? hp)
      have hjl : j < 100 := by
        have := (List.getElem?_eq_some_iff.mp hp).1
        omega
      have hyl := hQ.1
      refine s_when (et_test (ev_op (ev_var (i := 6) rfl) (ev_var (i := 5) rfl) (rv_new (sq_of hy) hQ (ex_t ex hT)))) (fun _ H9 e9 => s_app (e9 _ _ hy) (ev_var (i := 5) rfl) (ev_var (i := 6) rfl) (by omega) fun H10 e10 => ?_) (fun _ H9 e9 => ?_)
      · have e := (ex.trans e9).trans e10
        have hy' := (e9.trans e10) _ _ hy
        exact ⟨_, _, qs ++ [p], rfl, Ex.mut e hpo, upd_same, ((hQ.ex (e9.trans e10)).mut hy').snoc (sqT_mut hy' (ex_t e hT)), by rw [List.length_append, List.length_singleton]; omega, hFq.snoc hf.1 hf.2⟩
      · exact ⟨_, ys, qs, rfl, ex.trans e9, e9 _ _ hy, hQ.ex e9, by omega, hFq⟩
    rintro σ' Hb ⟨qv, ys, qs, rfl, eb, hy, hQ, hql, hFq⟩
    have hxl := hP.1
    have pp : PartsAt K Hb (.ref pl) ps := ⟨pl, xs, rfl, sq_of (eb _ _ hpx), hP.ex eb⟩
    have qq : PartsAt K Hb (.ref po) qs := ⟨po, ys, rfl, sq_of hy, hQ⟩
    try dsimp only
    refine q_forR2 (j := 7) (lo := b) (n := b + 5) (ea_cons (ev_var (i := 3) rfl) (ea_cons (ev_op (ev_var (i := 3) rfl) ev_c rv_I0) ea_nil)) (by omega)
      (fun i σ' H' => ∃ kv : Option V, σ' = [some (.ref a), some (.ref dp), some (.int n), some (.int b), some (.ref pl), some (.ref po), qv, kv, none] ∧ Ex Hb H')
      (fun H9 e9 => ⟨none, rfl, e9⟩) ?_ ?_
    · rintro i σ' H' hi ⟨kv, rfl, ex⟩
      exact ⟨_, rfl, _, rfl, _, rfl, _, ps, n, _, rfl, pp.ex ex, hz, hn, hF, fun H2 e2 => ⟨_, rfl, iteF ⟨_, rfl, _, rfl, _, rfl, _, qs, n, _, rfl, qq.ex (ex.trans e2), by omega, hn, hFq, fun H3 e3 => ⟨_, rfl, iteF ⟨_, rfl, (ex.trans e2).trans e3⟩⟩⟩⟩⟩
    rintro σ' H9 ⟨kv, rfl, e9⟩
    have e19 : Ex H1 H9 := (e7.trans eb).trans e9
    refine q_when (b := decide (d7 = 0)) (et_test (tst 7 d7 0 hd7 _ _ e19 rfl)) (fun _ H10 e10 => ?_) (fun _ H10 e10 => k _)
    refine q_forNLn (K := K) (xs := [.int 0, .int (-1)]) (j := 8) (el_lst (ea_cons ev_c (ea_cons (ev_un ev_c ru_neg) ea_nil)) (by show 2 ≤ 100000; decide))
      (fun p i σ' H' => ∃ hv : Option V, σ' = [some (.ref a), some (.ref dp), some (.int n), some (.int b), some (.ref pl), some (.ref po), qv, kv, hv] ∧ Ex Hb H' ∧ H' p = some (.lst [.int 0, .int (-1)]))
      (fun p H11 _ e11 h11 => ⟨none, rfl, (e9.trans e10).trans e11, h11⟩) (fun p i σ' H' _ ⟨_, _, _, h⟩ => sq_of h) ?_ ?_
    · rintro p i x σ' H' hi ⟨hv, rfl, ex, hp⟩
      obtain ⟨z, rfl, hz'⟩ : ∃ z : Int, x = .int z ∧ ¬ (1 ≤ z ∧ z ≤ 360) := by
        have hm := List.mem_of_getElem? hi
        simp only [List.mem_cons, List.not_mem_nil, or_false] at hm
        rcases hm with rfl | rfl
        · exact ⟨0, rfl, by omega⟩
        · exact ⟨-1, rfl, by omega⟩
      exact ⟨Nat.zero_le _, fun l hl => ⟨_, rfl, _, rfl, _, [], z, b, rfl, ⟨l, [], rfl, SqL.of upd_same, Prs.nil⟩, by show 0 ≤ 100; decide, hz', fun H2 e2 => ⟨_, rfl, iteF ⟨_, rfl, (ex.trans (Ex.new hl)).trans e2, e2 _ _ (Ex.new hl _ _ hp)⟩⟩⟩⟩
    rintro p σ' H' ⟨hv, rfl, ex, hp⟩
    exact ⟨_, rfl, _, rfl, _, ps, 361, b, rfl, pp.ex ex, hz, by omega, fun H2 e2 => k _⟩
theorem all_mk {l : PySem.W.OpenLaw} {w : World} {K : PySem.W.Frag} {h : Heap} {mg : Str → Option Value} {fa : Addr} (X : K.In h) (G : h.Ns mainGlobals mg) (hfa : mg "law" = some (.ref fa))
    {od0 an0 : Option Addr} {sl0 : Array (Option Value)} {oc0 kV0 dc0 pm0 cd0 ct0 : Value} {f0 : Addr}
    {od1 an1 : Option Addr} {sl1 : Array (Option Value)} {oc1 kV1 dc1 pm1 cd1 ct1 : Value} {f1 : Addr}
    {od2 an2 : Option Addr} {sl2 : Array (Option Value)} {oc2 kV2 dc2 pm2 cd2 ct2 : Value} {f2 : Addr}
    {od3 an3 : Option Addr} {sl3 : Array (Option Value)} {oc3 kV3 dc3 pm3 cd3 ct3 : Value} {f3 : Addr}
    {od4 an4 : Option Addr} {sl4 : Array (Option Value)} {oc4 kV4 dc4 pm4 cd4 ct4 : Value} {f4 : Addr}
    {od5 an5 : Option Addr} {sl5 : Array (Option Value)} {oc5 kV5 dc5 pm5 cd5 ct5 : Value} {f5 : Addr}
    {od6 an6 : Option Addr} {sl6 : Array (Option Value)} {oc6 kV6 dc6 pm6 cd6 ct6 : Value} {f6 : Addr}
    {od7 an7 : Option Addr} {sl7 : Array (Option Value)} {oc7 kV7 dc7 pm7 cd7 ct7 : Value} {f7 : Addr}
    {od8 an8 : Option Addr} {sl8 : Array (Option Value)} {oc8 kV8 dc8 pm8 cd8 ct8 : Value} {f8 : Addr}
    {od9 an9 : Option Addr} {sl9 : Array (Option Value)} {oc9 kV9 dc9 pm9 cd9 ct9 : Value} {f9 : Addr}
    {od10 an10 : Option Addr} {sl10 : Array (Option Value)} {oc10 kV10 dc10 pm10 cd10 ct10 : Value} {f10 : Addr}
    {od11 an11 : Option Addr} {sl11 : Array (Option Value)} {oc11 kV11 dc11 pm11 cd11 ct11 : Value} {f11 : Addr}
    {od12 an12 : Option Addr} {sl12 : Array (Option Value)} {oc12 kV12 dc12 pm12 cd12 ct12 : Value} {f12 : Addr}
    {od13 an13 : Option Addr} {sl13 : Array (Option Value)} {oc13 kV13 dc13 pm13 cd13 ct13 : Value} {f13 : Addr}
    {od14 an14 : Option Addr} {sl14 : Array (Option Value)} {oc14 kV14 dc14 pm14 cd14 ct14 : Value} {f14 : Addr}
    {od15 an15 : Option Addr} {sl15 : Array (Option Value)} {oc15 kV15 dc15 pm15 cd15 ct15 : Value} {f15 : Addr}
    {C_BadNumber : Addr} {C_RepeatedHour : Addr} {C_WatchError : Addr} {C_Lot : Addr}
    {nm_BadNumber q_BadNumber : Str} {N_BadNumber : Addr} {bs_BadNumber : List Value} {sn_BadNumber : List Str} {sub_BadNumber : List Value} {ab_BadNumber : Bool} {col_BadNumber : Option Bool} {dd_BadNumber : Option Addr} {m0_BadNumber m1_BadNumber m2_BadNumber m3_BadNumber m5_BadNumber : Option Value}
    {nm_RepeatedHour q_RepeatedHour : Str} {N_RepeatedHour : Addr} {bs_RepeatedHour : List Value} {sn_RepeatedHour : List Str} {sub_RepeatedHour : List Value} {ab_RepeatedHour : Bool} {col_RepeatedHour : Option Bool} {dd_RepeatedHour : Option Addr} {m0_RepeatedHour m1_RepeatedHour m2_RepeatedHour m3_RepeatedHour m5_RepeatedHour : Option Value}
    {tk_Lot_MOST : Tok}
    {p3 : Addr} {rest3 : List Value}
    (g_BadNumber : PySem.W.nsIn K mainGlobals "BadNumber" = some (some (.ref C_BadNumber)))
    (g_RepeatedHour : PySem.W.nsIn K mainGlobals "RepeatedHour" = some (some (.ref C_RepeatedHour)))
    (g_WatchError : PySem.W.nsIn K mainGlobals "WatchError" = some (some (.ref C_WatchError)))
    (g_Lot : PySem.W.nsIn K mainGlobals "Lot" = some (some (.ref C_Lot)))
    (a0 : PySem.W.findIn K (.ref C_BadNumber) "__init__" = some (some (.ref f0)))
    (l0 : K.lookup f0 = some ⟨oc0, od0, .func (PySem.W.fnOf "__init__" "BadNumber.__init__" (defArgs s_BadNumber_init) (defBody s_BadNumber_init) (defScope s_BadNumber_init) .none kV0 dc0 pm0 an0 cd0 ct0), sl0⟩)
    (c0 : PySem.W.codeIn K cd0 "BadNumber.__init__" = true)
    (k0 : PySem.W.keepIn K (.ref f0) = true)
    (a1 : PySem.W.findIn K (.ref C_RepeatedHour) "__init__" = some (some (.ref f1)))
    (l1 : K.lookup f1 = some ⟨oc1, od1, .func (PySem.W.fnOf "__init__" "RepeatedHour.__init__" (defArgs s_RepeatedHour_init) (defBody s_RepeatedHour_init) (defScope s_RepeatedHour_init) .none kV1 dc1 pm1 an1 cd1 ct1), sl1⟩)
    (c1 : PySem.W.codeIn K cd1 "RepeatedHour.__init__" = true)
    (k1 : PySem.W.keepIn K (.ref f1) = true)
    (a2 : PySem.W.findIn K (.ref C_Lot) "__init__" = some (some (.ref f2)))
    (l2 : K.lookup f2 = some ⟨oc2, od2, .func (PySem.W.fnOf "__init__" "Lot.__init__" (defArgs s_Lot_init) (defBody s_Lot_init) (defScope s_Lot_init) .none kV2 dc2 pm2 an2 cd2 ct2), sl2⟩)
    (c2 : PySem.W.codeIn K cd2 "Lot.__init__" = true)
    (k2 : PySem.W.keepIn K (.ref f2) = true)
    (pa_3 : PySem.W.findIn K (.ref C_Lot) "members" = some (some (.ref p3)))
    (a3 : PySem.W.recIn K p3 "property" = some (.ref f3 :: rest3))
    (l3 : K.lookup f3 = some ⟨oc3, od3, .func (PySem.W.fnOf "members" "Lot.members" (defArgs s_Lot_members) (defBody s_Lot_members) (defScope s_Lot_members) .none kV3 dc3 pm3 an3 cd3 ct3), sl3⟩)
    (c3 : PySem.W.codeIn K cd3 "Lot.members" = true)
    (k3 : PySem.W.keepIn K (.ref f3) = true)
    (a4 : PySem.W.nsIn K mainGlobals "starts_of" = some (some (.ref f4)))
    (l4 : K.lookup f4 = some ⟨oc4, od4, .func (PySem.W.fnOf "starts_of" "starts_of" (defArgs s_starts_of) (defBody s_starts_of) (defScope s_starts_of) .none kV4 dc4 pm4 an4 cd4 ct4), sl4⟩)
    (c4 : PySem.W.codeIn K cd4 "starts_of" = true)
    (k4 : PySem.W.keepIn K (.ref f4) = true)
    (a5 : PySem.W.nsIn K mainGlobals "_law_cell" = some (some (.ref f5)))
    (l5 : K.lookup f5 = some ⟨oc5, od5, .func (PySem.W.fnOf "_law_cell" "_law_cell" (defArgs s_u_law_cell) (defBody s_u_law_cell) (defScope s_u_law_cell) .none kV5 dc5 pm5 an5 cd5 ct5), sl5⟩)
    (c5 : PySem.W.codeIn K cd5 "_law_cell" = true)
    (k5 : PySem.W.keepIn K (.ref f5) = true)
    (a6 : PySem.W.nsIn K mainGlobals "_law_draws" = some (some (.ref f6)))
    (l6 : K.lookup f6 = some ⟨oc6, od6, .func (PySem.W.fnOf "_law_draws" "_law_draws" (defArgs s_u_law_draws) (defBody s_u_law_draws) (defScope s_u_law_draws) .none kV6 dc6 pm6 an6 cd6 ct6), sl6⟩)
    (c6 : PySem.W.codeIn K cd6 "_law_draws" = true)
    (k6 : PySem.W.keepIn K (.ref f6) = true)
    (a7 : PySem.W.nsIn K mainGlobals "_law_is_int" = some (some (.ref f7)))
    (l7 : K.lookup f7 = some ⟨oc7, od7, .func (PySem.W.fnOf "_law_is_int" "_law_is_int" (defArgs s_u_law_is_int) (defBody s_u_law_is_int) (defScope s_u_law_is_int) .none kV7 dc7 pm7 an7 cd7 ct7), sl7⟩)
    (c7 : PySem.W.codeIn K cd7 "_law_is_int" = true)
    (k7 : PySem.W.keepIn K (.ref f7) = true)
    (a8 : PySem.W.nsIn K mainGlobals "_law_same" = some (some (.ref f8)))
    (l8 : K.lookup f8 = some ⟨oc8, od8, .func (PySem.W.fnOf "_law_same" "_law_same" (defArgs s_u_law_same) (defBody s_u_law_same) (defScope s_u_law_same) .none kV8 dc8 pm8 an8 cd8 ct8), sl8⟩)
    (c8 : PySem.W.codeIn K cd8 "_law_same" = true)
    (k8 : PySem.W.keepIn K (.ref f8) = true)
    (a9 : PySem.W.nsIn K mainGlobals "_law_any_parts" = some (some (.ref f9)))
    (l9 : K.lookup f9 = some ⟨oc9, od9, .func (PySem.W.fnOf "_law_any_parts" "_law_any_parts" (defArgs s_u_law_any_parts) (defBody s_u_law_any_parts) (defScope s_u_law_any_parts) .none kV9 dc9 pm9 an9 cd9 ct9), sl9⟩)
    (c9 : PySem.W.codeIn K cd9 "_law_any_parts" = true)
    (k9 : PySem.W.keepIn K (.ref f9) = true)
    (a10 : PySem.W.nsIn K mainGlobals "_law_round_parts" = some (some (.ref f10)))
    (l10 : K.lookup f10 = some ⟨oc10, od10, .func (PySem.W.fnOf "_law_round_parts" "_law_round_parts" (defArgs s_u_law_round_parts) (defBody s_u_law_round_parts) (defScope s_u_law_round_parts) .none kV10 dc10 pm10 an10 cd10 ct10), sl10⟩)
    (c10 : PySem.W.codeIn K cd10 "_law_round_parts" = true)
    (k10 : PySem.W.keepIn K (.ref f10) = true)
    (a11 : PySem.W.nsIn K mainGlobals "_law_due" = some (some (.ref f11)))
    (l11 : K.lookup f11 = some ⟨oc11, od11, .func (PySem.W.fnOf "_law_due" "_law_due" (defArgs s_u_law_due) (defBody s_u_law_due) (defScope s_u_law_due) .none kV11 dc11 pm11 an11 cd11 ct11), sl11⟩)
    (c11 : PySem.W.codeIn K cd11 "_law_due" = true)
    (k11 : PySem.W.keepIn K (.ref f11) = true)
    (a12 : PySem.W.nsIn K mainGlobals "_law_refused_by_base" = some (some (.ref f12)))
    (l12 : K.lookup f12 = some ⟨oc12, od12, .func (PySem.W.fnOf "_law_refused_by_base" "_law_refused_by_base" (defArgs s_u_law_refused_by_base) (defBody s_u_law_refused_by_base) (defScope s_u_law_refused_by_base) .none kV12 dc12 pm12 an12 cd12 ct12), sl12⟩)
    (c12 : PySem.W.codeIn K cd12 "_law_refused_by_base" = true)
    (k12 : PySem.W.keepIn K (.ref f12) = true)
    (a13 : PySem.W.nsIn K mainGlobals "_law_right" = some (some (.ref f13)))
    (l13 : K.lookup f13 = some ⟨oc13, od13, .func (PySem.W.fnOf "_law_right" "_law_right" (defArgs s_u_law_right) (defBody s_u_law_right) (defScope s_u_law_right) .none kV13 dc13 pm13 an13 cd13 ct13), sl13⟩)
    (c13 : PySem.W.codeIn K cd13 "_law_right" = true)
    (k13 : PySem.W.keepIn K (.ref f13) = true)
    (a14 : PySem.W.nsIn K mainGlobals "_law_bad_hours" = some (some (.ref f14)))
    (l14 : K.lookup f14 = some ⟨oc14, od14, .func (PySem.W.fnOf "_law_bad_hours" "_law_bad_hours" (defArgs s_u_law_bad_hours) (defBody s_u_law_bad_hours) (defScope s_u_law_bad_hours) .none kV14 dc14 pm14 an14 cd14 ct14), sl14⟩)
    (c14 : PySem.W.codeIn K cd14 "_law_bad_hours" = true)
    (k14 : PySem.W.keepIn K (.ref f14) = true)
    (a15 : PySem.W.nsIn K mainGlobals "law" = some (some (.ref f15)))
    (l15 : K.lookup f15 = some ⟨oc15, od15, .func (PySem.W.fnOf "law" "law" (defArgs s_law) (defBody s_law) (defScope s_law) .none kV15 dc15 pm15 an15 cd15 ct15), sl15⟩)
    (c15 : PySem.W.codeIn K cd15 "law" = true)
    (k15 : PySem.W.keepIn K (.ref f15) = true)
    (z_abs : PySem.W.nsIn K mainGlobals "abs" = some none)
    (z_len : PySem.W.nsIn K mainGlobals "len" = some none)
    (z_int : PySem.W.nsIn K mainGlobals "int" = some none)
    (z_bool : PySem.W.nsIn K mainGlobals "bool" = some none)
    (z_str : PySem.W.nsIn K mainGlobals "str" = some none)
    (z_list : PySem.W.nsIn K mainGlobals "list" = some none)
    (z_tuple : PySem.W.nsIn K mainGlobals "tuple" = some none)
    (z_isinstance : PySem.W.nsIn K mainGlobals "isinstance" = some none)
    (z_range : PySem.W.nsIn K mainGlobals "range" = some none)
    (z_ValueError : PySem.W.nsIn K mainGlobals "ValueError" = some none)
    (exC_BadNumber : PySem.W.subIn K (.ref C_BadNumber) (.type "BaseException") = some true)
    (hdC_BadNumber : PySem.W.hasDictIn K C_BadNumber = true)
    (tyC_BadNumber : PySem.W.typeIn K (.ref C_BadNumber) = some (.type "type"))
    (meC_BadNumber : PySem.W.subIn K (.ref C_BadNumber) (.ref C_BadNumber) = some true)
    (xL_BadNumber : K.lookup C_BadNumber = some (excClassObj nm_BadNumber q_BadNumber C_BadNumber N_BadNumber bs_BadNumber [.ref C_WatchError, .type "ValueError", .type "Exception", .type "BaseException", .type "object"] true sn_BadNumber sub_BadNumber ab_BadNumber col_BadNumber dd_BadNumber m0_BadNumber m1_BadNumber m2_BadNumber m3_BadNumber m5_BadNumber "ValueError.__new__"))
    (sa_BadNumber : PySem.W.findIn K (.ref C_BadNumber) "__setattr__" = some (some (.builtin "object.__setattr__")))
    (kC_BadNumber : PySem.W.keepIn K (.ref C_BadNumber) = true)
    (ti_BadNumber : PySem.W.typeIn K (.ref f0) = some (.type "function"))
    (ga_BadNumber : PySem.W.findIn K (.ref C_BadNumber) "__getattribute__" = some (some (.builtin "BaseException.__getattribute__")))
    (gg_BadNumber : PySem.W.findIn K (.ref C_BadNumber) "__getattr__" = some none)
    (ha_BadNumber : PySem.W.findIn K (.ref C_BadNumber) "__class__" = some (some (.builtin "object.__class__")))
    (hn_ : PySem.W.specialIn K (.builtin "object.__class__") "__get__" = some (some (.builtin "getset_descriptor.__get__")))
    (ht_ : PySem.W.takesIn K (.builtin "object.__class__") = some true)
    (hm_BadNumber : PySem.W.mroIn K C_BadNumber (.type "object") = some true)
    (nf_BadNumber_name : PySem.W.findIn K (.ref C_BadNumber) "name" = some none)
    (nf_BadNumber_value : PySem.W.findIn K (.ref C_BadNumber) "value" = some none)
    (exC_RepeatedHour : PySem.W.subIn K (.ref C_RepeatedHour) (.type "BaseException") = some true)
    (hdC_RepeatedHour : PySem.W.hasDictIn K C_RepeatedHour = true)
    (tyC_RepeatedHour : PySem.W.typeIn K (.ref C_RepeatedHour) = some (.type "type"))
    (meC_RepeatedHour : PySem.W.subIn K (.ref C_RepeatedHour) (.ref C_RepeatedHour) = some true)
    (xL_RepeatedHour : K.lookup C_RepeatedHour = some (excClassObj nm_RepeatedHour q_RepeatedHour C_RepeatedHour N_RepeatedHour bs_RepeatedHour [.ref C_WatchError, .type "ValueError", .type "Exception", .type "BaseException", .type "object"] true sn_RepeatedHour sub_RepeatedHour ab_RepeatedHour col_RepeatedHour dd_RepeatedHour m0_RepeatedHour m1_RepeatedHour m2_RepeatedHour m3_RepeatedHour m5_RepeatedHour "ValueError.__new__"))
    (sa_RepeatedHour : PySem.W.findIn K (.ref C_RepeatedHour) "__setattr__" = some (some (.builtin "object.__setattr__")))
    (kC_RepeatedHour : PySem.W.keepIn K (.ref C_RepeatedHour) = true)
    (ti_RepeatedHour : PySem.W.typeIn K (.ref f1) = some (.type "function"))
    (ga_RepeatedHour : PySem.W.findIn K (.ref C_RepeatedHour) "__getattribute__" = some (some (.builtin "BaseException.__getattribute__")))
    (gg_RepeatedHour : PySem.W.findIn K (.ref C_RepeatedHour) "__getattr__" = some none)
    (ha_RepeatedHour : PySem.W.findIn K (.ref C_RepeatedHour) "__class__" = some (some (.builtin "object.__class__")))
    (hm_RepeatedHour : PySem.W.mroIn K C_RepeatedHour (.type "object") = some true)
    (nf_RepeatedHour_hour : PySem.W.findIn K (.ref C_RepeatedHour) "hour" = some none)
    (exC_WatchError : PySem.W.subIn K (.ref C_WatchError) (.type "BaseException") = some true)
    (hdC_WatchError : PySem.W.hasDictIn K C_WatchError = true)
    (tyC_WatchError : PySem.W.typeIn K (.ref C_WatchError) = some (.type "type"))
    (meC_WatchError : PySem.W.subIn K (.ref C_WatchError) (.ref C_WatchError) = some true)
    (sub_RepeatedHour_WatchError : PySem.W.subIn K (.ref C_RepeatedHour) (.ref C_WatchError) = some true)
    (sub_RepeatedHour_ValueError : PySem.W.subIn K (.ref C_RepeatedHour) (.type "ValueError") = some true)
    (sub_RepeatedHour_BadNumber : PySem.W.subIn K (.ref C_RepeatedHour) (.ref C_BadNumber) = some false)
    (pg_Lot : PySem.W.plainGet K C_Lot Str.empty = true)
    (hd_Lot : PySem.W.hasDictIn K C_Lot = true)
    (po_Lot : PySem.W.plainOver K C_Lot = true)
    (sa_Lot : PySem.W.findIn K (.ref C_Lot) "__setattr__" = some (some (.builtin "object.__setattr__")))
    (mk_Lot : PySem.W.makesIn K C_Lot = true)
    (kc_Lot : PySem.W.keepIn K (.ref C_Lot) = true)
    (if_2 : PySem.W.isFn K (.ref f2) = true)
    (na_Lot_hours : PySem.W.findIn K (.ref C_Lot) "hours" = some none)
    (na_Lot_members : PySem.W.findIn K (.ref C_Lot) "_members" = some none)
    (ha_Lot : PySem.W.findIn K (.ref C_Lot) "__class__" = some (some (.builtin "object.__class__")))
    (hm_Lot : PySem.W.mroIn K C_Lot (.type "object") = some true)
    (rd_Lot : PySem.W.readsIn K C_Lot (.type "type") = true)
    (gt_Lot : PySem.W.specialIn K (.ref C_Lot) "__getattribute__" = some (some (.builtin "type.__getattribute__")))
    (cv_Lot_MOST : PySem.W.findCls K (.ref C_Lot) (.type "type") "MOST" = some (.val (.int 360 tk_Lot_MOST)))
    (pg_3 : PySem.W.specialIn K (.ref p3) "__get__" = some (some (.builtin "property.__get__")))
    (pt_3 : PySem.W.takesIn K (.ref p3) = some true)
    : ∃ fd : FuncData, (∀ (s : Shared) (v : Value), BindsTo s fd ⟨[v], []⟩ [("script", v)]) ∧ ∀ base : Heap, K.In base → base.Ns mainGlobals mg → FnOk l.prog w K mg base CX0 9 fa fd ["script"] ((spLaw K)) := by
  have e := hfa.symm.trans (PySem.W.mg_of X G a15)
  cases e
  let A : Ads := {
    f_BadNumber_init := f0,
    d_BadNumber_init := PySem.W.fnOf "__init__" "BadNumber.__init__" (defArgs s_BadNumber_init) (defBody s_BadNumber_init) (defScope s_BadNumber_init) .none kV0 dc0 pm0 an0 cd0 ct0,
    f_RepeatedHour_init := f1,
    d_RepeatedHour_init := PySem.W.fnOf "__init__" "RepeatedHour.__init__" (defArgs s_RepeatedHour_init) (defBody s_RepeatedHour_init) (defScope s_RepeatedHour_init) .none kV1 dc1 pm1 an1 cd1 ct1,
    f_Lot_init := f2,
    d_Lot_init := PySem.W.fnOf "__init__" "Lot.__init__" (defArgs s_Lot_init) (defBody s_Lot_init) (defScope s_Lot_init) .none kV2 dc2 pm2 an2 cd2 ct2,
    f_Lot_members := f3,
    d_Lot_members := PySem.W.fnOf "members" "Lot.members" (defArgs s_Lot_members) (defBody s_Lot_members) (defScope s_Lot_members) .none kV3 dc3 pm3 an3 cd3 ct3,
    f_starts_of := f4,
    d_starts_of := PySem.W.fnOf "starts_of" "starts_of" (defArgs s_starts_of) (defBody s_starts_of) (defScope s_starts_of) .none kV4 dc4 pm4 an4 cd4 ct4,
    f_u_law_cell := f5,
    d_u_law_cell := PySem.W.fnOf "_law_cell" "_law_cell" (defArgs s_u_law_cell) (defBody s_u_law_cell) (defScope s_u_law_cell) .none kV5 dc5 pm5 an5 cd5 ct5,
    f_u_law_draws := f6,
    d_u_law_draws := PySem.W.fnOf "_law_draws" "_law_draws" (defArgs s_u_law_draws) (defBody s_u_law_draws) (defScope s_u_law_draws) .none kV6 dc6 pm6 an6 cd6 ct6,
    f_u_law_is_int := f7,
    d_u_law_is_int := PySem.W.fnOf "_law_is_int" "_law_is_int" (defArgs s_u_law_is_int) (defBody s_u_law_is_int) (defScope s_u_law_is_int) .none kV7 dc7 pm7 an7 cd7 ct7,
    f_u_law_same := f8,
    d_u_law_same := PySem.W.fnOf "_law_same" "_law_same" (defArgs s_u_law_same) (defBody s_u_law_same) (defScope s_u_law_same) .none kV8 dc8 pm8 an8 cd8 ct8,
    f_u_law_any_parts := f9,
    d_u_law_any_parts := PySem.W.fnOf "_law_any_parts" "_law_any_parts" (defArgs s_u_law_any_parts) (defBody s_u_law_any_parts) (defScope s_u_law_any_parts) .none kV9 dc9 pm9 an9 cd9 ct9,
    f_u_law_round_parts := f10,
    d_u_law_round_parts := PySem.W.fnOf "_law_round_parts" "_law_round_parts" (defArgs s_u_law_round_parts) (defBody s_u_law_round_parts) (defScope s_u_law_round_parts) .none kV10 dc10 pm10 an10 cd10 ct10,
    f_u_law_due := f11,
    d_u_law_due := PySem.W.fnOf "_law_due" "_law_due" (defArgs s_u_law_due) (defBody s_u_law_due) (defScope s_u_law_due) .none kV11 dc11 pm11 an11 cd11 ct11,
    f_u_law_refused_by_base := f12,
    d_u_law_refused_by_base := PySem.W.fnOf "_law_refused_by_base" "_law_refused_by_base" (defArgs s_u_law_refused_by_base) (defBody s_u_law_refused_by_base) (defScope s_u_law_refused_by_base) .none kV12 dc12 pm12 an12 cd12 ct12,
    f_u_law_right := f13,
    d_u_law_right := PySem.W.fnOf "_law_right" "_law_right" (defArgs s_u_law_right) (defBody s_u_law_right) (defScope s_u_law_right) .none kV13 dc13 pm13 an13 cd13 ct13,
    f_u_law_bad_hours := f14,
    d_u_law_bad_hours := PySem.W.fnOf "_law_bad_hours" "_law_bad_hours" (defArgs s_u_law_bad_hours) (defBody s_u_law_bad_hours) (defScope s_u_law_bad_hours) .none kV14 dc14 pm14 an14 cd14 ct14,
    f_law := fa,
    d_law := PySem.W.fnOf "law" "law" (defArgs s_law) (defBody s_law) (defScope s_law) .none kV15 dc15 pm15 an15 cd15 ct15,
    C_BadNumber := C_BadNumber,
    C_RepeatedHour := C_RepeatedHour,
    C_WatchError := C_WatchError,
    C_Lot := C_Lot,
    p_Lot_members := p3 }
  have T : Txt K mg A := {
    F_BadNumber_init := fun_mk (st := s_BadNumber_init) l0 c0 k0,
    F_RepeatedHour_init := fun_mk (st := s_RepeatedHour_init) l1 c1 k1,
    F_Lot_init := fun_mk (st := s_Lot_init) l2 c2 k2,
    F_Lot_members := fun_mk (st := s_Lot_members) l3 c3 k3,
    F_starts_of := fun_mk (st := s_starts_of) l4 c4 k4,
    g_starts_of := PySem.W.mg_of X G a4,
    k_starts_of := k4,
    F_u_law_cell := fun_mk (st := s_u_law_cell) l5 c5 k5,
    g_u_law_cell := PySem.W.mg_of X G a5,
    k_u_law_cell := k5,
    F_u_law_draws := fun_mk (st := s_u_law_draws) l6 c6 k6,
    g_u_law_draws := PySem.W.mg_of X G a6,
    k_u_law_draws := k6,
    F_u_law_is_int := fun_mk (st := s_u_law_is_int) l7 c7 k7,
    g_u_law_is_int := PySem.W.mg_of X G a7,
    k_u_law_is_int := k7,
    F_u_law_same := fun_mk (st := s_u_law_same) l8 c8 k8,
    g_u_law_same := PySem.W.mg_of X G a8,
    k_u_law_same := k8,
    F_u_law_any_parts := fun_mk (st := s_u_law_any_parts) l9 c9 k9,
    g_u_law_any_parts := PySem.W.mg_of X G a9,
    k_u_law_any_parts := k9,
    F_u_law_round_parts := fun_mk (st := s_u_law_round_parts) l10 c10 k10,
    g_u_law_round_parts := PySem.W.mg_of X G a10,
    k_u_law_round_parts := k10,
    F_u_law_due := fun_mk (st := s_u_law_due) l11 c11 k11,
    g_u_law_due := PySem.W.mg_of X G a11,
    k_u_law_due := k11,
    F_u_law_refused_by_base := fun_mk (st := s_u_law_refused_by_base) l12 c12 k12,
    g_u_law_refused_by_base := PySem.W.mg_of X G a12,
    k_u_law_refused_by_base := k12,
    F_u_law_right := fun_mk (st := s_u_law_right) l13 c13 k13,
    g_u_law_right := PySem.W.mg_of X G a13,
    k_u_law_right := k13,
    F_u_law_bad_hours := fun_mk (st := s_u_law_bad_hours) l14 c14 k14,
    g_u_law_bad_hours := PySem.W.mg_of X G a14,
    k_u_law_bad_hours := k14,
    F_law := fun_mk (st := s_law) l15 c15 k15,
    g_law := hfa,
    k_law := k15,
    z_abs := PySem.W.mg_none_of X G z_abs,
    z_len := PySem.W.mg_none_of X G z_len,
    z_int := PySem.W.mg_none_of X G z_int,
    z_bool := PySem.W.mg_none_of X G z_bool,
    z_str := PySem.W.mg_none_of X G z_str,
    z_list := PySem.W.mg_none_of X G z_list,
    z_tuple := PySem.W.mg_none_of X G z_tuple,
    z_isinstance := PySem.W.mg_none_of X G z_isinstance,
    z_range := PySem.W.mg_none_of X G z_range,
    z_ValueError := PySem.W.mg_none_of X G z_ValueError,
    g_BadNumber := PySem.W.mg_of X G g_BadNumber,
    g_RepeatedHour := PySem.W.mg_of X G g_RepeatedHour,
    g_WatchError := PySem.W.mg_of X G g_WatchError,
    g_Lot := PySem.W.mg_of X G g_Lot,
    ox_BadNumber := ⟨⟨nm_BadNumber, q_BadNumber, N_BadNumber, bs_BadNumber, _, sn_BadNumber, sub_BadNumber, ab_BadNumber, col_BadNumber, dd_BadNumber, m0_BadNumber, m1_BadNumber, m2_BadNumber, m3_BadNumber, m5_BadNumber, xL_BadNumber, rfl⟩, sa_BadNumber, exC_BadNumber, tyC_BadNumber, kC_BadNumber⟩,
    ni_BadNumber := a0,
    ti_BadNumber := ti_BadNumber,
    nf_BadNumber_name := nf_BadNumber_name,
    nf_BadNumber_value := nf_BadNumber_value,
    xf_BadNumber := ⟨ga_BadNumber, gg_BadNumber, exC_BadNumber, hdC_BadNumber⟩,
    ex_BadNumber := ⟨ga_BadNumber, gg_BadNumber, exC_BadNumber, hdC_BadNumber, ha_BadNumber, hn_, ht_, hm_BadNumber⟩,
    ox_RepeatedHour := ⟨⟨nm_RepeatedHour, q_RepeatedHour, N_RepeatedHour, bs_RepeatedHour, _, sn_RepeatedHour, sub_RepeatedHour, ab_RepeatedHour, col_RepeatedHour, dd_RepeatedHour, m0_RepeatedHour, m1_RepeatedHour, m2_RepeatedHour, m3_RepeatedHour, m5_RepeatedHour, xL_RepeatedHour, rfl⟩, sa_RepeatedHour, exC_RepeatedHour, tyC_RepeatedHour, kC_RepeatedHour⟩,
    ni_RepeatedHour := a1,
    ti_RepeatedHour := ti_RepeatedHour,
    nf_RepeatedHour_hour := nf_RepeatedHour_hour,
    xf_RepeatedHour := ⟨ga_RepeatedHour, gg_RepeatedHour, exC_RepeatedHour, hdC_RepeatedHour⟩,
    ex_RepeatedHour := ⟨ga_RepeatedHour, gg_RepeatedHour, exC_RepeatedHour, hdC_RepeatedHour, ha_RepeatedHour, hn_, ht_, hm_RepeatedHour⟩,
    xm_BadNumber_BadNumber := PySem.W.exm_ref exC_BadNumber hdC_BadNumber tyC_BadNumber meC_BadNumber,
    xm_RepeatedHour_RepeatedHour := PySem.W.exm_ref exC_RepeatedHour hdC_RepeatedHour tyC_RepeatedHour meC_RepeatedHour,
    xm_RepeatedHour_WatchError := PySem.W.exm_ref exC_WatchError hdC_WatchError tyC_WatchError sub_RepeatedHour_WatchError,
    kit_RepeatedHour_ValueError := kit_bi (by decide +kernel) sub_RepeatedHour_ValueError,
    kit_RepeatedHour_RepeatedHour := kit_self,
    kit_RepeatedHour_BadNumber := kit_no hdC_BadNumber tyC_BadNumber meC_BadNumber sub_RepeatedHour_BadNumber,
    cl_Lot := ⟨pg_Lot, hd_Lot, po_Lot, sa_Lot⟩,
    mk_Lot := ⟨mk_Lot, a2, if_2, kc_Lot⟩,
    na_Lot_hours := na_Lot_hours,
    na_Lot_members := na_Lot_members,
    ty_Lot := fun H a dx fs e => .base (.ins e ⟨pg_Lot, hd_Lot, po_Lot, sa_Lot⟩ ha_Lot hn_ ht_ hm_Lot),
    rd_Lot := ⟨.type "type", ⟨rd_Lot, gt_Lot⟩, ⟨_, cv_Lot_MOST, ⟨_, rfl⟩⟩⟩,
    P_Lot_members := ⟨pa_3, pg_3, pt_3, ⟨_, a3⟩⟩ }
  exact ⟨A.d_law, fun s v => .of_eq rfl, fun base _ _ => ok_law T⟩
end
theorem walk {l : PySem.W.OpenLaw} {q : Program} {loose : List Str} {XP : (Str → Option Value) → Heap → Prop} {YP : World → Heap → Prop} {d : DefRec} {K : Params → PySem.W.Frag} (hn : l.most = some 63) (hdf : d.params.defaults = [])
    (hY : ∀ (w : World) (h : Heap), YP w h → (K w.params).In h)
    (F : ∀ (w : World) (mg : Str → Option Value) (fa : Addr) (h : Heap), (K w.params).In h → h.Ns mainGlobals mg → mg d.name = some (.ref fa) →
      ∃ fd : FuncData, (∀ (s : Shared) (u : Value), BindsTo s fd ⟨[u], []⟩ [("script", u)]) ∧ ∀ base : Heap, (K w.params).In base → base.Ns mainGlobals mg → FnOk l.prog w (K w.params) mg base CX0 9 fa fd ["script"] ((spLaw) (K w.params))) :
    PySem.W.WalkO q loose XP YP l.row.toRowW d [] (fun f vs => PySem.call f vs) :=
  L2.walk_of (n := 63) (k := 9) (x := "script") (CX := fun _ => CX0) (sp := fun w => (spLaw) (K w.params)) hn (by decide) hdf ⟨rfl, by decide, by decide⟩ hY F (fun _ _ a ns hl _ hS => ⟨a, ns, rfl, hS, hl, fun _ => rfl⟩) fun _ _ _ _ _ z => z
end Pf
open PySem PySem.W PyProof.Rows
set_option maxRecDepth 100000 in
set_option maxHeartbeats 0 in
theorem PySem.Challenge.cw_watchbeats_k12_starts_of_parts_holds : PySem.Challenge.rw_watchbeats_k12_starts_of_parts.Holds := by
  w_on; o_law; k_head; (case hw => w_witness2)
  k_fill
  refine Pf.walk (l := PySem.Challenge.rw_watchbeats_k12_starts_of_parts) rfl rfl (fun w h Y => PySem.W.kIn_of Y) ?F
  case F =>
    intro w mg fa h KX G hmg
    refine' Pf.all_mk KX G hmg ?g_BadNumber ?g_RepeatedHour ?g_WatchError ?g_Lot ?a0 ?l0 ?c0 ?k0 ?a1 ?l1 ?c1 ?k1 ?a2 ?l2 ?c2 ?k2 ?pa_3 ?a3 ?l3 ?c3 ?k3 ?a4 ?l4 ?c4 ?k4 ?a5 ?l5 ?c5 ?k5 ?a6 ?l6 ?c6 ?k6 ?a7 ?l7 ?c7 ?k7 ?a8 ?l8 ?c8 ?k8 ?a9 ?l9 ?c9 ?k9 ?a10 ?l10 ?c10 ?k10 ?a11 ?l11 ?c11 ?k11 ?a12 ?l12 ?c12 ?k12 ?a13 ?l13 ?c13 ?k13 ?a14 ?l14 ?c14 ?k14 ?a15 ?l15 ?c15 ?k15 ?z_abs ?z_len ?z_int ?z_bool ?z_str ?z_list ?z_tuple ?z_isinstance ?z_range ?z_ValueError ?exC_BadNumber ?hdC_BadNumber ?tyC_BadNumber ?meC_BadNumber ?xL_BadNumber ?sa_BadNumber ?kC_BadNumber ?ti_BadNumber ?ga_BadNumber ?gg_BadNumber ?ha_BadNumber ?hn_ ?ht_ ?hm_BadNumber ?nf_BadNumber_name ?nf_BadNumber_value ?exC_RepeatedHour ?hdC_RepeatedHour ?tyC_RepeatedHour ?meC_RepeatedHour ?xL_RepeatedHour ?sa_RepeatedHour ?kC_RepeatedHour ?ti_RepeatedHour ?ga_RepeatedHour ?gg_RepeatedHour ?ha_RepeatedHour ?hm_RepeatedHour ?nf_RepeatedHour_hour ?exC_WatchError ?hdC_WatchError ?tyC_WatchError ?meC_WatchError ?sub_RepeatedHour_WatchError ?sub_RepeatedHour_ValueError ?sub_RepeatedHour_BadNumber ?pg_Lot ?hd_Lot ?po_Lot ?sa_Lot ?mk_Lot ?kc_Lot ?if_2 ?na_Lot_hours ?na_Lot_members ?ha_Lot ?hm_Lot ?rd_Lot ?gt_Lot ?cv_Lot_MOST ?pg_3 ?pt_3
    (case g_BadNumber => k_is)
    (case g_RepeatedHour => k_is)
    (case g_WatchError => k_is)
    (case g_Lot => k_is)
    (case a0 => k_is)
    (case l0 => k_is)
    (case c0 => k_is)
    (case k0 => k_is)
    (case a1 => k_is)
    (case l1 => k_is)
    (case c1 => k_is)
    (case k1 => k_is)
    (case a2 => k_is)
    (case l2 => k_is)
    (case c2 => k_is)
    (case k2 => k_is)
    (case pa_3 => k_is)
    (case a3 => k_is)
    (case l3 => k_is)
    (case c3 => k_is)
    (case k3 => k_is)
    (case a4 => k_is)
    (case l4 => k_is)
    (case c4 => k_is)
    (case k4 => k_is)
    (case a5 => k_is)
    (case l5 => k_is)
    (case c5 => k_is)
    (case k5 => k_is)
    (case a6 => k_is)
    (case l6 => k_is)
    (case c6 => k_is)
    (case k6 => k_is)
    (case a7 => k_is)
    (case l7 => k_is)
    (case c7 => k_is)
    (case k7 => k_is)
    (case a8 => k_is)
    (case l8 => k_is)
    (case c8 => k_is)
    (case k8 => k_is)
    (case a9 => k_is)
    (case l9 => k_is)
    (case c9 => k_is)
    (case k9 => k_is)
    (case a10 => k_is)
    (case l10 => k_is)
    (case c10 => k_is)
    (case k10 => k_is)
    (case a11 => k_is)
    (case l11 => k_is)
    (case c11 => k_is)
    (case k11 => k_is)
    (case a12 => k_is)
    (case l12 => k_is)
    (case c12 => k_is)
    (case k12 => k_is)
    (case a13 => k_is)
    (case l13 => k_is)
    (case c13 => k_is)
    (case k13 => k_is)
    (case a14 => k_is)
    (case l14 => k_is)
    (case c14 => k_is)
    (case k14 => k_is)
    (case a15 => k_is)
    (case l15 => k_is)
    (case c15 => k_is)
    (case k15 => k_is)
    (case z_abs => k_is)
    (case z_len => k_is)
    (case z_int => k_is)
    (case z_bool => k_is)
    (case z_str => k_is)
    (case z_list => k_is)
    (case z_tuple => k_is)
    (case z_isinstance => k_is)
    (case z_range => k_is)
    (case z_ValueError => k_is)
    (case exC_BadNumber => k_is)
    (case hdC_BadNumber => k_is)
    (case tyC_BadNumber => k_is)
    (case meC_BadNumber => first | rfl | k_is)
    (case xL_BadNumber => k_is)
    (case sa_BadNumber => k_is)
    (case kC_BadNumber => k_is)
    (case ti_BadNumber => k_is)
    (case ga_BadNumber => k_is)
    (case gg_BadNumber => k_is)
    (case ha_BadNumber => k_is)
    (case hn_ => k_is)
    (case ht_ => k_is)
    (case hm_BadNumber => k_is)
    (case nf_BadNumber_name => k_is)
    (case nf_BadNumber_value => k_is)
    (case exC_RepeatedHour => k_is)
    (case hdC_RepeatedHour => k_is)
    (case tyC_RepeatedHour => k_is)
    (case meC_RepeatedHour => first | rfl | k_is)
    (case xL_RepeatedHour => k_is)
    (case sa_RepeatedHour => k_is)
    (case kC_RepeatedHour => k_is)
    (case ti_RepeatedHour => k_is)
    (case ga_RepeatedHour => k_is)
    (case gg_RepeatedHour => k_is)
    (case ha_RepeatedHour => k_is)
    (case hm_RepeatedHour => k_is)
    (case nf_RepeatedHour_hour => k_is)
    (case exC_WatchError => k_is)
    (case hdC_WatchError => k_is)
    (case tyC_WatchError => k_is)
    (case meC_WatchError => first | rfl | k_is)
    (case sub_RepeatedHour_WatchError => k_is)
    (case sub_RepeatedHour_ValueError => k_is)
    (case sub_RepeatedHour_BadNumber => k_is)
    (case pg_Lot => k_is)
    (case hd_Lot => k_is)
    (case po_Lot => k_is)
    (case sa_Lot => k_is)
    (case mk_Lot => k_is)
    (case kc_Lot => k_is)
    (case if_2 => k_is)
    (case na_Lot_hours => k_is)
    (case na_Lot_members => k_is)
    (case ha_Lot => k_is)
    (case hm_Lot => k_is)
    (case rd_Lot => k_is)
    (case gt_Lot => k_is)
    (case cv_Lot_MOST => k_is)
    (case pg_3 => k_is)
    (case pt_3 => k_is)
#print axioms PySem.Challenge.cw_watchbeats_k12_starts_of_parts_holds
