import PyProof.Rows.All
import Wide.All
import OpenK.AllK
import Wide.FinOn
import HandS.ForMost
import HandS.Walk
import HandS.Evl
import HandS.IsInst
import HandS.Flow
import HandS.Style
import HandS.Wide
import HandS.Exc
import HandS.ExcOwn
import HandS.TryOnly
import HandS.TryMany
import HandS.WordsExc
import HandS.TupAny
import HandS.TupLe
import HandS.StrMore
import HandS.Codes
import KE.KExcSuper
import HandS.Nested
import HandS.ExcInit
import KE.KExcIs
import HandS.ExcField
import HandS.ExcIs
import HandS.FStr
import PySem.Challenge.RW_leastfit_k03_malformed_values
section Part_DLa
set_option Elab.async false
set_option linter.all false
set_option maxRecDepth 100000
set_option autoImplicit false
set_option maxHeartbeats 2000000
/-! DL: a mirror of a def over data (PyData), and what a term of the layer's rules must hold for it -/
namespace DL
open PySem L2 Evl
abbrev D := PyData

mutual
/-- a value that stands for data; a list of the data is one that the heap tells whole -/
inductive Dq (K : PySem.W.Frag) (H : Hp) : V → D → Prop
  | non : Dq K H .non .none
  | bl (b : Bool) : Dq K H (.bl b) (.bool b)
  | int (i : Int) : Dq K H (.int i) (.int i)
  | str (x : Str) : Dq K H (.str x) (.str x)
  | lst {a : Addr} {xs : List V} {ds : List D} : SqL K H a xs → DqAll K H xs ds → Dq K H (.ref a) (.list ds)
  | tup {a : Addr} {xs : List V} {ds : List D} : SqT K H a xs → DqAll K H xs ds → Dq K H (.ref a) (.tuple ds)
inductive DqAll (K : PySem.W.Frag) (H : Hp) : List V → List D → Prop
  | nil : DqAll K H [] []
  | cons {v : V} {vs : List V} {d : D} {ds : List D} : Dq K H v d → DqAll K H vs ds → DqAll K H (v :: vs) (d :: ds)
end

/-! ### data that stands in a heap -/
section
variable {K : PySem.W.Frag} {H H' : Hp}
mutual
theorem dp_ex (e : Ex H H') : ∀ (d : D) (v : V), Dq K H v d → Dq K H' v d
  | .none, _, h => by cases h; exact .non
  | .bool b, _, h => by cases h; exact .bl b
  | .int i, _, h => by cases h; exact .int i
  | .str x, _, h => by cases h; exact .str x
  | .list ds, _, h => by
    cases h with
    | lst hs ha => exact .lst (ex_l e hs) (dpAll_ex e ds _ ha)
  | .tuple ds, _, h => by
    cases h with
    | tup hs ha => exact .tup (ex_t e hs) (dpAll_ex e ds _ ha)
  | .dict _, _, h => by cases h
theorem dpAll_ex (e : Ex H H') : ∀ (ds : List D) (vs : List V), DqAll K H vs ds → DqAll K H' vs ds
  | [], _, h => by cases h; exact .nil
  | d :: ds, _, h => by
    cases h with
    | cons h1 h2 => exact .cons (dp_ex e d _ h1) (dpAll_ex e ds _ h2)
end
mutual
theorem dq_dp : ∀ (d : D) (v : V), Dq K H v d → Dp K H v d
  | .none, _, h => by cases h; exact .non
  | .bool b, _, h => by cases h; exact .bl b
  | .int i, _, h => by cases h; exact .int i
  | .str x, _, h => by cases h; exact .str x
  | .list ds, _, h => by
    cases h with
    | lst hs ha => exact .lst hs (dqAll_dp ds _ ha)
  | .tuple ds, _, h => by
    cases h with
    | tup hs ha => exact .tup hs (dqAll_dp ds _ ha)
  | .dict _, _, h => by cases h
theorem dqAll_dp : ∀ (ds : List D) (vs : List V), DqAll K H vs ds → DpAll K H vs ds
  | [], _, h => by cases h; exact .nil
  | d :: ds, _, h => by
    cases h with
    | cons h1 h2 => exact .cons (dq_dp d _ h1) (dqAll_dp ds _ h2)
end
theorem dpa_len : ∀ {vs : List V} {ds : List D}, DqAll K H vs ds → vs.length = ds.length
  | _, _, .nil => rfl
  | _, _, .cons _ h => by simp [dpa_len h]
theorem dpa_get : ∀ {vs : List V} {ds : List D} {i : Nat} {d : D}, DqAll K H vs ds → ds[i]? = some d → ∃ v, vs[i]? = some v ∧ Dq K H v d
  | _, _, 0, d, .cons h _, e => by
    simp at e
    subst e
    exact ⟨_, rfl, h⟩
  | _, _, i + 1, d, .cons _ h, e => by
    obtain ⟨v, h1, h2⟩ := dpa_get (i := i) h (by simpa using e)
    exact ⟨v, by simpa using h1, h2⟩
  | _, _, _, _, .nil, e => by simp at e
theorem dpa_get' : ∀ {vs : List V} {ds : List D} {i : Nat} {v : V}, DqAll K H vs ds → vs[i]? = some v → ∃ d, ds[i]? = some d ∧ Dq K H v d
  | _, _, 0, d, .cons h _, e => by
    simp at e
    subst e
    exact ⟨_, rfl, h⟩
  | _, _, i + 1, d, .cons _ h, e => by
    obtain ⟨v, h1, h2⟩ := dpa_get' (i := i) h (by simpa using e)
    exact ⟨v, by simpa using h1, h2⟩
  | _, _, _, _, .nil, e => by simp at e
theorem dpa_of : ∀ {vs : List V} {ds : List D}, vs.length = ds.length → (∀ (i : Nat) v d, vs[i]? = some v → ds[i]? = some d → Dq K H v d) → DqAll K H vs ds
  | [], [], _, _ => .nil
  | [], _ :: _, e, _ => by simp at e
  | _ :: _, [], e, _ => by simp at e
  | v :: vs, d :: ds, e, h => .cons (h 0 v d rfl rfl) (dpa_of (by simpa using e) fun i v d h1 h2 => h (i + 1) v d (by simpa using h1) (by simpa using h2))
theorem dpa_app : ∀ {vs ws : List V} {ds es : List D}, DqAll K H vs ds → DqAll K H ws es → DqAll K H (vs ++ ws) (ds ++ es)
  | _, _, _, _, .nil, h => h
  | _, _, _, _, .cons h t, h2 => .cons h (dpa_app t h2)
theorem dpa_drop : ∀ {vs : List V} {ds : List D} (n : Nat), DqAll K H vs ds → DqAll K H (vs.drop n) (ds.drop n)
  | _, _, 0, h => h
  | _, _, _ + 1, .nil => .nil
  | _, _, n + 1, .cons _ t => dpa_drop n t
theorem dpa_take : ∀ {vs : List V} {ds : List D} (n : Nat), DqAll K H vs ds → DqAll K H (vs.take n) (ds.take n)
  | _, _, 0, _ => .nil
  | _, _, _ + 1, .nil => .nil
  | _, _, n + 1, .cons h t => .cons h (dpa_take n t)
theorem dpa_set {v : V} {d : D} (q : Dq K H v d) : ∀ {vs : List V} {ds : List D} (n : Nat), DqAll K H vs ds → DqAll K H (vs.set n v) (ds.set n d)
  | _, _, _, .nil => .nil
  | _, _, 0, .cons _ t => .cons q t
  | _, _, n + 1, .cons h t => .cons h (dpa_set q n t)
theorem dpa_rev : ∀ {vs : List V} {ds : List D}, DqAll K H vs ds → DqAll K H vs.reverse ds.reverse
  | _, _, .nil => .nil
  | _, _, .cons h t => by
    simp only [List.reverse_cons]
    exact dpa_app (dpa_rev t) (.cons h .nil)
theorem dpa_one {v : V} {d : D} (h : Dq K H v d) : DqAll K H [v] [d] := .cons h .nil
/-- ints, texts, truths -/
theorem dpa_ints : ∀ {vs : List V} {ns : List Int}, DqAll K H vs (ns.map PyData.int) → vs = ns.map V.int
  | _, [], h => by cases h; rfl
  | _, n :: ns, h => by
    cases h with
    | cons h1 h2 =>
      cases h1
      rw [dpa_ints h2]
      rfl
theorem dpa_strs : ∀ {vs : List V} {ns : List Str}, DqAll K H vs (ns.map PyData.str) → vs = ns.map V.str
  | _, [], h => by cases h; rfl
  | _, n :: ns, h => by
    cases h with
    | cons h1 h2 =>
      cases h1
      rw [dpa_strs h2]
      rfl
theorem dpa_bls : ∀ {vs : List V} {ns : List Bool}, DqAll K H vs (ns.map PyData.bool) → vs = ns.map V.bl
  | _, [], h => by cases h; rfl
  | _, n :: ns, h => by
    cases h with
    | cons h1 h2 =>
      cases h1
      rw [dpa_bls h2]
      rfl
theorem ints_dpa : ∀ {ns : List Int}, DqAll K H (ns.map V.int) (ns.map PyData.int)
  | [] => .nil
  | n :: ns => .cons (.int n) ints_dpa
theorem strs_dpa : ∀ {ns : List Str}, DqAll K H (ns.map V.str) (ns.map PyData.str)
  | [] => .nil
  | n :: ns => .cons (.str n) strs_dpa
end

/-! ### cells: what a mirror knows of a slot -/
inductive Cell where
  | non
  | val (d : D)
  /-- a list of one's own (b = false), of a caller (b = true): it may be changed -/
  | var (b : Bool) (ds : List D)
abbrev Dl := List Cell

structure SR (K : PySem.W.Frag) (C0 H0 : Hp) (B : List (Nat × Addr)) (C H : Hp) (σ : L2.St) (δ : Dl) : Prop where
  len : σ.length = δ.length
  c0 : Ex C0 C
  ch : Ex C H
  fr : ∀ a o, H0 a = some o → (∀ p ∈ B, p.2 ≠ a) → H a = some o
  nw : ∀ a, H0 a ≠ none → C0 a = none → C a = none
  val : ∀ (i : Nat) (d : D), δ[i]? = some (.val d) → ∃ v, σ[i]? = some (some v) ∧ Dq K C v d
  own : ∀ (i : Nat) (ds : List D), δ[i]? = some (.var false ds) → ∃ l xs, σ[i]? = some (some (.ref l)) ∧ H0 l = none ∧ C l = none ∧ H l = some (.lst xs) ∧ DqAll K C xs ds
  bor : ∀ p ∈ B, ∃ ds xs, δ[p.1]? = some (.var true ds) ∧ σ[p.1]? = some (some (.ref p.2)) ∧ C p.2 = none ∧ H p.2 = some (.lst xs) ∧ DqAll K C xs ds
  btr : ∀ (i : Nat) (ds : List D), δ[i]? = some (.var true ds) → ∃ l, (i, l) ∈ B
  bd1 : ∀ p ∈ B, ∀ q ∈ B, p.2 = q.2 → p.1 = q.1
  bd2 : ∀ p ∈ B, ∀ q ∈ B, p.1 = q.1 → p.2 = q.2
  bH0 : ∀ p ∈ B, H0 p.2 ≠ none
  odis : ∀ (i j : Nat) (ds ds' : List D), i ≠ j → δ[i]? = some (.var false ds) → δ[j]? = some (.var false ds') → ∀ l, σ[i]? = some (some (.ref l)) → σ[j]? ≠ some (some (.ref l))

section
variable {K : PySem.W.Frag} {C0 H0 C H C2 H2 : Hp} {B : List (Nat × Addr)} {σ : L2.St} {δ : Dl}
/-- nothing is changed, something may be new -/
theorem SR.step (S : SR K C0 H0 B C H σ δ) (e1 : Ex C C2) (e2 : Ex H H2) (e3 : Ex C2 H2) (n : ∀ a, H a ≠ none → C a = none → C2 a = none) : SR K C0 H0 B C2 H2 σ δ where
  len := S.len
  c0 := S.c0.trans e1
  ch := e3
  fr := fun a o h hb => e2 a o (S.fr a o h hb)
  nw := fun a h1 h2 => by
    refine n a ?_ (S.nw a h1 h2)
    by_cases hb : ∃ p ∈ B, p.2 = a
    · obtain ⟨p, hp, rfl⟩ := hb
      obtain ⟨_, _, _, _, _, h, _⟩ := S.bor p hp
      rw [h]
      exact fun z => nomatch z
    · cases q : H0 a with
      | none => exact absurd q h1
      | some o =>
        rw [S.fr a o q fun p hp e => hb ⟨p, hp, e⟩]
        exact fun z => nomatch z
  val := fun i d h => by
    obtain ⟨v, h1, h2⟩ := S.val i d h
    exact ⟨v, h1, dp_ex e1 d v h2⟩
  own := fun i ds h => by
    obtain ⟨l, xs, h1, h2, h3, h4, h5⟩ := S.own i ds h
    exact ⟨l, xs, h1, h2, n l (by rw [h4]; exact fun z => nomatch z) h3, e2 l _ h4, dpAll_ex e1 ds xs h5⟩
  bor := fun p hp => by
    obtain ⟨ds, xs, h1, h2, h3, h4, h5⟩ := S.bor p hp
    exact ⟨ds, xs, h1, h2, n _ (by rw [h4]; exact fun z => nomatch z) h3, e2 _ _ h4, dpAll_ex e1 ds xs h5⟩
  btr := S.btr
  bd1 := S.bd1
  bd2 := S.bd2
  bH0 := S.bH0
  odis := S.odis
theorem free_of {p : Addr} (e : Ex C H) (h : H p = none) : C p = none := fresh_back e h
theorem ex_upd {o : HO} {p : Addr} (e : Ex C H) : Ex (upd C p o) (upd H p o) := fun a u h => by
  by_cases q : a = p
  · subst q
    rw [upd_same] at h ⊢
    exact h
  · rw [upd_ne q] at h ⊢
    exact e a u h
/-- a new object, of the data -/
theorem SR.new (S : SR K C0 H0 B C H σ δ) {p : Addr} {o : HO} (h : H p = none) : SR K C0 H0 B (upd C p o) (upd H p o) σ δ :=
  S.step (Ex.new (free_of S.ch h)) (Ex.new h) (ex_upd S.ch) fun a h1 h2 => by
    rw [upd_ne fun z => h1 (by rw [z]; exact h)]
    exact h2
/-- a new object that is not of the data -/
theorem SR.newN (S : SR K C0 H0 B C H σ δ) {p : Addr} {o : HO} (h : H p = none) : SR K C0 H0 B C (upd H p o) σ δ :=
  S.step (Ex.refl C) (Ex.new h) (S.ch.trans (Ex.new h)) fun a _ h2 => h2
end

/-! ### what a mirror gives -/
inductive R (α : Type) where
  | ok (a : α) (δ : Dl)
  | ex (c : Nat) (d : D) (δ : Dl)
  | no
abbrev M (α : Type) := Dl → R α
def R.bind {α β : Type} (r : R α) (f : α → Dl → R β) : R β := match r with
  | .ok a δ => f a δ
  | .ex c d δ => .ex c d δ
  | .no => .no
def R.lift {α : Type} (o : Option α) (δ : Dl) : R α := match o with
  | some a => .ok a δ
  | none => .no
def RP {α : Type} (r : R α) (k : α → Dl → Prop) (x : Nat → D → Dl → Prop) : Prop := match r with
  | .ok a δ => k a δ
  | .ex c d δ => x c d δ
  | .no => False
theorem RP.imp {α : Type} {r : R α} {k k' : α → Dl → Prop} {x x' : Nat → D → Dl → Prop} (h : RP r k x) (hk : ∀ a δ, k a δ → k' a δ) (hx : ∀ c d δ, x c d δ → x' c d δ) : RP r k' x' := by
  cases r with
  | ok a δ => exact hk _ _ h
  | ex c d δ => exact hx _ _ _ h
  | no => exact h.elim
theorem RP.bind {α β : Type} {r : R α} {f : α → Dl → R β} {k : β → Dl → Prop} {x : Nat → D → Dl → Prop} (h : RP (r.bind f) k x) : RP r (fun a δ => RP (f a δ) k x) x := by
  cases r with
  | ok a δ => exact h
  | ex c d δ => exact h
  | no => exact h.elim
theorem RP.lift {α : Type} {o : Option α} {δ : Dl} {k : α → Dl → Prop} {x : Nat → D → Dl → Prop} (h : RP (R.lift o δ) k x) : ∃ a, o = some a ∧ k a δ := by
  cases o with
  | none => exact h.elim
  | some a => exact ⟨a, rfl, h⟩

/-! ### judgements -/
/-- the class of an error by its number: where it stands, the name of its one attribute -/
abbrev ECl := Nat → Addr × Str
section
variable (K : PySem.W.Frag) (EC : ECl) (W : WX) (C0 H0 : Hp) (B : List (Nat × Addr))
/-- what an expression that raises must reach -/
def PXe (C : Hp) (σ : L2.St) : Nat → D → Dl → Prop := fun c d δ => ∀ v dd C2 H2, Ex C C2 → SR K C0 H0 B C2 H2 σ δ → H2 dd = some (.xd [((EC c).2, v)]) → Dq K C2 v d → W (.ref (EC c).1) (some dd) σ H2
def PKe (C : Hp) (σ : L2.St) (Q : VK) : D → Dl → Prop := fun d δ => ∀ v C2 H2, Ex C C2 → SR K C0 H0 B C2 H2 σ δ → Dq K C2 v d → Q v H2
def PKt (C : Hp) (σ : L2.St) (Q : Bool → Hp → Prop) : Bool → Dl → Prop := fun b δ => ∀ C2 H2, Ex C C2 → SR K C0 H0 B C2 H2 σ δ → Q b H2
def PKa (C : Hp) (σ : L2.St) (Q : List V → Hp → Prop) : List D → Dl → Prop := fun ds δ => ∀ vs C2 H2, Ex C C2 → SR K C0 H0 B C2 H2 σ δ → DqAll K C2 vs ds → Q vs H2
/-- a new list that nothing else holds -/
def PKl (C : Hp) (σ : L2.St) (Q : VK) : List D → Dl → Prop := fun ds δ => ∀ p xs C2 H2, Ex C C2 → SR K C0 H0 B C2 H2 σ δ → C2 p = none → H2 p = some (.lst xs) → H0 p = none →
  (∀ (i : Nat) (b : Bool) (es : List D), δ[i]? = some (.var b es) → σ[i]? ≠ some (some (.ref p))) → DqAll K C2 xs ds → Q (.ref p) H2
end
section
variable {K : PySem.W.Frag} {EC : ECl} {W : WX} {C0 H0 C C' : Hp} {B : List (Nat × Addr)} {σ : L2.St}
theorem PXe.mono (e : Ex C C') : ∀ c d δ, PXe K EC W C0 H0 B C σ c d δ → PXe K EC W C0 H0 B C' σ c d δ := fun _ _ _ h v dd C2 H2 e2 => h v dd C2 H2 (e.trans e2)
theorem PKe.mono (e : Ex C C') {Q : VK} : ∀ d δ, PKe K C0 H0 B C σ Q d δ → PKe K C0 H0 B C' σ Q d δ := fun _ _ h v C2 H2 e2 => h v C2 H2 (e.trans e2)
theorem PKt.mono (e : Ex C C') {Q : Bool → Hp → Prop} : ∀ d δ, PKt K C0 H0 B C σ Q d δ → PKt K C0 H0 B C' σ Q d δ := fun _ _ h C2 H2 e2 => h C2 H2 (e.trans e2)
theorem PKa.mono (e : Ex C C') {Q : List V → Hp → Prop} : ∀ d δ, PKa K C0 H0 B C σ Q d δ → PKa K C0 H0 B C' σ Q d δ := fun _ _ h vs C2 H2 e2 => h vs C2 H2 (e.trans e2)
theorem PKl.mono (e : Ex C C') {Q : VK} : ∀ d δ, PKl K C0 H0 B C σ Q d δ → PKl K C0 H0 B C' σ Q d δ := fun _ _ h p xs C2 H2 e2 => h p xs C2 H2 (e.trans e2)
end

structure DE (X : Cx) (EC : ECl) (W : WX) (e : Expr) (m : M D) : Prop where
  ex : ∃ te, PE X e te ∧ ∀ C0 H0 B C H σ δ Q, SR X.K C0 H0 B C H σ δ → RP (m δ) (PKe X.K C0 H0 B C σ Q) (PXe X.K EC W C0 H0 B C σ) → te σ H Q
structure DT (X : Cx) (EC : ECl) (W : WX) (e : Expr) (m : M Bool) : Prop where
  ex : ∃ te, PT X e te ∧ ∀ C0 H0 B C H σ δ Q, SR X.K C0 H0 B C H σ δ → RP (m δ) (PKt X.K C0 H0 B C σ Q) (PXe X.K EC W C0 H0 B C σ) → te σ H Q
structure DA (X : Cx) (EC : ECl) (W : WX) (es : List Expr) (m : M (List D)) : Prop where
  len : ∀ δ ds δ', m δ = .ok ds δ' → ds.length = es.length
  ex : ∃ te, PA X es te ∧ ∀ C0 H0 B C H σ δ Q, SR X.K C0 H0 B C H σ δ → RP (m δ) (PKa X.K C0 H0 B C σ Q) (PXe X.K EC W C0 H0 B C σ) → te σ H Q
/-- an expression that gives a new list -/
structure DL' (X : Cx) (EC : ECl) (W : WX) (e : Expr) (m : M (List D)) : Prop where
  ex : ∃ te, PE X e te ∧ ∀ C0 H0 B C H σ δ Q, SR X.K C0 H0 B C H σ δ → RP (m δ) (PKl X.K C0 H0 B C σ Q) (PXe X.K EC W C0 H0 B C σ) → te σ H Q

/-! ### flows -/
inductive Fl where
  | nx
  | rt (d : D)
  | bk
  | ct
section
variable (K : PySem.W.Frag) (EC : ECl) (W : WX) (C0 H0 : Hp) (B : List (Nat × Addr)) (C : Hp)
def PXs : Nat → D → Dl → Prop := fun c d δ => ∀ σ v dd C2 H2, Ex C C2 → SR K C0 H0 B C2 H2 σ δ → H2 dd = some (.xd [((EC c).2, v)]) → Dq K C2 v d → W (.ref (EC c).1) (some dd) σ H2
def PKs (N : L2.Ends) : Fl → Dl → Prop := fun f δ => ∀ σ C2 H2, Ex C C2 → SR K C0 H0 B C2 H2 σ δ → match f with
  | .nx => N.nx σ H2
  | .rt d => ∀ v, Dq K C2 v d → N.rt v H2
  | .bk => N.bk σ H2
  | .ct => N.ct σ H2
end
structure DS (X : Cx) (EC : ECl) (W : WX) (st : Stmt) (m : M Fl) : Prop where
  ex : ∃ ts, PS X st ts ∧ ∀ C0 H0 B C H σ δ (N : L2.Ends), SR X.K C0 H0 B C H σ δ → RP (m δ) (PKs X.K C0 H0 B C N) (PXs X.K EC W C0 H0 B C) → ts N σ H
structure DSs (X : Cx) (EC : ECl) (W : WX) (st : List Stmt) (m : M Fl) : Prop where
  ex : ∃ ts, PSs X st ts ∧ ∀ C0 H0 B C H σ δ (N : L2.Ends), SR X.K C0 H0 B C H σ δ → RP (m δ) (PKs X.K C0 H0 B C N) (PXs X.K EC W C0 H0 B C) → ts N σ H
end DL
end Part_DLa

section Part_DLb
set_option Elab.async false
set_option linter.all false
set_option maxRecDepth 100000
set_option autoImplicit false
set_option maxHeartbeats 2000000
namespace DL
open PySem L2 Evl

/-! ### by values -/
def Rs (K : PySem.W.Frag) (C H : Hp) (z : D) (Q : VK) : Prop := (∀ u, Dq K C u z → Q u H) ∧ ∀ p o, H p = none → Dq K (upd C p o) (.ref p) z → Q (.ref p) (upd H p o)
theorem rs_of {K : PySem.W.Frag} {C0 H0 C H : Hp} {B : List (Nat × Addr)} {σ : L2.St} {δ : Dl} {Q : VK} {z : D} (S : SR K C0 H0 B C H σ δ) (h : PKe K C0 H0 B C σ Q z δ) : Rs K C H z Q :=
  ⟨fun u hu => h u C H (Ex.refl C) S hu, fun p o hp hd => h _ _ _ (Ex.new (free_of S.ch hp)) (S.new hp) hd⟩
def RO (K : PySem.W.Frag) (r : R2) (f : D → D → Option D) : Prop := ∀ x y z, f x y = some z → ∀ v w C H Q, Ex C H → Dq K C v x → Dq K C w y → Rs K C H z Q → r v w H Q
def RO1 (K : PySem.W.Frag) (r : V → Hp → VK → Prop) (f : D → Option D) : Prop := ∀ x z, f x = some z → ∀ v C H Q, Ex C H → Dq K C v x → Rs K C H z Q → r v H Q
def RCf (K : PySem.W.Frag) (r : List V → Hp → VK → Prop) (f : List D → Option D) : Prop := ∀ xs z, f xs = some z → ∀ vs C H Q, Ex C H → DqAll K C vs xs → Rs K C H z Q → r vs H Q
def RMt (K : PySem.W.Frag) (r : V → List V → Hp → VK → Prop) (f : D → List D → Option D) : Prop := ∀ x xs z, f x xs = some z → ∀ v vs C H Q, Ex C H → Dq K C v x → DqAll K C vs xs → Rs K C H z Q → r v vs H Q

/-! ### mirrors of expressions -/
def mVar (i : Nat) : M D := fun δ => match δ[i]? with
  | some (.val d) => .ok d δ
  | _ => .no
def mC (d : D) : M D := fun δ => .ok d δ
def mNo {α : Type} : M α := fun _ => .no
def mOp (f : D → D → Option D) (a b : M D) : M D := fun δ => (a δ).bind fun x δ => (b δ).bind fun y δ => R.lift (f x y) δ
def mUn (f : D → Option D) (a : M D) : M D := fun δ => (a δ).bind fun x δ => R.lift (f x) δ
def mNil : M (List D) := fun δ => .ok [] δ
def mCons (a : M D) (r : M (List D)) : M (List D) := fun δ => (a δ).bind fun x δ => (r δ).bind fun xs δ => .ok (x :: xs) δ
def mCall (f : List D → Option D) (a : M (List D)) : M D := fun δ => (a δ).bind fun xs δ => R.lift (f xs) δ
def mMt (f : D → List D → Option D) (o : M D) (a : M (List D)) : M D := fun δ => (o δ).bind fun x δ => (a δ).bind fun xs δ => R.lift (f x xs) δ
abbrev LINE : Nat := 16777216
theorem line_eq : sizeLine = LINE := sizeLine_eq
def dTup (xs : List D) : Option D := if xs.length ≤ LINE then some (.tuple xs) else none
def dLst (xs : List D) : Option D := if xs.length ≤ LINE then some (.list xs) else none
def truthD : D → Option Bool
  | .none => some false
  | .bool b => some b
  | .int i => some (i != 0)
  | .str s => if s.length ≤ LINE then some ((s.length : Int) != 0) else none
  | .list xs => some (!xs.isEmpty)
  | .tuple xs => some (!xs.isEmpty)
  | _ => none
def mT (a : M D) : M Bool := fun δ => (a δ).bind fun x δ => match x with
  | .bool b => .ok b δ
  | _ => .no
def mTr (a : M D) : M Bool := fun δ => (a δ).bind fun x δ => R.lift (truthD x) δ
def mAndT (a b : M Bool) : M Bool := fun δ => (a δ).bind fun c δ => if c then b δ else .ok false δ
def mOrT (a b : M Bool) : M Bool := fun δ => (a δ).bind fun c δ => if c then .ok true δ else b δ
def mNotT (a : M Bool) : M Bool := fun δ => (a δ).bind fun c δ => .ok (!c) δ
def mAnd (a b : M D) : M D := fun δ => (a δ).bind fun x δ => match truthD x with
  | some true => b δ
  | some false => .ok x δ
  | none => .no
def mOr (a b : M D) : M D := fun δ => (a δ).bind fun x δ => match truthD x with
  | some true => .ok x δ
  | some false => b δ
  | none => .no
def mNot (a : M D) : M D := mUn (fun x => (truthD x).map fun b => .bool (!b)) a
def mIfE (c : M Bool) (a b : M D) : M D := fun δ => (c δ).bind fun k δ => if k then a δ else b δ
def mChain (f g : D → D → Option D) (a b c : M D) : M D := fun δ => (a δ).bind fun x δ => (b δ).bind fun y δ => match f x y with
  | some (.bool true) => (c δ).bind fun z δ => R.lift (g y z) δ
  | some (.bool false) => .ok (.bool false) δ
  | _ => .no

/-! ### the rules -/
section
variable {X : Cx} {EC : ECl} {W : WX} {a b c e : Expr} {es : List Expr} {ma mb mc : M D} {mes : M (List D)} {pos p : Pos}

theorem de_var (i : Nat) {x : Str} (hN : X.N[i]? = some x := by rfl) (hv : Vis X.env.scope x := by first | exact Or.inl rfl | exact Or.inr (Or.inl rfl) | exact Or.inr (Or.inr rfl)) (hd : (x == ("__debug__" : Str)) = false := by decide)
    (hcd : (x == ("__classdict__" : Str)) = false := by decide) : DE X EC W (.Name x pos) (mVar i) := by
  refine ⟨_, pe_var hN hv hd hcd, fun C0 H0 B C H σ δ Q S h => ?_⟩
  unfold mVar at h
  split at h
  · rename_i d e
    obtain ⟨v, h1, h2⟩ := S.val i d e
    exact ⟨v, h1, h v C H (Ex.refl C) S h2⟩
  · exact h.elim
theorem de_con {v : V} {d : D} (h : PE X e (tC v)) (hd : ∀ C, Dq X.K C v d) : DE X EC W e (mC d) :=
  ⟨_, h, fun C0 H0 B C H σ δ Q S h => h v C H (Ex.refl C) S (hd C)⟩
theorem de_int {i : Int} {j} : DE X EC W (.Constant (.int i) j pos) (mC (.int i)) := de_con pe_int fun _ => .int i
theorem de_bl {i : Bool} {j} : DE X EC W (.Constant (.bool i) j pos) (mC (.bool i)) := de_con pe_bl fun _ => .bl i
theorem de_str {i : Str} {j} : DE X EC W (.Constant (.str i) j pos) (mC (.str i)) := de_con pe_str fun _ => .str i
theorem de_non {j} : DE X EC W (.Constant .none j pos) (mC .none) := de_con pe_non fun _ => .non
theorem de_op {op : Operator} {r : R2} {f : D → D → Option D} (ho : OpR X (binaryOp op) r) (hr : RO X.K r f) (ha : DE X EC W a ma) (hb : DE X EC W b mb) : DE X EC W (.BinOp a op b pos) (mOp f ma mb) := by
  obtain ⟨ta, pa, ra⟩ := ha.ex
  obtain ⟨tb, pb, rb⟩ := hb.ex
  refine ⟨_, pe_op ho pa pb, fun C0 H0 B C H σ δ Q S h => ra C0 H0 B C H σ δ _ S (RP.imp (RP.bind h) (fun x δ1 h1 v C1 H1 e1 S1 d1 => ?_) fun c d δ h => h)⟩
  refine rb C0 H0 B C1 H1 σ δ1 _ S1 (RP.imp (RP.bind h1) (fun y δ2 h2 w C2 H2 e2 S2 d2 => ?_) (PXe.mono e1))
  obtain ⟨z, hz, q⟩ := RP.lift h2
  exact hr x y z hz v w C2 H2 Q S2.ch (dp_ex e2 _ _ d1) d2 (rs_of S2 (PKe.mono (e1.trans e2) _ _ q))
theorem de_cmp {op : CmpOp} {r : R2} {f : D → D → Option D} (ho : OpR X (compareOp op) r) (hr : RO X.K r f) (ha : DE X EC W a ma) (hb : DE X EC W b mb) (hm : behindInMarks op b = false) : DE X EC W (.Compare a [op] [b] pos) (mOp f ma mb) := by
  obtain ⟨ta, pa, ra⟩ := ha.ex
  obtain ⟨tb, pb, rb⟩ := hb.ex
  refine ⟨_, pe_cmpR ho pa pb hm, fun C0 H0 B C H σ δ Q S h => ra C0 H0 B C H σ δ _ S (RP.imp (RP.bind h) (fun x δ1 h1 v C1 H1 e1 S1 d1 => ?_) fun c d δ h => h)⟩
  refine rb C0 H0 B C1 H1 σ δ1 _ S1 (RP.imp (RP.bind h1) (fun y δ2 h2 w C2 H2 e2 S2 d2 => ?_) (PXe.mono e1))
  obtain ⟨z, hz, q⟩ := RP.lift h2
  exact hr x y z hz v w C2 H2 Q S2.ch (dp_ex e2 _ _ d1) d2 (rs_of S2 (PKe.mono (e1.trans e2) _ _ q))
theorem de_un {op : UnaryOp} {r : V → Hp → VK → Prop} {f : D → Option D} (ho : UnR X (unaryOp op) r) (hr : RO1 X.K r f) (ha : DE X EC W a ma) : DE X EC W (.UnaryOp op a pos) (mUn f ma) := by
  obtain ⟨ta, pa, ra⟩ := ha.ex
  refine ⟨_, pe_un ho pa, fun C0 H0 B C H σ δ Q S h => ra C0 H0 B C H σ δ _ S (RP.imp (RP.bind h) (fun x δ1 h1 v C1 H1 e1 S1 d1 => ?_) fun c d δ h => h)⟩
  obtain ⟨z, hz, q⟩ := RP.lift h1
  exact hr x z hz v C1 H1 Q S1.ch d1 (rs_of S1 (PKe.mono e1 _ _ q))
theorem da_nil : DA X EC W [] mNil := ⟨fun δ ds δ' h => by cases h; rfl, _, pa_nil, fun C0 H0 B C H σ δ Q S h => h [] C H (Ex.refl C) S .nil⟩
theorem da_cons (ha : DE X EC W e ma) (hr : DA X EC W es mes) (hs : starEach (e :: es) X.env = (false, eval e X.env) :: starEach es X.env := by rfl) : DA X EC W (e :: es) (mCons ma mes) := by
  obtain ⟨ta, pa, ra⟩ := ha.ex
  obtain ⟨tb, pb, rb⟩ := hr.ex
  refine ⟨fun δ ds δ' h => ?_, _, pa_cons pa pb hs, fun C0 H0 B C H σ δ Q S h => ra C0 H0 B C H σ δ _ S (RP.imp (RP.bind h) (fun x δ1 h1 v C1 H1 e1 S1 d1 => ?_) fun c d δ h => h)⟩
  · have h : ((ma δ).bind fun x δ => (mes δ).bind fun xs δ => .ok (x :: xs) δ) = .ok ds δ' := h
    cases q : ma δ with
    | no => rw [q] at h; cases h
    | ex c d δ' => rw [q] at h; cases h
    | ok x δ1 =>
      rw [q] at h
      have h : ((mes δ1).bind fun xs δ => .ok (x :: xs) δ) = .ok ds δ' := h
      cases q2 : mes δ1 with
      | no => rw [q2] at h; cases h
      | ex c d δ' => rw [q2] at h; cases h
      | ok xs δ2 =>
        rw [q2] at h
        cases h
        rw [List.length_cons, List.length_cons, hr.len δ1 xs _ q2]
  refine rb C0 H0 B C1 H1 σ δ1 _ S1 (RP.imp (RP.bind h1) (fun y δ2 h2 ws C2 H2 e2 S2 d2 => ?_) (PXe.mono e1))
  exact h2 (v :: ws) C2 H2 (e1.trans e2) S2 (.cons (dp_ex e2 _ _ d1) d2)
/-- a built-in that is called -/
theorem de_callB {id : String} {r : List V → Hp → VK → Prop} {f : List D → Option D} {x : Str} (hc : CallR X (.builtin id) r) (hf : RCf X.K r f) (hg : Gl X x) (hm : X.mg x = none) (hv : bootBuiltins x = some (.builtin id)) (ha : DA X EC W (e :: es) mes)
    (hn : x ≠ "__name__" := by decide) (hdb : (x == ("__debug__" : Str)) = false := by decide) (he : starEach (e :: es) X.env = (false, eval e X.env) :: starEach es X.env := by rfl) (hpl : (backTo pos (starEach es X.env)).any (·.1) = false := by rfl) :
    DE X EC W (.Call (.Name x p) (e :: es) [] pos) (mCall f mes) := by
  obtain ⟨ta, pa, ra⟩ := ha.ex
  refine ⟨_, pe_callB hc hg hm hv pa hn hdb he hpl, fun C0 H0 B C H σ δ Q S h => ra C0 H0 B C H σ δ _ S (RP.imp (RP.bind h) (fun xs δ1 h1 vs C1 H1 e1 S1 d1 => ?_) fun c d δ h => h)⟩
  obtain ⟨z, hz, q⟩ := RP.lift h1
  exact hf xs z hz vs C1 H1 Q S1.ch d1 (rs_of S1 (PKe.mono e1 _ _ q))
theorem de_callTy {T : String} {r : List V → Hp → VK → Prop} {f : List D → Option D} {x : Str} (hc : CallR X (.type T) r) (hf : RCf X.K r f) (hg : Gl X x) (hm : X.mg x = none) (hv : bootBuiltins x = some (.type T)) (ha : DA X EC W (e :: es) mes)
    (hn : x ≠ "__name__" := by decide) (hdb : (x == ("__debug__" : Str)) = false := by decide) (he : starEach (e :: es) X.env = (false, eval e X.env) :: starEach es X.env := by rfl) (hpl : (backTo pos (starEach es X.env)).any (·.1) = false := by rfl) :
    DE X EC W (.Call (.Name x p) (e :: es) [] pos) (mCall f mes) := by
  obtain ⟨ta, pa, ra⟩ := ha.ex
  refine ⟨_, pe_callTy hc hg hm hv pa hn hdb he hpl, fun C0 H0 B C H σ δ Q S h => ra C0 H0 B C H σ δ _ S (RP.imp (RP.bind h) (fun xs δ1 h1 vs C1 H1 e1 S1 d1 => ?_) fun c d δ h => h)⟩
  obtain ⟨z, hz, q⟩ := RP.lift h1
  exact hf xs z hz vs C1 H1 Q S1.ch d1 (rs_of S1 (PKe.mono e1 _ _ q))
theorem de_tup {x1} (ha : DA X EC W es mes) : DE X EC W (.Tuple es x1 pos) (mCall dTup mes) := by
  obtain ⟨ta, pa, ra⟩ := ha.ex
  refine ⟨_, pe_tup pa, fun C0 H0 B C H σ δ Q S h => ra C0 H0 B C H σ δ _ S (RP.imp (RP.bind h) (fun xs δ1 h1 vs C1 H1 e1 S1 d1 => ?_) fun c d δ h => h)⟩
  obtain ⟨z, hz, q⟩ := RP.lift h1
  unfold dTup at hz
  split at hz
  · rename_i hl
    cases hz
    refine ⟨by rw [dpa_len d1, line_eq]; exact hl, fun p hp => ?_⟩
    refine (rs_of S1 (PKe.mono e1 _ _ q)).2 p _ hp (.tup (SqT.of upd_same) (dpAll_ex (Ex.new (free_of S1.ch hp)) _ _ d1))
  · cases hz
/-- a list that is displayed -/
def mNew (a : M (List D)) : M (List D) := fun δ => (a δ).bind fun xs δ => if xs.length ≤ LINE then .ok xs δ else .no
theorem dl_lst (ha : DA X EC W es mes) : DL' X EC W (.List es pos) (mNew mes) := by
  obtain ⟨ta, pa, ra⟩ := ha.ex
  refine ⟨_, pe_lst pa, fun C0 H0 B C H σ δ Q S h => ra C0 H0 B C H σ δ _ S (RP.imp (RP.bind h) (fun xs δ1 h1 vs C1 H1 e1 S1 d1 => ?_) fun c d δ h => h)⟩
  split at h1
  · rename_i hl
    refine ⟨by rw [dpa_len d1, line_eq]; exact hl, fun p hp => ?_⟩
    have nH0 : H0 p = none := by
      cases q : H0 p with
      | none => rfl
      | some o =>
        by_cases hb : ∃ k ∈ B, k.2 = p
        · obtain ⟨k, hk, rfl⟩ := hb
          obtain ⟨_, _, _, _, _, h4, _⟩ := S1.bor k hk
          rw [hp] at h4
          cases h4
        · have z := S1.fr p o q fun k hk e => hb ⟨k, hk, e⟩
          rw [hp] at z
          cases z
    refine h1 p vs C1 _ e1 (S1.newN hp) (free_of S1.ch hp) upd_same nH0 (fun i b ds hi hs => ?_) d1
    cases b with
    | false =>
      obtain ⟨l, ys, h2, _, _, h5, _⟩ := S1.own i ds hi
      rw [h2] at hs
      cases hs
      rw [hp] at h5
      cases h5
    | true =>
      obtain ⟨l, hl⟩ := S1.btr i ds hi
      obtain ⟨_, _, _, h3, _, h5, _⟩ := S1.bor _ hl
      rw [h3] at hs
      cases hs
      rw [hp] at h5
      cases h5
  · exact h1.elim
/-- a new list, as data -/
def mOf (a : M (List D)) : M D := fun δ => (a δ).bind fun xs δ => .ok (.list xs) δ
theorem de_of {mes : M (List D)} (h : DL' X EC W e mes) : DE X EC W e (mOf mes) := by
  obtain ⟨te, pe, re⟩ := h.ex
  refine ⟨te, pe, fun C0 H0 B C H σ δ Q S h => re C0 H0 B C H σ δ Q S (RP.imp (RP.bind h) (fun xs δ1 h1 p vs C1 H1 e1 S1 hC hH h0 nm d1 => ?_) fun c d δ h => h)⟩
  have e2 : Ex C1 (upd C1 p (.lst vs)) := Ex.new hC
  have e3 : Ex (upd C1 p (.lst vs)) H1 := fun a o q => by
    by_cases ha : a = p
    · subst ha
      rw [upd_same] at q
      rw [← q]
      exact hH
    · rw [upd_ne ha] at q
      exact S1.ch a o q
  refine h1 (.ref p) (upd C1 p (.lst vs)) H1 (e1.trans e2) ⟨S1.len, S1.c0.trans e2, e3, S1.fr, fun a h2 h3 => ?_, fun i d hi => ?_, fun i ds hi => ?_, fun k hk => ?_, S1.btr, S1.bd1, S1.bd2, S1.bH0, S1.odis⟩ (.lst (SqL.of upd_same) (dpAll_ex e2 _ _ d1))
  · rw [upd_ne fun z => h2 (by rw [z]; exact h0)]
    exact S1.nw a h2 h3
  · obtain ⟨v, h2, h3⟩ := S1.val i d hi
    exact ⟨v, h2, dp_ex e2 _ _ h3⟩
  · obtain ⟨l, ys, h2, h3, h4, h5, h6⟩ := S1.own i ds hi
    refine ⟨l, ys, h2, h3, ?_, h5, dpAll_ex e2 _ _ h6⟩
    rw [upd_ne fun z => nm i false ds hi (by rw [← z]; exact h2)]
    exact h4
  · obtain ⟨ds, ys, h2, h3, h4, h5, h6⟩ := S1.bor k hk
    refine ⟨ds, ys, h2, h3, ?_, h5, dpAll_ex e2 _ _ h6⟩
    rw [upd_ne fun z => nm k.1 true ds h2 (by rw [← z]; exact h3)]
    exact h4
theorem de_lst (ha : DA X EC W es mes) : DE X EC W (.List es pos) (mOf (mNew mes)) := de_of (dl_lst ha)

/-! ### tests -/
variable {ta tb : M Bool}
theorem dt_val (h : DE X EC W e ma) (he : ∀ whole, isTrue e X.env whole = (do let v ← whole; standAt e.pos; holding [v] (truthy v)) := by intro _; rfl) : DT X EC W e (mT ma) := by
  obtain ⟨te, pe, re⟩ := h.ex
  refine ⟨_, pt_val pe he, fun C0 H0 B C H σ δ Q S h => re C0 H0 B C H σ δ _ S (RP.imp (RP.bind h) (fun x δ1 h1 v C1 H1 e1 S1 d1 => ?_) fun c d δ h => h)⟩
  split at h1
  · rename_i k
    cases d1
    exact ⟨k, rfl, h1 C1 H1 e1 S1⟩
  · exact h1.elim
theorem dt_cmp {op : CmpOp} {r : R2} {f : D → D → Option D} (ho : OpR X (compareOp op) r) (hr : RO X.K r f) (ha : DE X EC W a ma) (hb : DE X EC W b mb) (hm : behindInMarks op b = false) : DT X EC W (.Compare a [op] [b] pos) (mT (mOp f ma mb)) := by
  obtain ⟨ta, pa, ra⟩ := ha.ex
  obtain ⟨tb, pb, rb⟩ := hb.ex
  refine ⟨_, pt_cmpR ho pa pb hm, fun C0 H0 B C H σ δ Q S h => ra C0 H0 B C H σ δ _ S (RP.imp (RP.bind (RP.bind h)) (fun x δ1 h1 v C1 H1 e1 S1 d1 => ?_) fun c d δ h => h)⟩
  refine rb C0 H0 B C1 H1 σ δ1 _ S1 (RP.imp (RP.bind h1) (fun y δ2 h2 w C2 H2 e2 S2 d2 => ?_) (PXe.mono e1))
  obtain ⟨z, hz, q⟩ := RP.lift h2
  refine hr x y z hz v w C2 H2 _ S2.ch (dp_ex e2 _ _ d1) d2 (rs_of (Q := fun x H' => ∃ k, x = .bl k ∧ Q k H') S2 fun u C3 H3 e3 S3 d3 => ?_)
  split at q
  · rename_i k
    cases d3
    exact ⟨k, rfl, q C3 H3 ((e1.trans e2).trans e3) S3⟩
  · exact q.elim
theorem tru_of {K : PySem.W.Frag} {C H : Hp} {v : V} {x : D} {k : Bool} (e : Ex C H) (h : Dq K C v x) (ht : truthD x = some k) : TruV K v H k := by
  have hl := line_eq
  cases h with
  | non => cases ht; rfl
  | bl b => cases ht; rfl
  | int i => cases ht; rfl
  | str s =>
    have ht : (if s.length ≤ LINE then some ((s.length : Int) != 0) else none) = some k := ht
    split at ht
    · rename_i hs
      cases ht
      exact ⟨by rw [hl]; exact hs, rfl⟩
    · cases ht
  | lst h1 h2 =>
    cases ht
    refine .inl ⟨_, ex_l e h1, ?_⟩
    have := dpa_len h2
    rename_i xs ds
    cases xs <;> cases ds <;> simp_all
  | tup h1 h2 =>
    cases ht
    refine .inr (.inl ⟨_, ex_t e h1, ?_⟩)
    have := dpa_len h2
    rename_i xs ds
    cases xs <;> cases ds <;> simp_all
theorem dt_truth (h : DE X EC W e ma) (he : ∀ whole, isTrue e X.env whole = (do let v ← whole; standAt e.pos; holding [v] (truthy v)) := by intro _; rfl) : DT X EC W e (mTr ma) := by
  obtain ⟨te, pe, re⟩ := h.ex
  refine ⟨_, pt_truth pe he, fun C0 H0 B C H σ δ Q S h => re C0 H0 B C H σ δ _ S (RP.imp (RP.bind h) (fun x δ1 h1 v C1 H1 e1 S1 d1 => ?_) fun c d δ h => h)⟩
  obtain ⟨k, hk, q⟩ := RP.lift h1
  exact ⟨k, tru_of S1.ch d1 hk, q C1 H1 e1 S1⟩
structure DW (X : Cx) (EC : ECl) (W : WX) (e : Expr) (m : M Bool) : Prop where
  ex : ∃ te, PW X e te ∧ ∀ C0 H0 B C H σ δ Q, SR X.K C0 H0 B C H σ δ → RP (m δ) (PKt X.K C0 H0 B C σ Q) (PXe X.K EC W C0 H0 B C σ) → te σ H Q
theorem DW.dt (h : DW X EC W e ta) : DT X EC W e ta := let ⟨t, p, r⟩ := h.ex; ⟨t, p.pt, r⟩
theorem dw_and1 (ha : DT X EC W a ta) : DW X EC W (.BoolOp .And [a] pos) ta := let ⟨t, p, r⟩ := ha.ex; ⟨t, pw_and1 p, r⟩
theorem dw_or1 (ha : DT X EC W a ta) : DW X EC W (.BoolOp .Or [a] pos) ta := let ⟨t, p, r⟩ := ha.ex; ⟨t, pw_or1 p, r⟩
theorem dw_and {rest : List Expr} (ha : DT X EC W a ta) (hb : DW X EC W (.BoolOp .And (b :: rest) pos) tb) : DW X EC W (.BoolOp .And (a :: b :: rest) pos) (mAndT ta tb) := by
  obtain ⟨t1, p1, r1⟩ := ha.ex
  obtain ⟨t2, p2, r2⟩ := hb.ex
  refine ⟨_, pw_and p1 p2, fun C0 H0 B C H σ δ Q S h => r1 C0 H0 B C H σ δ _ S (RP.imp (RP.bind h) (fun c δ1 h1 C1 H1 e1 S1 => ?_) fun c d δ h => h)⟩
  cases c with
  | true => exact r2 C0 H0 B C1 H1 σ δ1 Q S1 (RP.imp h1 (PKt.mono e1) (PXe.mono e1))
  | false => exact h1 C1 H1 e1 S1
theorem dw_or {rest : List Expr} (ha : DT X EC W a ta) (hb : DW X EC W (.BoolOp .Or (b :: rest) pos) tb) : DW X EC W (.BoolOp .Or (a :: b :: rest) pos) (mOrT ta tb) := by
  obtain ⟨t1, p1, r1⟩ := ha.ex
  obtain ⟨t2, p2, r2⟩ := hb.ex
  refine ⟨_, pw_or p1 p2, fun C0 H0 B C H σ δ Q S h => r1 C0 H0 B C H σ δ _ S (RP.imp (RP.bind h) (fun c δ1 h1 C1 H1 e1 S1 => ?_) fun c d δ h => h)⟩
  cases c with
  | true => exact h1 C1 H1 e1 S1
  | false => exact r2 C0 H0 B C1 H1 σ δ1 Q S1 (RP.imp h1 (PKt.mono e1) (PXe.mono e1))
theorem dt_not (ha : DT X EC W a ta) : DT X EC W (.UnaryOp .Not a pos) (mNotT ta) := by
  obtain ⟨t1, p1, r1⟩ := ha.ex
  refine ⟨_, pt_not p1, fun C0 H0 B C H σ δ Q S h => r1 C0 H0 B C H σ δ _ S (RP.imp (RP.bind h) (fun c δ1 h1 C1 H1 e1 S1 => ?_) fun c d δ h => h)⟩
  exact h1 C1 H1 e1 S1
/-! ### and, or, not, if as values -/
theorem de_one {op} (h : DE X EC W a ma) : DE X EC W (.BoolOp op [a] pos) ma := let ⟨t, p, r⟩ := h.ex; ⟨t, pe_one p, r⟩
theorem de_and {rest : List Expr} (ha : DE X EC W a ma) (hb : DE X EC W (.BoolOp .And (b :: rest) pos) mb) : DE X EC W (.BoolOp .And (a :: b :: rest) pos) (mAnd ma mb) := by
  obtain ⟨t1, p1, r1⟩ := ha.ex
  obtain ⟨t2, p2, r2⟩ := hb.ex
  refine ⟨_, pe_andT p1 p2, fun C0 H0 B C H σ δ Q S h => r1 C0 H0 B C H σ δ _ S (RP.imp (RP.bind h) (fun x δ1 h1 v C1 H1 e1 S1 d1 => ?_) fun c d δ h => h)⟩
  split at h1
  · rename_i hk
    exact ⟨true, tru_of S1.ch d1 hk, r2 C0 H0 B C1 H1 σ δ1 Q S1 (RP.imp h1 (PKe.mono e1) (PXe.mono e1))⟩
  · rename_i hk
    exact ⟨false, tru_of S1.ch d1 hk, h1 v C1 H1 e1 S1 d1⟩
  · exact h1.elim
theorem de_or {rest : List Expr} (ha : DE X EC W a ma) (hb : DE X EC W (.BoolOp .Or (b :: rest) pos) mb) : DE X EC W (.BoolOp .Or (a :: b :: rest) pos) (mOr ma mb) := by
  obtain ⟨t1, p1, r1⟩ := ha.ex
  obtain ⟨t2, p2, r2⟩ := hb.ex
  refine ⟨_, pe_orT p1 p2, fun C0 H0 B C H σ δ Q S h => r1 C0 H0 B C H σ δ _ S (RP.imp (RP.bind h) (fun x δ1 h1 v C1 H1 e1 S1 d1 => ?_) fun c d δ h => h)⟩
  split at h1
  · rename_i hk
    exact ⟨true, tru_of S1.ch d1 hk, h1 v C1 H1 e1 S1 d1⟩
  · rename_i hk
    exact ⟨false, tru_of S1.ch d1 hk, r2 C0 H0 B C1 H1 σ δ1 Q S1 (RP.imp h1 (PKe.mono e1) (PXe.mono e1))⟩
  · exact h1.elim
theorem de_not (ha : DE X EC W a ma) : DE X EC W (.UnaryOp .Not a pos) (mNot ma) := by
  obtain ⟨t1, p1, r1⟩ := ha.ex
  refine ⟨_, pe_notT p1, fun C0 H0 B C H σ δ Q S h => r1 C0 H0 B C H σ δ _ S (RP.imp (RP.bind h) (fun x δ1 h1 v C1 H1 e1 S1 d1 => ?_) fun c d δ h => h)⟩
  obtain ⟨z, hz, q⟩ := RP.lift h1
  have hz : (truthD x).map (fun b => PyData.bool (!b)) = some z := hz
  cases hk : truthD x with
  | none => rw [hk] at hz; cases hz
  | some k =>
    rw [hk] at hz
    cases hz
    exact ⟨k, tru_of S1.ch d1 hk, q _ C1 H1 e1 S1 (.bl _)⟩
theorem de_ifE (hc : DT X EC W c ta) (ha : DE X EC W a ma) (hb : DE X EC W b mb) : DE X EC W (.IfExp c a b pos) (mIfE ta ma mb) := by
  obtain ⟨t0, p0, r0⟩ := hc.ex
  obtain ⟨t1, p1, r1⟩ := ha.ex
  obtain ⟨t2, p2, r2⟩ := hb.ex
  refine ⟨_, pe_ifExp p0 p1 p2, fun C0 H0 B C H σ δ Q S h => r0 C0 H0 B C H σ δ _ S (RP.imp (RP.bind h) (fun k δ1 h1 C1 H1 e1 S1 => ?_) fun c d δ h => h)⟩
  cases k with
  | true => exact r1 C0 H0 B C1 H1 σ δ1 Q S1 (RP.imp h1 (PKe.mono e1) (PXe.mono e1))
  | false => exact r2 C0 H0 B C1 H1 σ δ1 Q S1 (RP.imp h1 (PKe.mono e1) (PXe.mono e1))
end
end DL
end Part_DLb

section Part_DLc
set_option Elab.async false
set_option linter.all false
set_option maxRecDepth 100000
set_option autoImplicit false
set_option maxHeartbeats 2000000
namespace DL
open PySem PySem.Spec PyProof.Rows L2 Evl

/-! ### operators by values -/
instance (i j : Int) : Decidable (CMul i j) := by unfold CMul; infer_instance
instance (i j : Int) : Decidable (CMulW i j) := by unfold CMulW; infer_instance
instance (i j : Int) : Decidable (CDivN i j) := by unfold CDivN; infer_instance
instance (i j : Int) : Decidable (CDivW i j) := by unfold CDivW; infer_instance
instance (i j : Int) : Decidable (CPow i j) := by unfold CPow; infer_instance

/-- list + list, either one that may only be read too -/
def rCatR (K : PySem.W.Frag) : R2 := fun x y H Q => ∃ l b xs zs, x = .ref l ∧ y = .ref b ∧ SqL K H l xs ∧ SqL K H b zs ∧ xs.length + zs.length ≤ sizeLine ∧ ∀ p, H p = none → Q (.ref p) (upd H p (.lst (xs ++ zs)))
theorem op_catR {X : Cx} : OpR X (binaryOp .Add) (rCatR X.K) := by
  intro pins s σ H x y v u Q I rx ry h
  obtain ⟨l, b, xs, zs, rfl, rfl, hH, hB, hz, q⟩ := h
  cases rx
  cases ry
  obtain ⟨its, r, p1, _⟩ := I.list hH
  obtain ⟨its2, r2, p2, _⟩ := I.list hB
  obtain ⟨⟨cls, dd, data, sl⟩, n, ho, hc, hdd, hd⟩ := p1
  obtain ⟨⟨cls2, dd2, data2, sl2⟩, n2, ho2, hc2, hdd2, hd2⟩ := p2
  simp only at hc hd hc2 hd2 hdd hdd2
  subst hc hd hc2 hd2 hdd hdd2
  have e : its.toArray ++ its2.toArray = (its ++ its2).toArray := by simp
  refine concat_meets ⟨_, ho, rfl⟩ ⟨_, ho2, rfl⟩ noFill_list_add seq_list_add PySem.F.slot_list_add PySem.F.entry_list_add (PySem.F.args_list_add_2 _ _) (list_addW l b its.toArray its2.toArray n n2 none none sl sl2 (by rw [List.size_toArray, List.size_toArray, ← r.length, ← r2.length]; exact hz)) ⟨ho, ho2, ?_⟩
  rw [e]
  exact ⟨.ref _, _, I.lnew (t' := s.toks) (r.append r2) (by rw [List.length_append]; omega), rfl, q _ I.fresh⟩

/-- some of it by name -/
def dInts : List D → Option (List Int)
  | [] => some []
  | .int i :: r => (dInts r).map (i :: ·)
  | _ => none
def dStrs : List D → Option (List Str)
  | [] => some []
  | .str i :: r => (dStrs r).map (i :: ·)
  | _ => none
def dBls : List D → Option (List Bool)
  | [] => some []
  | .bool i :: r => (dBls r).map (i :: ·)
  | _ => none
theorem dInts_map : ∀ ns : List Int, dInts (ns.map .int) = some ns
  | [] => rfl
  | n :: ns => by
    show (dInts (ns.map .int)).map (n :: ·) = _
    rw [dInts_map ns]
    rfl
theorem dStrs_map : ∀ ns : List Str, dStrs (ns.map .str) = some ns
  | [] => rfl
  | n :: ns => by
    show (dStrs (ns.map .str)).map (n :: ·) = _
    rw [dStrs_map ns]
    rfl
theorem dBls_map : ∀ ns : List Bool, dBls (ns.map .bool) = some ns
  | [] => rfl
  | n :: ns => by
    show (dBls (ns.map .bool)).map (n :: ·) = _
    rw [dBls_map ns]
    rfl
theorem dInts_eq : ∀ {ds : List D} {ns : List Int}, dInts ds = some ns → ds = ns.map .int
  | [], _, h => by cases h; rfl
  | .int i :: r, ns, h => by
    have h : (dInts r).map (i :: ·) = some ns := h
    cases q : dInts r with
    | none => rw [q] at h; cases h
    | some ms =>
      rw [q] at h
      cases h
      rw [dInts_eq q]
      rfl
  | .none :: _, _, h => by cases h
  | .bool _ :: _, _, h => by cases h
  | .str _ :: _, _, h => by cases h
  | .list _ :: _, _, h => by cases h
  | .tuple _ :: _, _, h => by cases h
  | .dict _ :: _, _, h => by cases h
theorem dStrs_eq : ∀ {ds : List D} {ns : List Str}, dStrs ds = some ns → ds = ns.map .str
  | [], _, h => by cases h; rfl
  | .str i :: r, ns, h => by
    have h : (dStrs r).map (i :: ·) = some ns := h
    cases q : dStrs r with
    | none => rw [q] at h; cases h
    | some ms =>
      rw [q] at h
      cases h
      rw [dStrs_eq q]
      rfl
  | .none :: _, _, h => by cases h
  | .bool _ :: _, _, h => by cases h
  | .int _ :: _, _, h => by cases h
  | .list _ :: _, _, h => by cases h
  | .tuple _ :: _, _, h => by cases h
  | .dict _ :: _, _, h => by cases h
theorem dBls_eq : ∀ {ds : List D} {ns : List Bool}, dBls ds = some ns → ds = ns.map .bool
  | [], _, h => by cases h; rfl
  | .bool i :: r, ns, h => by
    have h : (dBls r).map (i :: ·) = some ns := h
    cases q : dBls r with
    | none => rw [q] at h; cases h
    | some ms =>
      rw [q] at h
      cases h
      rw [dBls_eq q]
      rfl
  | .none :: _, _, h => by cases h
  | .str _ :: _, _, h => by cases h
  | .int _ :: _, _, h => by cases h
  | .list _ :: _, _, h => by cases h
  | .tuple _ :: _, _, h => by cases h
  | .dict _ :: _, _, h => by cases h

def dAdd : D → D → Option D
  | .int i, .int j => some (.int (i + j))
  | .str a, .str b => if a.length + b.length ≤ LINE then some (.str (a ++ b)) else none
  | .list a, .list b => if a.length + b.length ≤ LINE then some (.list (a ++ b)) else none
  | .tuple a, .tuple b => if a.length + b.length ≤ LINE then some (.tuple (a ++ b)) else none
  | _, _ => none
def rAddA (K : PySem.W.Frag) : R2 := fun x y H Q => (rI0 fun i j => .int (i + j)) x y H Q ∨ ((fun x y H Q => ∃ i j, x = V.str i ∧ y = V.str j ∧ i.length + j.length ≤ sizeLine ∧ Q (.str (i ++ j)) H) x y H Q ∨ (rCatR K x y H Q ∨ rCatA K x y H Q))
theorem op_addA {X : Cx} : OpR X (binaryOp .Add) (rAddA X.K) := op_add.or (op_add_str.or (op_catR.or op_catA))
theorem ro_add {K : PySem.W.Frag} : RO K (rAddA K) dAdd := by
  intro x y z hz v w C H Q e hv hw q
  have hl := line_eq
  unfold dAdd at hz
  split at hz
  · cases hz; cases hv; cases hw
    exact .inl ⟨_, _, rfl, rfl, q.1 _ (.int _)⟩
  · split at hz
    · rename_i hs
      cases hz; cases hv; cases hw
      exact .inr (.inl ⟨_, _, rfl, rfl, by rw [hl]; exact hs, q.1 _ (.str _)⟩)
    · cases hz
  · split at hz
    · rename_i hs
      cases hz
      cases hv with
      | lst h1 h2 =>
        cases hw with
        | lst h3 h4 =>
          have l1 := dpa_len h2
          have l2 := dpa_len h4
          refine .inr (.inr (.inl ⟨_, _, _, _, rfl, rfl, ex_l e h1, ex_l e h3, by rw [hl, l1, l2]; exact hs, fun p hp => ?_⟩))
          exact q.2 p _ hp (.lst (SqL.of upd_same) (dpAll_ex (Ex.new (free_of e hp)) _ _ (dpa_app h2 h4)))
    · cases hz
  · split at hz
    · rename_i hs
      cases hz
      cases hv with
      | tup h1 h2 =>
        cases hw with
        | tup h3 h4 =>
          have l1 := dpa_len h2
          have l2 := dpa_len h4
          refine .inr (.inr (.inr ⟨_, _, _, _, rfl, rfl, ex_t e h1, ex_t e h3, by rw [hl, l1, l2]; exact hs, fun n => ?_, fun _ n => ?_, fun _ _ p hp => ?_⟩))
          · subst n
            cases h2
            exact q.1 _ (.tup h3 h4)
          · subst n
            cases h4
            rw [List.append_nil] at q
            exact q.1 _ (.tup h1 h2)
          · exact q.2 p _ hp (.tup (SqT.of upd_same) (dpAll_ex (Ex.new (free_of e hp)) _ _ (dpa_app h2 h4)))
    · cases hz
  · cases hz
def dII (g : Int → Int → Option D) : D → D → Option D
  | .int i, .int j => g i j
  | _, _ => none
theorem ro_ii {K : PySem.W.Frag} {Cn : Int → Int → Prop} {g : Int → Int → V} {f : Int → Int → Option D} (h : ∀ i j z, f i j = some z → Cn i j ∧ ∀ C, Dq K C (g i j) z) : RO K (rI Cn g) (dII f) := by
  intro x y z hz v w C H Q e hv hw q
  unfold dII at hz
  split at hz
  · cases hv; cases hw
    obtain ⟨h1, h2⟩ := h _ _ _ hz
    exact ⟨_, _, rfl, rfl, h1, q.1 _ (h2 C)⟩
  · cases hz
theorem ro_i0 {K : PySem.W.Frag} {g : Int → Int → V} {f : Int → Int → Option D} (h : ∀ i j z, f i j = some z → ∀ C, Dq K C (g i j) z) : RO K (rI0 g) (dII f) := by
  intro x y z hz v w C H Q e hv hw q
  unfold dII at hz
  split at hz
  · cases hv; cases hw
    exact ⟨_, _, rfl, rfl, q.1 _ (h _ _ _ hz C)⟩
  · cases hz
def dSub := dII fun i j => some (.int (i - j))
theorem ro_sub {K : PySem.W.Frag} : RO K (rI0 fun i j => .int (i - j)) dSub := ro_i0 fun i j z h C => by cases h; exact .int _
def dMul := dII fun i j => if CMul i j ∨ CMulW i j then some (.int (i * j)) else none
def rMulA : R2 := fun x y H Q => rI CMul (fun i j => .int (i * j)) x y H Q ∨ rI CMulW (fun i j => .int (i * j)) x y H Q
theorem op_mulA {X : Cx} : OpR X (binaryOp .Mult) rMulA := op_mul.or op_mulW
theorem ro_mul {K : PySem.W.Frag} : RO K rMulA dMul := by
  intro x y z hz v w C H Q e hv hw q
  unfold dMul dII at hz
  split at hz
  · dsimp only at hz
    split at hz
    · rename_i h
      cases hz; cases hv; cases hw
      rcases h with h | h
      · exact .inl ⟨_, _, rfl, rfl, h, q.1 _ (.int _)⟩
      · exact .inr ⟨_, _, rfl, rfl, h, q.1 _ (.int _)⟩
    · cases hz
  · cases hz
/-- by a divisor that is not 0 and small, or positive -/
def dDiv := dII fun i j => if CDivN i j ∨ CDivW i j then some (.int (i.fdiv j)) else none
def rDivA : R2 := fun x y H Q => rI CDivN (fun i j => .int (i.fdiv j)) x y H Q ∨ rI CDivW (fun i j => .int (i / j)) x y H Q
theorem op_divA {X : Cx} : OpR X (binaryOp .FloorDiv) rDivA := op_fdivN.or op_fdivW
theorem ro_div {K : PySem.W.Frag} : RO K rDivA dDiv := by
  intro x y z hz v w C H Q e hv hw q
  unfold dDiv dII at hz
  split at hz
  · dsimp only at hz
    split at hz
    · rename_i h
      cases hz; cases hv; cases hw
      rcases h with h | h
      · exact .inl ⟨_, _, rfl, rfl, h, q.1 _ (.int _)⟩
      · refine .inr ⟨_, _, rfl, rfl, h, q.1 _ ?_⟩
        rw [Int.fdiv_eq_ediv_of_nonneg _ (Int.le_of_lt h.1)]
        exact .int _
    · cases hz
  · cases hz
def dMod := dII fun i j => if j ≠ 0 then some (.int (i.fmod j)) else none
theorem ro_mod {K : PySem.W.Frag} : RO K (rI (fun _ j => j ≠ 0) fun i j => .int (i.fmod j)) dMod := ro_ii fun i j z h => by
  split at h
  · cases h; exact ⟨by assumption, fun _ => .int _⟩
  · cases h
def dPow := dII fun i j => if CPow i j then some (.int (i ^ j.toNat)) else none
theorem ro_pow {K : PySem.W.Frag} : RO K (rI CPow fun i j => .int (i ^ j.toNat)) dPow := ro_ii fun i j z h => by
  split at h
  · cases h; exact ⟨by assumption, fun _ => .int _⟩
  · cases h
def dNeg : D → Option D
  | .int i => some (.int (-i))
  | _ => none
theorem ro_neg {K : PySem.W.Frag} : RO1 K (rU fun i => .int (-i)) dNeg := by
  intro x z hz v C H Q e hv q
  unfold dNeg at hz
  split at hz
  · cases hz; cases hv
    exact ⟨_, rfl, q.1 _ (.int _)⟩
  · cases hz
/-! comparisons -/
def dEq (x y : D) : Option D := if SeqAt.shaped x && SeqAt.shaped y then some (.bool (PyData.eqv x y)) else none
def dNe (x y : D) : Option D := if SeqAt.shaped x && SeqAt.shaped y then some (.bool (!PyData.eqv x y)) else none
theorem ro_eq {K : PySem.W.Frag} : RO K (rEqD K) dEq := by
  intro x y z hz v w C H Q e hv hw q
  unfold dEq at hz
  split at hz
  · rename_i h
    rw [Bool.and_eq_true] at h
    cases hz
    exact ⟨x, y, dq_dp _ _ (dp_ex e _ _ hv), dq_dp _ _ (dp_ex e _ _ hw), h.1, h.2, q.1 _ (.bl _)⟩
  · cases hz
theorem ro_ne {K : PySem.W.Frag} : RO K (rNeD K) dNe := by
  intro x y z hz v w C H Q e hv hw q
  unfold dNe at hz
  split at hz
  · rename_i h
    rw [Bool.and_eq_true] at h
    cases hz
    exact ⟨x, y, dq_dp _ _ (dp_ex e _ _ hv), dq_dp _ _ (dp_ex e _ _ hw), h.1, h.2, q.1 _ (.bl _)⟩
  · cases hz
def dIsN : D → D → Option D
  | x, .none => some (.bool (match x with | .none => true | _ => false))
  | _, _ => none
def dNotN : D → D → Option D
  | x, .none => some (.bool (match x with | .none => false | _ => true))
  | _, _ => none
theorem ro_isN {K : PySem.W.Frag} : RO K (fun x y H Q => y = V.non ∧ Q (.bl (decide (x = .non))) H) dIsN := by
  intro x y z hz v w C H Q e hv hw q
  unfold dIsN at hz
  split at hz
  · cases hz; cases hw
    refine ⟨rfl, q.1 _ ?_⟩
    cases hv <;> exact .bl _
  · cases hz
theorem ro_notN {K : PySem.W.Frag} : RO K (fun x y H Q => y = V.non ∧ Q (.bl (!decide (x = .non))) H) dNotN := by
  intro x y z hz v w C H Q e hv hw q
  unfold dNotN at hz
  split at hz
  · cases hz; cases hw
    refine ⟨rfl, q.1 _ ?_⟩
    cases hv <;> exact .bl _
  · cases hz
def b2 (b : Bool) : Int := if b = true then 1 else 0
def dLt : D → D → Option D
  | .int i, .int j => some (.bool (decide (i < j)))
  | .bool i, .bool j => some (.bool (decide (b2 i < b2 j)))
  | .str i, .str j => some (.bool (decide (i.cps.toList < j.cps.toList)))
  | .tuple xs, .tuple ys => match dInts xs, dInts ys with
    | some ns, some ms => some (.bool (HT.lexLt ns ms))
    | _, _ => none
  | _, _ => none
def rB2 (g : Bool → Bool → Bool) : R2 := fun x y H Q => ∃ i j, x = .bl i ∧ y = .bl j ∧ Q (.bl (g i j)) H
theorem op_ltB {X : Cx} : OpR X (compareOp .Lt) (rB2 fun i j => decide (b2 i < b2 j)) := by
  intro pins s σ H x y v u Q I rx ry h
  obtain ⟨i, j, rfl, rfl, q⟩ := h
  cases rx; cases ry
  exact PyProof.Rows.lt_bool ⟨.bl _, H, I, rfl, q⟩
theorem op_gtB {X : Cx} : OpR X (compareOp .Gt) (rB2 fun i j => decide (b2 j < b2 i)) := by
  intro pins s σ H x y v u Q I rx ry h
  obtain ⟨i, j, rfl, rfl, q⟩ := h
  cases rx; cases ry
  exact PyProof.Rows.gt_bool ⟨.bl _, H, I, rfl, q⟩
theorem lex_at (ns ms : List Int) : ∀ (k i : Nat), k = min ns.length ms.length - i → i ≤ min ns.length ms.length →
    Ob.lexAt (fun j => decide (ns.getD j 0 = ms.getD j 0)) (fun j => decide (ms.getD j 0 < ns.getD j 0)) (decide (ns.length > ms.length)) i k = HT.lexLt (ms.drop i) (ns.drop i)
  | 0, i, hk, hi => by
    rw [Ob.lexAt_zero]
    by_cases h : ms.length ≤ ns.length
    · have e : i = ms.length := by omega
      subst e
      rw [List.drop_length]
      cases q : ns.drop ms.length with
      | nil =>
        have := congrArg List.length q
        rw [List.length_drop, List.length_nil] at this
        rw [HT.lexLt_nil_nil]
        exact decide_eq_false (by omega)
      | cons a r =>
        have := congrArg List.length q
        rw [List.length_drop, List.length_cons] at this
        rw [HT.lexLt_nil_cons]
        exact decide_eq_true (by omega)
    · have e : i = ns.length := by omega
      subst e
      rw [List.drop_length]
      cases q : ms.drop ns.length with
      | nil =>
        rw [HT.lexLt_nil_nil]
        exact decide_eq_false (by omega)
      | cons a r =>
        rw [HT.lexLt_cons_nil]
        exact decide_eq_false (by omega)
  | k + 1, i, hk, hi => by
    have h1 : i < ns.length := by omega
    have h2 : i < ms.length := by omega
    rw [Ob.lexAt_succ, lex_at ns ms k (i + 1) (by omega) (by omega)]
    have d1 : ns.drop i = ns[i] :: ns.drop (i + 1) := List.drop_eq_getElem_cons h1
    have d2 : ms.drop i = ms[i] :: ms.drop (i + 1) := List.drop_eq_getElem_cons h2
    have g1 : ns.getD i 0 = ns[i] := by simp [List.getD, h1]
    have g2 : ms.getD i 0 = ms[i] := by simp [List.getD, h2]
    rw [d1, d2, HT.lexLt_cons]
    simp only [g1, g2, decide_eq_true_eq]
    by_cases h : ns[i] = ms[i]
    · rw [if_pos h, if_pos h.symm]
    · rw [if_neg h, if_neg (fun z => h z.symm)]
def rGtT (K : PySem.W.Frag) : R2 := fun x y H Q => ∃ (a b : Addr) (ns ms : List Int), x = .ref a ∧ y = .ref b ∧ SqT K H a (ns.map V.int) ∧ SqT K H b (ms.map V.int) ∧ Q (.bl (HT.lexLt ms ns)) H
theorem op_gtT {X : Cx} (hu : X.A.units < cLine) : OpR X (compareOp .Gt) (rGtT X.K) := by
  intro pins s σ H x y v u Q I rx ry h
  obtain ⟨a, b, ns, ms, rfl, rfl, ha, hb, q⟩ := h
  cases rx
  cases ry
  obtain ⟨its, r1, p1, _⟩ := I.tuple ha
  obtain ⟨its2, r2, p2, _⟩ := I.tuple hb
  have i1 : IntsAre its ns := Vals.ints r1
  have i2 : IntsAre its2 ms := Vals.ints r2
  have e1 : its.toArray.size = ns.length := by rw [List.size_toArray]; exact i1.length
  have e2 : its2.toArray.size = ms.length := by rw [List.size_toArray]; exact i2.length
  have at1 : ∀ j (h1 : j < its.toArray.size), ∃ t, its.toArray[j] = .int (ns.getD j 0) t := fun j h1 => PyProof.Rows.IntsAre.int_at i1 _ _ (by simp at h1; simp [h1])
  have at2 : ∀ j (h1 : j < its2.toArray.size), ∃ t, its2.toArray[j] = .int (ms.getD j 0) t := fun j h1 => PyProof.Rows.IntsAre.int_at i2 _ _ (by simp at h1; simp [h1])
  have R := Ob.RcOp.tuples_gt (A := X.A) (s := s) (e := fun j => decide (ns.getD j 0 = ms.getD j 0)) (r := fun j => decide (ms.getD j 0 < ns.getD j 0)) p1 p2 hu (fun j h1 h2 => by
    obtain ⟨t, et⟩ := at1 j h1
    obtain ⟨t', et'⟩ := at2 j h2
    rw [et, et']
    have z : (ns.getD j 0 == ms.getD j 0) = decide (ns.getD j 0 = ms.getD j 0) := by
      by_cases q : ns.getD j 0 = ms.getD j 0
      · rw [decide_eq_true q]; exact beq_iff_eq.mpr q
      · rw [decide_eq_false q]; exact beq_eq_false_iff_ne.mpr q
    rw [← z]
    exact SeqAt.EqAt.int_int _ _ _ _) (fun j h1 h2 _ => by
    obtain ⟨t, et⟩ := at1 j h1
    obtain ⟨t', et'⟩ := at2 j h2
    rw [et, et']
    exact Ob.RcOp.gt_int _ _ _ _)
  rw [e1, e2, lex_at ns ms _ 0 (by omega) (by omega)] at R
  have z : wpAny (model X.prog X.w) X.A (compareOp .Gt (.ref a) (.ref b)) (EP X pins σ Q) X.xe s := R X.prog X.w X.xe (EP X pins σ Q) ⟨.bl _, H, I, rfl, q⟩
  exact z
def rLtA (K : PySem.W.Frag) : R2 := fun x y H Q => (rI0 fun i j => .bl (decide (i < j))) x y H Q ∨ (rB2 (fun i j => decide (b2 i < b2 j)) x y H Q ∨ ((fun x y H Q => ∃ i j, x = V.str i ∧ y = V.str j ∧ Q (.bl (decide (i.cps.toList < j.cps.toList))) H) x y H Q ∨ rLtT K x y H Q))
theorem op_ltA {X : Cx} (hu : X.A.units < cLine) : OpR X (compareOp .Lt) (rLtA X.K) := op_lt.or (op_ltB.or (op_lt_str.or (op_ltT hu)))
theorem ro_lt {K : PySem.W.Frag} : RO K (rLtA K) dLt := by
  intro x y z hz v w C H Q e hv hw q
  unfold dLt at hz
  split at hz
  · cases hz; cases hv; cases hw
    exact .inl ⟨_, _, rfl, rfl, q.1 _ (.bl _)⟩
  · cases hz; cases hv; cases hw
    exact .inr (.inl ⟨_, _, rfl, rfl, q.1 _ (.bl _)⟩)
  · cases hz; cases hv; cases hw
    exact .inr (.inr (.inl ⟨_, _, rfl, rfl, q.1 _ (.bl _)⟩))
  · split at hz
    · rename_i h1 h2
      cases hz
      have e1 := dInts_eq h1
      have e2 := dInts_eq h2
      subst e1 e2
      cases hv with
      | tup a1 a2 =>
        cases hw with
        | tup b1 b2 =>
          have f1 := dpa_ints a2
          have f2 := dpa_ints b2
          subst f1 f2
          exact .inr (.inr (.inr ⟨_, _, _, _, rfl, rfl, ex_t e a1, ex_t e b1, q.1 _ (.bl _)⟩))
    · cases hz
  · cases hz
def dGt : D → D → Option D
  | .int i, .int j => some (.bool (decide (j < i)))
  | .bool i, .bool j => some (.bool (decide (b2 j < b2 i)))
  | .str i, .str j => some (.bool (decide (j.cps.toList < i.cps.toList)))
  | .tuple xs, .tuple ys => match dInts xs, dInts ys with
    | some ns, some ms => some (.bool (HT.lexLt ms ns))
    | _, _ => none
  | _, _ => none
def rGtA (K : PySem.W.Frag) : R2 := fun x y H Q => (rI0 fun i j => .bl (decide (j < i))) x y H Q ∨ (rB2 (fun i j => decide (b2 j < b2 i)) x y H Q ∨ ((fun x y H Q => ∃ i j, x = V.str i ∧ y = V.str j ∧ Q (.bl (decide (j.cps.toList < i.cps.toList))) H) x y H Q ∨ rGtT K x y H Q))
theorem op_gtA {X : Cx} (hu : X.A.units < cLine) : OpR X (compareOp .Gt) (rGtA X.K) := op_gt.or (op_gtB.or (op_gt_str.or (op_gtT hu)))
theorem ro_gt {K : PySem.W.Frag} : RO K (rGtA K) dGt := by
  intro x y z hz v w C H Q e hv hw q
  unfold dGt at hz
  split at hz
  · cases hz; cases hv; cases hw
    exact .inl ⟨_, _, rfl, rfl, q.1 _ (.bl _)⟩
  · cases hz; cases hv; cases hw
    exact .inr (.inl ⟨_, _, rfl, rfl, q.1 _ (.bl _)⟩)
  · cases hz; cases hv; cases hw
    exact .inr (.inr (.inl ⟨_, _, rfl, rfl, q.1 _ (.bl _)⟩))
  · split at hz
    · rename_i h1 h2
      cases hz
      have e1 := dInts_eq h1
      have e2 := dInts_eq h2
      subst e1 e2
      cases hv with
      | tup a1 a2 =>
        cases hw with
        | tup b1 b2 =>
          have f1 := dpa_ints a2
          have f2 := dpa_ints b2
          subst f1 f2
          exact .inr (.inr (.inr ⟨_, _, _, _, rfl, rfl, ex_t e a1, ex_t e b1, q.1 _ (.bl _)⟩))
    · cases hz
  · cases hz
def dLe := dII fun i j => some (.bool (decide (i ≤ j)))
def dGe := dII fun i j => some (.bool (decide (j ≤ i)))
theorem ro_le {K : PySem.W.Frag} : RO K (rI0 fun i j => .bl (decide (i ≤ j))) dLe := ro_i0 fun i j z h C => by cases h; exact .bl _
theorem ro_ge {K : PySem.W.Frag} : RO K (rI0 fun i j => .bl (decide (j ≤ i))) dGe := ro_i0 fun i j z h C => by cases h; exact .bl _
/-! in -/
def flatD : D → Bool
  | .none => true
  | .bool _ => true
  | .int _ => true
  | .str _ => true
  | _ => false
def inD (x : D) (ds : List D) : Bool := ds.any fun y => PyData.eqv y x
theorem flat_of {K : PySem.W.Frag} {C : Hp} {v : V} {x : D} (h : Dq K C v x) (f : flatD x = true) : flatV v = true := by
  cases h <;> first | rfl | cases f
theorem flats_of {K : PySem.W.Frag} {C : Hp} : ∀ {vs : List V} {xs : List D}, DqAll K C vs xs → xs.all flatD = true → vs.all flatV = true
  | _, _, .nil, _ => rfl
  | _, _, .cons h t, f => by
    rw [List.all_cons, Bool.and_eq_true] at f ⊢
    exact ⟨flat_of h f.1, flats_of t f.2⟩
theorem eqV_of {K : PySem.W.Frag} {C : Hp} {v w : V} {x y : D} (h : Dq K C v x) (h' : Dq K C w y) (f : flatD x = true) (f' : flatD y = true) : eqV v w = PyData.eqv x y := by
  cases h <;> cases h' <;> first | rfl | cases f | cases f'
theorem inV_of {K : PySem.W.Frag} {C : Hp} {v : V} {x : D} (h : Dq K C v x) (f : flatD x = true) : ∀ {vs : List V} {xs : List D}, DqAll K C vs xs → xs.all flatD = true → inV v vs = inD x xs
  | _, _, .nil, _ => rfl
  | _, _, .cons a t, g => by
    rw [List.all_cons, Bool.and_eq_true] at g
    unfold inV inD
    rw [List.any_cons, List.any_cons, eqV_of a h g.1 f]
    exact congrArg _ (inV_of h f t g.2)
def inStr (a b : Str) : Bool := match a.cps.toList with
  | [c] => decide (c ∈ b.cps.toList)
  | _ => !(Builtin.Str.occurrences b a 0 b.length 1).isEmpty
def dIn : D → D → Option D
  | .str a, .str b => some (.bool (inStr a b))
  | x, .list ys => if flatD x && ys.all flatD then some (.bool (inD x ys)) else none
  | x, .tuple ys => if flatD x && ys.all flatD then some (.bool (inD x ys)) else none
  | _, _ => none
def rInA (K : PySem.W.Frag) : R2 := fun x y H Q => ((fun x y H Q => ∃ (c : Nat) (z : Str), x = V.str ⟨#[c]⟩ ∧ y = V.str z ∧ Q (.bl (decide (c ∈ z.cps.toList))) H) x y H Q) ∨ (((fun x y H Q => ∃ i j, x = V.str i ∧ y = V.str j ∧ Q (.bl (!(Builtin.Str.occurrences j i 0 j.length 1).isEmpty)) H) x y H Q) ∨ rIn K false x y H Q)
theorem op_inA {X : Cx} : OpR X (compareOp .In) (rInA X.K) := op_in_sign.or (op_in_str.or op_in_seq)
theorem one_sign {a : Str} {c : Nat} (h : a.cps.toList = [c]) : a = ⟨#[c]⟩ := Str.ext' (Array.toList_inj.mp h)
theorem ro_in {K : PySem.W.Frag} : RO K (rInA K) dIn := by
  intro x y z hz v w C H Q e hv hw q
  unfold dIn at hz
  split at hz
  · cases hz; cases hv; cases hw
    rename_i a b
    unfold inStr at q
    split at q
    · rename_i c hc
      rw [one_sign hc]
      exact .inl ⟨c, b, rfl, rfl, q.1 _ (.bl _)⟩
    · exact .inr (.inl ⟨_, _, rfl, rfl, q.1 _ (.bl _)⟩)
  · split at hz
    · rename_i h
      rw [Bool.and_eq_true] at h
      cases hz
      cases hw with
      | lst h1 h2 =>
        refine .inr (.inr ⟨_, _, rfl, .inl (ex_l e h1), flat_of hv h.1, flats_of h2 h.2, ?_⟩)
        have i := inV_of hv h.1 h2 h.2
        show Q (.bl (inV v _)) H
        rw [i]
        exact q.1 _ (.bl _)
    · cases hz
  · split at hz
    · rename_i h
      rw [Bool.and_eq_true] at h
      cases hz
      cases hw with
      | tup h1 h2 =>
        refine .inr (.inr ⟨_, _, rfl, .inr (ex_t e h1), flat_of hv h.1, flats_of h2 h.2, ?_⟩)
        have i := inV_of hv h.1 h2 h.2
        show Q (.bl (inV v _)) H
        rw [i]
        exact q.1 _ (.bl _)
    · cases hz
  · cases hz
def dNotIn (x y : D) : Option D := match dIn x y with
  | some (.bool b) => some (.bool (!b))
  | _ => none
def rNiA (K : PySem.W.Frag) : R2 := fun x y H Q => ((fun x y H Q => ∃ (c : Nat) (z : Str), x = V.str ⟨#[c]⟩ ∧ y = V.str z ∧ Q (.bl (!decide (c ∈ z.cps.toList))) H) x y H Q) ∨ (((fun x y H Q => ∃ i j, x = V.str i ∧ y = V.str j ∧ Q (.bl (!(!(Builtin.Str.occurrences j i 0 j.length 1).isEmpty))) H) x y H Q) ∨ rIn K true x y H Q)
theorem op_niA {X : Cx} : OpR X (compareOp .NotIn) (rNiA X.K) := op_notIn_sign.or (op_notin_str.or op_notIn_seq)
theorem ro_ni {K : PySem.W.Frag} : RO K (rNiA K) dNotIn := by
  intro x y z hz v w C H Q e hv hw q
  unfold dNotIn at hz
  split at hz
  · rename_i b hb
    cases hz
    unfold dIn at hb
    split at hb
    · cases hb; cases hv; cases hw
      rename_i a b
      unfold inStr at q
      split at q
      · rename_i c hc
        rw [one_sign hc]
        exact .inl ⟨c, b, rfl, rfl, q.1 _ (.bl _)⟩
      · exact .inr (.inl ⟨_, _, rfl, rfl, q.1 _ (.bl _)⟩)
    · split at hb
      · rename_i h
        rw [Bool.and_eq_true] at h
        cases hb
        cases hw with
        | lst h1 h2 =>
          refine .inr (.inr ⟨_, _, rfl, .inl (ex_l e h1), flat_of hv h.1, flats_of h2 h.2, ?_⟩)
          have i := inV_of hv h.1 h2 h.2
          show Q (.bl (!inV v _)) H
          rw [i]
          exact q.1 _ (.bl _)
      · cases hb
    · split at hb
      · rename_i h
        rw [Bool.and_eq_true] at h
        cases hb
        cases hw with
        | tup h1 h2 =>
          refine .inr (.inr ⟨_, _, rfl, .inr (ex_t e h1), flat_of hv h.1, flats_of h2 h.2, ?_⟩)
          have i := inV_of hv h.1 h2 h.2
          show Q (.bl (!inV v _)) H
          rw [i]
          exact q.1 _ (.bl _)
      · cases hb
    · cases hb
  · cases hz
end DL
end Part_DLc

section Part_DLd
set_option Elab.async false
set_option linter.all false
set_option maxRecDepth 100000
set_option autoImplicit false
set_option maxHeartbeats 2000000
namespace DL
open PySem PySem.Spec PyProof.Rows L2 Evl

/-! ### a op b op' c -/
section
variable {X : Cx} {EC : ECl} {W : WX} {a b c e : Expr} {es : List Expr} {ma mb mc : M D} {mes : M (List D)} {pos p p2 : Pos}
theorem de_chain {op op' : CmpOp} {r r' : R2} {f g : D → D → Option D} (ho : OpR X (compareOp op) r) (hr : RO X.K r f) (ho' : OpR X (compareOp op') r') (hr' : RO X.K r' g) (ha : DE X EC W a ma) (hb : DE X EC W b mb) (hc : DE X EC W c mc)
    (hm : lastMarks [op, op'] [b, c] = false := by with_unfolding_all rfl) : DE X EC W (.Compare a [op, op'] [b, c] pos) (mChain f g ma mb mc) := by
  obtain ⟨ta, pa, ra⟩ := ha.ex
  obtain ⟨tb, pb, rb⟩ := hb.ex
  obtain ⟨tc, pc, rc⟩ := hc.ex
  refine ⟨_, pe_chain ho ho' pa pb pc hm, fun C0 H0 B C H σ δ Q S h => ra C0 H0 B C H σ δ _ S (RP.imp (RP.bind h) (fun x δ1 h1 v C1 H1 e1 S1 d1 => ?_) fun c d δ h => h)⟩
  refine rb C0 H0 B C1 H1 σ δ1 _ S1 (RP.imp (RP.bind h1) (fun y δ2 h2 w C2 H2 e2 S2 d2 => ?_) (PXe.mono e1))
  split at h2
  · rename_i hz
    refine hr x y _ hz v w C2 H2 _ S2.ch (dp_ex e2 _ _ d1) d2 (rs_of (C0 := C0) (H0 := H0) (B := B) (σ := σ) (δ := δ2) S2 fun u C3 H3 e3 S3 d3 => ?_)
    cases d3
    refine ⟨true, rfl, ?_⟩
    rw [if_pos rfl]
    refine rc C0 H0 B C3 H3 σ δ2 _ S3 (RP.imp (RP.bind h2) (fun z δ4 h4 w4 C4 H4 e4 S4 d4 => ?_) (PXe.mono ((e1.trans e2).trans e3)))
    obtain ⟨z', hz', q⟩ := RP.lift h4
    exact hr' y z z' hz' w w4 C4 H4 Q S4.ch (dp_ex (e3.trans e4) _ _ d2) d4 (rs_of S4 (PKe.mono (((e1.trans e2).trans e3).trans e4) _ _ q))
  · rename_i hz
    refine hr x y _ hz v w C2 H2 _ S2.ch (dp_ex e2 _ _ d1) d2 (rs_of (C0 := C0) (H0 := H0) (B := B) (σ := σ) (δ := δ2) S2 fun u C3 H3 e3 S3 d3 => ?_)
    cases d3
    refine ⟨false, rfl, ?_⟩
    rw [if_neg Bool.false_ne_true]
    exact h2 (.bl false) C3 H3 ((e1.trans e2).trans e3) S3 (.bl false)
  · exact h2.elim
theorem dt_chain {op op' : CmpOp} {r r' : R2} {f g : D → D → Option D} (ho : OpR X (compareOp op) r) (hr : RO X.K r f) (ho' : OpR X (compareOp op') r') (hr' : RO X.K r' g) (ha : DE X EC W a ma) (hb : DE X EC W b mb) (hc : DE X EC W c mc)
    (hm : lastMarks [op, op'] [b, c] = false := by with_unfolding_all rfl) : DT X EC W (.Compare a [op, op'] [b, c] pos) (mT (mChain f g ma mb mc)) := by
  obtain ⟨ta, pa, ra⟩ := ha.ex
  obtain ⟨tb, pb, rb⟩ := hb.ex
  obtain ⟨tc, pc, rc⟩ := hc.ex
  refine ⟨_, pt_chain ho ho' pa pb pc hm, fun C0 H0 B C H σ δ Q S h => ra C0 H0 B C H σ δ _ S (RP.imp (RP.bind (RP.bind h)) (fun x δ1 h1 v C1 H1 e1 S1 d1 => ?_) fun c d δ h => h)⟩
  refine rb C0 H0 B C1 H1 σ δ1 _ S1 (RP.imp (RP.bind h1) (fun y δ2 h2 w C2 H2 e2 S2 d2 => ?_) (PXe.mono e1))
  split at h2
  · rename_i hz
    refine hr x y _ hz v w C2 H2 _ S2.ch (dp_ex e2 _ _ d1) d2 (rs_of (C0 := C0) (H0 := H0) (B := B) (σ := σ) (δ := δ2) S2 fun u C3 H3 e3 S3 d3 => ?_)
    cases d3
    refine ⟨true, rfl, ?_⟩
    rw [if_pos rfl]
    refine rc C0 H0 B C3 H3 σ δ2 _ S3 (RP.imp (RP.bind h2) (fun z δ4 h4 w4 C4 H4 e4 S4 d4 => ?_) (PXe.mono ((e1.trans e2).trans e3)))
    obtain ⟨z', hz', q⟩ := RP.lift h4
    refine hr' y z z' hz' w w4 C4 H4 _ S4.ch (dp_ex (e3.trans e4) _ _ d2) d4 (rs_of (C0 := C0) (H0 := H0) (B := B) (σ := σ) (δ := δ4) S4 fun u C5 H5 e5 S5 d5 => ?_)
    split at q
    · rename_i k
      cases d5
      exact ⟨k, rfl, q C5 H5 ((((e1.trans e2).trans e3).trans e4).trans e5) S5⟩
    · exact q.elim
  · rename_i hz
    refine hr x y _ hz v w C2 H2 _ S2.ch (dp_ex e2 _ _ d1) d2 (rs_of (C0 := C0) (H0 := H0) (B := B) (σ := σ) (δ := δ2) S2 fun u C3 H3 e3 S3 d3 => ?_)
    cases d3
    refine ⟨false, rfl, ?_⟩
    rw [if_neg Bool.false_ne_true]
    exact ⟨false, rfl, h2 C3 H3 ((e1.trans e2).trans e3) S3⟩
  · exact h2.elim

/-! ### xs[i], xs[a:b] -/
def dIx : D → D → Option D
  | .list xs, .int i => atI xs i
  | .tuple xs, .int i => atI xs i
  | .str s, .int i => if s.length ≤ LINE then (atI s.cps.toList i).map fun c => .str ⟨#[c]⟩ else none
  | _, _ => none
theorem dpa_atI {K : PySem.W.Frag} {C : Hp} {vs : List V} {ds : List D} {i : Int} {d : D} (h : DqAll K C vs ds) (e : atI ds i = some d) : ∃ v, atI vs i = some v ∧ Dq K C v d := by
  unfold atI at e ⊢
  rw [dpa_len h]
  cases q : ixN ds.length i with
  | none => rw [q] at e; cases e
  | some j =>
    rw [q] at e
    exact dpa_get h e
theorem ro_ix {K : PySem.W.Frag} : RO K (rIx K) dIx := by
  intro x y z hz v w C H Q e hv hw q
  unfold dIx at hz
  split at hz
  · cases hw
    cases hv with
    | lst h1 h2 =>
      obtain ⟨u, hu, d⟩ := dpa_atI h2 hz
      exact .inl ⟨_, _, _, u, rfl, rfl, ex_l e h1, hu, q.1 _ d⟩
  · cases hw
    cases hv with
    | tup h1 h2 =>
      obtain ⟨u, hu, d⟩ := dpa_atI h2 hz
      exact .inr (.inl ⟨_, _, _, u, rfl, rfl, ex_t e h1, hu, q.1 _ d⟩)
  · split at hz
    · rename_i s i hs
      cases hw
      cases hv
      cases k : atI s.cps.toList i with
      | none => rw [k] at hz; cases hz
      | some c =>
        rw [k] at hz
        cases hz
        exact .inr (.inr ⟨_, _, c, rfl, rfl, by rw [line_eq]; exact hs, k, q.1 _ (.str _)⟩)
    · cases hz
  · cases hz
theorem de_ix (ha : DE X EC W a ma) (hb : DE X EC W b mb) (hs : PlainIx b := by exact fun _ _ => rfl) : DE X EC W (.Subscript a b pos) (mOp dIx ma mb) := by
  obtain ⟨ta, pa, ra⟩ := ha.ex
  obtain ⟨tb, pb, rb⟩ := hb.ex
  refine ⟨_, pe_ix ix_seq pa pb hs, fun C0 H0 B C H σ δ Q S h => ra C0 H0 B C H σ δ _ S (RP.imp (RP.bind h) (fun x δ1 h1 v C1 H1 e1 S1 d1 => ?_) fun c d δ h => h)⟩
  refine rb C0 H0 B C1 H1 σ δ1 _ S1 (RP.imp (RP.bind h1) (fun y δ2 h2 w C2 H2 e2 S2 d2 => ?_) (PXe.mono e1))
  obtain ⟨z, hz, q⟩ := RP.lift h2
  exact ro_ix x y z hz v w C2 H2 Q S2.ch (dp_ex e2 _ _ d1) d2 (rs_of S2 (PKe.mono (e1.trans e2) _ _ q))
structure DO (X : Cx) (EC : ECl) (W : WX) (e : Option Expr) (m : M (Option Int)) : Prop where
  ex : ∃ te, PO X e te ∧ ∀ C0 H0 B C H σ δ Q, SR X.K C0 H0 B C H σ δ → RP (m δ) (fun o δ => ∀ C2 H2, Ex C C2 → SR X.K C0 H0 B C2 H2 σ δ → Q o H2) (PXe X.K EC W C0 H0 B C σ) → te σ H Q
def mNoPart : M (Option Int) := fun δ => .ok none δ
def mPart (a : M D) : M (Option Int) := fun δ => (a δ).bind fun x δ => match x with
  | .int i => .ok (some i) δ
  | _ => .no
theorem do_none : DO X EC W none mNoPart := ⟨_, po_none, fun C0 H0 B C H σ δ Q S h => h C H (Ex.refl C) S⟩
theorem do_some (h : DE X EC W e ma) : DO X EC W (some e) (mPart ma) := by
  obtain ⟨te, pe, re⟩ := h.ex
  refine ⟨_, po_some pe, fun C0 H0 B C H σ δ Q S h => re C0 H0 B C H σ δ _ S (RP.imp (RP.bind h) (fun x δ1 h1 v C1 H1 e1 S1 d1 => ?_) fun c d δ h => h)⟩
  split at h1
  · rename_i i
    cases d1
    exact ⟨i, rfl, h1 C1 H1 e1 S1⟩
  · exact h1.elim
def cutL {α : Type} (xs : List α) (lo hi : Option Int) : List α := (xs.drop (HT.sIx xs.length 0 lo)).take (HT.sIx xs.length xs.length hi - HT.sIx xs.length 0 lo)
def dSl (x : D) (lo hi : Option Int) : Option D := match x with
  | .list xs => some (.list (cutL xs lo hi))
  | .tuple xs => some (.tuple (cutL xs lo hi))
  | .str s => if s.length ≤ LINE then some (.str (cutS s lo hi)) else none
  | _ => none
def mSl (a : M D) (lo hi : M (Option Int)) : M D := fun δ => (a δ).bind fun x δ => (lo δ).bind fun l δ => (hi δ).bind fun u δ => R.lift (dSl x l u) δ
def rSlA3 (K : PySem.W.Frag) : V → Option Int → Option Int → Hp → VK → Prop := fun x lo hi H Q => rSlL K x lo hi H Q ∨ (rSlA K x lo hi H Q ∨ rSlS x lo hi H Q)
theorem sl_A {X : Cx} : SlR X (rSlA3 X.K) := sl_list.or (sl_tupA.or sl_str)
theorem dpa_cut {K : PySem.W.Frag} {C : Hp} {vs : List V} {ds : List D} (lo hi : Option Int) (h : DqAll K C vs ds) : DqAll K C (cutV vs lo hi) (cutL ds lo hi) := by
  unfold cutV cutL
  rw [dpa_len h]
  exact dpa_take _ (dpa_drop _ h)
theorem rs_sl {K : PySem.W.Frag} {x z : D} {lo hi : Option Int} (hz : dSl x lo hi = some z) {v : V} {C H : Hp} {Q : VK} (e : Ex C H) (hv : Dq K C v x) (q : Rs K C H z Q) : rSlA3 K v lo hi H Q := by
  unfold dSl at hz
  split at hz
  · cases hz
    cases hv with
    | lst h1 h2 =>
      exact .inl ⟨_, _, rfl, ex_l e h1, fun p hp => q.2 p _ hp (.lst (SqL.of upd_same) (dpAll_ex (Ex.new (free_of e hp)) _ _ (dpa_cut lo hi h2)))⟩
  · cases hz
    cases hv with
    | tup h1 h2 =>
      refine .inr (.inl ⟨_, _, rfl, ex_t e h1, fun hw => ?_, fun _ p hp => q.2 p _ hp (.tup (SqT.of upd_same) (dpAll_ex (Ex.new (free_of e hp)) _ _ (dpa_cut lo hi h2)))⟩)
      have l := dpa_len h2
      rename_i xs a ys
      have e1 : cutL xs lo hi = xs := by
        unfold cutL
        rw [← l, hw.1, hw.2, List.drop_zero, Nat.sub_zero, l, List.take_length]
      rw [e1] at q
      exact q.1 _ (.tup h1 h2)
  · split at hz
    · rename_i hs
      cases hz
      cases hv
      exact .inr (.inr ⟨_, rfl, by rw [line_eq]; exact hs, q.1 _ (.str _)⟩)
    · cases hz
  · cases hz
theorem de_sl {lo hi : Option Expr} {ml mh : M (Option Int)} (ha : DE X EC W a ma) (hl : DO X EC W lo ml) (hh : DO X EC W hi mh) : DE X EC W (.Subscript a (.Slice lo hi none p2) pos) (mSl ma ml mh) := by
  obtain ⟨ta, pa, ra⟩ := ha.ex
  obtain ⟨tb, pb, rb⟩ := hl.ex
  obtain ⟨tc, pc, rc⟩ := hh.ex
  refine ⟨_, pe_slice sl_A pa pb pc, fun C0 H0 B C H σ δ Q S h => ra C0 H0 B C H σ δ _ S (RP.imp (RP.bind h) (fun x δ1 h1 v C1 H1 e1 S1 d1 => ?_) fun c d δ h => h)⟩
  refine rb C0 H0 B C1 H1 σ δ1 _ S1 (RP.imp (RP.bind h1) (fun l δ2 h2 C2 H2 e2 S2 => ?_) (PXe.mono e1))
  refine rc C0 H0 B C2 H2 σ δ2 _ S2 (RP.imp (RP.bind h2) (fun u δ3 h3 C3 H3 e3 S3 => ?_) (PXe.mono (e1.trans e2)))
  obtain ⟨z, hz, q⟩ := RP.lift h3
  exact rs_sl hz S3.ch (dp_ex (e2.trans e3) _ _ d1) (rs_of S3 (PKe.mono ((e1.trans e2).trans e3) _ _ q))

/-! ### constants of the module -/
theorem de_glob {x : Str} {v : V} {u : Value} {d : D} (hg : Gl X x) (hm : X.mg x = some u) (r : RelV v u) (hd : ∀ C, Dq X.K C v d) (hdb : (x == ("__debug__" : Str)) = false := by decide) : DE X EC W (.Name x pos) (mC d) := de_con (pe_glob hg hm r hdb) hd
/-- a tuple of the module -/
def KTup (K : PySem.W.Frag) (a : Addr) (ds : List D) : Prop := ∃ (o : Obj) (its : Array Value) (n : Nat) (xs : List V), K.lookup a = some o ∧ o.cls = .type "tuple" ∧ o.data = .seq its n ∧ its.size ≤ sizeLine ∧ Vals xs its.toList ∧ ∀ C, DqAll K C xs ds
theorem KTup.dq {K : PySem.W.Frag} {a : Addr} {ds : List D} (h : KTup K a ds) (C : Hp) : Dq K C (.ref a) (.tuple ds) := by
  obtain ⟨o, its, n, xs, h1, h2, h3, h4, h5, h6⟩ := h
  exact .tup (.inr ⟨o, its, n, h1, h2, h3, h4, h5⟩) (h6 C)

/-! ### isinstance -/
def tyD (x : D) : String := match x with | .none => "NoneType" | .bool _ => "bool" | .int _ => "int" | .str _ => "str" | .list _ => "list" | .tuple _ => "tuple" | .dict _ => "dict"
theorem ty_of {K : PySem.W.Frag} {C H : Hp} {v : V} {x : D} (e : Ex C H) (h : Dq K C v x) : TyX K H v (.type (tyD x)) := by
  cases h with
  | non => exact .base .non
  | bl b => exact .base (.bl b)
  | int i => exact .base (.int i)
  | str s => exact .base (.str s)
  | lst h1 h2 =>
    rcases ex_l e h1 with (h | ⟨o, h⟩) | ⟨o, its, n, h1, h2, _⟩
    · exact .base (.lst h)
    · exact .base (.frz h)
    · exact .kList h1 h2
  | tup h1 h2 =>
    rcases ex_t e h1 with (h | ⟨o, h⟩) | ⟨o, its, n, h1, h2, _⟩
    · exact .base (.tup h)
    · exact .fTuple h
    · exact .kTuple h1 h2
/-- a value of the built-in types is one of T: bool is int -/
def isT (T t : String) : Bool := t == T || (T == "int" && t == "bool")
def isD (T : String) (x : D) : Bool := isT T (tyD x)
/-- T one of the types that are asked for -/
def TyKnown (T : String) : Prop := T = "int" ∨ T = "bool" ∨ T = "str" ∨ T = "list" ∨ T = "tuple"
theorem kitT_of {T t : String} (h : TyKnown T) (ht : t = "NoneType" ∨ TyKnown t) : kitB t T = some (isT T t) := by
  rcases h with rfl | rfl | rfl | rfl | rfl <;> rcases ht with rfl | rfl | rfl | rfl | rfl | rfl <;> decide +kernel
theorem kitB_of {T : String} (h : TyKnown T) (x : D) (hd : ∀ k, x ≠ .dict k) : kitB (tyD x) T = some (isD T x) := by
  refine kitT_of h ?_
  cases x with
  | none => exact .inl rfl
  | bool b => exact .inr (.inr (.inl rfl))
  | int i => exact .inr (.inl rfl)
  | str s => exact .inr (.inr (.inr (.inl rfl)))
  | list xs => exact .inr (.inr (.inr (.inr (.inl rfl))))
  | tuple xs => exact .inr (.inr (.inr (.inr (.inr rfl))))
  | dict k => exact absurd rfl (hd k)
theorem dq_ndict {K : PySem.W.Frag} {C : Hp} {v : V} {x : D} (h : Dq K C v x) : ∀ k, x ≠ .dict k := fun k z => by subst z; cases h
def mIs (T : String) (a : M D) : M D := fun δ => (a δ).bind fun x δ => .ok (.bool (isD T x)) δ
theorem de_isi {T : String} {x : Str} (hT : TyKnown T) (ha : DE X EC W a ma) (hg : Gl X "isinstance") (hm : X.mg "isinstance" = none) (hgT : Gl X x) (hmT : X.mg x = none) (hbT : bootBuiltins x = some (.type T)) (hnx : x ≠ "__name__" := by decide) (hdx : (x == ("__debug__" : Str)) = false := by decide)
    {pT : Pos} (he : starEach (a :: [.Name x pT]) X.env = (false, eval a X.env) :: starEach [.Name x pT] X.env := by rfl)
    (he2 : starEach (.Name x pT :: []) X.env = (false, eval (.Name x pT) X.env) :: starEach [] X.env := by rfl) (hpl : (backTo pos (starEach [Expr.Name x pT] X.env)).any (·.1) = false := by rfl) :
    DE X EC W (.Call (.Name "isinstance" p) [a, .Name x pT] [] pos) (mIs T ma) := by
  obtain ⟨ta, pa, ra⟩ := ha.ex
  refine ⟨_, pe_callB call_isi hg hm (by decide +kernel) (pa_cons pa (pa_cons (pe_bltn (v := .ty T) hgT hmT hbT rfl hnx hdx) pa_nil he2) he) (by decide) (by decide) he hpl, fun C0 H0 B C H σ δ Q S h => ra C0 H0 B C H σ δ _ S (RP.imp (RP.bind h) (fun x δ1 h1 v C1 H1 e1 S1 d1 => ?_) fun c d δ h => h)⟩
  have k := kitB_of hT x (dq_ndict d1)
  exact ⟨v, .ty T, .type (tyD x), .type T, isD T x, rfl, .ty T, ty_of S1.ch d1, kit_ty k, h1 _ C1 H1 e1 S1 (.bl _)⟩
def mIs2 (T U : String) (a : M D) : M D := fun δ => (a δ).bind fun x δ => .ok (.bool (isD T x || isD U x)) δ
theorem de_isi2 {T U : String} {x y : Str} (hT : TyKnown T) (hU : TyKnown U) (ha : DE X EC W a ma) (hg : Gl X "isinstance") (hm : X.mg "isinstance" = none) (hgT : Gl X x) (hmT : X.mg x = none) (hbT : bootBuiltins x = some (.type T)) (hgU : Gl X y) (hmU : X.mg y = none) (hbU : bootBuiltins y = some (.type U))
    (hnx : x ≠ "__name__" := by decide) (hdx : (x == ("__debug__" : Str)) = false := by decide) (hny : y ≠ "__name__" := by decide) (hdy : (y == ("__debug__" : Str)) = false := by decide)
    {pT pU pt : Pos} {k1} (he : starEach (a :: [.Tuple [.Name x pT, .Name y pU] k1 pt]) X.env = (false, eval a X.env) :: starEach [.Tuple [.Name x pT, .Name y pU] k1 pt] X.env := by rfl)
    (he2 : starEach (.Tuple [.Name x pT, .Name y pU] k1 pt :: []) X.env = (false, eval (.Tuple [.Name x pT, .Name y pU] k1 pt) X.env) :: starEach [] X.env := by rfl)
    (he3 : starEach (.Name x pT :: [.Name y pU]) X.env = (false, eval (.Name x pT) X.env) :: starEach [.Name y pU] X.env := by rfl)
    (he4 : starEach (.Name y pU :: []) X.env = (false, eval (.Name y pU) X.env) :: starEach [] X.env := by rfl)
    (hpl : (backTo pos (starEach [Expr.Tuple [.Name x pT, .Name y pU] k1 pt] X.env)).any (·.1) = false := by rfl) :
    DE X EC W (.Call (.Name "isinstance" p) [a, .Tuple [.Name x pT, .Name y pU] k1 pt] [] pos) (mIs2 T U ma) := by
  obtain ⟨ta, pa, ra⟩ := ha.ex
  refine ⟨_, pe_callB call_isiT hg hm (by decide +kernel) (pa_cons pa (pa_cons (pe_tup (pa_cons (pe_bltn (v := .ty T) hgT hmT hbT rfl hnx hdx) (pa_cons (pe_bltn (v := .ty U) hgU hmU hbU rfl hny hdy) pa_nil he4) he3)) pa_nil he2) he) (by decide) (by decide) he hpl, fun C0 H0 B C H σ δ Q S h => ra C0 H0 B C H σ δ _ S (RP.imp (RP.bind h) (fun x δ1 h1 v C1 H1 e1 S1 d1 => ?_) fun c d δ h => h)⟩
  have k := kitB_of hT x (dq_ndict d1)
  have k' := kitB_of hU x (dq_ndict d1)
  refine ⟨by show 2 ≤ sizeLine; decide, fun tp htp => ?_⟩
  have S2 := S1.new (o := .tup [.ty T, .ty U]) htp
  refine ⟨v, tp, [.ty T, .ty U], .type (tyD x), [.type T, .type U], isD T x || isD U x, rfl, upd_same, .cons (.ty T) (.cons (.ty U) .nil), ty_of (S1.ch.trans (Ex.new htp)) d1, ?_, h1 _ _ _ (e1.trans (Ex.new (free_of S1.ch htp))) S2 (.bl _)⟩
  refine kitAny_cons (kit_ty k) (fun hb => ?_) (fun hb => by rw [hb]; rfl)
  rw [hb, Bool.false_or]
  exact kitAny_cons (kit_ty k') (fun hb' => by rw [hb']; exact kitAny_nil) fun hb' => hb'
end

/-! ### built-ins -/
section
variable {K : PySem.W.Frag}
def rLenA (K : PySem.W.Frag) : List V → Hp → VK → Prop := fun xs H Q => ∃ x n, xs = [x] ∧ LenV K x H n ∧ Q (.int n) H
def dLen : List D → Option D
  | [.str s] => if s.length ≤ LINE then some (.int s.length) else none
  | [.list xs] => some (.int xs.length)
  | [.tuple xs] => some (.int xs.length)
  | _ => none
theorem rc_len : RCf K (rLenA K) dLen := by
  intro xs z hz vs C H Q e hv q
  unfold dLen at hz
  split at hz
  · split at hz
    · rename_i hs
      cases hz
      cases hv with
      | cons h t =>
        cases t
        cases h
        exact ⟨_, _, rfl, ⟨by rw [line_eq]; exact hs, rfl⟩, q.1 _ (.int _)⟩
    · cases hz
  · cases hz
    cases hv with
    | cons h t =>
      cases t
      cases h with
      | lst h1 h2 =>
        refine ⟨_, _, rfl, .inl ⟨_, ex_l e h1, rfl⟩, ?_⟩
        rw [dpa_len h2]
        exact q.1 _ (.int _)
  · cases hz
    cases hv with
    | cons h t =>
      cases t
      cases h with
      | tup h1 h2 =>
        refine ⟨_, _, rfl, .inr ⟨_, ex_t e h1, rfl⟩, ?_⟩
        rw [dpa_len h2]
        exact q.1 _ (.int _)
  · cases hz
def rAbsA : List V → Hp → VK → Prop := fun xs H Q => ∃ i, xs = [.int i] ∧ Q (.int (if i < 0 then -i else i)) H
def dAbs : List D → Option D
  | [.int i] => some (.int (if i < 0 then -i else i))
  | _ => none
theorem rc_abs : RCf K rAbsA dAbs := by
  intro xs z hz vs C H Q e hv q
  unfold dAbs at hz
  split at hz
  · cases hz
    cases hv with
    | cons h t =>
      cases t
      cases h
      exact ⟨_, rfl, q.1 _ (.int _)⟩
  · cases hz
def rIntA : List V → Hp → VK → Prop := fun xs H Q => ((∃ i, xs = [.int i] ∧ Q (.int i) H) ∨ ∃ k, xs = [.bl k] ∧ Q (.int (if k then 1 else 0)) H) ∨ ∃ a n, xs = [.str a] ∧ PySem.intText? a = some n ∧ a.length ≤ 640 ∧ Q (.int n) H
theorem call_intA {X : Cx} : CallR X (.type "int") rIntA := call_int1.or call_int_str
def dInt : List D → Option D
  | [.int i] => some (.int i)
  | [.bool k] => some (.int (if k then 1 else 0))
  | [.str a] => if a.length ≤ 640 then (PySem.intText? a).map .int else none
  | _ => none
theorem rc_int : RCf K rIntA dInt := by
  intro xs z hz vs C H Q e hv q
  unfold dInt at hz
  split at hz
  · cases hz
    cases hv with
    | cons h t =>
      cases t
      cases h
      exact .inl (.inl ⟨_, rfl, q.1 _ (.int _)⟩)
  · cases hz
    cases hv with
    | cons h t =>
      cases t
      cases h
      exact .inl (.inr ⟨_, rfl, q.1 _ (.int _)⟩)
  · split at hz
    · rename_i a hl
      cases hv with
      | cons h t =>
        cases t
        cases h
        cases k : PySem.intText? a with
        | none => rw [k] at hz; cases hz
        | some n =>
          rw [k] at hz
          cases hz
          exact .inr ⟨_, n, rfl, k, hl, q.1 _ (.int _)⟩
    · cases hz
  · cases hz
def rStrA : List V → Hp → VK → Prop := fun xs H Q => ∃ i, xs = [.int i] ∧ i.natAbs.log2 < 1920 ∧ Q (.str (toString i)) H
def dStr : List D → Option D
  | [.int i] => if i.natAbs.log2 < 1920 then some (.str (toString i)) else none
  | _ => none
theorem rc_str : RCf K rStrA dStr := by
  intro xs z hz vs C H Q e hv q
  unfold dStr at hz
  split at hz
  · split at hz
    · rename_i hl
      cases hz
      cases hv with
      | cons h t =>
        cases t
        cases h
        exact ⟨_, rfl, hl, q.1 _ (.str _)⟩
    · cases hz
  · cases hz
def rM2 (g : Int → Int → Int) : List V → Hp → VK → Prop := fun xs H Q => ∃ i j, xs = [.int i, .int j] ∧ Q (.int (g i j)) H
def dM2 (g : Int → Int → Int) : List D → Option D
  | [.int i, .int j] => some (.int (g i j))
  | _ => none
theorem rc_m2 {g : Int → Int → Int} : RCf K (rM2 g) (dM2 g) := by
  intro xs z hz vs C H Q e hv q
  unfold dM2 at hz
  split at hz
  · cases hz
    cases hv with
    | cons h t =>
      cases h
      cases t with
      | cons h t =>
        cases t
        cases h
        exact ⟨_, _, rfl, q.1 _ (.int _)⟩
  · cases hz
theorem call_maxA {X : Cx} (hc : X.calm = true) : CallR X (.builtin "max") (rM2 fun i j => if j > i then j else i) := call_max2 hc
theorem call_minA {X : Cx} (hc : X.calm = true) : CallR X (.builtin "min") (rM2 fun i j => if j < i then j else i) := call_min2 hc
def dMax := dM2 fun i j => if j > i then j else i
def dMin := dM2 fun i j => if j < i then j else i
def dAll : List D → Option D
  | [.list xs] => (dBls xs).map fun bs => .bool (bs.all id)
  | _ => none
def dAny : List D → Option D
  | [.list xs] => (dBls xs).map fun bs => .bool (bs.any id)
  | _ => none
theorem rc_all : RCf K (rAll K) dAll := by
  intro xs z hz vs C H Q e hv q
  unfold dAll at hz
  split at hz
  · rename_i ys
    cases k : dBls ys with
    | none => rw [k] at hz; cases hz
    | some bs =>
      rw [k] at hz
      cases hz
      have e1 := dBls_eq k
      subst e1
      cases hv with
      | cons h t =>
        cases t
        cases h with
        | lst h1 h2 =>
          have e2 := dpa_bls h2
          subst e2
          exact ⟨_, bs, rfl, ex_l e h1, q.1 _ (.bl _)⟩
  · cases hz
theorem rc_any : RCf K (rAny K) dAny := by
  intro xs z hz vs C H Q e hv q
  unfold dAny at hz
  split at hz
  · rename_i ys
    cases k : dBls ys with
    | none => rw [k] at hz; cases hz
    | some bs =>
      rw [k] at hz
      cases hz
      have e1 := dBls_eq k
      subst e1
      cases hv with
      | cons h t =>
        cases t
        cases h with
        | lst h1 h2 =>
          have e2 := dpa_bls h2
          subst e2
          exact ⟨_, bs, rfl, ex_l e h1, q.1 _ (.bl _)⟩
  · cases hz
def dSum : List D → Option D
  | [.list xs] => (dInts xs).map fun ns => .int ns.sum
  | _ => none
theorem rc_sum : RCf K (rSum K) dSum := by
  intro xs z hz vs C H Q e hv q
  unfold dSum at hz
  split at hz
  · rename_i ys
    cases k : dInts ys with
    | none => rw [k] at hz; cases hz
    | some bs =>
      rw [k] at hz
      cases hz
      have e1 := dInts_eq k
      subst e1
      cases hv with
      | cons h t =>
        cases t
        cases h with
        | lst h1 h2 =>
          have e2 := dpa_ints h2
          subst e2
          exact ⟨_, bs, rfl, ex_l e h1, q.1 _ (.int _)⟩
  · cases hz
def rTupA (K : PySem.W.Frag) : List V → Hp → VK → Prop := fun xs H Q => ∃ p ys, xs = [.ref p] ∧ ((SqL K H p ys ∧ ∀ l, H l = none → Q (.ref l) (upd H l (.tup ys))) ∨ (SqT K H p ys ∧ Q (.ref p) H))
def dTuple : List D → Option D
  | [.list xs] => some (.tuple xs)
  | [.tuple xs] => some (.tuple xs)
  | _ => none
theorem rc_tuple : RCf K (rTupA K) dTuple := by
  intro xs z hz vs C H Q e hv q
  unfold dTuple at hz
  split at hz
  · cases hz
    cases hv with
    | cons h t =>
      cases t
      cases h with
      | lst h1 h2 => exact ⟨_, _, rfl, .inl ⟨ex_l e h1, fun p hp => q.2 p _ hp (.tup (SqT.of upd_same) (dpAll_ex (Ex.new (free_of e hp)) _ _ h2))⟩⟩
  · cases hz
    cases hv with
    | cons h t =>
      cases t
      cases h with
      | tup h1 h2 => exact ⟨_, _, rfl, .inr ⟨ex_t e h1, q.1 _ (.tup h1 h2)⟩⟩
  · cases hz
def rListA (K : PySem.W.Frag) : List V → Hp → VK → Prop := fun xs H Q => ∃ p ys, xs = [.ref p] ∧ (SqL K H p ys ∨ SqT K H p ys) ∧ ∀ l, H l = none → Q (.ref l) (upd H l (.lst ys))
def dList : List D → Option D
  | [.list xs] => some (.list xs)
  | [.tuple xs] => some (.list xs)
  | _ => none
theorem rc_list : RCf K (rListA K) dList := by
  intro xs z hz vs C H Q e hv q
  unfold dList at hz
  split at hz
  · cases hz
    cases hv with
    | cons h t =>
      cases t
      cases h with
      | lst h1 h2 => exact ⟨_, _, rfl, .inl (ex_l e h1), fun p hp => q.2 p _ hp (.lst (SqL.of upd_same) (dpAll_ex (Ex.new (free_of e hp)) _ _ h2))⟩
  · cases hz
    cases hv with
    | cons h t =>
      cases t
      cases h with
      | tup h1 h2 => exact ⟨_, _, rfl, .inr (ex_t e h1), fun p hp => q.2 p _ hp (.lst (SqL.of upd_same) (dpAll_ex (Ex.new (free_of e hp)) _ _ h2))⟩
  · cases hz

/-! ### methods of texts -/
def rJoinA (K : PySem.W.Frag) : V → List V → Hp → VK → Prop := fun x xs H Q => ∃ a p, ∃ ys : List Str, x = .str a ∧ xs = [.ref p] ∧ (SqL K H p (ys.map V.str) ∨ SqT K H p (ys.map V.str)) ∧ (ys.map (·.length)).sum + ys.length * a.length ≤ 16777216 ∧ Q (.str (Txt.join a ys)) H
def joinOk (a : Str) (ys : List Str) : Option D := if (ys.map (·.length)).sum + ys.length * a.length ≤ 16777216 then some (.str (Txt.join a ys)) else none
def dJoin : D → List D → Option D
  | .str a, [.list xs] => (dStrs xs).bind (joinOk a)
  | .str a, [.tuple xs] => (dStrs xs).bind (joinOk a)
  | _, _ => none
theorem rm_join : RMt K (rJoinA K) dJoin := by
  intro x xs z hz v vs C H Q e hv hvs q
  unfold dJoin at hz
  split at hz
  · rename_i a ys
    cases k : dStrs ys with
    | none => rw [k] at hz; cases hz
    | some bs =>
      rw [k] at hz
      have hz : joinOk a bs = some z := hz
      unfold joinOk at hz
      split at hz
      · rename_i hl
        cases hz
        have e1 := dStrs_eq k
        subst e1
        cases hv
        cases hvs with
        | cons h t =>
          cases t
          cases h with
          | lst h1 h2 =>
            have e2 := dpa_strs h2
            subst e2
            exact ⟨a, _, bs, rfl, rfl, .inl (ex_l e h1), hl, q.1 _ (.str _)⟩
      · cases hz
  · rename_i a ys
    cases k : dStrs ys with
    | none => rw [k] at hz; cases hz
    | some bs =>
      rw [k] at hz
      have hz : joinOk a bs = some z := hz
      unfold joinOk at hz
      split at hz
      · rename_i hl
        cases hz
        have e1 := dStrs_eq k
        subst e1
        cases hv
        cases hvs with
        | cons h t =>
          cases t
          cases h with
          | tup h1 h2 =>
            have e2 := dpa_strs h2
            subst e2
            exact ⟨a, _, bs, rfl, rfl, .inr (ex_t e h1), hl, q.1 _ (.str _)⟩
      · cases hz
  · cases hz
def rSplitA : V → List V → Hp → VK → Prop := fun x xs H Q => ∃ a b, x = .str a ∧ xs = [.str b] ∧ (b.length == 0) = false ∧ a.length + 2 ≤ sizeLine ∧ rNewStrs (Txt.split a b) H Q
def dSplit : D → List D → Option D
  | .str a, [.str b] => if (b.length == 0) = false ∧ a.length + 2 ≤ LINE then some (.list ((Txt.split a b).map .str)) else none
  | _, _ => none
theorem rm_split : RMt K rSplitA dSplit := by
  intro x xs z hz v vs C H Q e hv hvs q
  unfold dSplit at hz
  split at hz
  · split at hz
    · rename_i hl
      cases hz
      cases hv
      cases hvs with
      | cons h t =>
        cases t
        cases h
        exact ⟨_, _, rfl, rfl, hl.1, by rw [line_eq]; exact hl.2, fun p hp => q.2 p _ hp (.lst (SqL.of upd_same) strs_dpa)⟩
    · cases hz
  · cases hz
def rWordsA : V → List V → Hp → VK → Prop := fun x xs H Q => ∃ a, x = .str a ∧ xs = [] ∧ a.length + 2 ≤ sizeLine ∧ rNewStrs (Txt.words a) H Q
def dWords : D → List D → Option D
  | .str a, [] => if a.length + 2 ≤ LINE then some (.list ((Txt.words a).map .str)) else none
  | _, _ => none
theorem rm_words : RMt K rWordsA dWords := by
  intro x xs z hz v vs C H Q e hv hvs q
  unfold dWords at hz
  split at hz
  · split at hz
    · rename_i hl
      cases hz
      cases hv
      cases hvs
      exact ⟨_, rfl, rfl, by rw [line_eq]; exact hl, fun p hp => q.2 p _ hp (.lst (SqL.of upd_same) strs_dpa)⟩
    · cases hz
  · cases hz
/-- s.index(t), t there -/
def rIndexS : V → List V → Hp → VK → Prop := fun x xs H Q => ∃ (a b : Str) (k : Nat), x = .str a ∧ xs = [.str b] ∧ Txt.index0 a b = some k ∧ Q (.int (k : Nat)) H
theorem mt_indexS {X : Cx} : MtR X "str.index" rIndexS := by
  intro pins s σ H x xs v us Q I rx rs h
  obtain ⟨a, b, k, rfl, rfl, hk, w⟩ := h
  obtain ⟨t, rfl⟩ := rx
  cases rs with
  | cons r1 rs =>
    cases rs
    obtain ⟨u, rfl⟩ := r1
    cases q : Builtin.Str.occurrences a b 0 a.length 1 with
    | nil =>
      unfold Txt.index0 at hk
      rw [q] at hk
      cases hk
    | cons k' rest =>
      unfold Txt.index0 at hk
      rw [q] at hk
      cases hk
      exact PySem.SC.index q ⟨.int (k : Nat), H, I.tok _, ⟨_, rfl⟩, w⟩
def dIndexS : D → List D → Option D
  | .str a, [.str b] => (Txt.index0 a b).map fun k => .int (k : Nat)
  | _, _ => none
theorem rm_indexS : RMt K rIndexS dIndexS := by
  intro x xs z hz v vs C H Q e hv hvs q
  unfold dIndexS at hz
  split at hz
  · rename_i a b
    cases k : Txt.index0 a b with
    | none => rw [k] at hz; cases hz
    | some n =>
      rw [k] at hz
      cases hz
      cases hv
      cases hvs with
      | cons h t =>
        cases t
        cases h
        exact ⟨_, _, n, rfl, rfl, k, q.1 _ (.int _)⟩
  · cases hz
def rStartsA : V → List V → Hp → VK → Prop := fun x xs H Q => ∃ a b, x = .str a ∧ xs = [.str b] ∧ Q (.bl (Txt.startswith a b)) H
def dStarts : D → List D → Option D
  | .str a, [.str b] => some (.bool (Txt.startswith a b))
  | _, _ => none
theorem rm_starts : RMt K rStartsA dStarts := by
  intro x xs z hz v vs C H Q e hv hvs q
  unfold dStarts at hz
  split at hz
  · cases hz
    cases hv
    cases hvs with
    | cons h t =>
      cases t
      cases h
      exact ⟨_, _, rfl, rfl, q.1 _ (.bl _)⟩
  · cases hz
end
section
variable {X : Cx} {EC : ECl} {W : WX} {a b c e o : Expr} {es : List Expr} {ma mb mc mo : M D} {mes : M (List D)} {pos p p2 apos : Pos}
theorem mMt_str {f : D → List D → Option D} (hf : ∀ x xs z, f x xs = some z → ∃ s, x = .str s) (x : D) (δ : Dl) (xs : List D) {k : D → Dl → Prop} {xx : Nat → D → Dl → Prop} (h : RP (R.lift (f x xs) δ) k xx) : ∃ s, x = .str s := by
  obtain ⟨z, hz, _⟩ := RP.lift h
  exact hf x xs z hz
/-- a text's method of one argument; the text is looked at first -/
def mM1 (f : D → List D → Option D) (o a : M D) : M D := fun δ => (o δ).bind fun x δ => match x with
  | .str s => (a δ).bind fun y δ => R.lift (f (.str s) [y]) δ
  | _ => .no
def mM0 (f : D → List D → Option D) (o : M D) : M D := fun δ => (o δ).bind fun x δ => match x with
  | .str s => R.lift (f (.str s) []) δ
  | _ => .no
theorem de_m1 {id : String} {name : Str} {r : V → List V → Hp → VK → Prop} {f : D → List D → Option D} (slot : Slot "str" name id) (ty : typeOf (.builtin id) = pure (.type "method_descriptor")) (rule : MtR X id r) (hf : RMt X.K r f) (ho : DE X EC W o mo) (he : DE X EC W e ma)
    (hs : starEach [e] X.env = [(false, eval e X.env)] := by rfl) (hbase : attributeBase o name X.env (eval o X.env) = eval o X.env := by rfl) (hline : (apos.endLine == pos.line) = true := by rfl) :
    DE X EC W (.Call (.Attribute o name apos) [e] [] pos) (mM1 f mo ma) := by
  obtain ⟨ta, pa, ra⟩ := ho.ex
  obtain ⟨tb, pb, rb⟩ := he.ex
  refine ⟨_, pe_m1 slot ty rule pa pb hs hbase hline, fun C0 H0 B C H σ δ Q S h => ra C0 H0 B C H σ δ _ S (RP.imp (RP.bind h) (fun x δ1 h1 v C1 H1 e1 S1 d1 => ?_) fun c d δ h => h)⟩
  split at h1
  · rename_i s
    cases d1
    refine ⟨⟨s, rfl⟩, rb C0 H0 B C1 H1 σ δ1 _ S1 (RP.imp (RP.bind h1) (fun y δ2 h2 w C2 H2 e2 S2 d2 => ?_) (PXe.mono e1))⟩
    obtain ⟨z, hz, q⟩ := RP.lift h2
    exact hf _ _ z hz _ _ C2 H2 Q S2.ch (.str s) (dpa_one d2) (rs_of S2 (PKe.mono (e1.trans e2) _ _ q))
  · exact h1.elim
theorem de_m0 {id : String} {name : Str} {r : V → List V → Hp → VK → Prop} {f : D → List D → Option D} (slot : Slot "str" name id) (ty : typeOf (.builtin id) = pure (.type "method_descriptor")) (rule : MtR X id r) (hf : RMt X.K r f) (ho : DE X EC W o mo)
    (hbase : attributeBase o name X.env (eval o X.env) = eval o X.env := by rfl) (hline : (apos.endLine == pos.line) = true := by rfl) :
    DE X EC W (.Call (.Attribute o name apos) [] [] pos) (mM0 f mo) := by
  obtain ⟨ta, pa, ra⟩ := ho.ex
  refine ⟨_, pe_m0 slot ty rule pa hbase hline, fun C0 H0 B C H σ δ Q S h => ra C0 H0 B C H σ δ _ S (RP.imp (RP.bind h) (fun x δ1 h1 v C1 H1 e1 S1 d1 => ?_) fun c d δ h => h)⟩
  split at h1
  · rename_i s
    cases d1
    refine ⟨⟨s, rfl⟩, ?_⟩
    obtain ⟨z, hz, q⟩ := RP.lift h1
    exact hf _ _ z hz _ _ C1 H1 Q S1.ch (.str s) .nil (rs_of S1 (PKe.mono e1 _ _ q))
  · exact h1.elim
end
end DL
end Part_DLd

section Part_DLe
set_option Elab.async false
set_option linter.all false
set_option maxRecDepth 100000
set_option autoImplicit false
set_option maxHeartbeats 2000000
namespace DL
open PySem PySem.Spec PyProof.Rows L2 Evl

/-! ### slots that are set -/
def setV (j : Nat) (d : D) (δ : Dl) : Option Dl := match δ[j]? with
  | some (.var true _) => none
  | some _ => some (δ.set j (.val d))
  | none => none
section
variable {K : PySem.W.Frag} {C0 H0 C H C2 H2 : Hp} {B : List (Nat × Addr)} {σ : L2.St} {δ δ' : Dl}
theorem setV_some {j : Nat} {d : D} (h : setV j d δ = some δ') : j < δ.length ∧ (∀ ds, δ[j]? ≠ some (.var true ds)) ∧ δ' = δ.set j (.val d) := by
  unfold setV at h
  cases q : δ[j]? with
  | none => rw [q] at h; cases h
  | some c =>
    have hj : j < δ.length := (List.getElem?_eq_some_iff.mp q).1
    rw [q] at h
    cases c with
    | non => cases h; exact ⟨hj, fun ds z => by (cases z), rfl⟩
    | val d => cases h; exact ⟨hj, fun ds z => by (cases z), rfl⟩
    | var b ds =>
      cases b with
      | true => cases h
      | false => cases h; exact ⟨hj, fun ds z => by (cases z), rfl⟩
theorem SR.setC (S : SR K C0 H0 B C H σ δ) {j : Nat} {v : V} {c : Cell} (hj : j < δ.length) (hn : ∀ ds, δ[j]? ≠ some (.var true ds)) (hc : ∀ d, c = .val d → Dq K C v d) (hm : ∀ b ds, c = .var b ds → b = false ∧ ∃ l xs, v = .ref l ∧ H0 l = none ∧ C l = none ∧ H l = some (.lst xs) ∧ DqAll K C xs ds ∧ ∀ (i : Nat) (b : Bool) (es : List D), δ[i]? = some (.var b es) → σ[i]? ≠ some (some (.ref l))) :
    SR K C0 H0 B C H (σ.set j (some v)) (δ.set j c) := by
  have hjσ : j < σ.length := by rw [S.len]; exact hj
  have nb : ∀ p ∈ B, p.1 ≠ j := fun p hp z => by
    obtain ⟨ds, _, h1, _⟩ := S.bor p hp
    rw [z] at h1
    exact hn ds h1
  refine ⟨by rw [List.length_set, List.length_set]; exact S.len, S.c0, S.ch, S.fr, S.nw, fun i d h => ?_, fun i ds h => ?_, fun p hp => ?_, fun i ds h => ?_, S.bd1, S.bd2, S.bH0, fun i k ds es hik h1 h2 l hl hl2 => ?_⟩
  · by_cases q : j = i
    · subst q
      rw [List.getElem?_set_self hj] at h
      exact ⟨v, List.getElem?_set_self hjσ, hc d (Option.some.inj h)⟩
    · rw [List.getElem?_set_ne q] at h ⊢
      exact S.val i d h
  · by_cases q : j = i
    · subst q
      rw [List.getElem?_set_self hj] at h
      obtain ⟨_, l, xs, h1, h2, h3, h4, h5, _⟩ := hm false ds (Option.some.inj h)
      exact ⟨l, xs, by rw [List.getElem?_set_self hjσ, h1], h2, h3, h4, h5⟩
    · rw [List.getElem?_set_ne q] at h ⊢
      exact S.own i ds h
  · obtain ⟨ds, xs, h1, h2, h3⟩ := S.bor p hp
    refine ⟨ds, xs, ?_, ?_, h3⟩
    · rw [List.getElem?_set_ne (nb p hp).symm]; exact h1
    · rw [List.getElem?_set_ne (nb p hp).symm]; exact h2
  · by_cases q : j = i
    · subst q
      rw [List.getElem?_set_self hj] at h
      have z := (hm true ds (Option.some.inj h)).1
      cases z
    · rw [List.getElem?_set_ne q] at h
      exact S.btr i ds h
  · by_cases q : j = i
    · subst q
      rw [List.getElem?_set_self hj] at h1
      rw [List.getElem?_set_self hjσ] at hl
      rw [List.getElem?_set_ne hik] at h2 hl2
      obtain ⟨_, l', xs, e1, _, _, _, _, e2⟩ := hm false ds (Option.some.inj h1)
      subst e1
      cases hl
      exact e2 k false es h2 hl2
    · by_cases q' : j = k
      · subst q'
        rw [List.getElem?_set_self hj] at h2
        rw [List.getElem?_set_self hjσ] at hl2
        rw [List.getElem?_set_ne q] at h1 hl
        obtain ⟨_, l', xs, e1, _, _, _, _, e2⟩ := hm false es (Option.some.inj h2)
        subst e1
        cases hl2
        exact e2 i false ds h1 hl
      · rw [List.getElem?_set_ne q] at h1 hl
        rw [List.getElem?_set_ne q'] at h2 hl2
        exact S.odis i k ds es hik h1 h2 l hl hl2
theorem SR.set (S : SR K C0 H0 B C H σ δ) {j : Nat} {v : V} {d : D} (h : setV j d δ = some δ') (hd : Dq K C v d) : SR K C0 H0 B C H (σ.set j (some v)) δ' := by
  obtain ⟨h1, h2, rfl⟩ := setV_some h
  exact S.setC h1 h2 (fun d' z => by cases z; exact hd) fun b ds z => by cases z
/-- a new list is given to a name that may change it -/
def setM (j : Nat) (ds : List D) (δ : Dl) : Option Dl := match δ[j]? with
  | some (.var true _) => none
  | some _ => some (δ.set j (.var false ds))
  | none => none
theorem setM_some {j : Nat} {d : List D} (h : setM j d δ = some δ') : j < δ.length ∧ (∀ ds, δ[j]? ≠ some (.var true ds)) ∧ δ' = δ.set j (.var false d) := by
  unfold setM at h
  cases q : δ[j]? with
  | none => rw [q] at h; cases h
  | some c =>
    have hj : j < δ.length := (List.getElem?_eq_some_iff.mp q).1
    rw [q] at h
    cases c with
    | non => cases h; exact ⟨hj, fun ds z => by (cases z), rfl⟩
    | val d => cases h; exact ⟨hj, fun ds z => by (cases z), rfl⟩
    | var b ds =>
      cases b with
      | true => cases h
      | false => cases h; exact ⟨hj, fun ds z => by (cases z), rfl⟩
/-- what a list of one's own holds is taken as data: it is not changed any more -/
def frz (j : Nat) (δ : Dl) : Option Dl := match δ[j]? with
  | some (.var false ds) => some (δ.set j (.val (.list ds)))
  | some (.val d) => some δ
  | _ => none
theorem SR.frz (S : SR K C0 H0 B C H σ δ) {j : Nat} (h : frz j δ = some δ') : ∃ C2, Ex C C2 ∧ SR K C0 H0 B C2 H σ δ' := by
  unfold DL.frz at h
  split at h
  · rename_i ds q
    cases h
    have hj : j < δ.length := (List.getElem?_eq_some_iff.mp q).1
    obtain ⟨l, xs, h1, h2, h3, h4, h5⟩ := S.own j ds q
    have e2 : Ex C (upd C l (.lst xs)) := Ex.new h3
    refine ⟨upd C l (.lst xs), e2, ⟨by rw [List.length_set]; exact S.len, S.c0.trans e2, fun a o z => ?_, S.fr, fun a z1 z2 => ?_, fun i d z => ?_, fun i es z => ?_, fun p hp => ?_, fun i es z => ?_, S.bd1, S.bd2, S.bH0, fun i k es fs hik z1 z2 => ?_⟩⟩
    · by_cases q : a = l
      · subst q
        rw [upd_same] at z
        rw [← z]
        exact h4
      · rw [upd_ne q] at z
        exact S.ch a o z
    · rw [upd_ne fun q => z1 (by rw [q]; exact h2)]
      exact S.nw a z1 z2
    · by_cases q' : j = i
      · subst q'
        rw [List.getElem?_set_self hj] at z
        cases z
        exact ⟨.ref l, h1, .lst (SqL.of upd_same) (dpAll_ex e2 _ _ h5)⟩
      · rw [List.getElem?_set_ne q'] at z
        obtain ⟨v, w1, w2⟩ := S.val i d z
        exact ⟨v, w1, dp_ex e2 _ _ w2⟩
    · by_cases q' : j = i
      · subst q'
        rw [List.getElem?_set_self hj] at z
        cases z
      · rw [List.getElem?_set_ne q'] at z
        obtain ⟨l', ys, w1, w2, w3, w4, w5⟩ := S.own i es z
        refine ⟨l', ys, w1, w2, ?_, w4, dpAll_ex e2 _ _ w5⟩
        rw [upd_ne fun y => S.odis j i ds es q' q z l h1 (by rw [← y]; exact w1)]
        exact w3
    · obtain ⟨es, ys, w1, w2, w3, w4, w5⟩ := S.bor p hp
      have q' : j ≠ p.1 := fun y => by
        rw [y, w1] at q
        cases q
      refine ⟨es, ys, by rw [List.getElem?_set_ne q']; exact w1, w2, ?_, w4, dpAll_ex e2 _ _ w5⟩
      rw [upd_ne fun y => S.bH0 p hp (by rw [y]; exact h2)]
      exact w3
    · by_cases q' : j = i
      · subst q'
        rw [List.getElem?_set_self hj] at z
        cases z
      · rw [List.getElem?_set_ne q'] at z
        exact S.btr i es z
    · have n1 : j ≠ i := fun y => by
        subst y
        rw [List.getElem?_set_self hj] at z1
        cases z1
      have n2 : j ≠ k := fun y => by
        subst y
        rw [List.getElem?_set_self hj] at z2
        cases z2
      rw [List.getElem?_set_ne n1] at z1
      rw [List.getElem?_set_ne n2] at z2
      exact S.odis i k es fs hik z1 z2
  · cases h
    exact ⟨C, Ex.refl C, S⟩
  · cases h
end

/-! ### targets -/
structure DG (X : Cx) (tg : Expr) (ts : List Nat) (g : D → Dl → Option Dl) : Prop where
  ex : ∃ t, PG X tg t ∧ ∀ C0 H0 B C H σ δ δ' v d (Q : L2.St → Hp → Prop), SR X.K C0 H0 B C H σ δ → Dq X.K C v d → g d δ = some δ' →
    (∀ σ', SR X.K C0 H0 B C H σ' δ' → (∀ vs : List Nat, (∀ k ∈ ts, k ∈ vs) → wipe σ' vs = wipe σ vs) → Q σ' H) → t v σ H Q
theorem wipe_set {σ : L2.St} {j : Nat} {x : Option V} : ∀ {vs : List Nat}, j ∈ vs → wipe (σ.set j x) vs = wipe σ vs
  | [], h => by cases h
  | v :: vs, h => by
    unfold wipe
    by_cases q : j ∈ vs
    · rw [wipe_set q]
    · have e : j = v := by
        rcases List.mem_cons.mp h with e | e
        · exact e
        · exact absurd e q
      subst e
      have out : ∀ ws : List Nat, j ∉ ws → (wipe (σ.set j x) ws).set j none = (wipe σ ws).set j none := by
        intro ws
        induction ws with
        | nil => intro _; show (σ.set j x).set j none = σ.set j none; rw [List.set_set]
        | cons w ws ih =>
          intro hw
          have n1 : j ≠ w := fun z => hw (by rw [z]; exact List.mem_cons_self)
          have n2 : j ∉ ws := fun z => hw (List.mem_cons_of_mem _ z)
          show ((wipe (σ.set j x) ws).set w none).set j none = ((wipe σ ws).set w none).set j none
          rw [List.set_comm _ _ n1.symm, ih n2, List.set_comm _ _ n1.symm]
      exact out vs q
section
variable {X : Cx} {EC : ECl} {W : WX} {a b c e o : Expr} {es : List Expr} {ma mb mc mo : M D} {mes : M (List D)} {pos p p2 apos : Pos} {tg iter : Expr} {ts us : List Nat} {g g2 : D → Dl → Option Dl}
theorem dg_name {j : Nat} {x : Str} (hN : X.N.Nodup) (hi : X.N[j]? = some x) (hx : Loc X.env.scope x) (hf : X.fn x = true ∨ X.env.scope.names.lookup x = some .local := by first | exact .inl rfl | exact .inr rfl | assumption) : DG X (.Name x pos) [j] (setV j) :=
  ⟨_, pg_name hN hi hx hf, fun C0 H0 B C H σ δ δ' v d Q S hd h k => k _ (S.set h hd) fun vs hv => wipe_set (hv j (by simp))⟩
/-- (a, b): a pair -/
def setT2 (g g2 : D → Dl → Option Dl) : D → Dl → Option Dl := fun d δ => match d with
  | .tuple [x, y] => (g x δ).bind (g2 y)
  | _ => none
theorem dg_tup2 {k : Nat} (hc : X.calm = true) (h1 : DG X a ts g) (h2 : DG X b us g2) (hs1 : (assignEach (a :: [b]) X.env).map (·.2) = assign a X.env :: (assignEach [b] X.env).map (·.2) := by rfl) (hs2 : (assignEach (b :: []) X.env).map (·.2) = assign b X.env :: (assignEach [] X.env).map (·.2) := by rfl)
    (hn : (assignEach [a, b] X.env).length = 2 := by rfl) (hst : (assignEach [a, b] X.env).findIdx? (·.1) = none := by rfl) : DG X (.Tuple [a, b] k pos) (ts ++ us) (setT2 g g2) := by
  obtain ⟨t1, p1, r1⟩ := h1.ex
  obtain ⟨t2, p2, r2⟩ := h2.ex
  refine ⟨_, pg_tup hc (pgs_cons p1 (pgs_cons p2 pgs_nil hs2) hs1) hn hst, fun C0 H0 B C H σ δ δ' v d Q S hd h k => ?_⟩
  unfold setT2 at h
  split at h
  · rename_i x y
    cases q : g x δ with
    | none => rw [q] at h; cases h
    | some δ1 =>
      rw [q] at h
      cases hd with
      | tup s t =>
        cases t with
        | cons d1 t =>
          cases t with
          | cons d2 t =>
            cases t
            rename_i a v1 v2
            refine ⟨a, _, rfl, ex_t S.ch s, rfl, v1, _, rfl, r1 C0 H0 B C H σ δ δ1 v1 x _ S d1 q fun σ1 S1 w1 => ⟨v2, _, rfl, r2 C0 H0 B C H σ1 δ1 δ' v2 y _ S1 d2 h fun σ2 S2 w2 => ⟨rfl, k σ2 S2 fun vs hv => ?_⟩⟩⟩
            rw [w2 vs fun k hk => hv k (List.mem_append_right _ hk), w1 vs fun k hk => hv k (List.mem_append_left _ hk)]
  · cases h

/-! ### what is walked -/
structure ItOk (K : PySem.W.Frag) (C1 : Hp) (J : It) (items : List D) : Prop where
  ex : ∃ G Y, Walk J items.length G Y ∧ (∀ H, Ex C1 H → G H) ∧ ∀ i d, items[i]? = some d → ∀ C H x H' (Q : VK), Ex C1 C → Ex C H → Y i H x H' → Rs K C H d Q → Q x H'
structure DI (X : Cx) (EC : ECl) (W : WX) (tg iter : Expr) (m : M (List D)) : Prop where
  ex : ∃ wi, PI X tg iter wi ∧ ∀ C0 H0 B C H σ δ (R : It → Hp → Prop), SR X.K C0 H0 B C H σ δ →
    RP (m δ) (fun items δ => ∀ J C1 H1, Ex C C1 → SR X.K C0 H0 B C1 H1 σ δ → ItOk X.K C1 J items → R J H1) (PXe X.K EC W C0 H0 B C σ) → wi σ H R
/-- a list, a tuple or a text -/
def iSeq (K : PySem.W.Frag) (te : TE) : TI := fun σ H R => te σ H fun x H1 => (∃ a, x = .ref a ∧ (∃ xs, SqL K H1 a xs) ∧ R (Itl K a) H1) ∨ ((∃ a, x = .ref a ∧ (∃ xs, SqT K H1 a xs) ∧ R (Itt K a) H1) ∨ ∃ z, x = .str z ∧ R (Its z) H1)
theorem pi_seq {te : TE} (hl : PE X e te) : PI X tg e (iSeq X.K te) := by
  refine ⟨fun pins s σ H R I h => ?_⟩
  refine thn (hl.run pins s σ H _ I h) fun v s1 ⟨x, H1, I1, r1, q1⟩ => ?_
  rcases q1 with ⟨a, e, ⟨xs, hq⟩, q⟩ | ⟨a, e, ⟨xs, hq⟩, q⟩ | ⟨z, e, q⟩
  · subst e
    cases r1
    obtain ⟨its, rv, p, hz⟩ := I1.list hq
    refine wpAny_pyIter_list p.isList ?_
    refine ⟨s1.heap.objs.size, [s1.heap.objs.size], _, _, H1, rfl, I1.kept (t' := s1.toks) fun b o e => Heap.get?_push_of_some _ e, turn_list a _, ⟨_, Heap.get?_push_size _ rfl, rfl, rfl⟩, fun b hb => ?_, q⟩
    have e : b = s1.heap.objs.size := by simpa using hb
    subst e
    exact I1.fpOk (Nat.le_refl _) (I1.hok.fresh (Nat.le_refl _))
  · subst e
    cases r1
    obtain ⟨its, rv, p, hz⟩ := I1.tuple hq
    refine wpAny_pyIter_tuple (show s1.heap.IsTuple a its.toArray from p) ?_
    refine ⟨s1.heap.objs.size, [s1.heap.objs.size], _, _, H1, rfl, I1.kept (t' := s1.toks) fun b o e => Heap.get?_push_of_some _ e, turn_tuple a _, ⟨_, Heap.get?_push_size _ rfl, rfl, rfl⟩, fun b hb => ?_, q⟩
    have e : b = s1.heap.objs.size := by simpa using hb
    subst e
    exact I1.fpOk (Nat.le_refl _) (I1.hok.fresh (Nat.le_refl _))
  · subst e
    obtain ⟨t, rfl⟩ := r1
    cases ha : z.cps.all (· < 128)
    · exact wpAny_pyIter_wide ha (pi_one (tk := s1.toks) I1 _ (turn_str _ z t "str_iterator" (.inr rfl)) ⟨_, Heap.get?_push_size _ rfl, rfl, rfl⟩ q)
    · exact wpAny_pyIter_ascii ha (pi_one (tk := s1.toks) I1 _ (turn_str _ z t "str_ascii_iterator" (.inl rfl)) ⟨_, Heap.get?_push_size _ rfl, rfl, rfl⟩ q)
def dItems : D → Option (List D)
  | .list xs => some xs
  | .tuple xs => some xs
  | .str s => some (s.cps.toList.map fun c => .str ⟨#[c]⟩)
  | _ => none
def mItems (a : M D) : M (List D) := fun δ => (a δ).bind fun x δ => R.lift (dItems x) δ
theorem it_seq {K : PySem.W.Frag} {C : Hp} {a : Addr} {xs : List V} {ds : List D} (hx : SqL K C a xs) (hd : DqAll K C xs ds) : ItOk K C (Itl K a) ds := by
  refine ⟨fun H => SqL K H a xs, YAt xs, by rw [← dpa_len hd]; exact walk_list, fun H e => ex_l e hx, fun i d hi C2 H x H' Q e1 e2 y q => ?_⟩
  obtain ⟨e, hx⟩ := y
  subst e
  obtain ⟨d', h1, h2⟩ := dpa_get' hd hx
  rw [hi] at h1
  cases h1
  exact q.1 x (dp_ex e1 _ _ h2)
theorem it_tup {K : PySem.W.Frag} {C : Hp} {a : Addr} {xs : List V} {ds : List D} (hx : SqT K C a xs) (hd : DqAll K C xs ds) : ItOk K C (Itt K a) ds := by
  refine ⟨fun H => SqT K H a xs, YAt xs, by rw [← dpa_len hd]; exact walk_tup, fun H e => ex_t e hx, fun i d hi C2 H x H' Q e1 e2 y q => ?_⟩
  obtain ⟨e, hx⟩ := y
  subst e
  obtain ⟨d', h1, h2⟩ := dpa_get' hd hx
  rw [hi] at h1
  cases h1
  exact q.1 x (dp_ex e1 _ _ h2)
theorem it_str {K : PySem.W.Frag} {C : Hp} {z : Str} : ItOk K C (Its z) (z.cps.toList.map fun c => .str ⟨#[c]⟩) := by
  refine ⟨fun _ => True, fun i H v H' => H' = H ∧ ∃ c, z.cps[i]? = some c ∧ v = .str ⟨#[c]⟩, ?_, fun _ _ => trivial, fun i d hi C2 H x H' Q e1 e2 y q => ?_⟩
  · rw [List.length_map, Array.length_toList]
    exact walk_str
  · obtain ⟨e, c, hc, hx⟩ := y
    subst e hx
    rw [List.getElem?_map, Array.getElem?_toList, hc] at hi
    cases hi
    exact q.1 _ (.str _)
theorem di_seq (h : DE X EC W iter ma) : DI X EC W tg iter (mItems ma) := by
  obtain ⟨te, pe, re⟩ := h.ex
  refine ⟨_, pi_seq pe, fun C0 H0 B C H σ δ R S h => re C0 H0 B C H σ δ _ S (RP.imp (RP.bind h) (fun x δ1 h1 v C1 H1 e1 S1 d1 => ?_) fun c d δ h => h)⟩
  obtain ⟨items, hi, q⟩ := RP.lift h1
  unfold dItems at hi
  split at hi
  · cases hi
    cases d1 with
    | lst a b => exact .inl ⟨_, rfl, ⟨_, ex_l S1.ch a⟩, q _ C1 H1 e1 S1 (it_seq a b)⟩
  · cases hi
    cases d1 with
    | tup a b => exact .inr (.inl ⟨_, rfl, ⟨_, ex_t S1.ch a⟩, q _ C1 H1 e1 S1 (it_tup a b)⟩)
  · cases hi
    cases d1
    exact .inr (.inr ⟨_, rfl, q _ C1 H1 e1 S1 it_str⟩)
  · cases hi
def rng (lo hi : Int) : List D := (List.range (hi - lo).toNat).map fun k => .int (lo + (k : Nat))
theorem it_rng {K : PySem.W.Frag} {C : Hp} {lo hi : Int} : ItOk K C (Itr lo (hi - lo).toNat) (rng lo hi) := by
  refine ⟨fun _ => True, YFn fun i => .int (lo + i), ?_, fun _ _ => trivial, fun i d hi C2 H x H' Q e1 e2 y q => ?_⟩
  · unfold rng
    rw [List.length_map, List.length_range]
    exact walk_range
  · obtain ⟨e, hx⟩ := y
    subst e hx
    unfold rng at hi
    rw [List.getElem?_map] at hi
    cases k : (List.range (_ - lo).toNat)[i]? with
    | none => rw [k] at hi; cases hi
    | some n =>
      rw [k] at hi
      cases hi
      have : n = i := by
        rw [List.getElem?_range] at k
        · exact (Option.some.inj k).symm
        · exact (List.getElem?_eq_some_iff.mp k).1 |> fun h => by simpa using h
      subst this
      exact q.1 _ (.int _)
def big (i : Int) : Bool := decide (-(2 ^ 62) ≤ i ∧ i < 2 ^ 62)
def mRng1 (a : M D) : M (List D) := fun δ => (a δ).bind fun x δ => match x with
  | .int i => if big i then .ok (rng 0 i) δ else .no
  | _ => .no
def mRng2 (a b : M D) : M (List D) := fun δ => (a δ).bind fun x δ => (b δ).bind fun y δ => match x, y with
  | .int i, .int j => if big i && big j then .ok (rng i j) δ else .no
  | _, _ => .no
theorem di_rng1 (hg : Gl X "range") (hm : X.mg "range" = none) (h : DE X EC W a ma) (hs : starEach [a] X.env = [(false, eval a X.env)] := by rfl) (hs' : starEach (a :: []) X.env = (false, eval a X.env) :: starEach [] X.env := by rfl) : DI X EC W tg (.Call (.Name "range" p) [a] [] pos) (mRng1 ma) := by
  obtain ⟨te, pe, re⟩ := h.ex
  refine ⟨_, pi_range1 hg hm (pa_cons pe pa_nil hs') hs, fun C0 H0 B C H σ δ R S h => re C0 H0 B C H σ δ _ S (RP.imp (RP.bind h) (fun x δ1 h1 v C1 H1 e1 S1 d1 => ?_) fun c d δ h => h)⟩
  split at h1
  · split at h1
    · rename_i i hb
      cases d1
      have hb := of_decide_eq_true hb
      refine ⟨i, rfl, hb.1, hb.2, h1 _ C1 H1 e1 S1 ?_⟩
      have z := it_rng (K := X.K) (C := C1) (lo := 0) (hi := i)
      rw [Int.sub_zero] at z
      exact z
    · exact h1.elim
  · exact h1.elim
theorem di_rng2 (hg : Gl X "range") (hm : X.mg "range" = none) (h : DE X EC W a ma) (h2 : DE X EC W b mb) (hs : starEach [a, b] X.env = [(false, eval a X.env), (false, eval b X.env)] := by rfl) (hs2 : starEach [b] X.env = [(false, eval b X.env)] := by rfl)
    (hs' : starEach (a :: [b]) X.env = (false, eval a X.env) :: starEach [b] X.env := by rfl) (hs3 : starEach (b :: []) X.env = (false, eval b X.env) :: starEach [] X.env := by rfl) : DI X EC W tg (.Call (.Name "range" p) [a, b] [] pos) (mRng2 ma mb) := by
  obtain ⟨te, pe, re⟩ := h.ex
  obtain ⟨tb, pb, rb⟩ := h2.ex
  refine ⟨_, pi_range2 hg hm (pa_cons pe (pa_cons pb pa_nil hs3) hs') hs hs2, fun C0 H0 B C H σ δ R S h => re C0 H0 B C H σ δ _ S (RP.imp (RP.bind h) (fun x δ1 h1 v C1 H1 e1 S1 d1 => ?_) fun c d δ h => h)⟩
  refine rb C0 H0 B C1 H1 σ δ1 _ S1 (RP.imp (RP.bind h1) (fun y δ2 h2 w C2 H2 e2 S2 d2 => ?_) (PXe.mono e1))
  split at h2
  · split at h2
    · rename_i i j hb
      cases d1
      cases d2
      rw [Bool.and_eq_true] at hb
      have hb1 := of_decide_eq_true hb.1
      have hb2 := of_decide_eq_true hb.2
      exact ⟨i, j, rfl, ⟨hb1.1, hb1.2, hb2.1, hb2.2⟩, h2 _ C2 H2 (e1.trans e2) S2 it_rng⟩
    · exact h2.elim
  · exact h2.elim

/-! ### comprehensions -/
/-- the cells of a block's own names, unset -/
def wipeD (δ : Dl) : List Nat → Dl
  | [] => δ
  | v :: vs => (wipeD δ vs).set v .non
/-- .. as they were -/
def backD (δ δ' : Dl) : List Nat → Dl
  | [] => δ'
  | v :: vs => (backD δ δ' vs).set v (δ.getD v .non)
def noMut (δ : Dl) (vs : List Nat) : Bool := vs.all fun v => match δ[v]? with
  | some (.var _ _) => false
  | _ => true
def Cell.isVar : Cell → Bool
  | .var _ _ => true
  | _ => false
def noVar (δ : Dl) : Bool := δ.all fun c => !c.isVar
def R.noex {α : Type} : R α → R α
  | .ok a δ => .ok a δ
  | _ => .no
def mLc (vs : List Nat) (g : D → Dl → Option Dl) (t : M Bool) (e : M D) : List D → M (List D)
  | [], δ => .ok [] δ
  | x :: xs, δ => match g x (wipeD δ vs) with
    | none => .no
    | some δ1 => (t δ1).noex.bind fun b δ2 => if b then (e δ2).noex.bind fun y δ3 => if noVar δ3 then (mLc vs g t e xs δ3).bind fun ys δ4 => .ok (y :: ys) δ4 else .no
      else if noVar δ2 then mLc vs g t e xs δ2 else .no
def mLcS (vs : List Nat) (it : M (List D)) (g : D → Dl → Option Dl) (t : M Bool) (e : M D) : M (List D) := fun δ => (it δ).bind fun xs δ1 => if noVar δ1 && decide (xs.length ≤ LINE) then (mLc vs g t e xs δ1).bind fun ys δ2 => .ok ys (backD δ1 δ2 vs) else .no
end
end DL
end Part_DLe

section Part_DLf
set_option Elab.async false
set_option linter.all false
set_option maxRecDepth 100000
set_option autoImplicit false
set_option maxHeartbeats 2000000
namespace DL
open PySem PySem.Spec PyProof.Rows L2 Evl

/-! ### the readings by the mirrors -/
section
variable (K : PySem.W.Frag) (EC : ECl) (W : WX)
def tE (m : M D) : TE := fun σ H Q => ∃ C0 H0 B C δ, SR K C0 H0 B C H σ δ ∧ RP (m δ) (PKe K C0 H0 B C σ Q) (PXe K EC W C0 H0 B C σ)
def tTd (m : M Bool) : TT := fun σ H Q => ∃ C0 H0 B C δ, SR K C0 H0 B C H σ δ ∧ RP (m δ) (PKt K C0 H0 B C σ Q) (PXe K EC W C0 H0 B C σ)
def tGd (ts : List Nat) (g : D → Dl → Option Dl) : TG := fun v σ H Q => ∃ C0 H0 B C δ δ' d, SR K C0 H0 B C H σ δ ∧ Dq K C v d ∧ g d δ = some δ' ∧ ∀ σ', SR K C0 H0 B C H σ' δ' → (∀ vs : List Nat, (∀ k ∈ ts, k ∈ vs) → wipe σ' vs = wipe σ vs) → Q σ' H
end
section
variable {X : Cx} {EC : ECl} {W : WX} {e tg : Expr}
theorem DE.pe {m : M D} (h : DE X EC W e m) : PE X e (tE X.K EC W m) := by
  obtain ⟨te, pe, re⟩ := h.ex
  exact ⟨fun pins s σ H Q I ⟨C0, H0, B, C, δ, S, q⟩ => pe.run pins s σ H Q I (re C0 H0 B C H σ δ Q S q)⟩
theorem DT.pt {m : M Bool} (h : DT X EC W e m) : PT X e (tTd X.K EC W m) := by
  obtain ⟨te, pe, re⟩ := h.ex
  exact ⟨fun pins s σ H Q I ⟨C0, H0, B, C, δ, S, q⟩ => pe.run pins s σ H Q I (re C0 H0 B C H σ δ Q S q)⟩
theorem DG.pg {ts : List Nat} {g : D → Dl → Option Dl} (h : DG X tg ts g) : PG X tg (tGd X.K ts g) := by
  obtain ⟨t, p, r⟩ := h.ex
  exact ⟨fun pins s σ H v u Q I rv ⟨C0, H0, B, C, δ, δ', d, S, hd, hg, k⟩ => p.run pins s σ H v u Q I rv (r C0 H0 B C H σ δ δ' v d Q S hd hg k)⟩
end
/-- the tests of a block -/
structure DTs (X : Cx) (EC : ECl) (W : WX) (ifs : List Expr) (m : M Bool) : Prop where
  ex : PTs X ifs (tTd X.K EC W m)
def mYes : M Bool := fun δ => .ok true δ
section
variable {X : Cx} {EC : ECl} {W : WX} {e tg : Expr}
theorem dts_nil : DTs X EC W [] mYes := ⟨⟨fun pins s σ H Q I ⟨C0, H0, B, C, δ, S, q⟩ => (pts_nil (X := X)).run pins s σ H Q I (q C H (Ex.refl C) S)⟩⟩
theorem dts_one {m : M Bool} (h : DT X EC W e m) : DTs X EC W [e] m := ⟨pts_one h.pt⟩
end

/-! ### wiped and put back -/
theorem wipe_out' {σ : L2.St} {i : Nat} {vs : List Nat} (h : i ∉ vs) : (wipe σ vs)[i]? = σ[i]? := wipe_out h
theorem wipeD_length (δ : Dl) : ∀ vs : List Nat, (wipeD δ vs).length = δ.length
  | [] => rfl
  | v :: vs => by unfold wipeD; rw [List.length_set, wipeD_length δ vs]
theorem wipeD_out {δ : Dl} {i : Nat} : ∀ {vs : List Nat}, i ∉ vs → (wipeD δ vs)[i]? = δ[i]?
  | [], _ => rfl
  | v :: vs, h => by
    have h1 : v ≠ i := fun e => h (by rw [e]; exact List.mem_cons_self)
    have h2 : i ∉ vs := fun e => h (List.mem_cons_of_mem _ e)
    unfold wipeD
    rw [List.getElem?_set_ne h1]
    exact wipeD_out h2
theorem wipeD_in {δ : Dl} {i : Nat} {c : Cell} : ∀ {vs : List Nat}, i ∈ vs → (wipeD δ vs)[i]? = some c → c = .non
  | [], h, _ => by cases h
  | v :: vs, h, e => by
    unfold wipeD at e
    by_cases q : v = i
    · subst q
      have hl : v < (wipeD δ vs).length := by
        have := (List.getElem?_eq_some_iff.mp e).1
        rwa [List.length_set] at this
      rw [List.getElem?_set_self hl] at e
      exact (Option.some.inj e).symm
    · rw [List.getElem?_set_ne q] at e
      rcases List.mem_cons.mp h with z | z
      · exact absurd z.symm q
      · exact wipeD_in z e
theorem backD_length (δ δ' : Dl) : ∀ vs : List Nat, (backD δ δ' vs).length = δ'.length
  | [] => rfl
  | v :: vs => by unfold backD; rw [List.length_set, backD_length δ δ' vs]
theorem backD_out {δ δ' : Dl} {i : Nat} : ∀ {vs : List Nat}, i ∉ vs → (backD δ δ' vs)[i]? = δ'[i]?
  | [], _ => rfl
  | v :: vs, h => by
    have h1 : v ≠ i := fun e => h (by rw [e]; exact List.mem_cons_self)
    have h2 : i ∉ vs := fun e => h (List.mem_cons_of_mem _ e)
    unfold backD
    rw [List.getElem?_set_ne h1]
    exact backD_out h2
theorem backD_in {δ δ' : Dl} {i : Nat} {c : Cell} : ∀ {vs : List Nat}, i ∈ vs → (backD δ δ' vs)[i]? = some c → c = δ.getD i .non
  | [], h, _ => by cases h
  | v :: vs, h, e => by
    unfold backD at e
    by_cases q : v = i
    · subst q
      have hl : v < (backD δ δ' vs).length := by
        have := (List.getElem?_eq_some_iff.mp e).1
        rwa [List.length_set] at this
      rw [List.getElem?_set_self hl] at e
      exact (Option.some.inj e).symm
    · rw [List.getElem?_set_ne q] at e
      rcases List.mem_cons.mp h with z | z
      · exact absurd z.symm q
      · exact backD_in z e
theorem noMut_at {δ : Dl} {vs : List Nat} (h : noMut δ vs = true) {i : Nat} (hi : i ∈ vs) : ∀ b ds, δ[i]? ≠ some (.var b ds) := fun b ds e => by
  have z := List.all_eq_true.mp h i hi
  rw [e] at z
  cases z
section
variable {K : PySem.W.Frag} {C0 H0 C H C2 H2 : Hp} {B : List (Nat × Addr)} {σ : L2.St} {δ δ2 : Dl} {vs : List Nat}
theorem SR.wipe (S : SR K C0 H0 B C H σ δ) (hB : ∀ p ∈ B, p.1 ∉ vs) : SR K C0 H0 B C H (wipe σ vs) (wipeD δ vs) where
  len := by rw [wipe_length, wipeD_length]; exact S.len
  c0 := S.c0
  ch := S.ch
  fr := S.fr
  nw := S.nw
  val := fun i d h => by
    by_cases q : i ∈ vs
    · cases wipeD_in q h
    · rw [wipeD_out q] at h
      rw [wipe_out' q]
      exact S.val i d h
  own := fun i d h => by
    by_cases q : i ∈ vs
    · cases wipeD_in q h
    · rw [wipeD_out q] at h
      rw [wipe_out' q]
      exact S.own i d h
  bor := fun p hp => by
    rw [wipeD_out (hB p hp), wipe_out' (hB p hp)]
    exact S.bor p hp
  btr := fun i d h => by
    by_cases q : i ∈ vs
    · cases wipeD_in q h
    · rw [wipeD_out q] at h
      exact S.btr i d h
  bd1 := S.bd1
  bd2 := S.bd2
  bH0 := S.bH0
  odis := fun i j ds es hij h1 h2 => by
    have q1 : i ∉ vs := fun q => by cases wipeD_in q h1
    have q2 : j ∉ vs := fun q => by cases wipeD_in q h2
    rw [wipeD_out q1] at h1
    rw [wipeD_out q2] at h2
    rw [wipe_out' q1, wipe_out' q2]
    exact S.odis i j ds es hij h1 h2
theorem SR.back (S : SR K C0 H0 B C H σ δ) (hn : noMut δ vs = true) (e : Ex C C2) (S2 : SR K C0 H0 B C2 H2 (L2.wipe σ vs) (wipeD δ2 vs)) : SR K C0 H0 B C2 H2 σ (backD δ δ2 vs) := by
  have hB : ∀ p ∈ B, p.1 ∉ vs := fun p hp q => by
    obtain ⟨ds, _, h1, _⟩ := S.bor p hp
    exact noMut_at hn q _ _ h1
  have out : ∀ {i : Nat} {b ds}, (backD δ δ2 vs)[i]? = some (.var b ds) → i ∉ vs := fun {i b ds} h q => by
    have z := backD_in q h
    have hi : i < δ.length := by
      cases k : δ[i]? with
      | none =>
        have : δ.getD i .non = .non := by unfold List.getD; rw [k]; rfl
        rw [this] at z
        cases z
      | some c => exact (List.getElem?_eq_some_iff.mp k).1
    refine noMut_at hn q b ds ?_
    unfold List.getD at z
    cases k : δ[i]? with
    | none => rw [k] at z; cases z
    | some c => rw [k] at z; exact congrArg some z.symm
  refine ⟨?_, S2.c0, S2.ch, S2.fr, S2.nw, fun i d h => ?_, fun i d h => ?_, fun p hp => ?_, fun i d h => ?_, S2.bd1, S2.bd2, S2.bH0, fun i j ds es hij h1 h2 => ?_⟩
  · have := S2.len
    rw [wipe_length, wipeD_length] at this
    rw [backD_length]
    exact this
  · by_cases q : i ∈ vs
    · have z := backD_in q h
      cases k : δ[i]? with
      | none =>
        unfold List.getD at z
        rw [k] at z
        cases z
      | some c =>
        unfold List.getD at z
        rw [k] at z
        have z : Cell.val d = c := z
        subst z
        obtain ⟨v, h1, h2⟩ := S.val i d k
        exact ⟨v, h1, dp_ex e _ _ h2⟩
    · rw [backD_out q, ← wipeD_out (δ := δ2) q] at h
      have := S2.val i d h
      rw [wipe_out' q] at this
      exact this
  · have q := out h
    rw [backD_out q, ← wipeD_out (δ := δ2) q] at h
    have := S2.own i d h
    rw [wipe_out' q] at this
    exact this
  · have := S2.bor p hp
    rw [wipe_out' (hB p hp), wipeD_out (hB p hp)] at this
    rw [backD_out (hB p hp)]
    exact this
  · have q := out h
    rw [backD_out q, ← wipeD_out (δ := δ2) q] at h
    exact S2.btr i d h
  · have q1 := out h1
    have q2 := out h2
    rw [backD_out q1, ← wipeD_out (δ := δ2) q1] at h1
    rw [backD_out q2, ← wipeD_out (δ := δ2) q2] at h2
    have := S2.odis i j ds es hij h1 h2
    rw [wipe_out' q1, wipe_out' q2] at this
    exact this
/-- an object that is not of the data and that no cell holds is changed -/
theorem SR.mutN (S : SR K C0 H0 B C H σ δ) {l : Addr} {o : HO} (h0 : H0 l = none) (hC : C l = none) (hn : ∀ (i : Nat) (b : Bool) (es : List D), δ[i]? = some (.var b es) → σ[i]? ≠ some (some (.ref l))) : SR K C0 H0 B C (upd H l o) σ δ where
  len := S.len
  c0 := S.c0
  ch := fun a u h => by
    rw [upd_ne (ne_of_none h hC)]
    exact S.ch a u h
  fr := fun a u h hb => by
    rw [upd_ne (ne_of_none h h0)]
    exact S.fr a u h hb
  nw := S.nw
  val := S.val
  own := fun i ds h => by
    obtain ⟨k, xs, h1, h2, h3, h4, h5⟩ := S.own i ds h
    refine ⟨k, xs, h1, h2, h3, ?_, h5⟩
    rw [upd_ne fun z => hn i false ds h (by rw [← z]; exact h1)]
    exact h4
  bor := fun p hp => by
    obtain ⟨ds, xs, h1, h2, h3, h4, h5⟩ := S.bor p hp
    refine ⟨ds, xs, h1, h2, h3, ?_, h5⟩
    rw [upd_ne fun z => hn p.1 true ds h1 (by rw [← z]; exact h2)]
    exact h4
  btr := S.btr
  bd1 := S.bd1
  bd2 := S.bd2
  bH0 := S.bH0
  odis := S.odis
theorem noVar_at {δ : Dl} (h : noVar δ = true) {i : Nat} {b : Bool} {ds : List D} : δ[i]? ≠ some (.var b ds) := fun e => by
  have z := List.all_eq_true.mp h _ (List.mem_of_getElem? e)
  cases z
theorem noVar_wipe {δ : Dl} (h : noVar δ = true) : ∀ vs : List Nat, noVar (wipeD δ vs) = true
  | [] => h
  | v :: vs => by
    refine List.all_eq_true.mpr fun c hc => ?_
    obtain ⟨i, hi⟩ := List.getElem?_of_mem hc
    cases c with
    | var b ds =>
      by_cases q : i ∈ v :: vs
      · cases wipeD_in q hi
      · rw [wipeD_out q] at hi
        exact absurd hi (noVar_at h)
    | non => rfl
    | val d => rfl
theorem SR.noB (S : SR K C0 H0 B C H σ δ) (h : noVar δ = true) : B = [] := by
  cases B with
  | nil => rfl
  | cons p r =>
    obtain ⟨ds, _, z, _⟩ := S.bor p List.mem_cons_self
    exact absurd z (noVar_at h)
theorem SR.rebase (S : SR K C0 H0 B C H σ δ) (h : noVar δ = true) : SR K C H [] C H σ δ where
  len := S.len
  c0 := Ex.refl C
  ch := S.ch
  fr := fun a o z _ => z
  nw := fun a _ z => z
  val := S.val
  own := fun i ds z => absurd z (noVar_at h)
  bor := fun p hp => by cases hp
  btr := fun i ds z => absurd z (noVar_at h)
  bd1 := fun p hp => by cases hp
  bd2 := fun p hp => by cases hp
  bH0 := fun p hp => by cases hp
  odis := fun i j ds es _ z => absurd z (noVar_at h)
theorem SR.unbase {σ2 : L2.St} {δ' : Dl} (S : SR K C0 H0 [] C H σ δ) (T : SR K C H [] C2 H2 σ2 δ') : SR K C0 H0 [] C2 H2 σ2 δ' where
  len := T.len
  c0 := S.c0.trans T.c0
  ch := T.ch
  fr := fun a o z _ => T.fr a o (S.fr a o z fun p hp => by cases hp) fun p hp => by cases hp
  nw := fun a z1 z2 => by
    refine T.nw a ?_ (S.nw a z1 z2)
    cases q : H0 a with
    | none => exact absurd q z1
    | some o =>
      rw [S.fr a o q fun p hp => by cases hp]
      exact fun z => nomatch z
  val := T.val
  own := fun i ds z => by
    obtain ⟨l, xs, h1, h2, h3, h4, h5⟩ := T.own i ds z
    refine ⟨l, xs, h1, ?_, h3, h4, h5⟩
    cases q : H0 l with
    | none => rfl
    | some o =>
      have := S.fr l o q fun p hp => by cases hp
      rw [h2] at this
      cases this
  bor := T.bor
  btr := T.btr
  bd1 := T.bd1
  bd2 := T.bd2
  bH0 := fun p hp => by cases hp
  odis := T.odis
/-- what H does not know, no list of one's own is -/
theorem SR.nm (S : SR K C0 H0 B C H σ δ) {p : Addr} (hp : H p = none) : H0 p = none ∧ ∀ (i : Nat) (b : Bool) (es : List D), δ[i]? = some (.var b es) → σ[i]? ≠ some (some (.ref p)) := by
  refine ⟨?_, fun i b ds hi hs => ?_⟩
  · cases q : H0 p with
    | none => rfl
    | some o =>
      by_cases hb : ∃ k ∈ B, k.2 = p
      · obtain ⟨k, hk, rfl⟩ := hb
        obtain ⟨_, _, _, _, _, h4, _⟩ := S.bor k hk
        rw [hp] at h4
        cases h4
      · have z := S.fr p o q fun k hk e => hb ⟨k, hk, e⟩
        rw [hp] at z
        cases z
  · cases b with
    | false =>
      obtain ⟨l, ys, h2, _, _, h5, _⟩ := S.own i ds hi
      rw [h2] at hs
      cases hs
      rw [hp] at h5
      cases h5
    | true =>
      obtain ⟨l, hl⟩ := S.btr i ds hi
      obtain ⟨_, _, _, h3, _, h5, _⟩ := S.bor _ hl
      rw [h3] at hs
      cases hs
      rw [hp] at h5
      cases h5
end
theorem RP.noex {α : Type} {r : R α} {k : α → Dl → Prop} {x x' : Nat → D → Dl → Prop} (h : RP r.noex k x) : RP r k x' := by
  cases r with
  | ok a δ => exact h
  | ex c d δ => exact h.elim
  | no => exact h.elim
theorem wipeD_wipeD (δ : Dl) (vs : List Nat) : ∀ i : Nat, (wipeD (wipeD δ vs) vs)[i]? = (wipeD δ vs)[i]? := fun i => by
  by_cases q : i ∈ vs
  · cases k1 : (wipeD (wipeD δ vs) vs)[i]? with
    | none =>
      have := List.getElem?_eq_none_iff.mp k1
      rw [wipeD_length] at this
      exact (List.getElem?_eq_none_iff.mpr this).symm
    | some c =>
      have hl := (List.getElem?_eq_some_iff.mp k1).1
      rw [wipeD_length] at hl
      cases k2 : (wipeD δ vs)[i]? with
      | none =>
        have := List.getElem?_eq_none_iff.mp k2
        omega
      | some c' => rw [wipeD_in q k1, wipeD_in q k2]
  · rw [wipeD_out q]
section
variable {X : Cx} {EC : ECl} {W : WX}
theorem lc_read {K : PySem.W.Frag} {wi : TI} {mi : M (List D)} {ts ws : List Nat} {g : D → Dl → Option Dl} {mt : M Bool} {me : M D} {W0 : WX} (hts : ∀ k ∈ ts, k ∈ ws)
    (ri : ∀ C0 H0 B C H σ δ (R : It → Hp → Prop), SR K C0 H0 B C H σ δ → RP (mi δ) (fun items δ => ∀ J C1 H1, Ex C C1 → SR K C0 H0 B C1 H1 σ δ → ItOk K C1 J items → R J H1) (PXe K EC W C0 H0 B C σ) → wi σ H R) :
    ∀ C0 H0 B C H σ δ Q, SR K C0 H0 B C H σ δ → RP (mLcS ws mi g mt me δ) (PKl K C0 H0 B C σ Q) (PXe K EC W C0 H0 B C σ) → tLc wi (tGd K ts g) (tTd K EC W0 mt) (tE K EC W0 me) ws σ H Q := by
  intro C0 H0 B C H σ δ Q S h
  refine ri C0 H0 B C H σ δ _ S (RP.imp (RP.bind h) (fun items δ1 h1 J C1 H1 e1 S1 it => ?_) fun c d δ h => h)
  intro Dl hD
  obtain ⟨G, Y, wk, hG, hY⟩ := it.ex
  split at h1
  case isFalse => exact h1.elim
  rename_i hcond
  rw [Bool.and_eq_true] at hcond
  obtain ⟨hnv, hlen⟩ := hcond
  have hlen := of_decide_eq_true hlen
  have hBe := S1.noB hnv
  subst hBe
  have hB : ∀ p ∈ ([] : List (Nat × Addr)), p.1 ∉ ws := fun p hp => by cases hp
  have hnm : noMut δ1 ws = true := by
    refine List.all_eq_true.mpr fun v _ => ?_
    cases q : δ1[v]? with
    | none => rfl
    | some c =>
      cases c with
      | var b ds => exact absurd q (noVar_at hnv)
      | non => rfl
      | val d => rfl
  obtain ⟨h0D, nmD⟩ := S1.nm hD
  have hfin := RP.bind h1
  refine lc_it wk (fun i H' => ∃ C' δ' acc vs, Ex C1 C' ∧ SR K C0 H0 [] C' H' (wipe σ ws) (wipeD δ' ws) ∧ H' Dl = some (.lst vs) ∧ C' Dl = none ∧ noVar δ' = true ∧ acc.length ≤ i ∧ DqAll K C' vs acc ∧
    RP (mLc ws g mt me (items.drop i) δ') (fun ys δ2 => PKl K C0 H0 [] C1 σ Q (acc ++ ys) (backD δ1 δ2 ws)) (PXe K EC W C0 H0 [] C1 σ)) ⟨C1, δ1, [], [], Ex.refl _, (S1.newN hD).wipe hB, upd_same, free_of S1.ch hD, hnv, Nat.le_refl _, .nil, RP.imp hfin (fun ys δ2 z => PKl.mono e1 _ _ (show PKl K C0 H0 [] C σ Q ys (backD δ1 δ2 ws) from z)) (PXe.mono e1)⟩
    (fun i H' _ ⟨C', δ', acc, vs, e2, S2, _⟩ => hG H' (e2.trans S2.ch)) ?_ ?_
  · rintro i x H2 H3 hi ⟨C', δ', acc, vs, e2, S2, hDl, hCD, hv, hacc, dacc, q⟩ y
    have hdrop : items.drop i = items[i] :: items.drop (i + 1) := List.drop_eq_getElem_cons hi
    have hget : items[i]? = some items[i] := List.getElem?_eq_getElem hi
    rw [hdrop] at q
    unfold mLc at q
    have nw := noVar_wipe hv ws
    have T2 := S2.rebase nw
    have hlong : vs.length ≤ i := by rw [dpa_len dacc]; exact hacc
    refine hY i _ hget C' H2 x H3 (fun x H3 => tGd K ts g x (wipe σ ws) H3 _) e2 S2.ch y (rs_of (C0 := C') (H0 := H2) (B := []) (σ := wipe σ ws) (δ := wipeD δ' ws) T2 fun v C3 H3 e3 T3 d3 => ?_)
    cases hg1 : g items[i] (wipeD δ' ws) with
    | none => rw [hg1] at q; exact q.elim
    | some δ1' =>
      rw [hg1] at q
      refine ⟨C', H2, [], C3, wipeD δ' ws, δ1', items[i], T3, d3, hg1, fun σ4 T4 w4 => ?_⟩
      have w4' : wipe σ4 ws = wipe σ ws := by
        have := w4 ws hts
        have z : ∀ (us : List Nat), wipe (wipe σ us) us = wipe σ us := by
          intro us
          apply List.ext_getElem?
          intro k
          by_cases hk : k ∈ us
          · cases k1 : (wipe (wipe σ us) us)[k]? with
            | none =>
              have := List.getElem?_eq_none_iff.mp k1
              rw [wipe_length] at this
              exact (List.getElem?_eq_none_iff.mpr this).symm
            | some c =>
              have hl := (List.getElem?_eq_some_iff.mp k1).1
              rw [wipe_length] at hl
              cases c with
              | some v => exact absurd hk (wipe_some k1).2
              | none =>
                cases k2 : (wipe σ us)[k]? with
                | none =>
                  have := List.getElem?_eq_none_iff.mp k2
                  omega
                | some c2 =>
                  cases c2 with
                  | none => rfl
                  | some v => exact absurd hk (wipe_some k2).2
          · rw [wipe_out' hk]
        rw [this, z]
      refine ⟨w4', C', H2, [], C3, δ1', T4, RP.imp (RP.noex (RP.bind q)) (fun b δ5 h5 C5 H5 e5 T5 => ?_) fun _ _ _ z => z⟩
      have hD5 : H5 Dl = some (.lst vs) := T5.fr Dl _ hDl fun p hp => by cases hp
      have hC5 : C5 Dl = none := T5.nw Dl (by rw [hDl]; exact fun z => nomatch z) hCD
      dsimp only
      cases b with
      | false =>
        rw [if_neg Bool.false_ne_true] at h5 ⊢
        split at h5
        case isFalse => exact h5.elim
        rename_i hv5
        have S5 := (S2.unbase T5).wipe (vs := ws) hB
        rw [w4'] at S5
        exact ⟨C5, δ5, acc, vs, e2.trans (e3.trans e5), S5, hD5, hC5, hv5, Nat.le_succ_of_le hacc, dpAll_ex (e3.trans e5) _ _ dacc, h5⟩
      | true =>
        rw [if_pos rfl] at h5 ⊢
        refine ⟨C', H2, [], C5, δ5, T5, RP.imp (RP.noex (RP.bind h5)) (fun yd δ6 h6 yv C6 H6 e6 T6 d6 => ?_) fun _ _ _ z => z⟩
        have hD6 : H6 Dl = some (.lst vs) := T6.fr Dl _ hDl fun p hp => by cases hp
        have hC6 : C6 Dl = none := T6.nw Dl (by rw [hDl]; exact fun z => nomatch z) hCD
        split at h6
        case isFalse => exact h6.elim
        rename_i hv6
        have S6 := (S2.unbase T6).wipe (vs := ws) hB
        rw [w4'] at S6
        have nv6 := noVar_wipe hv6 ws
        have hszz : vs.length < sizeLine := by rw [line_eq]; omega
        have e36 := e3.trans (e5.trans e6)
        refine ⟨vs, hD6, hszz, C6, δ6, acc ++ [yd], vs ++ [yv], e2.trans e36, S6.mutN h0D hC6 (fun i b es z => absurd z (noVar_at nv6)), upd_same, hC6, hv6, by rw [List.length_append]; exact Nat.succ_le_succ hacc, dpa_app (dpAll_ex e36 _ _ dacc) (dpa_one d6), ?_⟩
        refine RP.imp (RP.bind h6) (fun ys δ7 h7 => ?_) fun _ _ _ z => z
        rw [List.append_assoc]
        exact h7
  · rintro H' ⟨C', δ', acc, vs, e2, S2, hDl, hCD, hv, hacc, dacc, q⟩
    rw [List.drop_length] at q
    have q : PKl K C0 H0 [] C1 σ Q (acc ++ []) (backD δ1 δ' ws) := q
    rw [List.append_nil] at q
    have S3 := S1.back hnm e2 S2
    refine q Dl vs C' H' e2 S3 hCD hDl h0D (fun i b es z => ?_) dacc
    by_cases hk : i ∈ ws
    · have z1 := backD_in hk z
      unfold List.getD at z1
      cases k : δ1[i]? with
      | none => rw [k] at z1; cases z1
      | some c =>
        rw [k] at z1
        have z1 : Cell.var b es = c := z1
        rw [← z1] at k
        exact absurd k (noVar_at hnv)
    · rw [backD_out hk] at z
      exact absurd z (noVar_at hv)
theorem dl_lc {elt tg iter : Expr} {ifs : List Expr} {scope : Scope} {own : List (Str × Nat)} {pos : Pos} {mi : M (List D)} {ts : List Nat} {g : D → Dl → Option Dl} {mt : M Bool} {me : M D} {W0 : WX} (hc : X.calm = true) (hN : X.N.Nodup) (hi : DI X EC W tg iter mi) (ok : BlkOk X.N X.env.scope scope own)
    (hg : ∀ (s : Shared) (H : Hp) (C : Addr) (cl : List (Str × Addr)) (fp : List Addr), DG (X.blk s H scope (compEnvC scope cl C X.env) fp) tg ts g) (hts : ∀ k ∈ ts, k ∈ own.map (·.2))
    (ht : ∀ (s : Shared) (H : Hp) (C : Addr) (cl : List (Str × Addr)) (fp : List Addr), DTs (X.blk s H scope (compEnvC scope cl C X.env) fp) EC W0 ifs mt)
    (he : ∀ (s : Shared) (H : Hp) (C : Addr) (cl : List (Str × Addr)) (fp : List Addr), DE (X.blk s H scope (compEnvC scope cl C X.env) fp) EC W0 elt me) (hs : ∀ x, foldedSetIterable iter X.env x = pure x := by intro _; rfl) :
    DL' X EC W (.ListComp elt [⟨tg, iter, ifs, 0⟩] scope pos) (mLcS (own.map (·.2)) mi g mt me) := by
  obtain ⟨wi, pi, ri⟩ := hi.ex
  exact ⟨_, pe_lc (g := tGd X.K ts g) (tt := tTd X.K EC W0 mt) (te := tE X.K EC W0 me) hc hN pi ok (fun s H C cl fp => (hg s H C cl fp).pg) (fun s H C cl fp => (ht s H C cl fp).ex) (fun s H C cl fp => (he s H C cl fp).pe) hs, lc_read hts ri⟩
/-- name = [..], as data | to be changed -/
def mSetL (i : Nat) (m : M (List D)) : M Fl := fun δ => (m δ).bind fun ds δ => match setV i (.list ds) δ with
  | some δ' => .ok .nx δ'
  | none => .no
def mSetM (i : Nat) (m : M (List D)) : M Fl := fun δ => (m δ).bind fun ds δ => match setM i ds δ with
  | some δ' => .ok .nx δ'
  | none => .no
theorem set_readL {K : PySem.W.Frag} {i : Nat} {te : TE} {m : M (List D)} (re : ∀ C0 H0 B C H σ δ Q, SR K C0 H0 B C H σ δ → RP (m δ) (PKl K C0 H0 B C σ Q) (PXe K EC W C0 H0 B C σ) → te σ H Q) :
    ∀ C0 H0 B C H σ δ (N : L2.Ends), SR K C0 H0 B C H σ δ → RP (mSetL i m δ) (PKs K C0 H0 B C N) (PXs K EC W C0 H0 B C) → tAsg te (gName i) N σ H := by
  intro C0 H0 B C H σ δ N S h
  refine re C0 H0 B C H σ δ _ S (RP.imp (RP.bind h) (fun ds δ1 h1 p xs C1 H1 e1 S1 hC hH h0 nm d1 => ?_) fun c d δ h v dd C2 H2 e2 S2 z1 z2 => h σ v dd C2 H2 e2 S2 z1 z2)
  have e2 : Ex C1 (upd C1 p (.lst xs)) := Ex.new hC
  split at h1
  case h_2 => exact h1.elim
  rename_i δ' hv
  -- the new list becomes data
  obtain ⟨a1, a2, rfl⟩ := setV_some hv
  have S2 : SR K C0 H0 B (upd C1 p (.lst xs)) H1 σ δ1 := ⟨S1.len, S1.c0.trans e2, fun a o q => by
      by_cases ha : a = p
      · subst ha
        rw [upd_same] at q
        rw [← q]
        exact hH
      · rw [upd_ne ha] at q
        exact S1.ch a o q, S1.fr, fun a h2 h3 => by
      rw [upd_ne fun z => h2 (by rw [z]; exact h0)]
      exact S1.nw a h2 h3, fun i d hi => by
      obtain ⟨v, h2, h3⟩ := S1.val i d hi
      exact ⟨v, h2, dp_ex e2 _ _ h3⟩, fun i ds hi => by
      obtain ⟨l, ys, h2, h3, h4, h5, h6⟩ := S1.own i ds hi
      refine ⟨l, ys, h2, h3, ?_, h5, dpAll_ex e2 _ _ h6⟩
      rw [upd_ne fun z => nm i false ds hi (by rw [← z]; exact h2)]
      exact h4, fun k hk => by
      obtain ⟨ds, ys, h2, h3, h4, h5, h6⟩ := S1.bor k hk
      refine ⟨ds, ys, h2, h3, ?_, h5, dpAll_ex e2 _ _ h6⟩
      rw [upd_ne fun z => nm k.1 true ds h2 (by rw [← z]; exact h3)]
      exact h4, S1.btr, S1.bd1, S1.bd2, S1.bH0, S1.odis⟩
  exact h1 (σ.set i (some (.ref p))) _ H1 (e1.trans e2) (S2.setC a1 a2 (fun d z => by cases z; exact .lst (SqL.of upd_same) (dpAll_ex e2 _ _ d1)) fun b ds z => by cases z)
theorem set_readM {K : PySem.W.Frag} {i : Nat} {te : TE} {m : M (List D)} (re : ∀ C0 H0 B C H σ δ Q, SR K C0 H0 B C H σ δ → RP (m δ) (PKl K C0 H0 B C σ Q) (PXe K EC W C0 H0 B C σ) → te σ H Q) :
    ∀ C0 H0 B C H σ δ (N : L2.Ends), SR K C0 H0 B C H σ δ → RP (mSetM i m δ) (PKs K C0 H0 B C N) (PXs K EC W C0 H0 B C) → tAsg te (gName i) N σ H := by
  intro C0 H0 B C H σ δ N S h
  refine re C0 H0 B C H σ δ _ S (RP.imp (RP.bind h) (fun ds δ1 h1 p xs C1 H1 e1 S1 hC hH h0 nm d1 => ?_) fun c d δ h v dd C2 H2 e2 S2 z1 z2 => h σ v dd C2 H2 e2 S2 z1 z2)
  split at h1
  case h_2 => exact h1.elim
  rename_i δ' hv
  obtain ⟨a1, a2, rfl⟩ := setM_some hv
  refine h1 (σ.set i (some (.ref p))) C1 H1 e1 (S1.setC a1 a2 (fun d z => by cases z) fun b es z => ?_)
  cases z
  exact ⟨rfl, p, xs, rfl, h0, hC, hH, d1, nm⟩
end
end DL
end Part_DLf

section Part_DLg
set_option Elab.async false
set_option linter.all false
set_option maxRecDepth 100000
set_option autoImplicit false
set_option maxHeartbeats 2000000
namespace DL
open PySem PySem.Spec PyProof.Rows L2 Evl

section
variable {X : Cx} {EC : ECl} {W : WX} {a b c e o : Expr} {es : List Expr} {ma mb mc mo : M D} {mes : M (List D)} {pos p p2 apos : Pos} {tg iter : Expr} {ts us : List Nat} {g g2 : D → Dl → Option Dl} {st : Stmt} {rest sa sb : List Stmt} {m1 m2 m3 : M Fl} {mt : M Bool}
theorem PXs.of {K : PySem.W.Frag} {C0 H0 : Hp} {B : List (Nat × Addr)} {C : Hp} {σ : L2.St} : ∀ c d δ, PXs K EC W C0 H0 B C c d δ → PXe K EC W C0 H0 B C σ c d δ := fun c d δ h v dd C2 H2 e2 S2 z1 z2 => h σ v dd C2 H2 e2 S2 z1 z2
theorem PXs.mono {K : PySem.W.Frag} {C0 H0 : Hp} {B : List (Nat × Addr)} {C C' : Hp} (e : Ex C C') : ∀ c d δ, PXs K EC W C0 H0 B C c d δ → PXs K EC W C0 H0 B C' c d δ := fun c d δ h σ v dd C2 H2 e2 => h σ v dd C2 H2 (e.trans e2)
theorem PKs.mono {K : PySem.W.Frag} {C0 H0 : Hp} {B : List (Nat × Addr)} {C C' : Hp} (e : Ex C C') {N : L2.Ends} : ∀ f δ, PKs K C0 H0 B C N f δ → PKs K C0 H0 B C' N f δ := fun f δ h σ C2 H2 e2 => h σ C2 H2 (e.trans e2)

/-! ### blocks -/
def mSkip : M Fl := fun δ => .ok .nx δ
def mSeq (m m' : M Fl) : M Fl := fun δ => (m δ).bind fun f δ => match f with
  | .nx => m' δ
  | f => .ok f δ
theorem dss_nil : DSs X EC W [] mSkip := ⟨_, pss_nil, fun C0 H0 B C H σ δ N S h => h σ C H (Ex.refl C) S⟩
theorem dss_cons (h1 : DS X EC W st m1) (h2 : DSs X EC W rest m2) : DSs X EC W (st :: rest) (mSeq m1 m2) := by
  obtain ⟨t1, p1, r1⟩ := h1.ex
  obtain ⟨t2, p2, r2⟩ := h2.ex
  refine ⟨_, pss_cons p1 p2, fun C0 H0 B C H σ δ N S h => r1 C0 H0 B C H σ δ _ S (RP.imp (RP.bind h) (fun f δ1 h1 σ1 C1 H1 e1 S1 => ?_) fun c d δ h => h)⟩
  cases f with
  | nx => exact r2 C0 H0 B C1 H1 σ1 δ1 N S1 (RP.imp h1 (PKs.mono e1) (PXs.mono e1))
  | rt d => exact h1 σ1 C1 H1 e1 S1
  | bk => exact h1 σ1 C1 H1 e1 S1
  | ct => exact h1 σ1 C1 H1 e1 S1
theorem dss_one (h1 : DS X EC W st m1) : DSs X EC W [st] m1 := let ⟨t, p, r⟩ := h1.ex; ⟨t, pss_one p, r⟩
/-- the list of a slot is not changed any more -/
def mFrz (i : Nat) (m : M Fl) : M Fl := fun δ => match frz i δ with
  | some δ' => m δ'
  | none => .no
theorem dss_frz {sts : List Stmt} (i : Nat) (h : DSs X EC W sts m1) : DSs X EC W sts (mFrz i m1) := by
  obtain ⟨t, p, r⟩ := h.ex
  refine ⟨t, p, fun C0 H0 B C H σ δ N S h => ?_⟩
  unfold mFrz at h
  split at h
  · rename_i δ' q
    obtain ⟨C2, e2, S2⟩ := S.frz q
    exact r C0 H0 B C2 H σ δ' N S2 (RP.imp h (PKs.mono e2) (PXs.mono e2))
  · exact h.elim
theorem dss_no {sts : List Stmt} : DSs X EC W sts mNo := ⟨_, pss_never, fun C0 H0 B C H σ δ N S h => h⟩
theorem ds_no : DS X EC W st mNo := ⟨_, ps_never, fun C0 H0 B C H σ δ N S h => h⟩
theorem ds_pass : DS X EC W (.Pass pos) mSkip := ⟨_, ps_pass, fun C0 H0 B C H σ δ N S h => h σ C H (Ex.refl C) S⟩
def mBk : M Fl := fun δ => .ok .bk δ
def mCt : M Fl := fun δ => .ok .ct δ
theorem ds_break : DS X EC W (.Break pos) mBk := ⟨_, ps_break, fun C0 H0 B C H σ δ N S h => h σ C H (Ex.refl C) S⟩
theorem ds_cont : DS X EC W (.Continue pos) mCt := ⟨_, ps_continue, fun C0 H0 B C H σ δ N S h => h σ C H (Ex.refl C) S⟩
def mRet (a : M D) : M Fl := fun δ => (a δ).bind fun d δ => .ok (.rt d) δ
theorem ds_ret (h : DE X EC W e ma) : DS X EC W (.Return (some e) pos) (mRet ma) := by
  obtain ⟨t, p, r⟩ := h.ex
  exact ⟨_, ps_ret p, fun C0 H0 B C H σ δ N S h => r C0 H0 B C H σ δ _ S (RP.imp (RP.bind h) (fun d δ1 h1 v C1 H1 e1 S1 d1 => h1 σ C1 H1 e1 S1 v d1) PXs.of)⟩
def mIf (t : M Bool) (m m' : M Fl) : M Fl := fun δ => (t δ).bind fun b δ => if b then m δ else m' δ
theorem ds_if (hc : DT X EC W c mt) (h1 : DSs X EC W sa m1) (h2 : DSs X EC W sb m2) : DS X EC W (.If c sa sb pos) (mIf mt m1 m2) := by
  obtain ⟨t0, p0, r0⟩ := hc.ex
  obtain ⟨t1, p1, r1⟩ := h1.ex
  obtain ⟨t2, p2, r2⟩ := h2.ex
  refine ⟨_, ps_if p0 p1 p2, fun C0 H0 B C H σ δ N S h => r0 C0 H0 B C H σ δ _ S (RP.imp (RP.bind h) (fun k δ1 h1 C1 H1 e1 S1 => ?_) PXs.of)⟩
  cases k with
  | true => exact r1 C0 H0 B C1 H1 σ δ1 N S1 (RP.imp h1 (PKs.mono e1) (PXs.mono e1))
  | false => exact r2 C0 H0 B C1 H1 σ δ1 N S1 (RP.imp h1 (PKs.mono e1) (PXs.mono e1))
def mAsg (g : D → Dl → Option Dl) (a : M D) : M Fl := fun δ => (a δ).bind fun d δ => match g d δ with
  | some δ' => .ok .nx δ'
  | none => .no
theorem ds_asg (h : DE X EC W e ma) (hg : DG X tg ts g) (hs : swapsWithSole [tg] e pos.line X.env = pure false := by rfl) (hw : swappedStores [tg] e X.env = pure none := by rfl)
    (h1 : (assignEach [tg] X.env).map (·.2) = [assign tg X.env] := by rfl) : DS X EC W (.Assign [tg] e pos) (mAsg g ma) := by
  obtain ⟨t, p, r⟩ := h.ex
  obtain ⟨t2, p2, r2⟩ := hg.ex
  refine ⟨_, ps_asg p p2 hs hw h1, fun C0 H0 B C H σ δ N S h => r C0 H0 B C H σ δ _ S (RP.imp (RP.bind h) (fun d δ1 h1 v C1 H1 e1 S1 d1 => ?_) PXs.of)⟩
  split at h1
  · rename_i δ' q
    exact r2 C0 H0 B C1 H1 σ δ1 δ' v d _ S1 d1 q fun σ' S2 _ => h1 σ' C1 H1 e1 S2
  · exact h1.elim
theorem ds_set (i : Nat) {x : Str} {pos' : Pos} (hN : X.N.Nodup) (h : DE X EC W e ma) (hi : X.N[i]? = some x := by rfl) (hx : Loc X.env.scope x := by first | exact Or.inl rfl | exact Or.inr rfl) (hs : swapsWith e (some (.Name x pos')) pos.line X.env = pure false := by rfl)
    (hf : X.fn x = true ∨ X.env.scope.names.lookup x = some .local := by first | exact .inl rfl | exact .inr rfl) : DS X EC W (.Assign [.Name x pos'] e pos) (mAsg (setV i) ma) := by
  obtain ⟨t, p, r⟩ := h.ex
  refine ⟨_, ps_set hN hi hx p hs hf, fun C0 H0 B C H σ δ N S h => r C0 H0 B C H σ δ _ S (RP.imp (RP.bind h) (fun d δ1 h1 v C1 H1 e1 S1 d1 => ?_) PXs.of)⟩
  split at h1
  · rename_i δ' q
    exact h1 _ C1 H1 e1 (S1.set q d1)
  · exact h1.elim
theorem ds_setM (i : Nat) {x : Str} {pos' : Pos} {ml : M (List D)} (hN : X.N.Nodup) (h : DL' X EC W e ml) (hi : X.N[i]? = some x := by rfl) (hx : Loc X.env.scope x := by first | exact Or.inl rfl | exact Or.inr rfl) (hs : swapsWith e (some (.Name x pos')) pos.line X.env = pure false := by rfl)
    (hf : X.fn x = true ∨ X.env.scope.names.lookup x = some .local := by first | exact .inl rfl | exact .inr rfl) : DS X EC W (.Assign [.Name x pos'] e pos) (mSetM i ml) := by
  obtain ⟨t, p, r⟩ := h.ex
  exact ⟨_, ps_set hN hi hx p hs hf, set_readM r⟩
/-- name = [.. for ..] on one line -/
theorem ds_setLc (i : Nat) {y : Str} {py : Pos} {elt tg iter : Expr} {ifs : List Expr} {scope : Scope} {own : List (Str × Nat)} {pos spos : Pos} {mi : M (List D)} {ts : List Nat} {g : D → Dl → Option Dl} {mt : M Bool} {me : M D} {W0 : WX} (hc : X.calm = true) (hN : X.N.Nodup) (hy : X.N[i]? = some y) (hyl : X.env.scope.names.lookup y = some .local)
    (hsw : swapsWith (.ListComp elt [⟨tg, iter, ifs, 0⟩] scope pos) (some (.Name y py)) spos.line X.env = pure true) (hi : DI X EC W tg iter mi) (ok : BlkOk X.N X.env.scope scope own)
    (hg : ∀ (s : Shared) (H : Hp) (C : Addr) (cl : List (Str × Addr)) (fp : List Addr), DG (X.blk s H scope (compEnvC scope cl C X.env) fp) tg ts g) (hts : ∀ k ∈ ts, k ∈ own.map (·.2))
    (ht : ∀ (s : Shared) (H : Hp) (C : Addr) (cl : List (Str × Addr)) (fp : List Addr), DTs (X.blk s H scope (compEnvC scope cl C X.env) fp) EC W0 ifs mt)
    (he : ∀ (s : Shared) (H : Hp) (C : Addr) (cl : List (Str × Addr)) (fp : List Addr), DE (X.blk s H scope (compEnvC scope cl C X.env) fp) EC W0 elt me) (hs : ∀ x, foldedSetIterable iter X.env x = pure x := by intro _; rfl) :
    DS X EC W (.Assign [.Name y py] (.ListComp elt [⟨tg, iter, ifs, 0⟩] scope pos) spos) (mSetL i (mLcS (own.map (·.2)) mi g mt me)) := by
  obtain ⟨wi, pi, ri⟩ := hi.ex
  exact ⟨_, ps_setLc (g := tGd X.K ts g) (tt := tTd X.K EC W0 mt) (te := tE X.K EC W0 me) hc hN hy hyl hsw pi ok (fun s H C cl fp => (hg s H C cl fp).pg) (fun s H C cl fp => (ht s H C cl fp).ex) (fun s H C cl fp => (he s H C cl fp).pe) hs, set_readL (lc_read hts ri)⟩
theorem ds_setLcM (i : Nat) {y : Str} {py : Pos} {elt tg iter : Expr} {ifs : List Expr} {scope : Scope} {own : List (Str × Nat)} {pos spos : Pos} {mi : M (List D)} {ts : List Nat} {g : D → Dl → Option Dl} {mt : M Bool} {me : M D} {W0 : WX} (hc : X.calm = true) (hN : X.N.Nodup) (hy : X.N[i]? = some y) (hyl : X.env.scope.names.lookup y = some .local)
    (hsw : swapsWith (.ListComp elt [⟨tg, iter, ifs, 0⟩] scope pos) (some (.Name y py)) spos.line X.env = pure true) (hi : DI X EC W tg iter mi) (ok : BlkOk X.N X.env.scope scope own)
    (hg : ∀ (s : Shared) (H : Hp) (C : Addr) (cl : List (Str × Addr)) (fp : List Addr), DG (X.blk s H scope (compEnvC scope cl C X.env) fp) tg ts g) (hts : ∀ k ∈ ts, k ∈ own.map (·.2))
    (ht : ∀ (s : Shared) (H : Hp) (C : Addr) (cl : List (Str × Addr)) (fp : List Addr), DTs (X.blk s H scope (compEnvC scope cl C X.env) fp) EC W0 ifs mt)
    (he : ∀ (s : Shared) (H : Hp) (C : Addr) (cl : List (Str × Addr)) (fp : List Addr), DE (X.blk s H scope (compEnvC scope cl C X.env) fp) EC W0 elt me) (hs : ∀ x, foldedSetIterable iter X.env x = pure x := by intro _; rfl) :
    DS X EC W (.Assign [.Name y py] (.ListComp elt [⟨tg, iter, ifs, 0⟩] scope pos) spos) (mSetM i (mLcS (own.map (·.2)) mi g mt me)) := by
  obtain ⟨wi, pi, ri⟩ := hi.ex
  exact ⟨_, ps_setLc (g := tGd X.K ts g) (tt := tTd X.K EC W0 mt) (te := tE X.K EC W0 me) hc hN hy hyl hsw pi ok (fun s H C cl fp => (hg s H C cl fp).pg) (fun s H C cl fp => (ht s H C cl fp).ex) (fun s H C cl fp => (he s H C cl fp).pe) hs, set_readM (lc_read hts ri)⟩
def mAug (i : Nat) (f : Int → Int → Int) (a : M D) : M Fl := fun δ => match δ[i]? with
  | some (.val (.int x)) => (a δ).bind fun d δ => match d with
    | .int y => match setV i (.int (f x y)) δ with
      | some δ' => .ok .nx δ'
      | none => .no
    | _ => .no
  | _ => .no
theorem ds_aug (i : Nat) {x : Str} {pos' : Pos} {op : Operator} {f : Int → Int → Int} (hN : X.N.Nodup) (h : DE X EC W e ma) (ho : PIp X op (ipI f)) (hi : X.N[i]? = some x := by rfl) (hx : Loc X.env.scope x := by first | exact Or.inl rfl | exact Or.inr rfl)
    (hf : X.fn x = true ∨ X.env.scope.names.lookup x = some .local := by first | exact .inl rfl | exact .inr rfl) : DS X EC W (.AugAssign (.Name x pos') op e pos) (mAug i f ma) := by
  obtain ⟨t, p, r⟩ := h.ex
  refine ⟨_, ps_aug hN hi hx p ho hf, fun C0 H0 B C H σ δ N S h => ?_⟩
  unfold mAug at h
  split at h
  · rename_i y q
    obtain ⟨v, h1, h2⟩ := S.val i _ q
    cases h2
    refine ⟨_, h1, r C0 H0 B C H σ δ _ S (RP.imp (RP.bind h) (fun d δ1 h1 v C1 H1 e1 S1 d1 => ?_) PXs.of)⟩
    split at h1
    · split at h1
      · rename_i δ' q'
        cases d1
        exact ⟨_, _, rfl, rfl, h1 _ C1 H1 e1 (S1.set q' (.int _))⟩
      · exact h1.elim
    · exact h1.elim
  · exact h.elim

/-! ### a list that is changed -/
theorem SR.chg {K : PySem.W.Frag} {C0 H0 C H : Hp} {B : List (Nat × Addr)} {σ : L2.St} {δ : Dl} (S : SR K C0 H0 B C H σ δ) {i : Nat} {b : Bool} {ds : List D} (h : δ[i]? = some (.var b ds)) :
    ∃ l xs, σ[i]? = some (some (.ref l)) ∧ H l = some (.lst xs) ∧ DqAll K C xs ds ∧ C l = none ∧ ∀ ys es, DqAll K C ys es → SR K C0 H0 B C (upd H l (.lst ys)) σ (δ.set i (.var b es)) := by
  have hi : i < δ.length := (List.getElem?_eq_some_iff.mp h).1
  have fin : ∀ l xs, σ[i]? = some (some (.ref l)) → H l = some (.lst xs) → C l = none → (b = false → H0 l = none) → (b = true → (i, l) ∈ B) → ∀ ys es, DqAll K C ys es → SR K C0 H0 B C (upd H l (.lst ys)) σ (δ.set i (.var b es)) := by
    intro l xs h1 h2 h3 h4 h5 ys es hd
    have other : ∀ (k : Nat) (b' : Bool) (fs : List D), k ≠ i → δ[k]? = some (.var b' fs) → ∀ l', σ[k]? = some (some (.ref l')) → l' ≠ l := fun k b' fs hk z l' z' e => by
      subst e
      cases b with
      | false =>
        cases b' with
        | false => exact S.odis k i fs ds hk z h l' z' h1
        | true =>
          obtain ⟨m, hm⟩ := S.btr k fs z
          obtain ⟨_, _, _, w2, _⟩ := S.bor _ hm
          rw [z'] at w2
          cases w2
          exact S.bH0 _ hm (h4 rfl)
      | true =>
        have hb := h5 rfl
        cases b' with
        | false =>
          obtain ⟨m, _, w1, w2, _⟩ := S.own k fs z
          rw [z'] at w1
          cases w1
          exact S.bH0 _ hb w2
        | true =>
          obtain ⟨m, hm⟩ := S.btr k fs z
          obtain ⟨_, _, _, w2, _⟩ := S.bor _ hm
          rw [z'] at w2
          cases w2
          exact hk (S.bd1 _ hm _ hb rfl)
    refine ⟨by rw [List.length_set]; exact S.len, S.c0, fun a u z => ?_, fun a u z hb => ?_, S.nw, fun k d z => ?_, fun k fs z => ?_, fun p hp => ?_, fun k fs z => ?_, S.bd1, S.bd2, S.bH0, fun k j fs gs hkj z1 z2 => ?_⟩
    · rw [upd_ne (ne_of_none z h3)]
      exact S.ch a u z
    · have hn : a ≠ l := fun e => by
        subst e
        cases b with
        | false => rw [h4 rfl] at z; cases z
        | true => exact hb _ (h5 rfl) rfl
      rw [upd_ne hn]
      exact S.fr a u z hb
    · have hn : i ≠ k := fun e => by
        subst e
        rw [List.getElem?_set_self hi] at z
        cases z
      rw [List.getElem?_set_ne hn] at z
      exact S.val k d z
    · by_cases q : i = k
      · subst q
        rw [List.getElem?_set_self hi] at z
        cases z
        exact ⟨l, ys, h1, h4 rfl, h3, upd_same, hd⟩
      · rw [List.getElem?_set_ne q] at z
        obtain ⟨l', xs', w1, w2, w3, w4, w5⟩ := S.own k fs z
        refine ⟨l', xs', w1, w2, w3, ?_, w5⟩
        rw [upd_ne (other k false fs (fun e => q e.symm) z l' w1)]
        exact w4
    · obtain ⟨fs, xs', w1, w2, w3, w4, w5⟩ := S.bor p hp
      by_cases q : i = p.1
      · have e1 : (.var b ds : Cell) = .var true fs := by
          rw [q, w1] at h
          exact (Option.some.inj h).symm
        cases e1
        have e2 : p.2 = l := by
          rw [← q, h1] at w2
          exact (V.ref.inj (Option.some.inj (Option.some.inj w2))).symm
        refine ⟨es, ys, ?_, w2, w3, ?_, hd⟩
        · rw [← q, List.getElem?_set_self hi]
        · rw [e2]
          exact upd_same
      · refine ⟨fs, xs', ?_, w2, w3, ?_, w5⟩
        · rw [List.getElem?_set_ne q]
          exact w1
        · rw [upd_ne (other p.1 true fs (fun e => q e.symm) w1 p.2 w2)]
          exact w4
    · by_cases q : i = k
      · subst q
        rw [List.getElem?_set_self hi] at z
        cases z
        exact ⟨l, h5 rfl⟩
      · rw [List.getElem?_set_ne q] at z
        exact S.btr k fs z
    · by_cases q : i = k
      · subst q
        rw [List.getElem?_set_self hi] at z1
        cases z1
        rw [List.getElem?_set_ne hkj] at z2
        exact S.odis i j ds gs hkj h z2
      · rw [List.getElem?_set_ne q] at z1
        by_cases q' : i = j
        · subst q'
          rw [List.getElem?_set_self hi] at z2
          cases z2
          exact S.odis k i fs ds hkj z1 h
        · rw [List.getElem?_set_ne q'] at z2
          exact S.odis k j fs gs hkj z1 z2
  cases b with
  | false =>
    obtain ⟨l, xs, h1, h2, h3, h4, h5⟩ := S.own i ds h
    exact ⟨l, xs, h1, h4, h5, h3, fin l xs h1 h4 h3 (fun _ => h2) fun z => nomatch z⟩
  | true =>
    obtain ⟨l, hl⟩ := S.btr i ds h
    obtain ⟨ds', xs, h1, h2, h3, h4, h5⟩ := S.bor _ hl
    have h1' : δ[i]? = some (.var true ds') := h1
    rw [h] at h1'
    cases h1'
    exact ⟨l, xs, h2, h4, h5, h3, fin l xs h2 h4 h3 (fun z => nomatch z) fun _ => hl⟩
/-- xs.append(e), xs a list that may be changed -/
def mApp (i : Nat) (a : M D) : M Fl := fun δ => match δ[i]? with
  | some (.var _ _) => (a δ).bind fun d δ => match δ[i]? with
    | some (.var b ds) => if ds.length < LINE then .ok .nx (δ.set i (.var b (ds ++ [d]))) else .no
    | _ => .no
  | _ => .no
theorem ds_app (i : Nat) {x : Str} {px : Pos} (h : DE X EC W e ma) (hN : X.N[i]? = some x := by rfl) (hv : Vis X.env.scope x := by first | exact Or.inl rfl | exact Or.inr (Or.inl rfl) | exact Or.inr (Or.inr rfl)) (hd : (x == ("__debug__" : Str)) = false := by decide) (hcd : (x == ("__classdict__" : Str)) = false := by decide)
    (hbase : attributeBase (.Name x px) "append" X.env (eval (.Name x px) X.env) = eval (.Name x px) X.env := by rfl)
    (hfew : ((backTo pos (starEach (e :: []) X.env)).all (fun x => !x.1) && (backToKw pos (keywordEach [] X.env)).all (fun x => x.1.isSome)
      && decide ((e :: []).length + ([] : List Keyword).length + (if ([] : List Keyword).isEmpty then 0 else 1) < 30)) = true := by rfl)
    (hline : (apos.endLine == pos.line) = true := by rfl) (hs : starEach (e :: []) X.env = (false, eval e X.env) :: starEach [] X.env := by rfl) (hplain : (backTo pos (starEach [] X.env)).any (·.1) = false := by rfl)
    (hsw : swapsWith (.Call (.Attribute (.Name x px) "append" apos) [e] [] pos) none p2.line X.env = pure false := by rfl) :
    DS X EC W (.Expr (.Call (.Attribute (.Name x px) "append" apos) [e] [] pos) p2) (mApp i ma) := by
  obtain ⟨t, p, r⟩ := h.ex
  refine ⟨_, ps_expr (pe_bm PySem.F.plainAttrs_list PySem.F.slot_list_append PySem.F.type_list_append mt_append (pe_var hN hv hd hcd) (pa_cons p pa_nil hs) hbase hfew hline hs hplain) hsw, fun C0 H0 B C H σ δ N S h => ?_⟩
  unfold mApp at h
  split at h
  case h_2 => exact h.elim
  rename_i b0 ds0 hq
  obtain ⟨l0, xs0, k1, k2, k3, k4, _⟩ := S.chg hq
  refine ⟨.ref l0, k1, .inl ⟨rfl, xs0, SqL.of k2⟩, r C0 H0 B C H σ δ _ S (RP.imp (RP.bind h) (fun d δ1 h1 v C1 H1 e1 S1 d1 => ?_) PXs.of)⟩
  split at h1
  case h_2 => exact h1.elim
  rename_i b ds hq1
  split at h1
  case isFalse => exact h1.elim
  rename_i hlen
  obtain ⟨l, xs, w1, w2, w3, w4, w5⟩ := S1.chg hq1
  rw [k1] at w1
  cases w1
  exact ⟨_, xs, v, rfl, rfl, w2, by rw [line_eq, dpa_len w3]; exact hlen, h1 σ C1 _ e1 (w5 _ _ (dpa_app w3 (dpa_one d1)))⟩
/-- xs[i], len(xs), xs a list that may be changed -/
def mIxM (i : Nat) (a : M D) : M D := fun δ => match δ[i]? with
  | some (.var _ _) => (a δ).bind fun d δ => match δ[i]?, d with
    | some (.var _ ds), .int k => R.lift (atI ds k) δ
    | _, _ => .no
  | _ => .no
theorem de_ixM (i : Nat) {x : Str} {px : Pos} (h : DE X EC W e ma) (hN : X.N[i]? = some x := by rfl) (hv : Vis X.env.scope x := by first | exact Or.inl rfl | exact Or.inr (Or.inl rfl) | exact Or.inr (Or.inr rfl)) (hd : (x == ("__debug__" : Str)) = false := by decide) (hcd : (x == ("__classdict__" : Str)) = false := by decide)
    (hs : PlainIx e := by exact fun _ _ => rfl) : DE X EC W (.Subscript (.Name x px) e pos) (mIxM i ma) := by
  obtain ⟨t, p, r⟩ := h.ex
  refine ⟨_, pe_ix ix_list (pe_var hN hv hd hcd) p hs, fun C0 H0 B C H σ δ Q S h => ?_⟩
  unfold mIxM at h
  split at h
  case h_2 => exact h.elim
  rename_i b0 ds0 hq
  obtain ⟨l0, xs0, k1, k2, k3, k4, _⟩ := S.chg hq
  refine ⟨.ref l0, k1, r C0 H0 B C H σ δ _ S (RP.imp (RP.bind h) (fun d δ1 h1 v C1 H1 e1 S1 d1 => ?_) fun _ _ _ z => z)⟩
  split at h1
  case h_2 => exact h1.elim
  rename_i b ds k hq1
  obtain ⟨z, hz, q⟩ := RP.lift h1
  obtain ⟨l, xs, w1, w2, w3, w4, w5⟩ := S1.chg hq1
  rw [k1] at w1
  cases w1
  cases d1
  obtain ⟨u, hu, du⟩ := dpa_atI w3 hz
  exact ⟨_, xs, _, u, rfl, rfl, SqL.of w2, hu, q u C1 H1 e1 S1 du⟩
def mLenM (i : Nat) : M D := fun δ => match δ[i]? with
  | some (.var _ ds) => .ok (.int ds.length) δ
  | _ => .no
theorem de_lenM (i : Nat) {x : Str} {px : Pos} (hg : Gl X "len") (hm : X.mg "len" = none) (hN : X.N[i]? = some x := by rfl) (hv : Vis X.env.scope x := by first | exact Or.inl rfl | exact Or.inr (Or.inl rfl) | exact Or.inr (Or.inr rfl)) (hd : (x == ("__debug__" : Str)) = false := by decide) (hcd : (x == ("__classdict__" : Str)) = false := by decide)
    (he : starEach (Expr.Name x px :: []) X.env = (false, eval (Expr.Name x px) X.env) :: starEach [] X.env := by rfl) (hpl : (backTo pos (starEach [] X.env)).any (·.1) = false := by rfl) : DE X EC W (.Call (.Name "len" p) [.Name x px] [] pos) (mLenM i) := by
  refine ⟨_, pe_callB call_len_seq hg hm PySem.boot_len (pa_cons (pe_var hN hv hd hcd) pa_nil he) (by decide) (by decide) he hpl, fun C0 H0 B C H σ δ Q S h => ?_⟩
  unfold mLenM at h
  split at h
  case h_2 => exact h.elim
  rename_i b0 ds0 hq
  obtain ⟨l0, xs0, k1, k2, k3, k4, _⟩ := S.chg hq
  refine ⟨.ref l0, k1, l0, xs0, rfl, .inl (SqL.of k2), ?_⟩
  rw [dpa_len k3]
  exact h _ C H (Ex.refl C) S (.int _)
/-- xs[i] = e -/
def mSetIx (i : Nat) (a b : M D) : M Fl := fun δ => (a δ).bind fun d δ => match δ[i]? with
  | some (.var _ _) => (b δ).bind fun y δ => match δ[i]?, y with
    | some (.var c ds), .int k => match ixN ds.length k with
      | some j => .ok .nx (δ.set i (.var c (ds.set j d)))
      | none => .no
    | _, _ => .no
  | _ => .no
theorem ds_setIx (i : Nat) {x : Str} {px pt : Pos} (h : DE X EC W e ma) (hb : DE X EC W b mb) (hN : X.N[i]? = some x := by rfl) (hv : Vis X.env.scope x := by first | exact Or.inl rfl | exact Or.inr (Or.inl rfl) | exact Or.inr (Or.inr rfl)) (hd : (x == ("__debug__" : Str)) = false := by decide) (hcd : (x == ("__classdict__" : Str)) = false := by decide)
    (hs1 : ∀ v, assign (.Subscript (.Name x px) b pt) X.env v = (do
      let ov ← holding [v] (eval (.Name x px) X.env)
      let iv ← holding [v, ov] (eval b X.env)
      standAt pt
      holding [v, ov, iv] (setItem ov iv v)
      release [v, ov, iv] []) := by intro _; rfl)
    (hs : swapsWithSole [.Subscript (.Name x px) b pt] e pos.line X.env = pure false := by rfl) (hw : swappedStores [.Subscript (.Name x px) b pt] e X.env = pure none := by rfl)
    (h1 : (assignEach [.Subscript (.Name x px) b pt] X.env).map (·.2) = [assign (.Subscript (.Name x px) b pt) X.env] := by rfl) : DS X EC W (.Assign [.Subscript (.Name x px) b pt] e pos) (mSetIx i ma mb) := by
  obtain ⟨t, p, r⟩ := h.ex
  obtain ⟨t2, p2, r2⟩ := hb.ex
  refine ⟨_, ps_asg p (pg_sub (pe_var hN hv hd hcd) p2 set_list hs1) hs hw h1, fun C0 H0 B C H σ δ N S h => r C0 H0 B C H σ δ _ S (RP.imp (RP.bind h) (fun d δ1 h1 v C1 H1 e1 S1 d1 => ?_) PXs.of)⟩
  split at h1
  case h_2 => exact h1.elim
  rename_i b0 ds0 hq
  obtain ⟨l0, xs0, k1, k2, k3, k4, _⟩ := S1.chg hq
  refine ⟨.ref l0, k1, r2 C0 H0 B C1 H1 σ δ1 _ S1 (RP.imp (RP.bind h1) (fun y δ2 h2 w C2 H2 e2 S2 d2 => ?_) fun c d δ z => PXe.mono e1 _ _ _ (PXs.of c d δ z))⟩
  split at h2
  case h_2 => exact h2.elim
  rename_i b ds k hq1
  split at h2
  case h_2 => exact h2.elim
  rename_i j hj
  obtain ⟨l, xs, w1, w2, w3, w4, w5⟩ := S2.chg hq1
  rw [k1] at w1
  cases w1
  cases d2
  exact ⟨_, xs, k, j, rfl, rfl, w2, by rw [dpa_len w3]; exact hj, h2 σ C2 _ (e1.trans e2) (w5 _ _ (dpa_set (dp_ex e2 _ _ d1) j w3))⟩

/-! ### loops -/
def mFor (g : D → Dl → Option Dl) (body : M Fl) : List D → M Fl
  | [], δ => .ok .nx δ
  | x :: xs, δ => match g x δ with
    | none => .no
    | some δ1 => (body δ1).bind fun f δ2 => match f with
      | .nx => mFor g body xs δ2
      | .ct => mFor g body xs δ2
      | .bk => .ok .nx δ2
      | .rt d => .ok (.rt d) δ2
def mForS (it : M (List D)) (g : D → Dl → Option Dl) (body : M Fl) : M Fl := fun δ => (it δ).bind fun xs δ => mFor g body xs δ
theorem ds_for (hp : PassesOwn (model X.prog X.w) X.A X.env X.xe) (hc : X.calm = true) {mi : M (List D)} (hi : DI X EC W tg iter mi) (hg : DG X tg ts g) (hb : DSs X EC W sa m1) (hs : ∀ x, foldedSetIterable iter X.env x = pure x := by intro _; rfl) :
    DS X EC W (.For tg iter sa [] pos) (mForS mi g m1) := by
  obtain ⟨wi, pi, ri⟩ := hi.ex
  obtain ⟨tg', pg, rg⟩ := hg.ex
  obtain ⟨tb, pb, rb⟩ := hb.ex
  refine ⟨_, ps_for hp hc pi pg pb hs, fun C0 H0 B C H σ δ N S h => ri C0 H0 B C H σ δ _ S (RP.imp (RP.bind h) (fun items δ1 h1 J C1 H1 e1 S1 it => ?_) PXs.of)⟩
  obtain ⟨G, Y, wk, hG, hY⟩ := it.ex
  refine for_it wk (fun i σ' H' => ∃ C' δ', Ex C1 C' ∧ SR X.K C0 H0 B C' H' σ' δ' ∧ RP (mFor g m1 (items.drop i) δ') (PKs X.K C0 H0 B C1 N) (PXs X.K EC W C0 H0 B C1)) ⟨C1, δ1, Ex.refl _, S1, RP.imp h1 (PKs.mono e1) (PXs.mono e1)⟩ (fun i σ' H' _ ⟨C', δ', e2, S2, _⟩ => hG H' (e2.trans S2.ch)) ?_ ?_
  · rintro i x σ2 H2 H3 hi ⟨C', δ', e2, S2, q⟩ y
    have hdrop : items.drop i = items[i] :: items.drop (i + 1) := List.drop_eq_getElem_cons hi
    have hget : items[i]? = some items[i] := List.getElem?_eq_getElem hi
    rw [hdrop] at q
    unfold mFor at q
    refine hY i _ hget C' H2 x H3 (fun x H3 => tg' x σ2 H3 _) e2 S2.ch y (rs_of (C0 := C0) (H0 := H0) (B := B) (σ := σ2) (δ := δ') S2 fun v C3 H3 e3 S3 d3 => ?_)
    cases hg1 : g items[i] δ' with
    | none => rw [hg1] at q; exact q.elim
    | some δ4 =>
      rw [hg1] at q
      refine rg C0 H0 B C3 H3 σ2 δ' δ4 v _ _ S3 d3 hg1 fun σ4 S4 _ => rb C0 H0 B C3 H3 σ4 δ4 _ S4 (RP.imp (RP.bind q) (fun f δ5 h5 σ5 C5 H5 e5 S5 => ?_) (PXs.mono (e2.trans e3)))
      cases f with
      | nx => exact ⟨C5, δ5, (e2.trans e3).trans e5, S5, h5⟩
      | ct => exact ⟨C5, δ5, (e2.trans e3).trans e5, S5, h5⟩
      | bk => exact h5 σ5 C5 H5 ((e2.trans e3).trans e5) S5
      | rt d => exact h5 σ5 C5 H5 ((e2.trans e3).trans e5) S5
  · rintro σ2 H2 ⟨C', δ', e2, S2, q⟩
    rw [List.drop_length] at q
    exact q σ2 C' H2 e2 S2
def mWhile (t : M Bool) (body : M Fl) : Nat → M Fl
  | 0, _ => .no
  | n + 1, δ => (t δ).bind fun b δ1 => if b then (body δ1).bind fun f δ2 => match f with
      | .nx => mWhile t body n δ2
      | .ct => mWhile t body n δ2
      | .bk => .ok .nx δ2
      | .rt d => .ok (.rt d) δ2
    else .ok .nx δ1
open Classical in
noncomputable def mWhileS (t : M Bool) (body : M Fl) : M Fl := fun δ => if h : ∃ n, mWhile t body n δ ≠ .no then mWhile t body h.choose δ else .no
theorem bind_ne {α β : Type} {r : R α} {f : α → Dl → R β} (h : r.bind f ≠ .no) : r ≠ .no := fun e => h (by rw [e]; rfl)
theorem mWhile_succ (t : M Bool) (body : M Fl) : ∀ n δ, mWhile t body n δ ≠ .no → mWhile t body (n + 1) δ = mWhile t body n δ
  | 0, δ, h => absurd rfl h
  | n + 1, δ, h => by
    unfold mWhile at h ⊢
    cases q : t δ with
    | no => rfl
    | ex c d δ' => rfl
    | ok b δ1 =>
      rw [q] at h
      cases b with
      | false => rfl
      | true =>
        simp only [R.bind, if_true] at h ⊢
        cases q2 : body δ1 with
        | no => rfl
        | ex c d δ' => rfl
        | ok f δ2 =>
          rw [q2] at h
          cases f with
          | nx => exact mWhile_succ t body n δ2 h
          | ct => exact mWhile_succ t body n δ2 h
          | bk => rfl
          | rt d => rfl
theorem mWhile_add (t : M Bool) (body : M Fl) (n : Nat) (δ : Dl) (h : mWhile t body n δ ≠ .no) : ∀ k, mWhile t body (n + k) δ = mWhile t body n δ
  | 0 => rfl
  | k + 1 => by
    have ih := mWhile_add t body n δ h k
    show mWhile t body ((n + k) + 1) δ = _
    rw [mWhile_succ t body (n + k) δ (by rw [ih]; exact h), ih]
theorem mWhileS_eq {t : M Bool} {body : M Fl} {n : Nat} {δ : Dl} (h : mWhile t body n δ ≠ .no) : mWhileS t body δ = mWhile t body n δ := by
  have hx : ∃ n, mWhile t body n δ ≠ .no := ⟨n, h⟩
  unfold mWhileS
  rw [dif_pos hx]
  have hc := hx.choose_spec
  rcases Nat.le_total n hx.choose with l | l
  · obtain ⟨k, e⟩ := Nat.le.dest l
    rw [← e]
    exact mWhile_add t body n δ h k
  · obtain ⟨k, e⟩ := Nat.le.dest l
    rw [← e]
    exact (mWhile_add t body _ δ hc k).symm
theorem ds_while (hp : PassesOwn (model X.prog X.w) X.A X.env X.xe) (hc : DT X EC W c mt) (hb : DSs X EC W sa m1) : DS X EC W (.While c sa [] pos) (mWhileS mt m1) := by
  obtain ⟨tc, pc, rc⟩ := hc.ex
  obtain ⟨tb, pb, rb⟩ := hb.ex
  refine ⟨_, ps_while hp pc pb, fun C0 H0 B C H σ δ N S h => ?_⟩
  unfold mWhileS at h
  split at h
  case isFalse => exact h.elim
  rename_i hx
  refine ⟨fun n σ' H' => ∃ C' δ', Ex C C' ∧ SR X.K C0 H0 B C' H' σ' δ' ∧ RP (mWhile mt m1 n δ') (PKs X.K C0 H0 B C N) (PXs X.K EC W C0 H0 B C), ⟨_, C, δ, Ex.refl C, S, h⟩, ?_⟩
  rintro n σ2 H2 ⟨C', δ', e2, S2, q⟩
  cases n with
  | zero => exact q.elim
  | succ n =>
    unfold mWhile at q
    refine rc C0 H0 B C' H2 σ2 δ' _ S2 (RP.imp (RP.bind q) (fun b δ3 h3 C3 H3 e3 S3 => ?_) fun c d δ z => PXs.of c d δ (PXs.mono e2 c d δ z))
    cases b with
    | false => exact h3 σ2 C3 H3 (e2.trans e3) S3
    | true =>
      refine ⟨fun σ' H' => ∃ C' δ', Ex C C' ∧ SR X.K C0 H0 B C' H' σ' δ' ∧ RP (mWhile mt m1 n δ') (PKs X.K C0 H0 B C N) (PXs X.K EC W C0 H0 B C), fun σ' H' z => ⟨n, Nat.lt_succ_self n, z⟩, ?_⟩
      refine rb C0 H0 B C3 H3 σ2 δ3 _ S3 (RP.imp (RP.bind h3) (fun f δ4 h4 σ4 C4 H4 e4 S4 => ?_) (PXs.mono (e2.trans e3)))
      cases f with
      | nx => exact ⟨C4, δ4, (e2.trans e3).trans e4, S4, h4⟩
      | ct => exact ⟨C4, δ4, (e2.trans e3).trans e4, S4, h4⟩
      | bk => exact h4 σ4 C4 H4 ((e2.trans e3).trans e4) S4
      | rt d => exact h4 σ4 C4 H4 ((e2.trans e3).trans e4) S4

/-! ### defs -/
/-- what a def gives of data; n: how many slots it has -/
def mDef (n : Nat) (body : M Fl) (ds : List D) : R D := (body (ds.map .val ++ List.replicate (n - ds.length) .non)).bind fun f _ => match f with
  | .rt d => .ok d []
  | .nx => .ok .none []
  | _ => .no
def SpP (K : PySem.W.Frag) (n : Nat) (mf : List D → R D) : Sp := fun vs H Q _ => ∃ C ds, Ex C H ∧ DqAll K C vs ds ∧ vs.length = n ∧
  RP (mf ds) (fun d _ => ∀ v C2 H2, Ex C C2 → Ex H H2 → Ex C2 H2 → (∀ a, H a ≠ none → C a = none → C2 a = none) → Dq K C2 v d → Q v H2) fun _ _ _ => False
end
theorem start_sr {K : PySem.W.Frag} {C H : Hp} {N : List Str} {vs : List V} {ds : List D} (e : Ex C H) (h : DqAll K C vs ds) : SR K C H [] C H (L2.start N vs) (ds.map .val ++ List.replicate (N.length - ds.length) .non) := by
  have hl := dpa_len h
  have nov : ∀ {i : Nat} {b : Bool} {es : List D}, (ds.map Cell.val ++ List.replicate (N.length - ds.length) .non)[i]? ≠ some (.var b es) := fun {i b es} z => by
    have m := List.mem_of_getElem? z
    rcases List.mem_append.mp m with m | m
    · obtain ⟨d, _, q⟩ := List.mem_map.mp m
      cases q
    · have := List.eq_of_mem_replicate m
      cases this
  refine ⟨?_, Ex.refl C, e, fun a o z _ => z, fun a _ z => z, fun i d z => ?_, fun i es z => absurd z nov, fun p hp => (by cases hp), fun i es z => absurd z nov, fun p hp => (by cases hp), fun p hp => (by cases hp), fun p hp => (by cases hp), fun i j es fs _ z => absurd z nov⟩
  · unfold L2.start
    simp [hl]
  · have hi : i < ds.length := by
      rcases Nat.lt_or_ge i ds.length with h | h
      · exact h
      · rw [List.getElem?_append_right (by simpa using h)] at z
        have := List.eq_of_mem_replicate (List.mem_of_getElem? z)
        cases this
    rw [List.getElem?_append_left (by simpa using hi), List.getElem?_map] at z
    cases q : ds[i]? with
    | none => rw [q] at z; cases z
    | some d' =>
      rw [q] at z
      cases z
      obtain ⟨v, h1, h2⟩ := dpa_get h q
      refine ⟨v, ?_, h2⟩
      unfold L2.start
      rw [List.getElem?_append_left (by simpa [hl] using hi), List.getElem?_map, h1]
      rfl
section
variable {P : Program} {w : World} {K : PySem.W.Frag} {mg : Str → Option Value} {base : Heap}
/-- THE RULE of a def that no exception leaves -/
theorem def_ok {x qual : Str} {st : Stmt} {f : Addr} {fd : FuncData} {N ps : List Str} {k : Nat} {EC : ECl} {m : M Fl} (F : Fun K x qual st f fd) (S : FnScope N ps (defScope st))
    (hb : ∀ (cdv : Value) (A : Around) (outer : List Env) (s : Shared) (H : Hp) (E : XK), Room k (A.deeper (envOfC qual (defScope st) s.heap.objs.size f cdv)) →
      DSs (cxOf CX0 P w K mg base N qual (defScope st) f cdv A outer s H E).nox EC (fun _ _ _ _ => False) (defBody st) m) : FnOk P w K mg base CX0 (k + 1) f fd ps (SpP K ps.length (mDef N.length m)) := by
  refine F.ok S (fun vs H Q E h => ?_) (fun cdv A outer s H vs Q E hr h => ?_)
  · obtain ⟨C, ds, _, _, hl, _⟩ := h
    exact hl
  · obtain ⟨C, ds, e, hd, hl, q⟩ := h
    obtain ⟨t, p, r⟩ := (hb cdv A outer s H E hr).ex
    refine ⟨t, p, r C H [] C H (L2.start N vs) _ _ (start_sr e hd) (RP.imp (RP.bind q) (fun f δ h1 σ C2 H2 e2 S2 => ?_) fun c d δ z => z.elim)⟩
    have n2 : ∀ a, H a ≠ none → C a = none → C2 a = none := S2.nw
    have eH : Ex H H2 := fun a o z => S2.fr a o z fun p hp => by cases hp
    cases f with
    | nx => exact h1 .non C2 H2 e2 eH S2.ch n2 .non
    | rt d => exact fun v hv => h1 v C2 H2 e2 eH S2.ch n2 hv
    | bk => exact h1.elim
    | ct => exact h1.elim
end
section
variable {X : Cx} {EC : ECl} {W : WX} {e : Expr} {es : List Expr} {mes : M (List D)} {pos p : Pos} {k : Nat} {f : Addr} {fd : FuncData} {ps : List Str} {n : Nat} {mf : List D → R D} {x : Str}
def mCallF (mf : List D → R D) (a : M (List D)) : M D := fun δ => (a δ).bind fun ds δ => match mf ds with
  | .ok d _ => .ok d δ
  | _ => .no
theorem de_call (F : FnOk X.prog X.w X.K X.mg X.base CX0 k f fd ps (SpP X.K n mf)) (hr : Room k X.A) (hn : es.length + 1 = n) (hm : X.mg x = some (.ref f)) (hk : PySem.W.keepIn X.K (.ref f) = true) (hb : Binds X.K fd ps []) (ha : DA X EC W (e :: es) mes) (hg : Gl X x := by rfl)
    (hdb : (x == ("__debug__" : Str)) = false := by decide) (he : starEach (e :: es) X.env = (false, eval e X.env) :: starEach es X.env := by rfl) (hpl : (backTo pos (starEach es X.env)).any (·.1) = false := by rfl) : DE X EC W (.Call (.Name x p) (e :: es) [] pos) (mCallF mf mes) := by
  obtain ⟨t, pa, ra⟩ := ha.ex
  refine ⟨_, pe_call (dvs := []) (ds := []) F hr hg hm hk hb .nil pass0 pa hdb he hpl, fun C0 H0 B C H σ δ Q S h => ?_⟩
  have hb := RP.bind h
  refine ra C0 H0 B C H σ δ _ S ?_
  cases q : mes δ with
  | no => rw [q] at hb; exact hb.elim
  | ex c d δ' => rw [q] at hb; exact hb
  | ok ds δ1 =>
    rw [q] at hb
    have hl := ha.len δ ds δ1 q
    intro vs C1 H1 e1 S1 d1
    refine ⟨C1, ds, S1.ch, by rw [List.append_nil]; exact d1, by rw [List.append_nil, dpa_len d1, hl]; exact hn, ?_⟩
    have hb : RP (match mf ds with | .ok d _ => R.ok d δ1 | _ => .no) (PKe X.K C0 H0 B C σ Q) (PXe X.K EC W C0 H0 B C σ) := hb
    cases q2 : mf ds with
    | no => rw [q2] at hb; exact hb.elim
    | ex c d δ' => rw [q2] at hb; exact hb.elim
    | ok d δ2 =>
      rw [q2] at hb
      intro v C2 H2 e2 e3 e4 n2 dv
      exact hb v C2 H2 (e1.trans e2) (S1.step e2 e3 e4 n2) dv
end
end DL
end Part_DLg

section Part_DLh
set_option Elab.async false
set_option linter.all false
set_option maxRecDepth 100000
set_option autoImplicit false
set_option maxHeartbeats 2000000
namespace DL
open PySem PySem.Spec PyProof.Rows L2 Evl

/-! ### defs by name -/
/-- the def st stands at the name x -/
structure FunX (K : PySem.W.Frag) (mg : Str → Option Value) (x : Str) (st : Stmt) (ps : List Str) : Prop where
  ex : ∃ f fd, Fun K x x st f fd ∧ mg x = some (.ref f) ∧ ∀ (s : Shared) (us : List Value), us.length = ps.length → BindsTo s fd ⟨us, []⟩ (ps.zip us)
theorem binds_of {K : PySem.W.Frag} {fd : FuncData} {ps : List Str} (h : ∀ (s : Shared) (us : List Value), us.length = ps.length → BindsTo s fd ⟨us, []⟩ (ps.zip us)) : Binds K fd ps [] := fun s us _ hl => by
  rw [List.append_nil] at hl ⊢
  exact h s us hl
/-- .. and does what the mirror mf says -/
structure FnX (P : Program) (w : World) (K : PySem.W.Frag) (mg : Str → Option Value) (base : Heap) (k : Nat) (x : Str) (n : Nat) (mf : List D → R D) : Prop where
  ex : ∃ f fd ps, FnOk P w K mg base CX0 k f fd ps (SpP K n mf) ∧ mg x = some (.ref f) ∧ PySem.W.keepIn K (.ref f) = true ∧ Binds K fd ps []
section
variable {P : Program} {w : World} {K : PySem.W.Frag} {mg : Str → Option Value} {base : Heap}
theorem def_okX {x : Str} {st : Stmt} {N ps : List Str} {k : Nat} {EC : ECl} {m : M Fl} (F : FunX K mg x st ps) (S : FnScope N ps (defScope st))
    (hb : ∀ (f : Addr) (cdv : Value) (A : Around) (outer : List Env) (s : Shared) (H : Hp) (E : XK), Room k (A.deeper (envOfC x (defScope st) s.heap.objs.size f cdv)) →
      DSs (cxOf CX0 P w K mg base N x (defScope st) f cdv A outer s H E).nox EC (fun _ _ _ _ => False) (defBody st) m) : FnX P w K mg base (k + 1) x ps.length (mDef N.length m) := by
  obtain ⟨f, fd, F, hg, hbi⟩ := F.ex
  exact ⟨f, fd, ps, def_ok F S fun cdv A outer s H E hr => hb f cdv A outer s H E hr, hg, F.kp, binds_of hbi⟩
theorem funX_mk {h : Heap} {x : Str} {st : Stmt} {ps : List Str} {f : Addr} {oc : Value} {od an : Option Addr} {osl : Array (Option Value)} {kV doc pm cdv ct : Value} (X : K.In h) (G : h.Ns mainGlobals mg) (a : PySem.W.nsIn K mainGlobals x = some (some (.ref f)))
    (l : K.lookup f = some ⟨oc, od, .func (PySem.W.fnOf x x (defArgs st) (defBody st) (defScope st) .none kV doc pm an cdv ct), osl⟩) (c : PySem.W.codeIn K cdv x = true) (k : PySem.W.keepIn K (.ref f) = true)
    (hb : ∀ (kV doc pm : Value) (an : Option Addr) (cdv ct : Value) (us : List Value), us.length = ps.length → bindArgs (PySem.W.fnOf x x (defArgs st) (defBody st) (defScope st) .none kV doc pm an cdv ct) ⟨us, []⟩ = pure (ps.zip us)) : FunX K mg x st ps := by
  have F := fun_mk (st := st) l c k
  exact ⟨f, _, F, PySem.W.mg_of X G a, fun s us hl => .of_eq (hb _ _ _ _ _ _ us hl)⟩
/-- a constant of the module -/
structure ConX (K : PySem.W.Frag) (mg : Str → Option Value) (x : Str) (d : D) : Prop where
  ex : ∃ v u, mg x = some u ∧ RelV v u ∧ ∀ C, Dq K C v d
theorem con_int {h : Heap} {x : Str} {i : Int} {t : Tok} (X : K.In h) (G : h.Ns mainGlobals mg) (a : PySem.W.nsIn K mainGlobals x = some (some (.int i t))) : ConX K mg x (.int i) := ⟨.int i, _, PySem.W.mg_of X G a, ⟨t, rfl⟩, fun _ => .int i⟩
theorem con_str {h : Heap} {x z : Str} {t : Tok} (X : K.In h) (G : h.Ns mainGlobals mg) (a : PySem.W.nsIn K mainGlobals x = some (some (.str z t))) : ConX K mg x (.str z) := ⟨.str z, _, PySem.W.mg_of X G a, ⟨t, rfl⟩, fun _ => .str z⟩
/-- values that are data by themselves -/
def flatU : Value → Option D
  | .none => some .none
  | .bool b => some (.bool b)
  | .int i _ => some (.int i)
  | .str s _ => some (.str s)
  | _ => none
theorem flatU_ok {u : Value} {d : D} (h : flatU u = some d) : ∃ v, RelV v u ∧ ∀ (K : PySem.W.Frag) C, Dq K C v d := by
  cases u <;> first | (cases h; done) | skip
  · cases h; exact ⟨.non, rfl, fun _ _ => .non⟩
  · rename_i b; cases h; exact ⟨.bl b, rfl, fun _ _ => .bl b⟩
  · rename_i i t; cases h; exact ⟨.int i, ⟨t, rfl⟩, fun _ _ => .int i⟩
  · rename_i s t; cases h; exact ⟨.str s, ⟨t, rfl⟩, fun _ _ => .str s⟩
def flatsU : List Value → Option (List D)
  | [] => some []
  | u :: us => match flatU u, flatsU us with
    | some d, some ds => some (d :: ds)
    | _, _ => none
theorem flatsU_ok : ∀ {us : List Value} {ds : List D}, flatsU us = some ds → ∃ vs, Vals vs us ∧ ∀ (K : PySem.W.Frag) C, DqAll K C vs ds
  | [], _, h => by cases h; exact ⟨[], .nil, fun _ _ => .nil⟩
  | u :: us, ds, h => by
    unfold flatsU at h
    split at h
    · rename_i d ds' h1 h2
      cases h
      obtain ⟨v, r, q⟩ := flatU_ok h1
      obtain ⟨vs, rs, qs⟩ := flatsU_ok h2
      exact ⟨v :: vs, .cons r rs, fun K C => .cons (q K C) (qs K C)⟩
    · cases h
theorem con_tup {h : Heap} {x : Str} {a : Addr} {dd : Option Addr} {us : List Value} {n : Nat} {sl : Array (Option Value)} {ds : List D} (X : K.In h) (G : h.Ns mainGlobals mg) (e : PySem.W.nsIn K mainGlobals x = some (some (.ref a)))
    (l : K.lookup a = some ⟨.type "tuple", dd, .seq us.toArray n, sl⟩) (hd : flatsU us = some ds) (hz : us.length ≤ 100000 := by decide) : ConX K mg x (.tuple ds) := by
  obtain ⟨vs, r, q⟩ := flatsU_ok hd
  exact ⟨.ref a, _, PySem.W.mg_of X G e, rfl, fun C => .tup (.inr ⟨_, us.toArray, n, l, rfl, rfl, sz_of (by simpa using hz), by simpa using r⟩) (q K C)⟩
end
section
variable {X : Cx} {EC : ECl} {W : WX} {e : Expr} {es : List Expr} {mes : M (List D)} {pos p : Pos} {k n : Nat} {mf : List D → R D} {x : Str} {d : D}
theorem de_callX (F : FnX X.prog X.w X.K X.mg X.base k x n mf) (hr : Room k X.A) (ha : DA X EC W (e :: es) mes) (hn : es.length + 1 = n := by rfl) (hg : Gl X x := by rfl)
    (hdb : (x == ("__debug__" : Str)) = false := by decide) (he : starEach (e :: es) X.env = (false, eval e X.env) :: starEach es X.env := by rfl) (hpl : (backTo pos (starEach es X.env)).any (·.1) = false := by rfl) :
    DE X EC W (.Call (.Name x p) (e :: es) [] pos) (mCallF mf mes) := by
  obtain ⟨f, fd, ps, F, hm, hk, hb⟩ := F.ex
  exact de_call F hr hn hm hk hb ha hg hdb he hpl
theorem de_callX0 (F : FnX X.prog X.w X.K X.mg X.base k x 0 mf) (hr : Room k X.A) (hg : Gl X x := by rfl)
    (hdb : (x == ("__debug__" : Str)) = false := by decide) : DE X EC W (.Call (.Name x p) [] [] pos) (mCallF mf mNil) := by
  obtain ⟨f, fd, ps, F, hm, hk, hb⟩ := F.ex
  refine ⟨_, pe_call0 (dvs := []) (ds := []) F hr hg hm hk hb .nil pass0 hdb, fun C0 H0 B C H σ δ Q S h => ?_⟩
  refine ⟨C, [], S.ch, .nil, rfl, ?_⟩
  have h : RP (match mf [] with | .ok d _ => R.ok d δ | _ => .no) (PKe X.K C0 H0 B C σ Q) (PXe X.K EC W C0 H0 B C σ) := h
  cases q2 : mf [] with
  | no => rw [q2] at h; exact h.elim
  | ex c d δ' => rw [q2] at h; exact h.elim
  | ok d δ2 =>
    rw [q2] at h
    intro v C2 H2 e2 e3 e4 n2 dv
    exact h v C2 H2 e2 (S.step e2 e3 e4 n2) dv
theorem de_conX (h : ConX X.K X.mg x d) (hg : Gl X x := by rfl) (hdb : (x == ("__debug__" : Str)) = false := by decide) : DE X EC W (.Name x pos) (mC d) := by
  obtain ⟨v, u, hm, r, hd⟩ := h.ex
  exact de_glob hg hm r hd hdb
end
/-! ### the end -/
theorem walk_law {l : PySem.W.OpenLaw} {k : Nat} {q : Program} {loose : List Str} {XP : (Str → Option Value) → Heap → Prop} {YP : World → Heap → Prop} {d : DefRec} {K : Params → PySem.W.Frag} {m : M Fl} {st : Stmt} {N : List Str} {EC : ECl} (hn : l.most = some 63) (hdf : d.params.defaults = []) (hname : d.name = "law")
    (hr : Room (k + 1) callerA) (hY : ∀ (w : World) (h : Heap), YP w h → (K w.params).In h) (S : FnScope N ["script"] (defScope st))
    (F : ∀ (w : World) (mg : Str → Option Value) (h : Heap), (K w.params).In h → h.Ns mainGlobals mg →
      FunX (K w.params) mg "law" st ["script"] ∧ ∀ (base : Heap) (f : Addr) (cdv : Value) (A : Around) (outer : List Env) (s : Shared) (H : Hp) (E : XK), Room k (A.deeper (envOfC "law" (defScope st) s.heap.objs.size f cdv)) →
      DSs (cxOf CX0 l.prog w (K w.params) mg base N "law" (defScope st) f cdv A outer s H E).nox EC (fun _ _ _ _ => False) (defBody st) m)
    (hsp : ∀ ns : List Int, ns.length ≤ 63 → ∃ δ, mDef N.length m [.list (ns.map .int)] = .ok (.bool true) δ) :
    PySem.W.WalkO q loose XP YP l.row.toRowW d [] (fun f vs => PySem.call f vs) := by
  refine L2.walk_of (n := 63) (k := k + 1) (x := "script") (CX := fun _ => CX0) (sp := fun w => SpP (K w.params) 1 (mDef N.length m)) hn (by decide) hdf hr hY (fun w mg fa h KX G hmg => ?_) (fun w H a ns hl _ hS => ?_) fun _ _ _ _ _ z => z
  · obtain ⟨F1, F2⟩ := F w mg h KX G
    obtain ⟨f, fd, F0, hg, hb⟩ := F1.ex
    rw [hname, hg] at hmg
    cases hmg
    exact ⟨fd, fun s u => hb s [u] rfl, fun base Kb Gb => def_ok F0 S fun cdv A outer s H E hr => F2 base _ cdv A outer s H E hr⟩
  · obtain ⟨δ, e⟩ := hsp ns hl
    refine ⟨H, [.list (ns.map .int)], Ex.refl H, .cons (.lst hS ints_dpa) .nil, rfl, ?_⟩
    rw [e]
    intro v C2 H2 e1 e2 e3 n2 dv
    cases dv
    rfl
end DL
end Part_DLh

section Part_DLi
set_option Elab.async false
set_option linter.all false
set_option maxRecDepth 100000
set_option autoImplicit false
set_option maxHeartbeats 2000000
namespace DL
open PySem PySem.Spec PyProof.Rows L2 Evl
/-! ### mirrors, evaluated -/
section
variable {α β : Type} {δ : Dl}
theorem bind_ok {a : α} {f : α → Dl → R β} : R.bind (.ok a δ) f = f a δ := rfl
theorem bind_no {f : α → Dl → R β} : R.bind .no f = .no := rfl
theorem bind_ite {c : Prop} [Decidable c] {x y : R α} {f : α → Dl → R β} : R.bind (if c then x else y) f = if c then R.bind x f else R.bind y f := by split <;> rfl
theorem lift_some {a : α} : R.lift (some a) δ = .ok a δ := rfl
theorem lift_none : R.lift (none : Option α) δ = .no := rfl
theorem noex_ok {a : α} : R.noex (.ok a δ) = .ok a δ := rfl
end
theorem sh_int (i : Int) : SeqAt.shaped (.int i) = true := rfl
theorem sh_bool (i : Bool) : SeqAt.shaped (.bool i) = true := rfl
theorem sh_none : SeqAt.shaped .none = true := rfl
theorem add_ii (i j : Int) : dAdd (.int i) (.int j) = some (.int (i + j)) := rfl
theorem sub_ii (i j : Int) : dSub (.int i) (.int j) = some (.int (i - j)) := rfl
theorem neg_i (i : Int) : dNeg (.int i) = some (.int (-i)) := rfl
theorem mul_r {i j : Int} (h1 : -18446744073709551616 < j) (h2 : j < 18446744073709551616) : dMul (.int i) (.int j) = some (.int (i * j)) := by
  show (if CMul i j ∨ CMulW i j then some (PyData.int (i * j)) else none) = _
  rw [if_pos (.inl (.inr ⟨by omega, by omega⟩))]
theorem mul_l {i j : Int} (h1 : -18446744073709551616 < i) (h2 : i < 18446744073709551616) : dMul (.int i) (.int j) = some (.int (i * j)) := by
  show (if CMul i j ∨ CMulW i j then some (PyData.int (i * j)) else none) = _
  rw [if_pos (.inl (.inl ⟨by omega, by omega⟩))]
theorem div_s {i j : Int} (h1 : 0 < j) (h2 : j < 1073741824) : dDiv (.int i) (.int j) = some (.int (i / j)) := by
  show (if CDivN i j ∨ CDivW i j then some (PyData.int (i.fdiv j)) else none) = _
  rw [if_pos (.inl ⟨by omega, by omega⟩), Int.fdiv_eq_ediv_of_nonneg i (by omega)]
theorem mod_s {i j : Int} (h1 : 0 < j) : dMod (.int i) (.int j) = some (.int (i % j)) := by
  show (if j ≠ 0 then some (PyData.int (i.fmod j)) else none) = _
  rw [if_pos (by omega), Int.fmod_eq_emod_of_nonneg i (by omega)]
theorem eq_ii (i j : Int) : dEq (.int i) (.int j) = some (.bool (decide (i = j))) := by
  show some (PyData.bool (i == j)) = _
  rw [Bool.beq_eq_decide_eq]
theorem ne_ii (i j : Int) : dNe (.int i) (.int j) = some (.bool (!decide (i = j))) := by
  show some (PyData.bool (!(i == j))) = _
  rw [Bool.beq_eq_decide_eq]
theorem eq_bb (i j : Bool) : dEq (.bool i) (.bool j) = some (.bool (i == j)) := rfl
theorem ne_bb (i j : Bool) : dNe (.bool i) (.bool j) = some (.bool (!(i == j))) := rfl
theorem lt_ii (i j : Int) : dLt (.int i) (.int j) = some (.bool (decide (i < j))) := rfl
theorem gt_ii (i j : Int) : dGt (.int i) (.int j) = some (.bool (decide (j < i))) := rfl
theorem le_ii (i j : Int) : dLe (.int i) (.int j) = some (.bool (decide (i ≤ j))) := rfl
theorem ge_ii (i j : Int) : dGe (.int i) (.int j) = some (.bool (decide (j ≤ i))) := rfl
theorem len_l (xs : List D) : dLen [.list xs] = some (.int xs.length) := rfl
theorem len_t (xs : List D) : dLen [.tuple xs] = some (.int xs.length) := rfl
theorem len_s {s : Str} (h : s.length ≤ 16777216) : dLen [.str s] = some (.int s.length) := by
  show (if s.length ≤ LINE then some (PyData.int s.length) else none) = _
  rw [if_pos h]
theorem int_i (i : Int) : dInt [.int i] = some (.int i) := rfl
theorem int_b (b : Bool) : dInt [.bool b] = some (.int (if b then 1 else 0)) := rfl
theorem abs_i (i : Int) : dAbs [.int i] = some (.int (if i < 0 then -i else i)) := rfl
theorem max_ii (i j : Int) : dMax [.int i, .int j] = some (.int (if j > i then j else i)) := rfl
theorem min_ii (i j : Int) : dMin [.int i, .int j] = some (.int (if j < i then j else i)) := rfl
theorem tuple_l (xs : List D) : dTuple [.list xs] = some (.tuple xs) := rfl
theorem all_l (bs : List Bool) : dAll [.list (bs.map .bool)] = some (.bool (bs.all id)) := by
  show (dBls (bs.map .bool)).map _ = _
  rw [dBls_map]
  rfl
theorem ix_l (xs : List D) (i : Int) : dIx (.list xs) (.int i) = atI xs i := rfl
theorem ix_t (xs : List D) (i : Int) : dIx (.tuple xs) (.int i) = atI xs i := rfl
theorem at_nat {α : Type} (xs : List α) (k : Nat) : atI xs (k : Int) = xs[k]? := by
  unfold atI ixN
  rw [if_pos (by omega)]
  by_cases h : k < xs.length
  · rw [if_pos (by omega)]
    simp
  · rw [if_neg (by omega)]
    simp [Nat.le_of_not_lt h]
theorem at_pos {α : Type} (xs : List α) {i : Int} (h0 : 0 ≤ i) : atI xs i = xs[i.toNat]? := by
  have := at_nat xs i.toNat
  rwa [Int.toNat_of_nonneg h0] at this
theorem tr_b (b : Bool) : truthD (.bool b) = some b := rfl
theorem tup_ok {xs : List D} (h : xs.length ≤ 16777216) : dTup xs = some (.tuple xs) := by unfold dTup; rw [if_pos h]
theorem new_ok {ma : M (List D)} {δ δ' : Dl} {xs : List D} (h : ma δ = .ok xs δ') (hl : xs.length ≤ 16777216) : mNew ma δ = .ok xs δ' := by
  unfold mNew
  rw [h]
  show (if xs.length ≤ LINE then R.ok xs δ' else .no) = _
  rw [if_pos hl]
theorem set_set' {α : Type} : ∀ (l : List α) (i : Nat) (a b : α), (l.set i a).set i b = l.set i b := fun l i a b => List.set_set a
/-! ### comprehensions of a pure element -/
theorem noVar_set {δ : Dl} {j : Nat} {d : D} (h : noVar δ = true) : noVar (δ.set j (.val d)) = true := by
  refine List.all_eq_true.mpr fun c hc => ?_
  rcases List.mem_or_eq_of_mem_set hc with h1 | h1
  · exact List.all_eq_true.mp h c h1
  · subst h1; rfl
theorem setV_ok {δ : Dl} {j : Nat} {d : D} (hj : j < δ.length) (h : noVar δ = true) : setV j d δ = some (δ.set j (.val d)) := by
  unfold setV
  rw [List.getElem?_eq_getElem hj]
  cases q : δ[j] with
  | var b ds => exact absurd (by rw [List.getElem?_eq_getElem hj, q]) (noVar_at (b := b) (ds := ds) h (i := j))
  | non => rfl
  | val d => rfl
theorem mLc_pure {j : Nat} {t : M Bool} {e : M D} {δ : Dl} (hj : j < δ.length) (hn : noVar δ = true) (p : D → Bool) (f : D → D) : ∀ (items : List D), (∀ x ∈ items, t (δ.set j (.val x)) = .ok (p x) (δ.set j (.val x)) ∧ (p x = true → e (δ.set j (.val x)) = .ok (f x) (δ.set j (.val x)))) →
    ∀ δ0 : Dl, noVar δ0 = true → δ0.set j .non = δ.set j .non → ∃ δ1 : Dl, mLc [j] (setV j) t e items δ0 = .ok ((items.filter p).map f) δ1 ∧ δ1.set j .non = δ.set j .non
  | [], _, δ0, h0, h1 => ⟨δ0, rfl, h1⟩
  | x :: xs, he, δ0, h0, h1 => by
    obtain ⟨ht, hx⟩ := he x List.mem_cons_self
    have hs : wipeD δ0 [j] = δ.set j .non := h1
    have hn' : noVar (δ.set j .non) = true := by
      have := noVar_wipe hn [j]
      exact this
    have e1 : setV j x (wipeD δ0 [j]) = some (δ.set j (.val x)) := by
      rw [hs, setV_ok (by rw [List.length_set]; exact hj) hn', List.set_set]
    have e2 : (δ.set j (.val x)).set j .non = δ.set j .non := List.set_set _
    have nx : noVar (δ.set j (.val x)) = true := noVar_set hn
    obtain ⟨δ1, ih1, ih2⟩ := mLc_pure hj hn p f xs (fun y hy => he y (List.mem_cons_of_mem _ hy)) _ nx e2
    refine ⟨δ1, ?_, ih2⟩
    unfold mLc
    rw [e1]
    simp only [ht, noex_ok, bind_ok]
    cases hp : p x with
    | true =>
      rw [if_pos rfl]
      simp only [hx hp, noex_ok, bind_ok, nx, if_true, ih1]
      rw [List.filter_cons_of_pos hp, List.map_cons]
    | false =>
      rw [if_neg Bool.false_ne_true, if_pos nx, ih1, List.filter_cons_of_neg (by rw [hp]; exact Bool.false_ne_true)]
theorem lcS_pure {j : Nat} {it : M (List D)} {t : M Bool} {e : M D} {δ δ' : Dl} {items : List D} (p : D → Bool) (f : D → D) (hit : it δ = .ok items δ') (hj : j < δ'.length) (hn : noVar δ' = true) (hl : items.length ≤ 16777216)
    (he : ∀ x ∈ items, t (δ'.set j (.val x)) = .ok (p x) (δ'.set j (.val x)) ∧ (p x = true → e (δ'.set j (.val x)) = .ok (f x) (δ'.set j (.val x)))) :
    mLcS [j] it (setV j) t e δ = .ok ((items.filter p).map f) δ' := by
  obtain ⟨δ1, h1, h2⟩ := mLc_pure hj hn p f items he δ' hn rfl
  unfold mLcS
  rw [hit, bind_ok, hn, Bool.true_and, if_pos (decide_eq_true hl), h1, bind_ok]
  have : backD δ' δ1 [j] = δ' := by
    show δ1.set j (δ'.getD j .non) = δ'
    have e0 : δ1.set j (δ'.getD j .non) = (δ1.set j .non).set j (δ'.getD j .non) := (List.set_set _).symm
    rw [e0, h2, List.set_set]
    apply List.ext_getElem?
    intro i
    by_cases q : j = i
    · subst q
      rw [List.getElem?_set_self hj, List.getElem?_eq_getElem hj]
      simp [List.getD, hj]
    · rw [List.getElem?_set_ne q]
  rw [this]
theorem filter_true {α : Type} (l : List α) : l.filter (fun _ => true) = l := List.filter_eq_self.mpr fun _ _ => rfl
/-- [e for x in ..] -/
theorem lcS_map {j : Nat} {it : M (List D)} {e : M D} {δ δ' : Dl} {items : List D} (f : D → D) (hit : it δ = .ok items δ') (hj : j < δ'.length) (hn : noVar δ' = true) (hl : items.length ≤ 16777216)
    (he : ∀ x ∈ items, e (δ'.set j (.val x)) = .ok (f x) (δ'.set j (.val x))) : mLcS [j] it (setV j) mYes e δ = .ok (items.map f) δ' := by
  have h := lcS_pure (t := mYes) (fun _ => true) f hit hj hn hl fun x hx => ⟨rfl, fun _ => he x hx⟩
  rw [filter_true] at h
  exact h
theorem map_of {α : Type} {P : α → D → Prop} [Inhabited D] : ∀ (items : List α), (∀ x ∈ items, ∃ y, P x y) → ∃ f : α → D, ∀ x ∈ items, P x (f x) := fun items h => by
  classical
  refine ⟨fun x => if hx : ∃ y, P x y then hx.choose else default, fun x hx => ?_⟩
  have z := h x hx
  simp only [dif_pos z]
  exact z.choose_spec
instance : Inhabited D := ⟨.none⟩
/-- .. where it is only known that it gives something with P -/
theorem lcS_ex {j : Nat} {it : M (List D)} {e : M D} {δ δ' : Dl} {items : List D} {P : D → D → Prop} (hit : it δ = .ok items δ') (hj : j < δ'.length) (hn : noVar δ' = true) (hl : items.length ≤ 16777216)
    (he : ∀ x ∈ items, ∃ y, e (δ'.set j (.val x)) = .ok y (δ'.set j (.val x)) ∧ P x y) : ∃ f : D → D, mLcS [j] it (setV j) mYes e δ = .ok (items.map f) δ' ∧ ∀ x ∈ items, P x (f x) := by
  obtain ⟨f, hf⟩ := map_of items he
  exact ⟨f, lcS_map f hit hj hn hl fun x hx => (hf x hx).1, fun x hx => (hf x hx).2⟩
theorem at_ex {α : Type} (xs : List α) {i : Int} (h0 : 0 ≤ i) (h1 : i < xs.length) : ∃ d, d ∈ xs ∧ atI xs i = some d := by
  have h : i.toNat < xs.length := by omega
  exact ⟨xs[i.toNat], List.getElem_mem h, by rw [at_pos xs h0, List.getElem?_eq_getElem h]⟩
theorem rng_len (lo hi : Int) : (rng lo hi).length = (hi - lo).toNat := by unfold rng; rw [List.length_map, List.length_range]
theorem rng_int {lo hi : Int} {d : D} (h : d ∈ rng lo hi) : ∃ i : Int, d = .int i ∧ lo ≤ i ∧ i < hi := by
  unfold rng at h
  obtain ⟨k, hk, e⟩ := List.mem_map.mp h
  have := List.mem_range.mp hk
  exact ⟨lo + (k : Nat), e.symm, by omega, by omega⟩
/-- an int that may stand in a range -/
theorem big_of {i : Int} (h : -1000000000 ≤ i) (h2 : i ≤ 1000000000) : big i = true := decide_eq_true ⟨by omega, by omega⟩
end DL
end Part_DLi

section Part_DX
set_option Elab.async false
set_option linter.all false
set_option maxRecDepth 100000
set_option autoImplicit false
set_option maxHeartbeats 2000000
namespace DL
open PySem PySem.Spec PyProof.Rows L2 Evl
open PySem.W (kxs_mw)
/-! ### an __init__ that says super().__init__(text), then self.f = par -/
section
variable {prog : Program} {w : World} {A : Around} {E : Value → Shared → Prop} {h : Heap} {g : Array GenState} {d : Drawn} {t : Nat} {os : OsState}
variable {nm q : Str} {C N : Addr} {bs bm : List Value} {hdct : Bool} {sn : List Str} {sub : List Value} {ab : Bool} {col : Option Bool} {dd : Option Addr} {k0 k1 k2 k3 k5 : Option Value}
theorem call_mw {u e t0 : Addr} {rest : List Value} {Q : Value → Shared → Prop}
    (hC : h.get? C = some (excClassObj nm q C N bs bm hdct sn sub ab col dd k0 k1 k2 k3 k5 "ValueError.__new__")) (he : h.get? e = some (PySem.W.excObj C t0 none .none)) (hu : h.get? u = some (kxs_mw "ValueError.__init__" e)) (hrest : rest.length ≤ sizeLine)
    (hq : ∀ h' t1, (∀ b o, b ≠ e → h.get? b = some o → h'.get? b = some o) → h'.get? e = some (PySem.W.excObj C t1 none .none) → Q .none ⟨h', g, d, t, os⟩) :
    wpAny (model prog w) A (call (.ref u) rest) Q E ⟨h, g, d, t, os⟩ := by
  refine wpAny_call (codeAny_of_tree ?_)
  show wpAny _ A.in1 (callAny (.ref u) ⟨rest, []⟩) _ _ _
  simp only [callAny]
  refine wpAny_bind (wpAny_load hu ?_)
  simp only [kxs_mw, show (Value.type "method-wrapper" == Value.type "method" || Value.type "method-wrapper" == Value.type "builtin_function_or_method" || Value.type "method-wrapper" == Value.type "method-wrapper") = true by decide, if_true]
  refine PySem.W.KFB.if_so (by decide) ?_
  refine wpAny_bind (PySem.W.check_bound_init F.excBase_ValueError.toExcCallFacts hC he rfl ?_)
  refine wpAny_bind (wpAny_pure (wpAny_pure ?_))
  refine ⟨plainId_quiet F.excBase_ValueError.init.plain _, codeAny_builtin F.excBase_ValueError.initEntry ?_⟩
  exact PySem.W.exc_init_tree (cls := .ref C) (t0 := t0) (dv := none) (c2 := .none) (c3 := .none) (b4 := .bool false) he hrest fun h' k e' _ => hq h' _ k e'
end

/-- an own error class over ValueError: C, its __init__ at f, the one attribute fld, told by the argument par -/
structure InitF (P : Program) (K : PySem.W.Frag) (mg : Str → Option Value) (C f : Addr) (fd : FuncData) (qual par fld : Str) (e : Expr) : Prop where
  ex : ∃ (oc : Value) (od : Option Addr) (osl : Array (Option Value)) (kV doc pm : Value) (an : Option Addr) (c cc : Addr) (ct : Value) (params : Arguments) (body : List Stmt) (scope : Scope) (p0 p1 p2 p3 p4 p5 p6 p7 p8 : Pos) (ar : Arg) (ar2 : List Arg) (ccl cl : Value) (cdd cld : Option Addr) (ccs csl : Array (Option Value)) (vs : Array Value) (file : Str) (tf : Tok) (cd : ClassData) (n : Nat),
    fd = PySem.W.fnX "__init__" qual params body scope [("__class__", cc)] .none kV doc pm an (.ref c) ct ∧ K.lookup f = some ⟨oc, od, .func fd, osl⟩ ∧ PySem.W.codeIn K (.ref c) qual = true ∧
    body = [.Expr (.Call (.Attribute (.Call (.Name "super" p0) [] [] p1) "__init__" p2) [e] [] p3) p4, .Assign [.Attribute (.Name "self" p5) fld p6] (.Name par p7) p8] ∧
    NdefX.NScope [("self" : Str), par, "__class__"] [("self" : Str), par] ["__class__"] scope ∧ scope.names.lookup ("super" : Str) = some .globalImplicit ∧
    (params.posonlyargs ++ params.args) = ar :: ar2 ∧ ar.arg = "self" ∧
    K.lookup c = some ⟨ccl, cdd, .fields vs, ccs⟩ ∧ vs[2]? = some (.str file tf) ∧ ((P.main.file : Str) == file) = true ∧ (P.main.scope.names.lookup ("super" : Str)).isSome = false ∧
    K.lookup cc = some ⟨cl, cld, .cell (some (.ref C)), csl⟩ ∧ PySem.W.clsIn K C = some cd ∧ PySem.W.mroIn K C (.ref C) = some true ∧ mg "super" = none ∧ PySem.W.nsIn K cStatics "thirdparty.any" = some none ∧
    PySem.W.ks_superIn K C C "__init__" = some (some (.builtin "ValueError.__init__")) ∧ PySem.W.subIn K (.ref C) (.type "ValueError") = some true ∧
    PySem.W.findIn K (.ref C) fld = some none ∧ n = 0 ∧
    (∀ env : Env, ∃ pl : Sem Bool, eval (.Call (.Attribute (.Call (.Name "super" p0) [] [] p1) "__init__" p2) [e] [] p3) env = (do
      let ov ← attributeBase (.Call (.Name "super" p0) [] [] p1) "__init__" env (eval (.Call (.Name "super" p0) [] [] p1) env)
      standAt p2.atName
      let (f, first) ← holding [ov] (getMethod ov "__init__" pl)
      callWith p3 f first (backTo p3 (starEach [e] env)) [])) ∧ (∀ env : Env, starEach [e] env = (false, eval e env) :: starEach [] env) ∧ (par == ("__debug__" : Str)) = false ∧ (par == ("__classdict__" : Str)) = false ∧ (∀ env : Env, swapsWith (.Name par p7) (some (.Attribute (.Name "self" p5) fld p6)) p8.line env = pure false)
  oex : OexC K C
section
variable {P : Program} {w : World} {K : PySem.W.Frag} {mg : Str → Option Value} {base : Heap}
/-- what such an __init__ does -/
def SpI (T : V → Prop) (C : Addr) (fld : Str) : Sp := fun vs H Q _ => ∃ a y, vs = [.ref a, y] ∧ T y ∧ H a = some (exo a C none) ∧ ∀ dx, H dx = none → dx ≠ a → Q .non (upd (upd H dx (exd dx [(fld, y)])) a (exo a C (some dx)))
theorem init_ok {T : V → Prop} {C f : Addr} {fd : FuncData} {qual par fld : Str} {e : Expr} {k : Nat} (F : InitF P K mg C f fd qual par fld e) {CX : CXT}
    (he : ∀ (X : Cx), X.prog = P → X.K = K → X.mg = mg → X.N = [("self" : Str), par, "__class__"] → Vis X.env.scope par → ∃ te, PE X e te ∧ ∀ (a : Addr) (y : V) H Q, T y → (∀ v, Q v H) → te [some (.ref a), some y, none] H Q) : FnOk P w K mg base CX (k + 1) f fd [("self" : Str), par] (SpI T C fld) := by
  obtain ⟨oc, od, osl, kV, doc, pm, an, c, cc, ct, params, body, scope, p0, p1, p2, p3, p4, p5, p6, p7, p8, ar, ar2, ccl, cl, cdd, cld, ccs, csl, vs', file, tf, cd, n, rfl, lk, hcd, rfl, S, hsup, hp, har, lc, hvs, hfile, htop, lcell, hcls, hmro, hmg, hst, hsu, hB, hno, _, hev, hst1, pd1, pd2, hsw⟩ := F.ex
  refine ⟨fun vs H Q E h => ?_, fun A outer s H args us vs Q E hr e0 hb r hsp => ?_⟩
  · obtain ⟨a, y, rfl, _⟩ := h
    rfl
  obtain ⟨a, y, rfl, hT, ha, hq⟩ := hsp
  have KX : K.In s.heap := e0.mod.kin.keeps fun b o e => (e0.bs b o e).1
  have lim : s.heap.NoLimit := e0.mod.nolimit.keeps fun b o e => (e0.bs b o e).1
  have r0 := r
  cases r with
  | @cons _ u0 _ ur ra rw' =>
    obtain rfl : u0 = Value.ref a := ra
    cases rw' with
    | @cons _ u1 _ ur2 ry rn =>
      cases rn
      refine ks_codeAny_call_defAt hr.depth (KX _ _ lk) rfl lim (PySem.W.codeRec_of KX hcd) rfl hb S.nocell (fun ⟨n, v⟩ hy => S.par n (List.of_mem_zip hy).1) (fun h₁ hns kp => ?_) S.co S.gen S.kind
      have C0 : NdefX.CellsAt [("__class__", cc)] [("__class__" : Str)] [none] s.heap H := by
        have key : ∀ (y : Str) (c' : Addr), List.lookup y [(("__class__" : Str), cc)] = some c' → y = "__class__" ∧ c' = cc := fun y c' e => by
          have m := PySem.mem_of_lookup e
          rw [List.mem_singleton] at m
          cases m
          exact ⟨rfl, rfl⟩
        refine ⟨rfl, fun y c' e => ?_, fun x y c' e1 e2 => ?_, fun i y e => ?_⟩
        · obtain ⟨_, rfl⟩ := key y c' e
          exact ⟨(e0.bs _ _ (e0.mod.kin _ _ lcell)).2, _, _, KX _ _ lcell, rfl⟩
        · exact (key x c' e1).1.trans (key y c' e2).1.symm
        · cases i with
          | zero =>
            cases e
            exact ⟨cc, rfl, fun v z => nomatch z⟩
          | succ i => cases e
      have ndP : [("self" : Str), par].Nodup := by
        have q := S.nd.sublist (List.take_sublist ([("self" : Str), par].length + [("__class__" : Str)].length) _)
        rw [S.pre] at q
        exact (List.nodup_append.mp q).1
      have I := NdefX.inv_startN (CX := CX) (P := P) (w := w) (base := base) (E := E) (F := ⟨"__init__", qual, params, [], scope, [("__class__", cc)], c⟩) (f := f) (tk := s.toks + ([("self" : Str), par].zip [Value.ref a, u1]).length) S hr.hd e0 rfl r0 C0 hns kp
      obtain ⟨pl, hev⟩ := hev (callEnv (PySem.W.fnX "__init__" qual params [.Expr (.Call (.Attribute (.Call (.Name "super" p0) [] [] p1) "__init__" p2) [e] [] p3) p4, .Assign [.Attribute (.Name "self" p5) fld p6] (.Name par p7) p8] scope [("__class__", cc)] .none kV doc pm an (.ref c) ct) s.heap.objs.size f)
      have qt : interactive (callEnv (PySem.W.fnX "__init__" qual params [.Expr (.Call (.Attribute (.Call (.Name "super" p0) [] [] p1) "__init__" p2) [e] [] p3) p4, .Assign [.Attribute (.Name "self" p5) fld p6] (.Name par p7) p8] scope [("__class__", cc)] .none kV doc pm an (.ref c) ct) s.heap.objs.size f) = false := I.quiet
      refine ks_wpAt_execs_cons (ks_wpAt_Expr_any (hi := qt) (ks_wpAt_MethodCall (he := hev) (ks_wpAt_super_base (ar := ar) hsup (S.frk _ (by simp)) rfl rfl (kp _ _ (KX _ _ lk)) rfl (by show (params.posonlyargs ++ params.args).head? = some ar; rw [hp]; rfl) rfl (kp _ _ (KX _ _ lc)) rfl hvs hfile htop ?_)))
      obtain ⟨mb, hb1, hb2⟩ := I.mod.blt
      refine PySem.W.ks_loadName_global S.kind hsup (Calls.loadGlobal_builtin (I.mod.glob.keeps I.bk) hmg (hb1.keeps I.bk) ((hb2 "super" (by decide)).trans (by decide +kernel)) ⟨rfl, ?_⟩)
      refine wpAny_loadName_free S.kind (S.frk _ (by simp)) rfl ⟨_, kp _ _ (KX _ _ lcell), rfl⟩ ?_
      rw [har]
      refine wpAny_loadName_local S.kind (S.par _ (by simp)) hns (v := Value.ref a) (NdefX.zip_look (i := 0) ndP rfl rfl) ?_
      obtain ⟨oD, hD1, hD2⟩ : ∃ oD, h₁.get? C = some oD ∧ oD.data = .cls cd := by
        have hD := hcls
        unfold PySem.W.clsIn at hD
        split at hD
        · rename_i c' d' cd' sl ho
          cases hD
          exact ⟨_, I.kIn _ _ ho, rfl⟩
        · cases hD
      obtain ⟨t1, hx⟩ := exo_at I.hok ha
      refine ks_wpAny_isType_cls hD1 hD2 ⟨rfl, ?_⟩
      refine ks_wpAny_call_super hD1 hD2 hx rfl (fun c e => nomatch e) (PySem.W.looks_mroIn I.kIn hmro) (fun h2 so k2 => ?_)
      have I2 := I.kept (t' := s.toks + ([("self" : Str), par].zip [Value.ref a, u1]).length) k2
      have hx2 := k2 _ _ hx
      have Ia : PySem.W.InstAt h2 a _ C none := ⟨hx2, rfl, rfl, trivial⟩
      refine PySem.W.kxs_getMethod PySem.W.kxs_ValueError so (PySem.W.looks_opaque I2.kIn hst) (l₀ := cd.mro) ?_ rfl I2.kIn ?_ (Ia.type.andThen (PySem.W.looks_subIn I2.kIn hB)) (PySem.W.ks_ne I2.kIn Ia hcls) rfl ?_
      · exact fun A Q E s k q => wpAny_bind ((PySem.W.looks_clsIn I2.kIn hcls) A _ E s k (wpAny_pure q))
      · have := hsu
        unfold PySem.W.ks_superIn at this
        rw [hcls] at this
        exact this
      have gk : ∀ b o, h2.get? b = some o → (h2.push (kxs_mw "ValueError.__init__" a)).get? b = some o := fun b o e => Heap.get?_push_of_some _ e
      have I3 := (I2.kept (t' := s.toks + ([("self" : Str), par].zip [Value.ref a, u1]).length + 1) gk).pins_of (pins' := [(h2.objs.size, kxs_mw "ValueError.__init__" a)]) (fun p hp => by
        rw [List.mem_singleton.mp hp]
        exact ⟨Heap.get?_push_at rfl rfl, I2.hok.fresh (Nat.le_refl _), Ne.symm (Nat.ne_of_lt I2.lt), I2.nofs (Nat.le_refl _), fun v e => nomatch e⟩)
      obtain ⟨te, pe, hte⟩ := he (NdefX.ncx CX P w K mg base [("self" : Str), par, "__class__"] ⟨"__init__", qual, params, [], scope, [("__class__", cc)], c⟩ f A outer s H E) rfl rfl rfl rfl (Or.inl (S.par _ (by simp)))
      have gl := hst1 (NdefX.ncx CX P w K mg base [("self" : Str), par, "__class__"] ⟨"__init__", qual, params, [], scope, [("__class__", cc)], c⟩ f A outer s H E).env
      have pa := pa_cons pe pa_nil gl
      have rn := pa.run p3 _ _ _ _ (fun vs H2 => (∃ v, vs = [v]) ∧ H2 = H) I3 (hte a y H _ hT fun v => ⟨⟨v, rfl⟩, rfl⟩)
      show wpAny _ _ (callWith p3 (.ref h2.objs.size) [] (backTo p3 (starEach [e] _)) []) _ _ _
      refine PySem.W.kxs_callWith (i := "ValueError.__init__") (x := a) (by rw [hst1]; rfl) ?_
      have rn2 := rn
      rw [hst1] at rn2 ⊢
      refine Calls.evalArgs_plain (wpAny_mono rn2 (fun us4 s4 hs4 => ?_) fun _ _ x => x)
      obtain ⟨vs4, H4, I4, rv4, ⟨v4, ev4⟩, eH4⟩ := hs4
      subst ev4
      rw [eH4] at I4
      have p4 := I4.pin (h2.objs.size, kxs_mw "ValueError.__init__" a) (by simp)
      refine ⟨p4.1, ?_⟩
      obtain ⟨nm, q', N', bs, bm, sn, sub, ab, col, dd, k0, k1, k2', k3, k5, hC, hbm⟩ := F.oex.cls
      obtain ⟨t4, hx4⟩ := exo_at I4.hok ha
      have hl4 : us4.length ≤ sizeLine := by
        rw [← Paired.length rv4, sizeLine_eq]
        show 1 ≤ 16777216
        decide
      obtain ⟨hp4, g4, d4, tk4, os4⟩ := s4
      refine call_mw (I4.kIn _ _ hC) hx4 p4.1 hl4 (fun h5 t5 k5' e5 => ?_)
      have I5 := I4.write (t' := tk4) (x := a) (e := a) (o := exo a C none) (by rw [ha]; exact True.intro) (.inl rfl) k5' ⟨_, e5⟩ (exo_ok e5)
      have eu : upd H a (exo a C none) = H := by
        funext b
        by_cases hb : b = a
        · rw [hb, upd_same, ha]
        · rw [upd_ne hb]
      rw [eu] at I5
      have I6 := I5.pins_of (pins' := []) (fun p hp => by cases hp)
      show PySem.wpAt _ _ _ (execs [.Assign [.Attribute (.Name "self" p5) fld p6] (.Name par p7) p8] _) _ _ _
      refine wpAt_of_wpAny ?_
      have ps := pss_one (ps_ost (pe_var (X := NdefX.ncx CX P w K mg base [("self" : Str), par, "__class__"] ⟨"__init__", qual, params, [], scope, [("__class__", cc)], c⟩ f A outer s H E) (i := 0) (x := "self") (pos := p5) rfl (Or.inl (S.par _ (by simp)))) (pe_var (i := 1) (x := par) (pos := p7) rfl (Or.inl (S.par _ (by simp))) pd1 pd2) (f := fld) (p' := p6) (pos := p8) (hsw _))
      refine wpAny_mono (ps.run [] _ _ H { nx := fun _ H' => Q .non H', rt := Q } I6 ⟨y, rfl, .ref a, rfl, a, C, rfl, F.oex, hno, .inl ⟨ha, fun dx n ne => hq dx n ne⟩⟩) (fun fl s' hs => ?_) fun e s' hs => hs
      have fin : ∀ {σ' : L2.St} {H' : Hp} {v : V} {u : Value}, Inv (NdefX.ncx CX P w K mg base [("self" : Str), par, "__class__"] ⟨"__init__", qual, params, [], scope, [("__class__", cc)], c⟩ f A outer s H E) [] σ' H' s' → L2.RelV v u → Q v H' → CE outer P w H s Q u s' :=
        fun {σ' H' v u} J rv q => ⟨v, H', J.os, J.bare, J.base, J.hok, rv, q⟩
      cases fl with
      | ret u =>
        obtain ⟨v, σ', H', J, rv, q⟩ := hs
        exact fin J rv q
      | next =>
        obtain ⟨σ', H', J, q⟩ := hs
        exact fin (v := V.non) (u := Value.none) J rfl q
      | brk =>
        obtain ⟨_, _, _, q⟩ := hs
        exact False.elim q
      | cont =>
        obtain ⟨_, _, _, q⟩ := hs
        exact False.elim q
end
end DL
end Part_DX

section Part_DY
set_option Elab.async false
set_option linter.all false
set_option maxRecDepth 100000
set_option autoImplicit false
set_option maxHeartbeats 2000000
namespace DL
open PySem PySem.Spec PyProof.Rows L2 Evl
/-! ### raise X(e) -/
def mRaise (c : Nat) (t : D → Bool) (a : M D) : M Fl := fun δ => (a δ).bind fun d δ => if t d then .ex c d δ else .no
/-- the error class x, number c: (where, its attribute) = p, t: what may be told -/
structure ErrX (P : Program) (w : World) (K : PySem.W.Frag) (mg : Str → Option Value) (base : Heap) (k : Nat) (x : Str) (p : Addr × Str) (t : D → Bool) : Prop where
  ex : ∃ fI fd ps T, OexC K p.1 ∧ PySem.W.findIn K (.ref p.1) "__init__" = some (some (.ref fI)) ∧ PySem.W.typeIn K (.ref fI) = some (.type "function") ∧ FnOk P w K mg base CX0 k fI fd ps (SpI T p.1 p.2) ∧ Binds K fd ps [] ∧ mg x = some (.ref p.1) ∧
    ∀ C v d, Dq K C v d → t d = true → T v
section
variable {X : Cx} {EC : ECl} {W : WX} {e : Expr} {ma : M D} {x : Str} {p pos pos' : Pos} {c k : Nat} {t : D → Bool}
theorem ds_raise (hc : X.calm = true) (tk : Takes X W) (F : ErrX X.prog X.w X.K X.mg X.base k x (EC c) t) (hr : Room (k + 1) X.A) (ha : DE X EC W e ma) (hg : Gl X x := by rfl) (hdb : (x == ("__debug__" : Str)) = false := by decide)
    (he : starEach (e :: []) X.env = (false, eval e X.env) :: starEach [] X.env := by rfl) (hpl : (backTo pos (starEach [] X.env)).any (·.1) = false := by rfl) :
    DS X EC W (.Raise (some (.Call (.Name x p) [e] [] pos)) none pos') (mRaise c t ma) := by
  obtain ⟨fI, fd, ps, T, O, iC, tI, F1, hb, hm, hT⟩ := F.ex
  obtain ⟨te, pe, re⟩ := ha.ex
  refine ⟨_, ps_raise hc tk (pmk_oex (dvs := []) (ds := []) O iC tI F1 hr hb .nil pass0 hg hm (pa_cons pe pa_nil he) hdb he hpl), fun C0 H0 B C H σ δ N S h => re C0 H0 B C H σ δ _ S (RP.imp (RP.bind h) (fun d δ1 h1 y C1 H1 e1 S1 d1 => ?_) fun c d δ z => ?_)⟩
  · refine ⟨by show 1 ≤ 1000; decide, fun a hn => ?_⟩
    cases q : t d with
    | false => rw [q] at h1; exact h1.elim
    | true =>
      rw [q] at h1
      refine ⟨a, y, rfl, hT C1 y d d1 q, upd_same, fun dx hdx ne => ⟨rfl, dx, [((EC c).2, y)], upd_same, by rw [upd_ne ne, upd_same], ?_, ?_⟩⟩
      · rwa [upd_ne ne] at hdx
      · have hdx' : H1 dx = none := by rwa [upd_ne ne] at hdx
        have e2 : upd (del (upd (upd (upd H1 a (exo a (EC c).1 none)) dx (exd dx [((EC c).2, y)])) a (exo a (EC c).1 (some dx))) a) dx (.xd [((EC c).2, y)]) = upd H1 dx (.xd [((EC c).2, y)]) := by
          funext b
          by_cases hb1 : b = dx
          · rw [hb1, upd_same, upd_same]
          · rw [upd_ne hb1, upd_ne hb1]
            by_cases hb2 : b = a
            · rw [hb2, del_same, hn]
            · rw [del_ne hb2, upd_ne hb2, upd_ne hb1, upd_ne hb2]
        rw [e2]
        exact h1 σ y dx C1 _ e1 (S1.newN hdx') upd_same d1
  · exact z σ
end

/-! ### defs that may raise -/
/-- what a def gives of data, an error too -/
def mDefE (n : Nat) (body : M Fl) (ds : List D) : R D := (body (ds.map .val ++ List.replicate (n - ds.length) .non)).bind fun f _ => match f with
  | .rt d => .ok d []
  | .nx => .ok .none []
  | _ => .no
def SpE (K : PySem.W.Frag) (EC : ECl) (n : Nat) (mf : List D → R D) : Sp := fun vs H Q E => ∃ C ds, Ex C H ∧ DqAll K C vs ds ∧ vs.length = n ∧
  RP (mf ds) (fun d _ => ∀ v C2 H2, Ex C C2 → Ex H H2 → Ex C2 H2 → (∀ a, H a ≠ none → C a = none → C2 a = none) → Dq K C2 v d → Q v H2)
    fun c d _ => ∀ v dd C2 H2, Ex C C2 → Ex H H2 → Ex C2 H2 → (∀ a, H a ≠ none → C a = none → C2 a = none) → H2 dd = some (.xd [((EC c).2, v)]) → Dq K C2 v d → E (.ref (EC c).1) (some dd) H2
/-- the def at the name x may raise, and does what mf says -/
structure FnE (P : Program) (w : World) (K : PySem.W.Frag) (mg : Str → Option Value) (base : Heap) (EC : ECl) (k : Nat) (x : Str) (n : Nat) (mf : List D → R D) : Prop where
  ex : ∃ f fd ps, FnOk P w K mg base (L2.CX P w) k f fd ps (SpE K EC n mf) ∧ mg x = some (.ref f) ∧ PySem.W.keepIn K (.ref f) = true ∧ Binds K fd ps []
section
variable {P : Program} {w : World} {K : PySem.W.Frag} {mg : Str → Option Value} {base : Heap}
theorem def_okE {x : Str} {st : Stmt} {N ps : List Str} {k : Nat} {EC : ECl} {m : M Fl} (F : FunX K mg x st ps) (S : FnScope N ps (defScope st))
    (hb : ∀ (f : Addr) (cdv : Value) (A : Around) (outer : List Env) (s : Shared) (H : Hp) (E : XK), Room k (A.deeper (envOfC x (defScope st) s.heap.objs.size f cdv)) →
      Takes (cxOf (L2.CX P w) P w K mg base N x (defScope st) f cdv A outer s H E) (fun cls d _ H' => E cls d H') →
      PassesOwn (model P w) (cxOf (L2.CX P w) P w K mg base N x (defScope st) f cdv A outer s H E).A (cxOf (L2.CX P w) P w K mg base N x (defScope st) f cdv A outer s H E).env (cxOf (L2.CX P w) P w K mg base N x (defScope st) f cdv A outer s H E).xe →
      DSs (cxOf (L2.CX P w) P w K mg base N x (defScope st) f cdv A outer s H E) EC (fun cls d _ H' => E cls d H') (defBody st) m) : FnE P w K mg base EC (k + 1) x ps.length (mDefE N.length m) := by
  obtain ⟨f, fd, F, hg, hbi⟩ := F.ex
  refine ⟨f, fd, ps, F.okX S (fun vs H Q E h => ?_) (fun cdv A outer s H vs Q E hr h => ?_), hg, F.kp, binds_of hbi⟩
  · obtain ⟨C, ds, _, _, hl, _⟩ := h
    exact hl
  · obtain ⟨C, ds, e, hd, hl, q⟩ := h
    obtain ⟨t, p, r⟩ := (hb f cdv A outer s H E hr (takes_of rfl rfl rfl rfl) (passes_of rfl)).ex
    refine ⟨t, p, r C H [] C H (L2.start N vs) _ _ (start_sr e hd) (RP.imp (RP.bind q) (fun f δ h1 σ C2 H2 e2 S2 => ?_) fun c d δ z σ v dd C2 H2 e2 S2 z1 z2 => ?_)⟩
    · have n2 : ∀ a, H a ≠ none → C a = none → C2 a = none := S2.nw
      have eH : Ex H H2 := fun a o z => S2.fr a o z fun p hp => by cases hp
      cases f with
      | nx => exact h1 .non C2 H2 e2 eH S2.ch n2 .non
      | rt d => exact fun v hv => h1 v C2 H2 e2 eH S2.ch n2 hv
      | bk => exact h1.elim
      | ct => exact h1.elim
    · exact z v dd C2 H2 e2 (fun a o z => S2.fr a o z fun p hp => by cases hp) S2.ch S2.nw z1 z2
end
section
variable {X : Cx} {EC : ECl} {W : WX} {e : Expr} {es : List Expr} {mes : M (List D)} {pos p : Pos} {k n : Nat} {mf : List D → R D} {x : Str}
def mCallE (mf : List D → R D) (a : M (List D)) : M D := fun δ => (a δ).bind fun ds δ => match mf ds with
  | .ok d _ => .ok d δ
  | .ex c d _ => .ex c d δ
  | .no => .no
theorem de_callE (tk : Takes X W) (F : FnE X.prog X.w X.K X.mg X.base EC k x n mf) (hr : Room k X.A) (ha : DA X EC W (e :: es) mes) (hn : es.length + 1 = n := by rfl) (hg : Gl X x := by rfl)
    (hdb : (x == ("__debug__" : Str)) = false := by decide) (he : starEach (e :: es) X.env = (false, eval e X.env) :: starEach es X.env := by rfl) (hpl : (backTo pos (starEach es X.env)).any (·.1) = false := by rfl) :
    DE X EC W (.Call (.Name x p) (e :: es) [] pos) (mCallE mf mes) := by
  obtain ⟨f, fd, ps, F, hm, hk, hb⟩ := F.ex
  obtain ⟨t, pa, ra⟩ := ha.ex
  refine ⟨_, pe_callS F hr hg hm hk hb (fun σ => passAt tk σ) pa hdb he hpl, fun C0 H0 B C H σ δ Q S h => ?_⟩
  have hb := RP.bind h
  refine ra C0 H0 B C H σ δ _ S ?_
  cases q : mes δ with
  | no => rw [q] at hb; exact hb.elim
  | ex c d δ' => rw [q] at hb; exact hb
  | ok ds δ1 =>
    rw [q] at hb
    have hl := ha.len δ ds δ1 q
    intro vs C1 H1 e1 S1 d1
    refine ⟨C1, ds, S1.ch, d1, by rw [dpa_len d1, hl]; exact hn, ?_⟩
    have hb : RP (match mf ds with | .ok d _ => R.ok d δ1 | .ex c d _ => R.ex c d δ1 | .no => .no) (PKe X.K C0 H0 B C σ Q) (PXe X.K EC W C0 H0 B C σ) := hb
    cases q2 : mf ds with
    | no => rw [q2] at hb; exact hb.elim
    | ex c d δ' =>
      rw [q2] at hb
      intro v dd C2 H2 e2 e3 e4 n2 z1 z2
      exact hb v dd C2 H2 (e1.trans e2) (S1.step e2 e3 e4 n2) z1 z2
    | ok d δ2 =>
      rw [q2] at hb
      intro v C2 H2 e2 e3 e4 n2 dv
      exact hb v C2 H2 (e1.trans e2) (S1.step e2 e3 e4 n2) dv
end

/-! ### try: body / except x as n: return (..) -/
def mTryR (i : Nat) (ok : Nat → Bool) (mb : M Fl) (mh : Nat → D → List D) : M Fl := fun δ => match mb δ with
  | .ok f δ' => .ok f δ'
  | .ex c d δ' => if ok c then (match δ'[i]? with
      | some (.var _ _) => .no
      | some _ => .ok (.rt (.tuple (mh c d))) (δ'.set i .non)
      | none => .no) else .ex c d δ'
  | .no => .no
theorem SR.setN {K : PySem.W.Frag} {C0 H0 : Hp} {B : List (Nat × Addr)} {C H : Hp} {σ : L2.St} {δ : Dl} (S : SR K C0 H0 B C H σ δ) {i : Nat} {o : Option V} (h : ∀ b ds, δ[i]? ≠ some (.var b ds)) : SR K C0 H0 B C H (σ.set i o) (δ.set i .non) := by
  have hl := S.len
  have back : ∀ {j : Nat} {c : Cell}, (δ.set i .non)[j]? = some c → c ≠ .non → δ[j]? = some c ∧ j ≠ i := fun {j c} e ne => by
    by_cases q : i = j
    · subst q
      rw [List.getElem?_set] at e
      split at e
      · split at e
        · cases e; exact absurd rfl ne
        · cases e
      · exact absurd rfl (by assumption)
    · rw [List.getElem?_set_ne q] at e
      exact ⟨e, Ne.symm q⟩
  have fw : ∀ {j : Nat}, j ≠ i → (σ.set i o)[j]? = σ[j]? := fun {j} q => List.getElem?_set_ne (Ne.symm q)
  have fd : ∀ {j : Nat}, j ≠ i → (δ.set i .non)[j]? = δ[j]? := fun {j} q => List.getElem?_set_ne (Ne.symm q)
  refine ⟨by rw [List.length_set, List.length_set, hl], S.c0, S.ch, S.fr, S.nw, fun j d e => ?_, fun j ds e => ?_, fun p hp => ?_, fun j ds e => ?_, S.bd1, S.bd2, S.bH0, fun j k ds ds' ne e1 e2 l h1 => ?_⟩
  · obtain ⟨e1, q⟩ := back e (fun z => nomatch z)
    rw [fw q]
    exact S.val j d e1
  · obtain ⟨e1, q⟩ := back e (fun z => nomatch z)
    rw [fw q]
    exact S.own j ds e1
  · obtain ⟨ds, xs, h1, h2, h3⟩ := S.bor p hp
    have q : p.1 ≠ i := fun z => h _ _ (by rw [← z]; exact h1)
    exact ⟨ds, xs, by rw [fd q]; exact h1, by rw [fw q]; exact h2, h3⟩
  · obtain ⟨e1, q⟩ := back e (fun z => nomatch z)
    exact S.btr j ds e1
  · obtain ⟨f1, q1⟩ := back e1 (fun z => nomatch z)
    obtain ⟨f2, q2⟩ := back e2 (fun z => nomatch z)
    rw [fw q1] at h1
    rw [fw q2]
    exact S.odis j k ds ds' ne f1 f2 l h1
/-- elements of such a tuple: nothing is made or changed -/
structure SA (X : Cx) (EC : ECl) (i : Nat) (a : Addr) (c : Nat) (d : Option Addr) (es : List Expr) (mh : D → List D) : Prop where
  ex : ∃ ta, PA X es ta ∧ ∀ (dd : Addr) (v : V) (pay : D) (C H : Hp) (σ : L2.St) (Q : List V → Hp → Prop), Ex C H → d = some dd → σ[i]? = some (some (.ref a)) → H dd = some (.xd [((EC c).2, v)]) → Dq X.K C v pay →
    (∀ vs, DqAll X.K C vs (mh pay) → vs.length ≤ 16777216 → Q vs H) → ta σ H Q
section
variable {X : Cx} {EC : ECl} {W : WX} {i : Nat} {x n : Str} {cv : Value} {ok : Nat → Bool} {body : List Stmt} {es : List Expr} {mb : M Fl} {mh : Nat → D → List D} {np pos pos' rp tp : Pos}
def tbD (K : PySem.W.Frag) (EC : ECl) (mb : M Fl) (W : WX) : TS := fun N σ H => ∃ C0 H0 B C δ, SR K C0 H0 B C H σ δ ∧ RP (mb δ) (PKs K C0 H0 B C N) (PXs K EC W C0 H0 B C)
def thD (K : PySem.W.Frag) (EC : ECl) (i : Nat) (ok : Nat → Bool) (mh : Nat → D → List D) (a : Addr) (cls : Value) (d : Option Addr) : TS := fun N σ H => ∃ c dd v pay C0 H0 B C δ, ok c = true ∧ cls = .ref (EC c).1 ∧ d = some dd ∧ H dd = some (.xd [((EC c).2, v)]) ∧ Dq K C v pay ∧ SR K C0 H0 B C H σ δ ∧ σ[i]? = some (some (.ref a)) ∧
  PKs K C0 H0 B C N (.rt (.tuple (mh c pay))) δ
theorem ds_tryR {kc} (hs : X.stack = X.env :: X.outer) (hf : X.env.frame = some X.env.locals) (hN : X.N.Nodup) (hi : X.N[i]? = some n) (hln : X.env.kindOf n = some .local) (hc : Names X x cv) (tk : Takes X W)
    (hm : ∀ c, PySem.W.exmOne X.K (.ref (EC c).1) cv = some (ok c))
    (hb : ∀ (W' : WX) (pn : List (Addr × Obj)) (xe : Value → Shared → Prop), Takes (X.tr pn xe) W' → PassesOwn (model X.prog X.w) X.A X.env xe → DSs (X.tr pn xe) EC W' body mb)
    (hsu : ∀ (a : Addr) (oe : Obj) (c : Nat) (d : Option Addr) (pn : List (Addr × Obj)), ok c = true → Zc (.ref (EC c).1) d oe → (∃ vs, oe.data = .fields vs) → SA (X.suite a ((a, oe) :: pn)) EC i a c d es (mh c)) :
    DS X EC W (.Try body [.ExceptHandler (some (.Name x np)) (some n) [.Return (some (.Tuple es kc tp)) rp] pos'] [] [] pos) (mTryR i ok mb mh) := by
  have p := ps_try_as (body := body) (pos := pos) (pos' := pos') (np := np) (tb := tbD X.K EC mb) (ts := thD X.K EC i ok mh) (b₀ := .Return (some (.Tuple es kc tp)) rp) (suite := []) hs hf hN hi hln hc tk (fun W' pn xe tk' ho => ⟨fun pins s σ H N I h => ?_⟩) (fun a oe cls d pn hz hfl => ⟨fun pins s σ H N I h => ?_⟩)
  · refine ⟨_, p, fun C0 H0 B C H σ δ N S h => ?_⟩
    refine ⟨C0, H0, B, C, δ, S, ?_⟩
    unfold mTryR at h
    cases q : mb δ with
    | no => rw [q] at h; exact h.elim
    | ok f δ' => rw [q] at h; exact h
    | ex c d δ' =>
      rw [q] at h
      intro σ2 v dd C2 H2 e2 S2 z1 z2
      refine ⟨ok c, hm c, fun hk a na => ?_, fun hk => ?_⟩
      · have h : RP (if ok c = true then (match δ'[i]? with | some (.var _ _) => R.no | some _ => .ok (.rt (.tuple (mh c d))) (δ'.set i .non) | none => .no) else .ex c d δ') (PKs X.K C0 H0 B C N) (PXs X.K EC W C0 H0 B C) := h
        rw [if_pos hk] at h
        have nv : ∀ b ds, δ'[i]? ≠ some (.var b ds) := fun b ds z => by rw [z] at h; exact h.elim
        have hlen : i < δ'.length := by
          rcases Nat.lt_or_ge i δ'.length with q | q
          · exact q
          · rw [List.getElem?_eq_none q] at h; exact h.elim
        have h2 : PKs X.K C0 H0 B C N (.rt (.tuple (mh c d))) (δ'.set i .non) := by
          cases q : δ'[i]? with
          | none => rw [q] at h; exact h.elim
          | some cl =>
            rw [q] at h
            cases cl with
            | var b ds => exact h.elim
            | non => exact h
            | val d => exact h
        refine ⟨c, dd, v, d, C0, H0, B, C2, δ'.set i .non, hk, rfl, rfl, z1, z2, S2.setN nv, ?_, fun σ3 C3 H3 e3 S3 => ?_⟩
        · rw [List.getElem?_set_self (by rw [S2.len]; exact hlen)]
        · exact h2 σ3 C3 H3 (e2.trans e3) S3
      · have h : RP (if ok c = true then (match δ'[i]? with | some (.var _ _) => R.no | some _ => .ok (.rt (.tuple (mh c d))) (δ'.set i .non) | none => .no) else .ex c d δ') (PKs X.K C0 H0 B C N) (PXs X.K EC W C0 H0 B C) := h
        rw [if_neg (by rw [hk]; exact Bool.false_ne_true)] at h
        exact h σ2 v dd C2 H2 e2 S2 z1 z2
  · obtain ⟨C0, H0, B, C, δ, S, r⟩ := h
    obtain ⟨t, pt, rt⟩ := (hb W' pn xe tk' ho).ex
    exact pt.run pins s σ H N I (rt C0 H0 B C H σ δ N S r)
  · obtain ⟨c, dd, v, pay, C0, H0, B, C, δ, hk, rfl, rfl, z1, z2, S, hσ, r⟩ := h
    obtain ⟨ta, pa, ra⟩ := (hsu a oe c (some dd) pn hk hz hfl).ex
    refine (pss_one (ps_ret (pe_tup pa))).run pins s σ H N I (ra dd v pay C H σ _ S.ch rfl hσ z1 z2 fun vs hvs hl => ⟨hl, fun p hp => ?_⟩)
    exact r σ _ _ (Ex.new (free_of S.ch hp)) (S.new hp) (.ref p) (.tup (SqT.of upd_same) (dpAll_ex (Ex.new (free_of S.ch hp)) _ _ hvs))
end

/-! ### what stands in such a tuple -/
structure SEl (X : Cx) (EC : ECl) (i : Nat) (a : Addr) (c : Nat) (d : Option Addr) (e : Expr) (m : D → D) : Prop where
  ex : ∃ te, PE X e te ∧ ∀ (dd : Addr) (v : V) (pay : D) (C H : Hp) (σ : L2.St) (Q : VK), Ex C H → d = some dd → σ[i]? = some (some (.ref a)) → H dd = some (.xd [((EC c).2, v)]) → Dq X.K C v pay → (∀ y, Dq X.K C y (m pay) → Q y H) → te σ H Q
section
variable {X : Cx} {EC : ECl} {i c : Nat} {a : Addr} {d : Option Addr} {e : Expr} {es : List Expr} {m : D → D} {ms : D → List D} {oe : Obj} {pn : List (Addr × Obj)} {n : Str} {p p2 p3 pos : Pos}
theorem sa_nil : SA X EC i a c d [] fun _ => [] := ⟨_, pa_nil, fun dd v pay C H σ Q e1 h1 h2 h3 h4 q => q [] .nil (by simp)⟩
theorem sa_cons (h : SEl X EC i a c d e m) (hs : SA X EC i a c d es ms) (hl : es.length < 1000 := by decide) (hm : ∀ pay, (ms pay).length = es.length := by intro _; rfl) (he : starEach (e :: es) X.env = (false, eval e X.env) :: starEach es X.env := by rfl) : SA X EC i a c d (e :: es) fun pay => m pay :: ms pay := by
  obtain ⟨te, pe, re⟩ := h.ex
  obtain ⟨ta, pa, ra⟩ := hs.ex
  refine ⟨_, pa_cons pe pa he, fun dd v pay C H σ Q e1 h1 h2 h3 h4 q => re dd v pay C H σ _ e1 h1 h2 h3 h4 fun y hy => ra dd v pay C H σ _ e1 h1 h2 h3 h4 fun ys hys _ => q (y :: ys) (.cons hy hys) ?_⟩
  rw [List.length_cons, dpa_len hys, hm]
  omega
theorem sel_str {z : Str} {j : Nat} : SEl X EC i a c d (.Constant (.str z) j pos) fun _ => .str z := ⟨_, pe_str, fun dd v pay C H σ Q e1 h1 h2 h3 h4 q => q _ (.str z)⟩
theorem sel_fld (T : XfC X.K (EC c).1) (hno : PySem.W.findIn X.K (.ref (EC c).1) (EC c).2 = some none) (hz : Zc (.ref (EC c).1) d oe) (hf : ∃ vs, oe.data = .fields vs) (hN : X.N[i]? = some n) (hv : Vis X.env.scope n) (hd : (n == ("__debug__" : Str)) = false := by decide)
    (hcd : (n == ("__classdict__" : Str)) = false := by decide) {fl : Str} (hfl : fl = (EC c).2) (hb : attributeBase (.Name n p) fl X.env (eval (.Name n p) X.env) = eval (.Name n p) X.env := by rfl) : SEl (X.suite a ((a, oe) :: pn)) EC i a c d (.Attribute (.Name n p) fl pos) fun pay => pay := by
  subst hfl
  refine ⟨_, pe_xf T hno hz hf (pe_var (X := X.suite a ((a, oe) :: pn)) hN hv hd hcd) hb, fun dd v pay C H σ Q e1 h1 h2 h3 h4 q => ⟨_, h2, rfl, rfl, dd, _, v, h1, h3, ?_, q v h4⟩⟩
  rw [lookup_put, if_pos rfl]
/-- isinstance(e, c), e the exception that the suite holds, its dict there -/
def rIsD (K : PySem.W.Frag) (D a : Addr) (d : Option Addr) : List V → Hp → VK → Prop := fun xs H Q => ∃ (c : V) (cv : Value) (b : Bool) (dd : Addr) (fs : List (Str × V)), xs = [.ref a, c] ∧ (∀ u, RelV c u → u = cv) ∧ PySem.W.kitOne K (.ref D) cv = some b ∧ d = some dd ∧ H dd = some (.xd fs) ∧ Q (.bl b) H
theorem call_isD {D : Addr} (C : ExcC X.K D) (hz : Zc (.ref D) d oe) (hf : ∃ vs, oe.data = .fields vs) : CallR (X.suite a ((a, oe) :: pn)) (.builtin "isinstance") (rIsD X.K D a d) := by
  intro pins s σ H xs us Q I r h
  obtain ⟨c, cv, b, dd, fs, rfl, hcv, e, rfl, ea, q⟩ := h
  cases r with
  | cons rx rr =>
    cases rr with
    | cons rt rr =>
      cases rr
      cases rx
      have ec := hcv _ rt
      subst ec
      obtain ⟨hget, _⟩ := I.pin (a, oe) (List.mem_append.mpr (.inl List.mem_cons_self))
      obtain ⟨vs, hv⟩ := hf
      have hx : ObjOk X.prog X.w H s.heap dd (.xd fs) := I.hok dd _ ea
      obtain ⟨mA, hns, hr⟩ := hx
      obtain ⟨od, ho, hl⟩ := lookIn_ns hns
      have J : PySem.W.InstAt s.heap a oe D (some od) := ⟨hget, hz.1, by unfold PySem.W.notCls; rw [hv] <;> rfl, by rw [hz.2]; exact ho⟩
      exact PySem.W.kia_one (PySem.W.kitx_exc (by obtain ⟨cd, h, _⟩ := PySem.W.any_some C.hd; rw [h]; rfl) C.hg C.hk C.hs C.ha C.hn C.ht C.hm) I.kIn J e (fun z => nomatch z) fun tk => ⟨.bl b, H, I.kept (t' := tk) fun _ _ z => z, rfl, q⟩
theorem sel_is {x : Str} {cc : V} {cv : Value} {b : Bool} (C : ExcC X.K (EC c).1) (hz : Zc (.ref (EC c).1) d oe) (hf : ∃ vs, oe.data = .fields vs) (hN : X.N[i]? = some n) (hv : Vis X.env.scope n) (hk : PySem.W.kitOne X.K (.ref (EC c).1) cv = some b)
    (hx : PE (X.suite a ((a, oe) :: pn)) (.Name x p3) (tC cc)) (hcv : ∀ u, RelV cc u → u = cv) (hg : Gl X "isinstance") (hm : X.mg "isinstance" = none) (hd : (n == ("__debug__" : Str)) = false := by decide) (hcd : (n == ("__classdict__" : Str)) = false := by decide)
    (he : starEach [.Name n p2, .Name x p3] X.env = (false, eval (.Name n p2) X.env) :: starEach [.Name x p3] X.env := by rfl) (he2 : starEach [.Name x p3] X.env = (false, eval (.Name x p3) X.env) :: starEach [] X.env := by rfl) (hpl : (backTo pos (starEach [Expr.Name x p3] X.env)).any (·.1) = false := by rfl) :
    SEl (X.suite a ((a, oe) :: pn)) EC i a c d (.Call (.Name "isinstance" p) [.Name n p2, .Name x p3] [] pos) fun _ => .bool b := by
  refine ⟨_, pe_callB (X := X.suite a ((a, oe) :: pn)) (call_isD C hz hf) hg hm (by decide +kernel) (pa_cons (pe_var (X := X.suite a ((a, oe) :: pn)) hN hv hd hcd) (pa_cons hx pa_nil he2) he) (by decide) (by decide) he hpl, fun dd v pay C H σ Q e1 h1 h2 h3 h4 q => ⟨_, h2, cc, cv, b, dd, _, rfl, hcv, hk, h1, h3, q _ (.bl b)⟩⟩
end
end DL
end Part_DY

section Part_DZ
set_option Elab.async false
set_option linter.all false
set_option maxRecDepth 100000
set_option autoImplicit false
set_option maxHeartbeats 2000000
namespace DL
open PySem PySem.Spec PyProof.Rows L2 Evl
section
variable {P : Program} {w : World} {K : PySem.W.Frag} {mg : Str → Option Value} {base : Heap}
/-- what is asked of the class of an own error -/
structure ClsF (K : PySem.W.Frag) (C : Addr) (fld : Str) : Prop where
  oex : OexC K C
  xfc : XfC K C
  exc : ExcC K C
  nof : PySem.W.findIn K (.ref C) fld = some none
theorem clsF_mk {C : Addr} {fld : Str} {nm q : Str} {N : Addr} {bs bm : List Value} {sn : List Str} {sub : List Value} {ab : Bool} {col : Option Bool} {dd : Option Addr} {k0 k1 k2 k3 k5 : Option Value}
    (l : K.lookup C = some (excClassObj nm q C N bs bm true sn sub ab col dd k0 k1 k2 k3 k5 "ValueError.__new__")) (hbm : PySem.HandSPX.refsVE bm = true) (sa : PySem.W.findIn K (.ref C) "__setattr__" = some (some (.builtin "object.__setattr__")))
    (exC : PySem.W.subIn K (.ref C) (.type "BaseException") = some true) (tyC : PySem.W.typeIn K (.ref C) = some (.type "type")) (kC : PySem.W.keepIn K (.ref C) = true)
    (ga : PySem.W.findIn K (.ref C) "__getattribute__" = some (some (.builtin "BaseException.__getattribute__"))) (gg : PySem.W.findIn K (.ref C) "__getattr__" = some none) (hd : PySem.W.hasDictIn K C = true)
    (ha : PySem.W.findIn K (.ref C) "__class__" = some (some (.builtin "object.__class__"))) (hn : PySem.W.specialIn K (.builtin "object.__class__") "__get__" = some (some (.builtin "getset_descriptor.__get__"))) (ht : PySem.W.takesIn K (.builtin "object.__class__") = some true)
    (hm : PySem.W.mroIn K C (.type "object") = some true) (nof : PySem.W.findIn K (.ref C) fld = some none) : ClsF K C fld :=
  ⟨⟨⟨nm, q, N, bs, bm, sn, sub, ab, col, dd, k0, k1, k2, k3, k5, l, hbm⟩, sa, exC, tyC, kC⟩, ⟨ga, gg, exC, hd⟩, ⟨ga, gg, exC, hd, ha, hn, ht, hm⟩, nof⟩
theorem errX_mk {h : Heap} {x par fld qual : Str} {C fI c cc : Addr} {oc ccl cl doc pm kV ct : Value} {od an cdd cld : Option Addr} {osl ccs csl : Array (Option Value)} {params : Arguments} {scope : Scope} {e : Expr} {p0 p1 p2 p3 p4 p5 p6 p7 p8 : Pos} {ar : Arg} {ar2 : List Arg} {vs : Array Value} {file : Str} {tf : Tok} {cd : ClassData} {t : D → Bool}
    (T : V → Prop) (X : K.In h) (G : h.Ns mainGlobals mg) (F : ClsF K C fld) (a : PySem.W.nsIn K mainGlobals x = some (some (.ref C))) (b : PySem.W.findIn K (.ref C) "__init__" = some (some (.ref fI))) (tI : PySem.W.typeIn K (.ref fI) = some (.type "function"))
    (l : K.lookup fI = some ⟨oc, od, .func (PySem.W.fnX "__init__" qual params [.Expr (.Call (.Attribute (.Call (.Name "super" p0) [] [] p1) "__init__" p2) [e] [] p3) p4, .Assign [.Attribute (.Name "self" p5) fld p6] (.Name par p7) p8] scope [("__class__", cc)] .none kV doc pm an (.ref c) ct), osl⟩)
    (ci : PySem.W.codeIn K (.ref c) qual = true) (S : NdefX.NScope [("self" : Str), par, "__class__"] [("self" : Str), par] ["__class__"] scope) (hsup : scope.names.lookup ("super" : Str) = some .globalImplicit)
    (hp : (params.posonlyargs ++ params.args) = ar :: ar2) (har : ar.arg = "self") (lc : K.lookup c = some ⟨ccl, cdd, .fields vs, ccs⟩) (hvs : vs[2]? = some (.str file tf)) (hfile : ((P.main.file : Str) == file) = true) (htop : (P.main.scope.names.lookup ("super" : Str)).isSome = false)
    (lcc : K.lookup cc = some ⟨cl, cld, .cell (some (.ref C)), csl⟩) (hcls : PySem.W.clsIn K C = some cd) (hmro : PySem.W.mroIn K C (.ref C) = some true) (hsg : PySem.W.nsIn K mainGlobals "super" = some none) (hst : PySem.W.nsIn K cStatics "thirdparty.any" = some none)
    (hsu : PySem.W.alongIn K "__init__" ((cd.mro.dropWhile (· != .ref C)).drop 1) = some (some (.builtin "ValueError.__init__"))) (hB : PySem.W.subIn K (.ref C) (.type "ValueError") = some true)
    (hev : ∀ env : Env, ∃ pl : Sem Bool, eval (.Call (.Attribute (.Call (.Name "super" p0) [] [] p1) "__init__" p2) [e] [] p3) env = (do
      let ov ← attributeBase (.Call (.Name "super" p0) [] [] p1) "__init__" env (eval (.Call (.Name "super" p0) [] [] p1) env)
      standAt p2.atName
      let (f, first) ← holding [ov] (getMethod ov "__init__" pl)
      callWith p3 f first (backTo p3 (starEach [e] env)) [])) (hse : ∀ env : Env, starEach [e] env = (false, eval e env) :: starEach [] env) (pd1 : (par == ("__debug__" : Str)) = false) (pd2 : (par == ("__classdict__" : Str)) = false)
    (hsw : ∀ env : Env, swapsWith (.Name par p7) (some (.Attribute (.Name "self" p5) fld p6)) p8.line env = pure false)
    (hb : ∀ (us : List Value), us.length = 2 → bindArgs (PySem.W.fnX "__init__" qual params [.Expr (.Call (.Attribute (.Call (.Name "super" p0) [] [] p1) "__init__" p2) [e] [] p3) p4, .Assign [.Attribute (.Name "self" p5) fld p6] (.Name par p7) p8] scope [("__class__", cc)] .none kV doc pm an (.ref c) ct) ⟨us, []⟩ = pure ([("self" : Str), par].zip us))
    (he : ∀ (X : Cx), X.prog = P → X.K = K → X.mg = mg → X.N = [("self" : Str), par, "__class__"] → Vis X.env.scope par → ∃ te, PE X e te ∧ ∀ (a : Addr) (y : V) H Q, T y → (∀ v, Q v H) → te [some (.ref a), some y, none] H Q)
    (hT : ∀ C v d, Dq K C v d → t d = true → T v) : ErrX P w K mg base 1 x (C, fld) t := by
  refine ⟨fI, _, [("self" : Str), par], T, F.oex, b, tI, init_ok (k := 0) (CX := CX0) (e := e) (par := par) ⟨⟨oc, od, osl, kV, doc, pm, an, c, cc, ct, params, _, scope, p0, p1, p2, p3, p4, p5, p6, p7, p8, ar, ar2, ccl, cl, cdd, cld, ccs, csl, vs, file, tf, cd, 0, rfl, l, ci, rfl, S, hsup, hp, har, lc, hvs, hfile, htop, lcc, hcls, hmro, PySem.W.mg_none_of X G hsg, hst, ?_, hB, F.nof, rfl, hev, hse, pd1, pd2, hsw⟩, F.oex⟩ he, ?_, PySem.W.mg_of X G a, hT⟩
  · unfold PySem.W.ks_superIn
    rw [hcls]
    exact hsu
  · exact binds_of fun s us hl => .of_eq (hb us hl)
theorem kit_ref {t : Value} {A : Addr} {cd : ClassData} {b : Bool} (h1 : PySem.W.clsIn K A = some cd) (h2 : PySem.W.typeIn K (.ref A) = some (.type "type")) (h3 : PySem.W.subIn K t (.ref A) = some b) (hne : (t == .ref A) = false) : PySem.W.kitOne K t (.ref A) = some b := by
  unfold PySem.W.kitOne
  rw [hne, if_neg Bool.false_ne_true]
  show (if ((PySem.W.clsIn K A).isSome && PySem.W.typeIn K (.ref A) == some (.type "type")) = true then PySem.W.subIn K t (.ref A) else none) = _
  rw [h1, h2, if_pos (by rfl)]
  exact h3
theorem kit_typ {A : Addr} {T : String} {b : Bool} (h1 : PySem.W.kitMeta T = true) (h3 : PySem.W.subIn K (.ref A) (.type T) = some b) : PySem.W.kitOne K (.ref A) (.type T) = some b := by
  unfold PySem.W.kitOne
  rw [if_neg (by simp)]
  show (if PySem.W.kitMeta T = true then PySem.W.subIn K (.ref A) (.type T) else none) = _
  rw [if_pos h1]
  exact h3
end

/-- f'text{par}', par a small int -/
def TInt : V → Prop := fun v => ∃ i : Int, v = .int i ∧ 0 ≤ i ∧ i < 1000000000
def tInt : D → Bool
  | .int i => decide (0 ≤ i) && decide (i < 1000000000)
  | _ => false
theorem tInt_ok {K : PySem.W.Frag} : ∀ C v d, Dq K C v d → tInt d = true → TInt v := by
  intro C v d h q
  cases h <;> first | (cases q; done) | skip
  rename_i i
  obtain ⟨h1, h2⟩ := Bool.and_eq_true_iff.mp q
  exact ⟨i, rfl, of_decide_eq_true h1, of_decide_eq_true h2⟩
theorem num_log {n : Nat} (h : n < 1000000000) : n.log2 < 1920 := by
  by_cases q : n = 0
  · rw [q]; decide
  · exact (Nat.log2_lt q).mpr (Nat.lt_of_lt_of_le h (by decide +kernel))
theorem fstr_he {m par : Str} {j : Nat} {p q r s : Pos} (hm : m.length ≤ 1000) (X : Cx) (hN : X.N = [("self" : Str), par, "__class__"]) (hv : Vis X.env.scope par) (pd1 : (par == ("__debug__" : Str)) = false) (pd2 : (par == ("__classdict__" : Str)) = false) :
    ∃ te, PE X (.JoinedStr [.Constant (.str m) j p, .FormattedValue (.Name par q) (-1) none r] s) te ∧ ∀ (a : Addr) (y : V) H Q, TInt y → (∀ v, Q v H) → te [some (.ref a), some y, none] H Q := by
  refine ⟨_, pe_joined (.cons pe_str (.cons (pe_fmt (pe_var (i := 1) (by rw [hN] <;> rfl) hv pd1 pd2)) .nil)), fun a y H Q hy h => ?_⟩
  obtain ⟨i, rfl, h0, h1⟩ := hy
  obtain ⟨n, rfl⟩ := Int.eq_ofNat_of_zero_le h0
  have hl : (Str.ofString (toString ((n : Nat) : Int))).length ≤ 10 := by
    rw [SX.num_S, SX.S_len]
    exact Nat.le_trans (TL.numL_len (k := 9) (by decide) (by omega)) (by decide)
  have ln : ∀ a b : Str, (a ++ b).length = a.length + b.length := fun a b => by
    show (a.cps ++ b.cps).size = _
    rw [Array.size_append]
    rfl
  refine ⟨m, rfl, ?_, .int n, rfl, .inr ⟨n, rfl, num_log (n := n) (by omega), _, rfl, ?_, h _⟩⟩
  · rw [ln, sizeLine_eq]
    show 0 + _ ≤ _
    omega
  · rw [ln, ln, sizeLine_eq]
    show 0 + _ + _ ≤ _
    have : (Str.ofString (toString ((n : Nat) : Int))).length ≤ 10 := hl
    omega
end DL
end Part_DZ

section Part_K03d
set_option Elab.async false
set_option linter.all false
set_option maxRecDepth 100000
set_option autoImplicit false
set_option maxHeartbeats 2000000
namespace K03
open PySem PySem.Spec PyProof.Rows L2 DL
def top (i : Nat) : Stmt := PySem.Challenge.pw_leastfit_k03_malformed_values.main.body.getD i (.Pass ⟨0, 0, 0, 0⟩)
def W00 : WX := fun _ _ _ _ => False
abbrev EC0 (C : Addr) : ECl := fun _ => (C, "index")
def t_Malformed : D → Bool := tInt
abbrev s_write_value : Stmt := top 10
abbrev N_write_value : List Str := ["value", "number"]
theorem sc_write_value : FnScope N_write_value ["value"] (defScope s_write_value) := ⟨rfl, rfl, rfl, by decide +kernel, rfl, by decide +kernel, by decide +kernel⟩
abbrev s__law_cell : Stmt := top 19
abbrev N__law_cell : List Str := ["script", "k"]
theorem sc__law_cell : FnScope N__law_cell ["script", "k"] (defScope s__law_cell) := ⟨rfl, rfl, rfl, by decide +kernel, rfl, by decide +kernel, by decide +kernel⟩
abbrev s__law_number : Stmt := top 21
abbrev N__law_number : List Str := ["cell", "kind"]
theorem sc__law_number : FnScope N__law_number ["cell"] (defScope s__law_number) := ⟨rfl, rfl, rfl, by decide +kernel, rfl, by decide +kernel, by decide +kernel⟩
abbrev s__law_draws : Stmt := top 20
abbrev N__law_draws : List Str := ["cell", "many", "limit", "draws", "rest", "k", "mixed"]
theorem sc__law_draws : FnScope N__law_draws ["cell", "many", "limit"] (defScope s__law_draws) := ⟨rfl, rfl, rfl, by decide +kernel, rfl, by decide +kernel, by decide +kernel⟩
abbrev s__law_value : Stmt := top 22
abbrev N__law_value : List Str := ["letter", "cell", "size", "k"]
theorem sc__law_value : FnScope N__law_value ["letter", "cell"] (defScope s__law_value) := ⟨rfl, rfl, rfl, by decide +kernel, rfl, by decide +kernel, by decide +kernel⟩
abbrev s_scan_distance : Stmt := top 15
abbrev N_scan_distance : List Str := ["text", "start", "distance", "end", "longer"]
theorem sc_scan_distance : FnScope N_scan_distance ["text", "start"] (defScope s_scan_distance) := ⟨rfl, rfl, rfl, by decide +kernel, rfl, by decide +kernel, by decide +kernel⟩
abbrev s_scan_number : Stmt := top 14
abbrev N_scan_number : List Str := ["text", "start", "distance", "end"]
theorem sc_scan_number : FnScope N_scan_number ["text", "start"] (defScope s_scan_number) := ⟨rfl, rfl, rfl, by decide +kernel, rfl, by decide +kernel, by decide +kernel⟩
abbrev s_index_behind : Stmt := top 13
abbrev N_index_behind : List Str := ["text", "start", "word", "k"]
theorem sc_index_behind : FnScope N_index_behind ["text", "start", "word"] (defScope s_index_behind) := ⟨rfl, rfl, rfl, by decide +kernel, rfl, by decide +kernel, by decide +kernel⟩
abbrev s_scan_text : Stmt := top 16
abbrev N_scan_text : List Str := ["text", "start", "end"]
theorem sc_scan_text : FnScope N_scan_text ["text", "start"] (defScope s_scan_text) := ⟨rfl, rfl, rfl, by decide +kernel, rfl, by decide +kernel, by decide +kernel⟩
abbrev s_scan_list : Stmt := top 17
abbrev N_scan_list : List Str := ["text", "start", "number", "end", "numbers"]
theorem sc_scan_list : FnScope N_scan_list ["text", "start"] (defScope s_scan_list) := ⟨rfl, rfl, rfl, by decide +kernel, rfl, by decide +kernel, by decide +kernel⟩
abbrev s_scan_value : Stmt := top 12
abbrev N_scan_value : List Str := ["text", "start", "sign"]
theorem sc_scan_value : FnScope N_scan_value ["text", "start"] (defScope s_scan_value) := ⟨rfl, rfl, rfl, by decide +kernel, rfl, by decide +kernel, by decide +kernel⟩
abbrev s_read_value : Stmt := top 11
abbrev N_read_value : List Str := ["text", "value", "end"]
theorem sc_read_value : FnScope N_read_value ["text"] (defScope s_read_value) := ⟨rfl, rfl, rfl, by decide +kernel, rfl, by decide +kernel, by decide +kernel⟩
abbrev s__law_read : Stmt := top 27
abbrev N__law_read : List Str := ["text", "value", "e"]
theorem sc__law_read : FnScope N__law_read ["text"] (defScope s__law_read) := ⟨rfl, rfl, rfl, by decide +kernel, rfl, by decide +kernel, by decide +kernel⟩
abbrev s__law_digits : Stmt := top 23
abbrev N__law_digits : List Str := ["text", "whole", "body", "char"]
theorem sc__law_digits : FnScope N__law_digits ["text", "whole"] (defScope s__law_digits) := ⟨rfl, rfl, rfl, by decide +kernel, rfl, by decide +kernel, by decide +kernel⟩
abbrev s__law_quoted : Stmt := top 24
abbrev N__law_quoted : List Str := ["text", "whole", "inner", "good", "char"]
theorem sc__law_quoted : FnScope N__law_quoted ["text", "whole"] (defScope s__law_quoted) := ⟨rfl, rfl, rfl, by decide +kernel, rfl, by decide +kernel, by decide +kernel⟩
abbrev s__law_bracketed : Stmt := top 25
abbrev N__law_bracketed : List Str := ["text", "whole", "inner", "closed", "items", "last", "k"]
theorem sc__law_bracketed : FnScope N__law_bracketed ["text", "whole"] (defScope s__law_bracketed) := ⟨rfl, rfl, rfl, by decide +kernel, rfl, by decide +kernel, by decide +kernel⟩
abbrev s__law_begins : Stmt := top 26
abbrev N__law_begins : List Str := ["text", "whole"]
theorem sc__law_begins : FnScope N__law_begins ["text", "whole"] (defScope s__law_begins) := ⟨rfl, rfl, rfl, by decide +kernel, rfl, by decide +kernel, by decide +kernel⟩
abbrev s__law_due : Stmt := top 28
abbrev N__law_due : List Str := ["text", "k"]
theorem sc__law_due : FnScope N__law_due ["text"] (defScope s__law_due) := ⟨rfl, rfl, rfl, by decide +kernel, rfl, by decide +kernel, by decide +kernel⟩
abbrev s_law : Stmt := top 29
abbrev N_law : List Str := ["script", "first", "cell", "written", "menu", "at", "way", "one"]
theorem sc_law : FnScope N_law ["script"] (defScope s_law) := ⟨rfl, rfl, rfl, by decide +kernel, rfl, by decide +kernel, by decide +kernel⟩
abbrev c_DIGITS : D := (.str "0123456789")
abbrev c_LIST_LIMIT : D := (.int 12)
abbrev c_NUMBER_LIMIT : D := (.int 1000000)
abbrev c_QUOTE : D := (.str "\"")
abbrev c_SIGNS : D := (.str " 0123456789abcdefghijklmnopqrstuvwxyz")
abbrev c_TEXT_LIMIT : D := (.int 30)
noncomputable def b_write_value_E1 : M D := (mCall dStr (mCons (mVar 1) mNil))
noncomputable def b_write_value : M Fl := (mSeq (mIf (mTr (mIs "bool" (mVar 0)))
    (mRet (mIfE (mTr (mVar 0)) (mC (.str "true")) (mC (.str "false"))))
    mSkip)
    (mSeq (mIf (mTr (mIs "str" (mVar 0)))
    (mRet (mOp dAdd (mOp dAdd (mC c_QUOTE) (mVar 0)) (mC c_QUOTE)))
    mSkip)
    (mSeq (mIf (mTr (mIs "tuple" (mVar 0)))
    (mRet (mOp dAdd (mOp dAdd (mC (.str "[")) (mM1 dJoin (mC (.str " ")) (mOf (mLcS [1] (mItems (mVar 0)) (setV 1) mYes b_write_value_E1)))) (mC (.str "]"))))
    mSkip)
    (mRet (mCall dStr (mCons (mVar 0) mNil))))))
noncomputable def m_write_value : List D → R D := mDef 2 b_write_value
noncomputable def b__law_cell : M Fl := (mSeq (mIf (mT (mOp dLt (mVar 1) (mCall dLen (mCons (mVar 0) mNil))))
    (mRet (mCall dInt (mCons (mOp dIx (mVar 0) (mVar 1)) mNil)))
    mSkip)
    (mRet (mC (.int 0))))
noncomputable def m__law_cell : List D → R D := mDef 2 b__law_cell
noncomputable def b__law_number : M Fl := (mSeq (mAsg (setV 1) (mOp dMod (mVar 0) (mC (.int 4))))
    (mSeq (mIf (mT (mOp dEq (mVar 1) (mC (.int 0))))
    (mRet (mOp dSub (mOp dMod (mOp dDiv (mVar 0) (mC (.int 4))) (mC (.int 7))) (mC (.int 3))))
    mSkip)
    (mSeq (mIf (mT (mOp dEq (mVar 1) (mC (.int 1))))
    (mRet (mOp dSub (mOp dMod (mOp dDiv (mVar 0) (mC (.int 4))) (mC (.int 61))) (mC (.int 30))))
    mSkip)
    (mSeq (mIf (mT (mOp dEq (mVar 1) (mC (.int 2))))
    (mRet (mOp dIx (mOf (mNew (mCons (mC (.int 1000000)) (mCons (mUn dNeg (mC (.int 1000000))) (mCons (mC (.int 999999)) (mCons (mC (.int 500000)) (mCons (mC (.int 500001)) (mCons (mUn dNeg (mC (.int 500000))) (mCons (mC (.int 1000)) (mCons (mUn dNeg (mC (.int 1000))) mNil)))))))))) (mOp dMod (mOp dDiv (mVar 0) (mC (.int 4))) (mC (.int 8)))))
    mSkip)
    (mRet (mOp dSub (mOp dMod (mOp dDiv (mVar 0) (mC (.int 4))) (mC (.int 2000001))) (mC (.int 1000000))))))))
noncomputable def m__law_number : List D → R D := mDef 2 b__law_number
noncomputable def b__law_draws_L1 : M Fl := (mIf (mAndT (mT (mOp dGe (mCall dAbs (mCons (mVar 0) mNil)) (mOp dPow (mC (.int 10)) (mC (.int 18))))) (mT (mOp dGt (mVar 4) (mC (.int 0)))))
    (mSeq (mApp 3 (mOp dMod (mCall dInt (mCons (mVar 4) mNil)) (mVar 2)))
    (mAsg (setV 4) (mOp dDiv (mVar 4) (mVar 2))))
    (mSeq (mAsg (setV 6) (mOp dMod (mCall dInt (mCons (mOp dAdd (mOp dAdd (mOp dMul (mCall dAbs (mCons (mVar 0) mNil)) (mC (.int 48271))) (mOp dMul (mVar 5) (mC (.int 69621)))) (mC (.int 7))) mNil)) (mC (.int 2147483647))))
    (mSeq (mAsg (setV 6) (mOp dMod (mCall dInt (mCons (mOp dAdd (mOp dAdd (mOp dMul (mVar 6) (mC (.int 16807))) (mOp dDiv (mVar 6) (mC (.int 127)))) (mOp dMul (mVar 5) (mC (.int 31)))) mNil)) (mC (.int 2147483629))))
    (mApp 3 (mOp dMod (mOp dDiv (mVar 6) (mC (.int 3))) (mVar 2))))))
noncomputable def b__law_draws : M Fl := (mSeq (mSetM 3 (mNew mNil))
    (mSeq (mAsg (setV 4) (mCall dAbs (mCons (mVar 0) mNil)))
    (mSeq (mForS (mRng1 (mVar 1)) (setV 5)
    b__law_draws_L1)
    (mFrz 3 (mRet (mVar 3))))))
noncomputable def m__law_draws : List D → R D := mDef 7 b__law_draws
noncomputable def b__law_value_E1 : M D := (mOp dIx (mC (.str "a b0 9z1")) (mOp dMod (mVar 3) (mC (.int 8))))
noncomputable def b__law_value_E2 : M D := (mCallF m__law_number (mCons (mVar 3) mNil))
noncomputable def b__law_value_E3 : M D := (mOp dSub (mOp dMod (mVar 3) (mC (.int 9))) (mC (.int 4)))
noncomputable def b__law_value : M Fl := (mSeq (mIf (mT (mOp dEq (mVar 0) (mC (.str "n"))))
    (mRet (mCallF m__law_number (mCons (mVar 1) mNil)))
    mSkip)
    (mSeq (mIf (mT (mOp dEq (mVar 0) (mC (.str "t"))))
    (mRet (mOp dEq (mOp dMod (mVar 1) (mC (.int 2))) (mC (.int 1))))
    mSkip)
    (mSeq (mIf (mT (mOp dEq (mVar 0) (mC (.str "s"))))
    (mSeq (mAsg (setV 2) (mOp dIx (mOf (mNew (mCons (mC (.int 0)) (mCons (mC (.int 1)) (mCons (mC (.int 2)) (mCons (mC (.int 3)) (mCons (mC (.int 5)) (mCons (mC (.int 15)) (mCons (mC (.int 16)) (mCons (mC (.int 30)) mNil)))))))))) (mOp dMod (mVar 1) (mC (.int 8)))))
    (mRet (mM1 dJoin (mC (.str "")) (mOf (mLcS [3] (mItems (mCallF m__law_draws (mCons (mOp dDiv (mVar 1) (mC (.int 8))) (mCons (mVar 2) (mCons (mC (.int 64)) mNil))))) (setV 3) mYes b__law_value_E1)))))
    mSkip)
    (mSeq (mAsg (setV 2) (mOp dIx (mOf (mNew (mCons (mC (.int 0)) (mCons (mC (.int 1)) (mCons (mC (.int 2)) (mCons (mC (.int 3)) (mCons (mC (.int 4)) (mCons (mC (.int 6)) (mCons (mC (.int 11)) (mCons (mC (.int 12)) mNil)))))))))) (mOp dMod (mVar 1) (mC (.int 8)))))
    (mSeq (mIf (mT (mOp dEq (mOp dMod (mOp dDiv (mVar 1) (mC (.int 8))) (mC (.int 3))) (mC (.int 0))))
    (mRet (mCall dTuple (mCons (mOf (mLcS [3] (mItems (mCallF m__law_draws (mCons (mOp dDiv (mVar 1) (mC (.int 24))) (mCons (mVar 2) (mCons (mC (.int 4000)) mNil))))) (setV 3) mYes b__law_value_E2)) mNil)))
    mSkip)
    (mRet (mCall dTuple (mCons (mOf (mLcS [3] (mItems (mCallF m__law_draws (mCons (mOp dDiv (mVar 1) (mC (.int 24))) (mCons (mVar 2) (mCons (mC (.int 63)) mNil))))) (setV 3) mYes b__law_value_E3)) mNil))))))))
noncomputable def m__law_value : List D → R D := mDef 4 b__law_value
noncomputable def b_scan_distance_C1 : M Bool := (mAndT (mT (mOp dLt (mVar 3) (mCall dLen (mCons (mVar 0) mNil)))) (mT (mOp dIn (mOp dIx (mVar 0) (mVar 3)) (mC c_DIGITS))))
noncomputable def b_scan_distance_L1 : M Fl := (mSeq (mAsg (setV 4) (mOp dAdd (mOp dMul (mC (.int 10)) (mVar 2)) (mCall dInt (mCons (mOp dIx (mVar 0) (mVar 3)) mNil))))
    (mSeq (mIf (mOrT (mT (mOp dEq (mVar 4) (mC (.int 0)))) (mT (mOp dGt (mVar 4) (mC c_NUMBER_LIMIT))))
    mBk
    mSkip)
    (mSeq (mAsg (setV 2) (mVar 4))
    (mAug 3 (fun i j => i + j) (mC (.int 1))))))
noncomputable def b_scan_distance : M Fl := (mSeq (mAsg (setV 2) (mC (.int 0)))
    (mSeq (mAsg (setV 3) (mVar 1))
    (mSeq (mWhileS b_scan_distance_C1
    b_scan_distance_L1)
    (mSeq (mIf (mT (mOp dEq (mVar 2) (mC (.int 0))))
    (mRaise 0 t_Malformed (mVar 3))
    mSkip)
    (mRet (mCall dTup (mCons (mVar 2) (mCons (mVar 3) mNil))))))))
noncomputable def m_scan_distance : List D → R D := mDefE 5 b_scan_distance
noncomputable def b_scan_number : M Fl := (mSeq (mIf (mT (mOp dEq (mSl (mVar 0) (mPart (mVar 1)) (mPart (mOp dAdd (mVar 1) (mC (.int 1))))) (mC (.str "0"))))
    (mRet (mCall dTup (mCons (mC (.int 0)) (mCons (mOp dAdd (mVar 1) (mC (.int 1))) mNil))))
    mSkip)
    (mSeq (mIf (mT (mOp dEq (mSl (mVar 0) (mPart (mVar 1)) (mPart (mOp dAdd (mVar 1) (mC (.int 1))))) (mC (.str "-"))))
    (mSeq (mAsg (setT2 (setV 2) (setV 3)) (mCallE m_scan_distance (mCons (mVar 0) (mCons (mOp dAdd (mVar 1) (mC (.int 1))) mNil))))
    (mRet (mCall dTup (mCons (mUn dNeg (mVar 2)) (mCons (mVar 3) mNil)))))
    mSkip)
    (mRet (mCallE m_scan_distance (mCons (mVar 0) (mCons (mVar 1) mNil))))))
noncomputable def m_scan_number : List D → R D := mDefE 4 b_scan_number
noncomputable def b_index_behind_L1 : M Fl := (mIf (mT (mOp dNe (mSl (mVar 0) (mPart (mOp dAdd (mVar 1) (mVar 3))) (mPart (mOp dAdd (mOp dAdd (mVar 1) (mVar 3)) (mC (.int 1))))) (mOp dIx (mVar 2) (mVar 3))))
    (mRaise 0 t_Malformed (mOp dAdd (mVar 1) (mVar 3)))
    mSkip)
noncomputable def b_index_behind : M Fl := (mSeq (mForS (mRng1 (mCall dLen (mCons (mVar 2) mNil))) (setV 3)
    b_index_behind_L1)
    (mRet (mOp dAdd (mVar 1) (mCall dLen (mCons (mVar 2) mNil)))))
noncomputable def m_index_behind : List D → R D := mDefE 4 b_index_behind
noncomputable def b_scan_text_C1 : M Bool := (mAndT (mT (mOp dLt (mVar 2) (mCall dLen (mCons (mVar 0) mNil)))) (mAndT (mT (mOp dLt (mOp dSub (mVar 2) (mVar 1)) (mC c_TEXT_LIMIT))) (mT (mOp dIn (mOp dIx (mVar 0) (mVar 2)) (mC c_SIGNS)))))
noncomputable def b_scan_text_L1 : M Fl := (mAug 2 (fun i j => i + j) (mC (.int 1)))
noncomputable def b_scan_text : M Fl := (mSeq (mAsg (setV 2) (mVar 1))
    (mSeq (mWhileS b_scan_text_C1
    b_scan_text_L1)
    (mRet (mCall dTup (mCons (mSl (mVar 0) (mPart (mVar 1)) (mPart (mVar 2))) (mCons (mCallE m_index_behind (mCons (mVar 0) (mCons (mVar 2) (mCons (mC c_QUOTE) mNil)))) mNil))))))
noncomputable def m_scan_text : List D → R D := mDefE 3 b_scan_text
noncomputable def b_scan_list_C1 : M Bool := (mAndT (mT (mOp dLt (mLenM 4) (mC c_LIST_LIMIT))) (mT (mOp dEq (mSl (mVar 0) (mPart (mVar 3)) (mPart (mOp dAdd (mVar 3) (mC (.int 1))))) (mC (.str " ")))))
noncomputable def b_scan_list_L1 : M Fl := (mSeq (mAsg (setT2 (setV 2) (setV 3)) (mCallE m_scan_number (mCons (mVar 0) (mCons (mOp dAdd (mVar 3) (mC (.int 1))) mNil))))
    (mApp 4 (mVar 2)))
noncomputable def b_scan_list : M Fl := (mSeq (mIf (mT (mOp dEq (mSl (mVar 0) (mPart (mVar 1)) (mPart (mOp dAdd (mVar 1) (mC (.int 1))))) (mC (.str "]"))))
    (mRet (mCall dTup (mCons (mCall dTup mNil) (mCons (mOp dAdd (mVar 1) (mC (.int 1))) mNil))))
    mSkip)
    (mSeq (mAsg (setT2 (setV 2) (setV 3)) (mCallE m_scan_number (mCons (mVar 0) (mCons (mVar 1) mNil))))
    (mSeq (mSetM 4 (mNew (mCons (mVar 2) mNil)))
    (mSeq (mWhileS b_scan_list_C1
    b_scan_list_L1)
    (mFrz 4 (mRet (mCall dTup (mCons (mCall dTuple (mCons (mVar 4) mNil)) (mCons (mCallE m_index_behind (mCons (mVar 0) (mCons (mVar 3) (mCons (mC (.str "]")) mNil)))) mNil)))))))))
noncomputable def m_scan_list : List D → R D := mDefE 5 b_scan_list
noncomputable def b_scan_value : M Fl := (mSeq (mAsg (setV 2) (mSl (mVar 0) (mPart (mVar 1)) (mPart (mOp dAdd (mVar 1) (mC (.int 1))))))
    (mSeq (mIf (mT (mOp dEq (mVar 2) (mC c_QUOTE)))
    (mRet (mCallE m_scan_text (mCons (mVar 0) (mCons (mOp dAdd (mVar 1) (mC (.int 1))) mNil))))
    mSkip)
    (mSeq (mIf (mT (mOp dEq (mVar 2) (mC (.str "["))))
    (mRet (mCallE m_scan_list (mCons (mVar 0) (mCons (mOp dAdd (mVar 1) (mC (.int 1))) mNil))))
    mSkip)
    (mSeq (mIf (mT (mOp dEq (mVar 2) (mC (.str "t"))))
    (mRet (mCall dTup (mCons (mC (.bool true)) (mCons (mCallE m_index_behind (mCons (mVar 0) (mCons (mVar 1) (mCons (mC (.str "true")) mNil)))) mNil))))
    mSkip)
    (mSeq (mIf (mT (mOp dEq (mVar 2) (mC (.str "f"))))
    (mRet (mCall dTup (mCons (mC (.bool false)) (mCons (mCallE m_index_behind (mCons (mVar 0) (mCons (mVar 1) (mCons (mC (.str "false")) mNil)))) mNil))))
    mSkip)
    (mRet (mCallE m_scan_number (mCons (mVar 0) (mCons (mVar 1) mNil)))))))))
noncomputable def m_scan_value : List D → R D := mDefE 3 b_scan_value
noncomputable def b_read_value : M Fl := (mSeq (mAsg (setT2 (setV 1) (setV 2)) (mCallE m_scan_value (mCons (mVar 0) (mCons (mC (.int 0)) mNil))))
    (mSeq (mIf (mT (mOp dLt (mVar 2) (mCall dLen (mCons (mVar 0) mNil))))
    (mRaise 0 t_Malformed (mVar 2))
    mSkip)
    (mRet (mVar 1))))
noncomputable def m_read_value : List D → R D := mDefE 3 b_read_value
noncomputable def b__law_read_B1 : M Fl := (mSeq (mAsg (setV 1) (mCallE m_read_value (mCons (mVar 0) mNil)))
    (mRet (mCall dTup (mCons (mC (.str "value")) (mCons (mCallF m_write_value (mCons (mVar 1) mNil)) mNil)))))
noncomputable def b__law_read : M Fl := (mTryR 2 (fun _ => true) b__law_read_B1 (fun _ pay => [(.str "malformed"), pay, (.bool true)]))
noncomputable def m__law_read : List D → R D := mDefE 3 b__law_read
noncomputable def b__law_digits_E1 : M D := (mVar 3)
noncomputable def b__law_digits_T1 : M Bool := (mT (mOp dNotIn (mVar 3) (mC (.str "0123456789"))))
noncomputable def b__law_digits : M Fl := (mSeq (mAsg (setV 2) (mVar 0))
    (mSeq (mIf (mT (mOp dEq (mSl (mVar 0) mNoPart (mPart (mC (.int 1)))) (mC (.str "-"))))
    (mSeq (mAsg (setV 2) (mSl (mVar 0) (mPart (mC (.int 1))) mNoPart))
    (mIf (mT (mOp dEq (mSl (mVar 2) mNoPart (mPart (mC (.int 1)))) (mC (.str "0"))))
    (mRet (mC (.bool false)))
    mSkip))
    mSkip)
    (mSeq (mIf (mOrT (mT (mOp dGt (mCall dLen (mCons (mOf (mLcS [3] (mItems (mVar 2)) (setV 3) b__law_digits_T1 b__law_digits_E1)) mNil)) (mC (.int 0)))) (mT (mOp dGt (mCall dLen (mCons (mVar 2) mNil)) (mC (.int 7)))))
    (mRet (mC (.bool false)))
    mSkip)
    (mSeq (mIf (mT (mOp dEq (mVar 2) (mC (.str ""))))
    (mRet (mNot (mVar 1)))
    mSkip)
    (mSeq (mIf (mT (mOp dEq (mOp dIx (mVar 2) (mC (.int 0))) (mC (.str "0"))))
    (mRet (mOp dEq (mVar 2) (mC (.str "0"))))
    mSkip)
    (mRet (mOp dLe (mCall dInt (mCons (mVar 2) mNil)) (mC (.int 1000000)))))))))
noncomputable def m__law_digits : List D → R D := mDef 4 b__law_digits
noncomputable def b__law_quoted_E1 : M D := (mVar 4)
noncomputable def b__law_quoted_T1 : M Bool := (mT (mOp dIn (mVar 4) (mC (.str " abcdefghijklmnopqrstuvwxyz0123456789"))))
noncomputable def b__law_quoted : M Fl := (mSeq (mAsg (setV 2) (mSl (mVar 0) (mPart (mC (.int 1))) mNoPart))
    (mSeq (mIf (mT (mOp dEq (mSl (mVar 2) (mPart (mOp dSub (mCall dLen (mCons (mVar 2) mNil)) (mC (.int 1)))) mNoPart) (mC (.str "\""))))
    (mAsg (setV 2) (mSl (mVar 2) mNoPart (mPart (mOp dSub (mCall dLen (mCons (mVar 2) mNil)) (mC (.int 1))))))
    (mIf (mTr (mVar 1))
    (mRet (mC (.bool false)))
    mSkip))
    (mSeq (mAsg (setV 3) (mOp dEq (mCall dLen (mCons (mOf (mLcS [4] (mItems (mVar 2)) (setV 4) b__law_quoted_T1 b__law_quoted_E1)) mNil)) (mCall dLen (mCons (mVar 2) mNil))))
    (mRet (mAnd (mVar 3) (mOp dLe (mCall dLen (mCons (mVar 2) mNil)) (mC (.int 30))))))))
noncomputable def m__law_quoted : List D → R D := mDef 5 b__law_quoted
noncomputable def b__law_bracketed_L1 : M Fl := (mIf (mNotT (mTr (mCallF m__law_digits (mCons (mOp dIx (mVar 4) (mVar 6)) (mCons (mOr (mVar 3) (mOp dLt (mVar 6) (mVar 5))) mNil)))))
    (mRet (mC (.bool false)))
    mSkip)
noncomputable def b__law_bracketed : M Fl := (mSeq (mAsg (setV 2) (mSl (mVar 0) (mPart (mC (.int 1))) mNoPart))
    (mSeq (mAsg (setV 3) (mOp dEq (mSl (mVar 2) (mPart (mOp dSub (mCall dLen (mCons (mVar 2) mNil)) (mC (.int 1)))) mNoPart) (mC (.str "]"))))
    (mSeq (mIf (mTr (mVar 3))
    (mAsg (setV 2) (mSl (mVar 2) mNoPart (mPart (mOp dSub (mCall dLen (mCons (mVar 2) mNil)) (mC (.int 1))))))
    mSkip)
    (mSeq (mIf (mAndT (mTr (mVar 1)) (mNotT (mTr (mVar 3))))
    (mRet (mC (.bool false)))
    mSkip)
    (mSeq (mIf (mT (mOp dEq (mVar 2) (mC (.str ""))))
    (mRet (mC (.bool true)))
    mSkip)
    (mSeq (mAsg (setV 4) (mM1 dSplit (mVar 2) (mC (.str " "))))
    (mSeq (mAsg (setV 5) (mOp dSub (mCall dLen (mCons (mVar 4) mNil)) (mC (.int 1))))
    (mSeq (mForS (mRng1 (mCall dLen (mCons (mVar 4) mNil))) (setV 6)
    b__law_bracketed_L1)
    (mRet (mOp dLe (mCall dLen (mCons (mVar 4) mNil)) (mC (.int 12))))))))))))
noncomputable def m__law_bracketed : List D → R D := mDef 7 b__law_bracketed
noncomputable def b__law_begins : M Fl := (mSeq (mIf (mT (mOp dEq (mVar 0) (mC (.str ""))))
    (mRet (mNot (mVar 1)))
    mSkip)
    (mSeq (mIf (mT (mOp dEq (mOp dIx (mVar 0) (mC (.int 0))) (mC (.str "\""))))
    (mRet (mCallF m__law_quoted (mCons (mVar 0) (mCons (mVar 1) mNil))))
    mSkip)
    (mSeq (mIf (mT (mOp dEq (mOp dIx (mVar 0) (mC (.int 0))) (mC (.str "["))))
    (mRet (mCallF m__law_bracketed (mCons (mVar 0) (mCons (mVar 1) mNil))))
    mSkip)
    (mSeq (mIf (mT (mOp dIn (mOp dIx (mVar 0) (mC (.int 0))) (mC (.str "tf"))))
    (mRet (mOr (mOp dIn (mVar 0) (mOf (mNew (mCons (mC (.str "true")) (mCons (mC (.str "false")) mNil))))) (mAnd (mNot (mVar 1)) (mOr (mM1 dStarts (mC (.str "true")) (mVar 0)) (mM1 dStarts (mC (.str "false")) (mVar 0))))))
    mSkip)
    (mRet (mCallF m__law_digits (mCons (mVar 0) (mCons (mVar 1) mNil))))))))
noncomputable def m__law_begins : List D → R D := mDef 2 b__law_begins
noncomputable def b__law_due_L1 : M Fl := (mIf (mNotT (mTr (mCallF m__law_begins (mCons (mSl (mVar 0) mNoPart (mPart (mOp dAdd (mVar 1) (mC (.int 1))))) (mCons (mC (.bool false)) mNil)))))
    (mRet (mCall dTup (mCons (mC (.str "malformed")) (mCons (mVar 1) (mCons (mC (.bool true)) mNil)))))
    mSkip)
noncomputable def b__law_due : M Fl := (mSeq (mIf (mTr (mCallF m__law_begins (mCons (mVar 0) (mCons (mC (.bool true)) mNil))))
    (mRet (mCall dTup (mCons (mC (.str "value")) (mCons (mVar 0) mNil))))
    mSkip)
    (mSeq (mForS (mRng1 (mCall dLen (mCons (mVar 0) mNil))) (setV 1)
    b__law_due_L1)
    (mRet (mCall dTup (mCons (mC (.str "malformed")) (mCons (mCall dLen (mCons (mVar 0) mNil)) (mCons (mC (.bool true)) mNil)))))))
noncomputable def m__law_due : List D → R D := mDef 2 b__law_due
noncomputable def b_law_E1 : M D := (mOp dIx (mVar 4) (mOp dMod (mCall dAbs (mCons (mCall dInt (mCons (mVar 7) mNil)) mNil)) (mC (.int 20))))
noncomputable def b_law : M Fl := (mSeq (mAsg (setV 1) (mCall dAbs (mCons (mCallF m__law_cell (mCons (mVar 0) (mCons (mC (.int 0)) mNil))) mNil)))
    (mSeq (mAsg (setV 2) (mCall dAbs (mCons (mCallF m__law_cell (mCons (mVar 0) (mCons (mC (.int 1)) mNil))) mNil)))
    (mSeq (mAsg (setV 3) (mCallF m_write_value (mCons (mCallF m__law_value (mCons (mOp dIx (mC (.str "ntsl")) (mOp dMod (mVar 1) (mC (.int 4)))) (mCons (mVar 2) mNil))) mNil)))
    (mSeq (mAsg (setV 4) (mC (.str "0123-[] \"truefals9xA")))
    (mSeq (mIf (mT (mOp dEq (mOp dMod (mOp dDiv (mVar 1) (mC (.int 4))) (mC (.int 5))) (mC (.int 0))))
    (mAsg (setV 3) (mM1 dJoin (mC (.str "")) (mOf (mLcS [7] (mItems (mSl (mVar 0) (mPart (mC (.int 2))) (mPart (mC (.int 22))))) (setV 7) mYes b_law_E1))))
    mSkip)
    (mSeq (mAsg (setV 5) (mOp dMod (mCall dAbs (mCons (mCallF m__law_cell (mCons (mVar 0) (mCons (mC (.int 2)) mNil))) mNil)) (mOp dAdd (mCall dLen (mCons (mVar 3) mNil)) (mC (.int 1)))))
    (mSeq (mAsg (setV 6) (mOp dMod (mOp dDiv (mVar 1) (mC (.int 20))) (mC (.int 5))))
    (mSeq (mIf (mT (mOp dEq (mVar 6) (mC (.int 1))))
    (mAsg (setV 3) (mOp dAdd (mSl (mVar 3) mNoPart (mPart (mVar 5))) (mSl (mVar 3) (mPart (mOp dAdd (mVar 5) (mC (.int 1)))) mNoPart)))
    mSkip)
    (mSeq (mIf (mT (mOp dEq (mVar 6) (mC (.int 2))))
    (mAsg (setV 3) (mOp dAdd (mOp dAdd (mSl (mVar 3) mNoPart (mPart (mVar 5))) (mOp dIx (mVar 4) (mOp dMod (mOp dDiv (mVar 1) (mC (.int 100))) (mC (.int 20))))) (mSl (mVar 3) (mPart (mVar 5)) mNoPart)))
    mSkip)
    (mSeq (mIf (mT (mOp dEq (mVar 6) (mC (.int 3))))
    (mAsg (setV 3) (mOp dAdd (mOp dAdd (mSl (mVar 3) mNoPart (mPart (mVar 5))) (mOp dIx (mVar 4) (mOp dMod (mOp dDiv (mVar 1) (mC (.int 100))) (mC (.int 20))))) (mSl (mVar 3) (mPart (mOp dAdd (mVar 5) (mC (.int 1)))) mNoPart)))
    mSkip)
    (mSeq (mIf (mT (mOp dEq (mVar 6) (mC (.int 4))))
    (mAsg (setV 3) (mSl (mVar 3) mNoPart (mPart (mVar 5))))
    mSkip)
    (mRet (mOp dEq (mCallE m__law_read (mCons (mVar 3) mNil)) (mCallF m__law_due (mCons (mVar 3) mNil)))))))))))))))
noncomputable def m_law : List D → R D := mDef 8 b_law
end K03
end Part_K03d

section Part_K03o
set_option Elab.async false
set_option linter.all false
set_option maxRecDepth 100000
set_option autoImplicit false
set_option maxHeartbeats 2000000
namespace K03
open PySem PySem.Spec PyProof.Rows L2 DL
/-- what the top has written -/
structure Txt (P : Program) (K : PySem.W.Frag) (mg : Str → Option Value) (C : Addr) : Prop where
  f_write_value : FunX K mg "write_value" s_write_value ["value"]
  f__law_cell : FunX K mg "_law_cell" s__law_cell ["script", "k"]
  f__law_number : FunX K mg "_law_number" s__law_number ["cell"]
  f__law_draws : FunX K mg "_law_draws" s__law_draws ["cell", "many", "limit"]
  f__law_value : FunX K mg "_law_value" s__law_value ["letter", "cell"]
  f_scan_distance : FunX K mg "scan_distance" s_scan_distance ["text", "start"]
  f_scan_number : FunX K mg "scan_number" s_scan_number ["text", "start"]
  f_index_behind : FunX K mg "index_behind" s_index_behind ["text", "start", "word"]
  f_scan_text : FunX K mg "scan_text" s_scan_text ["text", "start"]
  f_scan_list : FunX K mg "scan_list" s_scan_list ["text", "start"]
  f_scan_value : FunX K mg "scan_value" s_scan_value ["text", "start"]
  f_read_value : FunX K mg "read_value" s_read_value ["text"]
  f__law_read : FunX K mg "_law_read" s__law_read ["text"]
  f__law_digits : FunX K mg "_law_digits" s__law_digits ["text", "whole"]
  f__law_quoted : FunX K mg "_law_quoted" s__law_quoted ["text", "whole"]
  f__law_bracketed : FunX K mg "_law_bracketed" s__law_bracketed ["text", "whole"]
  f__law_begins : FunX K mg "_law_begins" s__law_begins ["text", "whole"]
  f__law_due : FunX K mg "_law_due" s__law_due ["text"]
  f_law : FunX K mg "law" s_law ["script"]
  c_DIGITS : ConX K mg "DIGITS" c_DIGITS
  c_LIST_LIMIT : ConX K mg "LIST_LIMIT" c_LIST_LIMIT
  c_NUMBER_LIMIT : ConX K mg "NUMBER_LIMIT" c_NUMBER_LIMIT
  c_QUOTE : ConX K mg "QUOTE" c_QUOTE
  c_SIGNS : ConX K mg "SIGNS" c_SIGNS
  c_TEXT_LIMIT : ConX K mg "TEXT_LIMIT" c_TEXT_LIMIT
  z_abs : mg "abs" = none
  z_bool : mg "bool" = none
  z_int : mg "int" = none
  z_isinstance : mg "isinstance" = none
  z_len : mg "len" = none
  z_range : mg "range" = none
  z_str : mg "str" = none
  z_tuple : mg "tuple" = none
  g_Malformed : mg "Malformed" = some (.ref C)
  cf : ClsF K C "index"
  x_Malformed : ∀ (w : World) (base : Heap), ErrX P w K mg base 1 "Malformed" (C, "index") t_Malformed
  m_Malformed : PySem.W.exmOne K (.ref C) (.ref C) = some true
  k_LeastError : ∃ a, mg "LeastError" = some (.ref a) ∧ PySem.W.kitOne K (.ref C) (.ref a) = some true
section
variable {P : Program} {w : World} {K : PySem.W.Frag} {mg : Str → Option Value} {base : Heap} {C : Addr}
theorem ok_write_value (T : Txt P K mg C) : FnX P w K mg base 1 "write_value" 1 m_write_value :=
  def_okX (k := 0) (EC := EC0 C) T.f_write_value sc_write_value fun f cdv A outer s H E hr => (show DSs _ _ _ _ b_write_value from
  (dss_cons (ds_if (dt_truth (de_isi (T := "bool") (by unfold TyKnown; decide) (de_var 0) (by rfl) T.z_isinstance (by rfl) T.z_bool (by decide +kernel)))
    (dss_one (ds_ret (de_ifE (dt_truth (de_var 0)) de_str de_str)))
    dss_nil)
    (dss_cons (ds_if (dt_truth (de_isi (T := "str") (by unfold TyKnown; decide) (de_var 0) (by rfl) T.z_isinstance (by rfl) T.z_str (by decide +kernel)))
    (dss_one (ds_ret (de_op op_addA ro_add (de_op op_addA ro_add (de_conX T.c_QUOTE) (de_var 0)) (de_conX T.c_QUOTE))))
    dss_nil)
    (dss_cons (ds_if (dt_truth (de_isi (T := "tuple") (by unfold TyKnown; decide) (de_var 0) (by rfl) T.z_isinstance (by rfl) T.z_tuple (by decide +kernel)))
    (dss_one (ds_ret (de_op op_addA ro_add (de_op op_addA ro_add de_str (de_m1 PySem.F.slot_str_join PySem.F.type_str_join mt_join rm_join de_str (de_of (dl_lc (own := [(("number" : Str), 1)]) (W0 := W00) rfl sc_write_value.nd (di_seq (de_var 0)) (blkOk_by (N := N_write_value) (sc := defScope s_write_value) (by decide +kernel)) (fun _ _ _ _ _ => (dg_name (j := 1) sc_write_value.nd rfl (by first | exact Or.inl rfl | exact Or.inr rfl))) (by simp) (fun _ _ _ _ _ => dts_nil) (fun _ _ _ _ _ => (de_callTy call_str_int rc_str (by rfl) T.z_str (by decide +kernel) (da_cons (de_var 1) da_nil))))))) de_str)))
    dss_nil)
    (dss_one (ds_ret (de_callTy call_str_int rc_str (by rfl) T.z_str (by decide +kernel) (da_cons (de_var 0) da_nil))))))))
theorem ok__law_cell (T : Txt P K mg C) : FnX P w K mg base 1 "_law_cell" 2 m__law_cell :=
  def_okX (k := 0) (EC := EC0 C) T.f__law_cell sc__law_cell fun f cdv A outer s H E hr => (show DSs _ _ _ _ b__law_cell from
  (dss_cons (ds_if (dt_cmp (op_ltA hr.units0) ro_lt (de_var 1) (de_callB call_len rc_len (by rfl) T.z_len (by decide +kernel) (da_cons (de_var 0) da_nil)) (nomark _))
    (dss_one (ds_ret (de_callTy call_intA rc_int (by rfl) T.z_int (by decide +kernel) (da_cons (de_ix (de_var 0) (de_var 1)) da_nil))))
    dss_nil)
    (dss_one (ds_ret de_int))))
theorem ok__law_number (T : Txt P K mg C) : FnX P w K mg base 1 "_law_number" 1 m__law_number :=
  def_okX (k := 0) (EC := EC0 C) T.f__law_number sc__law_number fun f cdv A outer s H E hr => (show DSs _ _ _ _ b__law_number from
  (dss_cons (ds_set 1 sc__law_number.nd (de_op op_modN ro_mod (de_var 0) de_int))
    (dss_cons (ds_if (dt_cmp (op_eqD hr.units) ro_eq (de_var 1) de_int (nomark _))
    (dss_one (ds_ret (de_op op_sub ro_sub (de_op op_modN ro_mod (de_op op_divA ro_div (de_var 0) de_int) de_int) de_int)))
    dss_nil)
    (dss_cons (ds_if (dt_cmp (op_eqD hr.units) ro_eq (de_var 1) de_int (nomark _))
    (dss_one (ds_ret (de_op op_sub ro_sub (de_op op_modN ro_mod (de_op op_divA ro_div (de_var 0) de_int) de_int) de_int)))
    dss_nil)
    (dss_cons (ds_if (dt_cmp (op_eqD hr.units) ro_eq (de_var 1) de_int (nomark _))
    (dss_one (ds_ret (de_ix (de_lst (da_cons de_int (da_cons (de_un un_neg ro_neg de_int) (da_cons de_int (da_cons de_int (da_cons de_int (da_cons (de_un un_neg ro_neg de_int) (da_cons de_int (da_cons (de_un un_neg ro_neg de_int) da_nil))))))))) (de_op op_modN ro_mod (de_op op_divA ro_div (de_var 0) de_int) de_int))))
    dss_nil)
    (dss_one (ds_ret (de_op op_sub ro_sub (de_op op_modN ro_mod (de_op op_divA ro_div (de_var 0) de_int) de_int) de_int))))))))
theorem ok__law_draws (T : Txt P K mg C) : FnX P w K mg base 1 "_law_draws" 3 m__law_draws :=
  def_okX (k := 0) (EC := EC0 C) T.f__law_draws sc__law_draws fun f cdv A outer s H E hr => (show DSs _ _ _ _ b__law_draws from
  (dss_cons (ds_setM 3 sc__law_draws.nd (dl_lst da_nil))
    (dss_cons (ds_set 4 sc__law_draws.nd (de_callB call_abs rc_abs (by rfl) T.z_abs (by decide +kernel) (da_cons (de_var 0) da_nil)))
    (dss_cons (ds_for PassesOwn.never rfl (di_rng1 (by rfl) T.z_range (de_var 1)) (dg_name (j := 5) sc__law_draws.nd rfl (by first | exact Or.inl rfl | exact Or.inr rfl))
    (dss_one (ds_if (dw_and (dt_cmp op_ge ro_ge (de_callB call_abs rc_abs (by rfl) T.z_abs (by decide +kernel) (da_cons (de_var 0) da_nil)) (de_op op_pow ro_pow de_int de_int) (nomark _)) (dw_and1 (dt_cmp (op_gtA hr.units0) ro_gt (de_var 4) de_int (nomark _)))).dt
    (dss_cons (ds_app 3 (de_op op_modN ro_mod (de_callTy call_intA rc_int (by rfl) T.z_int (by decide +kernel) (da_cons (de_var 4) da_nil)) (de_var 2)))
    (dss_one (ds_set 4 sc__law_draws.nd (de_op op_divA ro_div (de_var 4) (de_var 2)))))
    (dss_cons (ds_set 6 sc__law_draws.nd (de_op op_modN ro_mod (de_callTy call_intA rc_int (by rfl) T.z_int (by decide +kernel) (da_cons (de_op op_addA ro_add (de_op op_addA ro_add (de_op op_mulA ro_mul (de_callB call_abs rc_abs (by rfl) T.z_abs (by decide +kernel) (da_cons (de_var 0) da_nil)) de_int) (de_op op_mulA ro_mul (de_var 5) de_int)) de_int) da_nil)) de_int))
    (dss_cons (ds_set 6 sc__law_draws.nd (de_op op_modN ro_mod (de_callTy call_intA rc_int (by rfl) T.z_int (by decide +kernel) (da_cons (de_op op_addA ro_add (de_op op_addA ro_add (de_op op_mulA ro_mul (de_var 6) de_int) (de_op op_divA ro_div (de_var 6) de_int)) (de_op op_mulA ro_mul (de_var 5) de_int)) da_nil)) de_int))
    (dss_one (ds_app 3 (de_op op_modN ro_mod (de_op op_divA ro_div (de_var 6) de_int) (de_var 2)))))))))
    (dss_frz 3 (dss_one (ds_ret (de_var 3))))))))
theorem ok__law_value (T : Txt P K mg C) : FnX P w K mg base 2 "_law_value" 2 m__law_value :=
  def_okX (k := 1) (EC := EC0 C) T.f__law_value sc__law_value fun f cdv A outer s H E hr => (show DSs _ _ _ _ b__law_value from
  (dss_cons (ds_if (dt_cmp (op_eqD hr.units) ro_eq (de_var 0) de_str (nomark _))
    (dss_one (ds_ret (de_callX (ok__law_number T) (hr.mono (by decide)) (da_cons (de_var 1) da_nil))))
    dss_nil)
    (dss_cons (ds_if (dt_cmp (op_eqD hr.units) ro_eq (de_var 0) de_str (nomark _))
    (dss_one (ds_ret (de_cmp (op_eqD hr.units) ro_eq (de_op op_modN ro_mod (de_var 1) de_int) de_int (nomark _))))
    dss_nil)
    (dss_cons (ds_if (dt_cmp (op_eqD hr.units) ro_eq (de_var 0) de_str (nomark _))
    (dss_cons (ds_set 2 sc__law_value.nd (de_ix (de_lst (da_cons de_int (da_cons de_int (da_cons de_int (da_cons de_int (da_cons de_int (da_cons de_int (da_cons de_int (da_cons de_int da_nil))))))))) (de_op op_modN ro_mod (de_var 1) de_int)))
    (dss_one (ds_ret (de_m1 PySem.F.slot_str_join PySem.F.type_str_join mt_join rm_join de_str (de_of (dl_lc (own := [(("k" : Str), 3)]) (W0 := W00) rfl sc__law_value.nd (di_seq (de_callX (ok__law_draws T) (hr.mono (by decide)) (da_cons (de_op op_divA ro_div (de_var 1) de_int) (da_cons (de_var 2) (da_cons de_int da_nil))))) (blkOk_by (N := N__law_value) (sc := defScope s__law_value) (by decide +kernel)) (fun _ _ _ _ _ => (dg_name (j := 3) sc__law_value.nd rfl (by first | exact Or.inl rfl | exact Or.inr rfl))) (by simp) (fun _ _ _ _ _ => dts_nil) (fun _ _ _ _ _ => (de_ix de_str (de_op op_modN ro_mod (de_var 3) de_int)))))))))
    dss_nil)
    (dss_cons (ds_set 2 sc__law_value.nd (de_ix (de_lst (da_cons de_int (da_cons de_int (da_cons de_int (da_cons de_int (da_cons de_int (da_cons de_int (da_cons de_int (da_cons de_int da_nil))))))))) (de_op op_modN ro_mod (de_var 1) de_int)))
    (dss_cons (ds_if (dt_cmp (op_eqD hr.units) ro_eq (de_op op_modN ro_mod (de_op op_divA ro_div (de_var 1) de_int) de_int) de_int (nomark _))
    (dss_one (ds_ret (de_callTy call_tuple_of rc_tuple (by rfl) T.z_tuple (by decide +kernel) (da_cons (de_of (dl_lc (own := [(("k" : Str), 3)]) (W0 := W00) rfl sc__law_value.nd (di_seq (de_callX (ok__law_draws T) (hr.mono (by decide)) (da_cons (de_op op_divA ro_div (de_var 1) de_int) (da_cons (de_var 2) (da_cons de_int da_nil))))) (blkOk_by (N := N__law_value) (sc := defScope s__law_value) (by decide +kernel)) (fun _ _ _ _ _ => (dg_name (j := 3) sc__law_value.nd rfl (by first | exact Or.inl rfl | exact Or.inr rfl))) (by simp) (fun _ _ _ _ _ => dts_nil) (fun _ _ _ _ _ => (de_callX (ok__law_number T) (hr.mono (by decide)) (da_cons (de_var 3) da_nil))))) da_nil))))
    dss_nil)
    (dss_one (ds_ret (de_callTy call_tuple_of rc_tuple (by rfl) T.z_tuple (by decide +kernel) (da_cons (de_of (dl_lc (own := [(("k" : Str), 3)]) (W0 := W00) rfl sc__law_value.nd (di_seq (de_callX (ok__law_draws T) (hr.mono (by decide)) (da_cons (de_op op_divA ro_div (de_var 1) de_int) (da_cons (de_var 2) (da_cons de_int da_nil))))) (blkOk_by (N := N__law_value) (sc := defScope s__law_value) (by decide +kernel)) (fun _ _ _ _ _ => (dg_name (j := 3) sc__law_value.nd rfl (by first | exact Or.inl rfl | exact Or.inr rfl))) (by simp) (fun _ _ _ _ _ => dts_nil) (fun _ _ _ _ _ => (de_op op_sub ro_sub (de_op op_modN ro_mod (de_var 3) de_int) de_int)))) da_nil))))))))))
theorem ok_scan_distance (T : Txt P K mg C) : FnE P w K mg base (EC0 C) 3 "scan_distance" 2 m_scan_distance :=
  def_okE (k := 2) (EC := EC0 C) T.f_scan_distance sc_scan_distance fun f cdv A outer s H E hr tk po => (show DSs _ _ _ _ b_scan_distance from
  (dss_cons (ds_set 2 sc_scan_distance.nd de_int)
    (dss_cons (ds_set 3 sc_scan_distance.nd (de_var 1))
    (dss_cons (ds_while po (dw_and (dt_cmp (op_ltA hr.units0) ro_lt (de_var 3) (de_callB call_len rc_len (by rfl) T.z_len (by decide +kernel) (da_cons (de_var 0) da_nil)) (nomark _)) (dw_and1 (dt_cmp op_inA ro_in (de_ix (de_var 0) (de_var 3)) (de_conX T.c_DIGITS) rfl))).dt
    (dss_cons (ds_set 4 sc_scan_distance.nd (de_op op_addA ro_add (de_op op_mulA ro_mul de_int (de_var 2)) (de_callTy call_intA rc_int (by rfl) T.z_int (by decide +kernel) (da_cons (de_ix (de_var 0) (de_var 3)) da_nil))))
    (dss_cons (ds_if (dw_or (dt_cmp (op_eqD hr.units) ro_eq (de_var 4) de_int (nomark _)) (dw_or1 (dt_cmp (op_gtA hr.units0) ro_gt (de_var 4) (de_conX T.c_NUMBER_LIMIT) (nomark _)))).dt
    (dss_one ds_break)
    dss_nil)
    (dss_cons (ds_set 2 sc_scan_distance.nd (de_var 4))
    (dss_one (ds_aug 3 sc_scan_distance.nd de_int ip_add))))))
    (dss_cons (ds_if (dt_cmp (op_eqD hr.units) ro_eq (de_var 2) de_int (nomark _))
    (dss_one (ds_raise rfl tk (T.x_Malformed _ _) (hr.mono (by decide)) (de_var 3)))
    dss_nil)
    (dss_one (ds_ret (de_tup (da_cons (de_var 2) (da_cons (de_var 3) da_nil))))))))))
theorem ok_scan_number (T : Txt P K mg C) : FnE P w K mg base (EC0 C) 4 "scan_number" 2 m_scan_number :=
  def_okE (k := 3) (EC := EC0 C) T.f_scan_number sc_scan_number fun f cdv A outer s H E hr tk po => (show DSs _ _ _ _ b_scan_number from
  (dss_cons (ds_if (dt_cmp (op_eqD hr.units) ro_eq (de_sl (de_var 0) (do_some (de_var 1)) (do_some (de_op op_addA ro_add (de_var 1) de_int))) de_str (nomark _))
    (dss_one (ds_ret (de_tup (da_cons de_int (da_cons (de_op op_addA ro_add (de_var 1) de_int) da_nil)))))
    dss_nil)
    (dss_cons (ds_if (dt_cmp (op_eqD hr.units) ro_eq (de_sl (de_var 0) (do_some (de_var 1)) (do_some (de_op op_addA ro_add (de_var 1) de_int))) de_str (nomark _))
    (dss_cons (ds_asg (de_callE tk (ok_scan_distance T) (hr.mono (by decide)) (da_cons (de_var 0) (da_cons (de_op op_addA ro_add (de_var 1) de_int) da_nil))) (dg_tup2 rfl (dg_name (j := 2) sc_scan_number.nd rfl (by first | exact Or.inl rfl | exact Or.inr rfl)) (dg_name (j := 3) sc_scan_number.nd rfl (by first | exact Or.inl rfl | exact Or.inr rfl))))
    (dss_one (ds_ret (de_tup (da_cons (de_un un_neg ro_neg (de_var 2)) (da_cons (de_var 3) da_nil))))))
    dss_nil)
    (dss_one (ds_ret (de_callE tk (ok_scan_distance T) (hr.mono (by decide)) (da_cons (de_var 0) (da_cons (de_var 1) da_nil))))))))
theorem ok_index_behind (T : Txt P K mg C) : FnE P w K mg base (EC0 C) 3 "index_behind" 3 m_index_behind :=
  def_okE (k := 2) (EC := EC0 C) T.f_index_behind sc_index_behind fun f cdv A outer s H E hr tk po => (show DSs _ _ _ _ b_index_behind from
  (dss_cons (ds_for po rfl (di_rng1 (by rfl) T.z_range (de_callB call_len rc_len (by rfl) T.z_len (by decide +kernel) (da_cons (de_var 2) da_nil))) (dg_name (j := 3) sc_index_behind.nd rfl (by first | exact Or.inl rfl | exact Or.inr rfl))
    (dss_one (ds_if (dt_cmp (op_neD hr.units) ro_ne (de_sl (de_var 0) (do_some (de_op op_addA ro_add (de_var 1) (de_var 3))) (do_some (de_op op_addA ro_add (de_op op_addA ro_add (de_var 1) (de_var 3)) de_int))) (de_ix (de_var 2) (de_var 3)) (nomark _))
    (dss_one (ds_raise rfl tk (T.x_Malformed _ _) (hr.mono (by decide)) (de_op op_addA ro_add (de_var 1) (de_var 3))))
    dss_nil)))
    (dss_one (ds_ret (de_op op_addA ro_add (de_var 1) (de_callB call_len rc_len (by rfl) T.z_len (by decide +kernel) (da_cons (de_var 2) da_nil)))))))
theorem ok_scan_text (T : Txt P K mg C) : FnE P w K mg base (EC0 C) 4 "scan_text" 2 m_scan_text :=
  def_okE (k := 3) (EC := EC0 C) T.f_scan_text sc_scan_text fun f cdv A outer s H E hr tk po => (show DSs _ _ _ _ b_scan_text from
  (dss_cons (ds_set 2 sc_scan_text.nd (de_var 1))
    (dss_cons (ds_while po (dw_and (dt_cmp (op_ltA hr.units0) ro_lt (de_var 2) (de_callB call_len rc_len (by rfl) T.z_len (by decide +kernel) (da_cons (de_var 0) da_nil)) (nomark _)) (dw_and (dt_cmp (op_ltA hr.units0) ro_lt (de_op op_sub ro_sub (de_var 2) (de_var 1)) (de_conX T.c_TEXT_LIMIT) (nomark _)) (dw_and1 (dt_cmp op_inA ro_in (de_ix (de_var 0) (de_var 2)) (de_conX T.c_SIGNS) rfl)))).dt
    (dss_one (ds_aug 2 sc_scan_text.nd de_int ip_add)))
    (dss_one (ds_ret (de_tup (da_cons (de_sl (de_var 0) (do_some (de_var 1)) (do_some (de_var 2))) (da_cons (de_callE tk (ok_index_behind T) (hr.mono (by decide)) (da_cons (de_var 0) (da_cons (de_var 2) (da_cons (de_conX T.c_QUOTE) da_nil)))) da_nil))))))))
theorem ok_scan_list (T : Txt P K mg C) : FnE P w K mg base (EC0 C) 5 "scan_list" 2 m_scan_list :=
  def_okE (k := 4) (EC := EC0 C) T.f_scan_list sc_scan_list fun f cdv A outer s H E hr tk po => (show DSs _ _ _ _ b_scan_list from
  (dss_cons (ds_if (dt_cmp (op_eqD hr.units) ro_eq (de_sl (de_var 0) (do_some (de_var 1)) (do_some (de_op op_addA ro_add (de_var 1) de_int))) de_str (nomark _))
    (dss_one (ds_ret (de_tup (da_cons (de_tup da_nil) (da_cons (de_op op_addA ro_add (de_var 1) de_int) da_nil)))))
    dss_nil)
    (dss_cons (ds_asg (de_callE tk (ok_scan_number T) (hr.mono (by decide)) (da_cons (de_var 0) (da_cons (de_var 1) da_nil))) (dg_tup2 rfl (dg_name (j := 2) sc_scan_list.nd rfl (by first | exact Or.inl rfl | exact Or.inr rfl)) (dg_name (j := 3) sc_scan_list.nd rfl (by first | exact Or.inl rfl | exact Or.inr rfl))))
    (dss_cons (ds_setM 4 sc_scan_list.nd (dl_lst (da_cons (de_var 2) da_nil)))
    (dss_cons (ds_while po (dw_and (dt_cmp (op_ltA hr.units0) ro_lt (de_lenM 4 (by rfl) T.z_len) (de_conX T.c_LIST_LIMIT) (nomark _)) (dw_and1 (dt_cmp (op_eqD hr.units) ro_eq (de_sl (de_var 0) (do_some (de_var 3)) (do_some (de_op op_addA ro_add (de_var 3) de_int))) de_str (nomark _)))).dt
    (dss_cons (ds_asg (de_callE tk (ok_scan_number T) (hr.mono (by decide)) (da_cons (de_var 0) (da_cons (de_op op_addA ro_add (de_var 3) de_int) da_nil))) (dg_tup2 rfl (dg_name (j := 2) sc_scan_list.nd rfl (by first | exact Or.inl rfl | exact Or.inr rfl)) (dg_name (j := 3) sc_scan_list.nd rfl (by first | exact Or.inl rfl | exact Or.inr rfl))))
    (dss_one (ds_app 4 (de_var 2)))))
    (dss_frz 4 (dss_one (ds_ret (de_tup (da_cons (de_callTy call_tuple_of rc_tuple (by rfl) T.z_tuple (by decide +kernel) (da_cons (de_var 4) da_nil)) (da_cons (de_callE tk (ok_index_behind T) (hr.mono (by decide)) (da_cons (de_var 0) (da_cons (de_var 3) (da_cons de_str da_nil)))) da_nil)))))))))))
theorem ok_scan_value (T : Txt P K mg C) : FnE P w K mg base (EC0 C) 6 "scan_value" 2 m_scan_value :=
  def_okE (k := 5) (EC := EC0 C) T.f_scan_value sc_scan_value fun f cdv A outer s H E hr tk po => (show DSs _ _ _ _ b_scan_value from
  (dss_cons (ds_set 2 sc_scan_value.nd (de_sl (de_var 0) (do_some (de_var 1)) (do_some (de_op op_addA ro_add (de_var 1) de_int))))
    (dss_cons (ds_if (dt_cmp (op_eqD hr.units) ro_eq (de_var 2) (de_conX T.c_QUOTE) (nomark _))
    (dss_one (ds_ret (de_callE tk (ok_scan_text T) (hr.mono (by decide)) (da_cons (de_var 0) (da_cons (de_op op_addA ro_add (de_var 1) de_int) da_nil)))))
    dss_nil)
    (dss_cons (ds_if (dt_cmp (op_eqD hr.units) ro_eq (de_var 2) de_str (nomark _))
    (dss_one (ds_ret (de_callE tk (ok_scan_list T) (hr.mono (by decide)) (da_cons (de_var 0) (da_cons (de_op op_addA ro_add (de_var 1) de_int) da_nil)))))
    dss_nil)
    (dss_cons (ds_if (dt_cmp (op_eqD hr.units) ro_eq (de_var 2) de_str (nomark _))
    (dss_one (ds_ret (de_tup (da_cons de_bl (da_cons (de_callE tk (ok_index_behind T) (hr.mono (by decide)) (da_cons (de_var 0) (da_cons (de_var 1) (da_cons de_str da_nil)))) da_nil)))))
    dss_nil)
    (dss_cons (ds_if (dt_cmp (op_eqD hr.units) ro_eq (de_var 2) de_str (nomark _))
    (dss_one (ds_ret (de_tup (da_cons de_bl (da_cons (de_callE tk (ok_index_behind T) (hr.mono (by decide)) (da_cons (de_var 0) (da_cons (de_var 1) (da_cons de_str da_nil)))) da_nil)))))
    dss_nil)
    (dss_one (ds_ret (de_callE tk (ok_scan_number T) (hr.mono (by decide)) (da_cons (de_var 0) (da_cons (de_var 1) da_nil)))))))))))
theorem ok_read_value (T : Txt P K mg C) : FnE P w K mg base (EC0 C) 7 "read_value" 1 m_read_value :=
  def_okE (k := 6) (EC := EC0 C) T.f_read_value sc_read_value fun f cdv A outer s H E hr tk po => (show DSs _ _ _ _ b_read_value from
  (dss_cons (ds_asg (de_callE tk (ok_scan_value T) (hr.mono (by decide)) (da_cons (de_var 0) (da_cons de_int da_nil))) (dg_tup2 rfl (dg_name (j := 1) sc_read_value.nd rfl (by first | exact Or.inl rfl | exact Or.inr rfl)) (dg_name (j := 2) sc_read_value.nd rfl (by first | exact Or.inl rfl | exact Or.inr rfl))))
    (dss_cons (ds_if (dt_cmp (op_ltA hr.units0) ro_lt (de_var 2) (de_callB call_len rc_len (by rfl) T.z_len (by decide +kernel) (da_cons (de_var 0) da_nil)) (nomark _))
    (dss_one (ds_raise rfl tk (T.x_Malformed _ _) (hr.mono (by decide)) (de_var 2)))
    dss_nil)
    (dss_one (ds_ret (de_var 1))))))
theorem ok__law_read (T : Txt P K mg C) : FnE P w K mg base (EC0 C) 8 "_law_read" 1 m__law_read :=
  def_okE (k := 7) (EC := EC0 C) T.f__law_read sc__law_read fun f cdv A outer s H E hr tk po => (show DSs _ _ _ _ b__law_read from
  (dss_one (ds_tryR (i := 2) rfl rfl sc__law_read.nd rfl (by rfl) ⟨by rfl, by decide, .inl T.g_Malformed⟩ tk (fun _ => T.m_Malformed) (fun W' pn xe tk po => (dss_cons (ds_set 1 sc__law_read.nd (de_callE tk (ok_read_value T) (hr.mono (by decide)) (da_cons (de_var 0) da_nil)))
    (dss_one (ds_ret (de_tup (da_cons de_str (da_cons (de_callX (ok_write_value T) (hr.mono (by decide)) (da_cons (de_var 1) da_nil)) da_nil)))))))
    (fun a oe c d pn hk hz hf => (sa_cons sel_str (sa_cons (sel_fld T.cf.xfc T.cf.nof hz hf (by rfl) (Or.inl rfl) (by decide) (by decide) rfl) (sa_cons (let ⟨a', ha, hk'⟩ := T.k_LeastError; sel_is T.cf.exc hz hf (by rfl) (Or.inl rfl) hk' (pe_glob (v := .ref a') (by rfl) ha rfl) (fun _ h => h) (by rfl) T.z_isinstance) sa_nil)))))))
theorem ok__law_digits (T : Txt P K mg C) : FnX P w K mg base 1 "_law_digits" 2 m__law_digits :=
  def_okX (k := 0) (EC := EC0 C) T.f__law_digits sc__law_digits fun f cdv A outer s H E hr => (show DSs _ _ _ _ b__law_digits from
  (dss_cons (ds_set 2 sc__law_digits.nd (de_var 0))
    (dss_cons (ds_if (dt_cmp (op_eqD hr.units) ro_eq (de_sl (de_var 0) do_none (do_some de_int)) de_str (nomark _))
    (dss_cons (ds_set 2 sc__law_digits.nd (de_sl (de_var 0) (do_some de_int) do_none))
    (dss_one (ds_if (dt_cmp (op_eqD hr.units) ro_eq (de_sl (de_var 2) do_none (do_some de_int)) de_str (nomark _))
    (dss_one (ds_ret de_bl))
    dss_nil)))
    dss_nil)
    (dss_cons (ds_if (dw_or (dt_cmp (op_gtA hr.units0) ro_gt (de_callB call_len rc_len (by rfl) T.z_len (by decide +kernel) (da_cons (de_of (dl_lc (own := [(("char" : Str), 3)]) (W0 := W00) rfl sc__law_digits.nd (di_seq (de_var 2)) (blkOk_by (N := N__law_digits) (sc := defScope s__law_digits) (by decide +kernel)) (fun _ _ _ _ _ => (dg_name (j := 3) sc__law_digits.nd rfl (by first | exact Or.inl rfl | exact Or.inr rfl))) (by simp) (fun _ _ _ _ _ => (dts_one (dt_cmp op_niA ro_ni (de_var 3) de_str rfl))) (fun _ _ _ _ _ => (de_var 3)))) da_nil)) de_int (nomark _)) (dw_or1 (dt_cmp (op_gtA hr.units0) ro_gt (de_callB call_len rc_len (by rfl) T.z_len (by decide +kernel) (da_cons (de_var 2) da_nil)) de_int (nomark _)))).dt
    (dss_one (ds_ret de_bl))
    dss_nil)
    (dss_cons (ds_if (dt_cmp (op_eqD hr.units) ro_eq (de_var 2) de_str (nomark _))
    (dss_one (ds_ret (de_not (de_var 1))))
    dss_nil)
    (dss_cons (ds_if (dt_cmp (op_eqD hr.units) ro_eq (de_ix (de_var 2) de_int) de_str (nomark _))
    (dss_one (ds_ret (de_cmp (op_eqD hr.units) ro_eq (de_var 2) de_str (nomark _))))
    dss_nil)
    (dss_one (ds_ret (de_cmp op_le ro_le (de_callTy call_intA rc_int (by rfl) T.z_int (by decide +kernel) (da_cons (de_var 2) da_nil)) de_int (nomark _))))))))))
theorem ok__law_quoted (T : Txt P K mg C) : FnX P w K mg base 1 "_law_quoted" 2 m__law_quoted :=
  def_okX (k := 0) (EC := EC0 C) T.f__law_quoted sc__law_quoted fun f cdv A outer s H E hr => (show DSs _ _ _ _ b__law_quoted from
  (dss_cons (ds_set 2 sc__law_quoted.nd (de_sl (de_var 0) (do_some de_int) do_none))
    (dss_cons (ds_if (dt_cmp (op_eqD hr.units) ro_eq (de_sl (de_var 2) (do_some (de_op op_sub ro_sub (de_callB call_len rc_len (by rfl) T.z_len (by decide +kernel) (da_cons (de_var 2) da_nil)) de_int)) do_none) de_str (nomark _))
    (dss_one (ds_set 2 sc__law_quoted.nd (de_sl (de_var 2) do_none (do_some (de_op op_sub ro_sub (de_callB call_len rc_len (by rfl) T.z_len (by decide +kernel) (da_cons (de_var 2) da_nil)) de_int)))))
    (dss_one (ds_if (dt_truth (de_var 1))
    (dss_one (ds_ret de_bl))
    dss_nil)))
    (dss_cons (ds_set 3 sc__law_quoted.nd (de_cmp (op_eqD hr.units) ro_eq (de_callB call_len rc_len (by rfl) T.z_len (by decide +kernel) (da_cons (de_of (dl_lc (own := [(("char" : Str), 4)]) (W0 := W00) rfl sc__law_quoted.nd (di_seq (de_var 2)) (blkOk_by (N := N__law_quoted) (sc := defScope s__law_quoted) (by decide +kernel)) (fun _ _ _ _ _ => (dg_name (j := 4) sc__law_quoted.nd rfl (by first | exact Or.inl rfl | exact Or.inr rfl))) (by simp) (fun _ _ _ _ _ => (dts_one (dt_cmp op_inA ro_in (de_var 4) de_str rfl))) (fun _ _ _ _ _ => (de_var 4)))) da_nil)) (de_callB call_len rc_len (by rfl) T.z_len (by decide +kernel) (da_cons (de_var 2) da_nil)) (nomark _)))
    (dss_one (ds_ret (de_and (de_var 3) (de_one (de_cmp op_le ro_le (de_callB call_len rc_len (by rfl) T.z_len (by decide +kernel) (da_cons (de_var 2) da_nil)) de_int (nomark _))))))))))
theorem ok__law_bracketed (T : Txt P K mg C) : FnX P w K mg base 2 "_law_bracketed" 2 m__law_bracketed :=
  def_okX (k := 1) (EC := EC0 C) T.f__law_bracketed sc__law_bracketed fun f cdv A outer s H E hr => (show DSs _ _ _ _ b__law_bracketed from
  (dss_cons (ds_set 2 sc__law_bracketed.nd (de_sl (de_var 0) (do_some de_int) do_none))
    (dss_cons (ds_set 3 sc__law_bracketed.nd (de_cmp (op_eqD hr.units) ro_eq (de_sl (de_var 2) (do_some (de_op op_sub ro_sub (de_callB call_len rc_len (by rfl) T.z_len (by decide +kernel) (da_cons (de_var 2) da_nil)) de_int)) do_none) de_str (nomark _)))
    (dss_cons (ds_if (dt_truth (de_var 3))
    (dss_one (ds_set 2 sc__law_bracketed.nd (de_sl (de_var 2) do_none (do_some (de_op op_sub ro_sub (de_callB call_len rc_len (by rfl) T.z_len (by decide +kernel) (da_cons (de_var 2) da_nil)) de_int)))))
    dss_nil)
    (dss_cons (ds_if (dw_and (dt_truth (de_var 1)) (dw_and1 (dt_not (dt_truth (de_var 3))))).dt
    (dss_one (ds_ret de_bl))
    dss_nil)
    (dss_cons (ds_if (dt_cmp (op_eqD hr.units) ro_eq (de_var 2) de_str (nomark _))
    (dss_one (ds_ret de_bl))
    dss_nil)
    (dss_cons (ds_set 4 sc__law_bracketed.nd (de_m1 PySem.F.slot_str_split PySem.F.type_str_split mt_split rm_split (de_var 2) de_str))
    (dss_cons (ds_set 5 sc__law_bracketed.nd (de_op op_sub ro_sub (de_callB call_len rc_len (by rfl) T.z_len (by decide +kernel) (da_cons (de_var 4) da_nil)) de_int))
    (dss_cons (ds_for PassesOwn.never rfl (di_rng1 (by rfl) T.z_range (de_callB call_len rc_len (by rfl) T.z_len (by decide +kernel) (da_cons (de_var 4) da_nil))) (dg_name (j := 6) sc__law_bracketed.nd rfl (by first | exact Or.inl rfl | exact Or.inr rfl))
    (dss_one (ds_if (dt_not (dt_truth (de_callX (ok__law_digits T) (hr.mono (by decide)) (da_cons (de_ix (de_var 4) (de_var 6)) (da_cons (de_or (de_var 3) (de_one (de_cmp (op_ltA hr.units0) ro_lt (de_var 6) (de_var 5) (nomark _)))) da_nil)))))
    (dss_one (ds_ret de_bl))
    dss_nil)))
    (dss_one (ds_ret (de_cmp op_le ro_le (de_callB call_len rc_len (by rfl) T.z_len (by decide +kernel) (da_cons (de_var 4) da_nil)) de_int (nomark _)))))))))))))
theorem ok__law_begins (T : Txt P K mg C) : FnX P w K mg base 3 "_law_begins" 2 m__law_begins :=
  def_okX (k := 2) (EC := EC0 C) T.f__law_begins sc__law_begins fun f cdv A outer s H E hr => (show DSs _ _ _ _ b__law_begins from
  (dss_cons (ds_if (dt_cmp (op_eqD hr.units) ro_eq (de_var 0) de_str (nomark _))
    (dss_one (ds_ret (de_not (de_var 1))))
    dss_nil)
    (dss_cons (ds_if (dt_cmp (op_eqD hr.units) ro_eq (de_ix (de_var 0) de_int) de_str (nomark _))
    (dss_one (ds_ret (de_callX (ok__law_quoted T) (hr.mono (by decide)) (da_cons (de_var 0) (da_cons (de_var 1) da_nil)))))
    dss_nil)
    (dss_cons (ds_if (dt_cmp (op_eqD hr.units) ro_eq (de_ix (de_var 0) de_int) de_str (nomark _))
    (dss_one (ds_ret (de_callX (ok__law_bracketed T) (hr.mono (by decide)) (da_cons (de_var 0) (da_cons (de_var 1) da_nil)))))
    dss_nil)
    (dss_cons (ds_if (dt_cmp op_inA ro_in (de_ix (de_var 0) de_int) de_str rfl)
    (dss_one (ds_ret (de_or (de_cmp op_inA ro_in (de_var 0) (de_lst (da_cons de_str (da_cons de_str da_nil))) rfl) (de_one (de_and (de_not (de_var 1)) (de_one (de_or (de_m1 PySem.F.slot_str_startswith PySem.F.type_str_startswith mt_startswith rm_starts de_str (de_var 0)) (de_one (de_m1 PySem.F.slot_str_startswith PySem.F.type_str_startswith mt_startswith rm_starts de_str (de_var 0))))))))))
    dss_nil)
    (dss_one (ds_ret (de_callX (ok__law_digits T) (hr.mono (by decide)) (da_cons (de_var 0) (da_cons (de_var 1) da_nil))))))))))
theorem ok__law_due (T : Txt P K mg C) : FnX P w K mg base 4 "_law_due" 1 m__law_due :=
  def_okX (k := 3) (EC := EC0 C) T.f__law_due sc__law_due fun f cdv A outer s H E hr => (show DSs _ _ _ _ b__law_due from
  (dss_cons (ds_if (dt_truth (de_callX (ok__law_begins T) (hr.mono (by decide)) (da_cons (de_var 0) (da_cons de_bl da_nil))))
    (dss_one (ds_ret (de_tup (da_cons de_str (da_cons (de_var 0) da_nil)))))
    dss_nil)
    (dss_cons (ds_for PassesOwn.never rfl (di_rng1 (by rfl) T.z_range (de_callB call_len rc_len (by rfl) T.z_len (by decide +kernel) (da_cons (de_var 0) da_nil))) (dg_name (j := 1) sc__law_due.nd rfl (by first | exact Or.inl rfl | exact Or.inr rfl))
    (dss_one (ds_if (dt_not (dt_truth (de_callX (ok__law_begins T) (hr.mono (by decide)) (da_cons (de_sl (de_var 0) do_none (do_some (de_op op_addA ro_add (de_var 1) de_int))) (da_cons de_bl da_nil)))))
    (dss_one (ds_ret (de_tup (da_cons de_str (da_cons (de_var 1) (da_cons de_bl da_nil))))))
    dss_nil)))
    (dss_one (ds_ret (de_tup (da_cons de_str (da_cons (de_callB call_len rc_len (by rfl) T.z_len (by decide +kernel) (da_cons (de_var 0) da_nil)) (da_cons de_bl da_nil)))))))))
theorem body_law (T : Txt P K mg C) {f : Addr} {cdv : Value} {A : Around} {outer : List Env} {s : Shared} {H : Hp} {E : XK} (hr : Room 8 (A.deeper (envOfC "law" (defScope s_law) s.heap.objs.size f cdv))) :
    DSs (cxOf CX0 P w K mg base N_law "law" (defScope s_law) f cdv A outer s H E).nox (EC0 C) (fun _ _ _ _ => False) (defBody s_law) b_law :=
  (dss_cons (ds_set 1 sc_law.nd (de_callB call_abs rc_abs (by rfl) T.z_abs (by decide +kernel) (da_cons (de_callX (ok__law_cell T) (hr.mono (by decide)) (da_cons (de_var 0) (da_cons de_int da_nil))) da_nil)))
    (dss_cons (ds_set 2 sc_law.nd (de_callB call_abs rc_abs (by rfl) T.z_abs (by decide +kernel) (da_cons (de_callX (ok__law_cell T) (hr.mono (by decide)) (da_cons (de_var 0) (da_cons de_int da_nil))) da_nil)))
    (dss_cons (ds_set 3 sc_law.nd (de_callX (ok_write_value T) (hr.mono (by decide)) (da_cons (de_callX (ok__law_value T) (hr.mono (by decide)) (da_cons (de_ix de_str (de_op op_modN ro_mod (de_var 1) de_int)) (da_cons (de_var 2) da_nil))) da_nil)))
    (dss_cons (ds_set 4 sc_law.nd de_str)
    (dss_cons (ds_if (dt_cmp (op_eqD hr.units) ro_eq (de_op op_modN ro_mod (de_op op_divA ro_div (de_var 1) de_int) de_int) de_int (nomark _))
    (dss_one (ds_set 3 sc_law.nd (de_m1 PySem.F.slot_str_join PySem.F.type_str_join mt_join rm_join de_str (de_of (dl_lc (own := [(("one" : Str), 7)]) (W0 := W00) rfl sc_law.nd (di_seq (de_sl (de_var 0) (do_some de_int) (do_some de_int))) (blkOk_by (N := N_law) (sc := defScope s_law) (by decide +kernel)) (fun _ _ _ _ _ => (dg_name (j := 7) sc_law.nd rfl (by first | exact Or.inl rfl | exact Or.inr rfl))) (by simp) (fun _ _ _ _ _ => dts_nil) (fun _ _ _ _ _ => (de_ix (de_var 4) (de_op op_modN ro_mod (de_callB call_abs rc_abs (by rfl) T.z_abs (by decide +kernel) (da_cons (de_callTy call_intA rc_int (by rfl) T.z_int (by decide +kernel) (da_cons (de_var 7) da_nil)) da_nil)) de_int))))))))
    dss_nil)
    (dss_cons (ds_set 5 sc_law.nd (de_op op_modN ro_mod (de_callB call_abs rc_abs (by rfl) T.z_abs (by decide +kernel) (da_cons (de_callX (ok__law_cell T) (hr.mono (by decide)) (da_cons (de_var 0) (da_cons de_int da_nil))) da_nil)) (de_op op_addA ro_add (de_callB call_len rc_len (by rfl) T.z_len (by decide +kernel) (da_cons (de_var 3) da_nil)) de_int)))
    (dss_cons (ds_set 6 sc_law.nd (de_op op_modN ro_mod (de_op op_divA ro_div (de_var 1) de_int) de_int))
    (dss_cons (ds_if (dt_cmp (op_eqD hr.units) ro_eq (de_var 6) de_int (nomark _))
    (dss_one (ds_set 3 sc_law.nd (de_op op_addA ro_add (de_sl (de_var 3) do_none (do_some (de_var 5))) (de_sl (de_var 3) (do_some (de_op op_addA ro_add (de_var 5) de_int)) do_none))))
    dss_nil)
    (dss_cons (ds_if (dt_cmp (op_eqD hr.units) ro_eq (de_var 6) de_int (nomark _))
    (dss_one (ds_set 3 sc_law.nd (de_op op_addA ro_add (de_op op_addA ro_add (de_sl (de_var 3) do_none (do_some (de_var 5))) (de_ix (de_var 4) (de_op op_modN ro_mod (de_op op_divA ro_div (de_var 1) de_int) de_int))) (de_sl (de_var 3) (do_some (de_var 5)) do_none))))
    dss_nil)
    (dss_cons (ds_if (dt_cmp (op_eqD hr.units) ro_eq (de_var 6) de_int (nomark _))
    (dss_one (ds_set 3 sc_law.nd (de_op op_addA ro_add (de_op op_addA ro_add (de_sl (de_var 3) do_none (do_some (de_var 5))) (de_ix (de_var 4) (de_op op_modN ro_mod (de_op op_divA ro_div (de_var 1) de_int) de_int))) (de_sl (de_var 3) (do_some (de_op op_addA ro_add (de_var 5) de_int)) do_none))))
    dss_nil)
    (dss_cons (ds_if (dt_cmp (op_eqD hr.units) ro_eq (de_var 6) de_int (nomark _))
    (dss_one (ds_set 3 sc_law.nd (de_sl (de_var 3) do_none (do_some (de_var 5)))))
    dss_nil)
    (dss_one (ds_ret (de_cmp (op_eqD hr.units) ro_eq (de_callE takes0 (ok__law_read T) (hr.mono (by decide)) (da_cons (de_var 3) da_nil)) (de_callX (ok__law_due T) (hr.mono (by decide)) (da_cons (de_var 3) da_nil)) (nomark _)))))))))))))))
theorem fin (T : Txt P K mg C) : FunX K mg "law" s_law ["script"] ∧ ∀ (base : Heap) (f : Addr) (cdv : Value) (A : Around) (outer : List Env) (s : Shared) (H : Hp) (E : XK), Room 8 (A.deeper (envOfC "law" (defScope s_law) s.heap.objs.size f cdv)) →
    DSs (cxOf CX0 P w K mg base N_law "law" (defScope s_law) f cdv A outer s H E).nox (EC0 C) (fun _ _ _ _ => False) (defBody s_law) b_law := ⟨T.f_law, fun base f cdv A outer s H E hr => body_law T hr⟩
end
end K03
end Part_K03o

section Part_MA
set_option Elab.async false
set_option linter.all false
set_option maxRecDepth 100000
set_option autoImplicit false
set_option maxHeartbeats 2000000
namespace DL
open PySem PySem.Spec PyProof.Rows L2 Evl SX
/-! ### texts as lists of code points -/
theorem sh_S {l : List Nat} (h : ∀ c ∈ l, c < 1000) : SeqAt.shaped (.str (S l)) = true := by
  show (PyData.strOk (S l) && decide ((PyData.str (S l)).depth ≤ 64)) = true
  rw [Bool.and_eq_true]
  refine ⟨?_, by rfl⟩
  show (S l).cps.all (· < 0x110000) = true
  rw [← Array.all_toList, List.all_eq_true]
  intro c hc
  have := h c hc
  exact decide_eq_true (by omega)
theorem sh_ints (ns : List Int) : SeqAt.shaped (.tuple (ns.map .int)) = true := by
  have h : ∀ ns : List Int, PyData.canLayAll0 (ns.map .int) = true ∧ PyData.depthAll (ns.map .int) = 0 := by
    intro ns
    induction ns with
    | nil => exact ⟨rfl, rfl⟩
    | cons n ns ih =>
      refine ⟨?_, ?_⟩
      · show (PyData.canLay0 (.int n) && PyData.canLayAll0 (ns.map .int)) = true
        rw [ih.1]; rfl
      · show max (PyData.depth (.int n)) (PyData.depthAll (ns.map .int)) = 0
        rw [ih.2]; rfl
  show (PyData.canLayAll0 (ns.map .int) && decide (PyData.depthAll (ns.map .int) + 1 ≤ 64)) = true
  rw [(h ns).1, (h ns).2]
  rfl
theorem len_S {l : List Nat} (h : l.length ≤ 16777216) : dLen [.str (S l)] = some (.int l.length) := by
  rw [len_s (by rw [S_len]; exact h), S_len]
theorem cat_S {l m : List Nat} (h : l.length + m.length ≤ 16777216) : dAdd (.str (S l)) (.str (S m)) = some (.str (S (l ++ m))) := by
  show (if (S l).length + (S m).length ≤ LINE then some (PyData.str (S l ++ S m)) else none) = _
  rw [S_len, S_len, if_pos h, S_cat]
theorem ix_S {l : List Nat} {k : Nat} (h : l.length ≤ 16777216) : dIx (.str (S l)) (.int k) = (l[k]?).map fun c => .str (S [c]) := by
  show (if (S l).length ≤ LINE then (atI l k).map fun c => PyData.str ⟨#[c]⟩ else none) = _
  rw [S_len, if_pos h, at_nat]
theorem sl_S {l : List Nat} {a b : Nat} (h : l.length ≤ 16777216) : dSl (.str (S l)) (some a) (some b) = some (.str (S ((l.drop a).take (b - a)))) := by
  show (if (S l).length ≤ LINE then some (PyData.str (cutS (S l) (some a) (some b))) else none) = _
  rw [S_len, if_pos h]
  unfold cutS
  rw [S_len, HT.sIx_nat, HT.sIx_nat]
  show some (PyData.str (S ((l.drop _).take _))) = _
  congr 3
  rcases Nat.le_total a l.length with q | q
  · rw [Nat.min_eq_left q]
    rcases Nat.le_total b l.length with q2 | q2
    · rw [Nat.min_eq_left q2]
    · rw [Nat.min_eq_right q2, List.take_of_length_le (by rw [List.length_drop]; omega), List.take_of_length_le (by rw [List.length_drop]; omega)]
  · rw [Nat.min_eq_right q, List.drop_of_length_le (Nat.le_refl _), List.drop_of_length_le q]
    simp
theorem eq_S {l m : List Nat} (h : ∀ c ∈ l, c < 1000) (h' : ∀ c ∈ m, c < 1000) : dEq (.str (S l)) (.str (S m)) = some (.bool (decide (l = m))) := by
  unfold dEq
  rw [sh_S h, sh_S h', ← S_beq_eq]
  rfl
theorem ne_S {l m : List Nat} (h : ∀ c ∈ l, c < 1000) (h' : ∀ c ∈ m, c < 1000) : dNe (.str (S l)) (.str (S m)) = some (.bool (!decide (l = m))) := by
  unfold dNe
  rw [sh_S h, sh_S h', ← S_beq_eq]
  rfl
theorem in_S (c : Nat) (m : List Nat) : dIn (.str (S [c])) (.str (S m)) = some (.bool (decide (c ∈ m))) := rfl
theorem items_S (l : List Nat) : dItems (.str (S l)) = some (l.map fun c => .str (S [c])) := rfl
theorem join_S' {a : List Nat} {ls : List (List Nat)} (h : (ls.map (·.length)).sum + ls.length * a.length ≤ 16777216) : dJoin (.str (S a)) [.list (ls.map fun l => .str (S l))] = some (.str (S (TL.joinL a ls))) := by
  have e : (ls.map fun l => PyData.str (S l)) = (ls.map S).map PyData.str := by rw [List.map_map]; rfl
  show (dStrs _).bind (joinOk (S a)) = _
  rw [e, dStrs_map]
  show joinOk (S a) (ls.map S) = _
  unfold joinOk
  rw [lens, List.length_map, S_len, if_pos h, join_S]
theorem int_dig {c : Nat} (h1 : 48 ≤ c) (h2 : c ≤ 57) : dInt [.str (S [c])] = some (.int ((c - 48 : Nat) : Int)) := by
  show (if (S [c]).length ≤ 640 then (PySem.intText? (S [c])).map PyData.int else none) = _
  rw [S_len, if_pos (by simp), int_S (by simp; omega) (by simp) (by simp)]
  show some (PyData.int ((0 * 10 + (c - 48) : Nat) : Int)) = _
  rw [Nat.zero_mul, Nat.zero_add]
/-- the text of an int -/
def iL (i : Int) : List Nat := if 0 ≤ i then TL.numL i.toNat else 45 :: TL.numL (-i).toNat
theorem iL_eq (i : Int) : Str.ofString (toString i) = S (iL i) := by
  unfold iL
  split
  · rename_i h
    obtain ⟨n, rfl⟩ := Int.eq_ofNat_of_zero_le h
    exact num_S n
  · rename_i h
    obtain ⟨n, hn⟩ : ∃ n : Nat, i = -((n + 1 : Nat) : Int) := ⟨(-i).toNat - 1, by omega⟩
    subst hn
    have e : (-(-((n + 1 : Nat) : Int))).toNat = n + 1 := by omega
    rw [e]
    apply TL.ext_tl
    rw [TL.tl_ofString]
    show (Int.repr (Int.negSucc n)).toList.map Char.toNat = 45 :: TL.numL (n + 1)
    show (("-" ++ Nat.repr (n + 1)) : String).toList.map Char.toNat = _
    rw [String.toList_append, List.map_append]
    show 45 :: (Nat.repr (n + 1)).toList.map Char.toNat = _
    rw [Nat.toList_repr]
    rfl
theorem str_i {i : Int} (h1 : -1000000 ≤ i) (h2 : i ≤ 1000000) : dStr [.int i] = some (.str (S (iL i))) := by
  show (if i.natAbs.log2 < 1920 then some (PyData.str (Str.ofString (toString i))) else none) = _
  rw [if_pos, iL_eq]
  have h : i.natAbs < 2 ^ 1920 := Nat.lt_of_le_of_lt (show i.natAbs ≤ 1000000 by omega) (by decide +kernel)
  by_cases q : i.natAbs = 0
  · rw [q]; decide
  · exact (Nat.log2_lt q).mpr h
theorem lt_S (l m : List Nat) : dLt (.str (S l)) (.str (S m)) = some (.bool (decide (l < m))) := rfl
theorem gt_S (l m : List Nat) : dGt (.str (S l)) (.str (S m)) = some (.bool (decide (m < l))) := rfl
theorem lt_T (l m : List Int) : dLt (.tuple (l.map .int)) (.tuple (m.map .int)) = some (.bool (HT.lexLt l m)) := by
  show (match dInts (l.map .int), dInts (m.map .int) with | some ns, some ms => some (PyData.bool (HT.lexLt ns ms)) | _, _ => none) = _
  rw [dInts_map, dInts_map]
theorem gt_T (l m : List Int) : dGt (.tuple (l.map .int)) (.tuple (m.map .int)) = some (.bool (HT.lexLt m l)) := by
  show (match dInts (l.map .int), dInts (m.map .int) with | some ns, some ms => some (PyData.bool (HT.lexLt ms ns)) | _, _ => none) = _
  rw [dInts_map, dInts_map]
theorem eqv_ints : ∀ l m : List Int, PyData.eqvAll (l.map .int) (m.map .int) = decide (l = m)
  | [], [] => rfl
  | [], _ :: _ => rfl
  | _ :: _, [] => rfl
  | x :: xs, y :: ys => by
    show ((x == y) && PyData.eqvAll (xs.map .int) (ys.map .int)) = _
    rw [eqv_ints xs ys]
    by_cases h : x = y <;> by_cases h2 : xs = ys <;> simp [h, h2]
theorem eq_T (l m : List Int) : dEq (.tuple (l.map .int)) (.tuple (m.map .int)) = some (.bool (decide (l = m))) := by
  unfold dEq
  rw [sh_ints, sh_ints, ← eqv_ints]
  rfl
theorem ne_T (l m : List Int) : dNe (.tuple (l.map .int)) (.tuple (m.map .int)) = some (.bool (!decide (l = m))) := by
  unfold dNe
  rw [sh_ints, sh_ints, ← eqv_ints]
  rfl
/-! ### cells that are known to be no borrowed list -/
theorem setV_s {δ : Dl} {j : Nat} {d : D} (h : (δ[j]?).map Cell.isVar = some false) : setV j d δ = some (δ.set j (.val d)) := by
  unfold setV
  cases q : δ[j]? with
  | none => rw [q] at h; cases h
  | some c =>
    rw [q] at h
    cases c with
    | var b ds => cases h
    | non => rfl
    | val d => rfl
/-! ### for -/
theorem mFor_inv {g : D → Dl → Option Dl} {body : M Fl} {items : List D} (Inv : Nat → Dl → Prop) (step : ∀ i x δ, items[i]? = some x → Inv i δ → ∃ δ1, g x δ = some δ1 ∧ ∃ δ2, body δ1 = .ok .nx δ2 ∧ Inv (i + 1) δ2) : ∀ {δ : Dl}, Inv 0 δ → ∃ δ', mFor g body items δ = .ok .nx δ' ∧ Inv items.length δ' := by
  have H : ∀ (r : List D) (k : Nat), items.drop k = r → k ≤ items.length → ∀ δ : Dl, Inv k δ → ∃ δ', mFor g body r δ = .ok .nx δ' ∧ Inv items.length δ' := by
    intro r
    induction r with
    | nil =>
      intro k hk hl δ h
      have e : k = items.length := by
        have := congrArg List.length hk
        rw [List.length_drop, List.length_nil] at this
        omega
      subst e
      exact ⟨δ, rfl, h⟩
    | cons x r ih =>
      intro k hk hl δ h
      have hx : items[k]? = some x := by
        have := congrArg (fun l => l[0]?) hk
        simpa using this
      have hl2 : k < items.length := by
        rcases Nat.lt_or_ge k items.length with q | q
        · exact q
        · rw [List.drop_of_length_le q] at hk; cases hk
      obtain ⟨δ1, h1, δ2, h2, h3⟩ := step k x δ hx h
      obtain ⟨δ', h4, h5⟩ := ih (k + 1) (by rw [← List.drop_drop, hk]; rfl) hl2 δ2 h3
      refine ⟨δ', ?_, h5⟩
      unfold mFor
      rw [h1]
      simp only [h2, bind_ok]
      exact h4
  exact fun {δ} h => H items 0 rfl (Nat.zero_le _) δ h
/-- .. with an early return -/
theorem mFor_ret {g : D → Dl → Option Dl} {body : M Fl} {items : List D} (Inv : Nat → Dl → Prop) (P : D → Prop) (step : ∀ i x δ, items[i]? = some x → Inv i δ → ∃ δ1, g x δ = some δ1 ∧ ∃ δ2, (body δ1 = .ok .nx δ2 ∧ Inv (i + 1) δ2 ∨ ∃ d, body δ1 = .ok (.rt d) δ2 ∧ P d)) : ∀ {δ : Dl}, Inv 0 δ → (∃ δ', mFor g body items δ = .ok .nx δ' ∧ Inv items.length δ') ∨ ∃ d δ', mFor g body items δ = .ok (.rt d) δ' ∧ P d := by
  have H : ∀ (r : List D) (k : Nat), items.drop k = r → k ≤ items.length → ∀ δ : Dl, Inv k δ → (∃ δ', mFor g body r δ = .ok .nx δ' ∧ Inv items.length δ') ∨ ∃ d δ', mFor g body r δ = .ok (.rt d) δ' ∧ P d := by
    intro r
    induction r with
    | nil =>
      intro k hk hl δ h
      have e : k = items.length := by
        have := congrArg List.length hk
        rw [List.length_drop, List.length_nil] at this
        omega
      subst e
      exact .inl ⟨δ, rfl, h⟩
    | cons x r ih =>
      intro k hk hl δ h
      have hx : items[k]? = some x := by
        have := congrArg (fun l => l[0]?) hk
        simpa using this
      have hl2 : k < items.length := by
        rcases Nat.lt_or_ge k items.length with q | q
        · exact q
        · rw [List.drop_of_length_le q] at hk; cases hk
      obtain ⟨δ1, h1, δ2, h⟩ := step k x δ hx h
      rcases h with ⟨h2, h3⟩ | ⟨d, h2, h3⟩
      · rcases ih (k + 1) (by rw [← List.drop_drop, hk]; rfl) hl2 δ2 h3 with ⟨δ', h4, h5⟩ | ⟨d, δ', h4, h5⟩
        · refine .inl ⟨δ', ?_, h5⟩
          unfold mFor
          rw [h1]
          simp only [h2, bind_ok]
          exact h4
        · refine .inr ⟨d, δ', ?_, h5⟩
          unfold mFor
          rw [h1]
          simp only [h2, bind_ok]
          exact h4
      · refine .inr ⟨d, δ2, ?_, h3⟩
        unfold mFor
        rw [h1]
        simp only [h2, bind_ok]
  exact fun {δ} h => H items 0 rfl (Nat.zero_le _) δ h
theorem rng_at {lo hi : Int} {k : Nat} {d : D} (h : (rng lo hi)[k]? = some d) : d = .int (lo + k) ∧ lo + k < hi := by
  unfold rng at h
  rw [List.getElem?_map] at h
  cases q : (List.range (hi - lo).toNat)[k]? with
  | none => rw [q] at h; cases h
  | some n =>
    rw [q] at h
    cases h
    obtain ⟨h1, h2⟩ := List.getElem?_eq_some_iff.mp q
    rw [List.getElem_range] at h2
    rw [List.length_range] at h1
    subst h2
    exact ⟨rfl, by omega⟩
/-- one turn of a while -/
theorem mWhile_turn {t : M Bool} {body : M Fl} {n : Nat} {δ δ1 : Dl} (h1 : t δ = .ok true δ) (h2 : body δ = .ok .nx δ1) : mWhile t body (n + 1) δ = mWhile t body n δ1 := by
  rw [mWhile]
  simp only [h1, h2, bind_ok, if_true]
theorem mWhile_end {t : M Bool} {body : M Fl} {n : Nat} {δ : Dl} (h1 : t δ = .ok false δ) : mWhile t body (n + 1) δ = .ok .nx δ := by
  rw [mWhile]
  simp only [h1, bind_ok, Bool.false_eq_true, if_false]
theorem mWhile_get {t : M Bool} {body : M Fl} {n : Nat} {δ δ1 : Dl} {f : Fl} (h : mWhile t body n δ = .ok f δ1) : mWhileS t body δ = .ok f δ1 := by
  rw [mWhileS_eq (n := n) (by rw [h]; intro e; cases e), h]
end DL
end Part_MA

section Part_QA
set_option Elab.async false
set_option linter.all false
set_option maxRecDepth 100000
set_option autoImplicit false
set_option maxHeartbeats 2000000
namespace K03
open PySem PySem.Spec PyProof.Rows L2 DL SX
theorem iv_non : Cell.isVar .non = false := rfl
theorem iv_val (d : D) : Cell.isVar (.val d) = false := rfl
/-- a cell that is no borrowed list -/
def cO : Option D → Cell
  | none => .non
  | some d => .val d
theorem iv_cO (o : Option D) : Cell.isVar (cO o) = false := by cases o <;> rfl
theorem setV_zn (d : D) (δ : Dl) : setV 0 d (.non :: δ) = some (.val d :: δ) := rfl
theorem setV_zv (d x : D) (δ : Dl) : setV 0 d (.val x :: δ) = some (.val d :: δ) := rfl
theorem setV_zo (d : D) (o : Option D) (δ : Dl) : setV 0 d (cO o :: δ) = some (.val d :: δ) := by cases o <;> rfl
theorem setV_succ (j : Nat) (d : D) (c : Cell) (δ : Dl) : setV (j + 1) d (c :: δ) = (setV j d δ).map (c :: ·) := by
  unfold setV
  rw [List.getElem?_cons_succ]
  cases q : δ[j]? with
  | none => rfl
  | some x => cases x with
    | var b ds => cases b <;> rfl
    | non => rfl
    | val d => rfl
local macro_rules | `(tactic| walk_at "ev") => `(tactic| try simp -implicitDefEqProofs only [mDef, mSeq, mIf, mT, mTr, mOp, mUn, mVar, mC, mCall, mCons, mNil, mRet, mSkip, mAsg, mSl, mPart, mNoPart, mAndT, mOrT, mNotT, mAnd, mOr, mNot, mIfE, mChain, mIs, mIs2, mOf, mNew, mCallF, mM1, mM0, mIxM, mLenM, mApp, mSetM, mSetIx, mAug, mFrz, mForS, mRng1, mRng2, mItems, setV_zn, setV_zv, setV_zo, setV_succ, setM, frz, setT2, mBk, mCt, mNo, 
  DL.bind_ok, DL.bind_no, DL.bind_ite, lift_some, lift_none, List.map_cons, List.map_nil, List.length_cons, List.length_nil, List.replicate_succ, List.replicate_zero, List.cons_append, List.nil_append, List.append_nil, List.getElem?_cons_zero, List.getElem?_cons_succ, List.set_cons_zero, List.set_cons_succ, Nat.reduceAdd, Nat.reduceSub, Nat.zero_add, Nat.sub_self, decide_eq_true_eq,
  add_ii, sub_ii, neg_i, mul_r, mul_l, div_s, mod_s, eq_ii, ne_ii, eq_bb, ne_bb, lt_ii, gt_ii, le_ii, ge_ii, len_l, len_t, int_i, int_b, abs_i, max_ii, min_ii, tuple_l, ix_l, ix_t, tr_b, Nat.reduceLeDiff, if_true, if_false, Option.map_some, Option.bind_some, reduceIte, Int.reduceLT, Int.reduceNeg, Int.reduceMul, Nat.reduceLT, Nat.le_refl, LINE, Bool.false_eq_true, Bool.not_true, Bool.not_false, Bool.true_eq_false])
local macro_rules | `(tactic| walk_at "ev*") => `(tactic| try simp -implicitDefEqProofs only [mDef, mSeq, mIf, mT, mTr, mOp, mUn, mVar, mC, mCall, mCons, mNil, mRet, mSkip, mAsg, mSl, mPart, mNoPart, mAndT, mOrT, mNotT, mAnd, mOr, mNot, mIfE, mChain, mIs, mIs2, mOf, mNew, mCallF, mM1, mM0, mIxM, mLenM, mApp, mSetM, mSetIx, mAug, mFrz, mForS, mRng1, mRng2, mItems, setV_zn, setV_zv, setV_zo, setV_succ, setM, frz, setT2, mBk, mCt, mNo, 
  DL.bind_ok, DL.bind_no, DL.bind_ite, lift_some, lift_none, List.map_cons, List.map_nil, List.length_cons, List.length_nil, List.replicate_succ, List.replicate_zero, List.cons_append, List.nil_append, List.append_nil, List.getElem?_cons_zero, List.getElem?_cons_succ, List.set_cons_zero, List.set_cons_succ, Nat.reduceAdd, Nat.reduceSub, Nat.zero_add, Nat.sub_self, decide_eq_true_eq,
  add_ii, sub_ii, neg_i, mul_r, mul_l, div_s, mod_s, eq_ii, ne_ii, eq_bb, ne_bb, lt_ii, gt_ii, le_ii, ge_ii, len_l, len_t, int_i, int_b, abs_i, max_ii, min_ii, tuple_l, ix_l, ix_t, tr_b, Nat.reduceLeDiff, if_true, if_false, Option.map_some, Option.bind_some, reduceIte, Int.reduceLT, Int.reduceNeg, Int.reduceMul, Nat.reduceLT, Nat.le_refl, LINE, Bool.false_eq_true, Bool.not_true, Bool.not_false, Bool.true_eq_false, *])
theorem cell_eq (ns : List Int) (k : Nat) : m__law_cell [.list (ns.map .int), .int k] = .ok (.int (ns.getD k 0)) [] := by
  unfold m__law_cell b__law_cell
  walk_at "ev"
  rw [at_nat]
  by_cases h : k < ns.length
  · rw [if_pos (by rw [List.length_map]; omega)]
    simp [h]
    walk_at "ev"
  · rw [if_neg (by rw [List.length_map]; omega)]
    simp [h]
theorem number_eq (c : Int) : ∃ v : Int, m__law_number [.int c] = .ok (.int v) [] ∧ -1000000 ≤ v ∧ v ≤ 1000000 := by
  unfold m__law_number b__law_number
  walk_at "ev"
  split
  · exact ⟨_, rfl, by omega, by omega⟩
  split
  · exact ⟨_, rfl, by omega, by omega⟩
  split
  · obtain ⟨d, hd, e⟩ := at_ex [PyData.int 1000000, PyData.int (-1000000), PyData.int 999999, PyData.int 500000, PyData.int 500001, PyData.int (-500000), PyData.int 1000, PyData.int (-1000)] (i := c / 4 % 8) (by omega) (by show _ < (8 : Int); omega)
    rw [e]
    walk_at "ev"
    simp only [List.mem_cons, List.not_mem_nil, or_false] at hd
    rcases hd with rfl | rfl | rfl | rfl | rfl | rfl | rfl | rfl <;> exact ⟨_, rfl, by decide, by decide⟩
  · exact ⟨_, rfl, by omega, by omega⟩
theorem pow18 : dPow (.int 10) (.int 18) = some (.int 1000000000000000000) := by
  show (if CPow 10 18 then some (PyData.int (10 ^ (18 : Int).toNat)) else none) = _
  rw [if_pos (by decide +kernel)]
  rfl
/-- what a turn of the draws keeps -/
def DrI (c : Int) (n l : Int) (i : Nat) (δ : Dl) : Prop := ∃ (xs : List Int) (rest : Int) (o5 o6 : Option D), δ = [.val (.int c), .val (.int n), .val (.int l), .var false (xs.map .int), .val (.int rest), cO o5, cO o6] ∧ xs.length = i ∧ ∀ x ∈ xs, 0 ≤ x ∧ x < l
theorem draws_step {c n l : Int} {i : Nat} {δ : Dl} (h0 : 0 < l) (h1 : l < 1073741824) (I : DrI c n l i δ) (hi : i < 30) : ∃ δ1, setV 5 (.int i) δ = some δ1 ∧ ∃ δ2, b__law_draws_L1 δ1 = .ok .nx δ2 ∧ DrI c n l (i + 1) δ2 := by
  obtain ⟨xs, rest, o5, o6, rfl, hl, hr⟩ := I
  refine ⟨_, by walk_at "ev"; rfl, ?_⟩
  unfold b__law_draws_L1
  walk_at "ev"
  rw [pow18]
  walk_at "ev"
  have e1 : ∀ x : Int, dMod (.int x) (.int l) = some (.int (x % l)) := fun x => mod_s h0
  have e2 : ∀ x : Int, dDiv (.int x) (.int l) = some (.int (x / l)) := fun x => div_s h0 h1
  have e3 : ((xs.map PyData.int).length < 16777216) = True := by rw [List.length_map, hl]; exact eq_true (by omega)
  have hx : ∀ y : Int, ∀ x ∈ xs ++ [y % l], 0 ≤ x ∧ x < l := by
    intro y x hx
    rcases List.mem_append.mp hx with h | h
    · exact hr x h
    · rw [List.mem_singleton.mp h]
      exact ⟨Int.emod_nonneg _ (by omega), Int.emod_lt_of_pos _ h0⟩
  have em : ∀ y : Int, xs.map PyData.int ++ [.int y] = (xs ++ [y]).map .int := fun y => by rw [List.map_append]; rfl
  simp only [e1, e2]
  walk_at "ev"
  simp only [e3, if_true, e2]
  walk_at "ev"
  simp only [em, e2]
  walk_at "ev"
  generalize (if c < 0 then -c else c) = a
  split
  · split
    · exact ⟨_, rfl, _, _, some _, o6, rfl, by simp [hl], hx _⟩
    · exact ⟨_, rfl, _, _, some _, some _, rfl, by simp [hl], hx _⟩
  · exact ⟨_, rfl, _, _, some _, some _, rfl, by simp [hl], hx _⟩
theorem draws_eq (c : Int) {n : Nat} {l : Int} (hn : n ≤ 30) (h0 : 0 < l) (h1 : l < 1073741824) : ∃ xs : List Int, m__law_draws [.int c, .int n, .int l] = .ok (.list (xs.map .int)) [] ∧ xs.length = n ∧ ∀ x ∈ xs, 0 ≤ x ∧ x < l := by
  have A : DrI c n l 0 [.val (.int c), .val (.int n), .val (.int l), .var false [], .val (.int (if c < 0 then -c else c)), .non, .non] := ⟨[], _, none, none, rfl, rfl, by simp⟩
  obtain ⟨δ', e, xs, rest, o5, o6, rfl, hl, hx⟩ := mFor_inv (g := setV 5) (body := b__law_draws_L1) (items := rng 0 (n : Int)) (DrI c n l) (fun i x δ hx I => by
    obtain ⟨rfl, hi⟩ := rng_at hx
    rw [Int.zero_add]
    exact draws_step h0 h1 I (by omega)) A
  unfold m__law_draws b__law_draws
  walk_at "ev"
  rw [if_pos (big_of (by omega) (by omega))]
  walk_at "ev"
  rw [e]
  walk_at "ev"
  rw [rng_len] at hl
  exact ⟨xs, rfl, by omega, hx⟩
/-! ### values -/
inductive Kd where | n | t | s | l
/-- the signs of a text, in order -/
def AL : List Nat := [32, 48, 49, 50, 51, 52, 53, 54, 55, 56, 57, 97, 98, 99, 100, 101, 102, 103, 104, 105, 106, 107, 108, 109, 110, 111, 112, 113, 114, 115, 116, 117, 118, 119, 120, 121, 122]
def Rg (i : Int) : Prop := -1000000 ≤ i ∧ i ≤ 1000000
inductive Vk : Kd → D → Prop
  | n {i : Int} (h : Rg i) : Vk .n (.int i)
  | t (b : Bool) : Vk .t (.bool b)
  | s {l : List Nat} (h : l.length ≤ 30) (a : ∀ c ∈ l, c ∈ AL) : Vk .s (.str (S l))
  | l {ns : List Int} (h : ns.length ≤ 12) (a : ∀ i ∈ ns, Rg i) : Vk .l (.tuple (ns.map .int))
def letter : Kd → Str
  | .n => "n" | .t => "t" | .s => "s" | .l => "l"
theorem eq_lit {a b : Str} {r : Bool} (h : (SeqAt.shaped (.str a) && SeqAt.shaped (.str b)) = true) (e : (a == b) = r) : dEq (.str a) (.str b) = some (.bool r) := by
  unfold dEq
  rw [h]
  show some (PyData.bool (a == b)) = _
  rw [e]
theorem e_nn : dEq (.str "n") (.str "n") = some (.bool true) := eq_lit (by decide +kernel) (by decide +kernel)
theorem e_tn : dEq (.str "t") (.str "n") = some (.bool false) := eq_lit (by decide +kernel) (by decide +kernel)
theorem e_tt : dEq (.str "t") (.str "t") = some (.bool true) := eq_lit (by decide +kernel) (by decide +kernel)
theorem e_sn : dEq (.str "s") (.str "n") = some (.bool false) := eq_lit (by decide +kernel) (by decide +kernel)
theorem e_st : dEq (.str "s") (.str "t") = some (.bool false) := eq_lit (by decide +kernel) (by decide +kernel)
theorem e_ss : dEq (.str "s") (.str "s") = some (.bool true) := eq_lit (by decide +kernel) (by decide +kernel)
theorem e_ln : dEq (.str "l") (.str "n") = some (.bool false) := eq_lit (by decide +kernel) (by decide +kernel)
theorem e_lt : dEq (.str "l") (.str "t") = some (.bool false) := eq_lit (by decide +kernel) (by decide +kernel)
theorem e_ls : dEq (.str "l") (.str "s") = some (.bool false) := eq_lit (by decide +kernel) (by decide +kernel)
local macro_rules | `(tactic| walk_at "ev") => `(tactic| try simp -implicitDefEqProofs only [mDef, mSeq, mIf, mT, mTr, mOp, mUn, mVar, mC, mCall, mCons, mNil, mRet, mSkip, mAsg, mSl, mPart, mNoPart, mAndT, mOrT, mNotT, mAnd, mOr, mNot, mIfE, mChain, mIs, mIs2, mOf, mNew, mCallF, mM1, mM0, mIxM, mLenM, mApp, mSetM, mSetIx, mAug, mFrz, mForS, mRng1, mRng2, mItems, setV_zn, setV_zv, setV_zo, setV_succ, setM, frz, setT2, mBk, mCt, mNo, 
  DL.bind_ok, DL.bind_no, DL.bind_ite, lift_some, lift_none, List.map_cons, List.map_nil, List.length_cons, List.length_nil, List.replicate_succ, List.replicate_zero, List.cons_append, List.nil_append, List.append_nil, List.getElem?_cons_zero, List.getElem?_cons_succ, List.set_cons_zero, List.set_cons_succ, Nat.reduceAdd, Nat.reduceSub, Nat.zero_add, Nat.sub_self, decide_eq_true_eq,
  add_ii, sub_ii, neg_i, mul_r, mul_l, div_s, mod_s, eq_ii, ne_ii, eq_bb, ne_bb, lt_ii, gt_ii, le_ii, ge_ii, len_l, len_t, int_i, int_b, abs_i, max_ii, min_ii, tuple_l, ix_l, ix_t, tr_b, Nat.reduceLeDiff, if_true, if_false, Option.map_some, Option.bind_some, reduceIte, Int.reduceLT, Int.reduceNeg, Int.reduceMul, Nat.reduceLT, Nat.le_refl, LINE, Bool.false_eq_true, Bool.not_true, Bool.not_false, Bool.true_eq_false, e_nn, e_tn, e_tt, e_sn, e_st, e_ss, e_ln, e_lt, e_ls])
local macro_rules | `(tactic| walk_at "ev*") => `(tactic| try simp -implicitDefEqProofs only [mDef, mSeq, mIf, mT, mTr, mOp, mUn, mVar, mC, mCall, mCons, mNil, mRet, mSkip, mAsg, mSl, mPart, mNoPart, mAndT, mOrT, mNotT, mAnd, mOr, mNot, mIfE, mChain, mIs, mIs2, mOf, mNew, mCallF, mM1, mM0, mIxM, mLenM, mApp, mSetM, mSetIx, mAug, mFrz, mForS, mRng1, mRng2, mItems, setV_zn, setV_zv, setV_zo, setV_succ, setM, frz, setT2, mBk, mCt, mNo, 
  DL.bind_ok, DL.bind_no, DL.bind_ite, lift_some, lift_none, List.map_cons, List.map_nil, List.length_cons, List.length_nil, List.replicate_succ, List.replicate_zero, List.cons_append, List.nil_append, List.append_nil, List.getElem?_cons_zero, List.getElem?_cons_succ, List.set_cons_zero, List.set_cons_succ, Nat.reduceAdd, Nat.reduceSub, Nat.zero_add, Nat.sub_self, decide_eq_true_eq,
  add_ii, sub_ii, neg_i, mul_r, mul_l, div_s, mod_s, eq_ii, ne_ii, eq_bb, ne_bb, lt_ii, gt_ii, le_ii, ge_ii, len_l, len_t, int_i, int_b, abs_i, max_ii, min_ii, tuple_l, ix_l, ix_t, tr_b, Nat.reduceLeDiff, if_true, if_false, Option.map_some, Option.bind_some, reduceIte, Int.reduceLT, Int.reduceNeg, Int.reduceMul, Nat.reduceLT, Nat.le_refl, LINE, Bool.false_eq_true, Bool.not_true, Bool.not_false, Bool.true_eq_false, e_nn, e_tn, e_tt, e_sn, e_st, e_ss, e_ln, e_lt, e_ls, *])
theorem value_n {c : Int} (h : 0 ≤ c) : ∃ x, m__law_value [.str "n", .int c] = .ok x [] ∧ Vk .n x := by
  obtain ⟨v, e, h1, h2⟩ := number_eq c
  unfold m__law_value b__law_value
  walk_at "ev*"
  exact ⟨_, rfl, .n ⟨h1, h2⟩⟩
theorem value_t {c : Int} (h : 0 ≤ c) : ∃ x, m__law_value [.str "t", .int c] = .ok x [] ∧ Vk .t x := by
  unfold m__law_value b__law_value
  walk_at "ev"
  exact ⟨_, rfl, .t _⟩
theorem menu : ("a b0 9z1" : Str) = S [97, 32, 98, 48, 32, 57, 122, 49] := by decide +kernel
theorem empty_S : ("" : Str) = S [] := by decide +kernel
theorem nv_list {δ : Dl} (h : δ.all (fun c => !c.isVar) = true) : noVar δ = true := h
theorem map_pick {α β : Type} {g : α → β} {Q : α → Prop} : ∀ {ys : List β}, (∀ y ∈ ys, ∃ k, y = g k ∧ Q k) → ∃ ks : List α, ys = ks.map g ∧ ∀ k ∈ ks, Q k
  | [], _ => ⟨[], rfl, by simp⟩
  | y :: ys, h => by
    obtain ⟨k, rfl, hk⟩ := h y List.mem_cons_self
    obtain ⟨ks, e, hs⟩ := map_pick (ys := ys) fun z hz => h z (List.mem_cons_of_mem _ hz)
    exact ⟨k :: ks, by rw [e]; rfl, fun z hz => by
      rcases List.mem_cons.mp hz with rfl | hz
      · exact hk
      · exact hs z hz⟩
theorem joinL_ones : ∀ ks : List Nat, TL.joinL [] (ks.map fun k => [k]) = ks
  | [] => rfl
  | [k] => rfl
  | k :: k2 :: ks => by
    have ih := joinL_ones (k2 :: ks)
    show [k] ++ ([] ++ TL.joinL [] ((k2 :: ks).map fun k => [k])) = _
    rw [ih]
    rfl
theorem join_ones {ks : List Nat} (h : ks.length ≤ 30) : dJoin (.str "") [.list (ks.map fun k => .str (S [k]))] = some (.str (S ks)) := by
  have e := join_S' (a := []) (ls := ks.map fun k => [k]) (by
    have : (ks.map fun k => [k]).map (·.length) = ks.map fun _ => 1 := by rw [List.map_map]; rfl
    rw [this, List.length_map]
    have q : ∀ l : List Nat, (l.map fun _ => 1).sum = l.length := fun l => by induction l with
      | nil => rfl
      | cons a l ih => rw [List.map_cons, List.sum_cons, ih, List.length_cons]; omega
    rw [q]
    simp
    omega)
  rw [joinL_ones, List.map_map] at e
  rw [empty_S]
  exact e
theorem value_s {c : Int} (h : 0 ≤ c) : ∃ x, m__law_value [.str "s", .int c] = .ok x [] ∧ Vk .s x := by
  unfold m__law_value b__law_value
  walk_at "ev"
  obtain ⟨d, hd, e⟩ := at_ex [PyData.int 0, PyData.int 1, PyData.int 2, PyData.int 3, PyData.int 5, PyData.int 15, PyData.int 16, PyData.int 30] (i := c % 8) (by omega) (by show _ < (8 : Int); omega)
  rw [e]
  walk_at "ev"
  obtain ⟨n, rfl, hn⟩ : ∃ n : Nat, d = .int n ∧ n ≤ 30 := by
    simp only [List.mem_cons, List.not_mem_nil, or_false] at hd
    rcases hd with rfl | rfl | rfl | rfl | rfl | rfl | rfl | rfl <;> exact ⟨_, rfl, by decide⟩
  obtain ⟨xs, e2, hl, hx⟩ := draws_eq (c / 8) hn (l := 64) (by decide) (by decide)
  obtain ⟨f, e3, hf⟩ := lcS_ex (j := 3) (it := mItems (mCallF m__law_draws (mCons (mOp dDiv (mVar 1) (mC (.int 8))) (mCons (mVar 2) (mCons (mC (.int 64)) mNil))))) (e := b__law_value_E1) (δ := [.val (.str "s"), .val (.int c), .val (.int n), .non]) (δ' := [.val (.str "s"), .val (.int c), .val (.int n), .non]) (items := xs.map .int) (P := fun _ y => ∃ k, y = .str (S [k]) ∧ k ∈ AL) (by
    walk_at "ev"
    rw [e2]
    rfl) (by simp) rfl (by rw [List.length_map]; omega) (fun x hx' => by
    obtain ⟨i, hi, rfl⟩ := List.mem_map.mp hx'
    obtain ⟨k, hk⟩ : ∃ k : Nat, i % 8 = k := ⟨(i % 8).toNat, by omega⟩
    unfold b__law_value_E1
    walk_at "ev"
    rw [hk, menu, ix_S (by decide)]
    have hk8 : k < 8 := by omega
    have q : ∀ k < 8, ∃ m, [97, 32, 98, 48, 32, 57, 122, 49][k]? = some m ∧ m ∈ AL := by decide
    obtain ⟨m, e4, hm⟩ := q k hk8
    exact ⟨_, by rw [e4]; rfl, m, rfl, hm⟩)
  rw [e3]
  walk_at "ev"
  obtain ⟨ks, e4, hk⟩ := map_pick (ys := (xs.map PyData.int).map f) (g := fun k => PyData.str (S [k])) (Q := fun k => k ∈ AL) (fun y hy => by
    obtain ⟨x, hx', rfl⟩ := List.mem_map.mp hy
    exact hf x hx')
  have hl2 := congrArg List.length e4
  rw [List.length_map, List.length_map, List.length_map, hl] at hl2
  rw [e4, join_ones (by omega)]
  walk_at "ev"
  exact ⟨_, rfl, .s (by omega) hk⟩
theorem value_l {c : Int} (h : 0 ≤ c) : ∃ x, m__law_value [.str "l", .int c] = .ok x [] ∧ Vk .l x := by
  unfold m__law_value b__law_value
  walk_at "ev"
  obtain ⟨d, hd, e⟩ := at_ex [PyData.int 0, PyData.int 1, PyData.int 2, PyData.int 3, PyData.int 4, PyData.int 6, PyData.int 11, PyData.int 12] (i := c % 8) (by omega) (by show _ < (8 : Int); omega)
  rw [e]
  walk_at "ev"
  obtain ⟨n, rfl, hn⟩ : ∃ n : Nat, d = .int n ∧ n ≤ 12 := by
    simp only [List.mem_cons, List.not_mem_nil, or_false] at hd
    rcases hd with rfl | rfl | rfl | rfl | rfl | rfl | rfl | rfl <;> exact ⟨_, rfl, by decide⟩
  have A : ∀ (l : Int) (e : M D), 0 < l → l < 1073741824 → (∀ i : Int, 0 ≤ i → i < l → ∃ y, e [.val (.str "l"), .val (.int c), .val (.int n), .val (.int i)] = .ok y [.val (.str "l"), .val (.int c), .val (.int n), .val (.int i)] ∧ ∃ k, y = .int k ∧ Rg k) →
      ∃ ks : List Int, mLcS [3] (mItems (mCallF m__law_draws (mCons (mOp dDiv (mVar 1) (mC (.int 24))) (mCons (mVar 2) (mCons (mC (.int l)) mNil))))) (setV 3) mYes e [.val (.str "l"), .val (.int c), .val (.int n), .non] = .ok (ks.map .int) [.val (.str "l"), .val (.int c), .val (.int n), .non] ∧ ks.length ≤ 12 ∧ ∀ k ∈ ks, Rg k := by
    intro l e h0 h1 he
    obtain ⟨xs, e2, hl, hx⟩ := draws_eq (c / 24) (n := n) (l := l) (by omega) h0 h1
    obtain ⟨f, e3, hf⟩ := lcS_ex (j := 3) (it := mItems (mCallF m__law_draws (mCons (mOp dDiv (mVar 1) (mC (.int 24))) (mCons (mVar 2) (mCons (mC (.int l)) mNil))))) (e := e) (δ := [.val (.str "l"), .val (.int c), .val (.int n), .non]) (δ' := [.val (.str "l"), .val (.int c), .val (.int n), .non]) (items := xs.map .int) (P := fun _ y => ∃ k, y = .int k ∧ Rg k) (by
      walk_at "ev"
      rw [e2]
      rfl) (by simp) rfl (by rw [List.length_map]; omega) (fun x hx' => by
      obtain ⟨i, hi, rfl⟩ := List.mem_map.mp hx'
      exact he i (hx i hi).1 (hx i hi).2)
    obtain ⟨ks, e4, hk⟩ := map_pick (ys := (xs.map PyData.int).map f) (g := fun k => PyData.int k) (Q := Rg) (fun y hy => by
      obtain ⟨x, hx', rfl⟩ := List.mem_map.mp hy
      exact hf x hx')
    have hl2 := congrArg List.length e4
    rw [List.length_map, List.length_map, List.length_map, hl] at hl2
    rw [e4] at e3
    exact ⟨ks, e3, by omega, hk⟩
  obtain ⟨ks, e1, e2, e3⟩ := A 4000 b__law_value_E2 (by decide) (by decide) (fun i h1 h2 => by
    obtain ⟨v, ev, q⟩ := number_eq i
    unfold b__law_value_E2
    walk_at "ev*"
    exact ⟨_, rfl, v, rfl, q⟩)
  obtain ⟨ks', e1', e2', e3'⟩ := A 63 b__law_value_E3 (by decide) (by decide) (fun i h1 h2 => by
    unfold b__law_value_E3
    walk_at "ev"
    exact ⟨_, rfl, _, rfl, by constructor <;> omega⟩)
  clear A
  simp only [e1, e1']
  walk_at "ev"
  split
  · exact ⟨_, rfl, .l e2 e3⟩
  · exact ⟨_, rfl, .l e2' e3'⟩
theorem value_eq (k : Kd) {c : Int} (h : 0 ≤ c) : ∃ x, m__law_value [.str (letter k), .int c] = .ok x [] ∧ Vk k x := by
  cases k
  · exact value_n h
  · exact value_t h
  · exact value_s h
  · exact value_l h
theorem _root_.DL.R.bind_ex {α β : Type} {c : Nat} {d : D} {δ : Dl} {f : α → Dl → R β} : R.bind (.ex c d δ) f = .ex c d δ := rfl
theorem is_bool_n (i : Int) : isD "bool" (.int i) = false := by show isT "bool" "int" = _; decide
theorem is_bool_t (i : Bool) : isD "bool" (.bool i) = true := by show isT "bool" "bool" = _; decide
theorem is_bool_s (i : Str) : isD "bool" (.str i) = false := by show isT "bool" "str" = _; decide
theorem is_bool_l (i : List D) : isD "bool" (.tuple i) = false := by show isT "bool" "tuple" = _; decide
theorem is_int_n (i : Int) : isD "int" (.int i) = true := by show isT "int" "int" = _; decide
theorem is_int_t (i : Bool) : isD "int" (.bool i) = true := by show isT "int" "bool" = _; decide
theorem is_int_s (i : Str) : isD "int" (.str i) = false := by show isT "int" "str" = _; decide
theorem is_int_l (i : List D) : isD "int" (.tuple i) = false := by show isT "int" "tuple" = _; decide
theorem is_str_n (i : Int) : isD "str" (.int i) = false := by show isT "str" "int" = _; decide
theorem is_str_t (i : Bool) : isD "str" (.bool i) = false := by show isT "str" "bool" = _; decide
theorem is_str_s (i : Str) : isD "str" (.str i) = true := by show isT "str" "str" = _; decide
theorem is_str_l (i : List D) : isD "str" (.tuple i) = false := by show isT "str" "tuple" = _; decide
theorem is_tuple_n (i : Int) : isD "tuple" (.int i) = false := by show isT "tuple" "int" = _; decide
theorem is_tuple_t (i : Bool) : isD "tuple" (.bool i) = false := by show isT "tuple" "bool" = _; decide
theorem is_tuple_s (i : Str) : isD "tuple" (.str i) = false := by show isT "tuple" "str" = _; decide
theorem is_tuple_l (i : List D) : isD "tuple" (.tuple i) = true := by show isT "tuple" "tuple" = _; decide
theorem is_list_n (i : Int) : isD "list" (.int i) = false := by show isT "list" "int" = _; decide
theorem is_list_t (i : Bool) : isD "list" (.bool i) = false := by show isT "list" "bool" = _; decide
theorem is_list_s (i : Str) : isD "list" (.str i) = false := by show isT "list" "str" = _; decide
theorem is_list_l (i : List D) : isD "list" (.tuple i) = false := by show isT "list" "tuple" = _; decide
local macro_rules | `(tactic| walk_at "ev") => `(tactic| try simp -implicitDefEqProofs only [mDef, mSeq, mIf, mT, mTr, mOp, mUn, mVar, mC, mCall, mCons, mNil, mRet, mSkip, mAsg, mSl, mPart, mNoPart, mAndT, mOrT, mNotT, mAnd, mOr, mNot, mIfE, mChain, mIs, mIs2, mOf, mNew, mCallF, mM1, mM0, mIxM, mLenM, mApp, mSetM, mSetIx, mAug, mFrz, mForS, mRng1, mRng2, mItems, setV_zn, setV_zv, setV_zo, setV_succ, setM, frz, setT2, mBk, mCt, mNo, 
  DL.bind_ok, DL.bind_no, DL.bind_ite, lift_some, lift_none, List.map_cons, List.map_nil, List.length_cons, List.length_nil, List.replicate_succ, List.replicate_zero, List.cons_append, List.nil_append, List.append_nil, List.getElem?_cons_zero, List.getElem?_cons_succ, List.set_cons_zero, List.set_cons_succ, Nat.reduceAdd, Nat.reduceSub, Nat.zero_add, Nat.sub_self, decide_eq_true_eq,
  add_ii, sub_ii, neg_i, mul_r, mul_l, div_s, mod_s, eq_ii, ne_ii, eq_bb, ne_bb, lt_ii, gt_ii, le_ii, ge_ii, len_l, len_t, int_i, int_b, abs_i, max_ii, min_ii, tuple_l, ix_l, ix_t, tr_b, Nat.reduceLeDiff, if_true, if_false, Option.map_some, Option.bind_some, reduceIte, Int.reduceLT, Int.reduceNeg, Int.reduceMul, Nat.reduceLT, Nat.le_refl, LINE, Bool.false_eq_true, Bool.not_true, Bool.not_false, Bool.true_eq_false, e_nn, e_tn, e_tt, e_sn, e_st, e_ss, e_ln, e_lt, e_ls, is_bool_n, is_bool_t, is_bool_s, is_bool_l, is_int_n, is_int_t, is_int_s, is_int_l, is_str_n, is_str_t, is_str_s, is_str_l, is_tuple_n, is_tuple_t, is_tuple_s, is_tuple_l, is_list_n, is_list_t, is_list_s, is_list_l, Bool.false_or, Bool.true_or, Bool.or_true, Bool.or_false, c_QUOTE, c_SIGNS, c_DIGITS, c_NUMBER_LIMIT, c_TEXT_LIMIT, c_LIST_LIMIT, dItems, mCallE, mDefE, mRaise, mTryR, t_Malformed, DL.R.bind_ex])
local macro_rules | `(tactic| walk_at "ev*") => `(tactic| try simp -implicitDefEqProofs only [mDef, mSeq, mIf, mT, mTr, mOp, mUn, mVar, mC, mCall, mCons, mNil, mRet, mSkip, mAsg, mSl, mPart, mNoPart, mAndT, mOrT, mNotT, mAnd, mOr, mNot, mIfE, mChain, mIs, mIs2, mOf, mNew, mCallF, mM1, mM0, mIxM, mLenM, mApp, mSetM, mSetIx, mAug, mFrz, mForS, mRng1, mRng2, mItems, setV_zn, setV_zv, setV_zo, setV_succ, setM, frz, setT2, mBk, mCt, mNo, 
  DL.bind_ok, DL.bind_no, DL.bind_ite, lift_some, lift_none, List.map_cons, List.map_nil, List.length_cons, List.length_nil, List.replicate_succ, List.replicate_zero, List.cons_append, List.nil_append, List.append_nil, List.getElem?_cons_zero, List.getElem?_cons_succ, List.set_cons_zero, List.set_cons_succ, Nat.reduceAdd, Nat.reduceSub, Nat.zero_add, Nat.sub_self, decide_eq_true_eq,
  add_ii, sub_ii, neg_i, mul_r, mul_l, div_s, mod_s, eq_ii, ne_ii, eq_bb, ne_bb, lt_ii, gt_ii, le_ii, ge_ii, len_l, len_t, int_i, int_b, abs_i, max_ii, min_ii, tuple_l, ix_l, ix_t, tr_b, Nat.reduceLeDiff, if_true, if_false, Option.map_some, Option.bind_some, reduceIte, Int.reduceLT, Int.reduceNeg, Int.reduceMul, Nat.reduceLT, Nat.le_refl, LINE, Bool.false_eq_true, Bool.not_true, Bool.not_false, Bool.true_eq_false, e_nn, e_tn, e_tt, e_sn, e_st, e_ss, e_ln, e_lt, e_ls, is_bool_n, is_bool_t, is_bool_s, is_bool_l, is_int_n, is_int_t, is_int_s, is_int_l, is_str_n, is_str_t, is_str_s, is_str_l, is_tuple_n, is_tuple_t, is_tuple_s, is_tuple_l, is_list_n, is_list_t, is_list_s, is_list_l, Bool.false_or, Bool.true_or, Bool.or_true, Bool.or_false, c_QUOTE, c_SIGNS, c_DIGITS, c_NUMBER_LIMIT, c_TEXT_LIMIT, c_LIST_LIMIT, dItems, mCallE, mDefE, mRaise, mTryR, t_Malformed, DL.R.bind_ex, *])
theorem q_S : ("\"" : Str) = S [34] := by decide +kernel
theorem lb_S : ("[" : Str) = S [91] := by decide +kernel
theorem rb_S : ("]" : Str) = S [93] := by decide +kernel
theorem sp_S : (" " : Str) = S [32] := by decide +kernel
theorem true_S : ("true" : Str) = S [116, 114, 117, 101] := by decide +kernel
theorem false_S : ("false" : Str) = S [102, 97, 108, 115, 101] := by decide +kernel
theorem zero_S : ("0" : Str) = S [48] := by decide +kernel
theorem minus_S : ("-" : Str) = S [45] := by decide +kernel
theorem t_S : ("t" : Str) = S [116] := by decide +kernel
theorem f_S : ("f" : Str) = S [102] := by decide +kernel
theorem signs_S : (" 0123456789abcdefghijklmnopqrstuvwxyz" : Str) = S AL := by decide +kernel
theorem digits_S : ("0123456789" : Str) = S [48, 49, 50, 51, 52, 53, 54, 55, 56, 57] := by decide +kernel
theorem iL_len {i : Int} (h : Rg i) : (iL i).length ≤ 8 := by
  unfold iL
  split
  · exact Nat.le_trans (TL.numL_len (k := 7) (by decide) (by have := h.1; have := h.2; omega)) (by decide)
  · rw [List.length_cons]
    have := TL.numL_len (n := (-i).toNat) (k := 7) (by decide) (by have := h.1; have := h.2; omega)
    omega
theorem iL_lt (i : Int) : ∀ c ∈ iL i, c < 1000 := by
  have q : ∀ n, ∀ c ∈ TL.numL n, c < 1000 := fun n c hc => by
    have := TL.numL_digits n c hc
    omega
  unfold iL
  split
  · exact q _
  · intro c hc
    rcases List.mem_cons.mp hc with rfl | hc
    · decide
    · exact q _ c hc
theorem sum_le {α : Type} (f : α → Nat) (k : Nat) : ∀ l : List α, (∀ a ∈ l, f a ≤ k) → (l.map f).sum ≤ l.length * k
  | [], _ => by simp
  | a :: l, h => by
    have h1 := h a List.mem_cons_self
    have h2 := sum_le f k l fun b hb => h b (List.mem_cons_of_mem _ hb)
    rw [List.map_cons, List.sum_cons, List.length_cons, Nat.add_mul]
    omega
theorem lens_eq (ns : List Int) : (ns.map iL).map (·.length) = ns.map fun i => (iL i).length := by rw [List.map_map]; rfl
theorem joined_len (ns : List Int) (hl : ns.length ≤ 12) (h : ∀ i ∈ ns, Rg i) : ((ns.map iL).map (·.length)).sum + (ns.map iL).length * [32].length ≤ 16777216 := by
  rw [lens_eq, List.length_map]
  have := sum_le (fun i => (iL i).length) 8 ns fun i hi => iL_len (h i hi)
  have e : [32].length = 1 := rfl
  rw [e]
  omega
def lstL (ns : List Int) : List Nat := 91 :: (TL.joinL [32] (ns.map iL) ++ [93])
theorem joinL_lt : ∀ ls : List (List Nat), (∀ l ∈ ls, ∀ c ∈ l, c < 1000) → ∀ c ∈ TL.joinL [32] ls, c < 1000
  | [], _ => fun c hc => absurd hc (by simp [TL.joinL])
  | [l], h => h l (by simp)
  | l :: l2 :: ls, h => by
    intro c hc
    have hc : c ∈ l ++ ([32] ++ TL.joinL [32] (l2 :: ls)) := hc
    rcases List.mem_append.mp hc with hc | hc
    · exact h l (by simp) c hc
    · rcases List.mem_append.mp hc with hc | hc
      · rw [List.mem_singleton.mp hc]; decide
      · exact joinL_lt (l2 :: ls) (fun m hm => h m (List.mem_cons_of_mem _ hm)) c hc
theorem joinL_len : ∀ ls : List (List Nat), (TL.joinL [32] ls).length ≤ (ls.map (·.length)).sum + ls.length
  | [] => by simp [TL.joinL]
  | [l] => by simp [TL.joinL]
  | l :: l2 :: ls => by
    have ih := joinL_len (l2 :: ls)
    show (l ++ ([32] ++ TL.joinL [32] (l2 :: ls))).length ≤ _
    rw [List.length_append, List.length_append, List.map_cons, List.sum_cons, List.length_cons (a := l)]
    have e : [32].length = 1 := rfl
    rw [e]
    omega
theorem join_ints {ns : List Int} (hl : ns.length ≤ 12) (h : ∀ i ∈ ns, Rg i) : dJoin (.str " ") [.list (ns.map fun i => .str (S (iL i)))] = some (.str (S (TL.joinL [32] (ns.map iL)))) := by
  have e := join_S' (a := [32]) (ls := ns.map iL) (joined_len ns hl h)
  rw [List.map_map] at e
  rw [sp_S]
  exact e
/-- a value's written form -/
inductive Wr : D → List Nat → Prop
  | n {i : Int} : Wr (.int i) (iL i)
  | t : Wr (.bool true) [116, 114, 117, 101]
  | f : Wr (.bool false) [102, 97, 108, 115, 101]
  | s {l : List Nat} : Wr (.str (S l)) (34 :: (l ++ [34]))
  | l {ns : List Int} : Wr (.tuple (ns.map .int)) (lstL ns)
def strOf : D → D
  | .int i => .str (S (iL i))
  | d => d
theorem strs_of {ns : List Int} (e : M D) (he : ∀ (x : D) (i : Int), Rg i → e [.val x, .val (.int i)] = .ok (.str (S (iL i))) [.val x, .val (.int i)]) (hl : ns.length ≤ 12) (h : ∀ i ∈ ns, Rg i) : mLcS [1] (mItems (mVar 0)) (setV 1) mYes e [.val (.tuple (ns.map .int)), .non] = .ok (ns.map fun i => .str (S (iL i))) [.val (.tuple (ns.map .int)), .non] := by
  rw [lcS_map (j := 1) (it := mItems (mVar 0)) (δ' := [.val (.tuple (ns.map .int)), .non]) (items := ns.map .int) strOf rfl (by simp) rfl (by rw [List.length_map]; omega) (fun x hx => by
    obtain ⟨i, hi, rfl⟩ := List.mem_map.mp hx
    exact he _ i (h i hi))]
  rw [List.map_map]
  rfl
theorem write_eq {k : Kd} {x : D} (hx : Vk k x) : ∃ w, Wr x w ∧ m_write_value [x] = .ok (.str (S w)) [] := by
  cases hx with
  | n h =>
    refine ⟨_, .n, ?_⟩
    · unfold m_write_value b_write_value
      have e := str_i h.1 h.2
      iterate 3 ((try simp only [e]); walk_at "ev")
  | t b =>
    cases b
    · refine ⟨_, .f, ?_⟩
      · unfold m_write_value b_write_value
        rw [← false_S]
        walk_at "ev"
    · refine ⟨_, .t, ?_⟩
      · unfold m_write_value b_write_value
        rw [← true_S]
        walk_at "ev"
  | s h a =>
    rename_i l
    have e1 := cat_S (l := [34]) (m := l) (by simp; omega)
    have e2 := cat_S (l := 34 :: l) (m := [34]) (by simp; omega)
    simp only [List.cons_append, List.nil_append] at e1 e2
    refine ⟨_, .s, ?_⟩
    · unfold m_write_value b_write_value
      iterate 4 ((try simp only [q_S, e1, e2]); walk_at "ev")
  | l h a =>
    rename_i ns
    have hj := joinL_len (ns.map iL)
    have hj2 := joined_len ns h a
    have e0 := join_ints h a
    have e1 := cat_S (l := [91]) (m := TL.joinL [32] (ns.map iL)) (by
      rw [List.length_cons, List.length_nil]
      have e : [32].length = 1 := rfl
      rw [e] at hj2
      have := sum_le (fun i => (iL i).length) 8 ns fun i hi => iL_len (a i hi)
      rw [lens_eq, List.length_map] at hj
      omega)
    have e2 := cat_S (l := 91 :: TL.joinL [32] (ns.map iL)) (m := [93]) (by
      rw [List.length_cons]
      have := sum_le (fun i => (iL i).length) 8 ns fun i hi => iL_len (a i hi)
      rw [lens_eq, List.length_map] at hj
      show _ + 1 ≤ _
      omega)
    simp only [List.cons_append, List.nil_append] at e1 e2
    have e3 := strs_of b_write_value_E1 (ns := ns) (fun x i hi => by
      unfold b_write_value_E1
      have e := str_i hi.1 hi.2
      iterate 3 ((try simp only [e]); walk_at "ev")) h a
    refine ⟨_, .l, ?_⟩
    · unfold m_write_value b_write_value
      walk_at "ev"
      simp only [e3]
      walk_at "ev"
      simp only [e0]
      walk_at "ev"
      simp only [lb_S, rb_S]
      iterate 4 ((try simp only [e1, e2]); walk_at "ev")
      rfl
end K03
end Part_QA

section Part_QB
set_option Elab.async false
set_option linter.all false
set_option maxRecDepth 100000
set_option autoImplicit false
set_option maxHeartbeats 2000000
namespace K03
open PySem PySem.Spec PyProof.Rows L2 DL SX
local macro_rules | `(tactic| walk_at "ev") => `(tactic| try simp -implicitDefEqProofs only [mDef, mSeq, mIf, mT, mTr, mOp, mUn, mVar, mC, mCall, mCons, mNil, mRet, mSkip, mAsg, mSl, mPart, mNoPart, mAndT, mOrT, mNotT, mAnd, mOr, mNot, mIfE, mChain, mIs, mIs2, mOf, mNew, mCallF, mM1, mM0, mIxM, mLenM, mApp, mSetM, mSetIx, mAug, mFrz, mForS, mRng1, mRng2, mItems, setV_zn, setV_zv, setV_zo, setV_succ, setM, frz, setT2, mBk, mCt, mNo, 
  DL.bind_ok, DL.bind_no, DL.bind_ite, lift_some, lift_none, List.map_cons, List.map_nil, List.length_cons, List.length_nil, List.replicate_succ, List.replicate_zero, List.cons_append, List.nil_append, List.append_nil, List.getElem?_cons_zero, List.getElem?_cons_succ, List.set_cons_zero, List.set_cons_succ, Nat.reduceAdd, Nat.reduceSub, Nat.zero_add, Nat.sub_self, decide_eq_true_eq,
  add_ii, sub_ii, neg_i, mul_r, mul_l, div_s, mod_s, eq_ii, ne_ii, eq_bb, ne_bb, lt_ii, gt_ii, le_ii, ge_ii, len_l, len_t, int_i, int_b, abs_i, max_ii, min_ii, tuple_l, ix_l, ix_t, tr_b, Nat.reduceLeDiff, if_true, if_false, Option.map_some, Option.bind_some, reduceIte, Int.reduceLT, Int.reduceNeg, Int.reduceMul, Nat.reduceLT, Nat.le_refl, LINE, Bool.false_eq_true, Bool.not_true, Bool.not_false, Bool.true_eq_false, e_nn, e_tn, e_tt, e_sn, e_st, e_ss, e_ln, e_lt, e_ls, is_bool_n, is_bool_t, is_bool_s, is_bool_l, is_int_n, is_int_t, is_int_s, is_int_l, is_str_n, is_str_t, is_str_s, is_str_l, is_tuple_n, is_tuple_t, is_tuple_s, is_tuple_l, is_list_n, is_list_t, is_list_s, is_list_l, Bool.false_or, Bool.true_or, Bool.or_true, Bool.or_false, c_QUOTE, c_SIGNS, c_DIGITS, c_NUMBER_LIMIT, c_TEXT_LIMIT, c_LIST_LIMIT, dItems, mCallE, mDefE, mRaise, mTryR, t_Malformed, DL.R.bind_ex])
local macro_rules | `(tactic| walk_at "ev*") => `(tactic| try simp -implicitDefEqProofs only [mDef, mSeq, mIf, mT, mTr, mOp, mUn, mVar, mC, mCall, mCons, mNil, mRet, mSkip, mAsg, mSl, mPart, mNoPart, mAndT, mOrT, mNotT, mAnd, mOr, mNot, mIfE, mChain, mIs, mIs2, mOf, mNew, mCallF, mM1, mM0, mIxM, mLenM, mApp, mSetM, mSetIx, mAug, mFrz, mForS, mRng1, mRng2, mItems, setV_zn, setV_zv, setV_zo, setV_succ, setM, frz, setT2, mBk, mCt, mNo, 
  DL.bind_ok, DL.bind_no, DL.bind_ite, lift_some, lift_none, List.map_cons, List.map_nil, List.length_cons, List.length_nil, List.replicate_succ, List.replicate_zero, List.cons_append, List.nil_append, List.append_nil, List.getElem?_cons_zero, List.getElem?_cons_succ, List.set_cons_zero, List.set_cons_succ, Nat.reduceAdd, Nat.reduceSub, Nat.zero_add, Nat.sub_self, decide_eq_true_eq,
  add_ii, sub_ii, neg_i, mul_r, mul_l, div_s, mod_s, eq_ii, ne_ii, eq_bb, ne_bb, lt_ii, gt_ii, le_ii, ge_ii, len_l, len_t, int_i, int_b, abs_i, max_ii, min_ii, tuple_l, ix_l, ix_t, tr_b, Nat.reduceLeDiff, if_true, if_false, Option.map_some, Option.bind_some, reduceIte, Int.reduceLT, Int.reduceNeg, Int.reduceMul, Nat.reduceLT, Nat.le_refl, LINE, Bool.false_eq_true, Bool.not_true, Bool.not_false, Bool.true_eq_false, e_nn, e_tn, e_tt, e_sn, e_st, e_ss, e_ln, e_lt, e_ls, is_bool_n, is_bool_t, is_bool_s, is_bool_l, is_int_n, is_int_t, is_int_s, is_int_l, is_str_n, is_str_t, is_str_s, is_str_l, is_tuple_n, is_tuple_t, is_tuple_s, is_tuple_l, is_list_n, is_list_t, is_list_s, is_list_l, Bool.false_or, Bool.true_or, Bool.or_true, Bool.or_false, c_QUOTE, c_SIGNS, c_DIGITS, c_NUMBER_LIMIT, c_TEXT_LIMIT, c_LIST_LIMIT, dItems, mCallE, mDefE, mRaise, mTryR, t_Malformed, DL.R.bind_ex, *])
theorem drop_cons {α : Type} {L r : List α} {e : Nat} {c : α} (h : L.drop e = c :: r) : e < L.length ∧ L[e]? = some c ∧ L.drop (e + 1) = r := by
  have h1 : e < L.length := by
    rcases Nat.lt_or_ge e L.length with q | q
    · exact q
    · rw [List.drop_of_length_le q] at h; cases h
  refine ⟨h1, ?_, ?_⟩
  · have := congrArg (fun l => l[0]?) h
    simpa using this
  · rw [← List.drop_drop, h]; rfl
theorem drop_nil {α : Type} {L : List α} {e : Nat} (h : L.drop e = []) : L.length ≤ e := List.drop_eq_nil_iff.mp h
theorem num_head {n : Nat} (h : 1 ≤ n) : ∃ c ds, TL.numL n = c :: ds ∧ 49 ≤ c ∧ c ≤ 57 := by
  induction n using Nat.strongRecOn with
  | _ n ih =>
    rcases Nat.lt_or_ge n 10 with q | q
    · exact ⟨_, [], TL.numL_lt q, by omega, by omega⟩
    · obtain ⟨c, ds, e, h1, h2⟩ := ih (n / 10) (by omega) (by omega)
      exact ⟨c, _, by rw [TL.numL_step q, e]; rfl, h1, h2⟩
abbrev DIG : List Nat := [48, 49, 50, 51, 52, 53, 54, 55, 56, 57]
theorem mem_dig {c : Nat} : c ∈ DIG ↔ 48 ≤ c ∧ c ≤ 57 := by
  simp only [DIG, List.mem_cons, List.not_mem_nil, or_false]
  omega
def stD (L : List Nat) (k acc e : Nat) (o : Option D) : Dl := [.val (.str (S L)), .val (.int k), .val (.int acc), .val (.int e), cO o]
theorem dist_c {L r : List Nat} {k acc e c : Nat} {o : Option D} (hL : L.length ≤ 16777216) (h : L.drop e = c :: r) : b_scan_distance_C1 (stD L k acc e o) = .ok (decide (48 ≤ c ∧ c ≤ 57)) (stD L k acc e o) := by
  obtain ⟨h1, h2, h3⟩ := drop_cons h
  have e0 := len_S hL
  have e1 : dIx (.str (S L)) (.int e) = some (.str (S [c])) := by rw [ix_S hL, h2]; rfl
  have e2 := in_S c DIG
  have e3 : ((e : Int) < L.length) = True := eq_true (by omega)
  unfold b_scan_distance_C1 stD
  walk_at "ev"
  simp only [digits_S]
  iterate 6 ((try simp only [e0, e1, e2, e3]); walk_at "ev")
  congr 1
  exact decide_eq_decide.mpr mem_dig
theorem dist_n {L : List Nat} {k acc e : Nat} {o : Option D} (hL : L.length ≤ 16777216) (h : L.drop e = []) : b_scan_distance_C1 (stD L k acc e o) = .ok false (stD L k acc e o) := by
  have h1 := drop_nil h
  have e0 := len_S hL
  have e3 : ((e : Int) < L.length) = False := eq_false (by omega)
  unfold b_scan_distance_C1 stD
  walk_at "ev"
  iterate 3 ((try simp only [e0, e3]); walk_at "ev")
theorem sl1 {L r : List Nat} {k c : Nat} (hL : L.length ≤ 16777216) (h : L.drop k = c :: r) : dSl (.str (S L)) (some (k : Int)) (some ((k : Int) + 1)) = some (.str (S [c])) := by
  have e := sl_S (l := L) (a := k) (b := k + 1) hL
  rw [h, Nat.add_sub_cancel_left] at e
  exact e
theorem eq1 {c d : Nat} (h : c < 1000) (h' : d < 1000) : dEq (.str (S [c])) (.str (S [d])) = some (.bool (decide (c = d))) := by
  rw [eq_S (by intro x hx; rw [List.mem_singleton.mp hx]; exact h) (by intro x hx; rw [List.mem_singleton.mp hx]; exact h')]
  congr 2
  exact decide_eq_decide.mpr (by simp)

theorem sl1n {L : List Nat} {k : Nat} (hL : L.length ≤ 16777216) (h : L.drop k = []) : dSl (.str (S L)) (some (k : Int)) (some ((k : Int) + 1)) = some (.str (S [])) := by
  have e := sl_S (l := L) (a := k) (b := k + 1) hL
  rw [h] at e
  rw [show ((k : Int) + 1) = ((k + 1 : Nat) : Int) from rfl, e]
  simp
theorem eqn {d : Nat} (h' : d < 1000) : dEq (.str (S [])) (.str (S [d])) = some (.bool false) := by
  rw [eq_S (by simp) (by intro x hx; rw [List.mem_singleton.mp hx]; exact h')]
  rfl
theorem nen {d : Nat} (h' : d < 1000) : dNe (.str (S [])) (.str (S [d])) = some (.bool true) := by
  rw [ne_S (by simp) (by intro x hx; rw [List.mem_singleton.mp hx]; exact h')]
  rfl
theorem ne1 {c d : Nat} (h : c < 1000) (h' : d < 1000) : dNe (.str (S [c])) (.str (S [d])) = some (.bool (!decide (c = d))) := by
  rw [ne_S (by intro x hx; rw [List.mem_singleton.mp hx]; exact h) (by intro x hx; rw [List.mem_singleton.mp hx]; exact h')]
  congr 3
  exact decide_eq_decide.mpr (by simp)
/-- may the digit c be taken behind the value acc? -/
def tak (c acc : Nat) : Bool := decide (48 ≤ c ∧ c ≤ 57) && (decide (acc * 10 + (c - 48) ≠ 0) && decide (acc * 10 + (c - 48) ≤ 1000000))
/-- the digits that are taken: the value, how many -/
def dst : List Nat → Nat → Nat × Nat
  | [], acc => (acc, 0)
  | c :: r, acc => if tak c acc then ((dst r (acc * 10 + (c - 48))).1, (dst r (acc * 10 + (c - 48))).2 + 1) else (acc, 0)
theorem body_t {L r : List Nat} {k acc e c : Nat} {o : Option D} (hL : L.length ≤ 16777216) (h : L.drop e = c :: r) (h1 : 48 ≤ c) (h2 : c ≤ 57) : ∃ o', b_scan_distance_L1 (stD L k acc e o) = if tak c acc then .ok .nx (stD L k (acc * 10 + (c - 48)) (e + 1) o') else .ok .bk (stD L k acc e o') := by
  obtain ⟨_, q2, _⟩ := drop_cons h
  have e1 : dIx (.str (S L)) (.int e) = some (.str (S [c])) := by rw [ix_S hL, q2]; rfl
  have e2 := int_dig h1 h2
  have e3 : (10 * (acc : Int) + ((c - 48 : Nat) : Int)) = ((acc * 10 + (c - 48) : Nat) : Int) := by push_cast; omega
  refine ⟨some (.int ((acc * 10 + (c - 48) : Nat) : Int)), ?_⟩
  unfold b_scan_distance_L1 stD tak
  rw [decide_eq_true (And.intro h1 h2), Bool.true_and]
  by_cases q3 : acc * 10 + (c - 48) = 0
  · have e4 : ((((acc * 10 + (c - 48) : Nat) : Int)) = 0) = True := eq_true (by omega)
    rw [decide_eq_false (by omega), Bool.false_and]
    walk_at "ev"
    iterate 8 ((try simp only [e1, e2, e3, e4]); walk_at "ev")
    rfl
  · have e4 : ((((acc * 10 + (c - 48) : Nat) : Int)) = 0) = False := eq_false (by omega)
    rw [decide_eq_true q3, Bool.true_and]
    by_cases q4 : acc * 10 + (c - 48) ≤ 1000000
    · have e5 : ((1000000 : Int) < ((acc * 10 + (c - 48) : Nat) : Int)) = False := eq_false (by omega)
      rw [decide_eq_true q4]
      walk_at "ev"
      iterate 8 ((try simp only [e1, e2, e3, e4, e5]); walk_at "ev")
      rfl
    · have e5 : ((1000000 : Int) < ((acc * 10 + (c - 48) : Nat) : Int)) = True := eq_true (by omega)
      rw [decide_eq_false q4]
      walk_at "ev"
      iterate 8 ((try simp only [e1, e2, e3, e4, e5]); walk_at "ev")
      rfl
theorem mWhile_brk {t : M Bool} {body : M Fl} {n : Nat} {δ δ1 : Dl} (h1 : t δ = .ok true δ) (h2 : body δ = .ok .bk δ1) : mWhile t body (n + 1) δ = .ok .nx δ1 := by
  rw [mWhile]
  simp only [h1, h2, DL.bind_ok, if_true]
theorem dist_w {L : List Nat} {k : Nat} (hL : L.length ≤ 16777216) : ∀ (r : List Nat) (acc e : Nat) (o : Option D), L.drop e = r → ∃ o', mWhile b_scan_distance_C1 b_scan_distance_L1 (r.length + 1) (stD L k acc e o) = .ok .nx (stD L k (dst r acc).1 (e + (dst r acc).2) o')
  | [], acc, e, o, hd => ⟨o, mWhile_end (dist_n hL hd)⟩
  | c :: r, acc, e, o, hd => by
    have hd : L.drop e = c :: r := hd
    have t := dist_c (k := k) (acc := acc) (o := o) hL hd
    by_cases hc : 48 ≤ c ∧ c ≤ 57
    · rw [decide_eq_true hc] at t
      obtain ⟨o1, b1⟩ := body_t (k := k) (acc := acc) (o := o) hL hd hc.1 hc.2
      cases q : tak c acc with
      | true =>
        rw [q, if_pos rfl] at b1
        obtain ⟨o2, w⟩ := dist_w hL r (acc * 10 + (c - 48)) (e + 1) o1 (drop_cons hd).2.2
        refine ⟨o2, ?_⟩
        rw [List.length_cons, mWhile_turn t b1, w, dst, if_pos q]
        congr 2
        show e + 1 + _ = e + (_ + 1)
        omega
      | false =>
        rw [q, if_neg Bool.false_ne_true] at b1
        refine ⟨o1, ?_⟩
        rw [mWhile_brk t b1, dst, q, if_neg Bool.false_ne_true]
        rfl
    · rw [decide_eq_false hc] at t
      refine ⟨o, ?_⟩
      have q : tak c acc = false := by unfold tak; rw [decide_eq_false hc, Bool.false_and]
      rw [mWhile_end t, dst, q, if_neg Bool.false_ne_true]
      rfl
/-- what a scan gives -/
inductive Pr (α : Type) where
  | ok (v : α) (n : Nat)
  | er (n : Nat)
def rP {α : Type} (f : α → D) (k : Nat) : Pr α → Dl → R D
  | .ok v n, δ => .ok (.tuple [f v, .int ((k + n : Nat) : Int)]) δ
  | .er n, δ => .ex 0 (.int ((k + n : Nat) : Int)) δ
def dstP (r : List Nat) : Pr Nat := if (dst r 0).1 = 0 then .er (dst r 0).2 else .ok (dst r 0).1 (dst r 0).2
theorem dst_le : ∀ (r : List Nat) (acc : Nat), (dst r acc).2 ≤ r.length
  | [], acc => Nat.le_refl _
  | c :: r, acc => by
    rw [dst]
    have := dst_le r (acc * 10 + (c - 48))
    split
    · show _ + 1 ≤ _ + 1
      omega
    · exact Nat.zero_le _
theorem tI_nat {n : Nat} (h : n < 1000) : tInt (.int (n : Int)) = true := by
  simp only [tInt, Bool.and_eq_true, decide_eq_true_eq]
  omega
theorem dist_eq {L : List Nat} {k : Nat} (hL : L.length ≤ 200) (hk : k ≤ L.length) : ∃ δ, m_scan_distance [.str (S L), .int k] = rP (fun v : Nat => .int v) k (dstP (L.drop k)) δ := by
  obtain ⟨o, w⟩ := dist_w (k := k) (L := L) (by omega) (L.drop k) 0 k none rfl
  have w := mWhile_get w
  have w : mWhileS b_scan_distance_C1 b_scan_distance_L1 [.val (.str (S L)), .val (.int k), .val (.int 0), .val (.int k), .non] = _ := w
  have hle := dst_le (L.drop k) 0
  rw [List.length_drop] at hle
  have tI : tInt (.int ((k + (dst (L.drop k) 0).2 : Nat) : Int)) = true := tI_nat (by omega)
  unfold dstP
  generalize dst (L.drop k) 0 = q at w hle tI ⊢
  obtain ⟨v, n⟩ := q
  by_cases h0 : v = 0
  · subst h0
    refine ⟨stD L k 0 (k + n) o, ?_⟩
    rw [if_pos rfl]
    unfold m_scan_distance b_scan_distance rP
    walk_at "ev"
    simp only [w, stD]
    have e1 : ((((0 : Nat) : Int)) = 0) = True := eq_true rfl
    iterate 5 ((try simp only [e1, tI]); walk_at "ev")
  · have e1 : ((v : Int) = 0) = False := eq_false (by omega)
    have e2 := tup_ok (xs := [.int v, .int ((k + n : Nat) : Int)]) (by simp)
    refine ⟨[], ?_⟩
    rw [if_neg h0]
    unfold m_scan_distance b_scan_distance rP
    walk_at "ev"
    simp only [w, stD]
    iterate 5 ((try simp only [e1, e2]); walk_at "ev")
end K03
end Part_QB

section Part_QC
set_option Elab.async false
set_option linter.all false
set_option maxRecDepth 100000
set_option autoImplicit false
set_option maxHeartbeats 2000000
namespace K03
open PySem PySem.Spec PyProof.Rows L2 DL SX
local macro_rules | `(tactic| walk_at "ev") => `(tactic| try simp -implicitDefEqProofs only [mDef, mSeq, mIf, mT, mTr, mOp, mUn, mVar, mC, mCall, mCons, mNil, mRet, mSkip, mAsg, mSl, mPart, mNoPart, mAndT, mOrT, mNotT, mAnd, mOr, mNot, mIfE, mChain, mIs, mIs2, mOf, mNew, mCallF, mM1, mM0, mIxM, mLenM, mApp, mSetM, mSetIx, mAug, mFrz, mForS, mRng1, mRng2, mItems, setV_zn, setV_zv, setV_zo, setV_succ, setM, frz, setT2, mBk, mCt, mNo, 
  DL.bind_ok, DL.bind_no, DL.bind_ite, lift_some, lift_none, List.map_cons, List.map_nil, List.length_cons, List.length_nil, List.replicate_succ, List.replicate_zero, List.cons_append, List.nil_append, List.append_nil, List.getElem?_cons_zero, List.getElem?_cons_succ, List.set_cons_zero, List.set_cons_succ, Nat.reduceAdd, Nat.reduceSub, Nat.zero_add, Nat.sub_self, decide_eq_true_eq,
  add_ii, sub_ii, neg_i, mul_r, mul_l, div_s, mod_s, eq_ii, ne_ii, eq_bb, ne_bb, lt_ii, gt_ii, le_ii, ge_ii, len_l, len_t, int_i, int_b, abs_i, max_ii, min_ii, tuple_l, ix_l, ix_t, tr_b, Nat.reduceLeDiff, if_true, if_false, Option.map_some, Option.bind_some, reduceIte, Int.reduceLT, Int.reduceNeg, Int.reduceMul, Nat.reduceLT, Nat.le_refl, LINE, Bool.false_eq_true, Bool.not_true, Bool.not_false, Bool.true_eq_false, e_nn, e_tn, e_tt, e_sn, e_st, e_ss, e_ln, e_lt, e_ls, is_bool_n, is_bool_t, is_bool_s, is_bool_l, is_int_n, is_int_t, is_int_s, is_int_l, is_str_n, is_str_t, is_str_s, is_str_l, is_tuple_n, is_tuple_t, is_tuple_s, is_tuple_l, is_list_n, is_list_t, is_list_s, is_list_l, Bool.false_or, Bool.true_or, Bool.or_true, Bool.or_false, c_QUOTE, c_SIGNS, c_DIGITS, c_NUMBER_LIMIT, c_TEXT_LIMIT, c_LIST_LIMIT, dItems, mCallE, mDefE, mRaise, mTryR, t_Malformed, DL.R.bind_ex])
local macro_rules | `(tactic| walk_at "ev*") => `(tactic| try simp -implicitDefEqProofs only [mDef, mSeq, mIf, mT, mTr, mOp, mUn, mVar, mC, mCall, mCons, mNil, mRet, mSkip, mAsg, mSl, mPart, mNoPart, mAndT, mOrT, mNotT, mAnd, mOr, mNot, mIfE, mChain, mIs, mIs2, mOf, mNew, mCallF, mM1, mM0, mIxM, mLenM, mApp, mSetM, mSetIx, mAug, mFrz, mForS, mRng1, mRng2, mItems, setV_zn, setV_zv, setV_zo, setV_succ, setM, frz, setT2, mBk, mCt, mNo, 
  DL.bind_ok, DL.bind_no, DL.bind_ite, lift_some, lift_none, List.map_cons, List.map_nil, List.length_cons, List.length_nil, List.replicate_succ, List.replicate_zero, List.cons_append, List.nil_append, List.append_nil, List.getElem?_cons_zero, List.getElem?_cons_succ, List.set_cons_zero, List.set_cons_succ, Nat.reduceAdd, Nat.reduceSub, Nat.zero_add, Nat.sub_self, decide_eq_true_eq,
  add_ii, sub_ii, neg_i, mul_r, mul_l, div_s, mod_s, eq_ii, ne_ii, eq_bb, ne_bb, lt_ii, gt_ii, le_ii, ge_ii, len_l, len_t, int_i, int_b, abs_i, max_ii, min_ii, tuple_l, ix_l, ix_t, tr_b, Nat.reduceLeDiff, if_true, if_false, Option.map_some, Option.bind_some, reduceIte, Int.reduceLT, Int.reduceNeg, Int.reduceMul, Nat.reduceLT, Nat.le_refl, LINE, Bool.false_eq_true, Bool.not_true, Bool.not_false, Bool.true_eq_false, e_nn, e_tn, e_tt, e_sn, e_st, e_ss, e_ln, e_lt, e_ls, is_bool_n, is_bool_t, is_bool_s, is_bool_l, is_int_n, is_int_t, is_int_s, is_int_l, is_str_n, is_str_t, is_str_s, is_str_l, is_tuple_n, is_tuple_t, is_tuple_s, is_tuple_l, is_list_n, is_list_t, is_list_s, is_list_l, Bool.false_or, Bool.true_or, Bool.or_true, Bool.or_false, c_QUOTE, c_SIGNS, c_DIGITS, c_NUMBER_LIMIT, c_TEXT_LIMIT, c_LIST_LIMIT, dItems, mCallE, mDefE, mRaise, mTryR, t_Malformed, DL.R.bind_ex, *])
def negP : Pr Nat → Pr Int
  | .ok v n => .ok (-(v : Int)) (1 + n)
  | .er n => .er (1 + n)
def posP : Pr Nat → Pr Int
  | .ok v n => .ok v n
  | .er n => .er n
def numP (R : List Nat) : Pr Int := if R.head? = some 48 then .ok 0 1 else if R.head? = some 45 then negP (dstP (R.drop 1)) else posP (dstP R)
/-- the sign at a place, against a sign d -/
theorem sign_at {L : List Nat} {k d : Nat} (hL : L.length ≤ 200) (hc : ∀ c ∈ L, c < 1000) (hd : d < 1000) : ∃ l : List Nat, dSl (.str (S L)) (some (k : Int)) (some ((k : Int) + 1)) = some (.str (S l)) ∧ dEq (.str (S l)) (.str (S [d])) = some (.bool (decide ((L.drop k).head? = some d))) ∧ dNe (.str (S l)) (.str (S [d])) = some (.bool (!decide ((L.drop k).head? = some d))) := by
  cases q : L.drop k with
  | nil => exact ⟨[], sl1n (by omega) q, by rw [eqn hd]; rfl, by rw [nen hd]; rfl⟩
  | cons c r =>
    have h : c < 1000 := hc c (List.mem_of_mem_drop (by rw [q]; exact List.mem_cons_self))
    refine ⟨[c], sl1 (by omega) q, ?_, ?_⟩
    · rw [eq1 h hd]
      congr 2
      exact decide_eq_decide.mpr (by simp)
    · rw [ne1 h hd]
      congr 3
      exact decide_eq_decide.mpr (by simp)
/-- the same text, against several signs -/
theorem sign_tx {L : List Nat} {k : Nat} (hL : L.length ≤ 200) (hc : ∀ c ∈ L, c < 1000) : ∃ l : List Nat, dSl (.str (S L)) (some (k : Int)) (some ((k : Int) + 1)) = some (.str (S l)) ∧ ∀ d, d < 1000 → dEq (.str (S l)) (.str (S [d])) = some (.bool (decide ((L.drop k).head? = some d))) ∧ dNe (.str (S l)) (.str (S [d])) = some (.bool (!decide ((L.drop k).head? = some d))) := by
  obtain ⟨l, e, _⟩ := sign_at (k := k) hL hc (d := 0) (by decide)
  refine ⟨l, e, fun d hd => ?_⟩
  obtain ⟨l', e', h⟩ := sign_at (k := k) hL hc hd
  have := e.symm.trans e'
  have z : S l = S l' := by
    have := Option.some.inj this
    cases this
    rfl
  rw [z]
  exact h
theorem number_eq' {L : List Nat} {k : Nat} (hL : L.length ≤ 200) (hc : ∀ c ∈ L, c < 1000) (hk : k ≤ L.length) : ∃ δ, m_scan_number [.str (S L), .int k] = rP PyData.int k (numP (L.drop k)) δ := by
  obtain ⟨l, f1, f2⟩ := sign_tx (k := k) hL hc
  have f3 := (f2 48 (by decide)).1
  have f4 := (f2 45 (by decide)).1
  unfold numP
  by_cases h1 : (L.drop k).head? = some 48
  · have e3 := tup_ok (xs := [.int 0, .int ((k : Int) + 1)]) (by simp)
    rw [decide_eq_true h1] at f3
    rw [if_pos h1]
    refine ⟨[], ?_⟩
    unfold m_scan_number b_scan_number rP
    iterate 6 ((try simp only [f1, f3, e3, zero_S]); walk_at "ev")
    rfl
  · rw [decide_eq_false h1] at f3
    rw [if_neg h1]
    by_cases h2 : (L.drop k).head? = some 45
    · rw [decide_eq_true h2] at f4
      rw [if_pos h2]
      have hk1 : k + 1 ≤ L.length := by
        cases q : L.drop k with
        | nil => rw [q] at h2; cases h2
        | cons c r => exact (drop_cons q).1
      obtain ⟨δ, e5⟩ := dist_eq (k := k + 1) hL hk1
      rw [← List.drop_drop] at e5
      have e5 : m_scan_distance [.str (S L), .int ((k : Int) + 1)] = _ := e5
      cases q : dstP ((L.drop k).drop 1) with
      | ok v n =>
        rw [q] at e5
        have e6 := tup_ok (xs := [.int (-(v : Int)), .int ((k + 1 + n : Nat) : Int)]) (by simp)
        refine ⟨[], ?_⟩
        unfold m_scan_number b_scan_number
        unfold rP at e5
        iterate 8 ((try simp only [f1, f3, f4, zero_S, minus_S, e5, e6]); walk_at "ev")
        show _ = R.ok (PyData.tuple [.int (-(v : Int)), .int ((k + (1 + n) : Nat) : Int)]) []
        rw [← Nat.add_assoc]
      | er n =>
        rw [q] at e5
        refine ⟨[.val (.str (S L)), .val (.int k), .non, .non], ?_⟩
        unfold m_scan_number b_scan_number
        unfold rP at e5
        iterate 8 ((try simp only [f1, f3, f4, zero_S, minus_S, e5]); walk_at "ev")
        show _ = R.ex 0 (PyData.int ((k + (1 + n) : Nat) : Int)) _
        rw [← Nat.add_assoc]
    · rw [decide_eq_false h2] at f4
      rw [if_neg h2]
      obtain ⟨δ, e5⟩ := dist_eq (k := k) hL hk
      cases q : dstP (L.drop k) with
      | ok v n =>
        rw [q] at e5
        refine ⟨[], ?_⟩
        unfold m_scan_number b_scan_number
        unfold rP at e5
        iterate 8 ((try simp only [f1, f3, f4, zero_S, minus_S, e5]); walk_at "ev")
        rfl
      | er n =>
        rw [q] at e5
        refine ⟨[.val (.str (S L)), .val (.int k), .non, .non], ?_⟩
        unfold m_scan_number b_scan_number
        unfold rP at e5
        iterate 8 ((try simp only [f1, f3, f4, zero_S, minus_S, e5]); walk_at "ev")
        rfl
/-! ### words -/
def com : List Nat → List Nat → Nat
  | [], _ => 0
  | w :: W, r => if r.head? = some w then com W (r.drop 1) + 1 else 0
def comP (W r : List Nat) : Pr Unit := if com W r = W.length then .ok () W.length else .er (com W r)
theorem com_le : ∀ (W r : List Nat), com W r ≤ W.length
  | [], _ => Nat.le_refl _
  | w :: W, r => by
    rw [com]
    have := com_le W (r.drop 1)
    split
    · rw [List.length_cons]; omega
    · exact Nat.zero_le _
def intsFrom : Nat → Nat → List D
  | _, 0 => []
  | i, m + 1 => .int (i : Int) :: intsFrom (i + 1) m
theorem rng_ints : ∀ (m i : Nat), rng (i : Int) ((i + m : Nat) : Int) = intsFrom i m := by
  intro m
  induction m with
  | zero =>
    intro i
    unfold rng
    rw [show (((i + 0 : Nat) : Int) - (i : Int)).toNat = 0 by omega]
    rfl
  | succ m ih =>
    intro i
    rw [intsFrom, ← ih (i + 1)]
    unfold rng
    rw [show (((i + (m + 1) : Nat) : Int) - (i : Int)).toNat = m + 1 by omega, show (((i + 1 + m : Nat) : Int) - ((i + 1 : Nat) : Int)).toNat = m by omega, List.range_succ_eq_map, List.map_cons, List.map_map]
    congr 1
    apply List.map_congr_left
    intro a _
    show PyData.int ((i : Int) + ((a + 1 : Nat) : Int)) = PyData.int (((i + 1 : Nat) : Int) + (a : Int))
    congr 1
    omega
theorem behind_w {L W : List Nat} {k : Nat} (hL : L.length ≤ 200) (hc : ∀ c ∈ L, c < 1000) (hW : ∀ c ∈ W, c < 1000) (hl : W.length ≤ 100) (hk : k ≤ L.length) : ∀ (V : List Nat) (i : Nat) (o : Option D), W.drop i = V →
    (com V (L.drop (k + i)) = V.length → ∃ o', mFor (setV 3) b_index_behind_L1 (intsFrom i V.length) [.val (.str (S L)), .val (.int k), .val (.str (S W)), cO o] = .ok .nx [.val (.str (S L)), .val (.int k), .val (.str (S W)), cO o']) ∧
    (com V (L.drop (k + i)) ≠ V.length → ∃ δ, mFor (setV 3) b_index_behind_L1 (intsFrom i V.length) [.val (.str (S L)), .val (.int k), .val (.str (S W)), cO o] = .ex 0 (.int ((k + i + com V (L.drop (k + i)) : Nat) : Int)) δ)
  | [], i, o, hV => ⟨fun _ => ⟨o, rfl⟩, fun z => absurd rfl z⟩
  | w :: V, i, o, hV => by
    obtain ⟨h1, h2, h3⟩ := drop_cons hV
    obtain ⟨l, f1, f2⟩ := sign_tx (k := k + i) hL hc
    have hw : w < 1000 := hW w (List.mem_of_getElem? h2)
    have f3 := (f2 w hw).2
    have f1 : dSl (.str (S L)) (some ((k : Int) + (i : Int))) (some ((k : Int) + (i : Int) + 1)) = _ := f1
    have f4 : dIx (.str (S W)) (.int i) = some (.str (S [w])) := by rw [ix_S (by omega), h2]; rfl
    by_cases q : (L.drop (k + i)).head? = some w
    · rw [decide_eq_true q] at f3
      have ih := behind_w hL hc hW hl hk V (i + 1) (some (.int i)) h3
      have ed : L.drop (k + (i + 1)) = (L.drop (k + i)).drop 1 := by rw [List.drop_drop, Nat.add_assoc]
      rw [ed] at ih
      have st : ∀ r, mFor (setV 3) b_index_behind_L1 (.int (i : Int) :: r) [.val (.str (S L)), .val (.int k), .val (.str (S W)), cO o] = mFor (setV 3) b_index_behind_L1 r [.val (.str (S L)), .val (.int k), .val (.str (S W)), cO (some (.int i))] := by
        intro r
        rw [mFor]
        unfold b_index_behind_L1
        iterate 8 ((try simp only [f1, f3, f4]); walk_at "ev")
        rfl
      rw [com, if_pos q, List.length_cons, intsFrom, st]
      refine ⟨fun z => ih.1 (by omega), fun z => ?_⟩
      obtain ⟨δ, e⟩ := ih.2 (by omega)
      refine ⟨δ, ?_⟩
      rw [e]
      congr 2
      omega
    · rw [decide_eq_false q] at f3
      have tI : tInt (.int ((k : Int) + (i : Int))) = true := tI_nat (n := k + i) (by omega)
      rw [com, if_neg q, List.length_cons, intsFrom]
      refine ⟨fun z => absurd z (by omega), fun _ => ⟨[.val (.str (S L)), .val (.int k), .val (.str (S W)), .val (.int i)], ?_⟩⟩
      rw [mFor]
      unfold b_index_behind_L1
      iterate 8 ((try simp only [f1, f3, f4, tI]); walk_at "ev")
      rfl
theorem behind_eq {L W : List Nat} {k : Nat} (hL : L.length ≤ 200) (hc : ∀ c ∈ L, c < 1000) (hW : ∀ c ∈ W, c < 1000) (hl : W.length ≤ 100) (hk : k ≤ L.length) :
    (com W (L.drop k) = W.length → m_index_behind [.str (S L), .int k, .str (S W)] = .ok (.int ((k + W.length : Nat) : Int)) []) ∧ (com W (L.drop k) ≠ W.length → ∃ δ, m_index_behind [.str (S L), .int k, .str (S W)] = .ex 0 (.int ((k + com W (L.drop k) : Nat) : Int)) δ) := by
  have g1 := len_S (l := W) (by omega)
  have g2 := big_of (i := W.length) (by omega) (by omega)
  have g3 : rng 0 (W.length : Int) = intsFrom 0 W.length := by
    have := rng_ints W.length 0
    rw [Nat.zero_add] at this
    exact this
  have h := behind_w hL hc hW hl hk W 0 none rfl
  rw [Nat.add_zero] at h
  refine ⟨fun z => ?_, fun z => ?_⟩
  · obtain ⟨o, e⟩ := h.1 z
    have e : mFor (setV 3) b_index_behind_L1 (intsFrom 0 W.length) [.val (.str (S L)), .val (.int k), .val (.str (S W)), .non] = _ := e
    unfold m_index_behind b_index_behind
    iterate 8 ((try simp only [g1, g2, g3, e]); walk_at "ev")
    rfl
  · obtain ⟨δ, e⟩ := h.2 z
    have e : mFor (setV 3) b_index_behind_L1 (intsFrom 0 W.length) [.val (.str (S L)), .val (.int k), .val (.str (S W)), .non] = _ := e
    refine ⟨δ, ?_⟩
    unfold m_index_behind b_index_behind
    iterate 8 ((try simp only [g1, g2, g3, e]); walk_at "ev")
end K03
end Part_QC

section Part_QD
set_option Elab.async false
set_option linter.all false
set_option maxRecDepth 100000
set_option autoImplicit false
set_option maxHeartbeats 2000000
namespace K03
open PySem PySem.Spec PyProof.Rows L2 DL SX
local macro_rules | `(tactic| walk_at "ev") => `(tactic| try simp -implicitDefEqProofs only [mDef, mSeq, mIf, mT, mTr, mOp, mUn, mVar, mC, mCall, mCons, mNil, mRet, mSkip, mAsg, mSl, mPart, mNoPart, mAndT, mOrT, mNotT, mAnd, mOr, mNot, mIfE, mChain, mIs, mIs2, mOf, mNew, mCallF, mM1, mM0, mIxM, mLenM, mApp, mSetM, mSetIx, mAug, mFrz, mForS, mRng1, mRng2, mItems, setV_zn, setV_zv, setV_zo, setV_succ, setM, frz, setT2, mBk, mCt, mNo, 
  DL.bind_ok, DL.bind_no, DL.bind_ite, lift_some, lift_none, List.map_cons, List.map_nil, List.length_cons, List.length_nil, List.replicate_succ, List.replicate_zero, List.cons_append, List.nil_append, List.append_nil, List.getElem?_cons_zero, List.getElem?_cons_succ, List.set_cons_zero, List.set_cons_succ, Nat.reduceAdd, Nat.reduceSub, Nat.zero_add, Nat.sub_self, decide_eq_true_eq,
  add_ii, sub_ii, neg_i, mul_r, mul_l, div_s, mod_s, eq_ii, ne_ii, eq_bb, ne_bb, lt_ii, gt_ii, le_ii, ge_ii, len_l, len_t, int_i, int_b, abs_i, max_ii, min_ii, tuple_l, ix_l, ix_t, tr_b, Nat.reduceLeDiff, if_true, if_false, Option.map_some, Option.bind_some, reduceIte, Int.reduceLT, Int.reduceNeg, Int.reduceMul, Nat.reduceLT, Nat.le_refl, LINE, Bool.false_eq_true, Bool.not_true, Bool.not_false, Bool.true_eq_false, e_nn, e_tn, e_tt, e_sn, e_st, e_ss, e_ln, e_lt, e_ls, is_bool_n, is_bool_t, is_bool_s, is_bool_l, is_int_n, is_int_t, is_int_s, is_int_l, is_str_n, is_str_t, is_str_s, is_str_l, is_tuple_n, is_tuple_t, is_tuple_s, is_tuple_l, is_list_n, is_list_t, is_list_s, is_list_l, Bool.false_or, Bool.true_or, Bool.or_true, Bool.or_false, c_QUOTE, c_SIGNS, c_DIGITS, c_NUMBER_LIMIT, c_TEXT_LIMIT, c_LIST_LIMIT, dItems, mCallE, mDefE, mRaise, mTryR, t_Malformed, DL.R.bind_ex])
local macro_rules | `(tactic| walk_at "ev*") => `(tactic| try simp -implicitDefEqProofs only [mDef, mSeq, mIf, mT, mTr, mOp, mUn, mVar, mC, mCall, mCons, mNil, mRet, mSkip, mAsg, mSl, mPart, mNoPart, mAndT, mOrT, mNotT, mAnd, mOr, mNot, mIfE, mChain, mIs, mIs2, mOf, mNew, mCallF, mM1, mM0, mIxM, mLenM, mApp, mSetM, mSetIx, mAug, mFrz, mForS, mRng1, mRng2, mItems, setV_zn, setV_zv, setV_zo, setV_succ, setM, frz, setT2, mBk, mCt, mNo, 
  DL.bind_ok, DL.bind_no, DL.bind_ite, lift_some, lift_none, List.map_cons, List.map_nil, List.length_cons, List.length_nil, List.replicate_succ, List.replicate_zero, List.cons_append, List.nil_append, List.append_nil, List.getElem?_cons_zero, List.getElem?_cons_succ, List.set_cons_zero, List.set_cons_succ, Nat.reduceAdd, Nat.reduceSub, Nat.zero_add, Nat.sub_self, decide_eq_true_eq,
  add_ii, sub_ii, neg_i, mul_r, mul_l, div_s, mod_s, eq_ii, ne_ii, eq_bb, ne_bb, lt_ii, gt_ii, le_ii, ge_ii, len_l, len_t, int_i, int_b, abs_i, max_ii, min_ii, tuple_l, ix_l, ix_t, tr_b, Nat.reduceLeDiff, if_true, if_false, Option.map_some, Option.bind_some, reduceIte, Int.reduceLT, Int.reduceNeg, Int.reduceMul, Nat.reduceLT, Nat.le_refl, LINE, Bool.false_eq_true, Bool.not_true, Bool.not_false, Bool.true_eq_false, e_nn, e_tn, e_tt, e_sn, e_st, e_ss, e_ln, e_lt, e_ls, is_bool_n, is_bool_t, is_bool_s, is_bool_l, is_int_n, is_int_t, is_int_s, is_int_l, is_str_n, is_str_t, is_str_s, is_str_l, is_tuple_n, is_tuple_t, is_tuple_s, is_tuple_l, is_list_n, is_list_t, is_list_s, is_list_l, Bool.false_or, Bool.true_or, Bool.or_true, Bool.or_false, c_QUOTE, c_SIGNS, c_DIGITS, c_NUMBER_LIMIT, c_TEXT_LIMIT, c_LIST_LIMIT, dItems, mCallE, mDefE, mRaise, mTryR, t_Malformed, DL.R.bind_ex, *])
def stT (L : List Nat) (k e : Nat) : Dl := [.val (.str (S L)), .val (.int k), .val (.int e)]
theorem text_c {L r : List Nat} {k e c : Nat} (hL : L.length ≤ 16777216) (hk : k ≤ e) (h : L.drop e = c :: r) : b_scan_text_C1 (stT L k e) = .ok (decide (e - k < 30) && decide (c ∈ AL)) (stT L k e) := by
  obtain ⟨h1, h2, h3⟩ := drop_cons h
  have e0 := len_S hL
  have e1 : dIx (.str (S L)) (.int e) = some (.str (S [c])) := by rw [ix_S hL, h2]; rfl
  have e2 := in_S c AL
  have e3 : ((e : Int) < L.length) = True := eq_true (by omega)
  have e4 : ((e : Int) - (k : Int) < 30) = (e - k < 30) := propext (by omega)
  unfold b_scan_text_C1 stT
  walk_at "ev"
  simp only [signs_S]
  iterate 6 ((try simp only [e0, e1, e2, e3, e4]); walk_at "ev")
  by_cases q : e - k < 30
  · rw [if_pos q, decide_eq_true q]
    rfl
  · rw [if_neg q, decide_eq_false q]
    rfl
theorem text_b {L : List Nat} {k e : Nat} : b_scan_text_L1 (stT L k e) = .ok .nx (stT L k (e + 1)) := by
  unfold b_scan_text_L1 stT
  walk_at "ev"
  rfl

theorem text_n {L : List Nat} {k e : Nat} (hL : L.length ≤ 16777216) (h : L.drop e = []) : b_scan_text_C1 (stT L k e) = .ok false (stT L k e) := by
  have h1 := drop_nil h
  have e0 := len_S hL
  have e3 : ((e : Int) < L.length) = False := eq_false (by omega)
  unfold b_scan_text_C1 stT
  walk_at "ev"
  iterate 3 ((try simp only [e0, e3]); walk_at "ev")
def txt : Nat → List Nat → Nat
  | 0, _ => 0
  | _ + 1, [] => 0
  | n + 1, c :: r => if c ∈ AL then txt n r + 1 else 0
theorem txt_le : ∀ (n : Nat) (r : List Nat), txt n r ≤ r.length ∧ txt n r ≤ n
  | 0, r => ⟨Nat.zero_le _, Nat.le_refl _⟩
  | n + 1, [] => ⟨Nat.le_refl _, Nat.zero_le _⟩
  | n + 1, c :: r => by
    have := txt_le n r
    rw [txt]
    split
    · rw [List.length_cons]; omega
    · exact ⟨Nat.zero_le _, Nat.zero_le _⟩
theorem text_w {L : List Nat} {k : Nat} (hL : L.length ≤ 16777216) : ∀ (r : List Nat) (n e : Nat), k ≤ e → e - k + n = 30 → L.drop e = r → mWhile b_scan_text_C1 b_scan_text_L1 (r.length + 1) (stT L k e) = .ok .nx (stT L k (e + txt n r))
  | [], n, e, hk, h, hd => by
    have : txt n [] = 0 := by cases n <;> rfl
    rw [this]
    exact mWhile_end (text_n hL hd)
  | c :: r, 0, e, hk, h, hd => by
    have t := text_c hL hk hd
    rw [decide_eq_false (by omega), Bool.false_and] at t
    rw [mWhile_end t]
    rfl
  | c :: r, n + 1, e, hk, h, hd => by
    have t := text_c hL hk hd
    rw [decide_eq_true (by omega), Bool.true_and] at t
    rw [txt]
    by_cases q : c ∈ AL
    · rw [decide_eq_true q] at t
      rw [List.length_cons, mWhile_turn t text_b, text_w hL r n (e + 1) (by omega) (by omega) (drop_cons hd).2.2, if_pos q]
      congr 2
      omega
    · rw [decide_eq_false q] at t
      rw [mWhile_end t, if_neg q]
      rfl
def txtP (R : List Nat) : Pr (List Nat) := if (R.drop (txt 30 R)).head? = some 34 then .ok (R.take (txt 30 R)) (txt 30 R + 1) else .er (txt 30 R)
theorem text_eq {L : List Nat} {k : Nat} (hL : L.length ≤ 200) (hc : ∀ c ∈ L, c < 1000) (hk : k ≤ L.length) : ∃ δ, m_scan_text [.str (S L), .int k] = rP (fun l => .str (S l)) k (txtP (L.drop k)) δ := by
  have w := mWhile_get (text_w (k := k) (L := L) (by omega) (L.drop k) 30 k (Nat.le_refl _) (by omega) rfl)
  have w : mWhileS b_scan_text_C1 b_scan_text_L1 [.val (.str (S L)), .val (.int k), .val (.int k)] = .ok .nx [.val (.str (S L)), .val (.int k), .val (.int ((k + txt 30 (L.drop k) : Nat) : Int))] := w
  have hp := txt_le 30 (L.drop k)
  rw [List.length_drop] at hp
  unfold txtP
  generalize txt 30 (L.drop k) = p at w hp ⊢
  have f1 := sl_S (l := L) (a := k) (b := k + p) (by omega)
  rw [Nat.add_sub_cancel_left] at f1
  have bh := behind_eq (k := k + p) (W := [34]) hL hc (by intro c hc; rw [List.mem_singleton.mp hc]; decide) (by simp) (by omega)
  have ec : com [34] (L.drop (k + p)) = if ((L.drop k).drop p).head? = some 34 then 1 else 0 := by
    rw [List.drop_drop]
    rfl
  rw [ec] at bh
  by_cases q : ((L.drop k).drop p).head? = some 34
  · rw [if_pos q] at bh ⊢
    have f2 := bh.1 rfl
    have f3 := tup_ok (xs := [.str (S ((L.drop k).take p)), .int ((k + p + 1 : Nat) : Int)]) (by simp)
    refine ⟨[], ?_⟩
    unfold m_scan_text b_scan_text rP
    walk_at "ev"
    simp only [q_S]
    iterate 6 ((try simp only [w, f1, f2, f3]); walk_at "ev")
    rfl
  · rw [if_neg q] at bh ⊢
    obtain ⟨δ, f2⟩ := bh.2 (by decide)
    rw [Nat.add_zero] at f2
    refine ⟨[.val (.str (S L)), .val (.int k), .val (.int ((k + p : Nat) : Int))], ?_⟩
    unfold m_scan_text b_scan_text rP
    walk_at "ev"
    simp only [q_S]
    iterate 6 ((try simp only [w, f1, f2]); walk_at "ev")
/-! ### lists -/
def prN {α : Type} : Pr α → Nat
  | .ok _ n => n
  | .er n => n
theorem numP_le (R : List Nat) : prN (numP R) ≤ R.length := by
  have h0 := dst_le R 0
  unfold numP
  split
  · rename_i h
    cases R with
    | nil => cases h
    | cons c r => show 1 ≤ _; rw [List.length_cons]; omega
  · split
    · rename_i h
      have h1 := dst_le (R.drop 1) 0
      rw [List.length_drop] at h1
      have h2 : 1 ≤ R.length := by
        cases R with
        | nil => cases h
        | cons c r => rw [List.length_cons]; omega
      unfold dstP
      split
      · show 1 + _ ≤ _; omega
      · show 1 + _ ≤ _; omega
    · unfold dstP
      split
      · exact h0
      · exact h0
def moreP : Nat → List Nat → Pr (List Int)
  | 0, _ => .ok [] 0
  | m + 1, R => if R.head? = some 32 then
      match numP (R.drop 1) with
      | .er n => .er (1 + n)
      | .ok v n => match moreP m (R.drop (1 + n)) with
        | .er n' => .er (1 + n + n')
        | .ok vs n' => .ok (v :: vs) (1 + n + n')
    else .ok [] 0
theorem moreP_le : ∀ (m : Nat) (R : List Nat), prN (moreP m R) ≤ R.length
  | 0, R => Nat.zero_le _
  | m + 1, R => by
    rw [moreP]
    split
    · rename_i h
      have h2 : 1 ≤ R.length := by
        cases R with
        | nil => cases h
        | cons c r => rw [List.length_cons]; omega
      have h1 := numP_le (R.drop 1)
      rw [List.length_drop] at h1
      cases q : numP (R.drop 1) with
      | er n =>
        rw [q] at h1
        have h1 : n ≤ R.length - 1 := h1
        show 1 + n ≤ _
        omega
      | ok v n =>
        rw [q] at h1
        have h1 : n ≤ R.length - 1 := h1
        have h3 := moreP_le m (R.drop (1 + n))
        rw [List.length_drop] at h3
        dsimp only
        cases q2 : moreP m (R.drop (1 + n)) with
        | er n' =>
          rw [q2] at h3
          have h3 : n' ≤ _ := h3
          show 1 + n + n' ≤ _
          omega
        | ok vs n' =>
          rw [q2] at h3
          have h3 : n' ≤ _ := h3
          show 1 + n + n' ≤ _
          omega
    · exact Nat.zero_le _
def stL (L : List Nat) (k : Nat) (i : Int) (e : Nat) (ms : List Int) : Dl := [.val (.str (S L)), .val (.int k), .val (.int i), .val (.int e), .var false (ms.map .int)]
theorem list_c {L : List Nat} {k e : Nat} {i : Int} {ms : List Int} (hL : L.length ≤ 200) (hc : ∀ c ∈ L, c < 1000) : b_scan_list_C1 (stL L k i e ms) = .ok (decide (ms.length < 12) && decide ((L.drop e).head? = some 32)) (stL L k i e ms) := by
  obtain ⟨l, f1, f2⟩ := sign_tx (k := e) hL hc
  have f2 := (f2 32 (by decide)).1
  unfold b_scan_list_C1 stL
  walk_at "ev"
  simp only [sp_S, List.length_map]
  have e4 : ((ms.length : Int) < 12) = (ms.length < 12) := propext (by omega)
  iterate 6 ((try simp only [f1, f2, e4]); walk_at "ev")
  by_cases q : ms.length < 12
  · rw [if_pos q, decide_eq_true q]
    rfl
  · rw [if_neg q, decide_eq_false q]
    rfl
theorem list_b {L : List Nat} {k e : Nat} {i : Int} {ms : List Int} (hL : L.length ≤ 200) (hc : ∀ c ∈ L, c < 1000) (hm : ms.length ≤ 12) (he : e + 1 ≤ L.length) :
    (∀ j n, numP (L.drop (e + 1)) = .ok j n → b_scan_list_L1 (stL L k i e ms) = .ok .nx (stL L k j (e + 1 + n) (ms ++ [j]))) ∧ (∀ n, numP (L.drop (e + 1)) = .er n → ∃ δ, b_scan_list_L1 (stL L k i e ms) = .ex 0 (.int ((e + 1 + n : Nat) : Int)) δ) := by
  obtain ⟨δ, f1⟩ := number_eq' (k := e + 1) hL hc he
  have f1 : m_scan_number [.str (S L), .int ((e : Int) + 1)] = _ := f1
  have f2 : ((ms.map PyData.int).length < 16777216) = True := eq_true (by rw [List.length_map]; omega)
  refine ⟨fun j n q => ?_, fun n q => ⟨stL L k i e ms, ?_⟩⟩
  · rw [q] at f1
    unfold rP at f1
    unfold b_scan_list_L1 stL
    iterate 6 ((try simp only [f1, f2]); walk_at "ev")
    rw [List.map_append]
    rfl
  · rw [q] at f1
    unfold rP at f1
    unfold b_scan_list_L1 stL
    iterate 6 ((try simp only [f1, f2]); walk_at "ev")
theorem mWhile_ex {t : M Bool} {body : M Fl} {n c : Nat} {d : D} {δ δ1 : Dl} (h1 : t δ = .ok true δ) (h2 : body δ = .ex c d δ1) : mWhile t body (n + 1) δ = .ex c d δ1 := by
  rw [mWhile]
  simp only [h1, h2, DL.bind_ok, DL.R.bind_ex, if_true]
theorem list_w {L : List Nat} {k : Nat} (hL : L.length ≤ 200) (hc : ∀ c ∈ L, c < 1000) : ∀ (m : Nat) (i : Int) (e : Nat) (ms : List Int), ms.length + m = 12 → e ≤ L.length →
    (∀ vs n, moreP m (L.drop e) = .ok vs n → ∃ j, mWhile b_scan_list_C1 b_scan_list_L1 (m + 1) (stL L k i e ms) = .ok .nx (stL L k j (e + n) (ms ++ vs))) ∧ (∀ n, moreP m (L.drop e) = .er n → ∃ δ, mWhile b_scan_list_C1 b_scan_list_L1 (m + 1) (stL L k i e ms) = .ex 0 (.int ((e + n : Nat) : Int)) δ)
  | 0, i, e, ms, hm, he => by
    have t := list_c (k := k) (i := i) (e := e) (ms := ms) hL hc
    rw [decide_eq_false (by omega), Bool.false_and] at t
    refine ⟨fun vs n q => ?_, fun n q => by cases q⟩
    cases q
    exact ⟨i, by rw [mWhile_end t, List.append_nil]; rfl⟩
  | m + 1, i, e, ms, hm, he => by
    have t := list_c (k := k) (i := i) (e := e) (ms := ms) hL hc
    rw [decide_eq_true (by omega), Bool.true_and] at t
    rw [moreP]
    by_cases h : (L.drop e).head? = some 32
    · rw [decide_eq_true h] at t
      rw [if_pos h, List.drop_drop, ]
      have he1 : e + 1 ≤ L.length := by
        cases q : L.drop e with
        | nil => rw [q] at h; cases h
        | cons c r => exact (drop_cons q).1
      obtain ⟨b1, b2⟩ := list_b (k := k) (i := i) (ms := ms) hL hc (by omega) he1
      have hle := numP_le (L.drop (e + 1))
      rw [List.length_drop] at hle
      cases q : numP (L.drop (e + 1)) with
      | er n =>
        refine ⟨fun vs n q => (by cases q), fun n' q' => ?_⟩
        cases q'
        obtain ⟨δ, b⟩ := b2 n q
        refine ⟨δ, ?_⟩
        rw [mWhile_ex t b, Nat.add_assoc]
      | ok v n =>
        rw [q] at hle
        have hle : n ≤ L.length - (e + 1) := hle
        have b := b1 v n q
        have ih := list_w (k := k) hL hc m v (e + 1 + n) (ms ++ [v]) (by rw [List.length_append, List.length_singleton]; omega) (by omega)
        dsimp only
        rw [List.drop_drop, show e + (1 + n) = e + 1 + n by omega]
        rw [mWhile_turn t b]
        cases q2 : moreP m (L.drop (e + 1 + n)) with
        | er n' =>
          refine ⟨fun vs n q => (by cases q), fun n'' q' => ?_⟩
          cases q'
          obtain ⟨δ, w⟩ := ih.2 n' q2
          refine ⟨δ, ?_⟩
          rw [w]
          congr 2
          omega
        | ok vs n' =>
          refine ⟨fun vs' n'' q' => ?_, fun n q => (by cases q)⟩
          cases q'
          obtain ⟨j, w⟩ := ih.1 vs n' q2
          refine ⟨j, ?_⟩
          rw [w, List.append_assoc]
          congr 2
          omega
    · rw [decide_eq_false h] at t
      rw [if_neg h]
      refine ⟨fun vs n q => ?_, fun n q => by cases q⟩
      cases q
      exact ⟨i, by rw [mWhile_end t, List.append_nil]; rfl⟩
end K03
end Part_QD

section Part_QE
set_option Elab.async false
set_option linter.all false
set_option maxRecDepth 100000
set_option autoImplicit false
set_option maxHeartbeats 2000000
namespace K03
open PySem PySem.Spec PyProof.Rows L2 DL SX
local macro_rules | `(tactic| walk_at "ev") => `(tactic| try simp -implicitDefEqProofs only [mDef, mSeq, mIf, mT, mTr, mOp, mUn, mVar, mC, mCall, mCons, mNil, mRet, mSkip, mAsg, mSl, mPart, mNoPart, mAndT, mOrT, mNotT, mAnd, mOr, mNot, mIfE, mChain, mIs, mIs2, mOf, mNew, mCallF, mM1, mM0, mIxM, mLenM, mApp, mSetM, mSetIx, mAug, mFrz, mForS, mRng1, mRng2, mItems, setV_zn, setV_zv, setV_zo, setV_succ, setM, frz, setT2, mBk, mCt, mNo, 
  DL.bind_ok, DL.bind_no, DL.bind_ite, lift_some, lift_none, List.map_cons, List.map_nil, List.length_cons, List.length_nil, List.replicate_succ, List.replicate_zero, List.cons_append, List.nil_append, List.append_nil, List.getElem?_cons_zero, List.getElem?_cons_succ, List.set_cons_zero, List.set_cons_succ, Nat.reduceAdd, Nat.reduceSub, Nat.zero_add, Nat.sub_self, decide_eq_true_eq,
  add_ii, sub_ii, neg_i, mul_r, mul_l, div_s, mod_s, eq_ii, ne_ii, eq_bb, ne_bb, lt_ii, gt_ii, le_ii, ge_ii, len_l, len_t, int_i, int_b, abs_i, max_ii, min_ii, tuple_l, ix_l, ix_t, tr_b, Nat.reduceLeDiff, if_true, if_false, Option.map_some, Option.bind_some, reduceIte, Int.reduceLT, Int.reduceNeg, Int.reduceMul, Nat.reduceLT, Nat.le_refl, LINE, Bool.false_eq_true, Bool.not_true, Bool.not_false, Bool.true_eq_false, e_nn, e_tn, e_tt, e_sn, e_st, e_ss, e_ln, e_lt, e_ls, is_bool_n, is_bool_t, is_bool_s, is_bool_l, is_int_n, is_int_t, is_int_s, is_int_l, is_str_n, is_str_t, is_str_s, is_str_l, is_tuple_n, is_tuple_t, is_tuple_s, is_tuple_l, is_list_n, is_list_t, is_list_s, is_list_l, Bool.false_or, Bool.true_or, Bool.or_true, Bool.or_false, c_QUOTE, c_SIGNS, c_DIGITS, c_NUMBER_LIMIT, c_TEXT_LIMIT, c_LIST_LIMIT, dItems, mCallE, mDefE, mRaise, mTryR, t_Malformed, DL.R.bind_ex])
local macro_rules | `(tactic| walk_at "ev*") => `(tactic| try simp -implicitDefEqProofs only [mDef, mSeq, mIf, mT, mTr, mOp, mUn, mVar, mC, mCall, mCons, mNil, mRet, mSkip, mAsg, mSl, mPart, mNoPart, mAndT, mOrT, mNotT, mAnd, mOr, mNot, mIfE, mChain, mIs, mIs2, mOf, mNew, mCallF, mM1, mM0, mIxM, mLenM, mApp, mSetM, mSetIx, mAug, mFrz, mForS, mRng1, mRng2, mItems, setV_zn, setV_zv, setV_zo, setV_succ, setM, frz, setT2, mBk, mCt, mNo, 
  DL.bind_ok, DL.bind_no, DL.bind_ite, lift_some, lift_none, List.map_cons, List.map_nil, List.length_cons, List.length_nil, List.replicate_succ, List.replicate_zero, List.cons_append, List.nil_append, List.append_nil, List.getElem?_cons_zero, List.getElem?_cons_succ, List.set_cons_zero, List.set_cons_succ, Nat.reduceAdd, Nat.reduceSub, Nat.zero_add, Nat.sub_self, decide_eq_true_eq,
  add_ii, sub_ii, neg_i, mul_r, mul_l, div_s, mod_s, eq_ii, ne_ii, eq_bb, ne_bb, lt_ii, gt_ii, le_ii, ge_ii, len_l, len_t, int_i, int_b, abs_i, max_ii, min_ii, tuple_l, ix_l, ix_t, tr_b, Nat.reduceLeDiff, if_true, if_false, Option.map_some, Option.bind_some, reduceIte, Int.reduceLT, Int.reduceNeg, Int.reduceMul, Nat.reduceLT, Nat.le_refl, LINE, Bool.false_eq_true, Bool.not_true, Bool.not_false, Bool.true_eq_false, e_nn, e_tn, e_tt, e_sn, e_st, e_ss, e_ln, e_lt, e_ls, is_bool_n, is_bool_t, is_bool_s, is_bool_l, is_int_n, is_int_t, is_int_s, is_int_l, is_str_n, is_str_t, is_str_s, is_str_l, is_tuple_n, is_tuple_t, is_tuple_s, is_tuple_l, is_list_n, is_list_t, is_list_s, is_list_l, Bool.false_or, Bool.true_or, Bool.or_true, Bool.or_false, c_QUOTE, c_SIGNS, c_DIGITS, c_NUMBER_LIMIT, c_TEXT_LIMIT, c_LIST_LIMIT, dItems, mCallE, mDefE, mRaise, mTryR, t_Malformed, DL.R.bind_ex, *])
theorem mWhile_get' {t : M Bool} {body : M Fl} {n c : Nat} {d : D} {δ δ1 : Dl} (h : mWhile t body n δ = .ex c d δ1) : mWhileS t body δ = .ex c d δ1 := by
  rw [mWhileS_eq (n := n) (by rw [h]; intro e; cases e), h]
def endP (v : Int) (n : Nat) (R : List Nat) : Pr (List Int) → Pr (List Int)
  | .er n' => .er (n + n')
  | .ok vs n' => if (R.drop (n + n')).head? = some 93 then .ok (v :: vs) (n + n' + 1) else .er (n + n')
def lstP (R : List Nat) : Pr (List Int) := if R.head? = some 93 then .ok [] 1 else match numP R with
  | .er n => .er n
  | .ok v n => endP v n R (moreP 11 (R.drop n))
theorem list_eq {L : List Nat} {k : Nat} (hL : L.length ≤ 200) (hc : ∀ c ∈ L, c < 1000) (hk : k ≤ L.length) : ∃ δ, m_scan_list [.str (S L), .int k] = rP (fun l : List Int => .tuple (l.map .int)) k (lstP (L.drop k)) δ := by
  obtain ⟨l, f1, f2⟩ := sign_tx (k := k) hL hc
  have f2 := (f2 93 (by decide)).1
  unfold lstP
  by_cases h1 : (L.drop k).head? = some 93
  · rw [decide_eq_true h1] at f2
    rw [if_pos h1]
    have f3 := tup_ok (xs := []) (by simp)
    have f4 := tup_ok (xs := [.tuple [], .int ((k : Int) + 1)]) (by simp)
    refine ⟨[], ?_⟩
    unfold m_scan_list b_scan_list rP
    iterate 8 ((try simp only [rb_S, f1, f2, f3, f4]); walk_at "ev")
    rfl
  · rw [decide_eq_false h1] at f2
    rw [if_neg h1]
    obtain ⟨δ, f3⟩ := number_eq' (k := k) hL hc hk
    have hle := numP_le (L.drop k)
    rw [List.length_drop] at hle
    cases q : numP (L.drop k) with
    | er n =>
      rw [q] at f3
      unfold rP at f3
      refine ⟨[.val (.str (S L)), .val (.int k), .non, .non, .non], ?_⟩
      unfold m_scan_list b_scan_list rP
      iterate 8 ((try simp only [rb_S, f1, f2, f3]); walk_at "ev")
    | ok v n =>
      rw [q] at f3 hle
      have hle : n ≤ L.length - k := hle
      unfold rP at f3
      have lw := list_w (k := k) hL hc 11 v (k + n) [v] rfl (by omega)
      rw [← List.drop_drop] at lw
      have hle2 := moreP_le 11 ((L.drop k).drop n)
      rw [List.length_drop, List.length_drop] at hle2
      dsimp only
      cases q2 : moreP 11 ((L.drop k).drop n) with
      | er n' =>
        obtain ⟨δ', w⟩ := lw.2 n' q2
        have w := mWhile_get' w
        have w : mWhileS b_scan_list_C1 b_scan_list_L1 [.val (.str (S L)), .val (.int k), .val (.int v), .val (.int ((k + n : Nat) : Int)), .var false [.int v]] = _ := w
        refine ⟨δ', ?_⟩
        unfold m_scan_list b_scan_list
        iterate 8 ((try simp only [rb_S, f1, f2, f3, w]); walk_at "ev")
        show _ = R.ex 0 (PyData.int ((k + (n + n') : Nat) : Int)) _
        rw [← Nat.add_assoc]
      | ok vs n' =>
        rw [q2] at hle2
        have hle2 : n' ≤ L.length - k - n := hle2
        obtain ⟨j, w⟩ := lw.1 vs n' q2
        have w := mWhile_get w
        have w : mWhileS b_scan_list_C1 b_scan_list_L1 [.val (.str (S L)), .val (.int k), .val (.int v), .val (.int ((k + n : Nat) : Int)), .var false [.int v]] = .ok .nx [.val (.str (S L)), .val (.int k), .val (.int j), .val (.int ((k + n + n' : Nat) : Int)), .var false (.int v :: vs.map .int)] := w
        have bh := behind_eq (k := k + n + n') (W := [93]) hL hc (by intro c hc; rw [List.mem_singleton.mp hc]; decide) (by simp) (by omega)
        have ec : com [93] (L.drop (k + n + n')) = if ((L.drop k).drop (n + n')).head? = some 93 then 1 else 0 := by
          rw [List.drop_drop, ← Nat.add_assoc]
          rfl
        rw [ec] at bh
        unfold endP
        by_cases h2 : ((L.drop k).drop (n + n')).head? = some 93
        · rw [if_pos h2] at bh
          have f4 := bh.1 rfl
          have f5 := tup_ok (xs := [.tuple (.int v :: vs.map .int), .int ((k + n + n' + 1 : Nat) : Int)]) (by simp)
          refine ⟨[], ?_⟩
          dsimp only
          rw [if_pos h2]
          unfold m_scan_list b_scan_list rP
          iterate 9 ((try simp only [rb_S, f1, f2, f3, w, f4, f5]); walk_at "ev")
          congr 5
          omega
        · rw [if_neg h2] at bh
          obtain ⟨δ', f4⟩ := bh.2 (by decide)
          rw [Nat.add_zero] at f4
          refine ⟨[.val (.str (S L)), .val (.int k), .val (.int j), .val (.int ((k + n + n' : Nat) : Int)), .val (.list (.int v :: vs.map .int))], ?_⟩
          dsimp only
          rw [if_neg h2]
          unfold m_scan_list b_scan_list rP
          iterate 9 ((try simp only [rb_S, f1, f2, f3, w, f4]); walk_at "ev")
          congr 2
          omega
/-! ### values -/
def shf {α : Type} (f : α → D) (a : Nat) : Pr α → Pr D
  | .ok v n => .ok (f v) (a + n)
  | .er n => .er (a + n)
def valP (T : List Nat) : Pr D :=
  if T.head? = some 34 then shf (fun l => .str (S l)) 1 (txtP (T.drop 1))
  else if T.head? = some 91 then shf (fun l : List Int => .tuple (l.map .int)) 1 (lstP (T.drop 1))
  else if T.head? = some 116 then shf (fun _ => .bool true) 0 (comP [116, 114, 117, 101] T)
  else if T.head? = some 102 then shf (fun _ => .bool false) 0 (comP [102, 97, 108, 115, 101] T)
  else shf .int 0 (numP T)
theorem value_eq' {L : List Nat} (hL : L.length ≤ 200) (hc : ∀ c ∈ L, c < 1000) : ∃ δ, m_scan_value [.str (S L), .int 0] = rP id 0 (valP L) δ := by
  obtain ⟨l, f1, f2⟩ := sign_tx (k := 0) hL hc
  have f1 : dSl (.str (S L)) (some 0) (some 1) = some (.str (S l)) := f1
  have g1 := (f2 34 (by decide)).1
  have g2 := (f2 91 (by decide)).1
  have g3 := (f2 116 (by decide)).1
  have g4 := (f2 102 (by decide)).1
  rw [List.drop_zero] at g1 g2 g3 g4
  have nz : L.head? ≠ none → 1 ≤ L.length := fun h => by
    cases L with
    | nil => exact absurd rfl h
    | cons c r => rw [List.length_cons]; omega
  unfold valP
  by_cases h1 : L.head? = some 34
  · rw [decide_eq_true h1] at g1
    rw [if_pos h1]
    obtain ⟨δ, e⟩ := text_eq (k := 1) hL hc (nz (by rw [h1]; simp))
    have e : m_scan_text [.str (S L), .int 1] = _ := e
    cases q : txtP (L.drop 1) with
    | ok v n =>
      rw [q] at e
      unfold rP at e
      refine ⟨[], ?_⟩
      unfold m_scan_value b_scan_value shf rP
      iterate 10 ((try simp only [q_S, lb_S, t_S, f_S, f1, g1, e, Int.zero_add, Nat.zero_add, id]); walk_at "ev")
    | er n =>
      rw [q] at e
      unfold rP at e
      refine ⟨[.val (.str (S L)), .val (.int 0), .val (.str (S l))], ?_⟩
      unfold m_scan_value b_scan_value shf rP
      iterate 10 ((try simp only [q_S, lb_S, t_S, f_S, f1, g1, e, Int.zero_add, Nat.zero_add, id]); walk_at "ev")
  rw [decide_eq_false h1] at g1
  rw [if_neg h1]
  by_cases h2 : L.head? = some 91
  · rw [decide_eq_true h2] at g2
    rw [if_pos h2]
    obtain ⟨δ, e⟩ := list_eq (k := 1) hL hc (nz (by rw [h2]; simp))
    have e : m_scan_list [.str (S L), .int 1] = _ := e
    cases q : lstP (L.drop 1) with
    | ok v n =>
      rw [q] at e
      unfold rP at e
      refine ⟨[], ?_⟩
      unfold m_scan_value b_scan_value shf rP
      iterate 10 ((try simp only [q_S, lb_S, t_S, f_S, f1, g1, g2, e, Int.zero_add, Nat.zero_add, id]); walk_at "ev")
    | er n =>
      rw [q] at e
      unfold rP at e
      refine ⟨[.val (.str (S L)), .val (.int 0), .val (.str (S l))], ?_⟩
      unfold m_scan_value b_scan_value shf rP
      iterate 10 ((try simp only [q_S, lb_S, t_S, f_S, f1, g1, g2, e, Int.zero_add, Nat.zero_add, id]); walk_at "ev")
  rw [decide_eq_false h2] at g2
  rw [if_neg h2]
  by_cases h3 : L.head? = some 116
  · rw [decide_eq_true h3] at g3
    rw [if_pos h3]
    have bh := behind_eq (k := 0) (W := [116, 114, 117, 101]) hL hc (by decide) (by simp) (by omega)
    rw [List.drop_zero] at bh
    unfold comP
    by_cases q : com [116, 114, 117, 101] L = [116, 114, 117, 101].length
    · have e : m_index_behind [.str (S L), .int 0, .str (S [116, 114, 117, 101])] = .ok (.int 4) [] := bh.1 q
      have f6 := tup_ok (xs := [.bool true, .int 4]) (by simp)
      rw [if_pos q]
      refine ⟨[], ?_⟩
      unfold m_scan_value b_scan_value shf rP
      iterate 10 ((try simp only [q_S, lb_S, t_S, f_S, true_S, f1, g1, g2, g3, e, f6, Int.zero_add, Nat.zero_add, id]); walk_at "ev")
      rfl
    · obtain ⟨δ, e⟩ := bh.2 q
      have e : m_index_behind [.str (S L), .int 0, .str (S [116, 114, 117, 101])] = _ := e
      rw [if_neg q]
      refine ⟨[.val (.str (S L)), .val (.int 0), .val (.str (S l))], ?_⟩
      unfold m_scan_value b_scan_value shf rP
      iterate 10 ((try simp only [q_S, lb_S, t_S, f_S, true_S, f1, g1, g2, g3, e, Int.zero_add, Nat.zero_add, id]); walk_at "ev")
  rw [decide_eq_false h3] at g3
  rw [if_neg h3]
  by_cases h4 : L.head? = some 102
  · rw [decide_eq_true h4] at g4
    rw [if_pos h4]
    have bh := behind_eq (k := 0) (W := [102, 97, 108, 115, 101]) hL hc (by decide) (by simp) (by omega)
    rw [List.drop_zero] at bh
    unfold comP
    by_cases q : com [102, 97, 108, 115, 101] L = [102, 97, 108, 115, 101].length
    · have e : m_index_behind [.str (S L), .int 0, .str (S [102, 97, 108, 115, 101])] = .ok (.int 5) [] := bh.1 q
      have f6 := tup_ok (xs := [.bool false, .int 5]) (by simp)
      rw [if_pos q]
      refine ⟨[], ?_⟩
      unfold m_scan_value b_scan_value shf rP
      iterate 10 ((try simp only [q_S, lb_S, t_S, f_S, false_S, f1, g1, g2, g3, g4, e, f6, Int.zero_add, Nat.zero_add, id]); walk_at "ev")
      rfl
    · obtain ⟨δ, e⟩ := bh.2 q
      have e : m_index_behind [.str (S L), .int 0, .str (S [102, 97, 108, 115, 101])] = _ := e
      rw [if_neg q]
      refine ⟨[.val (.str (S L)), .val (.int 0), .val (.str (S l))], ?_⟩
      unfold m_scan_value b_scan_value shf rP
      iterate 10 ((try simp only [q_S, lb_S, t_S, f_S, false_S, f1, g1, g2, g3, g4, e, Int.zero_add, Nat.zero_add, id]); walk_at "ev")
  rw [decide_eq_false h4] at g4
  rw [if_neg h4]
  obtain ⟨δ, e⟩ := number_eq' (k := 0) hL hc (Nat.zero_le _)
  rw [List.drop_zero] at e
  have e : m_scan_number [.str (S L), .int 0] = _ := e
  cases q : numP L with
  | ok v n =>
    rw [q] at e
    unfold rP at e
    refine ⟨[], ?_⟩
    unfold m_scan_value b_scan_value shf rP
    iterate 10 ((try simp only [q_S, lb_S, t_S, f_S, f1, g1, g2, g3, g4, e, Int.zero_add, Nat.zero_add, id]); walk_at "ev")
  | er n =>
    rw [q] at e
    unfold rP at e
    refine ⟨[.val (.str (S L)), .val (.int 0), .val (.str (S l))], ?_⟩
    unfold m_scan_value b_scan_value shf rP
    iterate 10 ((try simp only [q_S, lb_S, t_S, f_S, f1, g1, g2, g3, g4, e, Int.zero_add, Nat.zero_add, id]); walk_at "ev")
end K03
end Part_QE

section Part_QF
set_option Elab.async false
set_option linter.all false
set_option maxRecDepth 100000
set_option autoImplicit false
set_option maxHeartbeats 2000000
namespace K03
open PySem PySem.Spec PyProof.Rows L2 DL SX
local macro_rules | `(tactic| walk_at "ev") => `(tactic| try simp -implicitDefEqProofs only [mDef, mSeq, mIf, mT, mTr, mOp, mUn, mVar, mC, mCall, mCons, mNil, mRet, mSkip, mAsg, mSl, mPart, mNoPart, mAndT, mOrT, mNotT, mAnd, mOr, mNot, mIfE, mChain, mIs, mIs2, mOf, mNew, mCallF, mM1, mM0, mIxM, mLenM, mApp, mSetM, mSetIx, mAug, mFrz, mForS, mRng1, mRng2, mItems, setV_zn, setV_zv, setV_zo, setV_succ, setM, frz, setT2, mBk, mCt, mNo, 
  DL.bind_ok, DL.bind_no, DL.bind_ite, lift_some, lift_none, List.map_cons, List.map_nil, List.length_cons, List.length_nil, List.replicate_succ, List.replicate_zero, List.cons_append, List.nil_append, List.append_nil, List.getElem?_cons_zero, List.getElem?_cons_succ, List.set_cons_zero, List.set_cons_succ, Nat.reduceAdd, Nat.reduceSub, Nat.zero_add, Nat.sub_self, decide_eq_true_eq,
  add_ii, sub_ii, neg_i, mul_r, mul_l, div_s, mod_s, eq_ii, ne_ii, eq_bb, ne_bb, lt_ii, gt_ii, le_ii, ge_ii, len_l, len_t, int_i, int_b, abs_i, max_ii, min_ii, tuple_l, ix_l, ix_t, tr_b, Nat.reduceLeDiff, if_true, if_false, Option.map_some, Option.bind_some, reduceIte, Int.reduceLT, Int.reduceNeg, Int.reduceMul, Nat.reduceLT, Nat.le_refl, LINE, Bool.false_eq_true, Bool.not_true, Bool.not_false, Bool.true_eq_false, e_nn, e_tn, e_tt, e_sn, e_st, e_ss, e_ln, e_lt, e_ls, is_bool_n, is_bool_t, is_bool_s, is_bool_l, is_int_n, is_int_t, is_int_s, is_int_l, is_str_n, is_str_t, is_str_s, is_str_l, is_tuple_n, is_tuple_t, is_tuple_s, is_tuple_l, is_list_n, is_list_t, is_list_s, is_list_l, Bool.false_or, Bool.true_or, Bool.or_true, Bool.or_false, c_QUOTE, c_SIGNS, c_DIGITS, c_NUMBER_LIMIT, c_TEXT_LIMIT, c_LIST_LIMIT, dItems, mCallE, mDefE, mRaise, mTryR, t_Malformed, DL.R.bind_ex, Int.reduceEq])
local macro_rules | `(tactic| walk_at "ev*") => `(tactic| try simp -implicitDefEqProofs only [mDef, mSeq, mIf, mT, mTr, mOp, mUn, mVar, mC, mCall, mCons, mNil, mRet, mSkip, mAsg, mSl, mPart, mNoPart, mAndT, mOrT, mNotT, mAnd, mOr, mNot, mIfE, mChain, mIs, mIs2, mOf, mNew, mCallF, mM1, mM0, mIxM, mLenM, mApp, mSetM, mSetIx, mAug, mFrz, mForS, mRng1, mRng2, mItems, setV_zn, setV_zv, setV_zo, setV_succ, setM, frz, setT2, mBk, mCt, mNo, 
  DL.bind_ok, DL.bind_no, DL.bind_ite, lift_some, lift_none, List.map_cons, List.map_nil, List.length_cons, List.length_nil, List.replicate_succ, List.replicate_zero, List.cons_append, List.nil_append, List.append_nil, List.getElem?_cons_zero, List.getElem?_cons_succ, List.set_cons_zero, List.set_cons_succ, Nat.reduceAdd, Nat.reduceSub, Nat.zero_add, Nat.sub_self, decide_eq_true_eq,
  add_ii, sub_ii, neg_i, mul_r, mul_l, div_s, mod_s, eq_ii, ne_ii, eq_bb, ne_bb, lt_ii, gt_ii, le_ii, ge_ii, len_l, len_t, int_i, int_b, abs_i, max_ii, min_ii, tuple_l, ix_l, ix_t, tr_b, Nat.reduceLeDiff, if_true, if_false, Option.map_some, Option.bind_some, reduceIte, Int.reduceLT, Int.reduceNeg, Int.reduceMul, Nat.reduceLT, Nat.le_refl, LINE, Bool.false_eq_true, Bool.not_true, Bool.not_false, Bool.true_eq_false, e_nn, e_tn, e_tt, e_sn, e_st, e_ss, e_ln, e_lt, e_ls, is_bool_n, is_bool_t, is_bool_s, is_bool_l, is_int_n, is_int_t, is_int_s, is_int_l, is_str_n, is_str_t, is_str_s, is_str_l, is_tuple_n, is_tuple_t, is_tuple_s, is_tuple_l, is_list_n, is_list_t, is_list_s, is_list_l, Bool.false_or, Bool.true_or, Bool.or_true, Bool.or_false, c_QUOTE, c_SIGNS, c_DIGITS, c_NUMBER_LIMIT, c_TEXT_LIMIT, c_LIST_LIMIT, dItems, mCallE, mDefE, mRaise, mTryR, t_Malformed, DL.R.bind_ex, Int.reduceEq, *])
theorem sl_to {l : List Nat} {j : Nat} (h : l.length ≤ 16777216) : dSl (.str (S l)) none (some (j : Int)) = some (.str (S (l.take j))) := by
  show (if (S l).length ≤ LINE then some (PyData.str (cutS (S l) none (some (j : Int)))) else none) = _
  rw [S_len, if_pos h]
  unfold cutS
  rw [S_len, HT.sIx_none, HT.sIx_nat]
  show some (PyData.str (S ((l.drop 0).take _))) = _
  rw [List.drop_zero, Nat.sub_zero]
  congr 3
  rcases Nat.le_total j l.length with q | q
  · rw [Nat.min_eq_left q]
  · rw [Nat.min_eq_right q, List.take_of_length_le (Nat.le_refl _), List.take_of_length_le q]
theorem sl_from {l : List Nat} {j : Nat} (h : l.length ≤ 16777216) : dSl (.str (S l)) (some (j : Int)) none = some (.str (S (l.drop j))) := by
  show (if (S l).length ≤ LINE then some (PyData.str (cutS (S l) (some (j : Int)) none)) else none) = _
  rw [S_len, if_pos h]
  unfold cutS
  rw [S_len, HT.sIx_none, HT.sIx_nat]
  show some (PyData.str (S ((l.drop _).take _))) = _
  congr 3
  rcases Nat.le_total j l.length with q | q
  · rw [Nat.min_eq_left q, List.take_of_length_le (by rw [List.length_drop]; omega)]
  · rw [Nat.min_eq_right q, List.drop_of_length_le (Nat.le_refl _), List.drop_of_length_le q, List.take_nil]
theorem filter_len {α : Type} (l : List α) (p : α → Bool) : decide ((((l.filter p).length : Nat) : Int) = ((l.length : Nat) : Int)) = l.all p := by
  have h := List.length_filter_le p l
  by_cases q : l.all p = true
  · rw [q]
    have : l.filter p = l := List.filter_eq_self.mpr fun a ha => List.all_eq_true.mp q a ha
    rw [this]
    exact decide_eq_true rfl
  · have q2 : l.all p = false := by simpa using q
    rw [q2]
    refine decide_eq_false fun e => q ?_
    have e2 : (l.filter p).length = l.length := by omega
    rw [List.all_eq_true]
    intro a ha
    exact List.length_filter_eq_length_iff.mp e2 a ha
theorem at20 (a b : D) : atI [a, b] 0 = some a := rfl
theorem at21 (a b : D) : atI [a, b] 1 = some b := rfl
def AL2 : List Nat := [32, 97, 98, 99, 100, 101, 102, 103, 104, 105, 106, 107, 108, 109, 110, 111, 112, 113, 114, 115, 116, 117, 118, 119, 120, 121, 122, 48, 49, 50, 51, 52, 53, 54, 55, 56, 57]
theorem signs2_S : (" abcdefghijklmnopqrstuvwxyz0123456789" : Str) = S AL2 := by decide +kernel
theorem AL12 (c : Nat) : c ∈ AL2 ↔ c ∈ AL := by
  simp only [AL, AL2, List.mem_cons, List.not_mem_nil, or_false]
  omega

theorem lst0 (l : List Nat) (h : l.length ≤ 200) : dSl (.str (S l)) (some ((l.length : Int) - 1)) none = some (.str (S (l.drop (l.length - 1)))) := by
  cases l with
  | nil => rfl
  | cons c r =>
    have e := sl_from (l := c :: r) (j := r.length) (by omega)
    rw [show (((c :: r).length : Nat) : Int) - 1 = (r.length : Int) by rw [List.length_cons]; omega, e]
    rfl
theorem bl0 (l : List Nat) (h : l.length ≤ 200) (hne : l ≠ []) : dSl (.str (S l)) none (some ((l.length : Int) - 1)) = some (.str (S (l.take (l.length - 1)))) := by
  cases l with
  | nil => exact absurd rfl hne
  | cons c r =>
    have e := sl_to (l := c :: r) (j := r.length) (by omega)
    rw [show (((c :: r).length : Nat) : Int) - 1 = (r.length : Int) by rw [List.length_cons]; omega, e]
    rfl
theorem fr1 (l : List Nat) (h : l.length ≤ 200) : dSl (.str (S l)) (some 1) none = some (.str (S (l.drop 1))) := sl_from (j := 1) (by omega)
theorem to1 (l : List Nat) (h : l.length ≤ 200) : dSl (.str (S l)) none (some 1) = some (.str (S (l.take 1))) := sl_to (j := 1) (by omega)
theorem lt_sub {l m : List Nat} (h : ∀ c ∈ l, c < 1000) (s : ∀ c ∈ m, c ∈ l) : ∀ c ∈ m, c < 1000 := fun c hc => h c (s c hc)
theorem lt_drop {l : List Nat} (h : ∀ c ∈ l, c < 1000) (n : Nat) : ∀ c ∈ l.drop n, c < 1000 := fun c hc => h c (List.mem_of_mem_drop hc)
theorem lt_take {l : List Nat} (h : ∀ c ∈ l, c < 1000) (n : Nat) : ∀ c ∈ l.take n, c < 1000 := fun c hc => h c (List.mem_of_mem_take hc)
theorem one_lt {d : Nat} (h : d < 1000) : ∀ c ∈ [d], c < 1000 := fun c hc => by rw [List.mem_singleton.mp hc]; exact h
def dgB (c : Nat) : Bool := decide (48 ≤ c ∧ c ≤ 57)
def bodB (b : List Nat) (w : Bool) : Bool := if !(b.all dgB) || decide (7 < b.length) then false else if b = [] then !w else if b.head? = some 48 then decide (b = [48]) else decide (NumText.digitsVal b ≤ 1000000)
def digB (T : List Nat) (w : Bool) : Bool := if T.take 1 = [45] then (if (T.drop 1).take 1 = [48] then false else bodB (T.drop 1) w) else bodB T w
theorem take1 {l : List Nat} {d : Nat} : l.take 1 = [d] ↔ l.head? = some d := by
  cases l with
  | nil => simp
  | cons c r => simp
theorem fil_b (b : List Nat) (h : b.length ≤ 200) (s : D) (w : Bool) : mLcS [3] (mItems (mVar 2)) (setV 3) b__law_digits_T1 b__law_digits_E1 [.val s, .val (.bool w), .val (.str (S b)), .non] = .ok ((b.filter fun c => !dgB c).map fun c => .str (S [c])) [.val s, .val (.bool w), .val (.str (S b)), .non] := by
  rw [lcS_pure (j := 3) (it := mItems (mVar 2)) (δ' := [.val s, .val (.bool w), .val (.str (S b)), .non]) (items := b.map fun c => .str (S [c])) (fun d => match d with | .str z => z.cps.toList.all fun c => !dgB c | _ => false) id rfl (by simp) rfl (by rw [List.length_map]; omega) (fun x hx => by
    obtain ⟨c, hc, rfl⟩ := List.mem_map.mp hx
    refine ⟨?_, fun _ => by unfold b__law_digits_E1; walk_at "ev"; rfl⟩
    unfold b__law_digits_T1
    have e : dNotIn (.str (S [c])) (.str (S [48, 49, 50, 51, 52, 53, 54, 55, 56, 57])) = some (.bool (!dgB c)) := by
      show some (PyData.bool (!decide (c ∈ [48, 49, 50, 51, 52, 53, 54, 55, 56, 57]))) = _
      unfold dgB
      congr 3
      exact decide_eq_decide.mpr mem_dig
    simp only [digits_S]
    iterate 2 ((try simp only [e]); walk_at "ev")
    simp)]
  rw [List.map_id, List.filter_map]
  congr 2
  apply List.filter_congr
  intro c _
  simp
theorem bod_eq {b : List Nat} (h : b.length ≤ 200) (hc : ∀ c ∈ b, c < 1000) (s : D) (w : Bool) : (mSeq (mIf (mOrT (mT (mOp dGt (mCall dLen (mCons (mOf (mLcS [3] (mItems (mVar 2)) (setV 3) b__law_digits_T1 b__law_digits_E1)) mNil)) (mC (.int 0)))) (mT (mOp dGt (mCall dLen (mCons (mVar 2) mNil)) (mC (.int 7)))))
    (mRet (mC (.bool false)))
    mSkip)
    (mSeq (mIf (mT (mOp dEq (mVar 2) (mC (.str ""))))
    (mRet (mNot (mVar 1)))
    mSkip)
    (mSeq (mIf (mT (mOp dEq (mOp dIx (mVar 2) (mC (.int 0))) (mC (.str "0"))))
    (mRet (mOp dEq (mVar 2) (mC (.str "0"))))
    mSkip)
    (mRet (mOp dLe (mCall dInt (mCons (mVar 2) mNil)) (mC (.int 1000000))))))) [.val s, .val (.bool w), .val (.str (S b)), .non] = .ok (.rt (.bool (bodB b w))) [.val s, .val (.bool w), .val (.str (S b)), .non] := by
  have e1 := fil_b b h s w
  have e2 := len_S (l := b) (by omega)
  have e3 := eq_S hc (m := []) (by simp)
  have e5 := eq_S hc (one_lt (d := 48) (by decide))
  walk_at "ev"
  simp only [e1]
  walk_at "ev"
  by_cases q1 : b.all dgB = true
  · have q0 : (b.filter fun c => !dgB c) = [] := List.filter_eq_nil_iff.mpr fun c hc => by rw [List.all_eq_true.mp q1 c hc]; simp
    rw [q0]
    walk_at "ev"
    have z : ((0 : Int) < ((0 : Nat) : Int)) = False := eq_false (by omega)
    by_cases q2 : 7 < b.length
    · have hb : bodB b w = false := by unfold bodB; rw [q1, decide_eq_true q2]; rfl
      have q2' : ((7 : Int) < b.length) = True := eq_true (by omega)
      iterate 4 ((try simp only [z, e2, q2']); walk_at "ev")
      rw [hb]
    · have q2' : ((7 : Int) < b.length) = False := eq_false (by omega)
      have hb : bodB b w = if b = [] then !w else if b.head? = some 48 then decide (b = [48]) else decide (NumText.digitsVal b ≤ 1000000) := by unfold bodB; rw [q1, decide_eq_false q2]; rfl
      iterate 4 ((try simp only [z, e2, q2', empty_S, e3]); walk_at "ev")
      cases b with
      | nil =>
        rw [hb]
        rfl
      | cons c r =>
        have e4 : dIx (.str (S (c :: r))) (.int 0) = some (.str (S [c])) := ix_S (k := 0) (by omega)
        have e6 := eq1 (c := c) (d := 48) (hc c List.mem_cons_self) (by decide)
        have e7 : dInt [.str (S (c :: r))] = some (.int (NumText.digitsVal (c :: r))) := by
          show (if (S (c :: r)).length ≤ 640 then (PySem.intText? (S (c :: r))).map PyData.int else none) = _
          rw [S_len, if_pos (by omega), int_S (by
            rw [List.all_eq_true] at q1 ⊢
            intro x hx
            have := of_decide_eq_true (q1 x hx)
            simp [this.1, this.2]) (by simp) (by omega)]
          rfl
        have n0 : ((c :: r) = []) = False := eq_false (by simp)
        rw [hb, if_neg (by simp)]
        by_cases q3 : c = 48
        · have q4 : (c :: r).head? = some 48 := by rw [q3]; rfl
          rw [if_pos q4]
          have q3' := eq_true q3
          generalize decide (c :: r = [48]) = g at e5 ⊢
          iterate 6 ((try simp only [n0, e4, e5, e6, e7, zero_S, q3']); walk_at "ev")
        · have q4 : ¬ (c :: r).head? = some 48 := by simpa using q3
          rw [if_neg q4]
          have : decide (((NumText.digitsVal (c :: r) : Nat) : Int) ≤ 1000000) = decide (NumText.digitsVal (c :: r) ≤ 1000000) := decide_eq_decide.mpr (by omega)
          rw [← this]
          have q3' := eq_false q3
          iterate 6 ((try simp only [n0, e4, e6, e7, zero_S, q3']); walk_at "ev")
  · have q1' : b.all dgB = false := by simpa using q1
    have hb : bodB b w = false := by unfold bodB; rw [q1']; rfl
    have q0 : ((0 : Int) < ((b.filter fun c => !dgB c).length : Nat)) = True := by
      refine eq_true ?_
      have : (b.filter fun c => !dgB c) ≠ [] := fun z => by
        rw [List.filter_eq_nil_iff] at z
        exact q1 (List.all_eq_true.mpr fun c hc => by have := z c hc; simpa using this)
      have := List.length_pos_iff.mpr this
      omega
    simp only [List.length_map]
    iterate 4 ((try simp only [q0]); walk_at "ev")
    rw [hb]
theorem dig_eq {T : List Nat} (h : T.length ≤ 200) (hc : ∀ c ∈ T, c < 1000) (w : Bool) : m__law_digits [.str (S T), .bool w] = .ok (.bool (digB T w)) [] := by
  have f1 := to1 T h
  have f2 := eq_S (lt_take hc 1) (one_lt (d := 45) (by decide))
  have hd : (T.drop 1).length ≤ 200 := by rw [List.length_drop]; omega
  have f3 := fr1 T h
  have f4 := to1 (T.drop 1) hd
  have f5 := eq_S (lt_take (lt_drop hc 1) 1) (one_lt (d := 48) (by decide))
  have b1 := bod_eq h hc (.str (S T)) w
  have b2 := bod_eq hd (lt_drop hc 1) (.str (S T)) w
  unfold m__law_digits b__law_digits
  rw [mDef, mSeq]
  generalize (mSeq (mIf (mOrT (mT (mOp dGt (mCall dLen (mCons (mOf (mLcS [3] (mItems (mVar 2)) (setV 3) b__law_digits_T1 b__law_digits_E1)) mNil)) (mC (.int 0)))) (mT (mOp dGt (mCall dLen (mCons (mVar 2) mNil)) (mC (.int 7)))))
    (mRet (mC (.bool false)))
    mSkip)
    (mSeq (mIf (mT (mOp dEq (mVar 2) (mC (.str ""))))
    (mRet (mNot (mVar 1)))
    mSkip)
    (mSeq (mIf (mT (mOp dEq (mOp dIx (mVar 2) (mC (.int 0))) (mC (.str "0"))))
    (mRet (mOp dEq (mVar 2) (mC (.str "0"))))
    mSkip)
    (mRet (mOp dLe (mCall dInt (mCons (mVar 2) mNil)) (mC (.int 1000000))))))) = rest at b1 b2 ⊢
  walk_at "ev"
  by_cases q : T.take 1 = [45]
  · rw [decide_eq_true q] at f2
    by_cases q2 : (T.drop 1).take 1 = [48]
    · rw [decide_eq_true q2] at f5
      have hb : digB T w = false := by unfold digB; rw [if_pos q, if_pos q2]
      iterate 8 ((try simp only [f1, f2, minus_S, f3, f4, f5, zero_S]); walk_at "ev")
      rw [hb]
    · rw [decide_eq_false q2] at f5
      have hb : digB T w = bodB (T.drop 1) w := by unfold digB; rw [if_pos q, if_neg q2]
      iterate 8 ((try simp only [f1, f2, minus_S, f3, f4, f5, zero_S, b2]); walk_at "ev")
      rw [hb]
  · rw [decide_eq_false q] at f2
    have hb : digB T w = bodB T w := by unfold digB; rw [if_neg q]
    iterate 6 ((try simp only [f1, f2, minus_S, b1]); walk_at "ev")
    rw [hb]
end K03
end Part_QF

section Part_QG
set_option Elab.async false
set_option linter.all false
set_option maxRecDepth 100000
set_option autoImplicit false
set_option maxHeartbeats 2000000
namespace K03
open PySem PySem.Spec PyProof.Rows L2 DL SX
local macro_rules | `(tactic| walk_at "ev") => `(tactic| try simp -implicitDefEqProofs only [mDef, mSeq, mIf, mT, mTr, mOp, mUn, mVar, mC, mCall, mCons, mNil, mRet, mSkip, mAsg, mSl, mPart, mNoPart, mAndT, mOrT, mNotT, mAnd, mOr, mNot, mIfE, mChain, mIs, mIs2, mOf, mNew, mCallF, mM1, mM0, mIxM, mLenM, mApp, mSetM, mSetIx, mAug, mFrz, mForS, mRng1, mRng2, mItems, setV_zn, setV_zv, setV_zo, setV_succ, setM, frz, setT2, mBk, mCt, mNo, 
  DL.bind_ok, DL.bind_no, DL.bind_ite, lift_some, lift_none, List.map_cons, List.map_nil, List.length_cons, List.length_nil, List.replicate_succ, List.replicate_zero, List.cons_append, List.nil_append, List.append_nil, List.getElem?_cons_zero, List.getElem?_cons_succ, List.set_cons_zero, List.set_cons_succ, Nat.reduceAdd, Nat.reduceSub, Nat.zero_add, Nat.sub_self, decide_eq_true_eq,
  add_ii, sub_ii, neg_i, mul_r, mul_l, div_s, mod_s, eq_ii, ne_ii, eq_bb, ne_bb, lt_ii, gt_ii, le_ii, ge_ii, len_l, len_t, int_i, int_b, abs_i, max_ii, min_ii, tuple_l, ix_l, ix_t, tr_b, Nat.reduceLeDiff, if_true, if_false, Option.map_some, Option.bind_some, reduceIte, Int.reduceLT, Int.reduceNeg, Int.reduceMul, Nat.reduceLT, Nat.le_refl, LINE, Bool.false_eq_true, Bool.not_true, Bool.not_false, Bool.true_eq_false, e_nn, e_tn, e_tt, e_sn, e_st, e_ss, e_ln, e_lt, e_ls, is_bool_n, is_bool_t, is_bool_s, is_bool_l, is_int_n, is_int_t, is_int_s, is_int_l, is_str_n, is_str_t, is_str_s, is_str_l, is_tuple_n, is_tuple_t, is_tuple_s, is_tuple_l, is_list_n, is_list_t, is_list_s, is_list_l, Bool.false_or, Bool.true_or, Bool.or_true, Bool.or_false, c_QUOTE, c_SIGNS, c_DIGITS, c_NUMBER_LIMIT, c_TEXT_LIMIT, c_LIST_LIMIT, dItems, mCallE, mDefE, mRaise, mTryR, t_Malformed, DL.R.bind_ex, Int.reduceEq])
local macro_rules | `(tactic| walk_at "ev*") => `(tactic| try simp -implicitDefEqProofs only [mDef, mSeq, mIf, mT, mTr, mOp, mUn, mVar, mC, mCall, mCons, mNil, mRet, mSkip, mAsg, mSl, mPart, mNoPart, mAndT, mOrT, mNotT, mAnd, mOr, mNot, mIfE, mChain, mIs, mIs2, mOf, mNew, mCallF, mM1, mM0, mIxM, mLenM, mApp, mSetM, mSetIx, mAug, mFrz, mForS, mRng1, mRng2, mItems, setV_zn, setV_zv, setV_zo, setV_succ, setM, frz, setT2, mBk, mCt, mNo, 
  DL.bind_ok, DL.bind_no, DL.bind_ite, lift_some, lift_none, List.map_cons, List.map_nil, List.length_cons, List.length_nil, List.replicate_succ, List.replicate_zero, List.cons_append, List.nil_append, List.append_nil, List.getElem?_cons_zero, List.getElem?_cons_succ, List.set_cons_zero, List.set_cons_succ, Nat.reduceAdd, Nat.reduceSub, Nat.zero_add, Nat.sub_self, decide_eq_true_eq,
  add_ii, sub_ii, neg_i, mul_r, mul_l, div_s, mod_s, eq_ii, ne_ii, eq_bb, ne_bb, lt_ii, gt_ii, le_ii, ge_ii, len_l, len_t, int_i, int_b, abs_i, max_ii, min_ii, tuple_l, ix_l, ix_t, tr_b, Nat.reduceLeDiff, if_true, if_false, Option.map_some, Option.bind_some, reduceIte, Int.reduceLT, Int.reduceNeg, Int.reduceMul, Nat.reduceLT, Nat.le_refl, LINE, Bool.false_eq_true, Bool.not_true, Bool.not_false, Bool.true_eq_false, e_nn, e_tn, e_tt, e_sn, e_st, e_ss, e_ln, e_lt, e_ls, is_bool_n, is_bool_t, is_bool_s, is_bool_l, is_int_n, is_int_t, is_int_s, is_int_l, is_str_n, is_str_t, is_str_s, is_str_l, is_tuple_n, is_tuple_t, is_tuple_s, is_tuple_l, is_list_n, is_list_t, is_list_s, is_list_l, Bool.false_or, Bool.true_or, Bool.or_true, Bool.or_false, c_QUOTE, c_SIGNS, c_DIGITS, c_NUMBER_LIMIT, c_TEXT_LIMIT, c_LIST_LIMIT, dItems, mCallE, mDefE, mRaise, mTryR, t_Malformed, DL.R.bind_ex, Int.reduceEq, *])
def inT : D → Bool
  | .str z => z.cps.toList.all fun c => decide (c ∈ AL)
  | _ => false
def goodT (l : List Nat) : Bool := l.all (fun c => decide (c ∈ AL)) && decide (l.length ≤ 30)
def quoB (T : List Nat) (w : Bool) : Bool := if (T.drop 1).drop ((T.drop 1).length - 1) = [34] then goodT ((T.drop 1).take ((T.drop 1).length - 1)) else if w then false else goodT (T.drop 1)
theorem good_eq {l : List Nat} (h : l.length ≤ 200) (s : D) (w : Bool) : (mSeq (mAsg (setV 3) (mOp dEq (mCall dLen (mCons (mOf (mLcS [4] (mItems (mVar 2)) (setV 4) b__law_quoted_T1 b__law_quoted_E1)) mNil)) (mCall dLen (mCons (mVar 2) mNil))))
    (mRet (mAnd (mVar 3) (mOp dLe (mCall dLen (mCons (mVar 2) mNil)) (mC (.int 30)))))) [.val s, .val (.bool w), .val (.str (S l)), .non, .non] = .ok (.rt (.bool (goodT l))) [.val s, .val (.bool w), .val (.str (S l)), .val (.bool (l.all fun c => decide (c ∈ AL))), .non] := by
  have e0 := len_S (l := l) (by omega)
  have e1 := lcS_pure (j := 4) (it := mItems (mVar 2)) (t := b__law_quoted_T1) (e := b__law_quoted_E1) (δ := [.val s, .val (.bool w), .val (.str (S l)), .non, .non]) (δ' := [.val s, .val (.bool w), .val (.str (S l)), .non, .non]) (items := l.map fun c => .str (S [c])) inT id rfl (by simp) rfl (by rw [List.length_map]; omega) (fun x hx => by
    obtain ⟨c, hc, rfl⟩ := List.mem_map.mp hx
    refine ⟨?_, fun _ => by unfold b__law_quoted_E1; walk_at "ev"; rfl⟩
    unfold b__law_quoted_T1
    have e := in_S c AL2
    simp only [signs2_S]
    iterate 2 ((try simp only [e]); walk_at "ev")
    simp [AL12, inT])
  rw [List.map_id] at e1
  have e2 : (((l.map fun c => PyData.str (S [c])).filter inT).length) = (l.filter fun c => decide (c ∈ AL)).length := by
    rw [List.filter_map, List.length_map]
    congr 1
    apply List.filter_congr
    intro c _
    simp [inT]
  have e3 := filter_len l fun c => decide (c ∈ AL)
  unfold goodT
  have e4 : decide (((l.length : Nat) : Int) ≤ 30) = decide (l.length ≤ 30) := decide_eq_decide.mpr (by omega)
  rw [← e4]
  generalize hg : (l.all fun c => decide (c ∈ AL)) = g
  rw [hg] at e3
  generalize hh : (g && decide (((l.length : Nat) : Int) ≤ 30)) = hv
  walk_at "ev"
  simp only [e1]
  walk_at "ev"
  simp only [e2, e0]
  walk_at "ev"
  simp only [e3]
  subst hh
  cases g
  · iterate 4 ((try simp only [e0]); walk_at "ev")
    rfl
  · iterate 4 ((try simp only [e0]); walk_at "ev")
    rfl
theorem quo_eq {T : List Nat} (h : T.length ≤ 200) (hc : ∀ c ∈ T, c < 1000) (w : Bool) : m__law_quoted [.str (S T), .bool w] = .ok (.bool (quoB T w)) [] := by
  have hd : (T.drop 1).length ≤ 200 := by rw [List.length_drop]; omega
  have f1 := fr1 T h
  have hb : quoB T w = if (T.drop 1).drop ((T.drop 1).length - 1) = [34] then goodT ((T.drop 1).take ((T.drop 1).length - 1)) else if w then false else goodT (T.drop 1) := rfl
  have hcd := lt_drop hc 1
  generalize T.drop 1 = R at hd f1 hb hcd
  have f2 := len_S (l := R) (by omega)
  have f3 := lst0 R hd
  have f4 := eq_S (lt_drop hcd (R.length - 1)) (one_lt (d := 34) (by decide))
  have g1 := good_eq (l := R) hd (.str (S T)) w
  have g2 := good_eq (l := R.take (R.length - 1)) (by rw [List.length_take]; omega) (.str (S T)) w
  unfold m__law_quoted b__law_quoted
  rw [mDef, mSeq]
  generalize (mSeq (mAsg (setV 3) (mOp dEq (mCall dLen (mCons (mOf (mLcS [4] (mItems (mVar 2)) (setV 4) b__law_quoted_T1 b__law_quoted_E1)) mNil)) (mCall dLen (mCons (mVar 2) mNil))))
    (mRet (mAnd (mVar 3) (mOp dLe (mCall dLen (mCons (mVar 2) mNil)) (mC (.int 30)))))) = rest at g1 g2 ⊢
  by_cases q : R.drop (R.length - 1) = [34]
  · rw [decide_eq_true q] at f4
    have hne : R ≠ [] := fun z => by rw [z] at q; cases q
    have f5 := bl0 R hd hne
    rw [hb, if_pos q]
    iterate 10 ((try simp only [f1, f2, f3, f4, f5, q_S, g2]); walk_at "ev")
  · rw [decide_eq_false q] at f4
    rw [hb, if_neg q]
    cases w
    · iterate 10 ((try simp only [f1, f2, f3, f4, q_S, g1]); walk_at "ev")
    · iterate 10 ((try simp only [f1, f2, f3, f4, q_S]); walk_at "ev")
def itB : List (List Nat) → Bool → Bool
  | [], _ => true
  | [x], cl => digB x cl
  | x :: y :: r, cl => digB x true && itB (y :: r) cl
def braI (I : List Nat) (cl w : Bool) : Bool := if (w && !cl) = true then false else if I = [] then true else itB (TL.spl [32] 0 [] I) cl && decide ((TL.spl [32] 0 [] I).length ≤ 12)
def braB (T : List Nat) (w : Bool) : Bool := if (T.drop 1).drop ((T.drop 1).length - 1) = [93] then braI ((T.drop 1).take ((T.drop 1).length - 1)) true w else braI (T.drop 1) false w
theorem spl_len : ∀ (l : List Nat) (acc : List Nat), (TL.spl [32] 0 acc l).length ≤ l.length + 1 ∧ ∀ x ∈ TL.spl [32] 0 acc l, ∀ c ∈ x, c ∈ acc ∨ c ∈ l
  | [], acc => by
    rw [TL.spl_nil]
    exact ⟨by simp, fun x hx c hc => by rw [List.mem_singleton.mp hx] at hc; exact .inl hc⟩
  | d :: r, acc => by
    cases q : TL.pre [32] (d :: r) with
    | true =>
      rw [TL.spl_hit q]
      obtain ⟨h1, h2⟩ := spl_len r []
      refine ⟨by show (TL.spl [32] 0 [] r).length + 1 ≤ (r.length + 1) + 1; omega, fun x hx c hc => ?_⟩
      rcases List.mem_cons.mp hx with rfl | hx
      · exact .inl hc
      · rcases h2 x hx c hc with z | z
        · cases z
        · exact .inr (List.mem_cons_of_mem _ z)
    | false =>
      rw [TL.spl_miss q]
      obtain ⟨h1, h2⟩ := spl_len r (acc ++ [d])
      refine ⟨by rw [List.length_cons]; omega, fun x hx c hc => ?_⟩
      rcases h2 x hx c hc with z | z
      · rcases List.mem_append.mp z with z | z
        · exact .inl z
        · rw [List.mem_singleton.mp z]; exact .inr List.mem_cons_self
      · exact .inr (List.mem_cons_of_mem _ z)
theorem spl_ne (l : List Nat) : ∀ acc, TL.spl [32] 0 acc l ≠ [] := by
  induction l with
  | nil => intro acc; rw [TL.spl_nil]; simp
  | cons d r ih =>
    intro acc
    cases q : TL.pre [32] (d :: r) with
    | true => rw [TL.spl_hit q]; simp
    | false => rw [TL.spl_miss q]; exact ih _
/-- the items one by one -/
theorem its_w {items : List (List Nat)} (hi : ∀ x ∈ items, x.length ≤ 200 ∧ ∀ c ∈ x, c < 1000) (hl : items.length ≤ 300) (s0 s1 s2 : D) (cl : Bool) : ∀ (V : List (List Nat)) (i : Nat) (o : Option D), items.drop i = V → V ≠ [] →
    (itB V cl = true → ∃ o', mFor (setV 6) b__law_bracketed_L1 (intsFrom i V.length) [.val s0, .val s1, .val s2, .val (.bool cl), .val (.list (items.map fun x => .str (S x))), .val (.int ((items.length : Int) - 1)), cO o] = .ok .nx [.val s0, .val s1, .val s2, .val (.bool cl), .val (.list (items.map fun x => .str (S x))), .val (.int ((items.length : Int) - 1)), cO o']) ∧
    (itB V cl = false → ∃ δ, mFor (setV 6) b__law_bracketed_L1 (intsFrom i V.length) [.val s0, .val s1, .val s2, .val (.bool cl), .val (.list (items.map fun x => .str (S x))), .val (.int ((items.length : Int) - 1)), cO o] = .ok (.rt (.bool false)) δ)
  | [], i, o, hV, hne => absurd rfl hne
  | x :: V, i, o, hV, _ => by
    obtain ⟨h1, h2, h3⟩ := drop_cons hV
    have hx := hi x (List.mem_of_getElem? h2)
    have f1 : atI (items.map fun x => PyData.str (S x)) (i : Int) = some (.str (S x)) := by rw [at_nat, List.getElem?_map, h2]; rfl
    have hlen := congrArg List.length hV
    rw [List.length_drop, List.length_cons] at hlen
    have key : ∀ b : Bool, b = (cl || decide (i + 1 < items.length)) → ∀ r, (digB x b = true → mFor (setV 6) b__law_bracketed_L1 (.int (i : Int) :: r) [.val s0, .val s1, .val s2, .val (.bool cl), .val (.list (items.map fun x => .str (S x))), .val (.int ((items.length : Int) - 1)), cO o] = mFor (setV 6) b__law_bracketed_L1 r [.val s0, .val s1, .val s2, .val (.bool cl), .val (.list (items.map fun x => .str (S x))), .val (.int ((items.length : Int) - 1)), cO (some (.int i))]) ∧
        (digB x b = false → ∃ δ, mFor (setV 6) b__law_bracketed_L1 (.int (i : Int) :: r) [.val s0, .val s1, .val s2, .val (.bool cl), .val (.list (items.map fun x => .str (S x))), .val (.int ((items.length : Int) - 1)), cO o] = .ok (.rt (.bool false)) δ) := by
      intro b hb r
      have f2 := dig_eq hx.1 hx.2 b
      have f3 : decide ((i : Int) < (items.length : Int) - 1) = decide (i + 1 < items.length) := decide_eq_decide.mpr (by omega)
      refine ⟨fun hd => ?_, fun hd => ⟨[.val s0, .val s1, .val s2, .val (.bool cl), .val (.list (items.map fun x => .str (S x))), .val (.int ((items.length : Int) - 1)), .val (.int i)], ?_⟩⟩
      · rw [hd] at f2
        rw [mFor]
        unfold b__law_bracketed_L1
        cases cl
        · rw [Bool.false_or] at hb
          rw [hb, ← f3] at f2
          iterate 8 ((try simp only [f1, f2]); walk_at "ev")
          rfl
        · rw [Bool.true_or] at hb
          rw [hb] at f2
          iterate 8 ((try simp only [f1, f2]); walk_at "ev")
          rfl
      · rw [hd] at f2
        rw [mFor]
        unfold b__law_bracketed_L1
        cases cl
        · rw [Bool.false_or] at hb
          rw [hb, ← f3] at f2
          iterate 8 ((try simp only [f1, f2]); walk_at "ev")
        · rw [Bool.true_or] at hb
          rw [hb] at f2
          iterate 8 ((try simp only [f1, f2]); walk_at "ev")
    rw [List.length_cons, intsFrom]
    cases V with
    | nil =>
      rw [List.length_nil] at hlen
      have k := key cl (by rw [decide_eq_false (by omega), Bool.or_false]) (intsFrom (i + 1) 0)
      rw [itB]
      exact ⟨fun z => ⟨some (.int i), k.1 z⟩, fun z => k.2 z⟩
    | cons y V =>
      rw [List.length_cons] at hlen
      have k := key true (by rw [decide_eq_true (by omega), Bool.or_true]) (intsFrom (i + 1) (y :: V).length)
      have ih := its_w hi hl s0 s1 s2 cl (y :: V) (i + 1) (some (.int i)) h3 (by simp)
      rw [itB]
      cases q : digB x true with
      | true =>
        rw [Bool.true_and, k.1 q]
        exact ih
      | false =>
        rw [Bool.false_and]
        exact ⟨fun z => (by cases z), fun _ => k.2 q⟩
end K03
end Part_QG

section Part_QH
set_option Elab.async false
set_option linter.all false
set_option maxRecDepth 100000
set_option autoImplicit false
set_option maxHeartbeats 2000000
namespace K03
open PySem PySem.Spec PyProof.Rows L2 DL SX
local macro_rules | `(tactic| walk_at "ev") => `(tactic| try simp -implicitDefEqProofs only [mDef, mSeq, mIf, mT, mTr, mOp, mUn, mVar, mC, mCall, mCons, mNil, mRet, mSkip, mAsg, mSl, mPart, mNoPart, mAndT, mOrT, mNotT, mAnd, mOr, mNot, mIfE, mChain, mIs, mIs2, mOf, mNew, mCallF, mM1, mM0, mIxM, mLenM, mApp, mSetM, mSetIx, mAug, mFrz, mForS, mRng1, mRng2, mItems, setV_zn, setV_zv, setV_zo, setV_succ, setM, frz, setT2, mBk, mCt, mNo, 
  DL.bind_ok, DL.bind_no, DL.bind_ite, lift_some, lift_none, List.map_cons, List.map_nil, List.length_cons, List.length_nil, List.replicate_succ, List.replicate_zero, List.cons_append, List.nil_append, List.append_nil, List.getElem?_cons_zero, List.getElem?_cons_succ, List.set_cons_zero, List.set_cons_succ, Nat.reduceAdd, Nat.reduceSub, Nat.zero_add, Nat.sub_self, decide_eq_true_eq,
  add_ii, sub_ii, neg_i, mul_r, mul_l, div_s, mod_s, eq_ii, ne_ii, eq_bb, ne_bb, lt_ii, gt_ii, le_ii, ge_ii, len_l, len_t, int_i, int_b, abs_i, max_ii, min_ii, tuple_l, ix_l, ix_t, tr_b, Nat.reduceLeDiff, if_true, if_false, Option.map_some, Option.bind_some, reduceIte, Int.reduceLT, Int.reduceNeg, Int.reduceMul, Nat.reduceLT, Nat.le_refl, LINE, Bool.false_eq_true, Bool.not_true, Bool.not_false, Bool.true_eq_false, e_nn, e_tn, e_tt, e_sn, e_st, e_ss, e_ln, e_lt, e_ls, is_bool_n, is_bool_t, is_bool_s, is_bool_l, is_int_n, is_int_t, is_int_s, is_int_l, is_str_n, is_str_t, is_str_s, is_str_l, is_tuple_n, is_tuple_t, is_tuple_s, is_tuple_l, is_list_n, is_list_t, is_list_s, is_list_l, Bool.false_or, Bool.true_or, Bool.or_true, Bool.or_false, c_QUOTE, c_SIGNS, c_DIGITS, c_NUMBER_LIMIT, c_TEXT_LIMIT, c_LIST_LIMIT, dItems, mCallE, mDefE, mRaise, mTryR, t_Malformed, DL.R.bind_ex, Int.reduceEq])
local macro_rules | `(tactic| walk_at "ev*") => `(tactic| try simp -implicitDefEqProofs only [mDef, mSeq, mIf, mT, mTr, mOp, mUn, mVar, mC, mCall, mCons, mNil, mRet, mSkip, mAsg, mSl, mPart, mNoPart, mAndT, mOrT, mNotT, mAnd, mOr, mNot, mIfE, mChain, mIs, mIs2, mOf, mNew, mCallF, mM1, mM0, mIxM, mLenM, mApp, mSetM, mSetIx, mAug, mFrz, mForS, mRng1, mRng2, mItems, setV_zn, setV_zv, setV_zo, setV_succ, setM, frz, setT2, mBk, mCt, mNo, 
  DL.bind_ok, DL.bind_no, DL.bind_ite, lift_some, lift_none, List.map_cons, List.map_nil, List.length_cons, List.length_nil, List.replicate_succ, List.replicate_zero, List.cons_append, List.nil_append, List.append_nil, List.getElem?_cons_zero, List.getElem?_cons_succ, List.set_cons_zero, List.set_cons_succ, Nat.reduceAdd, Nat.reduceSub, Nat.zero_add, Nat.sub_self, decide_eq_true_eq,
  add_ii, sub_ii, neg_i, mul_r, mul_l, div_s, mod_s, eq_ii, ne_ii, eq_bb, ne_bb, lt_ii, gt_ii, le_ii, ge_ii, len_l, len_t, int_i, int_b, abs_i, max_ii, min_ii, tuple_l, ix_l, ix_t, tr_b, Nat.reduceLeDiff, if_true, if_false, Option.map_some, Option.bind_some, reduceIte, Int.reduceLT, Int.reduceNeg, Int.reduceMul, Nat.reduceLT, Nat.le_refl, LINE, Bool.false_eq_true, Bool.not_true, Bool.not_false, Bool.true_eq_false, e_nn, e_tn, e_tt, e_sn, e_st, e_ss, e_ln, e_lt, e_ls, is_bool_n, is_bool_t, is_bool_s, is_bool_l, is_int_n, is_int_t, is_int_s, is_int_l, is_str_n, is_str_t, is_str_s, is_str_l, is_tuple_n, is_tuple_t, is_tuple_s, is_tuple_l, is_list_n, is_list_t, is_list_s, is_list_l, Bool.false_or, Bool.true_or, Bool.or_true, Bool.or_false, c_QUOTE, c_SIGNS, c_DIGITS, c_NUMBER_LIMIT, c_TEXT_LIMIT, c_LIST_LIMIT, dItems, mCallE, mDefE, mRaise, mTryR, t_Malformed, DL.R.bind_ex, Int.reduceEq, *])
theorem spl_it : ∀ (l : List Nat) (acc x : List Nat), x ∈ TL.spl [32] 0 acc l → x.length ≤ acc.length + l.length
  | [], acc, x, hx => by
    rw [TL.spl_nil] at hx
    rw [List.mem_singleton.mp hx]
    simp
  | d :: r, acc, x, hx => by
    cases q : TL.pre [32] (d :: r) with
    | true =>
      rw [TL.spl_hit q] at hx
      rcases List.mem_cons.mp hx with rfl | hx
      · exact Nat.le_add_right _ _
      · have := spl_it r [] x hx
        rw [List.length_nil] at this
        rw [List.length_cons]
        omega
    | false =>
      rw [TL.spl_miss q] at hx
      have := spl_it r _ x hx
      rw [List.length_append, List.length_singleton] at this
      rw [List.length_cons]
      omega
theorem brI_eq {I : List Nat} (h : I.length ≤ 200) (hc : ∀ c ∈ I, c < 1000) (s : D) (w cl : Bool) : ∃ δ, (mSeq (mIf (mAndT (mTr (mVar 1)) (mNotT (mTr (mVar 3))))
    (mRet (mC (.bool false)))
    mSkip)
    (mSeq (mIf (mT (mOp dEq (mVar 2) (mC (.str ""))))
    (mRet (mC (.bool true)))
    mSkip)
    (mSeq (mAsg (setV 4) (mM1 dSplit (mVar 2) (mC (.str " "))))
    (mSeq (mAsg (setV 5) (mOp dSub (mCall dLen (mCons (mVar 4) mNil)) (mC (.int 1))))
    (mSeq (mForS (mRng1 (mCall dLen (mCons (mVar 4) mNil))) (setV 6)
    b__law_bracketed_L1)
    (mRet (mOp dLe (mCall dLen (mCons (mVar 4) mNil)) (mC (.int 12))))))))) [.val s, .val (.bool w), .val (.str (S I)), .val (.bool cl), .non, .non, .non] = .ok (.rt (.bool (braI I cl w))) δ := by
  have e3 := eq_S hc (m := []) (by simp)
  by_cases q : (w && !cl) = true
  · have hb : braI I cl w = false := by unfold braI; rw [if_pos q]
    obtain ⟨rfl, rfl⟩ : w = true ∧ cl = false := by cases w <;> cases cl <;> simp_all
    refine ⟨[.val s, .val (.bool true), .val (.str (S I)), .val (.bool false), .non, .non, .non], ?_⟩
    rw [hb]
    iterate 3 (walk_at "ev")
  · have q' : (if (w && !cl) = true then false else true) = true := by rw [if_neg q]
    by_cases q2 : I = []
    · have hb : braI I cl w = true := by unfold braI; rw [if_neg q, if_pos q2]
      rw [decide_eq_true q2] at e3
      refine ⟨[.val s, .val (.bool w), .val (.str (S I)), .val (.bool cl), .non, .non, .non], ?_⟩
      rw [hb]
      cases w <;> cases cl <;> first | exact absurd rfl q | (iterate 5 ((try simp only [empty_S, e3]); walk_at "ev"))
    · have hb : braI I cl w = (itB (TL.spl [32] 0 [] I) cl && decide ((TL.spl [32] 0 [] I).length ≤ 12)) := by unfold braI; rw [if_neg q, if_neg q2]
      rw [decide_eq_false q2] at e3
      obtain ⟨hl, hm⟩ := spl_len I []
      have hi : ∀ x ∈ TL.spl [32] 0 [] I, x.length ≤ 200 ∧ ∀ c ∈ x, c < 1000 := fun x hx => by
        refine ⟨Nat.le_trans (spl_it I [] x hx) (by simpa using h), fun c hc' => ?_⟩
        rcases hm x hx c hc' with z | z
        · cases z
        · exact hc c z
      have sp : dSplit (.str (S I)) [.str (S [32])] = some (.list ((TL.spl [32] 0 [] I).map fun x => .str (S x))) := by
        show (if ((S [32]).length == 0) = false ∧ (S I).length + 2 ≤ LINE then some (PyData.list ((Txt.split (S I) (S [32])).map .str)) else none) = _
        rw [if_pos ⟨by decide +kernel, by rw [S_len]; show _ ≤ 16777216; omega⟩, split_S (by simp) (by decide), List.map_map]
        rfl
      generalize hit : TL.spl [32] 0 [] I = items at hl hi sp hb
      have hne : items ≠ [] := by rw [← hit]; exact spl_ne I []
      have W := its_w hi (by omega) s (.bool w) (.str (S I)) cl items 0 none rfl hne
      have rg : rng 0 (items.length : Int) = intsFrom 0 items.length := by
        have := rng_ints items.length 0
        rw [Nat.zero_add] at this
        exact this
      have bg := big_of (i := items.length) (by omega) (by omega)
      have W1 : itB items cl = true → ∃ o', mFor (setV 6) b__law_bracketed_L1 (intsFrom 0 items.length) [.val s, .val (.bool w), .val (.str (S I)), .val (.bool cl), .val (.list (items.map fun x => .str (S x))), .val (.int ((items.length : Int) - 1)), .non] = _ := W.1
      have W2 : itB items cl = false → ∃ δ, mFor (setV 6) b__law_bracketed_L1 (intsFrom 0 items.length) [.val s, .val (.bool w), .val (.str (S I)), .val (.bool cl), .val (.list (items.map fun x => .str (S x))), .val (.int ((items.length : Int) - 1)), .non] = _ := W.2
      have e12 : decide (((items.length : Nat) : Int) ≤ 12) = decide (items.length ≤ 12) := decide_eq_decide.mpr (by omega)
      cases qi : itB items cl with
      | true =>
        obtain ⟨o, e⟩ := W1 qi
        rw [qi, Bool.true_and, ← e12] at hb
        rw [hb]
        refine ⟨[.val s, .val (.bool w), .val (.str (S I)), .val (.bool cl), .val (.list (items.map fun x => .str (S x))), .val (.int ((items.length : Int) - 1)), cO o], ?_⟩
        cases w <;> cases cl <;> first | exact absurd rfl q | (iterate 12 ((try simp only [empty_S, e3, sp_S, sp, List.length_map, rg, bg, e]); walk_at "ev"))
      | false =>
        obtain ⟨δ, e⟩ := W2 qi
        rw [qi, Bool.false_and] at hb
        rw [hb]
        refine ⟨δ, ?_⟩
        cases w <;> cases cl <;> first | exact absurd rfl q | (iterate 12 ((try simp only [empty_S, e3, sp_S, sp, List.length_map, rg, bg, e]); walk_at "ev"))
theorem bra_eq {T : List Nat} (h : T.length ≤ 200) (hc : ∀ c ∈ T, c < 1000) (w : Bool) : m__law_bracketed [.str (S T), .bool w] = .ok (.bool (braB T w)) [] := by
  have hd : (T.drop 1).length ≤ 200 := by rw [List.length_drop]; omega
  have f1 := fr1 T h
  have hb : braB T w = if (T.drop 1).drop ((T.drop 1).length - 1) = [93] then braI ((T.drop 1).take ((T.drop 1).length - 1)) true w else braI (T.drop 1) false w := rfl
  have hcd := lt_drop hc 1
  generalize T.drop 1 = R at hd f1 hb hcd
  have f2 := len_S (l := R) (by omega)
  have f3 := lst0 R hd
  have f4 := eq_S (lt_drop hcd (R.length - 1)) (one_lt (d := 93) (by decide))
  obtain ⟨δ1, g1⟩ := brI_eq (I := R) hd hcd (.str (S T)) w false
  obtain ⟨δ2, g2⟩ := brI_eq (I := R.take (R.length - 1)) (by rw [List.length_take]; omega) (lt_take hcd _) (.str (S T)) w true
  unfold m__law_bracketed b__law_bracketed
  rw [mDef, mSeq]
  generalize (mSeq (mIf (mAndT (mTr (mVar 1)) (mNotT (mTr (mVar 3))))
    (mRet (mC (.bool false)))
    mSkip)
    (mSeq (mIf (mT (mOp dEq (mVar 2) (mC (.str ""))))
    (mRet (mC (.bool true)))
    mSkip)
    (mSeq (mAsg (setV 4) (mM1 dSplit (mVar 2) (mC (.str " "))))
    (mSeq (mAsg (setV 5) (mOp dSub (mCall dLen (mCons (mVar 4) mNil)) (mC (.int 1))))
    (mSeq (mForS (mRng1 (mCall dLen (mCons (mVar 4) mNil))) (setV 6)
    b__law_bracketed_L1)
    (mRet (mOp dLe (mCall dLen (mCons (mVar 4) mNil)) (mC (.int 12))))))))) = rest at g1 g2 ⊢
  by_cases q : R.drop (R.length - 1) = [93]
  · rw [decide_eq_true q] at f4
    have hne : R ≠ [] := fun z => by rw [z] at q; cases q
    have f5 := bl0 R hd hne
    rw [hb, if_pos q]
    iterate 10 ((try simp only [f1, f2, f3, f4, f5, rb_S, g2]); walk_at "ev")
  · rw [decide_eq_false q] at f4
    rw [hb, if_neg q]
    iterate 10 ((try simp only [f1, f2, f3, f4, rb_S, g1]); walk_at "ev")
/-! ### begins -/
def pref (T W : List Nat) : Bool := decide (T.length ≤ W.length) && (W.take T.length == T)
theorem starts_eq (W T : List Nat) : Txt.startswith (S W) (S T) = pref T W := by
  unfold Txt.startswith pref
  rw [StrLaws.subAt_eq, S_len, S_len, Nat.zero_add]
  rfl
def begB (T : List Nat) (w : Bool) : Bool :=
  if T = [] then !w else if T.head? = some 34 then quoB T w else if T.head? = some 91 then braB T w
  else if T.head? = some 116 ∨ T.head? = some 102 then (decide (T = [116, 114, 117, 101]) || decide (T = [102, 97, 108, 115, 101])) || (!w && (pref T [116, 114, 117, 101] || pref T [102, 97, 108, 115, 101])) else digB T w
theorem tf_S : ("tf" : Str) = S [116, 102] := by decide +kernel
theorem beg_eq {T : List Nat} (h : T.length ≤ 200) (hc : ∀ c ∈ T, c < 1000) (w : Bool) : m__law_begins [.str (S T), .bool w] = .ok (.bool (begB T w)) [] := by
  have e3 := eq_S hc (m := []) (by simp)
  have f1 := quo_eq h hc w
  have f2 := bra_eq h hc w
  have f3 := dig_eq h hc w
  cases T with
  | nil =>
    unfold m__law_begins b__law_begins
    rw [decide_eq_true rfl] at e3
    have hb : begB [] w = !w := rfl
    rw [hb]
    iterate 4 ((try simp only [empty_S, e3]); walk_at "ev")
  | cons c r =>
    rw [decide_eq_false (by simp)] at e3
    have hcc := hc c List.mem_cons_self
    have g0 : dIx (.str (S (c :: r))) (.int 0) = some (.str (S [c])) := ix_S (k := 0) (by omega)
    have g1 := eq1 (c := c) (d := 34) hcc (by decide)
    have g2 := eq1 (c := c) (d := 91) hcc (by decide)
    have g3 := in_S c [116, 102]
    unfold m__law_begins b__law_begins
    by_cases q1 : c = 34
    · have hb : begB (c :: r) w = quoB (c :: r) w := by unfold begB; rw [if_neg (by simp), if_pos (by rw [q1]; rfl)]
      rw [decide_eq_true q1] at g1
      rw [hb]
      iterate 6 ((try simp only [empty_S, e3, g0, q_S, g1, f1]); walk_at "ev")
    rw [decide_eq_false q1] at g1
    by_cases q2 : c = 91
    · have hb : begB (c :: r) w = braB (c :: r) w := by unfold begB; rw [if_neg (by simp), if_neg (by simpa using q1), if_pos (by rw [q2]; rfl)]
      rw [decide_eq_true q2] at g2
      rw [hb]
      iterate 8 ((try simp only [empty_S, e3, g0, q_S, lb_S, g1, g2, f2]); walk_at "ev")
    rw [decide_eq_false q2] at g2
    by_cases q3 : c = 116 ∨ c = 102
    · have hb : begB (c :: r) w = ((decide (c :: r = [116, 114, 117, 101]) || decide (c :: r = [102, 97, 108, 115, 101])) || (!w && (pref (c :: r) [116, 114, 117, 101] || pref (c :: r) [102, 97, 108, 115, 101]))) := by
        unfold begB
        rw [if_neg (by simp), if_neg (by simpa using q1), if_neg (by simpa using q2), if_pos (by simpa using q3)]
      rw [decide_eq_true (by simpa using q3)] at g3
      have i1 : dIn (.str (S (c :: r))) (.list [.str (S [116, 114, 117, 101]), .str (S [102, 97, 108, 115, 101])]) = some (.bool (decide (c :: r = [116, 114, 117, 101]) || decide (c :: r = [102, 97, 108, 115, 101]))) := by
        show some (PyData.bool ((S [116, 114, 117, 101] == S (c :: r)) || ((S [102, 97, 108, 115, 101] == S (c :: r)) || false))) = _
        rw [S_beq_eq, S_beq_eq, Bool.or_false]
        congr 3
        · exact decide_eq_decide.mpr eq_comm
        · exact decide_eq_decide.mpr eq_comm
      have i2 : dStarts (.str (S [116, 114, 117, 101])) [.str (S (c :: r))] = some (.bool (pref (c :: r) [116, 114, 117, 101])) := by
        show some (PyData.bool (Txt.startswith _ _)) = _
        rw [starts_eq]
      have i3 : dStarts (.str (S [102, 97, 108, 115, 101])) [.str (S (c :: r))] = some (.bool (pref (c :: r) [102, 97, 108, 115, 101])) := by
        show some (PyData.bool (Txt.startswith _ _)) = _
        rw [starts_eq]
      rw [hb]
      generalize (decide (c :: r = [116, 114, 117, 101]) || decide (c :: r = [102, 97, 108, 115, 101])) = a at i1 ⊢
      generalize pref (c :: r) [116, 114, 117, 101] = b at i2 ⊢
      generalize pref (c :: r) [102, 97, 108, 115, 101] = d at i3 ⊢
      cases a <;> cases w <;> cases b <;> cases d <;> (iterate 14 ((try simp only [empty_S, e3, g0, q_S, lb_S, tf_S, true_S, false_S, g1, g2, g3, i1, i2, i3]); walk_at "ev")) <;> rfl
    · have hb : begB (c :: r) w = digB (c :: r) w := by
        unfold begB
        rw [if_neg (by simp), if_neg (by simpa using q1), if_neg (by simpa using q2), if_neg (by simpa using q3)]
      rw [decide_eq_false (by simpa using q3)] at g3
      rw [hb]
      iterate 10 ((try simp only [empty_S, e3, g0, q_S, lb_S, tf_S, g1, g2, g3, f3]); walk_at "ev")
end K03
end Part_QH

section Part_QI
set_option Elab.async false
set_option linter.all false
set_option maxRecDepth 100000
set_option autoImplicit false
set_option maxHeartbeats 2000000
namespace K03
open PySem PySem.Spec PyProof.Rows L2 DL SX
local macro_rules | `(tactic| walk_at "ev") => `(tactic| try simp -implicitDefEqProofs only [mDef, mSeq, mIf, mT, mTr, mOp, mUn, mVar, mC, mCall, mCons, mNil, mRet, mSkip, mAsg, mSl, mPart, mNoPart, mAndT, mOrT, mNotT, mAnd, mOr, mNot, mIfE, mChain, mIs, mIs2, mOf, mNew, mCallF, mM1, mM0, mIxM, mLenM, mApp, mSetM, mSetIx, mAug, mFrz, mForS, mRng1, mRng2, mItems, setV_zn, setV_zv, setV_zo, setV_succ, setM, frz, setT2, mBk, mCt, mNo, 
  DL.bind_ok, DL.bind_no, DL.bind_ite, lift_some, lift_none, List.map_cons, List.map_nil, List.length_cons, List.length_nil, List.replicate_succ, List.replicate_zero, List.cons_append, List.nil_append, List.append_nil, List.getElem?_cons_zero, List.getElem?_cons_succ, List.set_cons_zero, List.set_cons_succ, Nat.reduceAdd, Nat.reduceSub, Nat.zero_add, Nat.sub_self, decide_eq_true_eq,
  add_ii, sub_ii, neg_i, mul_r, mul_l, div_s, mod_s, eq_ii, ne_ii, eq_bb, ne_bb, lt_ii, gt_ii, le_ii, ge_ii, len_l, len_t, int_i, int_b, abs_i, max_ii, min_ii, tuple_l, ix_l, ix_t, tr_b, Nat.reduceLeDiff, if_true, if_false, Option.map_some, Option.bind_some, reduceIte, Int.reduceLT, Int.reduceNeg, Int.reduceMul, Nat.reduceLT, Nat.le_refl, LINE, Bool.false_eq_true, Bool.not_true, Bool.not_false, Bool.true_eq_false, e_nn, e_tn, e_tt, e_sn, e_st, e_ss, e_ln, e_lt, e_ls, is_bool_n, is_bool_t, is_bool_s, is_bool_l, is_int_n, is_int_t, is_int_s, is_int_l, is_str_n, is_str_t, is_str_s, is_str_l, is_tuple_n, is_tuple_t, is_tuple_s, is_tuple_l, is_list_n, is_list_t, is_list_s, is_list_l, Bool.false_or, Bool.true_or, Bool.or_true, Bool.or_false, c_QUOTE, c_SIGNS, c_DIGITS, c_NUMBER_LIMIT, c_TEXT_LIMIT, c_LIST_LIMIT, dItems, mCallE, mDefE, mRaise, mTryR, t_Malformed, DL.R.bind_ex, Int.reduceEq])
local macro_rules | `(tactic| walk_at "ev*") => `(tactic| try simp -implicitDefEqProofs only [mDef, mSeq, mIf, mT, mTr, mOp, mUn, mVar, mC, mCall, mCons, mNil, mRet, mSkip, mAsg, mSl, mPart, mNoPart, mAndT, mOrT, mNotT, mAnd, mOr, mNot, mIfE, mChain, mIs, mIs2, mOf, mNew, mCallF, mM1, mM0, mIxM, mLenM, mApp, mSetM, mSetIx, mAug, mFrz, mForS, mRng1, mRng2, mItems, setV_zn, setV_zv, setV_zo, setV_succ, setM, frz, setT2, mBk, mCt, mNo, 
  DL.bind_ok, DL.bind_no, DL.bind_ite, lift_some, lift_none, List.map_cons, List.map_nil, List.length_cons, List.length_nil, List.replicate_succ, List.replicate_zero, List.cons_append, List.nil_append, List.append_nil, List.getElem?_cons_zero, List.getElem?_cons_succ, List.set_cons_zero, List.set_cons_succ, Nat.reduceAdd, Nat.reduceSub, Nat.zero_add, Nat.sub_self, decide_eq_true_eq,
  add_ii, sub_ii, neg_i, mul_r, mul_l, div_s, mod_s, eq_ii, ne_ii, eq_bb, ne_bb, lt_ii, gt_ii, le_ii, ge_ii, len_l, len_t, int_i, int_b, abs_i, max_ii, min_ii, tuple_l, ix_l, ix_t, tr_b, Nat.reduceLeDiff, if_true, if_false, Option.map_some, Option.bind_some, reduceIte, Int.reduceLT, Int.reduceNeg, Int.reduceMul, Nat.reduceLT, Nat.le_refl, LINE, Bool.false_eq_true, Bool.not_true, Bool.not_false, Bool.true_eq_false, e_nn, e_tn, e_tt, e_sn, e_st, e_ss, e_ln, e_lt, e_ls, is_bool_n, is_bool_t, is_bool_s, is_bool_l, is_int_n, is_int_t, is_int_s, is_int_l, is_str_n, is_str_t, is_str_s, is_str_l, is_tuple_n, is_tuple_t, is_tuple_s, is_tuple_l, is_list_n, is_list_t, is_list_s, is_list_l, Bool.false_or, Bool.true_or, Bool.or_true, Bool.or_false, c_QUOTE, c_SIGNS, c_DIGITS, c_NUMBER_LIMIT, c_TEXT_LIMIT, c_LIST_LIMIT, dItems, mCallE, mDefE, mRaise, mTryR, t_Malformed, DL.R.bind_ex, Int.reduceEq, *])
def readP (T : List Nat) : Pr D := match valP T with
  | .er n => .er n
  | .ok v n => if n < T.length then .er n else .ok v n
theorem read_er {T : List Nat} {e : Nat} (h : T.length ≤ 200) (hc : ∀ c ∈ T, c < 1000) (q : readP T = .er e) (he : e ≤ 200) : ∃ δ, m_read_value [.str (S T)] = .ex 0 (.int (e : Int)) δ := by
  obtain ⟨δ, f1⟩ := value_eq' h hc
  have f2 := len_S (l := T) (by omega)
  have tI : tInt (.int (e : Int)) = true := tI_nat (by omega)
  unfold readP at q
  cases q2 : valP T with
  | er n =>
    rw [q2] at q f1
    cases q
    simp only [rP, Nat.zero_add, id] at f1
    refine ⟨[.val (.str (S T)), .non, .non], ?_⟩
    unfold m_read_value b_read_value
    iterate 6 ((try simp only [f1]); walk_at "ev")
  | ok v n =>
    rw [q2] at q f1
    simp only [rP, Nat.zero_add, id] at f1
    dsimp only at q
    by_cases q3 : n < T.length
    · rw [if_pos q3] at q
      cases q
      have f3 : ((e : Int) < T.length) = True := eq_true (by omega)
      refine ⟨[.val (.str (S T)), .val v, .val (.int e)], ?_⟩
      unfold m_read_value b_read_value
      iterate 8 ((try simp only [f1, f2, f3, tI, id]); walk_at "ev")
    · rw [if_neg q3] at q
      cases q
theorem read_ok {T : List Nat} {v : D} {n : Nat} (h : T.length ≤ 200) (hc : ∀ c ∈ T, c < 1000) (q : readP T = .ok v n) : m_read_value [.str (S T)] = .ok v [] := by
  obtain ⟨δ, f1⟩ := value_eq' h hc
  have f2 := len_S (l := T) (by omega)
  unfold readP at q
  cases q2 : valP T with
  | er n => rw [q2] at q; cases q
  | ok v' n' =>
    rw [q2] at q f1
    simp only [rP, Nat.zero_add, id] at f1
    dsimp only at q
    by_cases q3 : n' < T.length
    · rw [if_pos q3] at q
      cases q
    · rw [if_neg q3] at q
      cases q
      have f3 : ((n : Int) < T.length) = False := eq_false (by omega)
      unfold m_read_value b_read_value
      iterate 8 ((try simp only [f1, f2, f3, id]); walk_at "ev")
/-- what is due of a text -/
inductive Sp (T : List Nat) : Prop
  | ok (v : D) (n : Nat) (r : readP T = .ok v n) (b : begB T true = true) (w : m_write_value [v] = .ok (.str (S T)) [])
  | er (e : Nat) (r : readP T = .er e) (l : e ≤ T.length) (b : begB T true = false) (p : ∀ j, 1 ≤ j → j ≤ e → begB (T.take j) false = true) (x : e < T.length → begB (T.take (e + 1)) false = false)
theorem sl_to' {l : List Nat} {j : Nat} (h : l.length ≤ 200) : dSl (.str (S l)) none (some ((j : Int) + 1)) = some (.str (S (l.take (j + 1)))) := sl_to (j := j + 1) (by omega)
theorem due_w {T : List Nat} (h : T.length ≤ 200) (hc : ∀ c ∈ T, c < 1000) {e : Nat} (l : e ≤ T.length) (p : ∀ j, 1 ≤ j → j ≤ e → begB (T.take j) false = true) (x : e < T.length → begB (T.take (e + 1)) false = false) : ∀ (m i : Nat) (o : Option D), i + m = T.length → i ≤ e →
    (e = T.length → ∃ o', mFor (setV 1) b__law_due_L1 (intsFrom i m) [.val (.str (S T)), cO o] = .ok .nx [.val (.str (S T)), cO o']) ∧ (e < T.length → ∃ δ, mFor (setV 1) b__law_due_L1 (intsFrom i m) [.val (.str (S T)), cO o] = .ok (.rt (.tuple [.str "malformed", .int e, .bool true])) δ)
  | 0, i, o, hm, hi => ⟨fun _ => ⟨o, rfl⟩, fun z => absurd z (by omega)⟩
  | m + 1, i, o, hm, hi => by
    have f1 := sl_to' (l := T) (j := i) h
    have f2 := beg_eq (T := T.take (i + 1)) (by rw [List.length_take]; omega) (lt_take hc _) false
    have tp : dTup [.str "malformed", .int i, .bool true] = some (.tuple [.str "malformed", .int i, .bool true]) := tup_ok (by simp)
    rw [intsFrom, mFor]
    by_cases q : i = e
    · subst q
      refine ⟨fun z => absurd z (by omega), fun z => ⟨[.val (.str (S T)), .val (.int i)], ?_⟩⟩
      rw [x z] at f2
      unfold b__law_due_L1
      iterate 8 ((try simp only [f1, f2, tp]); walk_at "ev")
    · rw [p (i + 1) (by omega) (by omega)] at f2
      have ih := due_w h hc l p x m (i + 1) (some (.int i)) (by omega) (by omega)
      have st : (match setV 1 (.int (i : Int)) [.val (.str (S T)), cO o] with | none => R.no | some δ1 => (b__law_due_L1 δ1).bind fun f δ2 => match f with | .nx => mFor (setV 1) b__law_due_L1 (intsFrom (i + 1) m) δ2 | .ct => mFor (setV 1) b__law_due_L1 (intsFrom (i + 1) m) δ2 | .bk => .ok .nx δ2 | .rt d => .ok (.rt d) δ2) = mFor (setV 1) b__law_due_L1 (intsFrom (i + 1) m) [.val (.str (S T)), cO (some (.int i))] := by
        unfold b__law_due_L1
        iterate 8 ((try simp only [f1, f2]); walk_at "ev")
        rfl
      exact ⟨fun z => by obtain ⟨o', e'⟩ := ih.1 z; exact ⟨o', st.trans e'⟩, fun z => by obtain ⟨δ, e'⟩ := ih.2 z; exact ⟨δ, st.trans e'⟩⟩
theorem due_eq {T : List Nat} (h : T.length ≤ 200) (hc : ∀ c ∈ T, c < 1000) (s : Sp T) : ∃ d, m__law_read [.str (S T)] = .ok d [] ∧ m__law_due [.str (S T)] = .ok d [] ∧ dEq d d = some (.bool true) := by
  have f0 := beg_eq h hc true
  cases s with
  | ok v n r b w =>
    have f1 := read_ok h hc r
    have tp : dTup [.str "value", .str (S T)] = some (.tuple [.str "value", .str (S T)]) := tup_ok (by simp)
    rw [b] at f0
    refine ⟨.tuple [.str "value", .str (S T)], ?_, ?_, ?_⟩
    · unfold m__law_read b__law_read b__law_read_B1
      iterate 8 ((try simp only [f1, w, tp]); walk_at "ev")
    · unfold m__law_due b__law_due
      iterate 6 ((try simp only [f0, tp]); walk_at "ev")
    · have sh : SeqAt.shaped (.tuple [.str "value", .str (S T)]) = true := by
        show ((PyData.canLay0 (.str "value") && (PyData.canLay0 (.str (S T)) && true)) && decide (max 0 (max 0 0) + 1 ≤ 64)) = true
        rw [show PyData.canLay0 (.str "value") = true by decide +kernel, (Bool.and_eq_true_iff.mp (sh_S hc)).1]
        rfl
      unfold dEq
      rw [sh, Bool.and_self, if_pos rfl]
      have : PyData.eqv (.tuple [.str "value", .str (S T)]) (.tuple [.str "value", .str (S T)]) = true := by
        show ((("value" : Str) == ("value" : Str)) && ((S T == S T) && true)) = true
        rw [beq_self_eq_true, beq_self_eq_true]; rfl
      rw [this]
  | er e r l b p x =>
    obtain ⟨δ, f1⟩ := read_er h hc r (by omega)
    have tp : dTup [.str "malformed", .int e, .bool true] = some (.tuple [.str "malformed", .int e, .bool true]) := tup_ok (by simp)
    have f2 := len_S (l := T) (by omega)
    have f3 := big_of (i := T.length) (by omega) (by omega)
    have f4 : rng 0 (T.length : Int) = intsFrom 0 T.length := by
      have := rng_ints T.length 0
      rw [Nat.zero_add] at this
      exact this
    have W := due_w h hc l p x T.length 0 none (by omega) (by omega)
    rw [b] at f0
    refine ⟨.tuple [.str "malformed", .int e, .bool true], ?_, ?_, ?_⟩
    · unfold m__law_read b__law_read b__law_read_B1
      iterate 8 ((try simp only [f1]); walk_at "ev")
    · by_cases q : e = T.length
      · subst q
        obtain ⟨o, w⟩ := W.1 rfl
        have w : mFor (setV 1) b__law_due_L1 (intsFrom 0 T.length) [.val (.str (S T)), .non] = _ := w
        unfold m__law_due b__law_due
        iterate 10 ((try simp only [f0, f2, f3, f4, w, tp]); walk_at "ev")
      · obtain ⟨δ', w⟩ := W.2 (by omega)
        have w : mFor (setV 1) b__law_due_L1 (intsFrom 0 T.length) [.val (.str (S T)), .non] = _ := w
        unfold m__law_due b__law_due
        iterate 10 ((try simp only [f0, f2, f3, f4, w]); walk_at "ev")
    · have sh : SeqAt.shaped (.tuple [.str "malformed", .int e, .bool true]) = true := by
        show ((PyData.canLay0 (.str "malformed") && (true && (true && true))) && decide (max 0 (max 0 (max 0 0)) + 1 ≤ 64)) = true
        rw [show PyData.canLay0 (.str "malformed") = true by decide +kernel]
        rfl
      unfold dEq
      rw [sh, Bool.and_self, if_pos rfl]
      have : PyData.eqv (.tuple [.str "malformed", .int e, .bool true]) (.tuple [.str "malformed", .int e, .bool true]) = true := by
        show ((("malformed" : Str) == ("malformed" : Str)) && (((e : Int) == (e : Int)) && (true && true))) = true
        rw [beq_self_eq_true, beq_self_eq_true]; rfl
      rw [this]
end K03
end Part_QI

section Part_QJ
set_option Elab.async false
set_option linter.all false
set_option maxRecDepth 100000
set_option autoImplicit false
set_option maxHeartbeats 2000000
namespace K03
open PySem PySem.Spec PyProof.Rows L2 DL SX

abbrev fd (acc c : Nat) : Nat := acc * 10 + (c - 48)
theorem fold_ge : ∀ (ds : List Nat) (acc : Nat), acc ≤ ds.foldl fd acc
  | [], acc => Nat.le_refl _
  | c :: ds, acc => by
    have := fold_ge ds (fd acc c)
    rw [List.foldl_cons]
    unfold fd at *
    omega
theorem fold_pow : ∀ (ds : List Nat) (acc : Nat), acc * 10 ^ ds.length ≤ ds.foldl fd acc
  | [], acc => by simp
  | c :: ds, acc => by
    have h := fold_pow ds (fd acc c)
    rw [List.foldl_cons, List.length_cons, Nat.pow_succ]
    have : acc * (10 ^ ds.length * 10) ≤ fd acc c * 10 ^ ds.length := by
      unfold fd
      rw [Nat.add_mul, Nat.mul_comm (10 ^ ds.length) 10, ← Nat.mul_assoc]
      exact Nat.le_add_right _ _
    exact Nat.le_trans this h
theorem dst_spec : ∀ (r : List Nat) (acc : Nat), acc ≤ 1000000 →
    ((r.take (dst r acc).2).all dgB = true) ∧ (r.take (dst r acc).2).foldl fd acc = (dst r acc).1 ∧ (dst r acc).1 ≤ 1000000 ∧ (∀ c, r[(dst r acc).2]? = some c → tak c (dst r acc).1 = false) ∧ ((dst r acc).2 ≠ 0 → 0 < (dst r acc).1) ∧ (acc = 0 → (dst r acc).2 ≠ 0 → ∃ c, r.head? = some c ∧ 49 ≤ c)
  | [], acc, h => ⟨rfl, rfl, h, fun c z => (by cases z), fun z => absurd rfl z, fun _ z => absurd rfl z⟩
  | c :: r, acc, h => by
    rw [dst]
    cases q : tak c acc with
    | true =>
      have q' := q
      unfold tak at q'
      simp only [Bool.and_eq_true, decide_eq_true_eq] at q'
      obtain ⟨⟨c1, c2⟩, c3, c4⟩ := q'
      obtain ⟨a1, a2, a3, a4, a5, a6⟩ := dst_spec r (acc * 10 + (c - 48)) c4
      rw [if_pos rfl]
      refine ⟨?_, ?_, a3, ?_, fun _ => ?_, fun z _ => ⟨c, rfl, ?_⟩⟩
      · show ((c :: r).take (_ + 1)).all dgB = true
        rw [List.take_succ_cons, List.all_cons, a1]
        unfold dgB
        rw [decide_eq_true ⟨c1, c2⟩]
        rfl
      · show ((c :: r).take (_ + 1)).foldl fd acc = _
        rw [List.take_succ_cons, List.foldl_cons]
        exact a2
      · intro d hd
        exact a4 d (by simpa using hd)
      · have := fold_ge (r.take (dst r (acc * 10 + (c - 48))).2) (acc * 10 + (c - 48))
        rw [a2] at this
        omega
      · subst z
        omega
    | false =>
      rw [if_neg Bool.false_ne_true]
      refine ⟨rfl, rfl, h, fun d hd => ?_, fun z => absurd rfl z, fun _ z => absurd rfl z⟩
      cases hd
      exact q
theorem num_of_digits : ∀ (n : Nat) (ds : List Nat), ds.length = n → ds.all dgB = true → (∃ c, ds.head? = some c ∧ 49 ≤ c) → TL.numL (ds.foldl fd 0) = ds
  | 0, ds, hn, _, hh => by
    obtain ⟨c, hc, _⟩ := hh
    cases ds with
    | nil => cases hc
    | cons a b => cases hn
  | n + 1, ds, hn, ha, hh => by
    rcases List.eq_nil_or_concat ds with rfl | ⟨i, c, rfl⟩
    · cases hn
    rw [List.concat_eq_append] at *
    rw [List.all_append, Bool.and_eq_true] at ha
    have hc : 48 ≤ c ∧ c ≤ 57 := by
      have := ha.2
      rw [List.all_cons, List.all_nil, Bool.and_true] at this
      exact of_decide_eq_true this
    rw [List.foldl_append]
    show TL.numL (fd (i.foldl fd 0) c) = _
    cases i with
    | nil =>
      obtain ⟨d, hd, h49⟩ := hh
      cases hd
      show TL.numL (0 * 10 + (c - 48)) = [c]
      rw [TL.numL_lt (by omega)]
      congr 1
      omega
    | cons a i =>
      have hl : (a :: i).length = n := by rw [List.length_append, List.length_singleton] at hn; omega
      have hh' : ∃ c, (a :: i).head? = some c ∧ 49 ≤ c := by
        obtain ⟨d, hd, h49⟩ := hh
        cases hd
        exact ⟨a, rfl, h49⟩
      have ih := num_of_digits n (a :: i) hl ha.1 hh'
      have hpos : 1 ≤ (a :: i).foldl fd 0 := by
        obtain ⟨d, hd, h49⟩ := hh'
        cases hd
        rw [List.foldl_cons]
        have := fold_ge i (fd 0 a)
        unfold fd at *
        omega
      generalize (a :: i).foldl fd 0 = v at ih hpos ⊢
      unfold fd
      rw [TL.numL_step (by omega), show (v * 10 + (c - 48)) / 10 = v by omega, show (v * 10 + (c - 48)) % 10 = c - 48 by omega, ih]
      congr 2
      omega
theorem val_fold (ds : List Nat) : NumText.digitsVal ds = ds.foldl fd 0 := rfl
/-- the digits that dst takes, as a body -/
theorem bod_spec {r : List Nat} (h0 : r.head? ≠ some 48) : (∀ j, j ≤ (dst r 0).2 → bodB (r.take j) false = true) ∧ ((dst r 0).2 ≠ 0 → bodB (r.take (dst r 0).2) true = true ∧ TL.numL (dst r 0).1 = r.take (dst r 0).2 ∧ 1 ≤ (dst r 0).1) ∧ ((dst r 0).2 = 0 → (dst r 0).1 = 0 ∧ bodB [] true = false) ∧ ((dst r 0).2 < r.length → ∀ w, bodB (r.take ((dst r 0).2 + 1)) w = false) ∧ (dst r 0).1 ≤ 1000000 := by
  obtain ⟨a1, a2, a3, a4, a5, a6⟩ := dst_spec r 0 (by omega)
  have hle := dst_le r 0
  generalize hn : (dst r 0).2 = n at *
  generalize hv : (dst r 0).1 = v at *
  have len7 : ∀ j, j ≠ 0 → j ≤ n → (r.take j).length ≤ 7 := by
    intro j hj hjn
    obtain ⟨c, hc, h49⟩ := a6 rfl (by omega)
    cases r with
    | nil => cases hc
    | cons a r =>
      cases hc
      cases j with
      | zero => exact absurd rfl hj
      | succ j =>
        rw [List.take_succ_cons, List.length_cons]
        have e1 : (r.take j).foldl fd (fd 0 c) ≤ v := by
          rw [← a2]
          obtain ⟨k, rfl⟩ : ∃ k, n = j + 1 + k := ⟨n - (j + 1), by omega⟩
          rw [show j + 1 + k = (j + k) + 1 by omega, List.take_succ_cons, List.foldl_cons, List.take_add, List.foldl_append]
          exact fold_ge _ _
        have e2 := fold_pow (r.take j) (fd 0 c)
        have e3 : 1 ≤ fd 0 c := by unfold fd; omega
        have e4 : 10 ^ (r.take j).length ≤ 1000000 := by
          have := Nat.mul_le_mul_right (10 ^ (r.take j).length) e3
          omega
        have : (r.take j).length ≤ 6 := by
          rcases Nat.lt_or_ge (r.take j).length 7 with z | z
          · omega
          · have := Nat.pow_le_pow_right (n := 10) (by omega) z
            omega
        omega
  have pre : ∀ j, j ≠ 0 → j ≤ n → ∀ w, bodB (r.take j) w = true := by
    intro j hj hjn w
    have b1 : (r.take j).all dgB = true := by
      rw [List.all_eq_true] at a1 ⊢
      intro c hc
      refine a1 c ?_
      have : r.take j = (r.take n).take j := by rw [List.take_take, Nat.min_eq_left hjn]
      rw [this] at hc
      exact List.mem_of_mem_take hc
    have b2 := len7 j hj hjn
    obtain ⟨c, hc, h49⟩ := a6 rfl (by omega)
    have b3 : (r.take j).head? = some c := by
      cases r with
      | nil => cases hc
      | cons a r => cases j with
        | zero => exact absurd rfl hj
        | succ j => exact hc
    have b4 : r.take j ≠ [] := fun z => by rw [z] at b3; cases b3
    have b5 : (r.take j).foldl fd 0 ≤ v := by
      rw [← a2]
      obtain ⟨k, rfl⟩ : ∃ k, n = j + k := ⟨n - j, by omega⟩
      rw [List.take_add, List.foldl_append]
      exact fold_ge _ _
    unfold bodB
    rw [b1, decide_eq_false (by omega), if_neg (by simp), if_neg b4, b3, if_neg (by intro z; cases z; omega), val_fold]
    exact decide_eq_true (by omega)
  refine ⟨fun j hj => ?_, fun hz => ⟨pre n hz (Nat.le_refl _) true, ?_, by have := a5 hz; omega⟩, fun hz => ⟨?_, rfl⟩, fun hl w => ?_, a3⟩
  · by_cases hj0 : j = 0
    · subst hj0; rfl
    · exact pre j hj0 hj false
  · rw [← a2]
    refine num_of_digits _ _ rfl a1 ?_
    obtain ⟨c, hc, h49⟩ := a6 rfl hz
    refine ⟨c, ?_, h49⟩
    cases r with
    | nil => cases hc
    | cons a r => cases n with
      | zero => exact absurd rfl hz
      | succ n => exact hc
  · rw [hz] at a2
    exact a2.symm
  · have hg : r[n]? = some r[n] := List.getElem?_eq_getElem hl
    have ht := a4 _ hg
    have e : r.take (n + 1) = r.take n ++ [r[n]] := by rw [List.take_succ, hg]; rfl
    unfold bodB
    by_cases hd : dgB r[n] = true
    · have hd' := of_decide_eq_true hd
      have t2 : ¬ (v * 10 + (r[n] - 48) ≠ 0 ∧ v * 10 + (r[n] - 48) ≤ 1000000) := by
        intro z
        unfold tak at ht
        rw [decide_eq_true hd', decide_eq_true z.1, decide_eq_true z.2] at ht
        cases ht
      by_cases hz : v * 10 + (r[n] - 48) = 0
      · exfalso
        have hn0 : n = 0 := by
          rcases Nat.eq_zero_or_pos n with z | z
          · exact z
          · have := a5 (by omega)
            omega
        subst hn0
        apply h0
        cases r with
        | nil => cases hl
        | cons a r =>
          show some a = some 48
          have : (a :: r)[0] = a := rfl
          rw [this] at hz hd'
          congr 1
          omega
      · have big : 1000000 < v * 10 + (r[n] - 48) := by omega
        have hn0 : n ≠ 0 := fun z => by
          subst z
          have : v = 0 := by rw [← a2]; rfl
          omega
        split
        · rfl
        · rw [if_neg (by rw [e]; exact List.append_ne_nil_of_right_ne_nil _ (by simp))]
          obtain ⟨c, hc, h49⟩ := a6 rfl hn0
          have b3 : (r.take (n + 1)).head? = some c := by
            cases r with
            | nil => cases hc
            | cons a r => exact hc
          rw [b3, if_neg (by intro z; cases z; omega), val_fold, e, List.foldl_append, a2]
          refine decide_eq_false ?_
          show ¬ v * 10 + (r[n] - 48) ≤ 1000000
          omega
    · have : (r.take (n + 1)).all dgB = false := by
        rw [e, List.all_append, List.all_cons]
        have : dgB r[n] = false := by simpa using hd
        rw [this]
        simp
      rw [this]
      rfl
end K03
end Part_QJ

section Part_QK
set_option Elab.async false
set_option linter.all false
set_option maxRecDepth 100000
set_option autoImplicit false
set_option maxHeartbeats 2000000
namespace K03
open PySem PySem.Spec PyProof.Rows L2 DL SX

theorem digB_neg (l : List Nat) (w : Bool) : digB (45 :: l) w = if l.take 1 = [48] then false else bodB l w := by
  unfold digB
  rw [if_pos (by simp)]
  rfl
theorem digB_pos {l : List Nat} (h : l.head? ≠ some 45) (w : Bool) : digB l w = bodB l w := by
  unfold digB
  rw [if_neg (fun z => h (take1.mp z))]
theorem head_take {l : List Nat} {j d : Nat} (h : (l.take j).head? = some d) : l.head? = some d := by
  cases l with
  | nil => simp at h
  | cons c r => cases j with
    | zero => simp at h
    | succ j => exact h
structure Ns (R : List Nat) (n : Nat) (full : Bool) : Prop where
  le : n ≤ R.length
  pre : ∀ j, j ≤ n → digB (R.take j) false = true
  all : digB (R.take n) true = full
  nxt : n < R.length → ∀ w, digB (R.take (n + 1)) w = false
theorem iL_neg {v : Nat} (h : 1 ≤ v) : iL (-(v : Int)) = 45 :: TL.numL v := by
  unfold iL
  rw [if_neg (by omega), show (-(-(v : Int))).toNat = v by omega]
theorem iL_pos (v : Nat) : iL (v : Int) = TL.numL v := by
  unfold iL
  rw [if_pos (by omega), Int.toNat_natCast]
theorem num_spec (R : List Nat) : (∀ v n, numP R = .ok v n → Rg v ∧ iL v = R.take n ∧ 1 ≤ n ∧ Ns R n true) ∧ (∀ n, numP R = .er n → Ns R n false) := by
  unfold numP
  by_cases h1 : R.head? = some 48
  · rw [if_pos h1]
    refine ⟨fun v n e => ?_, fun n e => by cases e⟩
    cases e
    cases R with
    | nil => cases h1
    | cons c r =>
      cases h1
      refine ⟨⟨by decide, by decide⟩, TL.numL_lt (n := 0) (by decide), by decide, ⟨by simp, fun j hj => ?_, (by decide : digB [48] true = true), fun hl w => ?_⟩⟩
      · have : j = 0 ∨ j = 1 := by omega
        rcases this with rfl | rfl
        · rfl
        · exact (by decide : digB [48] false = true)
      · cases r with
        | nil => simp at hl
        | cons d r =>
          show digB [48, d] w = false
          rw [digB_pos (by simp)]
          unfold bodB
          split
          · rfl
          · rfl
  rw [if_neg h1]
  by_cases h2 : R.head? = some 45
  · rw [if_pos h2]
    cases R with
    | nil => cases h2
    | cons c r =>
      cases h2
      show (∀ v n, negP (dstP r) = .ok v n → _) ∧ (∀ n, negP (dstP r) = .er n → _)
      by_cases h3 : r.head? = some 48
      · have hd : dst r 0 = (0, 0) := by
          cases r with
          | nil => cases h3
          | cons a r =>
            cases h3
            rfl
        unfold dstP
        rw [hd, if_pos rfl]
        refine ⟨fun v n e => (by cases e), fun n e => ?_⟩
        cases e
        refine ⟨by simp, fun j hj => ?_, (by decide : digB [45] true = false), fun hl w => ?_⟩
        · have : j = 0 ∨ j = 1 := by omega
          rcases this with rfl | rfl
          · rfl
          · exact (by decide : digB [45] false = true)
        · show digB (45 :: r.take 1) w = false
          rw [digB_neg, if_pos (by rw [List.take_take]; exact take1.mpr h3)]
      · obtain ⟨b1, b2, b3, b4, b5⟩ := bod_spec (r := r) h3
        have hle := dst_le r 0
        unfold dstP
        generalize (dst r 0).2 = n at *
        generalize (dst r 0).1 = v at *
        have ng : ∀ j w, digB (45 :: r.take j) w = bodB (r.take j) w := fun j w => by
          rw [digB_neg, if_neg]
          intro z
          exact h3 (head_take (take1.mp z))
        have pre : ∀ j, j ≤ 1 + n → digB ((45 :: r).take j) false = true := by
          intro j hj
          cases j with
          | zero => rfl
          | succ j =>
            rw [List.take_succ_cons, ng]
            exact b1 j (by omega)
        have nxt : 1 + n < (45 :: r).length → ∀ w, digB ((45 :: r).take (1 + n + 1)) w = false := by
          intro hl w
          rw [List.length_cons] at hl
          rw [List.take_succ_cons, Nat.add_comm 1 n, ng]
          exact b4 (by omega) w
        by_cases hv : v = 0
        · rw [if_pos hv]
          refine ⟨fun v n e => (by cases e), fun m e => ?_⟩
          cases e
          have hn : n = 0 := by
            rcases Nat.eq_zero_or_pos n with z | z
            · exact z
            · have := (b2 (by omega)).2.2
              omega
          refine ⟨by rw [List.length_cons]; omega, pre, ?_, nxt⟩
          subst hn
          exact (by decide : digB [45] true = false)
        · rw [if_neg hv]
          refine ⟨fun v' m e => ?_, fun m e => by cases e⟩
          cases e
          have hn : n ≠ 0 := fun z => hv (b3 z).1
          obtain ⟨c1, c2, c3⟩ := b2 hn
          refine ⟨⟨by omega, by omega⟩, ?_, by omega, ⟨by rw [List.length_cons]; omega, pre, ?_, nxt⟩⟩
          · rw [iL_neg c3, c2, Nat.add_comm 1 n, List.take_succ_cons]
          · rw [Nat.add_comm 1 n, List.take_succ_cons, ng]
            exact c1
  · rw [if_neg h2]
    obtain ⟨b1, b2, b3, b4, b5⟩ := bod_spec (r := R) h1
    have hle := dst_le R 0
    unfold dstP
    generalize (dst R 0).2 = n at *
    generalize (dst R 0).1 = v at *
    have ps : ∀ j w, digB (R.take j) w = bodB (R.take j) w := fun j w => digB_pos (fun z => h2 (head_take z)) w
    have pre : ∀ j, j ≤ n → digB (R.take j) false = true := fun j hj => by rw [ps]; exact b1 j hj
    have nxt : n < R.length → ∀ w, digB (R.take (n + 1)) w = false := fun hl w => by rw [ps]; exact b4 hl w
    by_cases hv : v = 0
    · rw [if_pos hv]
      refine ⟨fun v n e => (by cases e), fun m e => ?_⟩
      cases e
      have hn : n = 0 := by
        rcases Nat.eq_zero_or_pos n with z | z
        · exact z
        · have := (b2 (by omega)).2.2
          omega
      refine ⟨hle, pre, ?_, nxt⟩
      subst hn
      rw [List.take_zero]
      decide
    · rw [if_neg hv]
      refine ⟨fun v' m e => ?_, fun m e => by cases e⟩
      cases e
      have hn : n ≠ 0 := fun z => hv (b3 z).1
      obtain ⟨c1, c2, c3⟩ := b2 hn
      refine ⟨⟨by omega, by omega⟩, ?_, by omega, ⟨hle, pre, ?_, nxt⟩⟩
      · rw [iL_pos, c2]
      · rw [ps]
        exact c1
/-! ### texts -/
theorem txt_spec : ∀ (n : Nat) (r : List Nat), (∀ c ∈ r.take (txt n r), c ∈ AL) ∧ (∀ c, r[txt n r]? = some c → txt n r < n → c ∉ AL)
  | 0, r => ⟨fun c hc => by simp [txt] at hc, fun c _ h => by simp [txt] at h⟩
  | n + 1, [] => ⟨fun c hc => by simp at hc, fun c h => by simp at h⟩
  | n + 1, c :: r => by
    obtain ⟨h1, h2⟩ := txt_spec n r
    rw [txt]
    by_cases q : c ∈ AL
    · rw [if_pos q]
      refine ⟨fun d hd => ?_, fun d hd hl => h2 d (by simpa using hd) (by omega)⟩
      rw [List.take_succ_cons] at hd
      rcases List.mem_cons.mp hd with rfl | hd
      · exact q
      · exact h1 d hd
    · rw [if_neg q]
      refine ⟨fun d hd => by simp at hd, fun d hd _ => ?_⟩
      simp at hd
      rw [← hd]
      exact q
end K03
end Part_QK

section Part_QL
set_option Elab.async false
set_option linter.all false
set_option maxRecDepth 100000
set_option autoImplicit false
set_option maxHeartbeats 2000000
namespace K03
open PySem PySem.Spec PyProof.Rows L2 DL SX

/-! ### what begins a written form begins one with each beginning of it -/
theorem bod_mono {l m : List Nat} {w : Bool} (h : bodB (l ++ m) w = true) : bodB l false = true := by
  unfold bodB at h
  split at h
  · cases h
  rename_i h1
  simp only [Bool.or_eq_true, Bool.not_eq_true', decide_eq_true_eq, not_or, Bool.not_eq_false, Nat.not_lt] at h1
  obtain ⟨h1, h2⟩ := h1
  rw [List.all_append, Bool.and_eq_true] at h1
  rw [List.length_append] at h2
  unfold bodB
  rw [h1.1, decide_eq_false (by omega), if_neg (by simp)]
  cases l with
  | nil => rfl
  | cons c r =>
    rw [if_neg (by simp)] at h ⊢
    have e : (c :: r ++ m).head? = (c :: r).head? := rfl
    rw [e] at h
    split at h
    · rename_i h3
      rw [if_pos h3]
      have := of_decide_eq_true h
      have hl := congrArg List.length this
      rw [List.length_append, List.length_cons] at hl
      have hr : r = [] := List.length_eq_zero_iff.mp (by simp at hl; omega)
      subst hr
      cases h3
      rfl
    · rename_i h3
      rw [if_neg h3]
      have := of_decide_eq_true h
      rw [val_fold, List.foldl_append] at this
      rw [val_fold]
      have := fold_ge m ((c :: r).foldl fd 0)
      exact decide_eq_true (by omega)
theorem dig_mono {l m : List Nat} {w : Bool} (h : digB (l ++ m) w = true) : digB l false = true := by
  cases l with
  | nil => rfl
  | cons c r =>
    by_cases q : c = 45
    · subst q
      rw [List.cons_append, digB_neg] at h
      rw [digB_neg]
      split at h
      · cases h
      rename_i h1
      rw [if_neg (fun z => h1 (by
        cases r with
        | nil => simp at z
        | cons d r => simpa using z))]
      exact bod_mono h
    · rw [digB_pos (by simpa using q)] at h ⊢
      exact bod_mono h
theorem spl_sp (acc r : List Nat) : TL.spl [32] 0 acc (32 :: r) = acc :: TL.spl [32] 0 [] r := TL.spl_hit (S := [32]) (by simp [TL.pre])
theorem spl_no {c : Nat} (h : c ≠ 32) (acc r : List Nat) : TL.spl [32] 0 acc (c :: r) = TL.spl [32] 0 (acc ++ [c]) r := TL.spl_miss (S := [32]) (by simp [TL.pre, h])
theorem itB_cons {x : List Nat} {r : List (List Nat)} (h : r ≠ []) (cl : Bool) : itB (x :: r) cl = (digB x true && itB r cl) := by
  cases r with
  | nil => exact absurd rfl h
  | cons y r => rfl
theorem it_mono : ∀ (I acc : List Nat) (cl : Bool) (j : Nat), itB (TL.spl [32] 0 acc I) cl = true → itB (TL.spl [32] 0 acc (I.take j)) false = true ∧ (TL.spl [32] 0 acc (I.take j)).length ≤ (TL.spl [32] 0 acc I).length
  | [], acc, cl, j, h => by
    rw [List.take_nil]
    rw [TL.spl_nil] at h ⊢
    refine ⟨?_, Nat.le_refl _⟩
    have h : digB acc cl = true := h
    rw [← List.append_nil acc] at h
    exact dig_mono h
  | c :: r, acc, cl, j, h => by
    by_cases q : c = 32
    · subst q
      rw [spl_sp, itB_cons (spl_ne _ _), Bool.and_eq_true] at h
      cases j with
      | zero =>
        rw [List.take_zero, TL.spl_nil, spl_sp]
        refine ⟨?_, by simp⟩
        have h1 := h.1
        rw [← List.append_nil acc] at h1
        exact dig_mono h1
      | succ j =>
        obtain ⟨i1, i2⟩ := it_mono r [] cl j h.2
        rw [List.take_succ_cons, spl_sp, spl_sp, itB_cons (spl_ne _ _), h.1, i1]
        exact ⟨rfl, by rw [List.length_cons, List.length_cons]; omega⟩
    · rw [spl_no q] at h
      cases j with
      | zero =>
        obtain ⟨i1, i2⟩ := it_mono r (acc ++ [c]) cl 0 h
        rw [List.take_zero, TL.spl_nil] at i1
        rw [List.take_zero, TL.spl_nil, spl_no q]
        refine ⟨dig_mono i1, ?_⟩
        have := List.length_pos_iff.mpr (spl_ne r (acc ++ [c]))
        rw [List.length_singleton]
        exact this
      | succ j =>
        rw [List.take_succ_cons, spl_no q, spl_no q]
        exact it_mono r (acc ++ [c]) cl j h
theorem bod_no {l : List Nat} {w : Bool} (h : bodB l w = true) : ∀ c ∈ l, 48 ≤ c ∧ c ≤ 57 := by
  unfold bodB at h
  split at h
  · cases h
  rename_i h1
  simp only [Bool.or_eq_true, Bool.not_eq_true', decide_eq_true_eq, not_or, Bool.not_eq_false] at h1
  exact fun c hc => of_decide_eq_true (List.all_eq_true.mp h1.1 c hc)
theorem dig_no {l : List Nat} {w : Bool} (h : digB l w = true) : ∀ c ∈ l, c = 45 ∨ (48 ≤ c ∧ c ≤ 57) := by
  cases l with
  | nil => intro c hc; cases hc
  | cons d r =>
    by_cases q : d = 45
    · subst q
      rw [digB_neg] at h
      split at h
      · cases h
      intro c hc
      rcases List.mem_cons.mp hc with rfl | hc
      · exact .inl rfl
      · exact .inr (bod_no h c hc)
    · rw [digB_pos (by simpa using q)] at h
      exact fun c hc => .inr (bod_no h c hc)
/-- .. of the items: no bracket stands in them -/
theorem it_no : ∀ (I acc : List Nat) (cl : Bool), itB (TL.spl [32] 0 acc I) cl = true → (∀ c ∈ acc, c ≠ 93) ∧ ∀ c ∈ I, c ≠ 93
  | [], acc, cl, h => by
    rw [TL.spl_nil] at h
    refine ⟨fun c hc => ?_, fun c hc => (by cases hc)⟩
    have := dig_no (show digB acc cl = true from h) c hc
    omega
  | c :: r, acc, cl, h => by
    by_cases q : c = 32
    · subst q
      rw [spl_sp, itB_cons (spl_ne _ _), Bool.and_eq_true] at h
      refine ⟨fun c hc => ?_, fun c hc => ?_⟩
      · have := dig_no h.1 c hc
        omega
      · rcases List.mem_cons.mp hc with rfl | hc
        · decide
        · exact (it_no r [] cl h.2).2 c hc
    · rw [spl_no q] at h
      obtain ⟨a, b⟩ := it_no r (acc ++ [c]) cl h
      refine ⟨fun d hd => a d (List.mem_append_left _ hd), fun d hd => ?_⟩
      rcases List.mem_cons.mp hd with rfl | hd
      · exact a _ (List.mem_append_right _ (by simp))
      · exact b d hd
end K03
end Part_QL

section Part_QM
set_option Elab.async false
set_option linter.all false
set_option maxRecDepth 100000
set_option autoImplicit false
set_option maxHeartbeats 2000000
namespace K03
open PySem PySem.Spec PyProof.Rows L2 DL SX

def CI0 (k : Nat) (I : List Nat) (cl w : Bool) : Bool := if (w && !cl) = true then false else itB (TL.spl [32] 0 [] I) cl && decide ((TL.spl [32] 0 [] I).length ≤ k)
def BO (k : Nat) (R : List Nat) (w : Bool) : Bool := if R.drop (R.length - 1) = [93] then CI0 k (R.take (R.length - 1)) true w else CI0 k R false w
theorem bra_BO {R : List Nat} (h : R ≠ [93]) (w : Bool) : braB (91 :: R) w = BO 12 R w := by
  unfold braB BO
  show (if R.drop (R.length - 1) = [93] then braI (R.take (R.length - 1)) true w else braI R false w) = _
  by_cases q : R.drop (R.length - 1) = [93]
  · rw [if_pos q, if_pos q]
    have hne : R.take (R.length - 1) ≠ [] := fun z => h (by
      have := List.take_append_drop (R.length - 1) R
      rw [z, q] at this
      exact this.symm)
    unfold braI CI0
    rw [if_neg hne]
  · rw [if_neg q, if_neg q]
    unfold braI CI0
    by_cases z : R = []
    · subst z
      cases w <;> rfl
    · rw [if_neg z]
theorem lastc (l : List Nat) (c : Nat) : (l ++ [c]).drop ((l ++ [c]).length - 1) = [c] ∧ (l ++ [c]).take ((l ++ [c]).length - 1) = l := by
  rw [List.length_append, List.length_singleton, Nat.add_sub_cancel]
  exact ⟨List.drop_left, List.take_left⟩
theorem BO_close (k : Nat) (l : List Nat) (w : Bool) : BO k (l ++ [93]) w = (itB (TL.spl [32] 0 [] l) true && decide ((TL.spl [32] 0 [] l).length ≤ k)) := by
  unfold BO
  rw [if_pos (lastc l 93).1, (lastc l 93).2]
  unfold CI0
  rw [if_neg (by simp)]
theorem BO_open {k : Nat} {l : List Nat} (h : l.drop (l.length - 1) ≠ [93]) : BO k l false = (itB (TL.spl [32] 0 [] l) false && decide ((TL.spl [32] 0 [] l).length ≤ k)) ∧ BO k l true = false := by
  unfold BO
  rw [if_neg h, if_neg h]
  exact ⟨rfl, rfl⟩
theorem no_last {l : List Nat} (h : ∀ c ∈ l, c ≠ 93) : l.drop (l.length - 1) ≠ [93] := fun z => h 93 (List.mem_of_mem_drop (by rw [z]; simp)) rfl
theorem spl_app : ∀ (x acc I : List Nat), (∀ c ∈ x, c ≠ 32) → TL.spl [32] 0 acc (x ++ 32 :: I) = (acc ++ x) :: TL.spl [32] 0 [] I
  | [], acc, I, _ => by rw [List.nil_append, spl_sp, List.append_nil]
  | c :: x, acc, I, h => by
    rw [List.cons_append, spl_no (h c List.mem_cons_self), spl_app x _ I fun d hd => h d (List.mem_cons_of_mem _ hd), List.append_assoc]
    rfl
theorem spl_one : ∀ (x acc : List Nat), (∀ c ∈ x, c ≠ 32) → TL.spl [32] 0 acc x = [acc ++ x]
  | [], acc, _ => by rw [TL.spl_nil, List.append_nil]
  | c :: x, acc, h => by
    rw [spl_no (h c List.mem_cons_self), spl_one x _ fun d hd => h d (List.mem_cons_of_mem _ hd), List.append_assoc]
    rfl
theorem CI_step {k : Nat} {x I : List Nat} (h : ∀ c ∈ x, c ≠ 32) (cl w : Bool) : CI0 (k + 1) (x ++ 32 :: I) cl w = (digB x true && CI0 k I cl w) := by
  unfold CI0
  rw [spl_app x [] I h, List.nil_append, itB_cons (spl_ne _ _), List.length_cons]
  have : decide ((TL.spl [32] 0 [] I).length + 1 ≤ k + 1) = decide ((TL.spl [32] 0 [] I).length ≤ k) := decide_eq_decide.mpr (by omega)
  rw [this]
  split
  · rw [Bool.and_false]
  · rw [Bool.and_assoc]
theorem BO_step {k : Nat} {x R : List Nat} (h : ∀ c ∈ x, c ≠ 32) (w : Bool) : BO (k + 1) (x ++ 32 :: R) w = (digB x true && BO k R w) := by
  rcases List.eq_nil_or_concat R with rfl | ⟨i, c, rfl⟩
  · have e : x ++ 32 :: [] = x ++ [32] := rfl
    unfold BO
    rw [if_neg (by rw [e, (lastc x 32).1]; decide), if_neg (by decide), CI_step h]
  · rw [List.concat_eq_append]
    have e : x ++ 32 :: (i ++ [c]) = (x ++ 32 :: i) ++ [c] := by simp
    by_cases q : c = 93
    · subst q
      unfold BO
      rw [if_pos (lastc i 93).1, (lastc i 93).2, e, if_pos (lastc _ 93).1, (lastc _ 93).2, CI_step h]
    · unfold BO
      rw [if_neg (by rw [e, (lastc _ c).1]; simpa using q), if_neg (by rw [(lastc i c).1]; simpa using q), CI_step h]
def glu (v : Int) (n : Nat) : Pr (List Int) → Pr (List Int)
  | .er e => .er (n + 1 + e)
  | .ok vs e => .ok (v :: vs) (n + 1 + e)
/-- the numbers of a list, k allowed, and the bracket -/
def lsP : Nat → List Nat → Pr (List Int)
  | 0, _ => .er 0
  | k + 1, R => match numP R with
    | .er n => .er n
    | .ok v n => if (R.drop n).head? = some 32 ∧ 0 < k then glu v n (lsP k (R.drop (n + 1)))
      else if (R.drop n).head? = some 93 then .ok [v] (n + 1) else .er n
structure Ls (k : Nat) (R : List Nat) (e : Nat) : Prop where
  le : e ≤ R.length
  pre : BO k (R.take e) false = true
  nxt : e < R.length → BO k (R.take (e + 1)) false = false
theorem take_snoc {R : List Nat} {n : Nat} (h : n < R.length) : R.take (n + 1) = R.take n ++ [R[n]] := by rw [List.take_succ, List.getElem?_eq_getElem h]; rfl
theorem head_drop {R : List Nat} {n c : Nat} (h : (R.drop n).head? = some c) : n < R.length ∧ R.drop n = c :: R.drop (n + 1) := by
  cases q : R.drop n with
  | nil => rw [q] at h; cases h
  | cons d r =>
    rw [q] at h
    cases h
    obtain ⟨h1, h2, h3⟩ := drop_cons q
    exact ⟨h1, by rw [h3]⟩
theorem ls_spec : ∀ (k : Nat), 1 ≤ k → ∀ R : List Nat, (∀ e, lsP k R = .er e → Ls k R e ∧ (e = R.length → BO k R true = false)) ∧
    (∀ vs e, lsP k R = .ok vs e → Ls k R e ∧ BO k (R.take e) true = true ∧ R.take e = TL.joinL [32] (vs.map iL) ++ [93] ∧ vs ≠ [] ∧ vs.length ≤ k ∧ ∀ v ∈ vs, Rg v)
  | 0, h, _ => absurd h (by omega)
  | k + 1, _, R => by
    obtain ⟨N1, N2⟩ := num_spec R
    have opn : ∀ n full, Ns R n full → (∀ c ∈ R.take n, c ≠ 32) ∧ (∀ c ∈ R.take n, c ≠ 93) ∧ BO (k + 1) (R.take n) false = true ∧ (n = R.length → BO (k + 1) R true = false) := by
      intro n full N
      have nd := dig_no (N.pre n (Nat.le_refl _))
      have n32 : ∀ c ∈ R.take n, c ≠ 32 := fun c hc => by have := nd c hc; omega
      have n93 : ∀ c ∈ R.take n, c ≠ 93 := fun c hc => by have := nd c hc; omega
      refine ⟨n32, n93, ?_, fun hn => ?_⟩
      · rw [(BO_open (no_last n93)).1, spl_one _ [] n32]
        show (digB (R.take n) false && decide (1 ≤ k + 1)) = true
        rw [N.pre n (Nat.le_refl _), decide_eq_true (by omega)]
        rfl
      · rw [hn, List.take_length] at n93
        exact (BO_open (no_last n93)).2
    have oth : ∀ n full, Ns R n full → (hl : n < R.length) → R[n] ≠ 32 → R[n] ≠ 93 → BO (k + 1) (R.take (n + 1)) false = false := by
      intro n full N hl h32 h93
      obtain ⟨n32, n93, _, _⟩ := opn n full N
      have m32 : ∀ c ∈ R.take (n + 1), c ≠ 32 := fun c hc => by
        rw [take_snoc hl] at hc
        rcases List.mem_append.mp hc with hc | hc
        · exact n32 c hc
        · rw [List.mem_singleton.mp hc]; exact h32
      have m93 : ∀ c ∈ R.take (n + 1), c ≠ 93 := fun c hc => by
        rw [take_snoc hl] at hc
        rcases List.mem_append.mp hc with hc | hc
        · exact n93 c hc
        · rw [List.mem_singleton.mp hc]; exact h93
      rw [(BO_open (no_last m93)).1, spl_one _ [] m32]
      show (digB (R.take (n + 1)) false && _) = false
      rw [N.nxt hl false, Bool.false_and]
    rw [lsP]
    cases q : numP R with
    | er n =>
      have N := N2 n q
      obtain ⟨n32, n93, o1, o2⟩ := opn n false N
      refine ⟨fun e he => ?_, fun vs e he => (by cases he)⟩
      cases he
      refine ⟨⟨N.le, o1, fun hl => ?_⟩, o2⟩
      by_cases h32 : R[n] = 32
      · rw [take_snoc hl, h32]
        have := BO_step (k := k) (R := []) n32 false
        rw [this, N.all, Bool.false_and]
      · by_cases h93 : R[n] = 93
        · rw [take_snoc hl, h93, BO_close, spl_one _ [] n32]
          show (digB (R.take n) true && _) = false
          rw [N.all, Bool.false_and]
        · exact oth n false N hl h32 h93
    | ok v n =>
      obtain ⟨r1, r2, r3, N⟩ := N1 v n q
      obtain ⟨n32, n93, o1, o2⟩ := opn n true N
      dsimp only
      by_cases h1 : (R.drop n).head? = some 32 ∧ 0 < k
      · rw [if_pos h1]
        obtain ⟨hl, hd⟩ := head_drop h1.1
        have tk : ∀ e, R.take (n + 1 + e) = R.take n ++ 32 :: (R.drop (n + 1)).take e := fun e => by
          rw [show n + 1 + e = n + (e + 1) by omega, List.take_add, hd, List.take_succ_cons]
        have whole : R = R.take n ++ 32 :: R.drop (n + 1) := by rw [← hd, List.take_append_drop]
        have st : ∀ l w, BO (k + 1) (R.take n ++ 32 :: l) w = BO k l w := fun l w => by rw [BO_step n32, N.all, Bool.true_and]
        have hdl : (R.drop (n + 1)).length = R.length - (n + 1) := List.length_drop
        obtain ⟨I1, I2⟩ := ls_spec k h1.2 (R.drop (n + 1))
        cases q2 : lsP k (R.drop (n + 1)) with
        | er e =>
          obtain ⟨L, le⟩ := I1 e q2
          refine ⟨fun e' he => ?_, fun vs e he => (by cases he)⟩
          cases he
          have hle := L.le
          refine ⟨⟨by omega, by rw [tk, st]; exact L.pre, fun hl' => ?_⟩, fun hl' => ?_⟩
          · rw [Nat.add_assoc, tk, st]
            exact L.nxt (by omega)
          · rw [whole, st]
            exact le (by omega)
        | ok vs e =>
          obtain ⟨L, l1, l2, l3, l4, l5⟩ := I2 vs e q2
          refine ⟨fun e' he => (by cases he), fun vs' e' he => ?_⟩
          cases he
          have hle := L.le
          refine ⟨⟨by omega, by rw [tk, st]; exact L.pre, fun hl' => ?_⟩, by rw [tk, st]; exact l1, ?_, by simp, by rw [List.length_cons]; omega, fun z hz => ?_⟩
          · rw [Nat.add_assoc, tk, st]
            exact L.nxt (by omega)
          · rw [tk, l2, ← r2]
            cases vs with
            | nil => exact absurd rfl l3
            | cons a vs =>
              show iL v ++ 32 :: (TL.joinL [32] (iL a :: vs.map iL) ++ [93]) = (iL v ++ ([32] ++ TL.joinL [32] (iL a :: vs.map iL))) ++ [93]
              simp
          · rcases List.mem_cons.mp hz with rfl | hz
            · exact r1
            · exact l5 z hz
      · rw [if_neg h1]
        by_cases h2 : (R.drop n).head? = some 93
        · rw [if_pos h2]
          obtain ⟨hl, hd⟩ := head_drop h2
          have hR : R[n] = 93 := by
            have := drop_cons hd
            rw [List.getElem?_eq_getElem hl] at this
            exact Option.some.inj this.2.1
          refine ⟨fun e he => (by cases he), fun vs e he => ?_⟩
          cases he
          have e1 : R.take (n + 1) = R.take n ++ [93] := by rw [take_snoc hl, hR]
          have cl : ∀ w, BO (k + 1) (R.take (n + 1)) w = true := fun w => by
            rw [e1, BO_close, spl_one _ [] n32]
            show (digB (R.take n) true && decide (1 ≤ k + 1)) = true
            rw [N.all, decide_eq_true (by omega)]
            rfl
          refine ⟨⟨hl, cl false, fun hl' => ?_⟩, cl true, by rw [e1, ← r2]; rfl, by simp, by simp, fun z hz => by rw [List.mem_singleton.mp hz]; exact r1⟩
          have e2 : R.take (n + 1 + 1) = R.take (n + 1) ++ [R[n + 1]] := take_snoc hl'
          have has : (93 : Nat) ∈ R.take (n + 1) := by rw [e1]; simp
          by_cases h93 : R[n + 1] = 93
          · rw [e2, h93, BO_close]
            cases z : itB (TL.spl [32] 0 [] (R.take (n + 1))) true with
            | true => exact absurd rfl ((it_no _ _ _ z).2 93 has)
            | false => rfl
          · have nl : (R.take (n + 1 + 1)).drop ((R.take (n + 1 + 1)).length - 1) ≠ [93] := by
              rw [e2, (lastc _ _).1]
              simpa using h93
            rw [(BO_open nl).1]
            cases z : itB (TL.spl [32] 0 [] (R.take (n + 1 + 1))) false with
            | true => exact absurd rfl ((it_no _ _ _ z).2 93 (by rw [e2]; exact List.mem_append_left _ has))
            | false => rfl
        · rw [if_neg h2]
          refine ⟨fun e he => ?_, fun vs e he => (by cases he)⟩
          cases he
          refine ⟨⟨N.le, o1, fun hl => ?_⟩, o2⟩
          have hR : (R.drop n).head? = some R[n] := by rw [List.drop_eq_getElem_cons hl]; rfl
          by_cases h32 : R[n] = 32
          · have hk : k = 0 := by
              rcases Nat.eq_zero_or_pos k with z | z
              · exact z
              · exact absurd ⟨by rw [hR, h32], z⟩ h1
            subst hk
            rw [take_snoc hl, h32]
            have := BO_step (k := 0) (R := []) n32 false
            rw [this]
            have : BO 0 [] false = false := by decide
            rw [this, Bool.and_false]
          · exact oth n true N hl h32 (fun z => h2 (by rw [hR, z]))
end K03
end Part_QM

section Part_QN
set_option Elab.async false
set_option linter.all false
set_option maxRecDepth 100000
set_option autoImplicit false
set_option maxHeartbeats 2000000
namespace K03
open PySem PySem.Spec PyProof.Rows L2 DL SX
theorem ints_inj {l m : List Int} (h : l.map PyData.int = m.map .int) : l = m := by
  have e := congrArg dInts h
  rw [dInts_map, dInts_map] at e
  exact Option.some.inj e
theorem wr_tup {ds : List D} {w : List Nat} (h : Wr (.tuple ds) w) : ∀ ns : List Int, ds = ns.map .int → w = lstL ns := by
  intro ns e
  cases h with
  | l => rw [ints_inj e]

theorem tail_eq : ∀ (m : Nat) (v : Int) (n : Nat) (R : List Nat), endP v n R (moreP m (R.drop n)) = if (R.drop n).head? = some 32 ∧ 0 < m then glu v n (lsP m (R.drop (n + 1)))
      else if (R.drop n).head? = some 93 then .ok [v] (n + 1) else .er n
  | 0, v, n, R => by
    rw [if_neg (by simp)]
    rfl
  | m + 1, v, n, R => by
    by_cases h : (R.drop n).head? = some 32
    · rw [if_pos ⟨h, by omega⟩, moreP, if_pos h, List.drop_drop, lsP]
      cases q : numP (R.drop (n + 1)) with
      | er n1 =>
        show Pr.er (n + (1 + n1)) = Pr.er (n + 1 + n1)
        rw [Nat.add_assoc]
      | ok v1 n1 =>
        dsimp only
        rw [← tail_eq m v1 n1 (R.drop (n + 1)), List.drop_drop, List.drop_drop, show n + (1 + n1) = n + 1 + n1 by omega]
        cases q2 : moreP m (R.drop (n + 1 + n1)) with
        | er n' =>
          show Pr.er (n + (1 + n1 + n')) = Pr.er (n + 1 + (n1 + n'))
          congr 1
          omega
        | ok vs n' =>
          unfold endP glu
          dsimp only
          rw [List.drop_drop, show n + (1 + n1 + n') = n + 1 + (n1 + n') by omega]
          split
          · congr 1
          · rfl
    · have h' : ¬ ((R.drop n).head? = some 32 ∧ 0 < m + 1) := fun z => h z.1
      rw [if_neg h', moreP, if_neg h]
      rfl
theorem lst_ls {R : List Nat} (h : R.head? ≠ some 93) : lstP R = lsP 12 R := by
  unfold lstP
  rw [if_neg h, lsP]
  cases q : numP R with
  | er n => rfl
  | ok v n => exact tail_eq 11 v n R
theorem BO_mono {k : Nat} {R : List Nat} {w : Bool} (h : BO k R w = true) (j : Nat) : BO k (R.take j) false = true := by
  have key : ∀ (I : List Nat) (cl : Bool), itB (TL.spl [32] 0 [] I) cl = true → (TL.spl [32] 0 [] I).length ≤ k → BO k (I.take j) false = true := by
    intro I cl a b
    obtain ⟨m1, m2⟩ := it_mono I [] cl j a
    have n93 := (it_no I [] cl a).2
    rw [(BO_open (no_last fun c hc => n93 c (List.mem_of_mem_take hc))).1, m1, decide_eq_true (by omega)]
    rfl
  rcases List.eq_nil_or_concat R with rfl | ⟨i, c, rfl⟩
  · rw [List.take_nil]
    unfold BO CI0 at h ⊢
    cases w
    · exact h
    · cases h
  · rw [List.concat_eq_append] at h ⊢
    by_cases q : c = 93
    · subst q
      rw [BO_close, Bool.and_eq_true, decide_eq_true_eq] at h
      rcases Nat.lt_or_ge i.length j with z | z
      · rw [List.take_of_length_le (by rw [List.length_append, List.length_singleton]; omega), BO_close, h.1, decide_eq_true h.2]
        rfl
      · rw [List.take_append_of_le_length z]
        exact key i true h.1 h.2
    · have nl : (i ++ [c]).drop ((i ++ [c]).length - 1) ≠ [93] := by rw [(lastc i c).1]; simpa using q
      cases w with
      | true => rw [(BO_open nl).2] at h; cases h
      | false =>
        rw [(BO_open nl).1, Bool.and_eq_true, decide_eq_true_eq] at h
        exact key _ false h.1 h.2
theorem beg_br (R : List Nat) (w : Bool) : begB (91 :: R) w = braB (91 :: R) w := rfl
theorem BO_bad (k c : Nat) (r : List Nat) (w : Bool) : BO k (93 :: c :: r) w = false := by
  cases q : BO k (93 :: c :: r) w with
  | false => rfl
  | true =>
    exfalso
    unfold BO at q
    split at q
    · unfold CI0 at q
      rw [if_neg (by simp), Bool.and_eq_true] at q
      exact (it_no _ _ _ q.1).2 93 (by simp) rfl
    · unfold CI0 at q
      split at q
      · cases q
      · rw [Bool.and_eq_true] at q
        exact (it_no _ _ _ q.1).2 93 (by simp) rfl
theorem val_list (R : List Nat) : valP (91 :: R) = shf (fun l : List Int => .tuple (l.map .int)) 1 (lstP R) := rfl
theorem write_list {vs : List Int} (h : vs.length ≤ 12) (a : ∀ v ∈ vs, Rg v) : m_write_value [.tuple (vs.map .int)] = .ok (.str (S (lstL vs))) [] := by
  obtain ⟨w, hw, e⟩ := write_eq (.l h a)
  rw [wr_tup hw vs rfl] at e
  exact e
theorem sp_list (R : List Nat) : Sp (91 :: R) := by
  by_cases h : R.head? = some 93
  · cases R with
    | nil => cases h
    | cons c r =>
      cases h
      have hv : valP (91 :: 93 :: r) = .ok (.tuple []) 2 := by
        rw [val_list]
        unfold lstP
        rw [if_pos (show (93 :: r).head? = some 93 from rfl)]
        rfl
      cases r with
      | nil =>
        refine .ok (.tuple []) 2 ?_ (by decide) ?_
        · unfold readP
          rw [hv]
          rfl
        · have := write_list (vs := []) (by decide) (by simp)
          exact this
      | cons d r =>
        refine .er 2 ?_ (by simp) ?_ (fun j h1 h2 => ?_) (fun _ => ?_)
        · unfold readP
          rw [hv]
          show (if 2 < (91 :: 93 :: d :: r).length then Pr.er 2 else Pr.ok _ 2) = _
          rw [if_pos (by simp)]
        · rw [beg_br, bra_BO (by simp), BO_bad]
        · have : j = 1 ∨ j = 2 := by omega
          rcases this with rfl | rfl
          · exact (by decide : begB [91] false = true)
          · exact (by decide : begB [91, 93] false = true)
        · show begB (91 :: [93, d]) false = false
          rw [beg_br, bra_BO (by simp), BO_bad]
  · have e0 := lst_ls h
    obtain ⟨L1, L2⟩ := ls_spec 12 (by decide) R
    have nt : ∀ j, R.take j ≠ [93] := fun j z => h (head_take (j := j) (by rw [z]; rfl))
    have nR : R ≠ [93] := fun z => h (by rw [z]; rfl)
    have er : ∀ e, Ls 12 R e → (e = R.length → BO 12 R true = false) → readP (91 :: R) = .er (1 + e) → Sp (91 :: R) := by
      intro e L le r
      refine .er (1 + e) r (by rw [List.length_cons]; have := L.le; omega) ?_ (fun j h1 h2 => ?_) (fun hl => ?_)
      · rw [beg_br, bra_BO nR]
        by_cases z : e = R.length
        · exact le z
        · cases q : BO 12 R true with
          | false => rfl
          | true =>
            have := L.nxt (by have := L.le; omega)
            rw [BO_mono q] at this
            cases this
      · cases j with
        | zero => omega
        | succ j =>
          rw [List.take_succ_cons, beg_br, bra_BO (nt j)]
          have := BO_mono L.pre j
          rwa [List.take_take, Nat.min_eq_left (by omega)] at this
      · rw [List.length_cons] at hl
        rw [show 1 + e + 1 = (e + 1) + 1 by omega, List.take_succ_cons, beg_br, bra_BO (nt _)]
        exact L.nxt (by omega)
    cases q : lsP 12 R with
    | er e =>
      obtain ⟨L, le⟩ := L1 e q
      refine er e L le ?_
      unfold readP
      rw [val_list, e0, q]
      rfl
    | ok vs e =>
      obtain ⟨L, l1, l2, l3, l4, l5⟩ := L2 vs e q
      have hv : valP (91 :: R) = .ok (.tuple (vs.map .int)) (1 + e) := by
        rw [val_list, e0, q]
        rfl
      by_cases hl : e < R.length
      · refine er e L (fun z => by omega) ?_
        unfold readP
        rw [hv]
        show (if 1 + e < (91 :: R).length then Pr.er (1 + e) else _) = _
        rw [if_pos (by rw [List.length_cons]; omega)]
      · have he : e = R.length := by have := L.le; omega
        rw [he, List.take_length] at l1 l2
        refine .ok (.tuple (vs.map .int)) (1 + e) ?_ ?_ ?_
        · unfold readP
          rw [hv]
          show (if 1 + e < (91 :: R).length then _ else Pr.ok _ (1 + e)) = _
          rw [if_neg (by rw [List.length_cons]; omega)]
        · rw [beg_br, bra_BO nR]
          exact l1
        · rw [write_list l4 l5]
          congr 3
          unfold lstL
          rw [← l2]
theorem sp_num {T : List Nat} (h1 : T.head? ≠ some 34) (h2 : T.head? ≠ some 91) (h3 : T.head? ≠ some 116) (h4 : T.head? ≠ some 102) : Sp T := by
  cases T with
  | nil => exact .er 0 rfl (Nat.le_refl _) rfl (fun j a b => by omega) (fun z => absurd z (by simp))
  | cons c r =>
    have bg : ∀ l : List Nat, l.head? = some c → ∀ w, begB l w = digB l w := by
      intro l hl w
      unfold begB
      have hh : (c :: r).head? = some c := rfl
      rw [hh] at h1 h2 h3 h4
      have ne : l ≠ [] := fun z => by rw [z] at hl; cases hl
      rw [if_neg ne, hl, if_neg h1, if_neg h2, if_neg (fun z => z.elim h3 h4)]
    have hd : ∀ j, 1 ≤ j → ((c :: r).take j).head? = some c := fun j hj => by
      cases j with
      | zero => omega
      | succ j => rfl
    have vl : valP (c :: r) = shf .int 0 (numP (c :: r)) := by
      unfold valP
      rw [if_neg h1, if_neg h2, if_neg h3, if_neg h4]
    obtain ⟨N1, N2⟩ := num_spec (c :: r)
    have er : ∀ n full, Ns (c :: r) n full → (n = (c :: r).length → full = false) → readP (c :: r) = .er n → Sp (c :: r) := by
      intro n full N hf rd
      refine .er n rd N.le ?_ (fun j a b => by rw [bg _ (hd j a)]; exact N.pre j b) (fun hl => by rw [bg _ (hd _ (by omega))]; exact N.nxt hl false)
      rw [bg _ rfl]
      by_cases z : n = (c :: r).length
      · have := N.all
        rw [z, List.take_length, hf z] at this
        exact this
      · cases q : digB (c :: r) true with
        | false => rfl
        | true =>
          have hl : n < (c :: r).length := by have := N.le; omega
          have nx := N.nxt hl false
          rw [← List.take_append_drop (n + 1) (c :: r)] at q
          rw [dig_mono q] at nx
          cases nx
    cases q : numP (c :: r) with
    | er n =>
      refine er n false (N2 n q) (fun _ => rfl) ?_
      unfold readP
      rw [vl, q]
      show Pr.er (0 + n) = _
      rw [Nat.zero_add]
    | ok v n =>
      obtain ⟨r1, r2, r3, N⟩ := N1 v n q
      have hv : valP (c :: r) = .ok (.int v) n := by
        rw [vl, q]
        show Pr.ok _ (0 + n) = _
        rw [Nat.zero_add]
      by_cases hl : n < (c :: r).length
      · refine er n true N (fun z => by omega) ?_
        unfold readP
        rw [hv]
        show (if n < (c :: r).length then Pr.er n else _) = _
        rw [if_pos hl]
      · have hn : n = (c :: r).length := by have := N.le; omega
        rw [hn, List.take_length] at r2
        refine .ok (.int v) n ?_ ?_ ?_
        · unfold readP
          rw [hv]
          show (if n < (c :: r).length then _ else Pr.ok _ n) = _
          rw [if_neg hl]
        · rw [bg _ rfl]
          have := N.all
          rwa [hn, List.take_length] at this
        · obtain ⟨w, hw, e⟩ := write_eq (.n r1)
          cases hw
          rw [r2] at e
          exact e
end K03
end Part_QN

section Part_QO
set_option Elab.async false
set_option linter.all false
set_option maxRecDepth 100000
set_option autoImplicit false
set_option maxHeartbeats 2000000
namespace K03
open PySem PySem.Spec PyProof.Rows L2 DL SX

theorem good_bad {l : List Nat} {c : Nat} (h : c ∈ l) (hc : c ∉ AL) : goodT l = false := by
  cases q : goodT l with
  | false => rfl
  | true =>
    unfold goodT at q
    rw [Bool.and_eq_true, List.all_eq_true] at q
    exact absurd (of_decide_eq_true (q.1 c h)) hc
theorem good_long {l : List Nat} (h : 30 < l.length) : goodT l = false := by
  unfold goodT
  rw [decide_eq_false (by omega), Bool.and_false]
theorem good_ok {l : List Nat} (h : l.length ≤ 30) (a : ∀ c ∈ l, c ∈ AL) : goodT l = true := by
  unfold goodT
  rw [decide_eq_true h, List.all_eq_true.mpr fun c hc => decide_eq_true (a c hc)]
  rfl
theorem beg_q (R : List Nat) (w : Bool) : begB (34 :: R) w = if R.drop (R.length - 1) = [34] then goodT (R.take (R.length - 1)) else if w then false else goodT R := rfl
theorem n34 : (34 : Nat) ∉ AL := by decide
theorem quo_bad {R : List Nat} (h : 34 ∈ R.take (R.length - 1)) (w : Bool) : begB (34 :: R) w = false := by
  rw [beg_q]
  split
  · exact good_bad h n34
  · cases w
    · exact good_bad (List.mem_of_mem_take h) n34
    · rfl
theorem quo_open {l : List Nat} (h : l.drop (l.length - 1) ≠ [34]) : begB (34 :: l) false = goodT l ∧ begB (34 :: l) true = false := by
  rw [beg_q, beg_q, if_neg h, if_neg h]
  exact ⟨rfl, rfl⟩
theorem quo_close (l : List Nat) (w : Bool) : begB (34 :: (l ++ [34])) w = goodT l := by
  rw [beg_q, if_pos (lastc l 34).1, (lastc l 34).2]
theorem not34 {l : List Nat} (h : ∀ c ∈ l, c ∈ AL) : l.drop (l.length - 1) ≠ [34] := fun z => n34 (h 34 (List.mem_of_mem_drop (by rw [z]; simp)))
theorem val_text (R : List Nat) : valP (34 :: R) = shf (fun l => .str (S l)) 1 (txtP R) := rfl
theorem sp_text (R : List Nat) : Sp (34 :: R) := by
  obtain ⟨t1, t2⟩ := txt_spec 30 R
  obtain ⟨le1, le2⟩ := txt_le 30 R
  have hv : valP (34 :: R) = shf (fun l => .str (S l)) 1 (if (R.drop (txt 30 R)).head? = some 34 then .ok (R.take (txt 30 R)) (txt 30 R + 1) else .er (txt 30 R)) := rfl
  generalize txt 30 R = p at t1 t2 le1 le2 hv
  have gl : ∀ j, j ≤ p → goodT (R.take j) = true := fun j hj => good_ok (by rw [List.length_take]; omega) fun c hc => t1 c (by
    have : R.take j = (R.take p).take j := by rw [List.take_take, Nat.min_eq_left hj]
    rw [this] at hc
    exact List.mem_of_mem_take hc)
  have al : ∀ j, j ≤ p → ∀ c ∈ R.take j, c ∈ AL := fun j hj c hc => t1 c (by
    have : R.take j = (R.take p).take j := by rw [List.take_take, Nat.min_eq_left hj]
    rw [this] at hc
    exact List.mem_of_mem_take hc)
  have pre : ∀ j, 1 ≤ j → j ≤ 1 + p → begB ((34 :: R).take j) false = true := fun j h1 h2 => by
    cases j with
    | zero => omega
    | succ j =>
      rw [List.take_succ_cons, (quo_open (not34 (al j (by omega)))).1]
      exact gl j (by omega)
  by_cases h : (R.drop p).head? = some 34
  · rw [if_pos h] at hv
    obtain ⟨hl, hd⟩ := head_drop h
    have hR : R[p] = 34 := by
      have := drop_cons hd
      rw [List.getElem?_eq_getElem hl] at this
      exact Option.some.inj this.2.1
    have e1 : R.take (p + 1) = R.take p ++ [34] := by rw [take_snoc hl, hR]
    have has : ∀ m, p + 1 ≤ m → 34 ∈ R.take m := fun m hm => by
      have : R.take (p + 1) = (R.take m).take (p + 1) := by rw [List.take_take, Nat.min_eq_left hm]
      exact List.mem_of_mem_take (i := p + 1) (by rw [← this, e1]; simp)
    have hv : valP (34 :: R) = .ok (.str (S (R.take p))) (1 + (p + 1)) := hv
    by_cases hn : p + 1 < R.length
    · refine .er (1 + (p + 1)) ?_ (by rw [List.length_cons]; omega) (quo_bad (has _ (by omega)) true) (fun j h1 h2 => ?_) (fun hl' => ?_)
      · unfold readP
        rw [hv]
        show (if 1 + (p + 1) < (34 :: R).length then Pr.er (1 + (p + 1)) else _) = _
        rw [if_pos (by rw [List.length_cons]; omega)]
      · by_cases z : j = 1 + (p + 1)
        · rw [z, show 1 + (p + 1) = (p + 1) + 1 by omega, List.take_succ_cons, e1, quo_close]
          exact gl p (Nat.le_refl _)
        · exact pre j h1 (by omega)
      · rw [show 1 + (p + 1) + 1 = (p + 2) + 1 by omega, List.take_succ_cons]
        refine quo_bad ?_ false
        rw [List.length_take, Nat.min_eq_left (by omega), List.take_take]
        exact has _ (by omega)
    · have hp : p + 1 = R.length := by omega
      rw [hp, List.take_length] at e1
      refine .ok (.str (S (R.take p))) (1 + (p + 1)) ?_ ?_ ?_
      · unfold readP
        rw [hv]
        show (if 1 + (p + 1) < (34 :: R).length then _ else Pr.ok _ (1 + (p + 1))) = _
        rw [if_neg (by rw [List.length_cons]; omega)]
      · have := quo_close (R.take p) true
        rw [← e1] at this
        rw [this]
        exact gl p (Nat.le_refl _)
      · obtain ⟨w, hw, e⟩ := write_eq (.s (l := R.take p) (by rw [List.length_take]; omega) (al p (Nat.le_refl _)))
        rw [e]
        have : ∀ (x : D) (w : List Nat), Wr x w → ∀ l, x = .str (S l) → w = 34 :: (l ++ [34]) := by
          intro x w hw l hx
          cases hw <;> first | (cases hx; done) | skip
          rename_i m
          have : S m = S l := by cases hx; rfl
          rw [S_inj this]
        rw [this _ _ hw _ rfl, ← e1]
  · rw [if_neg h] at hv
    have hv : valP (34 :: R) = .er (1 + p) := hv
    have bad : ∀ hl : p < R.length, ∀ m, p + 1 ≤ m → m ≤ R.length → goodT (R.take m) = false := by
      intro hl m hm hm2
      by_cases z : p < 30
      · refine good_bad (c := R[p]) ?_ (t2 _ (List.getElem?_eq_getElem hl) z)
        have : R.take (p + 1) = (R.take m).take (p + 1) := by rw [List.take_take, Nat.min_eq_left hm]
        exact List.mem_of_mem_take (i := p + 1) (by rw [← this, take_snoc hl]; exact List.mem_append_right _ (by simp))
      · exact good_long (by rw [List.length_take]; omega)
    have h34 : ∀ hl : p < R.length, R[p] ≠ 34 := fun hl z => h (by rw [List.drop_eq_getElem_cons hl, z]; rfl)
    refine .er (1 + p) ?_ (by rw [List.length_cons]; omega) ?_ pre (fun hl' => ?_)
    · unfold readP
      rw [hv]
    · by_cases q : R.drop (R.length - 1) = [34]
      · have hl : p < R.length := by
          rcases Nat.lt_or_ge p R.length with z | z
          · exact z
          · have : R.take p = R := List.take_of_length_le z
            rw [this] at t1
            exact absurd q (not34 t1)
        have : p ≠ R.length - 1 := fun z => by
          have := List.drop_eq_getElem_cons hl
          rw [← z, this] at q
          exact h34 hl (List.cons.inj q).1
        rw [beg_q, if_pos q]
        exact bad hl _ (by omega) (by omega)
      · exact (quo_open q).2
    · rw [List.length_cons] at hl'
      have hl : p < R.length := by omega
      rw [show 1 + p + 1 = (p + 1) + 1 by omega, List.take_succ_cons]
      have : (R.take (p + 1)).drop ((R.take (p + 1)).length - 1) ≠ [34] := by
        rw [take_snoc hl, (lastc _ _).1]
        intro z
        exact h34 hl (List.cons.inj z).1
      rw [(quo_open this).1]
      exact bad hl _ (Nat.le_refl _) (by omega)
/-! ### words -/
theorem com_spec : ∀ (W T : List Nat), T.take (com W T) = W.take (com W T) ∧ com W T ≤ T.length ∧ (com W T < W.length → ∀ c, T[com W T]? = some c → W[com W T]? ≠ some c)
  | [], T => ⟨rfl, Nat.zero_le _, fun h => absurd h (Nat.lt_irrefl _)⟩
  | w :: W, T => by
    rw [com]
    by_cases h : T.head? = some w
    · rw [if_pos h]
      cases T with
      | nil => cases h
      | cons t T =>
        cases h
        obtain ⟨a, b, c⟩ := com_spec W T
        refine ⟨?_, ?_, fun hl d hd => ?_⟩
        · show (w :: T).take (com W T + 1) = (w :: W).take (com W T + 1)
          rw [List.take_succ_cons, List.take_succ_cons, a]
        · show com W T + 1 ≤ T.length + 1
          omega
        · have hl : com W T + 1 < W.length + 1 := hl
          exact c (by omega) d hd
    · rw [if_neg h]
      refine ⟨rfl, Nat.zero_le _, fun _ d hd z => h ?_⟩
      cases T with
      | nil => cases hd
      | cons t T =>
        have : d = t := by cases hd; rfl
        have : d = w := by cases z; rfl
        show some t = some w
        congr 1
        omega
theorem pref_take {W : List Nat} {j : Nat} : pref (W.take j) W = true := by
  unfold pref
  rw [List.length_take, decide_eq_true (Nat.min_le_right _ _), Bool.true_and]
  rcases Nat.le_total j W.length with z | z
  · rw [Nat.min_eq_left z]
    exact beq_self_eq_true _
  · rw [Nat.min_eq_right z, List.take_of_length_le (Nat.le_refl _), List.take_of_length_le z]
    exact beq_self_eq_true _
theorem pref_eq {T W : List Nat} (h : pref T W = true) : T.length ≤ W.length ∧ W.take T.length = T := by
  unfold pref at h
  rw [Bool.and_eq_true, decide_eq_true_eq] at h
  exact ⟨h.1, eq_of_beq h.2⟩
theorem sp_word {T W : List Nat} {v : D} (hv : valP T = shf (fun _ => v) 0 (comP W T)) (hb : ∀ l : List Nat, l.head? = T.head? → ∀ w, begB l w = (decide (l = W) || (!w && pref l W))) (hT : T ≠ []) (hw : m_write_value [v] = .ok (.str (S W)) []) : Sp T := by
  obtain ⟨a, b, c⟩ := com_spec W T
  have cl := com_le W T
  unfold comP at hv
  generalize com W T = k at a b c cl hv
  have hd : ∀ j, 1 ≤ j → (T.take j).head? = T.head? := fun j hj => by
    cases T with
    | nil => exact absurd rfl hT
    | cons t r => cases j with
      | zero => omega
      | succ j => rfl
  have pre : ∀ j, 1 ≤ j → j ≤ k → begB (T.take j) false = true := fun j h1 h2 => by
    have : T.take j = W.take j := by
      have e1 : T.take j = (T.take k).take j := by rw [List.take_take, Nat.min_eq_left h2]
      rw [e1, a, List.take_take, Nat.min_eq_left h2]
    rw [hb _ (hd j h1), this, pref_take]
    simp
  have nxt : ∀ hl : k < T.length, ∀ m, k + 1 ≤ m → ∀ w, begB (T.take m) w = false := fun hl m hm w => by
    have np : pref (T.take m) W = false := by
      cases q : pref (T.take m) W with
      | false => rfl
      | true =>
        exfalso
        obtain ⟨p1, p2⟩ := pref_eq q
        have hlen : k < (T.take m).length := by rw [List.length_take]; omega
        have hW : k < W.length := by omega
        have e1 : W[k]? = some T[k] := by
          have : (W.take (T.take m).length)[k]? = (T.take m)[k]? := by rw [p2]
          rw [List.getElem?_take_of_lt hlen, List.getElem?_take_of_lt (by omega), List.getElem?_eq_getElem hl] at this
          exact this
        exact c hW _ (List.getElem?_eq_getElem hl) e1
    have ne : T.take m ≠ W := fun z => by
      have : pref (T.take m) W = true := by
        rw [z]
        have := pref_take (W := W) (j := W.length)
        rwa [List.take_length] at this
      rw [np] at this
      cases this
    rw [hb _ (hd m (by omega)), np, decide_eq_false ne]
    simp
  have er : readP T = .er k → (k < W.length ∨ k < T.length) → Sp T := by
    intro r hor
    refine .er k r b ?_ pre (fun hl => nxt hl _ (Nat.le_refl _) false)
    by_cases z : k < T.length
    · have := nxt z T.length z true
      rwa [List.take_length] at this
    · have hk : k = T.length := by omega
      rw [hb T rfl]
      have : T ≠ W := fun z2 => by rw [z2] at hk; omega
      rw [decide_eq_false this]
      rfl
  by_cases q : k = W.length
  · rw [if_pos q] at hv
    have hv : valP T = .ok v k := by
      rw [hv]
      show Pr.ok v (0 + W.length) = _
      rw [Nat.zero_add, q]
    by_cases hl : k < T.length
    · refine er ?_ (.inr hl)
      unfold readP
      rw [hv]
      show (if k < T.length then Pr.er k else _) = _
      rw [if_pos hl]
    · have e : T = W := by
        have hk : k = T.length := by omega
        rw [hk, List.take_length] at a
        rw [a, ← hk, q, List.take_length]
      refine .ok v k ?_ ?_ ?_
      · unfold readP
        rw [hv]
        show (if k < T.length then _ else Pr.ok _ k) = _
        rw [if_neg hl]
      · rw [hb T rfl, decide_eq_true e]
        rfl
      · rw [e]
        exact hw
  · rw [if_neg q] at hv
    refine er ?_ (.inl (by omega))
    unfold readP
    rw [hv]
    show Pr.er (0 + k) = _
    rw [Nat.zero_add]
theorem pref_no {a b : Nat} {r W : List Nat} (h : a ≠ b) : pref (a :: r) (b :: W) = false := by
  unfold pref
  rw [List.length_cons, List.take_succ_cons]
  have : (b :: W.take r.length == a :: r) = false := beq_eq_false_iff_ne.mpr fun z => h (List.cons.inj z).1.symm
  rw [this, Bool.and_false]
theorem all_sp (T : List Nat) : Sp T := by
  cases T with
  | nil => exact sp_num (by simp) (by simp) (by simp) (by simp)
  | cons c r =>
    by_cases h1 : c = 34
    · subst h1; exact sp_text r
    by_cases h2 : c = 91
    · subst h2; exact sp_list r
    by_cases h3 : c = 116
    · subst h3
      refine sp_word (W := [116, 114, 117, 101]) (v := .bool true) rfl (fun l hl w => ?_) (by simp) ?_
      · cases l with
        | nil => cases hl
        | cons d l =>
          have : d = 116 := by cases hl; rfl
          subst this
          show ((decide (116 :: l = [116, 114, 117, 101]) || decide (116 :: l = [102, 97, 108, 115, 101])) || (!w && (pref (116 :: l) [116, 114, 117, 101] || pref (116 :: l) [102, 97, 108, 115, 101]))) = _
          rw [show pref (116 :: l) [102, 97, 108, 115, 101] = false from pref_no (by decide), decide_eq_false (p := 116 :: l = [102, 97, 108, 115, 101]) (fun z => by cases z), Bool.or_false, Bool.or_false]
      · obtain ⟨w, hw, e⟩ := write_eq (.t true)
        cases hw
        exact e
    by_cases h4 : c = 102
    · subst h4
      refine sp_word (W := [102, 97, 108, 115, 101]) (v := .bool false) rfl (fun l hl w => ?_) (by simp) ?_
      · cases l with
        | nil => cases hl
        | cons d l =>
          have : d = 102 := by cases hl; rfl
          subst this
          show ((decide (102 :: l = [116, 114, 117, 101]) || decide (102 :: l = [102, 97, 108, 115, 101])) || (!w && (pref (102 :: l) [116, 114, 117, 101] || pref (102 :: l) [102, 97, 108, 115, 101]))) = _
          rw [show pref (102 :: l) [116, 114, 117, 101] = false from pref_no (by decide), decide_eq_false (p := 102 :: l = [116, 114, 117, 101]) (fun z => by cases z), Bool.false_or, Bool.false_or]
      · obtain ⟨w, hw, e⟩ := write_eq (.t false)
        cases hw
        exact e
    exact sp_num (by simpa using h1) (by simpa using h2) (by simpa using h3) (by simpa using h4)
end K03
end Part_QO

section Part_QP
set_option Elab.async false
set_option linter.all false
set_option maxRecDepth 100000
set_option autoImplicit false
set_option maxHeartbeats 2000000
namespace K03
open PySem PySem.Spec PyProof.Rows L2 DL SX
local macro_rules | `(tactic| walk_at "ev") => `(tactic| try simp -implicitDefEqProofs only [mDef, mSeq, mIf, mT, mTr, mOp, mUn, mVar, mC, mCall, mCons, mNil, mRet, mSkip, mAsg, mSl, mPart, mNoPart, mAndT, mOrT, mNotT, mAnd, mOr, mNot, mIfE, mChain, mIs, mIs2, mOf, mNew, mCallF, mM1, mM0, mIxM, mLenM, mApp, mSetM, mSetIx, mAug, mFrz, mForS, mRng1, mRng2, mItems, setV_zn, setV_zv, setV_zo, setV_succ, setM, frz, setT2, mBk, mCt, mNo, 
  DL.bind_ok, DL.bind_no, DL.bind_ite, lift_some, lift_none, List.map_cons, List.map_nil, List.length_cons, List.length_nil, List.replicate_succ, List.replicate_zero, List.cons_append, List.nil_append, List.append_nil, List.getElem?_cons_zero, List.getElem?_cons_succ, List.set_cons_zero, List.set_cons_succ, Nat.reduceAdd, Nat.reduceSub, Nat.zero_add, Nat.sub_self, decide_eq_true_eq,
  add_ii, sub_ii, neg_i, mul_r, mul_l, div_s, mod_s, eq_ii, ne_ii, eq_bb, ne_bb, lt_ii, gt_ii, le_ii, ge_ii, len_l, len_t, int_i, int_b, abs_i, max_ii, min_ii, tuple_l, ix_l, ix_t, tr_b, Nat.reduceLeDiff, if_true, if_false, Option.map_some, Option.bind_some, reduceIte, Int.reduceLT, Int.reduceNeg, Int.reduceMul, Nat.reduceLT, Nat.le_refl, LINE, Bool.false_eq_true, Bool.not_true, Bool.not_false, Bool.true_eq_false, e_nn, e_tn, e_tt, e_sn, e_st, e_ss, e_ln, e_lt, e_ls, is_bool_n, is_bool_t, is_bool_s, is_bool_l, is_int_n, is_int_t, is_int_s, is_int_l, is_str_n, is_str_t, is_str_s, is_str_l, is_tuple_n, is_tuple_t, is_tuple_s, is_tuple_l, is_list_n, is_list_t, is_list_s, is_list_l, Bool.false_or, Bool.true_or, Bool.or_true, Bool.or_false, c_QUOTE, c_SIGNS, c_DIGITS, c_NUMBER_LIMIT, c_TEXT_LIMIT, c_LIST_LIMIT, dItems, mCallE, mDefE, mRaise, mTryR, t_Malformed, DL.R.bind_ex, Int.reduceEq])
local macro_rules | `(tactic| walk_at "ev*") => `(tactic| try simp -implicitDefEqProofs only [mDef, mSeq, mIf, mT, mTr, mOp, mUn, mVar, mC, mCall, mCons, mNil, mRet, mSkip, mAsg, mSl, mPart, mNoPart, mAndT, mOrT, mNotT, mAnd, mOr, mNot, mIfE, mChain, mIs, mIs2, mOf, mNew, mCallF, mM1, mM0, mIxM, mLenM, mApp, mSetM, mSetIx, mAug, mFrz, mForS, mRng1, mRng2, mItems, setV_zn, setV_zv, setV_zo, setV_succ, setM, frz, setT2, mBk, mCt, mNo, 
  DL.bind_ok, DL.bind_no, DL.bind_ite, lift_some, lift_none, List.map_cons, List.map_nil, List.length_cons, List.length_nil, List.replicate_succ, List.replicate_zero, List.cons_append, List.nil_append, List.append_nil, List.getElem?_cons_zero, List.getElem?_cons_succ, List.set_cons_zero, List.set_cons_succ, Nat.reduceAdd, Nat.reduceSub, Nat.zero_add, Nat.sub_self, decide_eq_true_eq,
  add_ii, sub_ii, neg_i, mul_r, mul_l, div_s, mod_s, eq_ii, ne_ii, eq_bb, ne_bb, lt_ii, gt_ii, le_ii, ge_ii, len_l, len_t, int_i, int_b, abs_i, max_ii, min_ii, tuple_l, ix_l, ix_t, tr_b, Nat.reduceLeDiff, if_true, if_false, Option.map_some, Option.bind_some, reduceIte, Int.reduceLT, Int.reduceNeg, Int.reduceMul, Nat.reduceLT, Nat.le_refl, LINE, Bool.false_eq_true, Bool.not_true, Bool.not_false, Bool.true_eq_false, e_nn, e_tn, e_tt, e_sn, e_st, e_ss, e_ln, e_lt, e_ls, is_bool_n, is_bool_t, is_bool_s, is_bool_l, is_int_n, is_int_t, is_int_s, is_int_l, is_str_n, is_str_t, is_str_s, is_str_l, is_tuple_n, is_tuple_t, is_tuple_s, is_tuple_l, is_list_n, is_list_t, is_list_s, is_list_l, Bool.false_or, Bool.true_or, Bool.or_true, Bool.or_false, c_QUOTE, c_SIGNS, c_DIGITS, c_NUMBER_LIMIT, c_TEXT_LIMIT, c_LIST_LIMIT, dItems, mCallE, mDefE, mRaise, mTryR, t_Malformed, DL.R.bind_ex, Int.reduceEq, *])
theorem ntsl_S : ("ntsl" : Str) = S [110, 116, 115, 108] := by decide +kernel
theorem letter_eq {c : Int} (h : 0 ≤ c) : ∃ kk, dIx (.str "ntsl") (.int (c % 4)) = some (.str (letter kk)) ∧ (1 < c % 4 → kk = .s ∨ kk = .l) := by
  have e : ∀ k : Nat, dIx (.str "ntsl") (.int (k : Int)) = (([110, 116, 115, 108] : List Nat)[k]?).map fun c => .str (S [c]) := fun k => by
    rw [ntsl_S]
    exact ix_S (by simp)
  have l1 : letter .n = S [110] := by decide +kernel
  have l2 : letter .t = S [116] := by decide +kernel
  have l3 : letter .s = S [115] := by decide +kernel
  have l4 : letter .l = S [108] := by decide +kernel
  obtain ⟨k, hk⟩ : ∃ k : Nat, c % 4 = k := ⟨(c % 4).toNat, by omega⟩
  rw [hk, e]
  have : k = 0 ∨ k = 1 ∨ k = 2 ∨ k = 3 := by omega
  rcases this with rfl | rfl | rfl | rfl
  · exact ⟨.n, by rw [l1]; rfl, fun h => absurd h (by decide)⟩
  · exact ⟨.t, by rw [l2]; rfl, fun h => absurd h (by decide)⟩
  · exact ⟨.s, by rw [l3]; rfl, fun _ => .inl rfl⟩
  · exact ⟨.l, by rw [l4]; rfl, fun _ => .inr rfl⟩

def MN : List Nat := [48, 49, 50, 51, 45, 91, 93, 32, 34, 116, 114, 117, 101, 102, 97, 108, 115, 57, 120, 65]
theorem menu_S : ("0123-[] \"truefals9xA" : Str) = S MN := by decide +kernel
def Fit (l : List Nat) (n : Nat) : Prop := l.length ≤ n ∧ ∀ c ∈ l, c < 1000
theorem wr_fit {kk : Kd} {x : D} {w : List Nat} (hx : Vk kk x) (hw : Wr x w) : Fit w 150 := by
  cases hx with
  | n h =>
    cases hw
    exact ⟨Nat.le_trans (iL_len h) (by decide), iL_lt _⟩
  | t b => cases hw <;> exact ⟨by decide, by decide⟩
  | s h a =>
    rename_i l
    have : ∀ (x : D) (w : List Nat), Wr x w → x = .str (S l) → w = 34 :: (l ++ [34]) := by
      intro x w hw hx
      cases hw <;> first | (cases hx; done) | skip
      rename_i m
      have : S m = S l := by cases hx; rfl
      rw [S_inj this]
    rw [this _ _ hw rfl]
    refine ⟨by rw [List.length_cons, List.length_append, List.length_singleton]; omega, fun c hc => ?_⟩
    rcases List.mem_cons.mp hc with rfl | hc
    · decide
    · rcases List.mem_append.mp hc with hc | hc
      · have : ∀ c ∈ AL, c < 1000 := by decide
        exact this c (a c hc)
      · rw [List.mem_singleton.mp hc]; decide
  | l h a =>
    rename_i ns
    have ew := wr_tup hw ns rfl
    subst ew
    have h1 := joinL_len (ns.map iL)
    have h2 := sum_le (fun i => (iL i).length) 8 ns fun i hi => iL_len (a i hi)
    rw [lens_eq, List.length_map] at h1
    unfold lstL
    refine ⟨by rw [List.length_cons, List.length_append, List.length_singleton]; omega, fun c hc => ?_⟩
    rcases List.mem_cons.mp hc with rfl | hc
    · decide
    · rcases List.mem_append.mp hc with hc | hc
      · exact joinL_lt _ (fun l hl => by
          obtain ⟨i, _, rfl⟩ := List.mem_map.mp hl
          exact iL_lt i) c hc
      · rw [List.mem_singleton.mp hc]; decide
theorem fit_app {l m : List Nat} {a b : Nat} (h : Fit l a) (h' : Fit m b) : Fit (l ++ m) (a + b) := ⟨by rw [List.length_append]; have := h.1; have := h'.1; omega, fun c hc => by
  rcases List.mem_append.mp hc with hc | hc
  · exact h.2 c hc
  · exact h'.2 c hc⟩
theorem rest_eq {sc : D} {a c : Int} {T : List Nat} {ns : List Int} (hs : sc = .list (ns.map .int)) (h : Fit T 150) (ha : 0 ≤ a) : ∃ δ, (mSeq (mAsg (setV 5) (mOp dMod (mCall dAbs (mCons (mCallF m__law_cell (mCons (mVar 0) (mCons (mC (.int 2)) mNil))) mNil)) (mOp dAdd (mCall dLen (mCons (mVar 3) mNil)) (mC (.int 1)))))
    (mSeq (mAsg (setV 6) (mOp dMod (mOp dDiv (mVar 1) (mC (.int 20))) (mC (.int 5))))
    (mSeq (mIf (mT (mOp dEq (mVar 6) (mC (.int 1))))
    (mAsg (setV 3) (mOp dAdd (mSl (mVar 3) mNoPart (mPart (mVar 5))) (mSl (mVar 3) (mPart (mOp dAdd (mVar 5) (mC (.int 1)))) mNoPart)))
    mSkip)
    (mSeq (mIf (mT (mOp dEq (mVar 6) (mC (.int 2))))
    (mAsg (setV 3) (mOp dAdd (mOp dAdd (mSl (mVar 3) mNoPart (mPart (mVar 5))) (mOp dIx (mVar 4) (mOp dMod (mOp dDiv (mVar 1) (mC (.int 100))) (mC (.int 20))))) (mSl (mVar 3) (mPart (mVar 5)) mNoPart)))
    mSkip)
    (mSeq (mIf (mT (mOp dEq (mVar 6) (mC (.int 3))))
    (mAsg (setV 3) (mOp dAdd (mOp dAdd (mSl (mVar 3) mNoPart (mPart (mVar 5))) (mOp dIx (mVar 4) (mOp dMod (mOp dDiv (mVar 1) (mC (.int 100))) (mC (.int 20))))) (mSl (mVar 3) (mPart (mOp dAdd (mVar 5) (mC (.int 1)))) mNoPart)))
    mSkip)
    (mSeq (mIf (mT (mOp dEq (mVar 6) (mC (.int 4))))
    (mAsg (setV 3) (mSl (mVar 3) mNoPart (mPart (mVar 5))))
    mSkip)
    (mRet (mOp dEq (mCallE m__law_read (mCons (mVar 3) mNil)) (mCallF m__law_due (mCons (mVar 3) mNil)))))))))) [.val sc, .val (.int a), .val (.int c), .val (.str (S T)), .val (.str "0123-[] \"truefals9xA"), .non, .non, .non] = .ok (.rt (.bool true)) δ := by
  have f2 : m__law_cell [sc, .int 2] = .ok (.int (ns.getD 2 0)) [] := by rw [hs]; exact cell_eq ns 2
  generalize ns.getD 2 0 = z at f2
  have hz : 0 ≤ (if z < 0 then -z else z) := by split <;> omega
  have e0 := len_S (l := T) (by have := h.1; omega)
  have e1 : ∀ i : Int, dMod (.int i) (.int ((T.length : Int) + 1)) = some (.int (i % ((T.length : Int) + 1))) := fun i => mod_s (by omega)
  obtain ⟨t, ht⟩ : ∃ t : Nat, (if z < 0 then -z else z) % ((T.length : Int) + 1) = t := ⟨((if z < 0 then -z else z) % ((T.length : Int) + 1)).toNat, (Int.toNat_of_nonneg (Int.emod_nonneg _ (by omega))).symm⟩
  obtain ⟨m, hm⟩ : ∃ m : Nat, a / 100 % 20 = m := ⟨(a / 100 % 20).toNat, by omega⟩
  have q : ∀ k < 20, ∃ m, MN[k]? = some m ∧ m < 1000 := by decide
  obtain ⟨y, hy, hy2⟩ := q m (by omega)
  have e3 : dIx (.str (S MN)) (.int (m : Int)) = some (.str (S [y])) := by rw [ix_S (by decide), hy]; rfl
  have l1 := h.1
  have e4 := sl_to (l := T) (j := t) (by omega)
  have e5 := sl_from (l := T) (j := t) (by omega)
  have e6 : dSl (.str (S T)) (some ((t : Int) + 1)) none = some (.str (S (T.drop (t + 1)))) := sl_from (l := T) (j := t + 1) (by omega)
  have F1 : ∀ j, Fit (T.take j) 150 := fun j => ⟨by rw [List.length_take]; omega, lt_take h.2 j⟩
  have F2 : ∀ j, Fit (T.drop j) 150 := fun j => ⟨by rw [List.length_drop]; omega, lt_drop h.2 j⟩
  have sz : ∀ j k, (T.take j).length + (T.drop k).length ≤ 300 := fun j k => by rw [List.length_take, List.length_drop]; omega
  have c1 := cat_S (l := T.take t) (m := T.drop (t + 1)) (by have := sz t (t + 1); omega)
  have c2 := cat_S (l := T.take t) (m := [y]) (by rw [List.length_take, List.length_singleton]; omega)
  have c3 := cat_S (l := T.take t ++ [y]) (m := T.drop t) (by rw [List.length_append, List.length_singleton]; have := sz t t; omega)
  have c4 := cat_S (l := T.take t ++ [y]) (m := T.drop (t + 1)) (by rw [List.length_append, List.length_singleton]; have := sz t (t + 1); omega)
  have ends : ∀ U : List Nat, U.length ≤ 200 → (∀ c ∈ U, c < 1000) → ∃ d, m__law_read [.str (S U)] = .ok d [] ∧ m__law_due [.str (S U)] = .ok d [] ∧ dEq d d = some (.bool true) := fun U a b => due_eq a b (all_sp U)
  have hw : a / 20 % 5 = 0 ∨ a / 20 % 5 = 1 ∨ a / 20 % 5 = 2 ∨ a / 20 % 5 = 3 ∨ a / 20 % 5 = 4 := by omega
  have tk : ∀ j k, j ≤ k + 1 → (T.take j).length + (T.drop k).length ≤ T.length + 1 := fun j k hj => by rw [List.length_take, List.length_drop]; omega
  rcases hw with hw | hw | hw | hw | hw
  · obtain ⟨d, g1, g2, g3⟩ := ends T (by omega) h.2
    iterate 4 ((try simp only [f2, e0, e1]); walk_at "ev")
    rw [ht, hw]
    iterate 12 ((try simp only [g1, g2, g3]); walk_at "ev")
    exact ⟨_, rfl⟩
  · obtain ⟨d, g1, g2, g3⟩ := ends (T.take t ++ T.drop (t + 1)) (by rw [List.length_append]; have := tk t (t + 1) (by omega); omega) (fit_app (F1 t) (F2 _)).2
    iterate 4 ((try simp only [f2, e0, e1]); walk_at "ev")
    rw [ht, hw]
    iterate 16 ((try simp only [e4, e5, e6, c1, g1, g2, g3]); walk_at "ev")
    exact ⟨_, rfl⟩
  · obtain ⟨d, g1, g2, g3⟩ := ends (T.take t ++ [y] ++ T.drop t) (by rw [List.length_append, List.length_append, List.length_singleton]; have := tk t t (by omega); omega) (fit_app (fit_app (F1 t) (b := 1) ⟨by simp, one_lt hy2⟩) (F2 _)).2
    iterate 4 ((try simp only [f2, e0, e1]); walk_at "ev")
    rw [ht, hw]
    iterate 18 ((try simp only [e4, e5, e6, hm, menu_S, e3, c2, c3, g1, g2, g3]); walk_at "ev")
    exact ⟨_, rfl⟩
  · obtain ⟨d, g1, g2, g3⟩ := ends (T.take t ++ [y] ++ T.drop (t + 1)) (by rw [List.length_append, List.length_append, List.length_singleton]; have := tk t (t + 1) (by omega); omega) (fit_app (fit_app (F1 t) (b := 1) ⟨by simp, one_lt hy2⟩) (F2 _)).2
    iterate 4 ((try simp only [f2, e0, e1]); walk_at "ev")
    rw [ht, hw]
    iterate 18 ((try simp only [e4, e5, e6, hm, menu_S, e3, c2, c4, g1, g2, g3]); walk_at "ev")
    exact ⟨_, rfl⟩
  · obtain ⟨d, g1, g2, g3⟩ := ends (T.take t) (by rw [List.length_take]; omega) (F1 t).2
    iterate 4 ((try simp only [f2, e0, e1]); walk_at "ev")
    rw [ht, hw]
    iterate 16 ((try simp only [e4, e5, e6, g1, g2, g3]); walk_at "ev")
    exact ⟨_, rfl⟩
theorem law_holds : ∀ ns : List Int, ns.length ≤ 63 → ∃ δ, m_law [.list (ns.map .int)] = .ok (.bool true) δ := by
  intro ns _
  have f0 : m__law_cell [.list (ns.map .int), .int 0] = .ok (.int (ns.getD 0 0)) [] := cell_eq ns 0
  have f1 : m__law_cell [.list (ns.map .int), .int 1] = .ok (.int (ns.getD 1 0)) [] := cell_eq ns 1
  generalize ns.getD 0 0 = a0 at f0
  generalize ns.getD 1 0 = c0 at f1
  have sl : dSl (.list (ns.map .int)) (some 2) (some 22) = some (.list (((ns.drop (HT.sIx (ns.map PyData.int).length 0 (some 2))).take (HT.sIx (ns.map PyData.int).length (ns.map PyData.int).length (some 22) - HT.sIx (ns.map PyData.int).length 0 (some 2))).map .int)) := by
    show some (PyData.list (cutL (ns.map PyData.int) (some 2) (some 22))) = _
    unfold cutL
    rw [List.map_take, List.map_drop]
  have hl : ((ns.drop (HT.sIx (ns.map PyData.int).length 0 (some 2))).take (HT.sIx (ns.map PyData.int).length (ns.map PyData.int).length (some 22) - HT.sIx (ns.map PyData.int).length 0 (some 2))).length ≤ 20 := by
    rw [List.length_take, List.length_drop, List.length_map]
    have e2 := HT.sIx_nat ns.length 0 2
    have e22 := HT.sIx_nat ns.length ns.length 22
    rw [show (some (2 : Int)) = some ((2 : Nat) : Int) from rfl, show (some (22 : Int)) = some ((22 : Nat) : Int) from rfl, e2, e22]
    omega
  generalize (ns.drop (HT.sIx (ns.map PyData.int).length 0 (some 2))).take (HT.sIx (ns.map PyData.int).length (ns.map PyData.int).length (some 22) - HT.sIx (ns.map PyData.int).length 0 (some 2)) = xs at sl hl
  generalize hsc : PyData.list (ns.map .int) = sc at f0 f1 sl ⊢
  have hc : 0 ≤ (if a0 < 0 then -a0 else a0) := by split <;> omega
  have hc1 : 0 ≤ (if c0 < 0 then -c0 else c0) := by split <;> omega
  unfold m_law b_law
  rw [mDef]
  generalize hrest : (mSeq (mAsg (setV 5) (mOp dMod (mCall dAbs (mCons (mCallF m__law_cell (mCons (mVar 0) (mCons (mC (.int 2)) mNil))) mNil)) (mOp dAdd (mCall dLen (mCons (mVar 3) mNil)) (mC (.int 1)))))
    (mSeq (mAsg (setV 6) (mOp dMod (mOp dDiv (mVar 1) (mC (.int 20))) (mC (.int 5))))
    (mSeq (mIf (mT (mOp dEq (mVar 6) (mC (.int 1))))
    (mAsg (setV 3) (mOp dAdd (mSl (mVar 3) mNoPart (mPart (mVar 5))) (mSl (mVar 3) (mPart (mOp dAdd (mVar 5) (mC (.int 1)))) mNoPart)))
    mSkip)
    (mSeq (mIf (mT (mOp dEq (mVar 6) (mC (.int 2))))
    (mAsg (setV 3) (mOp dAdd (mOp dAdd (mSl (mVar 3) mNoPart (mPart (mVar 5))) (mOp dIx (mVar 4) (mOp dMod (mOp dDiv (mVar 1) (mC (.int 100))) (mC (.int 20))))) (mSl (mVar 3) (mPart (mVar 5)) mNoPart)))
    mSkip)
    (mSeq (mIf (mT (mOp dEq (mVar 6) (mC (.int 3))))
    (mAsg (setV 3) (mOp dAdd (mOp dAdd (mSl (mVar 3) mNoPart (mPart (mVar 5))) (mOp dIx (mVar 4) (mOp dMod (mOp dDiv (mVar 1) (mC (.int 100))) (mC (.int 20))))) (mSl (mVar 3) (mPart (mOp dAdd (mVar 5) (mC (.int 1)))) mNoPart)))
    mSkip)
    (mSeq (mIf (mT (mOp dEq (mVar 6) (mC (.int 4))))
    (mAsg (setV 3) (mSl (mVar 3) mNoPart (mPart (mVar 5))))
    mSkip)
    (mRet (mOp dEq (mCallE m__law_read (mCons (mVar 3) mNil)) (mCallF m__law_due (mCons (mVar 3) mNil)))))))))) = rest
  have R := fun (a c : Int) (T : List Nat) (h : Fit T 150) (ha : 0 ≤ a) => rest_eq (sc := sc) (a := a) (c := c) (T := T) (ns := ns) hsc.symm h ha
  rw [hrest] at R
  iterate 3 ((try simp only [f0, f1]); walk_at "ev")
  generalize (if a0 < 0 then -a0 else a0) = a at hc ⊢
  generalize (if c0 < 0 then -c0 else c0) = c at hc1 ⊢
  obtain ⟨kk, f2, _⟩ := letter_eq hc
  obtain ⟨x, f3, hx⟩ := value_eq kk hc1
  obtain ⟨w, hw, f4⟩ := write_eq hx
  have wf := wr_fit hx hw
  iterate 6 ((try simp only [f2, f3, f4]); walk_at "ev")
  by_cases q : a / 4 % 5 = 0
  · have M : ∃ ks : List Nat, mLcS [7] (mItems (mSl (mVar 0) (mPart (mC (.int 2))) (mPart (mC (.int 22))))) (setV 7) mYes b_law_E1 [.val sc, .val (.int a), .val (.int c), .val (.str (S w)), .val (.str "0123-[] \"truefals9xA"), .non, .non, .non] = .ok (ks.map fun k => .str (S [k])) [.val sc, .val (.int a), .val (.int c), .val (.str (S w)), .val (.str "0123-[] \"truefals9xA"), .non, .non, .non] ∧ ks.length ≤ 20 ∧ ∀ k ∈ ks, k < 1000 := by
      obtain ⟨f, e3, hf⟩ := lcS_ex (j := 7) (it := mItems (mSl (mVar 0) (mPart (mC (.int 2))) (mPart (mC (.int 22))))) (e := b_law_E1) (δ := [.val sc, .val (.int a), .val (.int c), .val (.str (S w)), .val (.str "0123-[] \"truefals9xA"), .non, .non, .non]) (δ' := [.val sc, .val (.int a), .val (.int c), .val (.str (S w)), .val (.str "0123-[] \"truefals9xA"), .non, .non, .non]) (items := xs.map .int) (P := fun _ y => ∃ k, y = .str (S [k]) ∧ k < 1000) (by
        iterate 3 ((try simp only [sl]); walk_at "ev")) (by simp) rfl (by rw [List.length_map]; omega) (fun x hx' => by
        obtain ⟨i, hi, rfl⟩ := List.mem_map.mp hx'
        obtain ⟨m, hm⟩ : ∃ m : Nat, (if i < 0 then -i else i) % 20 = m := ⟨((if i < 0 then -i else i) % 20).toNat, by omega⟩
        have q : ∀ k < 20, ∃ m, MN[k]? = some m ∧ m < 1000 := by decide
        obtain ⟨y, hy, hy2⟩ := q m (by omega)
        have e3 : dIx (.str (S MN)) (.int (m : Int)) = some (.str (S [y])) := by rw [ix_S (by decide), hy]; rfl
        refine ⟨.str (S [y]), ?_, y, rfl, hy2⟩
        unfold b_law_E1
        iterate 3 ((try simp only [menu_S, hm, e3]); walk_at "ev"))
      obtain ⟨ks, e4, hk⟩ := map_pick (ys := (xs.map PyData.int).map f) (g := fun k => PyData.str (S [k])) (Q := fun k => k < 1000) (fun y hy => by
        obtain ⟨x, hx', rfl⟩ := List.mem_map.mp hy
        exact hf x hx')
      have hl2 := congrArg List.length e4
      rw [List.length_map, List.length_map, List.length_map] at hl2
      rw [e4] at e3
      exact ⟨ks, e3, by omega, hk⟩
    obtain ⟨ks, e1, k1, k2⟩ := M
    obtain ⟨δ, e2⟩ := R a c ks ⟨by omega, k2⟩ hc
    have q' := eq_true q
    have j1 := join_ones (ks := ks) (by omega)
    iterate 8 ((try simp only [q', e1, j1, e2]); walk_at "ev")
    exact ⟨_, rfl⟩
  · obtain ⟨δ, e2⟩ := R a c w wf hc
    have q' := eq_false q
    iterate 6 ((try simp only [q', e2]); walk_at "ev")
    exact ⟨_, rfl⟩
end K03
end Part_QP

section Part_K03f
set_option Elab.async false
set_option linter.all false
namespace K03
open PySem PySem.Spec PyProof.Rows L2 DL
end K03
open PySem PySem.W PyProof.Rows in
set_option maxRecDepth 100000 in
set_option maxHeartbeats 0 in
theorem PySem.Challenge.cw_leastfit_k03_malformed_values_holds : PySem.Challenge.rw_leastfit_k03_malformed_values.Holds := by
  w_on; o_law; k_head; (case hw => w_witness2)
  k_fill
  refine' DL.walk_law (l := PySem.Challenge.rw_leastfit_k03_malformed_values) (k := 8) (m := K03.b_law) (st := K03.s_law) (N := K03.N_law) (EC := K03.EC0 _) rfl rfl rfl ⟨rfl, by decide, by decide⟩ (fun w h Y => PySem.W.kIn_of Y) K03.sc_law ?F K03.law_holds
  case F =>
    intro w mg h KX G
    refine' K03.fin ?T
    case T =>
      constructor
      · refine' DL.funX_mk KX G ?a ?l ?c ?k (fun _ _ _ _ _ _ us hl => match us, hl with | [_], _ => rfl)
        (case a => k_is); (case l => k_is); (case c => k_is); (case k => k_is)
      · refine' DL.funX_mk KX G ?a ?l ?c ?k (fun _ _ _ _ _ _ us hl => match us, hl with | [_, _], _ => rfl)
        (case a => k_is); (case l => k_is); (case c => k_is); (case k => k_is)
      · refine' DL.funX_mk KX G ?a ?l ?c ?k (fun _ _ _ _ _ _ us hl => match us, hl with | [_], _ => rfl)
        (case a => k_is); (case l => k_is); (case c => k_is); (case k => k_is)
      · refine' DL.funX_mk KX G ?a ?l ?c ?k (fun _ _ _ _ _ _ us hl => match us, hl with | [_, _, _], _ => rfl)
        (case a => k_is); (case l => k_is); (case c => k_is); (case k => k_is)
      · refine' DL.funX_mk KX G ?a ?l ?c ?k (fun _ _ _ _ _ _ us hl => match us, hl with | [_, _], _ => rfl)
        (case a => k_is); (case l => k_is); (case c => k_is); (case k => k_is)
      · refine' DL.funX_mk KX G ?a ?l ?c ?k (fun _ _ _ _ _ _ us hl => match us, hl with | [_, _], _ => rfl)
        (case a => k_is); (case l => k_is); (case c => k_is); (case k => k_is)
      · refine' DL.funX_mk KX G ?a ?l ?c ?k (fun _ _ _ _ _ _ us hl => match us, hl with | [_, _], _ => rfl)
        (case a => k_is); (case l => k_is); (case c => k_is); (case k => k_is)
      · refine' DL.funX_mk KX G ?a ?l ?c ?k (fun _ _ _ _ _ _ us hl => match us, hl with | [_, _, _], _ => rfl)
        (case a => k_is); (case l => k_is); (case c => k_is); (case k => k_is)
      · refine' DL.funX_mk KX G ?a ?l ?c ?k (fun _ _ _ _ _ _ us hl => match us, hl with | [_, _], _ => rfl)
        (case a => k_is); (case l => k_is); (case c => k_is); (case k => k_is)
      · refine' DL.funX_mk KX G ?a ?l ?c ?k (fun _ _ _ _ _ _ us hl => match us, hl with | [_, _], _ => rfl)
        (case a => k_is); (case l => k_is); (case c => k_is); (case k => k_is)
      · refine' DL.funX_mk KX G ?a ?l ?c ?k (fun _ _ _ _ _ _ us hl => match us, hl with | [_, _], _ => rfl)
        (case a => k_is); (case l => k_is); (case c => k_is); (case k => k_is)
      · refine' DL.funX_mk KX G ?a ?l ?c ?k (fun _ _ _ _ _ _ us hl => match us, hl with | [_], _ => rfl)
        (case a => k_is); (case l => k_is); (case c => k_is); (case k => k_is)
      · refine' DL.funX_mk KX G ?a ?l ?c ?k (fun _ _ _ _ _ _ us hl => match us, hl with | [_], _ => rfl)
        (case a => k_is); (case l => k_is); (case c => k_is); (case k => k_is)
      · refine' DL.funX_mk KX G ?a ?l ?c ?k (fun _ _ _ _ _ _ us hl => match us, hl with | [_, _], _ => rfl)
        (case a => k_is); (case l => k_is); (case c => k_is); (case k => k_is)
      · refine' DL.funX_mk KX G ?a ?l ?c ?k (fun _ _ _ _ _ _ us hl => match us, hl with | [_, _], _ => rfl)
        (case a => k_is); (case l => k_is); (case c => k_is); (case k => k_is)
      · refine' DL.funX_mk KX G ?a ?l ?c ?k (fun _ _ _ _ _ _ us hl => match us, hl with | [_, _], _ => rfl)
        (case a => k_is); (case l => k_is); (case c => k_is); (case k => k_is)
      · refine' DL.funX_mk KX G ?a ?l ?c ?k (fun _ _ _ _ _ _ us hl => match us, hl with | [_, _], _ => rfl)
        (case a => k_is); (case l => k_is); (case c => k_is); (case k => k_is)
      · refine' DL.funX_mk KX G ?a ?l ?c ?k (fun _ _ _ _ _ _ us hl => match us, hl with | [_], _ => rfl)
        (case a => k_is); (case l => k_is); (case c => k_is); (case k => k_is)
      · refine' DL.funX_mk KX G ?a ?l ?c ?k (fun _ _ _ _ _ _ us hl => match us, hl with | [_], _ => rfl)
        (case a => k_is); (case l => k_is); (case c => k_is); (case k => k_is)
      · refine' DL.con_str KX G ?a
        (case a => k_is)
      · refine' DL.con_int KX G ?a
        (case a => k_is)
      · refine' DL.con_int KX G ?a
        (case a => k_is)
      · refine' DL.con_str KX G ?a
        (case a => k_is)
      · refine' DL.con_str KX G ?a
        (case a => k_is)
      · refine' DL.con_int KX G ?a
        (case a => k_is)
      · refine' PySem.W.mg_none_of KX G ?a
        (case a => k_is)
      · refine' PySem.W.mg_none_of KX G ?a
        (case a => k_is)
      · refine' PySem.W.mg_none_of KX G ?a
        (case a => k_is)
      · refine' PySem.W.mg_none_of KX G ?a
        (case a => k_is)
      · refine' PySem.W.mg_none_of KX G ?a
        (case a => k_is)
      · refine' PySem.W.mg_none_of KX G ?a
        (case a => k_is)
      · refine' PySem.W.mg_none_of KX G ?a
        (case a => k_is)
      · refine' PySem.W.mg_none_of KX G ?a
        (case a => k_is)
      · refine' PySem.W.mg_of KX G ?a
        (case a => k_is)
      · refine' DL.clsF_mk ?l ?hbm ?sa ?exC ?tyC ?kC ?ga ?gg ?hd ?ha ?hn ?ht ?hm ?nof
        (case l => k_is); (case hbm => rfl); (case sa => k_is); (case exC => k_is); (case tyC => k_is); (case kC => k_is); (case ga => k_is); (case gg => k_is); (case hd => k_is); (case ha => k_is); (case hn => k_is); (case ht => k_is); (case hm => k_is); (case nof => k_is)
      · intro w2 base2
        refine' DL.errX_mk DL.TInt KX G ?F ?a ?b ?tI ?l ?ci ?S ?hsup ?hp ?har ?lc ?hvs ?hfile ?htop ?lcc ?hcls ?hmro ?hsg ?hst ?hsu ?hB ?hev ?hse ?pd1 ?pd2 ?hsw ?hb ?he ?hT
        (case F => (refine' DL.clsF_mk ?cl ?hbm ?sa ?exC ?tyC ?kC ?ga ?gg ?hd ?ha ?hn ?ht ?hm ?nof; (case cl => k_is); (case hbm => rfl); (case sa => k_is); (case exC => k_is); (case tyC => k_is); (case kC => k_is); (case ga => k_is); (case gg => k_is); (case hd => k_is); (case ha => k_is); (case hn => k_is); (case ht => k_is); (case hm => k_is); (case nof => k_is)))
        (case a => k_is); (case b => k_is); (case tI => k_is); (case l => k_is); (case ci => k_is)
        (case S => exact NdefX.nscope_by (by decide +kernel)); (case hsup => rfl); (case hp => rfl); (case har => rfl); (case lc => k_is); (case hvs => rfl)
        (case hfile => first | rfl | decide +kernel); (case htop => first | rfl | decide +kernel); (case lcc => k_is); (case hcls => k_is); (case hmro => k_is); (case hsg => k_is); (case hst => k_is)
        (case hsu => first | kernel_rfl | rfl); (case hB => k_is); (case hev => exact fun env => ⟨_, rfl⟩); (case hse => exact fun env => rfl); (case pd1 => decide); (case pd2 => decide); (case hsw => exact fun env => rfl)
        (case hb => exact fun us hl => match us, hl with | [_, _], _ => rfl)
        (case he => exact fun X _ _ _ hN hv => DL.fstr_he (by decide) X hN hv (by decide) (by decide)); (case hT => exact DL.tInt_ok)
      · refine' PySem.W.exm_ref ?h1 ?hdct ?ht ?h4
        (case h1 => k_is); (case hdct => k_is); (case ht => k_is); (case h4 => k_is)
      · refine' ⟨_, PySem.W.mg_of KX G ?a, DL.kit_ref ?h1 ?h2 ?h3 ?hne⟩
        (case a => k_is); (case h1 => k_is); (case h2 => k_is); (case h3 => k_is); (case hne => first | rfl | decide +kernel)
end Part_K03f
