import PyProof.Rows.All
import Wide.All
import OpenK.AllK
import Wide.FinOn
import HandS.ForMost
import HandS.Walk
import HandS.Evl
import HandS.IsInst
import HandS.Flow
import HandS.Style
import HandS.Wide
import HandS.Exc
import HandS.ExcOwn
import HandS.TryOnly
import HandS.TryMany
import HandS.WordsExc
import HandS.TupAny
import HandS.TupLe
import HandS.StrMore
import HandS.Codes
import KE.KExcSuper
import HandS.Nested
import HandS.ExcInit
import KE.KExcIs
import HandS.ExcField
import HandS.ExcIs
import HandS.FStr
import HandS.Star
import HandS.More
import HandS.HeadHook3
import HandS.CallLocal
import HandS.Conv
import PyProof.Rows.InDataRows
import HandS.Zip
import HandS.Deep
import PySem.Challenge.RW_leastfit_k05_unknown_and_commutative_com
section Part_DLa
set_option Elab.async false
set_option linter.all false
set_option maxRecDepth 100000
set_option autoImplicit false
set_option maxHeartbeats 2000000
/-! DL: a mirror of a def over data (PyData), and what a term of the layer's rules must hold for it -/
namespace DL
open PySem L2 Evl
abbrev D := PyData

mutual
/-- a value that stands for data; a list of the data is one that the heap tells whole -/
inductive Dq (K : PySem.W.Frag) (H : Hp) : V → D → Prop
  | non : Dq K H .non .none
  | bl (b : Bool) : Dq K H (.bl b) (.bool b)
  | int (i : Int) : Dq K H (.int i) (.int i)
  | str (x : Str) : Dq K H (.str x) (.str x)
  | lst {a : Addr} {xs : List V} {ds : List D} : SqL K H a xs → DqAll K H xs ds → Dq K H (.ref a) (.list ds)
  | tup {a : Addr} {xs : List V} {ds : List D} : SqT K H a xs → DqAll K H xs ds → Dq K H (.ref a) (.tuple ds)
inductive DqAll (K : PySem.W.Frag) (H : Hp) : List V → List D → Prop
  | nil : DqAll K H [] []
  | cons {v : V} {vs : List V} {d : D} {ds : List D} : Dq K H v d → DqAll K H vs ds → DqAll K H (v :: vs) (d :: ds)
end

/-! ### data that stands in a heap -/
section
variable {K : PySem.W.Frag} {H H' : Hp}
mutual
theorem dp_ex (e : Ex H H') : ∀ (d : D) (v : V), Dq K H v d → Dq K H' v d
  | .none, _, h => by cases h; exact .non
  | .bool b, _, h => by cases h; exact .bl b
  | .int i, _, h => by cases h; exact .int i
  | .str x, _, h => by cases h; exact .str x
  | .list ds, _, h => by
    cases h with
    | lst hs ha => exact .lst (ex_l e hs) (dpAll_ex e ds _ ha)
  | .tuple ds, _, h => by
    cases h with
    | tup hs ha => exact .tup (ex_t e hs) (dpAll_ex e ds _ ha)
  | .dict _, _, h => by cases h
theorem dpAll_ex (e : Ex H H') : ∀ (ds : List D) (vs : List V), DqAll K H vs ds → DqAll K H' vs ds
  | [], _, h => by cases h; exact .nil
  | d :: ds, _, h => by
    cases h with
    | cons h1 h2 => exact .cons (dp_ex e d _ h1) (dpAll_ex e ds _ h2)
end
mutual
theorem dq_dp : ∀ (d : D) (v : V), Dq K H v d → Dp K H v d
  | .none, _, h => by cases h; exact .non
  | .bool b, _, h => by cases h; exact .bl b
  | .int i, _, h => by cases h; exact .int i
  | .str x, _, h => by cases h; exact .str x
  | .list ds, _, h => by
    cases h with
    | lst hs ha => exact .lst hs (dqAll_dp ds _ ha)
  | .tuple ds, _, h => by
    cases h with
    | tup hs ha => exact .tup hs (dqAll_dp ds _ ha)
  | .dict _, _, h => by cases h
theorem dqAll_dp : ∀ (ds : List D) (vs : List V), DqAll K H vs ds → DpAll K H vs ds
  | [], _, h => by cases h; exact .nil
  | d :: ds, _, h => by
    cases h with
    | cons h1 h2 => exact .cons (dq_dp d _ h1) (dqAll_dp ds _ h2)
end
theorem dpa_len : ∀ {vs : List V} {ds : List D}, DqAll K H vs ds → vs.length = ds.length
  | _, _, .nil => rfl
  | _, _, .cons _ h => by simp [dpa_len h]
theorem dpa_get : ∀ {vs : List V} {ds : List D} {i : Nat} {d : D}, DqAll K H vs ds → ds[i]? = some d → ∃ v, vs[i]? = some v ∧ Dq K H v d
  | _, _, 0, d, .cons h _, e => by
    simp at e
    subst e
    exact ⟨_, rfl, h⟩
  | _, _, i + 1, d, .cons _ h, e => by
    obtain ⟨v, h1, h2⟩ := dpa_get (i := i) h (by simpa using e)
    exact ⟨v, by simpa using h1, h2⟩
  | _, _, _, _, .nil, e => by simp at e
theorem dpa_get' : ∀ {vs : List V} {ds : List D} {i : Nat} {v : V}, DqAll K H vs ds → vs[i]? = some v → ∃ d, ds[i]? = some d ∧ Dq K H v d
  | _, _, 0, d, .cons h _, e => by
    simp at e
    subst e
    exact ⟨_, rfl, h⟩
  | _, _, i + 1, d, .cons _ h, e => by
    obtain ⟨v, h1, h2⟩ := dpa_get' (i := i) h (by simpa using e)
    exact ⟨v, by simpa using h1, h2⟩
  | _, _, _, _, .nil, e => by simp at e
theorem dpa_of : ∀ {vs : List V} {ds : List D}, vs.length = ds.length → (∀ (i : Nat) v d, vs[i]? = some v → ds[i]? = some d → Dq K H v d) → DqAll K H vs ds
  | [], [], _, _ => .nil
  | [], _ :: _, e, _ => by simp at e
  | _ :: _, [], e, _ => by simp at e
  | v :: vs, d :: ds, e, h => .cons (h 0 v d rfl rfl) (dpa_of (by simpa using e) fun i v d h1 h2 => h (i + 1) v d (by simpa using h1) (by simpa using h2))
theorem dpa_app : ∀ {vs ws : List V} {ds es : List D}, DqAll K H vs ds → DqAll K H ws es → DqAll K H (vs ++ ws) (ds ++ es)
  | _, _, _, _, .nil, h => h
  | _, _, _, _, .cons h t, h2 => .cons h (dpa_app t h2)
theorem dpa_drop : ∀ {vs : List V} {ds : List D} (n : Nat), DqAll K H vs ds → DqAll K H (vs.drop n) (ds.drop n)
  | _, _, 0, h => h
  | _, _, _ + 1, .nil => .nil
  | _, _, n + 1, .cons _ t => dpa_drop n t
theorem dpa_take : ∀ {vs : List V} {ds : List D} (n : Nat), DqAll K H vs ds → DqAll K H (vs.take n) (ds.take n)
  | _, _, 0, _ => .nil
  | _, _, _ + 1, .nil => .nil
  | _, _, n + 1, .cons h t => .cons h (dpa_take n t)
theorem dpa_set {v : V} {d : D} (q : Dq K H v d) : ∀ {vs : List V} {ds : List D} (n : Nat), DqAll K H vs ds → DqAll K H (vs.set n v) (ds.set n d)
  | _, _, _, .nil => .nil
  | _, _, 0, .cons _ t => .cons q t
  | _, _, n + 1, .cons h t => .cons h (dpa_set q n t)
theorem dpa_rev : ∀ {vs : List V} {ds : List D}, DqAll K H vs ds → DqAll K H vs.reverse ds.reverse
  | _, _, .nil => .nil
  | _, _, .cons h t => by
    simp only [List.reverse_cons]
    exact dpa_app (dpa_rev t) (.cons h .nil)
theorem dpa_one {v : V} {d : D} (h : Dq K H v d) : DqAll K H [v] [d] := .cons h .nil
/-- ints, texts, truths -/
theorem dpa_ints : ∀ {vs : List V} {ns : List Int}, DqAll K H vs (ns.map PyData.int) → vs = ns.map V.int
  | _, [], h => by cases h; rfl
  | _, n :: ns, h => by
    cases h with
    | cons h1 h2 =>
      cases h1
      rw [dpa_ints h2]
      rfl
theorem dpa_strs : ∀ {vs : List V} {ns : List Str}, DqAll K H vs (ns.map PyData.str) → vs = ns.map V.str
  | _, [], h => by cases h; rfl
  | _, n :: ns, h => by
    cases h with
    | cons h1 h2 =>
      cases h1
      rw [dpa_strs h2]
      rfl
theorem dpa_bls : ∀ {vs : List V} {ns : List Bool}, DqAll K H vs (ns.map PyData.bool) → vs = ns.map V.bl
  | _, [], h => by cases h; rfl
  | _, n :: ns, h => by
    cases h with
    | cons h1 h2 =>
      cases h1
      rw [dpa_bls h2]
      rfl
theorem ints_dpa : ∀ {ns : List Int}, DqAll K H (ns.map V.int) (ns.map PyData.int)
  | [] => .nil
  | n :: ns => .cons (.int n) ints_dpa
theorem strs_dpa : ∀ {ns : List Str}, DqAll K H (ns.map V.str) (ns.map PyData.str)
  | [] => .nil
  | n :: ns => .cons (.str n) strs_dpa
end

/-! ### cells: what a mirror knows of a slot -/
inductive Cell where
  | non
  | val (d : D)
  /-- a list of one's own (b = false), of a caller (b = true): it may be changed -/
  | var (b : Bool) (ds : List D)
abbrev Dl := List Cell

structure SR (K : PySem.W.Frag) (C0 H0 : Hp) (B : List (Nat × Addr)) (C H : Hp) (σ : L2.St) (δ : Dl) : Prop where
  len : σ.length = δ.length
  c0 : Ex C0 C
  ch : Ex C H
  fr : ∀ a o, H0 a = some o → (∀ p ∈ B, p.2 ≠ a) → H a = some o
  nw : ∀ a, H0 a ≠ none → C0 a = none → C a = none
  val : ∀ (i : Nat) (d : D), δ[i]? = some (.val d) → ∃ v, σ[i]? = some (some v) ∧ Dq K C v d
  own : ∀ (i : Nat) (ds : List D), δ[i]? = some (.var false ds) → ∃ l xs, σ[i]? = some (some (.ref l)) ∧ H0 l = none ∧ C l = none ∧ H l = some (.lst xs) ∧ DqAll K C xs ds
  bor : ∀ p ∈ B, ∃ ds xs, δ[p.1]? = some (.var true ds) ∧ σ[p.1]? = some (some (.ref p.2)) ∧ C p.2 = none ∧ H p.2 = some (.lst xs) ∧ DqAll K C xs ds
  btr : ∀ (i : Nat) (ds : List D), δ[i]? = some (.var true ds) → ∃ l, (i, l) ∈ B
  bd1 : ∀ p ∈ B, ∀ q ∈ B, p.2 = q.2 → p.1 = q.1
  bd2 : ∀ p ∈ B, ∀ q ∈ B, p.1 = q.1 → p.2 = q.2
  bH0 : ∀ p ∈ B, H0 p.2 ≠ none
  odis : ∀ (i j : Nat) (ds ds' : List D), i ≠ j → δ[i]? = some (.var false ds) → δ[j]? = some (.var false ds') → ∀ l, σ[i]? = some (some (.ref l)) → σ[j]? ≠ some (some (.ref l))

section
variable {K : PySem.W.Frag} {C0 H0 C H C2 H2 : Hp} {B : List (Nat × Addr)} {σ : L2.St} {δ : Dl}
/-- nothing is changed, something may be new -/
theorem SR.step (S : SR K C0 H0 B C H σ δ) (e1 : Ex C C2) (e2 : Ex H H2) (e3 : Ex C2 H2) (n : ∀ a, H a ≠ none → C a = none → C2 a = none) : SR K C0 H0 B C2 H2 σ δ where
  len := S.len
  c0 := S.c0.trans e1
  ch := e3
  fr := fun a o h hb => e2 a o (S.fr a o h hb)
  nw := fun a h1 h2 => by
    refine n a ?_ (S.nw a h1 h2)
    by_cases hb : ∃ p ∈ B, p.2 = a
    · obtain ⟨p, hp, rfl⟩ := hb
      obtain ⟨_, _, _, _, _, h, _⟩ := S.bor p hp
      rw [h]
      exact fun z => nomatch z
    · cases q : H0 a with
      | none => exact absurd q h1
      | some o =>
        rw [S.fr a o q fun p hp e => hb ⟨p, hp, e⟩]
        exact fun z => nomatch z
  val := fun i d h => by
    obtain ⟨v, h1, h2⟩ := S.val i d h
    exact ⟨v, h1, dp_ex e1 d v h2⟩
  own := fun i ds h => by
    obtain ⟨l, xs, h1, h2, h3, h4, h5⟩ := S.own i ds h
    exact ⟨l, xs, h1, h2, n l (by rw [h4]; exact fun z => nomatch z) h3, e2 l _ h4, dpAll_ex e1 ds xs h5⟩
  bor := fun p hp => by
    obtain ⟨ds, xs, h1, h2, h3, h4, h5⟩ := S.bor p hp
    exact ⟨ds, xs, h1, h2, n _ (by rw [h4]; exact fun z => nomatch z) h3, e2 _ _ h4, dpAll_ex e1 ds xs h5⟩
  btr := S.btr
  bd1 := S.bd1
  bd2 := S.bd2
  bH0 := S.bH0
  odis := S.odis
theorem free_of {p : Addr} (e : Ex C H) (h : H p = none) : C p = none := fresh_back e h
theorem ex_upd {o : HO} {p : Addr} (e : Ex C H) : Ex (upd C p o) (upd H p o) := fun a u h => by
  by_cases q : a = p
  · subst q
    rw [upd_same] at h ⊢
    exact h
  · rw [upd_ne q] at h ⊢
    exact e a u h
/-- a new object, of the data -/
theorem SR.new (S : SR K C0 H0 B C H σ δ) {p : Addr} {o : HO} (h : H p = none) : SR K C0 H0 B (upd C p o) (upd H p o) σ δ :=
  S.step (Ex.new (free_of S.ch h)) (Ex.new h) (ex_upd S.ch) fun a h1 h2 => by
    rw [upd_ne fun z => h1 (by rw [z]; exact h)]
    exact h2
/-- a new object that is not of the data -/
theorem SR.newN (S : SR K C0 H0 B C H σ δ) {p : Addr} {o : HO} (h : H p = none) : SR K C0 H0 B C (upd H p o) σ δ :=
  S.step (Ex.refl C) (Ex.new h) (S.ch.trans (Ex.new h)) fun a _ h2 => h2
end

/-! ### what a mirror gives -/
inductive R (α : Type) where
  | ok (a : α) (δ : Dl)
  | ex (c : Nat) (d : D) (δ : Dl)
  | no
abbrev M (α : Type) := Dl → R α
def R.bind {α β : Type} (r : R α) (f : α → Dl → R β) : R β := match r with
  | .ok a δ => f a δ
  | .ex c d δ => .ex c d δ
  | .no => .no
def R.lift {α : Type} (o : Option α) (δ : Dl) : R α := match o with
  | some a => .ok a δ
  | none => .no
def RP {α : Type} (r : R α) (k : α → Dl → Prop) (x : Nat → D → Dl → Prop) : Prop := match r with
  | .ok a δ => k a δ
  | .ex c d δ => x c d δ
  | .no => False
theorem RP.imp {α : Type} {r : R α} {k k' : α → Dl → Prop} {x x' : Nat → D → Dl → Prop} (h : RP r k x) (hk : ∀ a δ, k a δ → k' a δ) (hx : ∀ c d δ, x c d δ → x' c d δ) : RP r k' x' := by
  cases r with
  | ok a δ => exact hk _ _ h
  | ex c d δ => exact hx _ _ _ h
  | no => exact h.elim
theorem RP.bind {α β : Type} {r : R α} {f : α → Dl → R β} {k : β → Dl → Prop} {x : Nat → D → Dl → Prop} (h : RP (r.bind f) k x) : RP r (fun a δ => RP (f a δ) k x) x := by
  cases r with
  | ok a δ => exact h
  | ex c d δ => exact h
  | no => exact h.elim
theorem RP.lift {α : Type} {o : Option α} {δ : Dl} {k : α → Dl → Prop} {x : Nat → D → Dl → Prop} (h : RP (R.lift o δ) k x) : ∃ a, o = some a ∧ k a δ := by
  cases o with
  | none => exact h.elim
  | some a => exact ⟨a, rfl, h⟩

/-! ### judgements -/
/-- the class of an error by its number: where it stands, the name of its one attribute -/
abbrev ECl := Nat → Addr × Str
section
variable (K : PySem.W.Frag) (EC : ECl) (W : WX) (C0 H0 : Hp) (B : List (Nat × Addr))
/-- what an expression that raises must reach -/
def PXe (C : Hp) (σ : L2.St) : Nat → D → Dl → Prop := fun c d δ => ∀ v dd C2 H2, Ex C C2 → SR K C0 H0 B C2 H2 σ δ → H2 dd = some (.xd [((EC c).2, v)]) → Dq K C2 v d → W (.ref (EC c).1) (some dd) σ H2
def PKe (C : Hp) (σ : L2.St) (Q : VK) : D → Dl → Prop := fun d δ => ∀ v C2 H2, Ex C C2 → SR K C0 H0 B C2 H2 σ δ → Dq K C2 v d → Q v H2
def PKt (C : Hp) (σ : L2.St) (Q : Bool → Hp → Prop) : Bool → Dl → Prop := fun b δ => ∀ C2 H2, Ex C C2 → SR K C0 H0 B C2 H2 σ δ → Q b H2
def PKa (C : Hp) (σ : L2.St) (Q : List V → Hp → Prop) : List D → Dl → Prop := fun ds δ => ∀ vs C2 H2, Ex C C2 → SR K C0 H0 B C2 H2 σ δ → DqAll K C2 vs ds → Q vs H2
/-- a new list that nothing else holds -/
def PKl (C : Hp) (σ : L2.St) (Q : VK) : List D → Dl → Prop := fun ds δ => ∀ p xs C2 H2, Ex C C2 → SR K C0 H0 B C2 H2 σ δ → C2 p = none → H2 p = some (.lst xs) → H0 p = none →
  (∀ (i : Nat) (b : Bool) (es : List D), δ[i]? = some (.var b es) → σ[i]? ≠ some (some (.ref p))) → DqAll K C2 xs ds → Q (.ref p) H2
end
section
variable {K : PySem.W.Frag} {EC : ECl} {W : WX} {C0 H0 C C' : Hp} {B : List (Nat × Addr)} {σ : L2.St}
theorem PXe.mono (e : Ex C C') : ∀ c d δ, PXe K EC W C0 H0 B C σ c d δ → PXe K EC W C0 H0 B C' σ c d δ := fun _ _ _ h v dd C2 H2 e2 => h v dd C2 H2 (e.trans e2)
theorem PKe.mono (e : Ex C C') {Q : VK} : ∀ d δ, PKe K C0 H0 B C σ Q d δ → PKe K C0 H0 B C' σ Q d δ := fun _ _ h v C2 H2 e2 => h v C2 H2 (e.trans e2)
theorem PKt.mono (e : Ex C C') {Q : Bool → Hp → Prop} : ∀ d δ, PKt K C0 H0 B C σ Q d δ → PKt K C0 H0 B C' σ Q d δ := fun _ _ h C2 H2 e2 => h C2 H2 (e.trans e2)
theorem PKa.mono (e : Ex C C') {Q : List V → Hp → Prop} : ∀ d δ, PKa K C0 H0 B C σ Q d δ → PKa K C0 H0 B C' σ Q d δ := fun _ _ h vs C2 H2 e2 => h vs C2 H2 (e.trans e2)
theorem PKl.mono (e : Ex C C') {Q : VK} : ∀ d δ, PKl K C0 H0 B C σ Q d δ → PKl K C0 H0 B C' σ Q d δ := fun _ _ h p xs C2 H2 e2 => h p xs C2 H2 (e.trans e2)
end

structure DE (X : Cx) (EC : ECl) (W : WX) (e : Expr) (m : M D) : Prop where
  ex : ∃ te, PE X e te ∧ ∀ C0 H0 B C H σ δ Q, SR X.K C0 H0 B C H σ δ → RP (m δ) (PKe X.K C0 H0 B C σ Q) (PXe X.K EC W C0 H0 B C σ) → te σ H Q
structure DT (X : Cx) (EC : ECl) (W : WX) (e : Expr) (m : M Bool) : Prop where
  ex : ∃ te, PT X e te ∧ ∀ C0 H0 B C H σ δ Q, SR X.K C0 H0 B C H σ δ → RP (m δ) (PKt X.K C0 H0 B C σ Q) (PXe X.K EC W C0 H0 B C σ) → te σ H Q
structure DA (X : Cx) (EC : ECl) (W : WX) (es : List Expr) (m : M (List D)) : Prop where
  len : ∀ δ ds δ', m δ = .ok ds δ' → ds.length = es.length
  ex : ∃ te, PA X es te ∧ ∀ C0 H0 B C H σ δ Q, SR X.K C0 H0 B C H σ δ → RP (m δ) (PKa X.K C0 H0 B C σ Q) (PXe X.K EC W C0 H0 B C σ) → te σ H Q
/-- an expression that gives a new list -/
structure DL' (X : Cx) (EC : ECl) (W : WX) (e : Expr) (m : M (List D)) : Prop where
  ex : ∃ te, PE X e te ∧ ∀ C0 H0 B C H σ δ Q, SR X.K C0 H0 B C H σ δ → RP (m δ) (PKl X.K C0 H0 B C σ Q) (PXe X.K EC W C0 H0 B C σ) → te σ H Q

/-! ### flows -/
inductive Fl where
  | nx
  | rt (d : D)
  | bk
  | ct
section
variable (K : PySem.W.Frag) (EC : ECl) (W : WX) (C0 H0 : Hp) (B : List (Nat × Addr)) (C : Hp)
def PXs : Nat → D → Dl → Prop := fun c d δ => ∀ σ v dd C2 H2, Ex C C2 → SR K C0 H0 B C2 H2 σ δ → H2 dd = some (.xd [((EC c).2, v)]) → Dq K C2 v d → W (.ref (EC c).1) (some dd) σ H2
def PKs (N : L2.Ends) : Fl → Dl → Prop := fun f δ => ∀ σ C2 H2, Ex C C2 → SR K C0 H0 B C2 H2 σ δ → match f with
  | .nx => N.nx σ H2
  | .rt d => ∀ v, Dq K C2 v d → N.rt v H2
  | .bk => N.bk σ H2
  | .ct => N.ct σ H2
end
structure DS (X : Cx) (EC : ECl) (W : WX) (st : Stmt) (m : M Fl) : Prop where
  ex : ∃ ts, PS X st ts ∧ ∀ C0 H0 B C H σ δ (N : L2.Ends), SR X.K C0 H0 B C H σ δ → RP (m δ) (PKs X.K C0 H0 B C N) (PXs X.K EC W C0 H0 B C) → ts N σ H
structure DSs (X : Cx) (EC : ECl) (W : WX) (st : List Stmt) (m : M Fl) : Prop where
  ex : ∃ ts, PSs X st ts ∧ ∀ C0 H0 B C H σ δ (N : L2.Ends), SR X.K C0 H0 B C H σ δ → RP (m δ) (PKs X.K C0 H0 B C N) (PXs X.K EC W C0 H0 B C) → ts N σ H
end DL
end Part_DLa

section Part_DLb
set_option Elab.async false
set_option linter.all false
set_option maxRecDepth 100000
set_option autoImplicit false
set_option maxHeartbeats 2000000
namespace DL
open PySem L2 Evl

/-! ### by values -/
def Rs (K : PySem.W.Frag) (C H : Hp) (z : D) (Q : VK) : Prop := (∀ u, Dq K C u z → Q u H) ∧ ∀ p o, H p = none → Dq K (upd C p o) (.ref p) z → Q (.ref p) (upd H p o)
theorem rs_of {K : PySem.W.Frag} {C0 H0 C H : Hp} {B : List (Nat × Addr)} {σ : L2.St} {δ : Dl} {Q : VK} {z : D} (S : SR K C0 H0 B C H σ δ) (h : PKe K C0 H0 B C σ Q z δ) : Rs K C H z Q :=
  ⟨fun u hu => h u C H (Ex.refl C) S hu, fun p o hp hd => h _ _ _ (Ex.new (free_of S.ch hp)) (S.new hp) hd⟩
def RO (K : PySem.W.Frag) (r : R2) (f : D → D → Option D) : Prop := ∀ x y z, f x y = some z → ∀ v w C H Q, Ex C H → Dq K C v x → Dq K C w y → Rs K C H z Q → r v w H Q
def RO1 (K : PySem.W.Frag) (r : V → Hp → VK → Prop) (f : D → Option D) : Prop := ∀ x z, f x = some z → ∀ v C H Q, Ex C H → Dq K C v x → Rs K C H z Q → r v H Q
def RCf (K : PySem.W.Frag) (r : List V → Hp → VK → Prop) (f : List D → Option D) : Prop := ∀ xs z, f xs = some z → ∀ vs C H Q, Ex C H → DqAll K C vs xs → Rs K C H z Q → r vs H Q
def RMt (K : PySem.W.Frag) (r : V → List V → Hp → VK → Prop) (f : D → List D → Option D) : Prop := ∀ x xs z, f x xs = some z → ∀ v vs C H Q, Ex C H → Dq K C v x → DqAll K C vs xs → Rs K C H z Q → r v vs H Q

/-! ### mirrors of expressions -/
def mVar (i : Nat) : M D := fun δ => match δ[i]? with
  | some (.val d) => .ok d δ
  | _ => .no
def mC (d : D) : M D := fun δ => .ok d δ
def mNo {α : Type} : M α := fun _ => .no
def mOp (f : D → D → Option D) (a b : M D) : M D := fun δ => (a δ).bind fun x δ => (b δ).bind fun y δ => R.lift (f x y) δ
def mUn (f : D → Option D) (a : M D) : M D := fun δ => (a δ).bind fun x δ => R.lift (f x) δ
def mNil : M (List D) := fun δ => .ok [] δ
def mCons (a : M D) (r : M (List D)) : M (List D) := fun δ => (a δ).bind fun x δ => (r δ).bind fun xs δ => .ok (x :: xs) δ
def mCall (f : List D → Option D) (a : M (List D)) : M D := fun δ => (a δ).bind fun xs δ => R.lift (f xs) δ
def mMt (f : D → List D → Option D) (o : M D) (a : M (List D)) : M D := fun δ => (o δ).bind fun x δ => (a δ).bind fun xs δ => R.lift (f x xs) δ
abbrev LINE : Nat := 16777216
theorem line_eq : sizeLine = LINE := sizeLine_eq
def dTup (xs : List D) : Option D := if xs.length ≤ LINE then some (.tuple xs) else none
def dLst (xs : List D) : Option D := if xs.length ≤ LINE then some (.list xs) else none
def truthD : D → Option Bool
  | .none => some false
  | .bool b => some b
  | .int i => some (i != 0)
  | .str s => if s.length ≤ LINE then some ((s.length : Int) != 0) else none
  | .list xs => some (!xs.isEmpty)
  | .tuple xs => some (!xs.isEmpty)
  | _ => none
def mT (a : M D) : M Bool := fun δ => (a δ).bind fun x δ => match x with
  | .bool b => .ok b δ
  | _ => .no
def mTr (a : M D) : M Bool := fun δ => (a δ).bind fun x δ => R.lift (truthD x) δ
def mAndT (a b : M Bool) : M Bool := fun δ => (a δ).bind fun c δ => if c then b δ else .ok false δ
def mOrT (a b : M Bool) : M Bool := fun δ => (a δ).bind fun c δ => if c then .ok true δ else b δ
def mNotT (a : M Bool) : M Bool := fun δ => (a δ).bind fun c δ => .ok (!c) δ
def mAnd (a b : M D) : M D := fun δ => (a δ).bind fun x δ => match truthD x with
  | some true => b δ
  | some false => .ok x δ
  | none => .no
def mOr (a b : M D) : M D := fun δ => (a δ).bind fun x δ => match truthD x with
  | some true => .ok x δ
  | some false => b δ
  | none => .no
def mNot (a : M D) : M D := mUn (fun x => (truthD x).map fun b => .bool (!b)) a
def mIfE (c : M Bool) (a b : M D) : M D := fun δ => (c δ).bind fun k δ => if k then a δ else b δ
def mChain (f g : D → D → Option D) (a b c : M D) : M D := fun δ => (a δ).bind fun x δ => (b δ).bind fun y δ => match f x y with
  | some (.bool true) => (c δ).bind fun z δ => R.lift (g y z) δ
  | some (.bool false) => .ok (.bool false) δ
  | _ => .no

/-! ### the rules -/
section
variable {X : Cx} {EC : ECl} {W : WX} {a b c e : Expr} {es : List Expr} {ma mb mc : M D} {mes : M (List D)} {pos p : Pos}

theorem de_var (i : Nat) {x : Str} (hN : X.N[i]? = some x := by rfl) (hv : Vis X.env.scope x := by first | exact Or.inl rfl | exact Or.inr (Or.inl rfl) | exact Or.inr (Or.inr rfl)) (hd : (x == ("__debug__" : Str)) = false := by decide)
    (hcd : (x == ("__classdict__" : Str)) = false := by decide) : DE X EC W (.Name x pos) (mVar i) := by
  refine ⟨_, pe_var hN hv hd hcd, fun C0 H0 B C H σ δ Q S h => ?_⟩
  unfold mVar at h
  split at h
  · rename_i d e
    obtain ⟨v, h1, h2⟩ := S.val i d e
    exact ⟨v, h1, h v C H (Ex.refl C) S h2⟩
  · exact h.elim
theorem de_con {v : V} {d : D} (h : PE X e (tC v)) (hd : ∀ C, Dq X.K C v d) : DE X EC W e (mC d) :=
  ⟨_, h, fun C0 H0 B C H σ δ Q S h => h v C H (Ex.refl C) S (hd C)⟩
theorem de_int {i : Int} {j} : DE X EC W (.Constant (.int i) j pos) (mC (.int i)) := de_con pe_int fun _ => .int i
theorem de_bl {i : Bool} {j} : DE X EC W (.Constant (.bool i) j pos) (mC (.bool i)) := de_con pe_bl fun _ => .bl i
theorem de_str {i : Str} {j} : DE X EC W (.Constant (.str i) j pos) (mC (.str i)) := de_con pe_str fun _ => .str i
theorem de_non {j} : DE X EC W (.Constant .none j pos) (mC .none) := de_con pe_non fun _ => .non
theorem de_op {op : Operator} {r : R2} {f : D → D → Option D} (ho : OpR X (binaryOp op) r) (hr : RO X.K r f) (ha : DE X EC W a ma) (hb : DE X EC W b mb) : DE X EC W (.BinOp a op b pos) (mOp f ma mb) := by
  obtain ⟨ta, pa, ra⟩ := ha.ex
  obtain ⟨tb, pb, rb⟩ := hb.ex
  refine ⟨_, pe_op ho pa pb, fun C0 H0 B C H σ δ Q S h => ra C0 H0 B C H σ δ _ S (RP.imp (RP.bind h) (fun x δ1 h1 v C1 H1 e1 S1 d1 => ?_) fun c d δ h => h)⟩
  refine rb C0 H0 B C1 H1 σ δ1 _ S1 (RP.imp (RP.bind h1) (fun y δ2 h2 w C2 H2 e2 S2 d2 => ?_) (PXe.mono e1))
  obtain ⟨z, hz, q⟩ := RP.lift h2
  exact hr x y z hz v w C2 H2 Q S2.ch (dp_ex e2 _ _ d1) d2 (rs_of S2 (PKe.mono (e1.trans e2) _ _ q))
theorem de_cmp {op : CmpOp} {r : R2} {f : D → D → Option D} (ho : OpR X (compareOp op) r) (hr : RO X.K r f) (ha : DE X EC W a ma) (hb : DE X EC W b mb) (hm : behindInMarks op b = false) : DE X EC W (.Compare a [op] [b] pos) (mOp f ma mb) := by
  obtain ⟨ta, pa, ra⟩ := ha.ex
  obtain ⟨tb, pb, rb⟩ := hb.ex
  refine ⟨_, pe_cmpR ho pa pb hm, fun C0 H0 B C H σ δ Q S h => ra C0 H0 B C H σ δ _ S (RP.imp (RP.bind h) (fun x δ1 h1 v C1 H1 e1 S1 d1 => ?_) fun c d δ h => h)⟩
  refine rb C0 H0 B C1 H1 σ δ1 _ S1 (RP.imp (RP.bind h1) (fun y δ2 h2 w C2 H2 e2 S2 d2 => ?_) (PXe.mono e1))
  obtain ⟨z, hz, q⟩ := RP.lift h2
  exact hr x y z hz v w C2 H2 Q S2.ch (dp_ex e2 _ _ d1) d2 (rs_of S2 (PKe.mono (e1.trans e2) _ _ q))
theorem de_un {op : UnaryOp} {r : V → Hp → VK → Prop} {f : D → Option D} (ho : UnR X (unaryOp op) r) (hr : RO1 X.K r f) (ha : DE X EC W a ma) : DE X EC W (.UnaryOp op a pos) (mUn f ma) := by
  obtain ⟨ta, pa, ra⟩ := ha.ex
  refine ⟨_, pe_un ho pa, fun C0 H0 B C H σ δ Q S h => ra C0 H0 B C H σ δ _ S (RP.imp (RP.bind h) (fun x δ1 h1 v C1 H1 e1 S1 d1 => ?_) fun c d δ h => h)⟩
  obtain ⟨z, hz, q⟩ := RP.lift h1
  exact hr x z hz v C1 H1 Q S1.ch d1 (rs_of S1 (PKe.mono e1 _ _ q))
theorem da_nil : DA X EC W [] mNil := ⟨fun δ ds δ' h => by cases h; rfl, _, pa_nil, fun C0 H0 B C H σ δ Q S h => h [] C H (Ex.refl C) S .nil⟩
theorem da_cons (ha : DE X EC W e ma) (hr : DA X EC W es mes) (hs : starEach (e :: es) X.env = (false, eval e X.env) :: starEach es X.env := by rfl) : DA X EC W (e :: es) (mCons ma mes) := by
  obtain ⟨ta, pa, ra⟩ := ha.ex
  obtain ⟨tb, pb, rb⟩ := hr.ex
  refine ⟨fun δ ds δ' h => ?_, _, pa_cons pa pb hs, fun C0 H0 B C H σ δ Q S h => ra C0 H0 B C H σ δ _ S (RP.imp (RP.bind h) (fun x δ1 h1 v C1 H1 e1 S1 d1 => ?_) fun c d δ h => h)⟩
  · have h : ((ma δ).bind fun x δ => (mes δ).bind fun xs δ => .ok (x :: xs) δ) = .ok ds δ' := h
    cases q : ma δ with
    | no => rw [q] at h; cases h
    | ex c d δ' => rw [q] at h; cases h
    | ok x δ1 =>
      rw [q] at h
      have h : ((mes δ1).bind fun xs δ => .ok (x :: xs) δ) = .ok ds δ' := h
      cases q2 : mes δ1 with
      | no => rw [q2] at h; cases h
      | ex c d δ' => rw [q2] at h; cases h
      | ok xs δ2 =>
        rw [q2] at h
        cases h
        rw [List.length_cons, List.length_cons, hr.len δ1 xs _ q2]
  refine rb C0 H0 B C1 H1 σ δ1 _ S1 (RP.imp (RP.bind h1) (fun y δ2 h2 ws C2 H2 e2 S2 d2 => ?_) (PXe.mono e1))
  exact h2 (v :: ws) C2 H2 (e1.trans e2) S2 (.cons (dp_ex e2 _ _ d1) d2)
/-- a built-in that is called -/
theorem de_callB {id : String} {r : List V → Hp → VK → Prop} {f : List D → Option D} {x : Str} (hc : CallR X (.builtin id) r) (hf : RCf X.K r f) (hg : Gl X x) (hm : X.mg x = none) (hv : bootBuiltins x = some (.builtin id)) (ha : DA X EC W (e :: es) mes)
    (hn : x ≠ "__name__" := by decide) (hdb : (x == ("__debug__" : Str)) = false := by decide) (he : starEach (e :: es) X.env = (false, eval e X.env) :: starEach es X.env := by rfl) (hpl : (backTo pos (starEach es X.env)).any (·.1) = false := by rfl) :
    DE X EC W (.Call (.Name x p) (e :: es) [] pos) (mCall f mes) := by
  obtain ⟨ta, pa, ra⟩ := ha.ex
  refine ⟨_, pe_callB hc hg hm hv pa hn hdb he hpl, fun C0 H0 B C H σ δ Q S h => ra C0 H0 B C H σ δ _ S (RP.imp (RP.bind h) (fun xs δ1 h1 vs C1 H1 e1 S1 d1 => ?_) fun c d δ h => h)⟩
  obtain ⟨z, hz, q⟩ := RP.lift h1
  exact hf xs z hz vs C1 H1 Q S1.ch d1 (rs_of S1 (PKe.mono e1 _ _ q))
theorem de_callTy {T : String} {r : List V → Hp → VK → Prop} {f : List D → Option D} {x : Str} (hc : CallR X (.type T) r) (hf : RCf X.K r f) (hg : Gl X x) (hm : X.mg x = none) (hv : bootBuiltins x = some (.type T)) (ha : DA X EC W (e :: es) mes)
    (hn : x ≠ "__name__" := by decide) (hdb : (x == ("__debug__" : Str)) = false := by decide) (he : starEach (e :: es) X.env = (false, eval e X.env) :: starEach es X.env := by rfl) (hpl : (backTo pos (starEach es X.env)).any (·.1) = false := by rfl) :
    DE X EC W (.Call (.Name x p) (e :: es) [] pos) (mCall f mes) := by
  obtain ⟨ta, pa, ra⟩ := ha.ex
  refine ⟨_, pe_callTy hc hg hm hv pa hn hdb he hpl, fun C0 H0 B C H σ δ Q S h => ra C0 H0 B C H σ δ _ S (RP.imp (RP.bind h) (fun xs δ1 h1 vs C1 H1 e1 S1 d1 => ?_) fun c d δ h => h)⟩
  obtain ⟨z, hz, q⟩ := RP.lift h1
  exact hf xs z hz vs C1 H1 Q S1.ch d1 (rs_of S1 (PKe.mono e1 _ _ q))
theorem de_tup {x1} (ha : DA X EC W es mes) : DE X EC W (.Tuple es x1 pos) (mCall dTup mes) := by
  obtain ⟨ta, pa, ra⟩ := ha.ex
  refine ⟨_, pe_tup pa, fun C0 H0 B C H σ δ Q S h => ra C0 H0 B C H σ δ _ S (RP.imp (RP.bind h) (fun xs δ1 h1 vs C1 H1 e1 S1 d1 => ?_) fun c d δ h => h)⟩
  obtain ⟨z, hz, q⟩ := RP.lift h1
  unfold dTup at hz
  split at hz
  · rename_i hl
    cases hz
    refine ⟨by rw [dpa_len d1, line_eq]; exact hl, fun p hp => ?_⟩
    refine (rs_of S1 (PKe.mono e1 _ _ q)).2 p _ hp (.tup (SqT.of upd_same) (dpAll_ex (Ex.new (free_of S1.ch hp)) _ _ d1))
  · cases hz
/-- a list that is displayed -/
def mNew (a : M (List D)) : M (List D) := fun δ => (a δ).bind fun xs δ => if xs.length ≤ LINE then .ok xs δ else .no
theorem dl_lst (ha : DA X EC W es mes) : DL' X EC W (.List es pos) (mNew mes) := by
  obtain ⟨ta, pa, ra⟩ := ha.ex
  refine ⟨_, pe_lst pa, fun C0 H0 B C H σ δ Q S h => ra C0 H0 B C H σ δ _ S (RP.imp (RP.bind h) (fun xs δ1 h1 vs C1 H1 e1 S1 d1 => ?_) fun c d δ h => h)⟩
  split at h1
  · rename_i hl
    refine ⟨by rw [dpa_len d1, line_eq]; exact hl, fun p hp => ?_⟩
    have nH0 : H0 p = none := by
      cases q : H0 p with
      | none => rfl
      | some o =>
        by_cases hb : ∃ k ∈ B, k.2 = p
        · obtain ⟨k, hk, rfl⟩ := hb
          obtain ⟨_, _, _, _, _, h4, _⟩ := S1.bor k hk
          rw [hp] at h4
          cases h4
        · have z := S1.fr p o q fun k hk e => hb ⟨k, hk, e⟩
          rw [hp] at z
          cases z
    refine h1 p vs C1 _ e1 (S1.newN hp) (free_of S1.ch hp) upd_same nH0 (fun i b ds hi hs => ?_) d1
    cases b with
    | false =>
      obtain ⟨l, ys, h2, _, _, h5, _⟩ := S1.own i ds hi
      rw [h2] at hs
      cases hs
      rw [hp] at h5
      cases h5
    | true =>
      obtain ⟨l, hl⟩ := S1.btr i ds hi
      obtain ⟨_, _, _, h3, _, h5, _⟩ := S1.bor _ hl
      rw [h3] at hs
      cases hs
      rw [hp] at h5
      cases h5
  · exact h1.elim
/-- a new list, as data -/
def mOf (a : M (List D)) : M D := fun δ => (a δ).bind fun xs δ => .ok (.list xs) δ
theorem de_of {mes : M (List D)} (h : DL' X EC W e mes) : DE X EC W e (mOf mes) := by
  obtain ⟨te, pe, re⟩ := h.ex
  refine ⟨te, pe, fun C0 H0 B C H σ δ Q S h => re C0 H0 B C H σ δ Q S (RP.imp (RP.bind h) (fun xs δ1 h1 p vs C1 H1 e1 S1 hC hH h0 nm d1 => ?_) fun c d δ h => h)⟩
  have e2 : Ex C1 (upd C1 p (.lst vs)) := Ex.new hC
  have e3 : Ex (upd C1 p (.lst vs)) H1 := fun a o q => by
    by_cases ha : a = p
    · subst ha
      rw [upd_same] at q
      rw [← q]
      exact hH
    · rw [upd_ne ha] at q
      exact S1.ch a o q
  refine h1 (.ref p) (upd C1 p (.lst vs)) H1 (e1.trans e2) ⟨S1.len, S1.c0.trans e2, e3, S1.fr, fun a h2 h3 => ?_, fun i d hi => ?_, fun i ds hi => ?_, fun k hk => ?_, S1.btr, S1.bd1, S1.bd2, S1.bH0, S1.odis⟩ (.lst (SqL.of upd_same) (dpAll_ex e2 _ _ d1))
  · rw [upd_ne fun z => h2 (by rw [z]; exact h0)]
    exact S1.nw a h2 h3
  · obtain ⟨v, h2, h3⟩ := S1.val i d hi
    exact ⟨v, h2, dp_ex e2 _ _ h3⟩
  · obtain ⟨l, ys, h2, h3, h4, h5, h6⟩ := S1.own i ds hi
    refine ⟨l, ys, h2, h3, ?_, h5, dpAll_ex e2 _ _ h6⟩
    rw [upd_ne fun z => nm i false ds hi (by rw [← z]; exact h2)]
    exact h4
  · obtain ⟨ds, ys, h2, h3, h4, h5, h6⟩ := S1.bor k hk
    refine ⟨ds, ys, h2, h3, ?_, h5, dpAll_ex e2 _ _ h6⟩
    rw [upd_ne fun z => nm k.1 true ds h2 (by rw [← z]; exact h3)]
    exact h4
theorem de_lst (ha : DA X EC W es mes) : DE X EC W (.List es pos) (mOf (mNew mes)) := de_of (dl_lst ha)

/-! ### tests -/
variable {ta tb : M Bool}
theorem dt_val (h : DE X EC W e ma) (he : ∀ whole, isTrue e X.env whole = (do let v ← whole; standAt e.pos; holding [v] (truthy v)) := by intro _; rfl) : DT X EC W e (mT ma) := by
  obtain ⟨te, pe, re⟩ := h.ex
  refine ⟨_, pt_val pe he, fun C0 H0 B C H σ δ Q S h => re C0 H0 B C H σ δ _ S (RP.imp (RP.bind h) (fun x δ1 h1 v C1 H1 e1 S1 d1 => ?_) fun c d δ h => h)⟩
  split at h1
  · rename_i k
    cases d1
    exact ⟨k, rfl, h1 C1 H1 e1 S1⟩
  · exact h1.elim
theorem dt_cmp {op : CmpOp} {r : R2} {f : D → D → Option D} (ho : OpR X (compareOp op) r) (hr : RO X.K r f) (ha : DE X EC W a ma) (hb : DE X EC W b mb) (hm : behindInMarks op b = false) : DT X EC W (.Compare a [op] [b] pos) (mT (mOp f ma mb)) := by
  obtain ⟨ta, pa, ra⟩ := ha.ex
  obtain ⟨tb, pb, rb⟩ := hb.ex
  refine ⟨_, pt_cmpR ho pa pb hm, fun C0 H0 B C H σ δ Q S h => ra C0 H0 B C H σ δ _ S (RP.imp (RP.bind (RP.bind h)) (fun x δ1 h1 v C1 H1 e1 S1 d1 => ?_) fun c d δ h => h)⟩
  refine rb C0 H0 B C1 H1 σ δ1 _ S1 (RP.imp (RP.bind h1) (fun y δ2 h2 w C2 H2 e2 S2 d2 => ?_) (PXe.mono e1))
  obtain ⟨z, hz, q⟩ := RP.lift h2
  refine hr x y z hz v w C2 H2 _ S2.ch (dp_ex e2 _ _ d1) d2 (rs_of (Q := fun x H' => ∃ k, x = .bl k ∧ Q k H') S2 fun u C3 H3 e3 S3 d3 => ?_)
  split at q
  · rename_i k
    cases d3
    exact ⟨k, rfl, q C3 H3 ((e1.trans e2).trans e3) S3⟩
  · exact q.elim
theorem tru_of {K : PySem.W.Frag} {C H : Hp} {v : V} {x : D} {k : Bool} (e : Ex C H) (h : Dq K C v x) (ht : truthD x = some k) : TruV K v H k := by
  have hl := line_eq
  cases h with
  | non => cases ht; rfl
  | bl b => cases ht; rfl
  | int i => cases ht; rfl
  | str s =>
    have ht : (if s.length ≤ LINE then some ((s.length : Int) != 0) else none) = some k := ht
    split at ht
    · rename_i hs
      cases ht
      exact ⟨by rw [hl]; exact hs, rfl⟩
    · cases ht
  | lst h1 h2 =>
    cases ht
    refine .inl ⟨_, ex_l e h1, ?_⟩
    have := dpa_len h2
    rename_i xs ds
    cases xs <;> cases ds <;> simp_all
  | tup h1 h2 =>
    cases ht
    refine .inr (.inl ⟨_, ex_t e h1, ?_⟩)
    have := dpa_len h2
    rename_i xs ds
    cases xs <;> cases ds <;> simp_all
theorem dt_truth (h : DE X EC W e ma) (he : ∀ whole, isTrue e X.env whole = (do let v ← whole; standAt e.pos; holding [v] (truthy v)) := by intro _; rfl) : DT X EC W e (mTr ma) := by
  obtain ⟨te, pe, re⟩ := h.ex
  refine ⟨_, pt_truth pe he, fun C0 H0 B C H σ δ Q S h => re C0 H0 B C H σ δ _ S (RP.imp (RP.bind h) (fun x δ1 h1 v C1 H1 e1 S1 d1 => ?_) fun c d δ h => h)⟩
  obtain ⟨k, hk, q⟩ := RP.lift h1
  exact ⟨k, tru_of S1.ch d1 hk, q C1 H1 e1 S1⟩
structure DW (X : Cx) (EC : ECl) (W : WX) (e : Expr) (m : M Bool) : Prop where
  ex : ∃ te, PW X e te ∧ ∀ C0 H0 B C H σ δ Q, SR X.K C0 H0 B C H σ δ → RP (m δ) (PKt X.K C0 H0 B C σ Q) (PXe X.K EC W C0 H0 B C σ) → te σ H Q
theorem DW.dt (h : DW X EC W e ta) : DT X EC W e ta := let ⟨t, p, r⟩ := h.ex; ⟨t, p.pt, r⟩
theorem dw_and1 (ha : DT X EC W a ta) : DW X EC W (.BoolOp .And [a] pos) ta := let ⟨t, p, r⟩ := ha.ex; ⟨t, pw_and1 p, r⟩
theorem dw_or1 (ha : DT X EC W a ta) : DW X EC W (.BoolOp .Or [a] pos) ta := let ⟨t, p, r⟩ := ha.ex; ⟨t, pw_or1 p, r⟩
theorem dw_and {rest : List Expr} (ha : DT X EC W a ta) (hb : DW X EC W (.BoolOp .And (b :: rest) pos) tb) : DW X EC W (.BoolOp .And (a :: b :: rest) pos) (mAndT ta tb) := by
  obtain ⟨t1, p1, r1⟩ := ha.ex
  obtain ⟨t2, p2, r2⟩ := hb.ex
  refine ⟨_, pw_and p1 p2, fun C0 H0 B C H σ δ Q S h => r1 C0 H0 B C H σ δ _ S (RP.imp (RP.bind h) (fun c δ1 h1 C1 H1 e1 S1 => ?_) fun c d δ h => h)⟩
  cases c with
  | true => exact r2 C0 H0 B C1 H1 σ δ1 Q S1 (RP.imp h1 (PKt.mono e1) (PXe.mono e1))
  | false => exact h1 C1 H1 e1 S1
theorem dw_or {rest : List Expr} (ha : DT X EC W a ta) (hb : DW X EC W (.BoolOp .Or (b :: rest) pos) tb) : DW X EC W (.BoolOp .Or (a :: b :: rest) pos) (mOrT ta tb) := by
  obtain ⟨t1, p1, r1⟩ := ha.ex
  obtain ⟨t2, p2, r2⟩ := hb.ex
  refine ⟨_, pw_or p1 p2, fun C0 H0 B C H σ δ Q S h => r1 C0 H0 B C H σ δ _ S (RP.imp (RP.bind h) (fun c δ1 h1 C1 H1 e1 S1 => ?_) fun c d δ h => h)⟩
  cases c with
  | true => exact h1 C1 H1 e1 S1
  | false => exact r2 C0 H0 B C1 H1 σ δ1 Q S1 (RP.imp h1 (PKt.mono e1) (PXe.mono e1))
theorem dt_not (ha : DT X EC W a ta) : DT X EC W (.UnaryOp .Not a pos) (mNotT ta) := by
  obtain ⟨t1, p1, r1⟩ := ha.ex
  refine ⟨_, pt_not p1, fun C0 H0 B C H σ δ Q S h => r1 C0 H0 B C H σ δ _ S (RP.imp (RP.bind h) (fun c δ1 h1 C1 H1 e1 S1 => ?_) fun c d δ h => h)⟩
  exact h1 C1 H1 e1 S1
/-! ### and, or, not, if as values -/
theorem de_one {op} (h : DE X EC W a ma) : DE X EC W (.BoolOp op [a] pos) ma := let ⟨t, p, r⟩ := h.ex; ⟨t, pe_one p, r⟩
theorem de_and {rest : List Expr} (ha : DE X EC W a ma) (hb : DE X EC W (.BoolOp .And (b :: rest) pos) mb) : DE X EC W (.BoolOp .And (a :: b :: rest) pos) (mAnd ma mb) := by
  obtain ⟨t1, p1, r1⟩ := ha.ex
  obtain ⟨t2, p2, r2⟩ := hb.ex
  refine ⟨_, pe_andT p1 p2, fun C0 H0 B C H σ δ Q S h => r1 C0 H0 B C H σ δ _ S (RP.imp (RP.bind h) (fun x δ1 h1 v C1 H1 e1 S1 d1 => ?_) fun c d δ h => h)⟩
  split at h1
  · rename_i hk
    exact ⟨true, tru_of S1.ch d1 hk, r2 C0 H0 B C1 H1 σ δ1 Q S1 (RP.imp h1 (PKe.mono e1) (PXe.mono e1))⟩
  · rename_i hk
    exact ⟨false, tru_of S1.ch d1 hk, h1 v C1 H1 e1 S1 d1⟩
  · exact h1.elim
theorem de_or {rest : List Expr} (ha : DE X EC W a ma) (hb : DE X EC W (.BoolOp .Or (b :: rest) pos) mb) : DE X EC W (.BoolOp .Or (a :: b :: rest) pos) (mOr ma mb) := by
  obtain ⟨t1, p1, r1⟩ := ha.ex
  obtain ⟨t2, p2, r2⟩ := hb.ex
  refine ⟨_, pe_orT p1 p2, fun C0 H0 B C H σ δ Q S h => r1 C0 H0 B C H σ δ _ S (RP.imp (RP.bind h) (fun x δ1 h1 v C1 H1 e1 S1 d1 => ?_) fun c d δ h => h)⟩
  split at h1
  · rename_i hk
    exact ⟨true, tru_of S1.ch d1 hk, h1 v C1 H1 e1 S1 d1⟩
  · rename_i hk
    exact ⟨false, tru_of S1.ch d1 hk, r2 C0 H0 B C1 H1 σ δ1 Q S1 (RP.imp h1 (PKe.mono e1) (PXe.mono e1))⟩
  · exact h1.elim
theorem de_not (ha : DE X EC W a ma) : DE X EC W (.UnaryOp .Not a pos) (mNot ma) := by
  obtain ⟨t1, p1, r1⟩ := ha.ex
  refine ⟨_, pe_notT p1, fun C0 H0 B C H σ δ Q S h => r1 C0 H0 B C H σ δ _ S (RP.imp (RP.bind h) (fun x δ1 h1 v C1 H1 e1 S1 d1 => ?_) fun c d δ h => h)⟩
  obtain ⟨z, hz, q⟩ := RP.lift h1
  have hz : (truthD x).map (fun b => PyData.bool (!b)) = some z := hz
  cases hk : truthD x with
  | none => rw [hk] at hz; cases hz
  | some k =>
    rw [hk] at hz
    cases hz
    exact ⟨k, tru_of S1.ch d1 hk, q _ C1 H1 e1 S1 (.bl _)⟩
theorem de_ifE (hc : DT X EC W c ta) (ha : DE X EC W a ma) (hb : DE X EC W b mb) : DE X EC W (.IfExp c a b pos) (mIfE ta ma mb) := by
  obtain ⟨t0, p0, r0⟩ := hc.ex
  obtain ⟨t1, p1, r1⟩ := ha.ex
  obtain ⟨t2, p2, r2⟩ := hb.ex
  refine ⟨_, pe_ifExp p0 p1 p2, fun C0 H0 B C H σ δ Q S h => r0 C0 H0 B C H σ δ _ S (RP.imp (RP.bind h) (fun k δ1 h1 C1 H1 e1 S1 => ?_) fun c d δ h => h)⟩
  cases k with
  | true => exact r1 C0 H0 B C1 H1 σ δ1 Q S1 (RP.imp h1 (PKe.mono e1) (PXe.mono e1))
  | false => exact r2 C0 H0 B C1 H1 σ δ1 Q S1 (RP.imp h1 (PKe.mono e1) (PXe.mono e1))
end
end DL
end Part_DLb

section Part_DLc
set_option Elab.async false
set_option linter.all false
set_option maxRecDepth 100000
set_option autoImplicit false
set_option maxHeartbeats 2000000
namespace DL
open PySem PySem.Spec PyProof.Rows L2 Evl

/-! ### operators by values -/
instance (i j : Int) : Decidable (CMul i j) := by unfold CMul; infer_instance
instance (i j : Int) : Decidable (CMulW i j) := by unfold CMulW; infer_instance
instance (i j : Int) : Decidable (CDivN i j) := by unfold CDivN; infer_instance
instance (i j : Int) : Decidable (CDivW i j) := by unfold CDivW; infer_instance
instance (i j : Int) : Decidable (CPow i j) := by unfold CPow; infer_instance

/-- list + list, either one that may only be read too -/
def rCatR (K : PySem.W.Frag) : R2 := fun x y H Q => ∃ l b xs zs, x = .ref l ∧ y = .ref b ∧ SqL K H l xs ∧ SqL K H b zs ∧ xs.length + zs.length ≤ sizeLine ∧ ∀ p, H p = none → Q (.ref p) (upd H p (.lst (xs ++ zs)))
theorem op_catR {X : Cx} : OpR X (binaryOp .Add) (rCatR X.K) := by
  intro pins s σ H x y v u Q I rx ry h
  obtain ⟨l, b, xs, zs, rfl, rfl, hH, hB, hz, q⟩ := h
  cases rx
  cases ry
  obtain ⟨its, r, p1, _⟩ := I.list hH
  obtain ⟨its2, r2, p2, _⟩ := I.list hB
  obtain ⟨⟨cls, dd, data, sl⟩, n, ho, hc, hdd, hd⟩ := p1
  obtain ⟨⟨cls2, dd2, data2, sl2⟩, n2, ho2, hc2, hdd2, hd2⟩ := p2
  simp only at hc hd hc2 hd2 hdd hdd2
  subst hc hd hc2 hd2 hdd hdd2
  have e : its.toArray ++ its2.toArray = (its ++ its2).toArray := by simp
  refine concat_meets ⟨_, ho, rfl⟩ ⟨_, ho2, rfl⟩ noFill_list_add seq_list_add PySem.F.slot_list_add PySem.F.entry_list_add (PySem.F.args_list_add_2 _ _) (list_addW l b its.toArray its2.toArray n n2 none none sl sl2 (by rw [List.size_toArray, List.size_toArray, ← r.length, ← r2.length]; exact hz)) ⟨ho, ho2, ?_⟩
  rw [e]
  exact ⟨.ref _, _, I.lnew (t' := s.toks) (r.append r2) (by rw [List.length_append]; omega), rfl, q _ I.fresh⟩

/-- some of it by name -/
def dInts : List D → Option (List Int)
  | [] => some []
  | .int i :: r => (dInts r).map (i :: ·)
  | _ => none
def dStrs : List D → Option (List Str)
  | [] => some []
  | .str i :: r => (dStrs r).map (i :: ·)
  | _ => none
def dBls : List D → Option (List Bool)
  | [] => some []
  | .bool i :: r => (dBls r).map (i :: ·)
  | _ => none
theorem dInts_map : ∀ ns : List Int, dInts (ns.map .int) = some ns
  | [] => rfl
  | n :: ns => by
    show (dInts (ns.map .int)).map (n :: ·) = _
    rw [dInts_map ns]
    rfl
theorem dStrs_map : ∀ ns : List Str, dStrs (ns.map .str) = some ns
  | [] => rfl
  | n :: ns => by
    show (dStrs (ns.map .str)).map (n :: ·) = _
    rw [dStrs_map ns]
    rfl
theorem dBls_map : ∀ ns : List Bool, dBls (ns.map .bool) = some ns
  | [] => rfl
  | n :: ns => by
    show (dBls (ns.map .bool)).map (n :: ·) = _
    rw [dBls_map ns]
    rfl
theorem dInts_eq : ∀ {ds : List D} {ns : List Int}, dInts ds = some ns → ds = ns.map .int
  | [], _, h => by cases h; rfl
  | .int i :: r, ns, h => by
    have h : (dInts r).map (i :: ·) = some ns := h
    cases q : dInts r with
    | none => rw [q] at h; cases h
    | some ms =>
      rw [q] at h
      cases h
      rw [dInts_eq q]
      rfl
  | .none :: _, _, h => by cases h
  | .bool _ :: _, _, h => by cases h
  | .str _ :: _, _, h => by cases h
  | .list _ :: _, _, h => by cases h
  | .tuple _ :: _, _, h => by cases h
  | .dict _ :: _, _, h => by cases h
theorem dStrs_eq : ∀ {ds : List D} {ns : List Str}, dStrs ds = some ns → ds = ns.map .str
  | [], _, h => by cases h; rfl
  | .str i :: r, ns, h => by
    have h : (dStrs r).map (i :: ·) = some ns := h
    cases q : dStrs r with
    | none => rw [q] at h; cases h
    | some ms =>
      rw [q] at h
      cases h
      rw [dStrs_eq q]
      rfl
  | .none :: _, _, h => by cases h
  | .bool _ :: _, _, h => by cases h
  | .int _ :: _, _, h => by cases h
  | .list _ :: _, _, h => by cases h
  | .tuple _ :: _, _, h => by cases h
  | .dict _ :: _, _, h => by cases h
theorem dBls_eq : ∀ {ds : List D} {ns : List Bool}, dBls ds = some ns → ds = ns.map .bool
  | [], _, h => by cases h; rfl
  | .bool i :: r, ns, h => by
    have h : (dBls r).map (i :: ·) = some ns := h
    cases q : dBls r with
    | none => rw [q] at h; cases h
    | some ms =>
      rw [q] at h
      cases h
      rw [dBls_eq q]
      rfl
  | .none :: _, _, h => by cases h
  | .str _ :: _, _, h => by cases h
  | .int _ :: _, _, h => by cases h
  | .list _ :: _, _, h => by cases h
  | .tuple _ :: _, _, h => by cases h
  | .dict _ :: _, _, h => by cases h

def dAdd : D → D → Option D
  | .int i, .int j => some (.int (i + j))
  | .str a, .str b => if a.length + b.length ≤ LINE then some (.str (a ++ b)) else none
  | .list a, .list b => if a.length + b.length ≤ LINE then some (.list (a ++ b)) else none
  | .tuple a, .tuple b => if a.length + b.length ≤ LINE then some (.tuple (a ++ b)) else none
  | _, _ => none
def rAddA (K : PySem.W.Frag) : R2 := fun x y H Q => (rI0 fun i j => .int (i + j)) x y H Q ∨ ((fun x y H Q => ∃ i j, x = V.str i ∧ y = V.str j ∧ i.length + j.length ≤ sizeLine ∧ Q (.str (i ++ j)) H) x y H Q ∨ (rCatR K x y H Q ∨ rCatA K x y H Q))
theorem op_addA {X : Cx} : OpR X (binaryOp .Add) (rAddA X.K) := op_add.or (op_add_str.or (op_catR.or op_catA))
theorem ro_add {K : PySem.W.Frag} : RO K (rAddA K) dAdd := by
  intro x y z hz v w C H Q e hv hw q
  have hl := line_eq
  unfold dAdd at hz
  split at hz
  · cases hz; cases hv; cases hw
    exact .inl ⟨_, _, rfl, rfl, q.1 _ (.int _)⟩
  · split at hz
    · rename_i hs
      cases hz; cases hv; cases hw
      exact .inr (.inl ⟨_, _, rfl, rfl, by rw [hl]; exact hs, q.1 _ (.str _)⟩)
    · cases hz
  · split at hz
    · rename_i hs
      cases hz
      cases hv with
      | lst h1 h2 =>
        cases hw with
        | lst h3 h4 =>
          have l1 := dpa_len h2
          have l2 := dpa_len h4
          refine .inr (.inr (.inl ⟨_, _, _, _, rfl, rfl, ex_l e h1, ex_l e h3, by rw [hl, l1, l2]; exact hs, fun p hp => ?_⟩))
          exact q.2 p _ hp (.lst (SqL.of upd_same) (dpAll_ex (Ex.new (free_of e hp)) _ _ (dpa_app h2 h4)))
    · cases hz
  · split at hz
    · rename_i hs
      cases hz
      cases hv with
      | tup h1 h2 =>
        cases hw with
        | tup h3 h4 =>
          have l1 := dpa_len h2
          have l2 := dpa_len h4
          refine .inr (.inr (.inr ⟨_, _, _, _, rfl, rfl, ex_t e h1, ex_t e h3, by rw [hl, l1, l2]; exact hs, fun n => ?_, fun _ n => ?_, fun _ _ p hp => ?_⟩))
          · subst n
            cases h2
            exact q.1 _ (.tup h3 h4)
          · subst n
            cases h4
            rw [List.append_nil] at q
            exact q.1 _ (.tup h1 h2)
          · exact q.2 p _ hp (.tup (SqT.of upd_same) (dpAll_ex (Ex.new (free_of e hp)) _ _ (dpa_app h2 h4)))
    · cases hz
  · cases hz
def dII (g : Int → Int → Option D) : D → D → Option D
  | .int i, .int j => g i j
  | _, _ => none
theorem ro_ii {K : PySem.W.Frag} {Cn : Int → Int → Prop} {g : Int → Int → V} {f : Int → Int → Option D} (h : ∀ i j z, f i j = some z → Cn i j ∧ ∀ C, Dq K C (g i j) z) : RO K (rI Cn g) (dII f) := by
  intro x y z hz v w C H Q e hv hw q
  unfold dII at hz
  split at hz
  · cases hv; cases hw
    obtain ⟨h1, h2⟩ := h _ _ _ hz
    exact ⟨_, _, rfl, rfl, h1, q.1 _ (h2 C)⟩
  · cases hz
theorem ro_i0 {K : PySem.W.Frag} {g : Int → Int → V} {f : Int → Int → Option D} (h : ∀ i j z, f i j = some z → ∀ C, Dq K C (g i j) z) : RO K (rI0 g) (dII f) := by
  intro x y z hz v w C H Q e hv hw q
  unfold dII at hz
  split at hz
  · cases hv; cases hw
    exact ⟨_, _, rfl, rfl, q.1 _ (h _ _ _ hz C)⟩
  · cases hz
def dSub := dII fun i j => some (.int (i - j))
theorem ro_sub {K : PySem.W.Frag} : RO K (rI0 fun i j => .int (i - j)) dSub := ro_i0 fun i j z h C => by cases h; exact .int _
def dMul := dII fun i j => if CMul i j ∨ CMulW i j then some (.int (i * j)) else none
def rMulA : R2 := fun x y H Q => rI CMul (fun i j => .int (i * j)) x y H Q ∨ rI CMulW (fun i j => .int (i * j)) x y H Q
theorem op_mulA {X : Cx} : OpR X (binaryOp .Mult) rMulA := op_mul.or op_mulW
theorem ro_mul {K : PySem.W.Frag} : RO K rMulA dMul := by
  intro x y z hz v w C H Q e hv hw q
  unfold dMul dII at hz
  split at hz
  · dsimp only at hz
    split at hz
    · rename_i h
      cases hz; cases hv; cases hw
      rcases h with h | h
      · exact .inl ⟨_, _, rfl, rfl, h, q.1 _ (.int _)⟩
      · exact .inr ⟨_, _, rfl, rfl, h, q.1 _ (.int _)⟩
    · cases hz
  · cases hz
/-- by a divisor that is not 0 and small, or positive -/
def dDiv := dII fun i j => if CDivN i j ∨ CDivW i j then some (.int (i.fdiv j)) else none
def rDivA : R2 := fun x y H Q => rI CDivN (fun i j => .int (i.fdiv j)) x y H Q ∨ rI CDivW (fun i j => .int (i / j)) x y H Q
theorem op_divA {X : Cx} : OpR X (binaryOp .FloorDiv) rDivA := op_fdivN.or op_fdivW
theorem ro_div {K : PySem.W.Frag} : RO K rDivA dDiv := by
  intro x y z hz v w C H Q e hv hw q
  unfold dDiv dII at hz
  split at hz
  · dsimp only at hz
    split at hz
    · rename_i h
      cases hz; cases hv; cases hw
      rcases h with h | h
      · exact .inl ⟨_, _, rfl, rfl, h, q.1 _ (.int _)⟩
      · refine .inr ⟨_, _, rfl, rfl, h, q.1 _ ?_⟩
        rw [Int.fdiv_eq_ediv_of_nonneg _ (Int.le_of_lt h.1)]
        exact .int _
    · cases hz
  · cases hz
def dMod := dII fun i j => if j ≠ 0 then some (.int (i.fmod j)) else none
theorem ro_mod {K : PySem.W.Frag} : RO K (rI (fun _ j => j ≠ 0) fun i j => .int (i.fmod j)) dMod := ro_ii fun i j z h => by
  split at h
  · cases h; exact ⟨by assumption, fun _ => .int _⟩
  · cases h
def dPow := dII fun i j => if CPow i j then some (.int (i ^ j.toNat)) else none
theorem ro_pow {K : PySem.W.Frag} : RO K (rI CPow fun i j => .int (i ^ j.toNat)) dPow := ro_ii fun i j z h => by
  split at h
  · cases h; exact ⟨by assumption, fun _ => .int _⟩
  · cases h
def dNeg : D → Option D
  | .int i => some (.int (-i))
  | _ => none
theorem ro_neg {K : PySem.W.Frag} : RO1 K (rU fun i => .int (-i)) dNeg := by
  intro x z hz v C H Q e hv q
  unfold dNeg at hz
  split at hz
  · cases hz; cases hv
    exact ⟨_, rfl, q.1 _ (.int _)⟩
  · cases hz
/-! comparisons -/
def dEq (x y : D) : Option D := if SeqAt.shaped x && SeqAt.shaped y then some (.bool (PyData.eqv x y)) else none
def dNe (x y : D) : Option D := if SeqAt.shaped x && SeqAt.shaped y then some (.bool (!PyData.eqv x y)) else none
theorem ro_eq {K : PySem.W.Frag} : RO K (rEqD K) dEq := by
  intro x y z hz v w C H Q e hv hw q
  unfold dEq at hz
  split at hz
  · rename_i h
    rw [Bool.and_eq_true] at h
    cases hz
    exact ⟨x, y, dq_dp _ _ (dp_ex e _ _ hv), dq_dp _ _ (dp_ex e _ _ hw), h.1, h.2, q.1 _ (.bl _)⟩
  · cases hz
theorem ro_ne {K : PySem.W.Frag} : RO K (rNeD K) dNe := by
  intro x y z hz v w C H Q e hv hw q
  unfold dNe at hz
  split at hz
  · rename_i h
    rw [Bool.and_eq_true] at h
    cases hz
    exact ⟨x, y, dq_dp _ _ (dp_ex e _ _ hv), dq_dp _ _ (dp_ex e _ _ hw), h.1, h.2, q.1 _ (.bl _)⟩
  · cases hz
def dIsN : D → D → Option D
  | x, .none => some (.bool (match x with | .none => true | _ => false))
  | _, _ => none
def dNotN : D → D → Option D
  | x, .none => some (.bool (match x with | .none => false | _ => true))
  | _, _ => none
theorem ro_isN {K : PySem.W.Frag} : RO K (fun x y H Q => y = V.non ∧ Q (.bl (decide (x = .non))) H) dIsN := by
  intro x y z hz v w C H Q e hv hw q
  unfold dIsN at hz
  split at hz
  · cases hz; cases hw
    refine ⟨rfl, q.1 _ ?_⟩
    cases hv <;> exact .bl _
  · cases hz
theorem ro_notN {K : PySem.W.Frag} : RO K (fun x y H Q => y = V.non ∧ Q (.bl (!decide (x = .non))) H) dNotN := by
  intro x y z hz v w C H Q e hv hw q
  unfold dNotN at hz
  split at hz
  · cases hz; cases hw
    refine ⟨rfl, q.1 _ ?_⟩
    cases hv <;> exact .bl _
  · cases hz
def b2 (b : Bool) : Int := if b = true then 1 else 0
def dLt : D → D → Option D
  | .int i, .int j => some (.bool (decide (i < j)))
  | .bool i, .bool j => some (.bool (decide (b2 i < b2 j)))
  | .str i, .str j => some (.bool (decide (i.cps.toList < j.cps.toList)))
  | .tuple xs, .tuple ys => match dInts xs, dInts ys with
    | some ns, some ms => some (.bool (HT.lexLt ns ms))
    | _, _ => none
  | _, _ => none
def rB2 (g : Bool → Bool → Bool) : R2 := fun x y H Q => ∃ i j, x = .bl i ∧ y = .bl j ∧ Q (.bl (g i j)) H
theorem op_ltB {X : Cx} : OpR X (compareOp .Lt) (rB2 fun i j => decide (b2 i < b2 j)) := by
  intro pins s σ H x y v u Q I rx ry h
  obtain ⟨i, j, rfl, rfl, q⟩ := h
  cases rx; cases ry
  exact PyProof.Rows.lt_bool ⟨.bl _, H, I, rfl, q⟩
theorem op_gtB {X : Cx} : OpR X (compareOp .Gt) (rB2 fun i j => decide (b2 j < b2 i)) := by
  intro pins s σ H x y v u Q I rx ry h
  obtain ⟨i, j, rfl, rfl, q⟩ := h
  cases rx; cases ry
  exact PyProof.Rows.gt_bool ⟨.bl _, H, I, rfl, q⟩
theorem lex_at (ns ms : List Int) : ∀ (k i : Nat), k = min ns.length ms.length - i → i ≤ min ns.length ms.length →
    Ob.lexAt (fun j => decide (ns.getD j 0 = ms.getD j 0)) (fun j => decide (ms.getD j 0 < ns.getD j 0)) (decide (ns.length > ms.length)) i k = HT.lexLt (ms.drop i) (ns.drop i)
  | 0, i, hk, hi => by
    rw [Ob.lexAt_zero]
    by_cases h : ms.length ≤ ns.length
    · have e : i = ms.length := by omega
      subst e
      rw [List.drop_length]
      cases q : ns.drop ms.length with
      | nil =>
        have := congrArg List.length q
        rw [List.length_drop, List.length_nil] at this
        rw [HT.lexLt_nil_nil]
        exact decide_eq_false (by omega)
      | cons a r =>
        have := congrArg List.length q
        rw [List.length_drop, List.length_cons] at this
        rw [HT.lexLt_nil_cons]
        exact decide_eq_true (by omega)
    · have e : i = ns.length := by omega
      subst e
      rw [List.drop_length]
      cases q : ms.drop ns.length with
      | nil =>
        rw [HT.lexLt_nil_nil]
        exact decide_eq_false (by omega)
      | cons a r =>
        rw [HT.lexLt_cons_nil]
        exact decide_eq_false (by omega)
  | k + 1, i, hk, hi => by
    have h1 : i < ns.length := by omega
    have h2 : i < ms.length := by omega
    rw [Ob.lexAt_succ, lex_at ns ms k (i + 1) (by omega) (by omega)]
    have d1 : ns.drop i = ns[i] :: ns.drop (i + 1) := List.drop_eq_getElem_cons h1
    have d2 : ms.drop i = ms[i] :: ms.drop (i + 1) := List.drop_eq_getElem_cons h2
    have g1 : ns.getD i 0 = ns[i] := by simp [List.getD, h1]
    have g2 : ms.getD i 0 = ms[i] := by simp [List.getD, h2]
    rw [d1, d2, HT.lexLt_cons]
    simp only [g1, g2, decide_eq_true_eq]
    by_cases h : ns[i] = ms[i]
    · rw [if_pos h, if_pos h.symm]
    · rw [if_neg h, if_neg (fun z => h z.symm)]
def rGtT (K : PySem.W.Frag) : R2 := fun x y H Q => ∃ (a b : Addr) (ns ms : List Int), x = .ref a ∧ y = .ref b ∧ SqT K H a (ns.map V.int) ∧ SqT K H b (ms.map V.int) ∧ Q (.bl (HT.lexLt ms ns)) H
theorem op_gtT {X : Cx} (hu : X.A.units < cLine) : OpR X (compareOp .Gt) (rGtT X.K) := by
  intro pins s σ H x y v u Q I rx ry h
  obtain ⟨a, b, ns, ms, rfl, rfl, ha, hb, q⟩ := h
  cases rx
  cases ry
  obtain ⟨its, r1, p1, _⟩ := I.tuple ha
  obtain ⟨its2, r2, p2, _⟩ := I.tuple hb
  have i1 : IntsAre its ns := Vals.ints r1
  have i2 : IntsAre its2 ms := Vals.ints r2
  have e1 : its.toArray.size = ns.length := by rw [List.size_toArray]; exact i1.length
  have e2 : its2.toArray.size = ms.length := by rw [List.size_toArray]; exact i2.length
  have at1 : ∀ j (h1 : j < its.toArray.size), ∃ t, its.toArray[j] = .int (ns.getD j 0) t := fun j h1 => PyProof.Rows.IntsAre.int_at i1 _ _ (by simp at h1; simp [h1])
  have at2 : ∀ j (h1 : j < its2.toArray.size), ∃ t, its2.toArray[j] = .int (ms.getD j 0) t := fun j h1 => PyProof.Rows.IntsAre.int_at i2 _ _ (by simp at h1; simp [h1])
  have R := Ob.RcOp.tuples_gt (A := X.A) (s := s) (e := fun j => decide (ns.getD j 0 = ms.getD j 0)) (r := fun j => decide (ms.getD j 0 < ns.getD j 0)) p1 p2 hu (fun j h1 h2 => by
    obtain ⟨t, et⟩ := at1 j h1
    obtain ⟨t', et'⟩ := at2 j h2
    rw [et, et']
    have z : (ns.getD j 0 == ms.getD j 0) = decide (ns.getD j 0 = ms.getD j 0) := by
      by_cases q : ns.getD j 0 = ms.getD j 0
      · rw [decide_eq_true q]; exact beq_iff_eq.mpr q
      · rw [decide_eq_false q]; exact beq_eq_false_iff_ne.mpr q
    rw [← z]
    exact SeqAt.EqAt.int_int _ _ _ _) (fun j h1 h2 _ => by
    obtain ⟨t, et⟩ := at1 j h1
    obtain ⟨t', et'⟩ := at2 j h2
    rw [et, et']
    exact Ob.RcOp.gt_int _ _ _ _)
  rw [e1, e2, lex_at ns ms _ 0 (by omega) (by omega)] at R
  have z : wpAny (model X.prog X.w) X.A (compareOp .Gt (.ref a) (.ref b)) (EP X pins σ Q) X.xe s := R X.prog X.w X.xe (EP X pins σ Q) ⟨.bl _, H, I, rfl, q⟩
  exact z
def rLtA (K : PySem.W.Frag) : R2 := fun x y H Q => (rI0 fun i j => .bl (decide (i < j))) x y H Q ∨ (rB2 (fun i j => decide (b2 i < b2 j)) x y H Q ∨ ((fun x y H Q => ∃ i j, x = V.str i ∧ y = V.str j ∧ Q (.bl (decide (i.cps.toList < j.cps.toList))) H) x y H Q ∨ rLtT K x y H Q))
theorem op_ltA {X : Cx} (hu : X.A.units < cLine) : OpR X (compareOp .Lt) (rLtA X.K) := op_lt.or (op_ltB.or (op_lt_str.or (op_ltT hu)))
theorem ro_lt {K : PySem.W.Frag} : RO K (rLtA K) dLt := by
  intro x y z hz v w C H Q e hv hw q
  unfold dLt at hz
  split at hz
  · cases hz; cases hv; cases hw
    exact .inl ⟨_, _, rfl, rfl, q.1 _ (.bl _)⟩
  · cases hz; cases hv; cases hw
    exact .inr (.inl ⟨_, _, rfl, rfl, q.1 _ (.bl _)⟩)
  · cases hz; cases hv; cases hw
    exact .inr (.inr (.inl ⟨_, _, rfl, rfl, q.1 _ (.bl _)⟩))
  · split at hz
    · rename_i h1 h2
      cases hz
      have e1 := dInts_eq h1
      have e2 := dInts_eq h2
      subst e1 e2
      cases hv with
      | tup a1 a2 =>
        cases hw with
        | tup b1 b2 =>
          have f1 := dpa_ints a2
          have f2 := dpa_ints b2
          subst f1 f2
          exact .inr (.inr (.inr ⟨_, _, _, _, rfl, rfl, ex_t e a1, ex_t e b1, q.1 _ (.bl _)⟩))
    · cases hz
  · cases hz
def dGt : D → D → Option D
  | .int i, .int j => some (.bool (decide (j < i)))
  | .bool i, .bool j => some (.bool (decide (b2 j < b2 i)))
  | .str i, .str j => some (.bool (decide (j.cps.toList < i.cps.toList)))
  | .tuple xs, .tuple ys => match dInts xs, dInts ys with
    | some ns, some ms => some (.bool (HT.lexLt ms ns))
    | _, _ => none
  | _, _ => none
def rGtA (K : PySem.W.Frag) : R2 := fun x y H Q => (rI0 fun i j => .bl (decide (j < i))) x y H Q ∨ (rB2 (fun i j => decide (b2 j < b2 i)) x y H Q ∨ ((fun x y H Q => ∃ i j, x = V.str i ∧ y = V.str j ∧ Q (.bl (decide (j.cps.toList < i.cps.toList))) H) x y H Q ∨ rGtT K x y H Q))
theorem op_gtA {X : Cx} (hu : X.A.units < cLine) : OpR X (compareOp .Gt) (rGtA X.K) := op_gt.or (op_gtB.or (op_gt_str.or (op_gtT hu)))
theorem ro_gt {K : PySem.W.Frag} : RO K (rGtA K) dGt := by
  intro x y z hz v w C H Q e hv hw q
  unfold dGt at hz
  split at hz
  · cases hz; cases hv; cases hw
    exact .inl ⟨_, _, rfl, rfl, q.1 _ (.bl _)⟩
  · cases hz; cases hv; cases hw
    exact .inr (.inl ⟨_, _, rfl, rfl, q.1 _ (.bl _)⟩)
  · cases hz; cases hv; cases hw
    exact .inr (.inr (.inl ⟨_, _, rfl, rfl, q.1 _ (.bl _)⟩))
  · split at hz
    · rename_i h1 h2
      cases hz
      have e1 := dInts_eq h1
      have e2 := dInts_eq h2
      subst e1 e2
      cases hv with
      | tup a1 a2 =>
        cases hw with
        | tup b1 b2 =>
          have f1 := dpa_ints a2
          have f2 := dpa_ints b2
          subst f1 f2
          exact .inr (.inr (.inr ⟨_, _, _, _, rfl, rfl, ex_t e a1, ex_t e b1, q.1 _ (.bl _)⟩))
    · cases hz
  · cases hz
def dLe := dII fun i j => some (.bool (decide (i ≤ j)))
def dGe := dII fun i j => some (.bool (decide (j ≤ i)))
theorem ro_le {K : PySem.W.Frag} : RO K (rI0 fun i j => .bl (decide (i ≤ j))) dLe := ro_i0 fun i j z h C => by cases h; exact .bl _
theorem ro_ge {K : PySem.W.Frag} : RO K (rI0 fun i j => .bl (decide (j ≤ i))) dGe := ro_i0 fun i j z h C => by cases h; exact .bl _
/-! in -/
def flatD : D → Bool
  | .none => true
  | .bool _ => true
  | .int _ => true
  | .str _ => true
  | _ => false
def inD (x : D) (ds : List D) : Bool := ds.any fun y => PyData.eqv y x
theorem flat_of {K : PySem.W.Frag} {C : Hp} {v : V} {x : D} (h : Dq K C v x) (f : flatD x = true) : flatV v = true := by
  cases h <;> first | rfl | cases f
theorem flats_of {K : PySem.W.Frag} {C : Hp} : ∀ {vs : List V} {xs : List D}, DqAll K C vs xs → xs.all flatD = true → vs.all flatV = true
  | _, _, .nil, _ => rfl
  | _, _, .cons h t, f => by
    rw [List.all_cons, Bool.and_eq_true] at f ⊢
    exact ⟨flat_of h f.1, flats_of t f.2⟩
theorem eqV_of {K : PySem.W.Frag} {C : Hp} {v w : V} {x y : D} (h : Dq K C v x) (h' : Dq K C w y) (f : flatD x = true) (f' : flatD y = true) : eqV v w = PyData.eqv x y := by
  cases h <;> cases h' <;> first | rfl | cases f | cases f'
theorem inV_of {K : PySem.W.Frag} {C : Hp} {v : V} {x : D} (h : Dq K C v x) (f : flatD x = true) : ∀ {vs : List V} {xs : List D}, DqAll K C vs xs → xs.all flatD = true → inV v vs = inD x xs
  | _, _, .nil, _ => rfl
  | _, _, .cons a t, g => by
    rw [List.all_cons, Bool.and_eq_true] at g
    unfold inV inD
    rw [List.any_cons, List.any_cons, eqV_of a h g.1 f]
    exact congrArg _ (inV_of h f t g.2)
def inStr (a b : Str) : Bool := match a.cps.toList with
  | [c] => decide (c ∈ b.cps.toList)
  | _ => !(Builtin.Str.occurrences b a 0 b.length 1).isEmpty
def dIn : D → D → Option D
  | .str a, .str b => some (.bool (inStr a b))
  | x, .list ys => if flatD x && ys.all flatD then some (.bool (inD x ys)) else none
  | x, .tuple ys => if flatD x && ys.all flatD then some (.bool (inD x ys)) else none
  | _, _ => none
def rInA (K : PySem.W.Frag) : R2 := fun x y H Q => ((fun x y H Q => ∃ (c : Nat) (z : Str), x = V.str ⟨#[c]⟩ ∧ y = V.str z ∧ Q (.bl (decide (c ∈ z.cps.toList))) H) x y H Q) ∨ (((fun x y H Q => ∃ i j, x = V.str i ∧ y = V.str j ∧ Q (.bl (!(Builtin.Str.occurrences j i 0 j.length 1).isEmpty)) H) x y H Q) ∨ rIn K false x y H Q)
theorem op_inA {X : Cx} : OpR X (compareOp .In) (rInA X.K) := op_in_sign.or (op_in_str.or op_in_seq)
theorem one_sign {a : Str} {c : Nat} (h : a.cps.toList = [c]) : a = ⟨#[c]⟩ := Str.ext' (Array.toList_inj.mp h)
theorem ro_in {K : PySem.W.Frag} : RO K (rInA K) dIn := by
  intro x y z hz v w C H Q e hv hw q
  unfold dIn at hz
  split at hz
  · cases hz; cases hv; cases hw
    rename_i a b
    unfold inStr at q
    split at q
    · rename_i c hc
      rw [one_sign hc]
      exact .inl ⟨c, b, rfl, rfl, q.1 _ (.bl _)⟩
    · exact .inr (.inl ⟨_, _, rfl, rfl, q.1 _ (.bl _)⟩)
  · split at hz
    · rename_i h
      rw [Bool.and_eq_true] at h
      cases hz
      cases hw with
      | lst h1 h2 =>
        refine .inr (.inr ⟨_, _, rfl, .inl (ex_l e h1), flat_of hv h.1, flats_of h2 h.2, ?_⟩)
        have i := inV_of hv h.1 h2 h.2
        show Q (.bl (inV v _)) H
        rw [i]
        exact q.1 _ (.bl _)
    · cases hz
  · split at hz
    · rename_i h
      rw [Bool.and_eq_true] at h
      cases hz
      cases hw with
      | tup h1 h2 =>
        refine .inr (.inr ⟨_, _, rfl, .inr (ex_t e h1), flat_of hv h.1, flats_of h2 h.2, ?_⟩)
        have i := inV_of hv h.1 h2 h.2
        show Q (.bl (inV v _)) H
        rw [i]
        exact q.1 _ (.bl _)
    · cases hz
  · cases hz
def dNotIn (x y : D) : Option D := match dIn x y with
  | some (.bool b) => some (.bool (!b))
  | _ => none
def rNiA (K : PySem.W.Frag) : R2 := fun x y H Q => ((fun x y H Q => ∃ (c : Nat) (z : Str), x = V.str ⟨#[c]⟩ ∧ y = V.str z ∧ Q (.bl (!decide (c ∈ z.cps.toList))) H) x y H Q) ∨ (((fun x y H Q => ∃ i j, x = V.str i ∧ y = V.str j ∧ Q (.bl (!(!(Builtin.Str.occurrences j i 0 j.length 1).isEmpty))) H) x y H Q) ∨ rIn K true x y H Q)
theorem op_niA {X : Cx} : OpR X (compareOp .NotIn) (rNiA X.K) := op_notIn_sign.or (op_notin_str.or op_notIn_seq)
theorem ro_ni {K : PySem.W.Frag} : RO K (rNiA K) dNotIn := by
  intro x y z hz v w C H Q e hv hw q
  unfold dNotIn at hz
  split at hz
  · rename_i b hb
    cases hz
    unfold dIn at hb
    split at hb
    · cases hb; cases hv; cases hw
      rename_i a b
      unfold inStr at q
      split at q
      · rename_i c hc
        rw [one_sign hc]
        exact .inl ⟨c, b, rfl, rfl, q.1 _ (.bl _)⟩
      · exact .inr (.inl ⟨_, _, rfl, rfl, q.1 _ (.bl _)⟩)
    · split at hb
      · rename_i h
        rw [Bool.and_eq_true] at h
        cases hb
        cases hw with
        | lst h1 h2 =>
          refine .inr (.inr ⟨_, _, rfl, .inl (ex_l e h1), flat_of hv h.1, flats_of h2 h.2, ?_⟩)
          have i := inV_of hv h.1 h2 h.2
          show Q (.bl (!inV v _)) H
          rw [i]
          exact q.1 _ (.bl _)
      · cases hb
    · split at hb
      · rename_i h
        rw [Bool.and_eq_true] at h
        cases hb
        cases hw with
        | tup h1 h2 =>
          refine .inr (.inr ⟨_, _, rfl, .inr (ex_t e h1), flat_of hv h.1, flats_of h2 h.2, ?_⟩)
          have i := inV_of hv h.1 h2 h.2
          show Q (.bl (!inV v _)) H
          rw [i]
          exact q.1 _ (.bl _)
      · cases hb
    · cases hb
  · cases hz
end DL
end Part_DLc

section Part_DLd
set_option Elab.async false
set_option linter.all false
set_option maxRecDepth 100000
set_option autoImplicit false
set_option maxHeartbeats 2000000
namespace DL
open PySem PySem.Spec PyProof.Rows L2 Evl

/-! ### a op b op' c -/
section
variable {X : Cx} {EC : ECl} {W : WX} {a b c e : Expr} {es : List Expr} {ma mb mc : M D} {mes : M (List D)} {pos p p2 : Pos}
theorem de_chain {op op' : CmpOp} {r r' : R2} {f g : D → D → Option D} (ho : OpR X (compareOp op) r) (hr : RO X.K r f) (ho' : OpR X (compareOp op') r') (hr' : RO X.K r' g) (ha : DE X EC W a ma) (hb : DE X EC W b mb) (hc : DE X EC W c mc)
    (hm : lastMarks [op, op'] [b, c] = false := by with_unfolding_all rfl) : DE X EC W (.Compare a [op, op'] [b, c] pos) (mChain f g ma mb mc) := by
  obtain ⟨ta, pa, ra⟩ := ha.ex
  obtain ⟨tb, pb, rb⟩ := hb.ex
  obtain ⟨tc, pc, rc⟩ := hc.ex
  refine ⟨_, pe_chain ho ho' pa pb pc hm, fun C0 H0 B C H σ δ Q S h => ra C0 H0 B C H σ δ _ S (RP.imp (RP.bind h) (fun x δ1 h1 v C1 H1 e1 S1 d1 => ?_) fun c d δ h => h)⟩
  refine rb C0 H0 B C1 H1 σ δ1 _ S1 (RP.imp (RP.bind h1) (fun y δ2 h2 w C2 H2 e2 S2 d2 => ?_) (PXe.mono e1))
  split at h2
  · rename_i hz
    refine hr x y _ hz v w C2 H2 _ S2.ch (dp_ex e2 _ _ d1) d2 (rs_of (C0 := C0) (H0 := H0) (B := B) (σ := σ) (δ := δ2) S2 fun u C3 H3 e3 S3 d3 => ?_)
    cases d3
    refine ⟨true, rfl, ?_⟩
    rw [if_pos rfl]
    refine rc C0 H0 B C3 H3 σ δ2 _ S3 (RP.imp (RP.bind h2) (fun z δ4 h4 w4 C4 H4 e4 S4 d4 => ?_) (PXe.mono ((e1.trans e2).trans e3)))
    obtain ⟨z', hz', q⟩ := RP.lift h4
    exact hr' y z z' hz' w w4 C4 H4 Q S4.ch (dp_ex (e3.trans e4) _ _ d2) d4 (rs_of S4 (PKe.mono (((e1.trans e2).trans e3).trans e4) _ _ q))
  · rename_i hz
    refine hr x y _ hz v w C2 H2 _ S2.ch (dp_ex e2 _ _ d1) d2 (rs_of (C0 := C0) (H0 := H0) (B := B) (σ := σ) (δ := δ2) S2 fun u C3 H3 e3 S3 d3 => ?_)
    cases d3
    refine ⟨false, rfl, ?_⟩
    rw [if_neg Bool.false_ne_true]
    exact h2 (.bl false) C3 H3 ((e1.trans e2).trans e3) S3 (.bl false)
  · exact h2.elim
theorem dt_chain {op op' : CmpOp} {r r' : R2} {f g : D → D → Option D} (ho : OpR X (compareOp op) r) (hr : RO X.K r f) (ho' : OpR X (compareOp op') r') (hr' : RO X.K r' g) (ha : DE X EC W a ma) (hb : DE X EC W b mb) (hc : DE X EC W c mc)
    (hm : lastMarks [op, op'] [b, c] = false := by with_unfolding_all rfl) : DT X EC W (.Compare a [op, op'] [b, c] pos) (mT (mChain f g ma mb mc)) := by
  obtain ⟨ta, pa, ra⟩ := ha.ex
  obtain ⟨tb, pb, rb⟩ := hb.ex
  obtain ⟨tc, pc, rc⟩ := hc.ex
  refine ⟨_, pt_chain ho ho' pa pb pc hm, fun C0 H0 B C H σ δ Q S h => ra C0 H0 B C H σ δ _ S (RP.imp (RP.bind (RP.bind h)) (fun x δ1 h1 v C1 H1 e1 S1 d1 => ?_) fun c d δ h => h)⟩
  refine rb C0 H0 B C1 H1 σ δ1 _ S1 (RP.imp (RP.bind h1) (fun y δ2 h2 w C2 H2 e2 S2 d2 => ?_) (PXe.mono e1))
  split at h2
  · rename_i hz
    refine hr x y _ hz v w C2 H2 _ S2.ch (dp_ex e2 _ _ d1) d2 (rs_of (C0 := C0) (H0 := H0) (B := B) (σ := σ) (δ := δ2) S2 fun u C3 H3 e3 S3 d3 => ?_)
    cases d3
    refine ⟨true, rfl, ?_⟩
    rw [if_pos rfl]
    refine rc C0 H0 B C3 H3 σ δ2 _ S3 (RP.imp (RP.bind h2) (fun z δ4 h4 w4 C4 H4 e4 S4 d4 => ?_) (PXe.mono ((e1.trans e2).trans e3)))
    obtain ⟨z', hz', q⟩ := RP.lift h4
    refine hr' y z z' hz' w w4 C4 H4 _ S4.ch (dp_ex (e3.trans e4) _ _ d2) d4 (rs_of (C0 := C0) (H0 := H0) (B := B) (σ := σ) (δ := δ4) S4 fun u C5 H5 e5 S5 d5 => ?_)
    split at q
    · rename_i k
      cases d5
      exact ⟨k, rfl, q C5 H5 ((((e1.trans e2).trans e3).trans e4).trans e5) S5⟩
    · exact q.elim
  · rename_i hz
    refine hr x y _ hz v w C2 H2 _ S2.ch (dp_ex e2 _ _ d1) d2 (rs_of (C0 := C0) (H0 := H0) (B := B) (σ := σ) (δ := δ2) S2 fun u C3 H3 e3 S3 d3 => ?_)
    cases d3
    refine ⟨false, rfl, ?_⟩
    rw [if_neg Bool.false_ne_true]
    exact ⟨false, rfl, h2 C3 H3 ((e1.trans e2).trans e3) S3⟩
  · exact h2.elim

/-! ### xs[i], xs[a:b] -/
def dIx : D → D → Option D
  | .list xs, .int i => atI xs i
  | .tuple xs, .int i => atI xs i
  | .str s, .int i => if s.length ≤ LINE then (atI s.cps.toList i).map fun c => .str ⟨#[c]⟩ else none
  | _, _ => none
theorem dpa_atI {K : PySem.W.Frag} {C : Hp} {vs : List V} {ds : List D} {i : Int} {d : D} (h : DqAll K C vs ds) (e : atI ds i = some d) : ∃ v, atI vs i = some v ∧ Dq K C v d := by
  unfold atI at e ⊢
  rw [dpa_len h]
  cases q : ixN ds.length i with
  | none => rw [q] at e; cases e
  | some j =>
    rw [q] at e
    exact dpa_get h e
theorem ro_ix {K : PySem.W.Frag} : RO K (rIx K) dIx := by
  intro x y z hz v w C H Q e hv hw q
  unfold dIx at hz
  split at hz
  · cases hw
    cases hv with
    | lst h1 h2 =>
      obtain ⟨u, hu, d⟩ := dpa_atI h2 hz
      exact .inl ⟨_, _, _, u, rfl, rfl, ex_l e h1, hu, q.1 _ d⟩
  · cases hw
    cases hv with
    | tup h1 h2 =>
      obtain ⟨u, hu, d⟩ := dpa_atI h2 hz
      exact .inr (.inl ⟨_, _, _, u, rfl, rfl, ex_t e h1, hu, q.1 _ d⟩)
  · split at hz
    · rename_i s i hs
      cases hw
      cases hv
      cases k : atI s.cps.toList i with
      | none => rw [k] at hz; cases hz
      | some c =>
        rw [k] at hz
        cases hz
        exact .inr (.inr ⟨_, _, c, rfl, rfl, by rw [line_eq]; exact hs, k, q.1 _ (.str _)⟩)
    · cases hz
  · cases hz
theorem de_ix (ha : DE X EC W a ma) (hb : DE X EC W b mb) (hs : PlainIx b := by exact fun _ _ => rfl) : DE X EC W (.Subscript a b pos) (mOp dIx ma mb) := by
  obtain ⟨ta, pa, ra⟩ := ha.ex
  obtain ⟨tb, pb, rb⟩ := hb.ex
  refine ⟨_, pe_ix ix_seq pa pb hs, fun C0 H0 B C H σ δ Q S h => ra C0 H0 B C H σ δ _ S (RP.imp (RP.bind h) (fun x δ1 h1 v C1 H1 e1 S1 d1 => ?_) fun c d δ h => h)⟩
  refine rb C0 H0 B C1 H1 σ δ1 _ S1 (RP.imp (RP.bind h1) (fun y δ2 h2 w C2 H2 e2 S2 d2 => ?_) (PXe.mono e1))
  obtain ⟨z, hz, q⟩ := RP.lift h2
  exact ro_ix x y z hz v w C2 H2 Q S2.ch (dp_ex e2 _ _ d1) d2 (rs_of S2 (PKe.mono (e1.trans e2) _ _ q))
structure DO (X : Cx) (EC : ECl) (W : WX) (e : Option Expr) (m : M (Option Int)) : Prop where
  ex : ∃ te, PO X e te ∧ ∀ C0 H0 B C H σ δ Q, SR X.K C0 H0 B C H σ δ → RP (m δ) (fun o δ => ∀ C2 H2, Ex C C2 → SR X.K C0 H0 B C2 H2 σ δ → Q o H2) (PXe X.K EC W C0 H0 B C σ) → te σ H Q
def mNoPart : M (Option Int) := fun δ => .ok none δ
def mPart (a : M D) : M (Option Int) := fun δ => (a δ).bind fun x δ => match x with
  | .int i => .ok (some i) δ
  | _ => .no
theorem do_none : DO X EC W none mNoPart := ⟨_, po_none, fun C0 H0 B C H σ δ Q S h => h C H (Ex.refl C) S⟩
theorem do_some (h : DE X EC W e ma) : DO X EC W (some e) (mPart ma) := by
  obtain ⟨te, pe, re⟩ := h.ex
  refine ⟨_, po_some pe, fun C0 H0 B C H σ δ Q S h => re C0 H0 B C H σ δ _ S (RP.imp (RP.bind h) (fun x δ1 h1 v C1 H1 e1 S1 d1 => ?_) fun c d δ h => h)⟩
  split at h1
  · rename_i i
    cases d1
    exact ⟨i, rfl, h1 C1 H1 e1 S1⟩
  · exact h1.elim
def cutL {α : Type} (xs : List α) (lo hi : Option Int) : List α := (xs.drop (HT.sIx xs.length 0 lo)).take (HT.sIx xs.length xs.length hi - HT.sIx xs.length 0 lo)
def dSl (x : D) (lo hi : Option Int) : Option D := match x with
  | .list xs => some (.list (cutL xs lo hi))
  | .tuple xs => some (.tuple (cutL xs lo hi))
  | .str s => if s.length ≤ LINE then some (.str (cutS s lo hi)) else none
  | _ => none
def mSl (a : M D) (lo hi : M (Option Int)) : M D := fun δ => (a δ).bind fun x δ => (lo δ).bind fun l δ => (hi δ).bind fun u δ => R.lift (dSl x l u) δ
def rSlA3 (K : PySem.W.Frag) : V → Option Int → Option Int → Hp → VK → Prop := fun x lo hi H Q => rSlL K x lo hi H Q ∨ (rSlA K x lo hi H Q ∨ rSlS x lo hi H Q)
theorem sl_A {X : Cx} : SlR X (rSlA3 X.K) := sl_list.or (sl_tupA.or sl_str)
theorem dpa_cut {K : PySem.W.Frag} {C : Hp} {vs : List V} {ds : List D} (lo hi : Option Int) (h : DqAll K C vs ds) : DqAll K C (cutV vs lo hi) (cutL ds lo hi) := by
  unfold cutV cutL
  rw [dpa_len h]
  exact dpa_take _ (dpa_drop _ h)
theorem rs_sl {K : PySem.W.Frag} {x z : D} {lo hi : Option Int} (hz : dSl x lo hi = some z) {v : V} {C H : Hp} {Q : VK} (e : Ex C H) (hv : Dq K C v x) (q : Rs K C H z Q) : rSlA3 K v lo hi H Q := by
  unfold dSl at hz
  split at hz
  · cases hz
    cases hv with
    | lst h1 h2 =>
      exact .inl ⟨_, _, rfl, ex_l e h1, fun p hp => q.2 p _ hp (.lst (SqL.of upd_same) (dpAll_ex (Ex.new (free_of e hp)) _ _ (dpa_cut lo hi h2)))⟩
  · cases hz
    cases hv with
    | tup h1 h2 =>
      refine .inr (.inl ⟨_, _, rfl, ex_t e h1, fun hw => ?_, fun _ p hp => q.2 p _ hp (.tup (SqT.of upd_same) (dpAll_ex (Ex.new (free_of e hp)) _ _ (dpa_cut lo hi h2)))⟩)
      have l := dpa_len h2
      rename_i xs a ys
      have e1 : cutL xs lo hi = xs := by
        unfold cutL
        rw [← l, hw.1, hw.2, List.drop_zero, Nat.sub_zero, l, List.take_length]
      rw [e1] at q
      exact q.1 _ (.tup h1 h2)
  · split at hz
    · rename_i hs
      cases hz
      cases hv
      exact .inr (.inr ⟨_, rfl, by rw [line_eq]; exact hs, q.1 _ (.str _)⟩)
    · cases hz
  · cases hz
theorem de_sl {lo hi : Option Expr} {ml mh : M (Option Int)} (ha : DE X EC W a ma) (hl : DO X EC W lo ml) (hh : DO X EC W hi mh) : DE X EC W (.Subscript a (.Slice lo hi none p2) pos) (mSl ma ml mh) := by
  obtain ⟨ta, pa, ra⟩ := ha.ex
  obtain ⟨tb, pb, rb⟩ := hl.ex
  obtain ⟨tc, pc, rc⟩ := hh.ex
  refine ⟨_, pe_slice sl_A pa pb pc, fun C0 H0 B C H σ δ Q S h => ra C0 H0 B C H σ δ _ S (RP.imp (RP.bind h) (fun x δ1 h1 v C1 H1 e1 S1 d1 => ?_) fun c d δ h => h)⟩
  refine rb C0 H0 B C1 H1 σ δ1 _ S1 (RP.imp (RP.bind h1) (fun l δ2 h2 C2 H2 e2 S2 => ?_) (PXe.mono e1))
  refine rc C0 H0 B C2 H2 σ δ2 _ S2 (RP.imp (RP.bind h2) (fun u δ3 h3 C3 H3 e3 S3 => ?_) (PXe.mono (e1.trans e2)))
  obtain ⟨z, hz, q⟩ := RP.lift h3
  exact rs_sl hz S3.ch (dp_ex (e2.trans e3) _ _ d1) (rs_of S3 (PKe.mono ((e1.trans e2).trans e3) _ _ q))

/-! ### constants of the module -/
theorem de_glob {x : Str} {v : V} {u : Value} {d : D} (hg : Gl X x) (hm : X.mg x = some u) (r : RelV v u) (hd : ∀ C, Dq X.K C v d) (hdb : (x == ("__debug__" : Str)) = false := by decide) : DE X EC W (.Name x pos) (mC d) := de_con (pe_glob hg hm r hdb) hd
/-- a tuple of the module -/
def KTup (K : PySem.W.Frag) (a : Addr) (ds : List D) : Prop := ∃ (o : Obj) (its : Array Value) (n : Nat) (xs : List V), K.lookup a = some o ∧ o.cls = .type "tuple" ∧ o.data = .seq its n ∧ its.size ≤ sizeLine ∧ Vals xs its.toList ∧ ∀ C, DqAll K C xs ds
theorem KTup.dq {K : PySem.W.Frag} {a : Addr} {ds : List D} (h : KTup K a ds) (C : Hp) : Dq K C (.ref a) (.tuple ds) := by
  obtain ⟨o, its, n, xs, h1, h2, h3, h4, h5, h6⟩ := h
  exact .tup (.inr ⟨o, its, n, h1, h2, h3, h4, h5⟩) (h6 C)

/-! ### isinstance -/
def tyD (x : D) : String := match x with | .none => "NoneType" | .bool _ => "bool" | .int _ => "int" | .str _ => "str" | .list _ => "list" | .tuple _ => "tuple" | .dict _ => "dict"
theorem ty_of {K : PySem.W.Frag} {C H : Hp} {v : V} {x : D} (e : Ex C H) (h : Dq K C v x) : TyX K H v (.type (tyD x)) := by
  cases h with
  | non => exact .base .non
  | bl b => exact .base (.bl b)
  | int i => exact .base (.int i)
  | str s => exact .base (.str s)
  | lst h1 h2 =>
    rcases ex_l e h1 with (h | ⟨o, h⟩) | ⟨o, its, n, h1, h2, _⟩
    · exact .base (.lst h)
    · exact .base (.frz h)
    · exact .kList h1 h2
  | tup h1 h2 =>
    rcases ex_t e h1 with (h | ⟨o, h⟩) | ⟨o, its, n, h1, h2, _⟩
    · exact .base (.tup h)
    · exact .fTuple h
    · exact .kTuple h1 h2
/-- a value of the built-in types is one of T: bool is int -/
def isT (T t : String) : Bool := t == T || (T == "int" && t == "bool")
def isD (T : String) (x : D) : Bool := isT T (tyD x)
/-- T one of the types that are asked for -/
def TyKnown (T : String) : Prop := T = "int" ∨ T = "bool" ∨ T = "str" ∨ T = "list" ∨ T = "tuple"
theorem kitT_of {T t : String} (h : TyKnown T) (ht : t = "NoneType" ∨ TyKnown t) : kitB t T = some (isT T t) := by
  rcases h with rfl | rfl | rfl | rfl | rfl <;> rcases ht with rfl | rfl | rfl | rfl | rfl | rfl <;> decide +kernel
theorem kitB_of {T : String} (h : TyKnown T) (x : D) (hd : ∀ k, x ≠ .dict k) : kitB (tyD x) T = some (isD T x) := by
  refine kitT_of h ?_
  cases x with
  | none => exact .inl rfl
  | bool b => exact .inr (.inr (.inl rfl))
  | int i => exact .inr (.inl rfl)
  | str s => exact .inr (.inr (.inr (.inl rfl)))
  | list xs => exact .inr (.inr (.inr (.inr (.inl rfl))))
  | tuple xs => exact .inr (.inr (.inr (.inr (.inr rfl))))
  | dict k => exact absurd rfl (hd k)
theorem dq_ndict {K : PySem.W.Frag} {C : Hp} {v : V} {x : D} (h : Dq K C v x) : ∀ k, x ≠ .dict k := fun k z => by subst z; cases h
def mIs (T : String) (a : M D) : M D := fun δ => (a δ).bind fun x δ => .ok (.bool (isD T x)) δ
theorem de_isi {T : String} {x : Str} (hT : TyKnown T) (ha : DE X EC W a ma) (hg : Gl X "isinstance") (hm : X.mg "isinstance" = none) (hgT : Gl X x) (hmT : X.mg x = none) (hbT : bootBuiltins x = some (.type T)) (hnx : x ≠ "__name__" := by decide) (hdx : (x == ("__debug__" : Str)) = false := by decide)
    {pT : Pos} (he : starEach (a :: [.Name x pT]) X.env = (false, eval a X.env) :: starEach [.Name x pT] X.env := by rfl)
    (he2 : starEach (.Name x pT :: []) X.env = (false, eval (.Name x pT) X.env) :: starEach [] X.env := by rfl) (hpl : (backTo pos (starEach [Expr.Name x pT] X.env)).any (·.1) = false := by rfl) :
    DE X EC W (.Call (.Name "isinstance" p) [a, .Name x pT] [] pos) (mIs T ma) := by
  obtain ⟨ta, pa, ra⟩ := ha.ex
  refine ⟨_, pe_callB call_isi hg hm (by decide +kernel) (pa_cons pa (pa_cons (pe_bltn (v := .ty T) hgT hmT hbT rfl hnx hdx) pa_nil he2) he) (by decide) (by decide) he hpl, fun C0 H0 B C H σ δ Q S h => ra C0 H0 B C H σ δ _ S (RP.imp (RP.bind h) (fun x δ1 h1 v C1 H1 e1 S1 d1 => ?_) fun c d δ h => h)⟩
  have k := kitB_of hT x (dq_ndict d1)
  exact ⟨v, .ty T, .type (tyD x), .type T, isD T x, rfl, .ty T, ty_of S1.ch d1, kit_ty k, h1 _ C1 H1 e1 S1 (.bl _)⟩
def mIs2 (T U : String) (a : M D) : M D := fun δ => (a δ).bind fun x δ => .ok (.bool (isD T x || isD U x)) δ
theorem de_isi2 {T U : String} {x y : Str} (hT : TyKnown T) (hU : TyKnown U) (ha : DE X EC W a ma) (hg : Gl X "isinstance") (hm : X.mg "isinstance" = none) (hgT : Gl X x) (hmT : X.mg x = none) (hbT : bootBuiltins x = some (.type T)) (hgU : Gl X y) (hmU : X.mg y = none) (hbU : bootBuiltins y = some (.type U))
    (hnx : x ≠ "__name__" := by decide) (hdx : (x == ("__debug__" : Str)) = false := by decide) (hny : y ≠ "__name__" := by decide) (hdy : (y == ("__debug__" : Str)) = false := by decide)
    {pT pU pt : Pos} {k1} (he : starEach (a :: [.Tuple [.Name x pT, .Name y pU] k1 pt]) X.env = (false, eval a X.env) :: starEach [.Tuple [.Name x pT, .Name y pU] k1 pt] X.env := by rfl)
    (he2 : starEach (.Tuple [.Name x pT, .Name y pU] k1 pt :: []) X.env = (false, eval (.Tuple [.Name x pT, .Name y pU] k1 pt) X.env) :: starEach [] X.env := by rfl)
    (he3 : starEach (.Name x pT :: [.Name y pU]) X.env = (false, eval (.Name x pT) X.env) :: starEach [.Name y pU] X.env := by rfl)
    (he4 : starEach (.Name y pU :: []) X.env = (false, eval (.Name y pU) X.env) :: starEach [] X.env := by rfl)
    (hpl : (backTo pos (starEach [Expr.Tuple [.Name x pT, .Name y pU] k1 pt] X.env)).any (·.1) = false := by rfl) :
    DE X EC W (.Call (.Name "isinstance" p) [a, .Tuple [.Name x pT, .Name y pU] k1 pt] [] pos) (mIs2 T U ma) := by
  obtain ⟨ta, pa, ra⟩ := ha.ex
  refine ⟨_, pe_callB call_isiT hg hm (by decide +kernel) (pa_cons pa (pa_cons (pe_tup (pa_cons (pe_bltn (v := .ty T) hgT hmT hbT rfl hnx hdx) (pa_cons (pe_bltn (v := .ty U) hgU hmU hbU rfl hny hdy) pa_nil he4) he3)) pa_nil he2) he) (by decide) (by decide) he hpl, fun C0 H0 B C H σ δ Q S h => ra C0 H0 B C H σ δ _ S (RP.imp (RP.bind h) (fun x δ1 h1 v C1 H1 e1 S1 d1 => ?_) fun c d δ h => h)⟩
  have k := kitB_of hT x (dq_ndict d1)
  have k' := kitB_of hU x (dq_ndict d1)
  refine ⟨by show 2 ≤ sizeLine; decide, fun tp htp => ?_⟩
  have S2 := S1.new (o := .tup [.ty T, .ty U]) htp
  refine ⟨v, tp, [.ty T, .ty U], .type (tyD x), [.type T, .type U], isD T x || isD U x, rfl, upd_same, .cons (.ty T) (.cons (.ty U) .nil), ty_of (S1.ch.trans (Ex.new htp)) d1, ?_, h1 _ _ _ (e1.trans (Ex.new (free_of S1.ch htp))) S2 (.bl _)⟩
  refine kitAny_cons (kit_ty k) (fun hb => ?_) (fun hb => by rw [hb]; rfl)
  rw [hb, Bool.false_or]
  exact kitAny_cons (kit_ty k') (fun hb' => by rw [hb']; exact kitAny_nil) fun hb' => hb'
end

/-! ### built-ins -/
section
variable {K : PySem.W.Frag}
def rLenA (K : PySem.W.Frag) : List V → Hp → VK → Prop := fun xs H Q => ∃ x n, xs = [x] ∧ LenV K x H n ∧ Q (.int n) H
def dLen : List D → Option D
  | [.str s] => if s.length ≤ LINE then some (.int s.length) else none
  | [.list xs] => some (.int xs.length)
  | [.tuple xs] => some (.int xs.length)
  | _ => none
theorem rc_len : RCf K (rLenA K) dLen := by
  intro xs z hz vs C H Q e hv q
  unfold dLen at hz
  split at hz
  · split at hz
    · rename_i hs
      cases hz
      cases hv with
      | cons h t =>
        cases t
        cases h
        exact ⟨_, _, rfl, ⟨by rw [line_eq]; exact hs, rfl⟩, q.1 _ (.int _)⟩
    · cases hz
  · cases hz
    cases hv with
    | cons h t =>
      cases t
      cases h with
      | lst h1 h2 =>
        refine ⟨_, _, rfl, .inl ⟨_, ex_l e h1, rfl⟩, ?_⟩
        rw [dpa_len h2]
        exact q.1 _ (.int _)
  · cases hz
    cases hv with
    | cons h t =>
      cases t
      cases h with
      | tup h1 h2 =>
        refine ⟨_, _, rfl, .inr ⟨_, ex_t e h1, rfl⟩, ?_⟩
        rw [dpa_len h2]
        exact q.1 _ (.int _)
  · cases hz
def rAbsA : List V → Hp → VK → Prop := fun xs H Q => ∃ i, xs = [.int i] ∧ Q (.int (if i < 0 then -i else i)) H
def dAbs : List D → Option D
  | [.int i] => some (.int (if i < 0 then -i else i))
  | _ => none
theorem rc_abs : RCf K rAbsA dAbs := by
  intro xs z hz vs C H Q e hv q
  unfold dAbs at hz
  split at hz
  · cases hz
    cases hv with
    | cons h t =>
      cases t
      cases h
      exact ⟨_, rfl, q.1 _ (.int _)⟩
  · cases hz
def rIntA : List V → Hp → VK → Prop := fun xs H Q => ((∃ i, xs = [.int i] ∧ Q (.int i) H) ∨ ∃ k, xs = [.bl k] ∧ Q (.int (if k then 1 else 0)) H) ∨ ∃ a n, xs = [.str a] ∧ PySem.intText? a = some n ∧ a.length ≤ 640 ∧ Q (.int n) H
theorem call_intA {X : Cx} : CallR X (.type "int") rIntA := call_int1.or call_int_str
def dInt : List D → Option D
  | [.int i] => some (.int i)
  | [.bool k] => some (.int (if k then 1 else 0))
  | [.str a] => if a.length ≤ 640 then (PySem.intText? a).map .int else none
  | _ => none
theorem rc_int : RCf K rIntA dInt := by
  intro xs z hz vs C H Q e hv q
  unfold dInt at hz
  split at hz
  · cases hz
    cases hv with
    | cons h t =>
      cases t
      cases h
      exact .inl (.inl ⟨_, rfl, q.1 _ (.int _)⟩)
  · cases hz
    cases hv with
    | cons h t =>
      cases t
      cases h
      exact .inl (.inr ⟨_, rfl, q.1 _ (.int _)⟩)
  · split at hz
    · rename_i a hl
      cases hv with
      | cons h t =>
        cases t
        cases h
        cases k : PySem.intText? a with
        | none => rw [k] at hz; cases hz
        | some n =>
          rw [k] at hz
          cases hz
          exact .inr ⟨_, n, rfl, k, hl, q.1 _ (.int _)⟩
    · cases hz
  · cases hz
def rStrA : List V → Hp → VK → Prop := fun xs H Q => ∃ i, xs = [.int i] ∧ i.natAbs.log2 < 1920 ∧ Q (.str (toString i)) H
def dStr : List D → Option D
  | [.int i] => if i.natAbs.log2 < 1920 then some (.str (toString i)) else none
  | _ => none
theorem rc_str : RCf K rStrA dStr := by
  intro xs z hz vs C H Q e hv q
  unfold dStr at hz
  split at hz
  · split at hz
    · rename_i hl
      cases hz
      cases hv with
      | cons h t =>
        cases t
        cases h
        exact ⟨_, rfl, hl, q.1 _ (.str _)⟩
    · cases hz
  · cases hz
def rM2 (g : Int → Int → Int) : List V → Hp → VK → Prop := fun xs H Q => ∃ i j, xs = [.int i, .int j] ∧ Q (.int (g i j)) H
def dM2 (g : Int → Int → Int) : List D → Option D
  | [.int i, .int j] => some (.int (g i j))
  | _ => none
theorem rc_m2 {g : Int → Int → Int} : RCf K (rM2 g) (dM2 g) := by
  intro xs z hz vs C H Q e hv q
  unfold dM2 at hz
  split at hz
  · cases hz
    cases hv with
    | cons h t =>
      cases h
      cases t with
      | cons h t =>
        cases t
        cases h
        exact ⟨_, _, rfl, q.1 _ (.int _)⟩
  · cases hz
theorem call_maxA {X : Cx} (hc : X.calm = true) : CallR X (.builtin "max") (rM2 fun i j => if j > i then j else i) := call_max2 hc
theorem call_minA {X : Cx} (hc : X.calm = true) : CallR X (.builtin "min") (rM2 fun i j => if j < i then j else i) := call_min2 hc
def dMax := dM2 fun i j => if j > i then j else i
def dMin := dM2 fun i j => if j < i then j else i
def dAll : List D → Option D
  | [.list xs] => (dBls xs).map fun bs => .bool (bs.all id)
  | _ => none
def dAny : List D → Option D
  | [.list xs] => (dBls xs).map fun bs => .bool (bs.any id)
  | _ => none
theorem rc_all : RCf K (rAll K) dAll := by
  intro xs z hz vs C H Q e hv q
  unfold dAll at hz
  split at hz
  · rename_i ys
    cases k : dBls ys with
    | none => rw [k] at hz; cases hz
    | some bs =>
      rw [k] at hz
      cases hz
      have e1 := dBls_eq k
      subst e1
      cases hv with
      | cons h t =>
        cases t
        cases h with
        | lst h1 h2 =>
          have e2 := dpa_bls h2
          subst e2
          exact ⟨_, bs, rfl, ex_l e h1, q.1 _ (.bl _)⟩
  · cases hz
theorem rc_any : RCf K (rAny K) dAny := by
  intro xs z hz vs C H Q e hv q
  unfold dAny at hz
  split at hz
  · rename_i ys
    cases k : dBls ys with
    | none => rw [k] at hz; cases hz
    | some bs =>
      rw [k] at hz
      cases hz
      have e1 := dBls_eq k
      subst e1
      cases hv with
      | cons h t =>
        cases t
        cases h with
        | lst h1 h2 =>
          have e2 := dpa_bls h2
          subst e2
          exact ⟨_, bs, rfl, ex_l e h1, q.1 _ (.bl _)⟩
  · cases hz
def dSum : List D → Option D
  | [.list xs] => (dInts xs).map fun ns => .int ns.sum
  | _ => none
theorem rc_sum : RCf K (rSum K) dSum := by
  intro xs z hz vs C H Q e hv q
  unfold dSum at hz
  split at hz
  · rename_i ys
    cases k : dInts ys with
    | none => rw [k] at hz; cases hz
    | some bs =>
      rw [k] at hz
      cases hz
      have e1 := dInts_eq k
      subst e1
      cases hv with
      | cons h t =>
        cases t
        cases h with
        | lst h1 h2 =>
          have e2 := dpa_ints h2
          subst e2
          exact ⟨_, bs, rfl, ex_l e h1, q.1 _ (.int _)⟩
  · cases hz
def rTupA (K : PySem.W.Frag) : List V → Hp → VK → Prop := fun xs H Q => ∃ p ys, xs = [.ref p] ∧ ((SqL K H p ys ∧ ∀ l, H l = none → Q (.ref l) (upd H l (.tup ys))) ∨ (SqT K H p ys ∧ Q (.ref p) H))
def dTuple : List D → Option D
  | [.list xs] => some (.tuple xs)
  | [.tuple xs] => some (.tuple xs)
  | _ => none
theorem rc_tuple : RCf K (rTupA K) dTuple := by
  intro xs z hz vs C H Q e hv q
  unfold dTuple at hz
  split at hz
  · cases hz
    cases hv with
    | cons h t =>
      cases t
      cases h with
      | lst h1 h2 => exact ⟨_, _, rfl, .inl ⟨ex_l e h1, fun p hp => q.2 p _ hp (.tup (SqT.of upd_same) (dpAll_ex (Ex.new (free_of e hp)) _ _ h2))⟩⟩
  · cases hz
    cases hv with
    | cons h t =>
      cases t
      cases h with
      | tup h1 h2 => exact ⟨_, _, rfl, .inr ⟨ex_t e h1, q.1 _ (.tup h1 h2)⟩⟩
  · cases hz
def rListA (K : PySem.W.Frag) : List V → Hp → VK → Prop := fun xs H Q => ∃ p ys, xs = [.ref p] ∧ (SqL K H p ys ∨ SqT K H p ys) ∧ ∀ l, H l = none → Q (.ref l) (upd H l (.lst ys))
def dList : List D → Option D
  | [.list xs] => some (.list xs)
  | [.tuple xs] => some (.list xs)
  | _ => none
theorem rc_list : RCf K (rListA K) dList := by
  intro xs z hz vs C H Q e hv q
  unfold dList at hz
  split at hz
  · cases hz
    cases hv with
    | cons h t =>
      cases t
      cases h with
      | lst h1 h2 => exact ⟨_, _, rfl, .inl (ex_l e h1), fun p hp => q.2 p _ hp (.lst (SqL.of upd_same) (dpAll_ex (Ex.new (free_of e hp)) _ _ h2))⟩
  · cases hz
    cases hv with
    | cons h t =>
      cases t
      cases h with
      | tup h1 h2 => exact ⟨_, _, rfl, .inr (ex_t e h1), fun p hp => q.2 p _ hp (.lst (SqL.of upd_same) (dpAll_ex (Ex.new (free_of e hp)) _ _ h2))⟩
  · cases hz

/-! ### methods of texts -/
def rJoinA (K : PySem.W.Frag) : V → List V → Hp → VK → Prop := fun x xs H Q => ∃ a p, ∃ ys : List Str, x = .str a ∧ xs = [.ref p] ∧ (SqL K H p (ys.map V.str) ∨ SqT K H p (ys.map V.str)) ∧ (ys.map (·.length)).sum + ys.length * a.length ≤ 16777216 ∧ Q (.str (Txt.join a ys)) H
def joinOk (a : Str) (ys : List Str) : Option D := if (ys.map (·.length)).sum + ys.length * a.length ≤ 16777216 then some (.str (Txt.join a ys)) else none
def dJoin : D → List D → Option D
  | .str a, [.list xs] => (dStrs xs).bind (joinOk a)
  | .str a, [.tuple xs] => (dStrs xs).bind (joinOk a)
  | _, _ => none
theorem rm_join : RMt K (rJoinA K) dJoin := by
  intro x xs z hz v vs C H Q e hv hvs q
  unfold dJoin at hz
  split at hz
  · rename_i a ys
    cases k : dStrs ys with
    | none => rw [k] at hz; cases hz
    | some bs =>
      rw [k] at hz
      have hz : joinOk a bs = some z := hz
      unfold joinOk at hz
      split at hz
      · rename_i hl
        cases hz
        have e1 := dStrs_eq k
        subst e1
        cases hv
        cases hvs with
        | cons h t =>
          cases t
          cases h with
          | lst h1 h2 =>
            have e2 := dpa_strs h2
            subst e2
            exact ⟨a, _, bs, rfl, rfl, .inl (ex_l e h1), hl, q.1 _ (.str _)⟩
      · cases hz
  · rename_i a ys
    cases k : dStrs ys with
    | none => rw [k] at hz; cases hz
    | some bs =>
      rw [k] at hz
      have hz : joinOk a bs = some z := hz
      unfold joinOk at hz
      split at hz
      · rename_i hl
        cases hz
        have e1 := dStrs_eq k
        subst e1
        cases hv
        cases hvs with
        | cons h t =>
          cases t
          cases h with
          | tup h1 h2 =>
            have e2 := dpa_strs h2
            subst e2
            exact ⟨a, _, bs, rfl, rfl, .inr (ex_t e h1), hl, q.1 _ (.str _)⟩
      · cases hz
  · cases hz
def rSplitA : V → List V → Hp → VK → Prop := fun x xs H Q => ∃ a b, x = .str a ∧ xs = [.str b] ∧ (b.length == 0) = false ∧ a.length + 2 ≤ sizeLine ∧ rNewStrs (Txt.split a b) H Q
def dSplit : D → List D → Option D
  | .str a, [.str b] => if (b.length == 0) = false ∧ a.length + 2 ≤ LINE then some (.list ((Txt.split a b).map .str)) else none
  | _, _ => none
theorem rm_split : RMt K rSplitA dSplit := by
  intro x xs z hz v vs C H Q e hv hvs q
  unfold dSplit at hz
  split at hz
  · split at hz
    · rename_i hl
      cases hz
      cases hv
      cases hvs with
      | cons h t =>
        cases t
        cases h
        exact ⟨_, _, rfl, rfl, hl.1, by rw [line_eq]; exact hl.2, fun p hp => q.2 p _ hp (.lst (SqL.of upd_same) strs_dpa)⟩
    · cases hz
  · cases hz
def rWordsA : V → List V → Hp → VK → Prop := fun x xs H Q => ∃ a, x = .str a ∧ xs = [] ∧ a.length + 2 ≤ sizeLine ∧ rNewStrs (Txt.words a) H Q
def dWords : D → List D → Option D
  | .str a, [] => if a.length + 2 ≤ LINE then some (.list ((Txt.words a).map .str)) else none
  | _, _ => none
theorem rm_words : RMt K rWordsA dWords := by
  intro x xs z hz v vs C H Q e hv hvs q
  unfold dWords at hz
  split at hz
  · split at hz
    · rename_i hl
      cases hz
      cases hv
      cases hvs
      exact ⟨_, rfl, rfl, by rw [line_eq]; exact hl, fun p hp => q.2 p _ hp (.lst (SqL.of upd_same) strs_dpa)⟩
    · cases hz
  · cases hz
/-- s.index(t), t there -/
def rIndexS : V → List V → Hp → VK → Prop := fun x xs H Q => ∃ (a b : Str) (k : Nat), x = .str a ∧ xs = [.str b] ∧ Txt.index0 a b = some k ∧ Q (.int (k : Nat)) H
theorem mt_indexS {X : Cx} : MtR X "str.index" rIndexS := by
  intro pins s σ H x xs v us Q I rx rs h
  obtain ⟨a, b, k, rfl, rfl, hk, w⟩ := h
  obtain ⟨t, rfl⟩ := rx
  cases rs with
  | cons r1 rs =>
    cases rs
    obtain ⟨u, rfl⟩ := r1
    cases q : Builtin.Str.occurrences a b 0 a.length 1 with
    | nil =>
      unfold Txt.index0 at hk
      rw [q] at hk
      cases hk
    | cons k' rest =>
      unfold Txt.index0 at hk
      rw [q] at hk
      cases hk
      exact PySem.SC.index q ⟨.int (k : Nat), H, I.tok _, ⟨_, rfl⟩, w⟩
def dIndexS : D → List D → Option D
  | .str a, [.str b] => (Txt.index0 a b).map fun k => .int (k : Nat)
  | _, _ => none
theorem rm_indexS : RMt K rIndexS dIndexS := by
  intro x xs z hz v vs C H Q e hv hvs q
  unfold dIndexS at hz
  split at hz
  · rename_i a b
    cases k : Txt.index0 a b with
    | none => rw [k] at hz; cases hz
    | some n =>
      rw [k] at hz
      cases hz
      cases hv
      cases hvs with
      | cons h t =>
        cases t
        cases h
        exact ⟨_, _, n, rfl, rfl, k, q.1 _ (.int _)⟩
  · cases hz
def rStartsA : V → List V → Hp → VK → Prop := fun x xs H Q => ∃ a b, x = .str a ∧ xs = [.str b] ∧ Q (.bl (Txt.startswith a b)) H
def dStarts : D → List D → Option D
  | .str a, [.str b] => some (.bool (Txt.startswith a b))
  | _, _ => none
theorem rm_starts : RMt K rStartsA dStarts := by
  intro x xs z hz v vs C H Q e hv hvs q
  unfold dStarts at hz
  split at hz
  · cases hz
    cases hv
    cases hvs with
    | cons h t =>
      cases t
      cases h
      exact ⟨_, _, rfl, rfl, q.1 _ (.bl _)⟩
  · cases hz
end
section
variable {X : Cx} {EC : ECl} {W : WX} {a b c e o : Expr} {es : List Expr} {ma mb mc mo : M D} {mes : M (List D)} {pos p p2 apos : Pos}
theorem mMt_str {f : D → List D → Option D} (hf : ∀ x xs z, f x xs = some z → ∃ s, x = .str s) (x : D) (δ : Dl) (xs : List D) {k : D → Dl → Prop} {xx : Nat → D → Dl → Prop} (h : RP (R.lift (f x xs) δ) k xx) : ∃ s, x = .str s := by
  obtain ⟨z, hz, _⟩ := RP.lift h
  exact hf x xs z hz
/-- a text's method of one argument; the text is looked at first -/
def mM1 (f : D → List D → Option D) (o a : M D) : M D := fun δ => (o δ).bind fun x δ => match x with
  | .str s => (a δ).bind fun y δ => R.lift (f (.str s) [y]) δ
  | _ => .no
def mM0 (f : D → List D → Option D) (o : M D) : M D := fun δ => (o δ).bind fun x δ => match x with
  | .str s => R.lift (f (.str s) []) δ
  | _ => .no
theorem de_m1 {id : String} {name : Str} {r : V → List V → Hp → VK → Prop} {f : D → List D → Option D} (slot : Slot "str" name id) (ty : typeOf (.builtin id) = pure (.type "method_descriptor")) (rule : MtR X id r) (hf : RMt X.K r f) (ho : DE X EC W o mo) (he : DE X EC W e ma)
    (hs : starEach [e] X.env = [(false, eval e X.env)] := by rfl) (hbase : attributeBase o name X.env (eval o X.env) = eval o X.env := by rfl) (hline : (apos.endLine == pos.line) = true := by rfl) :
    DE X EC W (.Call (.Attribute o name apos) [e] [] pos) (mM1 f mo ma) := by
  obtain ⟨ta, pa, ra⟩ := ho.ex
  obtain ⟨tb, pb, rb⟩ := he.ex
  refine ⟨_, pe_m1 slot ty rule pa pb hs hbase hline, fun C0 H0 B C H σ δ Q S h => ra C0 H0 B C H σ δ _ S (RP.imp (RP.bind h) (fun x δ1 h1 v C1 H1 e1 S1 d1 => ?_) fun c d δ h => h)⟩
  split at h1
  · rename_i s
    cases d1
    refine ⟨⟨s, rfl⟩, rb C0 H0 B C1 H1 σ δ1 _ S1 (RP.imp (RP.bind h1) (fun y δ2 h2 w C2 H2 e2 S2 d2 => ?_) (PXe.mono e1))⟩
    obtain ⟨z, hz, q⟩ := RP.lift h2
    exact hf _ _ z hz _ _ C2 H2 Q S2.ch (.str s) (dpa_one d2) (rs_of S2 (PKe.mono (e1.trans e2) _ _ q))
  · exact h1.elim
theorem de_m0 {id : String} {name : Str} {r : V → List V → Hp → VK → Prop} {f : D → List D → Option D} (slot : Slot "str" name id) (ty : typeOf (.builtin id) = pure (.type "method_descriptor")) (rule : MtR X id r) (hf : RMt X.K r f) (ho : DE X EC W o mo)
    (hbase : attributeBase o name X.env (eval o X.env) = eval o X.env := by rfl) (hline : (apos.endLine == pos.line) = true := by rfl) :
    DE X EC W (.Call (.Attribute o name apos) [] [] pos) (mM0 f mo) := by
  obtain ⟨ta, pa, ra⟩ := ho.ex
  refine ⟨_, pe_m0 slot ty rule pa hbase hline, fun C0 H0 B C H σ δ Q S h => ra C0 H0 B C H σ δ _ S (RP.imp (RP.bind h) (fun x δ1 h1 v C1 H1 e1 S1 d1 => ?_) fun c d δ h => h)⟩
  split at h1
  · rename_i s
    cases d1
    refine ⟨⟨s, rfl⟩, ?_⟩
    obtain ⟨z, hz, q⟩ := RP.lift h1
    exact hf _ _ z hz _ _ C1 H1 Q S1.ch (.str s) .nil (rs_of S1 (PKe.mono e1 _ _ q))
  · exact h1.elim
end
end DL
end Part_DLd

section Part_DLe
set_option Elab.async false
set_option linter.all false
set_option maxRecDepth 100000
set_option autoImplicit false
set_option maxHeartbeats 2000000
namespace DL
open PySem PySem.Spec PyProof.Rows L2 Evl

/-! ### slots that are set -/
def setV (j : Nat) (d : D) (δ : Dl) : Option Dl := match δ[j]? with
  | some (.var true _) => none
  | some _ => some (δ.set j (.val d))
  | none => none
section
variable {K : PySem.W.Frag} {C0 H0 C H C2 H2 : Hp} {B : List (Nat × Addr)} {σ : L2.St} {δ δ' : Dl}
theorem setV_some {j : Nat} {d : D} (h : setV j d δ = some δ') : j < δ.length ∧ (∀ ds, δ[j]? ≠ some (.var true ds)) ∧ δ' = δ.set j (.val d) := by
  unfold setV at h
  cases q : δ[j]? with
  | none => rw [q] at h; cases h
  | some c =>
    have hj : j < δ.length := (List.getElem?_eq_some_iff.mp q).1
    rw [q] at h
    cases c with
    | non => cases h; exact ⟨hj, fun ds z => by (cases z), rfl⟩
    | val d => cases h; exact ⟨hj, fun ds z => by (cases z), rfl⟩
    | var b ds =>
      cases b with
      | true => cases h
      | false => cases h; exact ⟨hj, fun ds z => by (cases z), rfl⟩
theorem SR.setC (S : SR K C0 H0 B C H σ δ) {j : Nat} {v : V} {c : Cell} (hj : j < δ.length) (hn : ∀ ds, δ[j]? ≠ some (.var true ds)) (hc : ∀ d, c = .val d → Dq K C v d) (hm : ∀ b ds, c = .var b ds → b = false ∧ ∃ l xs, v = .ref l ∧ H0 l = none ∧ C l = none ∧ H l = some (.lst xs) ∧ DqAll K C xs ds ∧ ∀ (i : Nat) (b : Bool) (es : List D), δ[i]? = some (.var b es) → σ[i]? ≠ some (some (.ref l))) :
    SR K C0 H0 B C H (σ.set j (some v)) (δ.set j c) := by
  have hjσ : j < σ.length := by rw [S.len]; exact hj
  have nb : ∀ p ∈ B, p.1 ≠ j := fun p hp z => by
    obtain ⟨ds, _, h1, _⟩ := S.bor p hp
    rw [z] at h1
    exact hn ds h1
  refine ⟨by rw [List.length_set, List.length_set]; exact S.len, S.c0, S.ch, S.fr, S.nw, fun i d h => ?_, fun i ds h => ?_, fun p hp => ?_, fun i ds h => ?_, S.bd1, S.bd2, S.bH0, fun i k ds es hik h1 h2 l hl hl2 => ?_⟩
  · by_cases q : j = i
    · subst q
      rw [List.getElem?_set_self hj] at h
      exact ⟨v, List.getElem?_set_self hjσ, hc d (Option.some.inj h)⟩
    · rw [List.getElem?_set_ne q] at h ⊢
      exact S.val i d h
  · by_cases q : j = i
    · subst q
      rw [List.getElem?_set_self hj] at h
      obtain ⟨_, l, xs, h1, h2, h3, h4, h5, _⟩ := hm false ds (Option.some.inj h)
      exact ⟨l, xs, by rw [List.getElem?_set_self hjσ, h1], h2, h3, h4, h5⟩
    · rw [List.getElem?_set_ne q] at h ⊢
      exact S.own i ds h
  · obtain ⟨ds, xs, h1, h2, h3⟩ := S.bor p hp
    refine ⟨ds, xs, ?_, ?_, h3⟩
    · rw [List.getElem?_set_ne (nb p hp).symm]; exact h1
    · rw [List.getElem?_set_ne (nb p hp).symm]; exact h2
  · by_cases q : j = i
    · subst q
      rw [List.getElem?_set_self hj] at h
      have z := (hm true ds (Option.some.inj h)).1
      cases z
    · rw [List.getElem?_set_ne q] at h
      exact S.btr i ds h
  · by_cases q : j = i
    · subst q
      rw [List.getElem?_set_self hj] at h1
      rw [List.getElem?_set_self hjσ] at hl
      rw [List.getElem?_set_ne hik] at h2 hl2
      obtain ⟨_, l', xs, e1, _, _, _, _, e2⟩ := hm false ds (Option.some.inj h1)
      subst e1
      cases hl
      exact e2 k false es h2 hl2
    · by_cases q' : j = k
      · subst q'
        rw [List.getElem?_set_self hj] at h2
        rw [List.getElem?_set_self hjσ] at hl2
        rw [List.getElem?_set_ne q] at h1 hl
        obtain ⟨_, l', xs, e1, _, _, _, _, e2⟩ := hm false es (Option.some.inj h2)
        subst e1
        cases hl2
        exact e2 i false ds h1 hl
      · rw [List.getElem?_set_ne q] at h1 hl
        rw [List.getElem?_set_ne q'] at h2 hl2
        exact S.odis i k ds es hik h1 h2 l hl hl2
theorem SR.set (S : SR K C0 H0 B C H σ δ) {j : Nat} {v : V} {d : D} (h : setV j d δ = some δ') (hd : Dq K C v d) : SR K C0 H0 B C H (σ.set j (some v)) δ' := by
  obtain ⟨h1, h2, rfl⟩ := setV_some h
  exact S.setC h1 h2 (fun d' z => by cases z; exact hd) fun b ds z => by cases z
/-- a new list is given to a name that may change it -/
def setM (j : Nat) (ds : List D) (δ : Dl) : Option Dl := match δ[j]? with
  | some (.var true _) => none
  | some _ => some (δ.set j (.var false ds))
  | none => none
theorem setM_some {j : Nat} {d : List D} (h : setM j d δ = some δ') : j < δ.length ∧ (∀ ds, δ[j]? ≠ some (.var true ds)) ∧ δ' = δ.set j (.var false d) := by
  unfold setM at h
  cases q : δ[j]? with
  | none => rw [q] at h; cases h
  | some c =>
    have hj : j < δ.length := (List.getElem?_eq_some_iff.mp q).1
    rw [q] at h
    cases c with
    | non => cases h; exact ⟨hj, fun ds z => by (cases z), rfl⟩
    | val d => cases h; exact ⟨hj, fun ds z => by (cases z), rfl⟩
    | var b ds =>
      cases b with
      | true => cases h
      | false => cases h; exact ⟨hj, fun ds z => by (cases z), rfl⟩
/-- what a list of one's own holds is taken as data: it is not changed any more -/
def frz (j : Nat) (δ : Dl) : Option Dl := match δ[j]? with
  | some (.var false ds) => some (δ.set j (.val (.list ds)))
  | some (.val d) => some δ
  | _ => none
theorem SR.frz (S : SR K C0 H0 B C H σ δ) {j : Nat} (h : frz j δ = some δ') : ∃ C2, Ex C C2 ∧ SR K C0 H0 B C2 H σ δ' := by
  unfold DL.frz at h
  split at h
  · rename_i ds q
    cases h
    have hj : j < δ.length := (List.getElem?_eq_some_iff.mp q).1
    obtain ⟨l, xs, h1, h2, h3, h4, h5⟩ := S.own j ds q
    have e2 : Ex C (upd C l (.lst xs)) := Ex.new h3
    refine ⟨upd C l (.lst xs), e2, ⟨by rw [List.length_set]; exact S.len, S.c0.trans e2, fun a o z => ?_, S.fr, fun a z1 z2 => ?_, fun i d z => ?_, fun i es z => ?_, fun p hp => ?_, fun i es z => ?_, S.bd1, S.bd2, S.bH0, fun i k es fs hik z1 z2 => ?_⟩⟩
    · by_cases q : a = l
      · subst q
        rw [upd_same] at z
        rw [← z]
        exact h4
      · rw [upd_ne q] at z
        exact S.ch a o z
    · rw [upd_ne fun q => z1 (by rw [q]; exact h2)]
      exact S.nw a z1 z2
    · by_cases q' : j = i
      · subst q'
        rw [List.getElem?_set_self hj] at z
        cases z
        exact ⟨.ref l, h1, .lst (SqL.of upd_same) (dpAll_ex e2 _ _ h5)⟩
      · rw [List.getElem?_set_ne q'] at z
        obtain ⟨v, w1, w2⟩ := S.val i d z
        exact ⟨v, w1, dp_ex e2 _ _ w2⟩
    · by_cases q' : j = i
      · subst q'
        rw [List.getElem?_set_self hj] at z
        cases z
      · rw [List.getElem?_set_ne q'] at z
        obtain ⟨l', ys, w1, w2, w3, w4, w5⟩ := S.own i es z
        refine ⟨l', ys, w1, w2, ?_, w4, dpAll_ex e2 _ _ w5⟩
        rw [upd_ne fun y => S.odis j i ds es q' q z l h1 (by rw [← y]; exact w1)]
        exact w3
    · obtain ⟨es, ys, w1, w2, w3, w4, w5⟩ := S.bor p hp
      have q' : j ≠ p.1 := fun y => by
        rw [y, w1] at q
        cases q
      refine ⟨es, ys, by rw [List.getElem?_set_ne q']; exact w1, w2, ?_, w4, dpAll_ex e2 _ _ w5⟩
      rw [upd_ne fun y => S.bH0 p hp (by rw [y]; exact h2)]
      exact w3
    · by_cases q' : j = i
      · subst q'
        rw [List.getElem?_set_self hj] at z
        cases z
      · rw [List.getElem?_set_ne q'] at z
        exact S.btr i es z
    · have n1 : j ≠ i := fun y => by
        subst y
        rw [List.getElem?_set_self hj] at z1
        cases z1
      have n2 : j ≠ k := fun y => by
        subst y
        rw [List.getElem?_set_self hj] at z2
        cases z2
      rw [List.getElem?_set_ne n1] at z1
      rw [List.getElem?_set_ne n2] at z2
      exact S.odis i k es fs hik z1 z2
  · cases h
    exact ⟨C, Ex.refl C, S⟩
  · cases h
end

/-! ### targets -/
structure DG (X : Cx) (tg : Expr) (ts : List Nat) (g : D → Dl → Option Dl) : Prop where
  ex : ∃ t, PG X tg t ∧ ∀ C0 H0 B C H σ δ δ' v d (Q : L2.St → Hp → Prop), SR X.K C0 H0 B C H σ δ → Dq X.K C v d → g d δ = some δ' →
    (∀ σ', SR X.K C0 H0 B C H σ' δ' → (∀ vs : List Nat, (∀ k ∈ ts, k ∈ vs) → wipe σ' vs = wipe σ vs) → Q σ' H) → t v σ H Q
theorem wipe_set {σ : L2.St} {j : Nat} {x : Option V} : ∀ {vs : List Nat}, j ∈ vs → wipe (σ.set j x) vs = wipe σ vs
  | [], h => by cases h
  | v :: vs, h => by
    unfold wipe
    by_cases q : j ∈ vs
    · rw [wipe_set q]
    · have e : j = v := by
        rcases List.mem_cons.mp h with e | e
        · exact e
        · exact absurd e q
      subst e
      have out : ∀ ws : List Nat, j ∉ ws → (wipe (σ.set j x) ws).set j none = (wipe σ ws).set j none := by
        intro ws
        induction ws with
        | nil => intro _; show (σ.set j x).set j none = σ.set j none; rw [List.set_set]
        | cons w ws ih =>
          intro hw
          have n1 : j ≠ w := fun z => hw (by rw [z]; exact List.mem_cons_self)
          have n2 : j ∉ ws := fun z => hw (List.mem_cons_of_mem _ z)
          show ((wipe (σ.set j x) ws).set w none).set j none = ((wipe σ ws).set w none).set j none
          rw [List.set_comm _ _ n1.symm, ih n2, List.set_comm _ _ n1.symm]
      exact out vs q
section
variable {X : Cx} {EC : ECl} {W : WX} {a b c e o : Expr} {es : List Expr} {ma mb mc mo : M D} {mes : M (List D)} {pos p p2 apos : Pos} {tg iter : Expr} {ts us : List Nat} {g g2 : D → Dl → Option Dl}
theorem dg_name {j : Nat} {x : Str} (hN : X.N.Nodup) (hi : X.N[j]? = some x) (hx : Loc X.env.scope x) (hf : X.fn x = true ∨ X.env.scope.names.lookup x = some .local := by first | exact .inl rfl | exact .inr rfl | assumption) : DG X (.Name x pos) [j] (setV j) :=
  ⟨_, pg_name hN hi hx hf, fun C0 H0 B C H σ δ δ' v d Q S hd h k => k _ (S.set h hd) fun vs hv => wipe_set (hv j (by simp))⟩
/-- (a, b): a pair -/
def setT2 (g g2 : D → Dl → Option Dl) : D → Dl → Option Dl := fun d δ => match d with
  | .tuple [x, y] => (g x δ).bind (g2 y)
  | _ => none
theorem dg_tup2 {k : Nat} (hc : X.calm = true) (h1 : DG X a ts g) (h2 : DG X b us g2) (hs1 : (assignEach (a :: [b]) X.env).map (·.2) = assign a X.env :: (assignEach [b] X.env).map (·.2) := by rfl) (hs2 : (assignEach (b :: []) X.env).map (·.2) = assign b X.env :: (assignEach [] X.env).map (·.2) := by rfl)
    (hn : (assignEach [a, b] X.env).length = 2 := by rfl) (hst : (assignEach [a, b] X.env).findIdx? (·.1) = none := by rfl) : DG X (.Tuple [a, b] k pos) (ts ++ us) (setT2 g g2) := by
  obtain ⟨t1, p1, r1⟩ := h1.ex
  obtain ⟨t2, p2, r2⟩ := h2.ex
  refine ⟨_, pg_tup hc (pgs_cons p1 (pgs_cons p2 pgs_nil hs2) hs1) hn hst, fun C0 H0 B C H σ δ δ' v d Q S hd h k => ?_⟩
  unfold setT2 at h
  split at h
  · rename_i x y
    cases q : g x δ with
    | none => rw [q] at h; cases h
    | some δ1 =>
      rw [q] at h
      cases hd with
      | tup s t =>
        cases t with
        | cons d1 t =>
          cases t with
          | cons d2 t =>
            cases t
            rename_i a v1 v2
            refine ⟨a, _, rfl, ex_t S.ch s, rfl, v1, _, rfl, r1 C0 H0 B C H σ δ δ1 v1 x _ S d1 q fun σ1 S1 w1 => ⟨v2, _, rfl, r2 C0 H0 B C H σ1 δ1 δ' v2 y _ S1 d2 h fun σ2 S2 w2 => ⟨rfl, k σ2 S2 fun vs hv => ?_⟩⟩⟩
            rw [w2 vs fun k hk => hv k (List.mem_append_right _ hk), w1 vs fun k hk => hv k (List.mem_append_left _ hk)]
  · cases h

/-! ### what is walked -/
structure ItOk (K : PySem.W.Frag) (C1 : Hp) (J : It) (items : List D) : Prop where
  ex : ∃ G Y, Walk J items.length G Y ∧ (∀ H, Ex C1 H → G H) ∧ ∀ i d, items[i]? = some d → ∀ C H x H' (Q : VK), Ex C1 C → Ex C H → Y i H x H' → Rs K C H d Q → Q x H'
structure DI (X : Cx) (EC : ECl) (W : WX) (tg iter : Expr) (m : M (List D)) : Prop where
  ex : ∃ wi, PI X tg iter wi ∧ ∀ C0 H0 B C H σ δ (R : It → Hp → Prop), SR X.K C0 H0 B C H σ δ →
    RP (m δ) (fun items δ => ∀ J C1 H1, Ex C C1 → SR X.K C0 H0 B C1 H1 σ δ → ItOk X.K C1 J items → R J H1) (PXe X.K EC W C0 H0 B C σ) → wi σ H R
/-- a list, a tuple or a text -/
def iSeq (K : PySem.W.Frag) (te : TE) : TI := fun σ H R => te σ H fun x H1 => (∃ a, x = .ref a ∧ (∃ xs, SqL K H1 a xs) ∧ R (Itl K a) H1) ∨ ((∃ a, x = .ref a ∧ (∃ xs, SqT K H1 a xs) ∧ R (Itt K a) H1) ∨ ∃ z, x = .str z ∧ R (Its z) H1)
theorem pi_seq {te : TE} (hl : PE X e te) : PI X tg e (iSeq X.K te) := by
  refine ⟨fun pins s σ H R I h => ?_⟩
  refine thn (hl.run pins s σ H _ I h) fun v s1 ⟨x, H1, I1, r1, q1⟩ => ?_
  rcases q1 with ⟨a, e, ⟨xs, hq⟩, q⟩ | ⟨a, e, ⟨xs, hq⟩, q⟩ | ⟨z, e, q⟩
  · subst e
    cases r1
    obtain ⟨its, rv, p, hz⟩ := I1.list hq
    refine wpAny_pyIter_list p.isList ?_
    refine ⟨s1.heap.objs.size, [s1.heap.objs.size], _, _, H1, rfl, I1.kept (t' := s1.toks) fun b o e => Heap.get?_push_of_some _ e, turn_list a _, ⟨_, Heap.get?_push_size _ rfl, rfl, rfl⟩, fun b hb => ?_, q⟩
    have e : b = s1.heap.objs.size := by simpa using hb
    subst e
    exact I1.fpOk (Nat.le_refl _) (I1.hok.fresh (Nat.le_refl _))
  · subst e
    cases r1
    obtain ⟨its, rv, p, hz⟩ := I1.tuple hq
    refine wpAny_pyIter_tuple (show s1.heap.IsTuple a its.toArray from p) ?_
    refine ⟨s1.heap.objs.size, [s1.heap.objs.size], _, _, H1, rfl, I1.kept (t' := s1.toks) fun b o e => Heap.get?_push_of_some _ e, turn_tuple a _, ⟨_, Heap.get?_push_size _ rfl, rfl, rfl⟩, fun b hb => ?_, q⟩
    have e : b = s1.heap.objs.size := by simpa using hb
    subst e
    exact I1.fpOk (Nat.le_refl _) (I1.hok.fresh (Nat.le_refl _))
  · subst e
    obtain ⟨t, rfl⟩ := r1
    cases ha : z.cps.all (· < 128)
    · exact wpAny_pyIter_wide ha (pi_one (tk := s1.toks) I1 _ (turn_str _ z t "str_iterator" (.inr rfl)) ⟨_, Heap.get?_push_size _ rfl, rfl, rfl⟩ q)
    · exact wpAny_pyIter_ascii ha (pi_one (tk := s1.toks) I1 _ (turn_str _ z t "str_ascii_iterator" (.inl rfl)) ⟨_, Heap.get?_push_size _ rfl, rfl, rfl⟩ q)
def dItems : D → Option (List D)
  | .list xs => some xs
  | .tuple xs => some xs
  | .str s => some (s.cps.toList.map fun c => .str ⟨#[c]⟩)
  | _ => none
def mItems (a : M D) : M (List D) := fun δ => (a δ).bind fun x δ => R.lift (dItems x) δ
theorem it_seq {K : PySem.W.Frag} {C : Hp} {a : Addr} {xs : List V} {ds : List D} (hx : SqL K C a xs) (hd : DqAll K C xs ds) : ItOk K C (Itl K a) ds := by
  refine ⟨fun H => SqL K H a xs, YAt xs, by rw [← dpa_len hd]; exact walk_list, fun H e => ex_l e hx, fun i d hi C2 H x H' Q e1 e2 y q => ?_⟩
  obtain ⟨e, hx⟩ := y
  subst e
  obtain ⟨d', h1, h2⟩ := dpa_get' hd hx
  rw [hi] at h1
  cases h1
  exact q.1 x (dp_ex e1 _ _ h2)
theorem it_tup {K : PySem.W.Frag} {C : Hp} {a : Addr} {xs : List V} {ds : List D} (hx : SqT K C a xs) (hd : DqAll K C xs ds) : ItOk K C (Itt K a) ds := by
  refine ⟨fun H => SqT K H a xs, YAt xs, by rw [← dpa_len hd]; exact walk_tup, fun H e => ex_t e hx, fun i d hi C2 H x H' Q e1 e2 y q => ?_⟩
  obtain ⟨e, hx⟩ := y
  subst e
  obtain ⟨d', h1, h2⟩ := dpa_get' hd hx
  rw [hi] at h1
  cases h1
  exact q.1 x (dp_ex e1 _ _ h2)
theorem it_str {K : PySem.W.Frag} {C : Hp} {z : Str} : ItOk K C (Its z) (z.cps.toList.map fun c => .str ⟨#[c]⟩) := by
  refine ⟨fun _ => True, fun i H v H' => H' = H ∧ ∃ c, z.cps[i]? = some c ∧ v = .str ⟨#[c]⟩, ?_, fun _ _ => trivial, fun i d hi C2 H x H' Q e1 e2 y q => ?_⟩
  · rw [List.length_map, Array.length_toList]
    exact walk_str
  · obtain ⟨e, c, hc, hx⟩ := y
    subst e hx
    rw [List.getElem?_map, Array.getElem?_toList, hc] at hi
    cases hi
    exact q.1 _ (.str _)
theorem di_seq (h : DE X EC W iter ma) : DI X EC W tg iter (mItems ma) := by
  obtain ⟨te, pe, re⟩ := h.ex
  refine ⟨_, pi_seq pe, fun C0 H0 B C H σ δ R S h => re C0 H0 B C H σ δ _ S (RP.imp (RP.bind h) (fun x δ1 h1 v C1 H1 e1 S1 d1 => ?_) fun c d δ h => h)⟩
  obtain ⟨items, hi, q⟩ := RP.lift h1
  unfold dItems at hi
  split at hi
  · cases hi
    cases d1 with
    | lst a b => exact .inl ⟨_, rfl, ⟨_, ex_l S1.ch a⟩, q _ C1 H1 e1 S1 (it_seq a b)⟩
  · cases hi
    cases d1 with
    | tup a b => exact .inr (.inl ⟨_, rfl, ⟨_, ex_t S1.ch a⟩, q _ C1 H1 e1 S1 (it_tup a b)⟩)
  · cases hi
    cases d1
    exact .inr (.inr ⟨_, rfl, q _ C1 H1 e1 S1 it_str⟩)
  · cases hi
def rng (lo hi : Int) : List D := (List.range (hi - lo).toNat).map fun k => .int (lo + (k : Nat))
theorem it_rng {K : PySem.W.Frag} {C : Hp} {lo hi : Int} : ItOk K C (Itr lo (hi - lo).toNat) (rng lo hi) := by
  refine ⟨fun _ => True, YFn fun i => .int (lo + i), ?_, fun _ _ => trivial, fun i d hi C2 H x H' Q e1 e2 y q => ?_⟩
  · unfold rng
    rw [List.length_map, List.length_range]
    exact walk_range
  · obtain ⟨e, hx⟩ := y
    subst e hx
    unfold rng at hi
    rw [List.getElem?_map] at hi
    cases k : (List.range (_ - lo).toNat)[i]? with
    | none => rw [k] at hi; cases hi
    | some n =>
      rw [k] at hi
      cases hi
      have : n = i := by
        rw [List.getElem?_range] at k
        · exact (Option.some.inj k).symm
        · exact (List.getElem?_eq_some_iff.mp k).1 |> fun h => by simpa using h
      subst this
      exact q.1 _ (.int _)
def big (i : Int) : Bool := decide (-(2 ^ 62) ≤ i ∧ i < 2 ^ 62)
def mRng1 (a : M D) : M (List D) := fun δ => (a δ).bind fun x δ => match x with
  | .int i => if big i then .ok (rng 0 i) δ else .no
  | _ => .no
def mRng2 (a b : M D) : M (List D) := fun δ => (a δ).bind fun x δ => (b δ).bind fun y δ => match x, y with
  | .int i, .int j => if big i && big j then .ok (rng i j) δ else .no
  | _, _ => .no
theorem di_rng1 (hg : Gl X "range") (hm : X.mg "range" = none) (h : DE X EC W a ma) (hs : starEach [a] X.env = [(false, eval a X.env)] := by rfl) (hs' : starEach (a :: []) X.env = (false, eval a X.env) :: starEach [] X.env := by rfl) : DI X EC W tg (.Call (.Name "range" p) [a] [] pos) (mRng1 ma) := by
  obtain ⟨te, pe, re⟩ := h.ex
  refine ⟨_, pi_range1 hg hm (pa_cons pe pa_nil hs') hs, fun C0 H0 B C H σ δ R S h => re C0 H0 B C H σ δ _ S (RP.imp (RP.bind h) (fun x δ1 h1 v C1 H1 e1 S1 d1 => ?_) fun c d δ h => h)⟩
  split at h1
  · split at h1
    · rename_i i hb
      cases d1
      have hb := of_decide_eq_true hb
      refine ⟨i, rfl, hb.1, hb.2, h1 _ C1 H1 e1 S1 ?_⟩
      have z := it_rng (K := X.K) (C := C1) (lo := 0) (hi := i)
      rw [Int.sub_zero] at z
      exact z
    · exact h1.elim
  · exact h1.elim
theorem di_rng2 (hg : Gl X "range") (hm : X.mg "range" = none) (h : DE X EC W a ma) (h2 : DE X EC W b mb) (hs : starEach [a, b] X.env = [(false, eval a X.env), (false, eval b X.env)] := by rfl) (hs2 : starEach [b] X.env = [(false, eval b X.env)] := by rfl)
    (hs' : starEach (a :: [b]) X.env = (false, eval a X.env) :: starEach [b] X.env := by rfl) (hs3 : starEach (b :: []) X.env = (false, eval b X.env) :: starEach [] X.env := by rfl) : DI X EC W tg (.Call (.Name "range" p) [a, b] [] pos) (mRng2 ma mb) := by
  obtain ⟨te, pe, re⟩ := h.ex
  obtain ⟨tb, pb, rb⟩ := h2.ex
  refine ⟨_, pi_range2 hg hm (pa_cons pe (pa_cons pb pa_nil hs3) hs') hs hs2, fun C0 H0 B C H σ δ R S h => re C0 H0 B C H σ δ _ S (RP.imp (RP.bind h) (fun x δ1 h1 v C1 H1 e1 S1 d1 => ?_) fun c d δ h => h)⟩
  refine rb C0 H0 B C1 H1 σ δ1 _ S1 (RP.imp (RP.bind h1) (fun y δ2 h2 w C2 H2 e2 S2 d2 => ?_) (PXe.mono e1))
  split at h2
  · split at h2
    · rename_i i j hb
      cases d1
      cases d2
      rw [Bool.and_eq_true] at hb
      have hb1 := of_decide_eq_true hb.1
      have hb2 := of_decide_eq_true hb.2
      exact ⟨i, j, rfl, ⟨hb1.1, hb1.2, hb2.1, hb2.2⟩, h2 _ C2 H2 (e1.trans e2) S2 it_rng⟩
    · exact h2.elim
  · exact h2.elim

/-! ### comprehensions -/
/-- the cells of a block's own names, unset -/
def wipeD (δ : Dl) : List Nat → Dl
  | [] => δ
  | v :: vs => (wipeD δ vs).set v .non
/-- .. as they were -/
def backD (δ δ' : Dl) : List Nat → Dl
  | [] => δ'
  | v :: vs => (backD δ δ' vs).set v (δ.getD v .non)
def noMut (δ : Dl) (vs : List Nat) : Bool := vs.all fun v => match δ[v]? with
  | some (.var _ _) => false
  | _ => true
def Cell.isVar : Cell → Bool
  | .var _ _ => true
  | _ => false
def noVar (δ : Dl) : Bool := δ.all fun c => !c.isVar
def R.noex {α : Type} : R α → R α
  | .ok a δ => .ok a δ
  | _ => .no
def mLc (vs : List Nat) (g : D → Dl → Option Dl) (t : M Bool) (e : M D) : List D → M (List D)
  | [], δ => .ok [] δ
  | x :: xs, δ => match g x (wipeD δ vs) with
    | none => .no
    | some δ1 => (t δ1).noex.bind fun b δ2 => if b then (e δ2).noex.bind fun y δ3 => if noVar δ3 then (mLc vs g t e xs δ3).bind fun ys δ4 => .ok (y :: ys) δ4 else .no
      else if noVar δ2 then mLc vs g t e xs δ2 else .no
def mLcS (vs : List Nat) (it : M (List D)) (g : D → Dl → Option Dl) (t : M Bool) (e : M D) : M (List D) := fun δ => (it δ).bind fun xs δ1 => if noVar δ1 && decide (xs.length ≤ LINE) then (mLc vs g t e xs δ1).bind fun ys δ2 => .ok ys (backD δ1 δ2 vs) else .no
end
end DL
end Part_DLe

section Part_DLf
set_option Elab.async false
set_option linter.all false
set_option maxRecDepth 100000
set_option autoImplicit false
set_option maxHeartbeats 2000000
namespace DL
open PySem PySem.Spec PyProof.Rows L2 Evl

/-! ### the readings by the mirrors -/
section
variable (K : PySem.W.Frag) (EC : ECl) (W : WX)
def tE (m : M D) : TE := fun σ H Q => ∃ C0 H0 B C δ, SR K C0 H0 B C H σ δ ∧ RP (m δ) (PKe K C0 H0 B C σ Q) (PXe K EC W C0 H0 B C σ)
def tTd (m : M Bool) : TT := fun σ H Q => ∃ C0 H0 B C δ, SR K C0 H0 B C H σ δ ∧ RP (m δ) (PKt K C0 H0 B C σ Q) (PXe K EC W C0 H0 B C σ)
def tGd (ts : List Nat) (g : D → Dl → Option Dl) : TG := fun v σ H Q => ∃ C0 H0 B C δ δ' d, SR K C0 H0 B C H σ δ ∧ Dq K C v d ∧ g d δ = some δ' ∧ ∀ σ', SR K C0 H0 B C H σ' δ' → (∀ vs : List Nat, (∀ k ∈ ts, k ∈ vs) → wipe σ' vs = wipe σ vs) → Q σ' H
end
section
variable {X : Cx} {EC : ECl} {W : WX} {e tg : Expr}
theorem DE.pe {m : M D} (h : DE X EC W e m) : PE X e (tE X.K EC W m) := by
  obtain ⟨te, pe, re⟩ := h.ex
  exact ⟨fun pins s σ H Q I ⟨C0, H0, B, C, δ, S, q⟩ => pe.run pins s σ H Q I (re C0 H0 B C H σ δ Q S q)⟩
theorem DT.pt {m : M Bool} (h : DT X EC W e m) : PT X e (tTd X.K EC W m) := by
  obtain ⟨te, pe, re⟩ := h.ex
  exact ⟨fun pins s σ H Q I ⟨C0, H0, B, C, δ, S, q⟩ => pe.run pins s σ H Q I (re C0 H0 B C H σ δ Q S q)⟩
theorem DG.pg {ts : List Nat} {g : D → Dl → Option Dl} (h : DG X tg ts g) : PG X tg (tGd X.K ts g) := by
  obtain ⟨t, p, r⟩ := h.ex
  exact ⟨fun pins s σ H v u Q I rv ⟨C0, H0, B, C, δ, δ', d, S, hd, hg, k⟩ => p.run pins s σ H v u Q I rv (r C0 H0 B C H σ δ δ' v d Q S hd hg k)⟩
end
/-- the tests of a block -/
structure DTs (X : Cx) (EC : ECl) (W : WX) (ifs : List Expr) (m : M Bool) : Prop where
  ex : PTs X ifs (tTd X.K EC W m)
def mYes : M Bool := fun δ => .ok true δ
section
variable {X : Cx} {EC : ECl} {W : WX} {e tg : Expr}
theorem dts_nil : DTs X EC W [] mYes := ⟨⟨fun pins s σ H Q I ⟨C0, H0, B, C, δ, S, q⟩ => (pts_nil (X := X)).run pins s σ H Q I (q C H (Ex.refl C) S)⟩⟩
theorem dts_one {m : M Bool} (h : DT X EC W e m) : DTs X EC W [e] m := ⟨pts_one h.pt⟩
end

/-! ### wiped and put back -/
theorem wipe_out' {σ : L2.St} {i : Nat} {vs : List Nat} (h : i ∉ vs) : (wipe σ vs)[i]? = σ[i]? := wipe_out h
theorem wipeD_length (δ : Dl) : ∀ vs : List Nat, (wipeD δ vs).length = δ.length
  | [] => rfl
  | v :: vs => by unfold wipeD; rw [List.length_set, wipeD_length δ vs]
theorem wipeD_out {δ : Dl} {i : Nat} : ∀ {vs : List Nat}, i ∉ vs → (wipeD δ vs)[i]? = δ[i]?
  | [], _ => rfl
  | v :: vs, h => by
    have h1 : v ≠ i := fun e => h (by rw [e]; exact List.mem_cons_self)
    have h2 : i ∉ vs := fun e => h (List.mem_cons_of_mem _ e)
    unfold wipeD
    rw [List.getElem?_set_ne h1]
    exact wipeD_out h2
theorem wipeD_in {δ : Dl} {i : Nat} {c : Cell} : ∀ {vs : List Nat}, i ∈ vs → (wipeD δ vs)[i]? = some c → c = .non
  | [], h, _ => by cases h
  | v :: vs, h, e => by
    unfold wipeD at e
    by_cases q : v = i
    · subst q
      have hl : v < (wipeD δ vs).length := by
        have := (List.getElem?_eq_some_iff.mp e).1
        rwa [List.length_set] at this
      rw [List.getElem?_set_self hl] at e
      exact (Option.some.inj e).symm
    · rw [List.getElem?_set_ne q] at e
      rcases List.mem_cons.mp h with z | z
      · exact absurd z.symm q
      · exact wipeD_in z e
theorem backD_length (δ δ' : Dl) : ∀ vs : List Nat, (backD δ δ' vs).length = δ'.length
  | [] => rfl
  | v :: vs => by unfold backD; rw [List.length_set, backD_length δ δ' vs]
theorem backD_out {δ δ' : Dl} {i : Nat} : ∀ {vs : List Nat}, i ∉ vs → (backD δ δ' vs)[i]? = δ'[i]?
  | [], _ => rfl
  | v :: vs, h => by
    have h1 : v ≠ i := fun e => h (by rw [e]; exact List.mem_cons_self)
    have h2 : i ∉ vs := fun e => h (List.mem_cons_of_mem _ e)
    unfold backD
    rw [List.getElem?_set_ne h1]
    exact backD_out h2
theorem backD_in {δ δ' : Dl} {i : Nat} {c : Cell} : ∀ {vs : List Nat}, i ∈ vs → (backD δ δ' vs)[i]? = some c → c = δ.getD i .non
  | [], h, _ => by cases h
  | v :: vs, h, e => by
    unfold backD at e
    by_cases q : v = i
    · subst q
      have hl : v < (backD δ δ' vs).length := by
        have := (List.getElem?_eq_some_iff.mp e).1
        rwa [List.length_set] at this
      rw [List.getElem?_set_self hl] at e
      exact (Option.some.inj e).symm
    · rw [List.getElem?_set_ne q] at e
      rcases List.mem_cons.mp h with z | z
      · exact absurd z.symm q
      · exact backD_in z e
theorem noMut_at {δ : Dl} {vs : List Nat} (h : noMut δ vs = true) {i : Nat} (hi : i ∈ vs) : ∀ b ds, δ[i]? ≠ some (.var b ds) := fun b ds e => by
  have z := List.all_eq_true.mp h i hi
  rw [e] at z
  cases z
section
variable {K : PySem.W.Frag} {C0 H0 C H C2 H2 : Hp} {B : List (Nat × Addr)} {σ : L2.St} {δ δ2 : Dl} {vs : List Nat}
theorem SR.wipe (S : SR K C0 H0 B C H σ δ) (hB : ∀ p ∈ B, p.1 ∉ vs) : SR K C0 H0 B C H (wipe σ vs) (wipeD δ vs) where
  len := by rw [wipe_length, wipeD_length]; exact S.len
  c0 := S.c0
  ch := S.ch
  fr := S.fr
  nw := S.nw
  val := fun i d h => by
    by_cases q : i ∈ vs
    · cases wipeD_in q h
    · rw [wipeD_out q] at h
      rw [wipe_out' q]
      exact S.val i d h
  own := fun i d h => by
    by_cases q : i ∈ vs
    · cases wipeD_in q h
    · rw [wipeD_out q] at h
      rw [wipe_out' q]
      exact S.own i d h
  bor := fun p hp => by
    rw [wipeD_out (hB p hp), wipe_out' (hB p hp)]
    exact S.bor p hp
  btr := fun i d h => by
    by_cases q : i ∈ vs
    · cases wipeD_in q h
    · rw [wipeD_out q] at h
      exact S.btr i d h
  bd1 := S.bd1
  bd2 := S.bd2
  bH0 := S.bH0
  odis := fun i j ds es hij h1 h2 => by
    have q1 : i ∉ vs := fun q => by cases wipeD_in q h1
    have q2 : j ∉ vs := fun q => by cases wipeD_in q h2
    rw [wipeD_out q1] at h1
    rw [wipeD_out q2] at h2
    rw [wipe_out' q1, wipe_out' q2]
    exact S.odis i j ds es hij h1 h2
theorem SR.back (S : SR K C0 H0 B C H σ δ) (hn : noMut δ vs = true) (e : Ex C C2) (S2 : SR K C0 H0 B C2 H2 (L2.wipe σ vs) (wipeD δ2 vs)) : SR K C0 H0 B C2 H2 σ (backD δ δ2 vs) := by
  have hB : ∀ p ∈ B, p.1 ∉ vs := fun p hp q => by
    obtain ⟨ds, _, h1, _⟩ := S.bor p hp
    exact noMut_at hn q _ _ h1
  have out : ∀ {i : Nat} {b ds}, (backD δ δ2 vs)[i]? = some (.var b ds) → i ∉ vs := fun {i b ds} h q => by
    have z := backD_in q h
    have hi : i < δ.length := by
      cases k : δ[i]? with
      | none =>
        have : δ.getD i .non = .non := by unfold List.getD; rw [k]; rfl
        rw [this] at z
        cases z
      | some c => exact (List.getElem?_eq_some_iff.mp k).1
    refine noMut_at hn q b ds ?_
    unfold List.getD at z
    cases k : δ[i]? with
    | none => rw [k] at z; cases z
    | some c => rw [k] at z; exact congrArg some z.symm
  refine ⟨?_, S2.c0, S2.ch, S2.fr, S2.nw, fun i d h => ?_, fun i d h => ?_, fun p hp => ?_, fun i d h => ?_, S2.bd1, S2.bd2, S2.bH0, fun i j ds es hij h1 h2 => ?_⟩
  · have := S2.len
    rw [wipe_length, wipeD_length] at this
    rw [backD_length]
    exact this
  · by_cases q : i ∈ vs
    · have z := backD_in q h
      cases k : δ[i]? with
      | none =>
        unfold List.getD at z
        rw [k] at z
        cases z
      | some c =>
        unfold List.getD at z
        rw [k] at z
        have z : Cell.val d = c := z
        subst z
        obtain ⟨v, h1, h2⟩ := S.val i d k
        exact ⟨v, h1, dp_ex e _ _ h2⟩
    · rw [backD_out q, ← wipeD_out (δ := δ2) q] at h
      have := S2.val i d h
      rw [wipe_out' q] at this
      exact this
  · have q := out h
    rw [backD_out q, ← wipeD_out (δ := δ2) q] at h
    have := S2.own i d h
    rw [wipe_out' q] at this
    exact this
  · have := S2.bor p hp
    rw [wipe_out' (hB p hp), wipeD_out (hB p hp)] at this
    rw [backD_out (hB p hp)]
    exact this
  · have q := out h
    rw [backD_out q, ← wipeD_out (δ := δ2) q] at h
    exact S2.btr i d h
  · have q1 := out h1
    have q2 := out h2
    rw [backD_out q1, ← wipeD_out (δ := δ2) q1] at h1
    rw [backD_out q2, ← wipeD_out (δ := δ2) q2] at h2
    have := S2.odis i j ds es hij h1 h2
    rw [wipe_out' q1, wipe_out' q2] at this
    exact this
/-- an object that is not of the data and that no cell holds is changed -/
theorem SR.mutN (S : SR K C0 H0 B C H σ δ) {l : Addr} {o : HO} (h0 : H0 l = none) (hC : C l = none) (hn : ∀ (i : Nat) (b : Bool) (es : List D), δ[i]? = some (.var b es) → σ[i]? ≠ some (some (.ref l))) : SR K C0 H0 B C (upd H l o) σ δ where
  len := S.len
  c0 := S.c0
  ch := fun a u h => by
    rw [upd_ne (ne_of_none h hC)]
    exact S.ch a u h
  fr := fun a u h hb => by
    rw [upd_ne (ne_of_none h h0)]
    exact S.fr a u h hb
  nw := S.nw
  val := S.val
  own := fun i ds h => by
    obtain ⟨k, xs, h1, h2, h3, h4, h5⟩ := S.own i ds h
    refine ⟨k, xs, h1, h2, h3, ?_, h5⟩
    rw [upd_ne fun z => hn i false ds h (by rw [← z]; exact h1)]
    exact h4
  bor := fun p hp => by
    obtain ⟨ds, xs, h1, h2, h3, h4, h5⟩ := S.bor p hp
    refine ⟨ds, xs, h1, h2, h3, ?_, h5⟩
    rw [upd_ne fun z => hn p.1 true ds h1 (by rw [← z]; exact h2)]
    exact h4
  btr := S.btr
  bd1 := S.bd1
  bd2 := S.bd2
  bH0 := S.bH0
  odis := S.odis
theorem noVar_at {δ : Dl} (h : noVar δ = true) {i : Nat} {b : Bool} {ds : List D} : δ[i]? ≠ some (.var b ds) := fun e => by
  have z := List.all_eq_true.mp h _ (List.mem_of_getElem? e)
  cases z
theorem noVar_wipe {δ : Dl} (h : noVar δ = true) : ∀ vs : List Nat, noVar (wipeD δ vs) = true
  | [] => h
  | v :: vs => by
    refine List.all_eq_true.mpr fun c hc => ?_
    obtain ⟨i, hi⟩ := List.getElem?_of_mem hc
    cases c with
    | var b ds =>
      by_cases q : i ∈ v :: vs
      · cases wipeD_in q hi
      · rw [wipeD_out q] at hi
        exact absurd hi (noVar_at h)
    | non => rfl
    | val d => rfl
theorem SR.noB (S : SR K C0 H0 B C H σ δ) (h : noVar δ = true) : B = [] := by
  cases B with
  | nil => rfl
  | cons p r =>
    obtain ⟨ds, _, z, _⟩ := S.bor p List.mem_cons_self
    exact absurd z (noVar_at h)
theorem SR.rebase (S : SR K C0 H0 B C H σ δ) (h : noVar δ = true) : SR K C H [] C H σ δ where
  len := S.len
  c0 := Ex.refl C
  ch := S.ch
  fr := fun a o z _ => z
  nw := fun a _ z => z
  val := S.val
  own := fun i ds z => absurd z (noVar_at h)
  bor := fun p hp => by cases hp
  btr := fun i ds z => absurd z (noVar_at h)
  bd1 := fun p hp => by cases hp
  bd2 := fun p hp => by cases hp
  bH0 := fun p hp => by cases hp
  odis := fun i j ds es _ z => absurd z (noVar_at h)
theorem SR.unbase {σ2 : L2.St} {δ' : Dl} (S : SR K C0 H0 [] C H σ δ) (T : SR K C H [] C2 H2 σ2 δ') : SR K C0 H0 [] C2 H2 σ2 δ' where
  len := T.len
  c0 := S.c0.trans T.c0
  ch := T.ch
  fr := fun a o z _ => T.fr a o (S.fr a o z fun p hp => by cases hp) fun p hp => by cases hp
  nw := fun a z1 z2 => by
    refine T.nw a ?_ (S.nw a z1 z2)
    cases q : H0 a with
    | none => exact absurd q z1
    | some o =>
      rw [S.fr a o q fun p hp => by cases hp]
      exact fun z => nomatch z
  val := T.val
  own := fun i ds z => by
    obtain ⟨l, xs, h1, h2, h3, h4, h5⟩ := T.own i ds z
    refine ⟨l, xs, h1, ?_, h3, h4, h5⟩
    cases q : H0 l with
    | none => rfl
    | some o =>
      have := S.fr l o q fun p hp => by cases hp
      rw [h2] at this
      cases this
  bor := T.bor
  btr := T.btr
  bd1 := T.bd1
  bd2 := T.bd2
  bH0 := fun p hp => by cases hp
  odis := T.odis
/-- what H does not know, no list of one's own is -/
theorem SR.nm (S : SR K C0 H0 B C H σ δ) {p : Addr} (hp : H p = none) : H0 p = none ∧ ∀ (i : Nat) (b : Bool) (es : List D), δ[i]? = some (.var b es) → σ[i]? ≠ some (some (.ref p)) := by
  refine ⟨?_, fun i b ds hi hs => ?_⟩
  · cases q : H0 p with
    | none => rfl
    | some o =>
      by_cases hb : ∃ k ∈ B, k.2 = p
      · obtain ⟨k, hk, rfl⟩ := hb
        obtain ⟨_, _, _, _, _, h4, _⟩ := S.bor k hk
        rw [hp] at h4
        cases h4
      · have z := S.fr p o q fun k hk e => hb ⟨k, hk, e⟩
        rw [hp] at z
        cases z
  · cases b with
    | false =>
      obtain ⟨l, ys, h2, _, _, h5, _⟩ := S.own i ds hi
      rw [h2] at hs
      cases hs
      rw [hp] at h5
      cases h5
    | true =>
      obtain ⟨l, hl⟩ := S.btr i ds hi
      obtain ⟨_, _, _, h3, _, h5, _⟩ := S.bor _ hl
      rw [h3] at hs
      cases hs
      rw [hp] at h5
      cases h5
end
theorem RP.noex {α : Type} {r : R α} {k : α → Dl → Prop} {x x' : Nat → D → Dl → Prop} (h : RP r.noex k x) : RP r k x' := by
  cases r with
  | ok a δ => exact h
  | ex c d δ => exact h.elim
  | no => exact h.elim
theorem wipeD_wipeD (δ : Dl) (vs : List Nat) : ∀ i : Nat, (wipeD (wipeD δ vs) vs)[i]? = (wipeD δ vs)[i]? := fun i => by
  by_cases q : i ∈ vs
  · cases k1 : (wipeD (wipeD δ vs) vs)[i]? with
    | none =>
      have := List.getElem?_eq_none_iff.mp k1
      rw [wipeD_length] at this
      exact (List.getElem?_eq_none_iff.mpr this).symm
    | some c =>
      have hl := (List.getElem?_eq_some_iff.mp k1).1
      rw [wipeD_length] at hl
      cases k2 : (wipeD δ vs)[i]? with
      | none =>
        have := List.getElem?_eq_none_iff.mp k2
        omega
      | some c' => rw [wipeD_in q k1, wipeD_in q k2]
  · rw [wipeD_out q]
section
variable {X : Cx} {EC : ECl} {W : WX}
theorem lc_read {K : PySem.W.Frag} {wi : TI} {mi : M (List D)} {ts ws : List Nat} {g : D → Dl → Option Dl} {mt : M Bool} {me : M D} {W0 : WX} (hts : ∀ k ∈ ts, k ∈ ws)
    (ri : ∀ C0 H0 B C H σ δ (R : It → Hp → Prop), SR K C0 H0 B C H σ δ → RP (mi δ) (fun items δ => ∀ J C1 H1, Ex C C1 → SR K C0 H0 B C1 H1 σ δ → ItOk K C1 J items → R J H1) (PXe K EC W C0 H0 B C σ) → wi σ H R) :
    ∀ C0 H0 B C H σ δ Q, SR K C0 H0 B C H σ δ → RP (mLcS ws mi g mt me δ) (PKl K C0 H0 B C σ Q) (PXe K EC W C0 H0 B C σ) → tLc wi (tGd K ts g) (tTd K EC W0 mt) (tE K EC W0 me) ws σ H Q := by
  intro C0 H0 B C H σ δ Q S h
  refine ri C0 H0 B C H σ δ _ S (RP.imp (RP.bind h) (fun items δ1 h1 J C1 H1 e1 S1 it => ?_) fun c d δ h => h)
  intro Dl hD
  obtain ⟨G, Y, wk, hG, hY⟩ := it.ex
  split at h1
  case isFalse => exact h1.elim
  rename_i hcond
  rw [Bool.and_eq_true] at hcond
  obtain ⟨hnv, hlen⟩ := hcond
  have hlen := of_decide_eq_true hlen
  have hBe := S1.noB hnv
  subst hBe
  have hB : ∀ p ∈ ([] : List (Nat × Addr)), p.1 ∉ ws := fun p hp => by cases hp
  have hnm : noMut δ1 ws = true := by
    refine List.all_eq_true.mpr fun v _ => ?_
    cases q : δ1[v]? with
    | none => rfl
    | some c =>
      cases c with
      | var b ds => exact absurd q (noVar_at hnv)
      | non => rfl
      | val d => rfl
  obtain ⟨h0D, nmD⟩ := S1.nm hD
  have hfin := RP.bind h1
  refine lc_it wk (fun i H' => ∃ C' δ' acc vs, Ex C1 C' ∧ SR K C0 H0 [] C' H' (wipe σ ws) (wipeD δ' ws) ∧ H' Dl = some (.lst vs) ∧ C' Dl = none ∧ noVar δ' = true ∧ acc.length ≤ i ∧ DqAll K C' vs acc ∧
    RP (mLc ws g mt me (items.drop i) δ') (fun ys δ2 => PKl K C0 H0 [] C1 σ Q (acc ++ ys) (backD δ1 δ2 ws)) (PXe K EC W C0 H0 [] C1 σ)) ⟨C1, δ1, [], [], Ex.refl _, (S1.newN hD).wipe hB, upd_same, free_of S1.ch hD, hnv, Nat.le_refl _, .nil, RP.imp hfin (fun ys δ2 z => PKl.mono e1 _ _ (show PKl K C0 H0 [] C σ Q ys (backD δ1 δ2 ws) from z)) (PXe.mono e1)⟩
    (fun i H' _ ⟨C', δ', acc, vs, e2, S2, _⟩ => hG H' (e2.trans S2.ch)) ?_ ?_
  · rintro i x H2 H3 hi ⟨C', δ', acc, vs, e2, S2, hDl, hCD, hv, hacc, dacc, q⟩ y
    have hdrop : items.drop i = items[i] :: items.drop (i + 1) := List.drop_eq_getElem_cons hi
    have hget : items[i]? = some items[i] := List.getElem?_eq_getElem hi
    rw [hdrop] at q
    unfold mLc at q
    have nw := noVar_wipe hv ws
    have T2 := S2.rebase nw
    have hlong : vs.length ≤ i := by rw [dpa_len dacc]; exact hacc
    refine hY i _ hget C' H2 x H3 (fun x H3 => tGd K ts g x (wipe σ ws) H3 _) e2 S2.ch y (rs_of (C0 := C') (H0 := H2) (B := []) (σ := wipe σ ws) (δ := wipeD δ' ws) T2 fun v C3 H3 e3 T3 d3 => ?_)
    cases hg1 : g items[i] (wipeD δ' ws) with
    | none => rw [hg1] at q; exact q.elim
    | some δ1' =>
      rw [hg1] at q
      refine ⟨C', H2, [], C3, wipeD δ' ws, δ1', items[i], T3, d3, hg1, fun σ4 T4 w4 => ?_⟩
      have w4' : wipe σ4 ws = wipe σ ws := by
        have := w4 ws hts
        have z : ∀ (us : List Nat), wipe (wipe σ us) us = wipe σ us := by
          intro us
          apply List.ext_getElem?
          intro k
          by_cases hk : k ∈ us
          · cases k1 : (wipe (wipe σ us) us)[k]? with
            | none =>
              have := List.getElem?_eq_none_iff.mp k1
              rw [wipe_length] at this
              exact (List.getElem?_eq_none_iff.mpr this).symm
            | some c =>
              have hl := (List.getElem?_eq_some_iff.mp k1).1
              rw [wipe_length] at hl
              cases c with
              | some v => exact absurd hk (wipe_some k1).2
              | none =>
                cases k2 : (wipe σ us)[k]? with
                | none =>
                  have := List.getElem?_eq_none_iff.mp k2
                  omega
                | some c2 =>
                  cases c2 with
                  | none => rfl
                  | some v => exact absurd hk (wipe_some k2).2
          · rw [wipe_out' hk]
        rw [this, z]
      refine ⟨w4', C', H2, [], C3, δ1', T4, RP.imp (RP.noex (RP.bind q)) (fun b δ5 h5 C5 H5 e5 T5 => ?_) fun _ _ _ z => z⟩
      have hD5 : H5 Dl = some (.lst vs) := T5.fr Dl _ hDl fun p hp => by cases hp
      have hC5 : C5 Dl = none := T5.nw Dl (by rw [hDl]; exact fun z => nomatch z) hCD
      dsimp only
      cases b with
      | false =>
        rw [if_neg Bool.false_ne_true] at h5 ⊢
        split at h5
        case isFalse => exact h5.elim
        rename_i hv5
        have S5 := (S2.unbase T5).wipe (vs := ws) hB
        rw [w4'] at S5
        exact ⟨C5, δ5, acc, vs, e2.trans (e3.trans e5), S5, hD5, hC5, hv5, Nat.le_succ_of_le hacc, dpAll_ex (e3.trans e5) _ _ dacc, h5⟩
      | true =>
        rw [if_pos rfl] at h5 ⊢
        refine ⟨C', H2, [], C5, δ5, T5, RP.imp (RP.noex (RP.bind h5)) (fun yd δ6 h6 yv C6 H6 e6 T6 d6 => ?_) fun _ _ _ z => z⟩
        have hD6 : H6 Dl = some (.lst vs) := T6.fr Dl _ hDl fun p hp => by cases hp
        have hC6 : C6 Dl = none := T6.nw Dl (by rw [hDl]; exact fun z => nomatch z) hCD
        split at h6
        case isFalse => exact h6.elim
        rename_i hv6
        have S6 := (S2.unbase T6).wipe (vs := ws) hB
        rw [w4'] at S6
        have nv6 := noVar_wipe hv6 ws
        have hszz : vs.length < sizeLine := by rw [line_eq]; omega
        have e36 := e3.trans (e5.trans e6)
        refine ⟨vs, hD6, hszz, C6, δ6, acc ++ [yd], vs ++ [yv], e2.trans e36, S6.mutN h0D hC6 (fun i b es z => absurd z (noVar_at nv6)), upd_same, hC6, hv6, by rw [List.length_append]; exact Nat.succ_le_succ hacc, dpa_app (dpAll_ex e36 _ _ dacc) (dpa_one d6), ?_⟩
        refine RP.imp (RP.bind h6) (fun ys δ7 h7 => ?_) fun _ _ _ z => z
        rw [List.append_assoc]
        exact h7
  · rintro H' ⟨C', δ', acc, vs, e2, S2, hDl, hCD, hv, hacc, dacc, q⟩
    rw [List.drop_length] at q
    have q : PKl K C0 H0 [] C1 σ Q (acc ++ []) (backD δ1 δ' ws) := q
    rw [List.append_nil] at q
    have S3 := S1.back hnm e2 S2
    refine q Dl vs C' H' e2 S3 hCD hDl h0D (fun i b es z => ?_) dacc
    by_cases hk : i ∈ ws
    · have z1 := backD_in hk z
      unfold List.getD at z1
      cases k : δ1[i]? with
      | none => rw [k] at z1; cases z1
      | some c =>
        rw [k] at z1
        have z1 : Cell.var b es = c := z1
        rw [← z1] at k
        exact absurd k (noVar_at hnv)
    · rw [backD_out hk] at z
      exact absurd z (noVar_at hv)
theorem dl_lc {elt tg iter : Expr} {ifs : List Expr} {scope : Scope} {own : List (Str × Nat)} {pos : Pos} {mi : M (List D)} {ts : List Nat} {g : D → Dl → Option Dl} {mt : M Bool} {me : M D} {W0 : WX} (hc : X.calm = true) (hN : X.N.Nodup) (hi : DI X EC W tg iter mi) (ok : BlkOk X.N X.env.scope scope own)
    (hg : ∀ (s : Shared) (H : Hp) (C : Addr) (cl : List (Str × Addr)) (fp : List Addr), DG (X.blk s H scope (compEnvC scope cl C X.env) fp) tg ts g) (hts : ∀ k ∈ ts, k ∈ own.map (·.2))
    (ht : ∀ (s : Shared) (H : Hp) (C : Addr) (cl : List (Str × Addr)) (fp : List Addr), DTs (X.blk s H scope (compEnvC scope cl C X.env) fp) EC W0 ifs mt)
    (he : ∀ (s : Shared) (H : Hp) (C : Addr) (cl : List (Str × Addr)) (fp : List Addr), DE (X.blk s H scope (compEnvC scope cl C X.env) fp) EC W0 elt me) (hs : ∀ x, foldedSetIterable iter X.env x = pure x := by intro _; rfl) :
    DL' X EC W (.ListComp elt [⟨tg, iter, ifs, 0⟩] scope pos) (mLcS (own.map (·.2)) mi g mt me) := by
  obtain ⟨wi, pi, ri⟩ := hi.ex
  exact ⟨_, pe_lc (g := tGd X.K ts g) (tt := tTd X.K EC W0 mt) (te := tE X.K EC W0 me) hc hN pi ok (fun s H C cl fp => (hg s H C cl fp).pg) (fun s H C cl fp => (ht s H C cl fp).ex) (fun s H C cl fp => (he s H C cl fp).pe) hs, lc_read hts ri⟩
/-- name = [..], as data | to be changed -/
def mSetL (i : Nat) (m : M (List D)) : M Fl := fun δ => (m δ).bind fun ds δ => match setV i (.list ds) δ with
  | some δ' => .ok .nx δ'
  | none => .no
def mSetM (i : Nat) (m : M (List D)) : M Fl := fun δ => (m δ).bind fun ds δ => match setM i ds δ with
  | some δ' => .ok .nx δ'
  | none => .no
theorem set_readL {K : PySem.W.Frag} {i : Nat} {te : TE} {m : M (List D)} (re : ∀ C0 H0 B C H σ δ Q, SR K C0 H0 B C H σ δ → RP (m δ) (PKl K C0 H0 B C σ Q) (PXe K EC W C0 H0 B C σ) → te σ H Q) :
    ∀ C0 H0 B C H σ δ (N : L2.Ends), SR K C0 H0 B C H σ δ → RP (mSetL i m δ) (PKs K C0 H0 B C N) (PXs K EC W C0 H0 B C) → tAsg te (gName i) N σ H := by
  intro C0 H0 B C H σ δ N S h
  refine re C0 H0 B C H σ δ _ S (RP.imp (RP.bind h) (fun ds δ1 h1 p xs C1 H1 e1 S1 hC hH h0 nm d1 => ?_) fun c d δ h v dd C2 H2 e2 S2 z1 z2 => h σ v dd C2 H2 e2 S2 z1 z2)
  have e2 : Ex C1 (upd C1 p (.lst xs)) := Ex.new hC
  split at h1
  case h_2 => exact h1.elim
  rename_i δ' hv
  -- the new list becomes data
  obtain ⟨a1, a2, rfl⟩ := setV_some hv
  have S2 : SR K C0 H0 B (upd C1 p (.lst xs)) H1 σ δ1 := ⟨S1.len, S1.c0.trans e2, fun a o q => by
      by_cases ha : a = p
      · subst ha
        rw [upd_same] at q
        rw [← q]
        exact hH
      · rw [upd_ne ha] at q
        exact S1.ch a o q, S1.fr, fun a h2 h3 => by
      rw [upd_ne fun z => h2 (by rw [z]; exact h0)]
      exact S1.nw a h2 h3, fun i d hi => by
      obtain ⟨v, h2, h3⟩ := S1.val i d hi
      exact ⟨v, h2, dp_ex e2 _ _ h3⟩, fun i ds hi => by
      obtain ⟨l, ys, h2, h3, h4, h5, h6⟩ := S1.own i ds hi
      refine ⟨l, ys, h2, h3, ?_, h5, dpAll_ex e2 _ _ h6⟩
      rw [upd_ne fun z => nm i false ds hi (by rw [← z]; exact h2)]
      exact h4, fun k hk => by
      obtain ⟨ds, ys, h2, h3, h4, h5, h6⟩ := S1.bor k hk
      refine ⟨ds, ys, h2, h3, ?_, h5, dpAll_ex e2 _ _ h6⟩
      rw [upd_ne fun z => nm k.1 true ds h2 (by rw [← z]; exact h3)]
      exact h4, S1.btr, S1.bd1, S1.bd2, S1.bH0, S1.odis⟩
  exact h1 (σ.set i (some (.ref p))) _ H1 (e1.trans e2) (S2.setC a1 a2 (fun d z => by cases z; exact .lst (SqL.of upd_same) (dpAll_ex e2 _ _ d1)) fun b ds z => by cases z)
theorem set_readM {K : PySem.W.Frag} {i : Nat} {te : TE} {m : M (List D)} (re : ∀ C0 H0 B C H σ δ Q, SR K C0 H0 B C H σ δ → RP (m δ) (PKl K C0 H0 B C σ Q) (PXe K EC W C0 H0 B C σ) → te σ H Q) :
    ∀ C0 H0 B C H σ δ (N : L2.Ends), SR K C0 H0 B C H σ δ → RP (mSetM i m δ) (PKs K C0 H0 B C N) (PXs K EC W C0 H0 B C) → tAsg te (gName i) N σ H := by
  intro C0 H0 B C H σ δ N S h
  refine re C0 H0 B C H σ δ _ S (RP.imp (RP.bind h) (fun ds δ1 h1 p xs C1 H1 e1 S1 hC hH h0 nm d1 => ?_) fun c d δ h v dd C2 H2 e2 S2 z1 z2 => h σ v dd C2 H2 e2 S2 z1 z2)
  split at h1
  case h_2 => exact h1.elim
  rename_i δ' hv
  obtain ⟨a1, a2, rfl⟩ := setM_some hv
  refine h1 (σ.set i (some (.ref p))) C1 H1 e1 (S1.setC a1 a2 (fun d z => by cases z) fun b es z => ?_)
  cases z
  exact ⟨rfl, p, xs, rfl, h0, hC, hH, d1, nm⟩
end
end DL
end Part_DLf

section Part_DLg
set_option Elab.async false
set_option linter.all false
set_option maxRecDepth 100000
set_option autoImplicit false
set_option maxHeartbeats 2000000
namespace DL
open PySem PySem.Spec PyProof.Rows L2 Evl

section
variable {X : Cx} {EC : ECl} {W : WX} {a b c e o : Expr} {es : List Expr} {ma mb mc mo : M D} {mes : M (List D)} {pos p p2 apos : Pos} {tg iter : Expr} {ts us : List Nat} {g g2 : D → Dl → Option Dl} {st : Stmt} {rest sa sb : List Stmt} {m1 m2 m3 : M Fl} {mt : M Bool}
theorem PXs.of {K : PySem.W.Frag} {C0 H0 : Hp} {B : List (Nat × Addr)} {C : Hp} {σ : L2.St} : ∀ c d δ, PXs K EC W C0 H0 B C c d δ → PXe K EC W C0 H0 B C σ c d δ := fun c d δ h v dd C2 H2 e2 S2 z1 z2 => h σ v dd C2 H2 e2 S2 z1 z2
theorem PXs.mono {K : PySem.W.Frag} {C0 H0 : Hp} {B : List (Nat × Addr)} {C C' : Hp} (e : Ex C C') : ∀ c d δ, PXs K EC W C0 H0 B C c d δ → PXs K EC W C0 H0 B C' c d δ := fun c d δ h σ v dd C2 H2 e2 => h σ v dd C2 H2 (e.trans e2)
theorem PKs.mono {K : PySem.W.Frag} {C0 H0 : Hp} {B : List (Nat × Addr)} {C C' : Hp} (e : Ex C C') {N : L2.Ends} : ∀ f δ, PKs K C0 H0 B C N f δ → PKs K C0 H0 B C' N f δ := fun f δ h σ C2 H2 e2 => h σ C2 H2 (e.trans e2)

/-! ### blocks -/
def mSkip : M Fl := fun δ => .ok .nx δ
def mSeq (m m' : M Fl) : M Fl := fun δ => (m δ).bind fun f δ => match f with
  | .nx => m' δ
  | f => .ok f δ
theorem dss_nil : DSs X EC W [] mSkip := ⟨_, pss_nil, fun C0 H0 B C H σ δ N S h => h σ C H (Ex.refl C) S⟩
theorem dss_cons (h1 : DS X EC W st m1) (h2 : DSs X EC W rest m2) : DSs X EC W (st :: rest) (mSeq m1 m2) := by
  obtain ⟨t1, p1, r1⟩ := h1.ex
  obtain ⟨t2, p2, r2⟩ := h2.ex
  refine ⟨_, pss_cons p1 p2, fun C0 H0 B C H σ δ N S h => r1 C0 H0 B C H σ δ _ S (RP.imp (RP.bind h) (fun f δ1 h1 σ1 C1 H1 e1 S1 => ?_) fun c d δ h => h)⟩
  cases f with
  | nx => exact r2 C0 H0 B C1 H1 σ1 δ1 N S1 (RP.imp h1 (PKs.mono e1) (PXs.mono e1))
  | rt d => exact h1 σ1 C1 H1 e1 S1
  | bk => exact h1 σ1 C1 H1 e1 S1
  | ct => exact h1 σ1 C1 H1 e1 S1
theorem dss_one (h1 : DS X EC W st m1) : DSs X EC W [st] m1 := let ⟨t, p, r⟩ := h1.ex; ⟨t, pss_one p, r⟩
/-- the list of a slot is not changed any more -/
def mFrz (i : Nat) (m : M Fl) : M Fl := fun δ => match frz i δ with
  | some δ' => m δ'
  | none => .no
theorem dss_frz {sts : List Stmt} (i : Nat) (h : DSs X EC W sts m1) : DSs X EC W sts (mFrz i m1) := by
  obtain ⟨t, p, r⟩ := h.ex
  refine ⟨t, p, fun C0 H0 B C H σ δ N S h => ?_⟩
  unfold mFrz at h
  split at h
  · rename_i δ' q
    obtain ⟨C2, e2, S2⟩ := S.frz q
    exact r C0 H0 B C2 H σ δ' N S2 (RP.imp h (PKs.mono e2) (PXs.mono e2))
  · exact h.elim
theorem dss_no {sts : List Stmt} : DSs X EC W sts mNo := ⟨_, pss_never, fun C0 H0 B C H σ δ N S h => h⟩
theorem ds_no : DS X EC W st mNo := ⟨_, ps_never, fun C0 H0 B C H σ δ N S h => h⟩
theorem ds_pass : DS X EC W (.Pass pos) mSkip := ⟨_, ps_pass, fun C0 H0 B C H σ δ N S h => h σ C H (Ex.refl C) S⟩
def mBk : M Fl := fun δ => .ok .bk δ
def mCt : M Fl := fun δ => .ok .ct δ
theorem ds_break : DS X EC W (.Break pos) mBk := ⟨_, ps_break, fun C0 H0 B C H σ δ N S h => h σ C H (Ex.refl C) S⟩
theorem ds_cont : DS X EC W (.Continue pos) mCt := ⟨_, ps_continue, fun C0 H0 B C H σ δ N S h => h σ C H (Ex.refl C) S⟩
def mRet (a : M D) : M Fl := fun δ => (a δ).bind fun d δ => .ok (.rt d) δ
theorem ds_ret (h : DE X EC W e ma) : DS X EC W (.Return (some e) pos) (mRet ma) := by
  obtain ⟨t, p, r⟩ := h.ex
  exact ⟨_, ps_ret p, fun C0 H0 B C H σ δ N S h => r C0 H0 B C H σ δ _ S (RP.imp (RP.bind h) (fun d δ1 h1 v C1 H1 e1 S1 d1 => h1 σ C1 H1 e1 S1 v d1) PXs.of)⟩
def mIf (t : M Bool) (m m' : M Fl) : M Fl := fun δ => (t δ).bind fun b δ => if b then m δ else m' δ
theorem ds_if (hc : DT X EC W c mt) (h1 : DSs X EC W sa m1) (h2 : DSs X EC W sb m2) : DS X EC W (.If c sa sb pos) (mIf mt m1 m2) := by
  obtain ⟨t0, p0, r0⟩ := hc.ex
  obtain ⟨t1, p1, r1⟩ := h1.ex
  obtain ⟨t2, p2, r2⟩ := h2.ex
  refine ⟨_, ps_if p0 p1 p2, fun C0 H0 B C H σ δ N S h => r0 C0 H0 B C H σ δ _ S (RP.imp (RP.bind h) (fun k δ1 h1 C1 H1 e1 S1 => ?_) PXs.of)⟩
  cases k with
  | true => exact r1 C0 H0 B C1 H1 σ δ1 N S1 (RP.imp h1 (PKs.mono e1) (PXs.mono e1))
  | false => exact r2 C0 H0 B C1 H1 σ δ1 N S1 (RP.imp h1 (PKs.mono e1) (PXs.mono e1))
def mAsg (g : D → Dl → Option Dl) (a : M D) : M Fl := fun δ => (a δ).bind fun d δ => match g d δ with
  | some δ' => .ok .nx δ'
  | none => .no
theorem ds_asg (h : DE X EC W e ma) (hg : DG X tg ts g) (hs : swapsWithSole [tg] e pos.line X.env = pure false := by rfl) (hw : swappedStores [tg] e X.env = pure none := by rfl)
    (h1 : (assignEach [tg] X.env).map (·.2) = [assign tg X.env] := by rfl) : DS X EC W (.Assign [tg] e pos) (mAsg g ma) := by
  obtain ⟨t, p, r⟩ := h.ex
  obtain ⟨t2, p2, r2⟩ := hg.ex
  refine ⟨_, ps_asg p p2 hs hw h1, fun C0 H0 B C H σ δ N S h => r C0 H0 B C H σ δ _ S (RP.imp (RP.bind h) (fun d δ1 h1 v C1 H1 e1 S1 d1 => ?_) PXs.of)⟩
  split at h1
  · rename_i δ' q
    exact r2 C0 H0 B C1 H1 σ δ1 δ' v d _ S1 d1 q fun σ' S2 _ => h1 σ' C1 H1 e1 S2
  · exact h1.elim
theorem ds_set (i : Nat) {x : Str} {pos' : Pos} (hN : X.N.Nodup) (h : DE X EC W e ma) (hi : X.N[i]? = some x := by rfl) (hx : Loc X.env.scope x := by first | exact Or.inl rfl | exact Or.inr rfl) (hs : swapsWith e (some (.Name x pos')) pos.line X.env = pure false := by rfl)
    (hf : X.fn x = true ∨ X.env.scope.names.lookup x = some .local := by first | exact .inl rfl | exact .inr rfl) : DS X EC W (.Assign [.Name x pos'] e pos) (mAsg (setV i) ma) := by
  obtain ⟨t, p, r⟩ := h.ex
  refine ⟨_, ps_set hN hi hx p hs hf, fun C0 H0 B C H σ δ N S h => r C0 H0 B C H σ δ _ S (RP.imp (RP.bind h) (fun d δ1 h1 v C1 H1 e1 S1 d1 => ?_) PXs.of)⟩
  split at h1
  · rename_i δ' q
    exact h1 _ C1 H1 e1 (S1.set q d1)
  · exact h1.elim
theorem ds_setM (i : Nat) {x : Str} {pos' : Pos} {ml : M (List D)} (hN : X.N.Nodup) (h : DL' X EC W e ml) (hi : X.N[i]? = some x := by rfl) (hx : Loc X.env.scope x := by first | exact Or.inl rfl | exact Or.inr rfl) (hs : swapsWith e (some (.Name x pos')) pos.line X.env = pure false := by rfl)
    (hf : X.fn x = true ∨ X.env.scope.names.lookup x = some .local := by first | exact .inl rfl | exact .inr rfl) : DS X EC W (.Assign [.Name x pos'] e pos) (mSetM i ml) := by
  obtain ⟨t, p, r⟩ := h.ex
  exact ⟨_, ps_set hN hi hx p hs hf, set_readM r⟩
/-- name = [.. for ..] on one line -/
theorem ds_setLc (i : Nat) {y : Str} {py : Pos} {elt tg iter : Expr} {ifs : List Expr} {scope : Scope} {own : List (Str × Nat)} {pos spos : Pos} {mi : M (List D)} {ts : List Nat} {g : D → Dl → Option Dl} {mt : M Bool} {me : M D} {W0 : WX} (hc : X.calm = true) (hN : X.N.Nodup) (hy : X.N[i]? = some y) (hyl : X.env.scope.names.lookup y = some .local)
    (hsw : swapsWith (.ListComp elt [⟨tg, iter, ifs, 0⟩] scope pos) (some (.Name y py)) spos.line X.env = pure true) (hi : DI X EC W tg iter mi) (ok : BlkOk X.N X.env.scope scope own)
    (hg : ∀ (s : Shared) (H : Hp) (C : Addr) (cl : List (Str × Addr)) (fp : List Addr), DG (X.blk s H scope (compEnvC scope cl C X.env) fp) tg ts g) (hts : ∀ k ∈ ts, k ∈ own.map (·.2))
    (ht : ∀ (s : Shared) (H : Hp) (C : Addr) (cl : List (Str × Addr)) (fp : List Addr), DTs (X.blk s H scope (compEnvC scope cl C X.env) fp) EC W0 ifs mt)
    (he : ∀ (s : Shared) (H : Hp) (C : Addr) (cl : List (Str × Addr)) (fp : List Addr), DE (X.blk s H scope (compEnvC scope cl C X.env) fp) EC W0 elt me) (hs : ∀ x, foldedSetIterable iter X.env x = pure x := by intro _; rfl) :
    DS X EC W (.Assign [.Name y py] (.ListComp elt [⟨tg, iter, ifs, 0⟩] scope pos) spos) (mSetL i (mLcS (own.map (·.2)) mi g mt me)) := by
  obtain ⟨wi, pi, ri⟩ := hi.ex
  exact ⟨_, ps_setLc (g := tGd X.K ts g) (tt := tTd X.K EC W0 mt) (te := tE X.K EC W0 me) hc hN hy hyl hsw pi ok (fun s H C cl fp => (hg s H C cl fp).pg) (fun s H C cl fp => (ht s H C cl fp).ex) (fun s H C cl fp => (he s H C cl fp).pe) hs, set_readL (lc_read hts ri)⟩
theorem ds_setLcM (i : Nat) {y : Str} {py : Pos} {elt tg iter : Expr} {ifs : List Expr} {scope : Scope} {own : List (Str × Nat)} {pos spos : Pos} {mi : M (List D)} {ts : List Nat} {g : D → Dl → Option Dl} {mt : M Bool} {me : M D} {W0 : WX} (hc : X.calm = true) (hN : X.N.Nodup) (hy : X.N[i]? = some y) (hyl : X.env.scope.names.lookup y = some .local)
    (hsw : swapsWith (.ListComp elt [⟨tg, iter, ifs, 0⟩] scope pos) (some (.Name y py)) spos.line X.env = pure true) (hi : DI X EC W tg iter mi) (ok : BlkOk X.N X.env.scope scope own)
    (hg : ∀ (s : Shared) (H : Hp) (C : Addr) (cl : List (Str × Addr)) (fp : List Addr), DG (X.blk s H scope (compEnvC scope cl C X.env) fp) tg ts g) (hts : ∀ k ∈ ts, k ∈ own.map (·.2))
    (ht : ∀ (s : Shared) (H : Hp) (C : Addr) (cl : List (Str × Addr)) (fp : List Addr), DTs (X.blk s H scope (compEnvC scope cl C X.env) fp) EC W0 ifs mt)
    (he : ∀ (s : Shared) (H : Hp) (C : Addr) (cl : List (Str × Addr)) (fp : List Addr), DE (X.blk s H scope (compEnvC scope cl C X.env) fp) EC W0 elt me) (hs : ∀ x, foldedSetIterable iter X.env x = pure x := by intro _; rfl) :
    DS X EC W (.Assign [.Name y py] (.ListComp elt [⟨tg, iter, ifs, 0⟩] scope pos) spos) (mSetM i (mLcS (own.map (·.2)) mi g mt me)) := by
  obtain ⟨wi, pi, ri⟩ := hi.ex
  exact ⟨_, ps_setLc (g := tGd X.K ts g) (tt := tTd X.K EC W0 mt) (te := tE X.K EC W0 me) hc hN hy hyl hsw pi ok (fun s H C cl fp => (hg s H C cl fp).pg) (fun s H C cl fp => (ht s H C cl fp).ex) (fun s H C cl fp => (he s H C cl fp).pe) hs, set_readM (lc_read hts ri)⟩
def mAug (i : Nat) (f : Int → Int → Int) (a : M D) : M Fl := fun δ => match δ[i]? with
  | some (.val (.int x)) => (a δ).bind fun d δ => match d with
    | .int y => match setV i (.int (f x y)) δ with
      | some δ' => .ok .nx δ'
      | none => .no
    | _ => .no
  | _ => .no
theorem ds_aug (i : Nat) {x : Str} {pos' : Pos} {op : Operator} {f : Int → Int → Int} (hN : X.N.Nodup) (h : DE X EC W e ma) (ho : PIp X op (ipI f)) (hi : X.N[i]? = some x := by rfl) (hx : Loc X.env.scope x := by first | exact Or.inl rfl | exact Or.inr rfl)
    (hf : X.fn x = true ∨ X.env.scope.names.lookup x = some .local := by first | exact .inl rfl | exact .inr rfl) : DS X EC W (.AugAssign (.Name x pos') op e pos) (mAug i f ma) := by
  obtain ⟨t, p, r⟩ := h.ex
  refine ⟨_, ps_aug hN hi hx p ho hf, fun C0 H0 B C H σ δ N S h => ?_⟩
  unfold mAug at h
  split at h
  · rename_i y q
    obtain ⟨v, h1, h2⟩ := S.val i _ q
    cases h2
    refine ⟨_, h1, r C0 H0 B C H σ δ _ S (RP.imp (RP.bind h) (fun d δ1 h1 v C1 H1 e1 S1 d1 => ?_) PXs.of)⟩
    split at h1
    · split at h1
      · rename_i δ' q'
        cases d1
        exact ⟨_, _, rfl, rfl, h1 _ C1 H1 e1 (S1.set q' (.int _))⟩
      · exact h1.elim
    · exact h1.elim
  · exact h.elim

/-! ### a list that is changed -/
theorem SR.chg {K : PySem.W.Frag} {C0 H0 C H : Hp} {B : List (Nat × Addr)} {σ : L2.St} {δ : Dl} (S : SR K C0 H0 B C H σ δ) {i : Nat} {b : Bool} {ds : List D} (h : δ[i]? = some (.var b ds)) :
    ∃ l xs, σ[i]? = some (some (.ref l)) ∧ H l = some (.lst xs) ∧ DqAll K C xs ds ∧ C l = none ∧ ∀ ys es, DqAll K C ys es → SR K C0 H0 B C (upd H l (.lst ys)) σ (δ.set i (.var b es)) := by
  have hi : i < δ.length := (List.getElem?_eq_some_iff.mp h).1
  have fin : ∀ l xs, σ[i]? = some (some (.ref l)) → H l = some (.lst xs) → C l = none → (b = false → H0 l = none) → (b = true → (i, l) ∈ B) → ∀ ys es, DqAll K C ys es → SR K C0 H0 B C (upd H l (.lst ys)) σ (δ.set i (.var b es)) := by
    intro l xs h1 h2 h3 h4 h5 ys es hd
    have other : ∀ (k : Nat) (b' : Bool) (fs : List D), k ≠ i → δ[k]? = some (.var b' fs) → ∀ l', σ[k]? = some (some (.ref l')) → l' ≠ l := fun k b' fs hk z l' z' e => by
      subst e
      cases b with
      | false =>
        cases b' with
        | false => exact S.odis k i fs ds hk z h l' z' h1
        | true =>
          obtain ⟨m, hm⟩ := S.btr k fs z
          obtain ⟨_, _, _, w2, _⟩ := S.bor _ hm
          rw [z'] at w2
          cases w2
          exact S.bH0 _ hm (h4 rfl)
      | true =>
        have hb := h5 rfl
        cases b' with
        | false =>
          obtain ⟨m, _, w1, w2, _⟩ := S.own k fs z
          rw [z'] at w1
          cases w1
          exact S.bH0 _ hb w2
        | true =>
          obtain ⟨m, hm⟩ := S.btr k fs z
          obtain ⟨_, _, _, w2, _⟩ := S.bor _ hm
          rw [z'] at w2
          cases w2
          exact hk (S.bd1 _ hm _ hb rfl)
    refine ⟨by rw [List.length_set]; exact S.len, S.c0, fun a u z => ?_, fun a u z hb => ?_, S.nw, fun k d z => ?_, fun k fs z => ?_, fun p hp => ?_, fun k fs z => ?_, S.bd1, S.bd2, S.bH0, fun k j fs gs hkj z1 z2 => ?_⟩
    · rw [upd_ne (ne_of_none z h3)]
      exact S.ch a u z
    · have hn : a ≠ l := fun e => by
        subst e
        cases b with
        | false => rw [h4 rfl] at z; cases z
        | true => exact hb _ (h5 rfl) rfl
      rw [upd_ne hn]
      exact S.fr a u z hb
    · have hn : i ≠ k := fun e => by
        subst e
        rw [List.getElem?_set_self hi] at z
        cases z
      rw [List.getElem?_set_ne hn] at z
      exact S.val k d z
    · by_cases q : i = k
      · subst q
        rw [List.getElem?_set_self hi] at z
        cases z
        exact ⟨l, ys, h1, h4 rfl, h3, upd_same, hd⟩
      · rw [List.getElem?_set_ne q] at z
        obtain ⟨l', xs', w1, w2, w3, w4, w5⟩ := S.own k fs z
        refine ⟨l', xs', w1, w2, w3, ?_, w5⟩
        rw [upd_ne (other k false fs (fun e => q e.symm) z l' w1)]
        exact w4
    · obtain ⟨fs, xs', w1, w2, w3, w4, w5⟩ := S.bor p hp
      by_cases q : i = p.1
      · have e1 : (.var b ds : Cell) = .var true fs := by
          rw [q, w1] at h
          exact (Option.some.inj h).symm
        cases e1
        have e2 : p.2 = l := by
          rw [← q, h1] at w2
          exact (V.ref.inj (Option.some.inj (Option.some.inj w2))).symm
        refine ⟨es, ys, ?_, w2, w3, ?_, hd⟩
        · rw [← q, List.getElem?_set_self hi]
        · rw [e2]
          exact upd_same
      · refine ⟨fs, xs', ?_, w2, w3, ?_, w5⟩
        · rw [List.getElem?_set_ne q]
          exact w1
        · rw [upd_ne (other p.1 true fs (fun e => q e.symm) w1 p.2 w2)]
          exact w4
    · by_cases q : i = k
      · subst q
        rw [List.getElem?_set_self hi] at z
        cases z
        exact ⟨l, h5 rfl⟩
      · rw [List.getElem?_set_ne q] at z
        exact S.btr k fs z
    · by_cases q : i = k
      · subst q
        rw [List.getElem?_set_self hi] at z1
        cases z1
        rw [List.getElem?_set_ne hkj] at z2
        exact S.odis i j ds gs hkj h z2
      · rw [List.getElem?_set_ne q] at z1
        by_cases q' : i = j
        · subst q'
          rw [List.getElem?_set_self hi] at z2
          cases z2
          exact S.odis k i fs ds hkj z1 h
        · rw [List.getElem?_set_ne q'] at z2
          exact S.odis k j fs gs hkj z1 z2
  cases b with
  | false =>
    obtain ⟨l, xs, h1, h2, h3, h4, h5⟩ := S.own i ds h
    exact ⟨l, xs, h1, h4, h5, h3, fin l xs h1 h4 h3 (fun _ => h2) fun z => nomatch z⟩
  | true =>
    obtain ⟨l, hl⟩ := S.btr i ds h
    obtain ⟨ds', xs, h1, h2, h3, h4, h5⟩ := S.bor _ hl
    have h1' : δ[i]? = some (.var true ds') := h1
    rw [h] at h1'
    cases h1'
    exact ⟨l, xs, h2, h4, h5, h3, fin l xs h2 h4 h3 (fun z => nomatch z) fun _ => hl⟩
/-- xs.append(e), xs a list that may be changed -/
def mApp (i : Nat) (a : M D) : M Fl := fun δ => match δ[i]? with
  | some (.var _ _) => (a δ).bind fun d δ => match δ[i]? with
    | some (.var b ds) => if ds.length < LINE then .ok .nx (δ.set i (.var b (ds ++ [d]))) else .no
    | _ => .no
  | _ => .no
theorem ds_app (i : Nat) {x : Str} {px : Pos} (h : DE X EC W e ma) (hN : X.N[i]? = some x := by rfl) (hv : Vis X.env.scope x := by first | exact Or.inl rfl | exact Or.inr (Or.inl rfl) | exact Or.inr (Or.inr rfl)) (hd : (x == ("__debug__" : Str)) = false := by decide) (hcd : (x == ("__classdict__" : Str)) = false := by decide)
    (hbase : attributeBase (.Name x px) "append" X.env (eval (.Name x px) X.env) = eval (.Name x px) X.env := by rfl)
    (hfew : ((backTo pos (starEach (e :: []) X.env)).all (fun x => !x.1) && (backToKw pos (keywordEach [] X.env)).all (fun x => x.1.isSome)
      && decide ((e :: []).length + ([] : List Keyword).length + (if ([] : List Keyword).isEmpty then 0 else 1) < 30)) = true := by rfl)
    (hline : (apos.endLine == pos.line) = true := by rfl) (hs : starEach (e :: []) X.env = (false, eval e X.env) :: starEach [] X.env := by rfl) (hplain : (backTo pos (starEach [] X.env)).any (·.1) = false := by rfl)
    (hsw : swapsWith (.Call (.Attribute (.Name x px) "append" apos) [e] [] pos) none p2.line X.env = pure false := by rfl) :
    DS X EC W (.Expr (.Call (.Attribute (.Name x px) "append" apos) [e] [] pos) p2) (mApp i ma) := by
  obtain ⟨t, p, r⟩ := h.ex
  refine ⟨_, ps_expr (pe_bm PySem.F.plainAttrs_list PySem.F.slot_list_append PySem.F.type_list_append mt_append (pe_var hN hv hd hcd) (pa_cons p pa_nil hs) hbase hfew hline hs hplain) hsw, fun C0 H0 B C H σ δ N S h => ?_⟩
  unfold mApp at h
  split at h
  case h_2 => exact h.elim
  rename_i b0 ds0 hq
  obtain ⟨l0, xs0, k1, k2, k3, k4, _⟩ := S.chg hq
  refine ⟨.ref l0, k1, .inl ⟨rfl, xs0, SqL.of k2⟩, r C0 H0 B C H σ δ _ S (RP.imp (RP.bind h) (fun d δ1 h1 v C1 H1 e1 S1 d1 => ?_) PXs.of)⟩
  split at h1
  case h_2 => exact h1.elim
  rename_i b ds hq1
  split at h1
  case isFalse => exact h1.elim
  rename_i hlen
  obtain ⟨l, xs, w1, w2, w3, w4, w5⟩ := S1.chg hq1
  rw [k1] at w1
  cases w1
  exact ⟨_, xs, v, rfl, rfl, w2, by rw [line_eq, dpa_len w3]; exact hlen, h1 σ C1 _ e1 (w5 _ _ (dpa_app w3 (dpa_one d1)))⟩
/-- xs[i], len(xs), xs a list that may be changed -/
def mIxM (i : Nat) (a : M D) : M D := fun δ => match δ[i]? with
  | some (.var _ _) => (a δ).bind fun d δ => match δ[i]?, d with
    | some (.var _ ds), .int k => R.lift (atI ds k) δ
    | _, _ => .no
  | _ => .no
theorem de_ixM (i : Nat) {x : Str} {px : Pos} (h : DE X EC W e ma) (hN : X.N[i]? = some x := by rfl) (hv : Vis X.env.scope x := by first | exact Or.inl rfl | exact Or.inr (Or.inl rfl) | exact Or.inr (Or.inr rfl)) (hd : (x == ("__debug__" : Str)) = false := by decide) (hcd : (x == ("__classdict__" : Str)) = false := by decide)
    (hs : PlainIx e := by exact fun _ _ => rfl) : DE X EC W (.Subscript (.Name x px) e pos) (mIxM i ma) := by
  obtain ⟨t, p, r⟩ := h.ex
  refine ⟨_, pe_ix ix_list (pe_var hN hv hd hcd) p hs, fun C0 H0 B C H σ δ Q S h => ?_⟩
  unfold mIxM at h
  split at h
  case h_2 => exact h.elim
  rename_i b0 ds0 hq
  obtain ⟨l0, xs0, k1, k2, k3, k4, _⟩ := S.chg hq
  refine ⟨.ref l0, k1, r C0 H0 B C H σ δ _ S (RP.imp (RP.bind h) (fun d δ1 h1 v C1 H1 e1 S1 d1 => ?_) fun _ _ _ z => z)⟩
  split at h1
  case h_2 => exact h1.elim
  rename_i b ds k hq1
  obtain ⟨z, hz, q⟩ := RP.lift h1
  obtain ⟨l, xs, w1, w2, w3, w4, w5⟩ := S1.chg hq1
  rw [k1] at w1
  cases w1
  cases d1
  obtain ⟨u, hu, du⟩ := dpa_atI w3 hz
  exact ⟨_, xs, _, u, rfl, rfl, SqL.of w2, hu, q u C1 H1 e1 S1 du⟩
def mLenM (i : Nat) : M D := fun δ => match δ[i]? with
  | some (.var _ ds) => .ok (.int ds.length) δ
  | _ => .no
theorem de_lenM (i : Nat) {x : Str} {px : Pos} (hg : Gl X "len") (hm : X.mg "len" = none) (hN : X.N[i]? = some x := by rfl) (hv : Vis X.env.scope x := by first | exact Or.inl rfl | exact Or.inr (Or.inl rfl) | exact Or.inr (Or.inr rfl)) (hd : (x == ("__debug__" : Str)) = false := by decide) (hcd : (x == ("__classdict__" : Str)) = false := by decide)
    (he : starEach (Expr.Name x px :: []) X.env = (false, eval (Expr.Name x px) X.env) :: starEach [] X.env := by rfl) (hpl : (backTo pos (starEach [] X.env)).any (·.1) = false := by rfl) : DE X EC W (.Call (.Name "len" p) [.Name x px] [] pos) (mLenM i) := by
  refine ⟨_, pe_callB call_len_seq hg hm PySem.boot_len (pa_cons (pe_var hN hv hd hcd) pa_nil he) (by decide) (by decide) he hpl, fun C0 H0 B C H σ δ Q S h => ?_⟩
  unfold mLenM at h
  split at h
  case h_2 => exact h.elim
  rename_i b0 ds0 hq
  obtain ⟨l0, xs0, k1, k2, k3, k4, _⟩ := S.chg hq
  refine ⟨.ref l0, k1, l0, xs0, rfl, .inl (SqL.of k2), ?_⟩
  rw [dpa_len k3]
  exact h _ C H (Ex.refl C) S (.int _)
/-- xs[i] = e -/
def mSetIx (i : Nat) (a b : M D) : M Fl := fun δ => (a δ).bind fun d δ => match δ[i]? with
  | some (.var _ _) => (b δ).bind fun y δ => match δ[i]?, y with
    | some (.var c ds), .int k => match ixN ds.length k with
      | some j => .ok .nx (δ.set i (.var c (ds.set j d)))
      | none => .no
    | _, _ => .no
  | _ => .no
theorem ds_setIx (i : Nat) {x : Str} {px pt : Pos} (h : DE X EC W e ma) (hb : DE X EC W b mb) (hN : X.N[i]? = some x := by rfl) (hv : Vis X.env.scope x := by first | exact Or.inl rfl | exact Or.inr (Or.inl rfl) | exact Or.inr (Or.inr rfl)) (hd : (x == ("__debug__" : Str)) = false := by decide) (hcd : (x == ("__classdict__" : Str)) = false := by decide)
    (hs1 : ∀ v, assign (.Subscript (.Name x px) b pt) X.env v = (do
      let ov ← holding [v] (eval (.Name x px) X.env)
      let iv ← holding [v, ov] (eval b X.env)
      standAt pt
      holding [v, ov, iv] (setItem ov iv v)
      release [v, ov, iv] []) := by intro _; rfl)
    (hs : swapsWithSole [.Subscript (.Name x px) b pt] e pos.line X.env = pure false := by rfl) (hw : swappedStores [.Subscript (.Name x px) b pt] e X.env = pure none := by rfl)
    (h1 : (assignEach [.Subscript (.Name x px) b pt] X.env).map (·.2) = [assign (.Subscript (.Name x px) b pt) X.env] := by rfl) : DS X EC W (.Assign [.Subscript (.Name x px) b pt] e pos) (mSetIx i ma mb) := by
  obtain ⟨t, p, r⟩ := h.ex
  obtain ⟨t2, p2, r2⟩ := hb.ex
  refine ⟨_, ps_asg p (pg_sub (pe_var hN hv hd hcd) p2 set_list hs1) hs hw h1, fun C0 H0 B C H σ δ N S h => r C0 H0 B C H σ δ _ S (RP.imp (RP.bind h) (fun d δ1 h1 v C1 H1 e1 S1 d1 => ?_) PXs.of)⟩
  split at h1
  case h_2 => exact h1.elim
  rename_i b0 ds0 hq
  obtain ⟨l0, xs0, k1, k2, k3, k4, _⟩ := S1.chg hq
  refine ⟨.ref l0, k1, r2 C0 H0 B C1 H1 σ δ1 _ S1 (RP.imp (RP.bind h1) (fun y δ2 h2 w C2 H2 e2 S2 d2 => ?_) fun c d δ z => PXe.mono e1 _ _ _ (PXs.of c d δ z))⟩
  split at h2
  case h_2 => exact h2.elim
  rename_i b ds k hq1
  split at h2
  case h_2 => exact h2.elim
  rename_i j hj
  obtain ⟨l, xs, w1, w2, w3, w4, w5⟩ := S2.chg hq1
  rw [k1] at w1
  cases w1
  cases d2
  exact ⟨_, xs, k, j, rfl, rfl, w2, by rw [dpa_len w3]; exact hj, h2 σ C2 _ (e1.trans e2) (w5 _ _ (dpa_set (dp_ex e2 _ _ d1) j w3))⟩

/-! ### loops -/
def mFor (g : D → Dl → Option Dl) (body : M Fl) : List D → M Fl
  | [], δ => .ok .nx δ
  | x :: xs, δ => match g x δ with
    | none => .no
    | some δ1 => (body δ1).bind fun f δ2 => match f with
      | .nx => mFor g body xs δ2
      | .ct => mFor g body xs δ2
      | .bk => .ok .nx δ2
      | .rt d => .ok (.rt d) δ2
def mForS (it : M (List D)) (g : D → Dl → Option Dl) (body : M Fl) : M Fl := fun δ => (it δ).bind fun xs δ => mFor g body xs δ
theorem ds_for (hp : PassesOwn (model X.prog X.w) X.A X.env X.xe) (hc : X.calm = true) {mi : M (List D)} (hi : DI X EC W tg iter mi) (hg : DG X tg ts g) (hb : DSs X EC W sa m1) (hs : ∀ x, foldedSetIterable iter X.env x = pure x := by intro _; rfl) :
    DS X EC W (.For tg iter sa [] pos) (mForS mi g m1) := by
  obtain ⟨wi, pi, ri⟩ := hi.ex
  obtain ⟨tg', pg, rg⟩ := hg.ex
  obtain ⟨tb, pb, rb⟩ := hb.ex
  refine ⟨_, ps_for hp hc pi pg pb hs, fun C0 H0 B C H σ δ N S h => ri C0 H0 B C H σ δ _ S (RP.imp (RP.bind h) (fun items δ1 h1 J C1 H1 e1 S1 it => ?_) PXs.of)⟩
  obtain ⟨G, Y, wk, hG, hY⟩ := it.ex
  refine for_it wk (fun i σ' H' => ∃ C' δ', Ex C1 C' ∧ SR X.K C0 H0 B C' H' σ' δ' ∧ RP (mFor g m1 (items.drop i) δ') (PKs X.K C0 H0 B C1 N) (PXs X.K EC W C0 H0 B C1)) ⟨C1, δ1, Ex.refl _, S1, RP.imp h1 (PKs.mono e1) (PXs.mono e1)⟩ (fun i σ' H' _ ⟨C', δ', e2, S2, _⟩ => hG H' (e2.trans S2.ch)) ?_ ?_
  · rintro i x σ2 H2 H3 hi ⟨C', δ', e2, S2, q⟩ y
    have hdrop : items.drop i = items[i] :: items.drop (i + 1) := List.drop_eq_getElem_cons hi
    have hget : items[i]? = some items[i] := List.getElem?_eq_getElem hi
    rw [hdrop] at q
    unfold mFor at q
    refine hY i _ hget C' H2 x H3 (fun x H3 => tg' x σ2 H3 _) e2 S2.ch y (rs_of (C0 := C0) (H0 := H0) (B := B) (σ := σ2) (δ := δ') S2 fun v C3 H3 e3 S3 d3 => ?_)
    cases hg1 : g items[i] δ' with
    | none => rw [hg1] at q; exact q.elim
    | some δ4 =>
      rw [hg1] at q
      refine rg C0 H0 B C3 H3 σ2 δ' δ4 v _ _ S3 d3 hg1 fun σ4 S4 _ => rb C0 H0 B C3 H3 σ4 δ4 _ S4 (RP.imp (RP.bind q) (fun f δ5 h5 σ5 C5 H5 e5 S5 => ?_) (PXs.mono (e2.trans e3)))
      cases f with
      | nx => exact ⟨C5, δ5, (e2.trans e3).trans e5, S5, h5⟩
      | ct => exact ⟨C5, δ5, (e2.trans e3).trans e5, S5, h5⟩
      | bk => exact h5 σ5 C5 H5 ((e2.trans e3).trans e5) S5
      | rt d => exact h5 σ5 C5 H5 ((e2.trans e3).trans e5) S5
  · rintro σ2 H2 ⟨C', δ', e2, S2, q⟩
    rw [List.drop_length] at q
    exact q σ2 C' H2 e2 S2
def mWhile (t : M Bool) (body : M Fl) : Nat → M Fl
  | 0, _ => .no
  | n + 1, δ => (t δ).bind fun b δ1 => if b then (body δ1).bind fun f δ2 => match f with
      | .nx => mWhile t body n δ2
      | .ct => mWhile t body n δ2
      | .bk => .ok .nx δ2
      | .rt d => .ok (.rt d) δ2
    else .ok .nx δ1
open Classical in
noncomputable def mWhileS (t : M Bool) (body : M Fl) : M Fl := fun δ => if h : ∃ n, mWhile t body n δ ≠ .no then mWhile t body h.choose δ else .no
theorem bind_ne {α β : Type} {r : R α} {f : α → Dl → R β} (h : r.bind f ≠ .no) : r ≠ .no := fun e => h (by rw [e]; rfl)
theorem mWhile_succ (t : M Bool) (body : M Fl) : ∀ n δ, mWhile t body n δ ≠ .no → mWhile t body (n + 1) δ = mWhile t body n δ
  | 0, δ, h => absurd rfl h
  | n + 1, δ, h => by
    unfold mWhile at h ⊢
    cases q : t δ with
    | no => rfl
    | ex c d δ' => rfl
    | ok b δ1 =>
      rw [q] at h
      cases b with
      | false => rfl
      | true =>
        simp only [R.bind, if_true] at h ⊢
        cases q2 : body δ1 with
        | no => rfl
        | ex c d δ' => rfl
        | ok f δ2 =>
          rw [q2] at h
          cases f with
          | nx => exact mWhile_succ t body n δ2 h
          | ct => exact mWhile_succ t body n δ2 h
          | bk => rfl
          | rt d => rfl
theorem mWhile_add (t : M Bool) (body : M Fl) (n : Nat) (δ : Dl) (h : mWhile t body n δ ≠ .no) : ∀ k, mWhile t body (n + k) δ = mWhile t body n δ
  | 0 => rfl
  | k + 1 => by
    have ih := mWhile_add t body n δ h k
    show mWhile t body ((n + k) + 1) δ = _
    rw [mWhile_succ t body (n + k) δ (by rw [ih]; exact h), ih]
theorem mWhileS_eq {t : M Bool} {body : M Fl} {n : Nat} {δ : Dl} (h : mWhile t body n δ ≠ .no) : mWhileS t body δ = mWhile t body n δ := by
  have hx : ∃ n, mWhile t body n δ ≠ .no := ⟨n, h⟩
  unfold mWhileS
  rw [dif_pos hx]
  have hc := hx.choose_spec
  rcases Nat.le_total n hx.choose with l | l
  · obtain ⟨k, e⟩ := Nat.le.dest l
    rw [← e]
    exact mWhile_add t body n δ h k
  · obtain ⟨k, e⟩ := Nat.le.dest l
    rw [← e]
    exact (mWhile_add t body _ δ hc k).symm
theorem ds_while (hp : PassesOwn (model X.prog X.w) X.A X.env X.xe) (hc : DT X EC W c mt) (hb : DSs X EC W sa m1) : DS X EC W (.While c sa [] pos) (mWhileS mt m1) := by
  obtain ⟨tc, pc, rc⟩ := hc.ex
  obtain ⟨tb, pb, rb⟩ := hb.ex
  refine ⟨_, ps_while hp pc pb, fun C0 H0 B C H σ δ N S h => ?_⟩
  unfold mWhileS at h
  split at h
  case isFalse => exact h.elim
  rename_i hx
  refine ⟨fun n σ' H' => ∃ C' δ', Ex C C' ∧ SR X.K C0 H0 B C' H' σ' δ' ∧ RP (mWhile mt m1 n δ') (PKs X.K C0 H0 B C N) (PXs X.K EC W C0 H0 B C), ⟨_, C, δ, Ex.refl C, S, h⟩, ?_⟩
  rintro n σ2 H2 ⟨C', δ', e2, S2, q⟩
  cases n with
  | zero => exact q.elim
  | succ n =>
    unfold mWhile at q
    refine rc C0 H0 B C' H2 σ2 δ' _ S2 (RP.imp (RP.bind q) (fun b δ3 h3 C3 H3 e3 S3 => ?_) fun c d δ z => PXs.of c d δ (PXs.mono e2 c d δ z))
    cases b with
    | false => exact h3 σ2 C3 H3 (e2.trans e3) S3
    | true =>
      refine ⟨fun σ' H' => ∃ C' δ', Ex C C' ∧ SR X.K C0 H0 B C' H' σ' δ' ∧ RP (mWhile mt m1 n δ') (PKs X.K C0 H0 B C N) (PXs X.K EC W C0 H0 B C), fun σ' H' z => ⟨n, Nat.lt_succ_self n, z⟩, ?_⟩
      refine rb C0 H0 B C3 H3 σ2 δ3 _ S3 (RP.imp (RP.bind h3) (fun f δ4 h4 σ4 C4 H4 e4 S4 => ?_) (PXs.mono (e2.trans e3)))
      cases f with
      | nx => exact ⟨C4, δ4, (e2.trans e3).trans e4, S4, h4⟩
      | ct => exact ⟨C4, δ4, (e2.trans e3).trans e4, S4, h4⟩
      | bk => exact h4 σ4 C4 H4 ((e2.trans e3).trans e4) S4
      | rt d => exact h4 σ4 C4 H4 ((e2.trans e3).trans e4) S4

/-! ### defs -/
/-- what a def gives of data; n: how many slots it has -/
def mDef (n : Nat) (body : M Fl) (ds : List D) : R D := (body (ds.map .val ++ List.replicate (n - ds.length) .non)).bind fun f _ => match f with
  | .rt d => .ok d []
  | .nx => .ok .none []
  | _ => .no
def SpP (K : PySem.W.Frag) (n : Nat) (mf : List D → R D) : Sp := fun vs H Q _ => ∃ C ds, Ex C H ∧ DqAll K C vs ds ∧ vs.length = n ∧
  RP (mf ds) (fun d _ => ∀ v C2 H2, Ex C C2 → Ex H H2 → Ex C2 H2 → (∀ a, H a ≠ none → C a = none → C2 a = none) → Dq K C2 v d → Q v H2) fun _ _ _ => False
end
theorem start_sr {K : PySem.W.Frag} {C H : Hp} {N : List Str} {vs : List V} {ds : List D} (e : Ex C H) (h : DqAll K C vs ds) : SR K C H [] C H (L2.start N vs) (ds.map .val ++ List.replicate (N.length - ds.length) .non) := by
  have hl := dpa_len h
  have nov : ∀ {i : Nat} {b : Bool} {es : List D}, (ds.map Cell.val ++ List.replicate (N.length - ds.length) .non)[i]? ≠ some (.var b es) := fun {i b es} z => by
    have m := List.mem_of_getElem? z
    rcases List.mem_append.mp m with m | m
    · obtain ⟨d, _, q⟩ := List.mem_map.mp m
      cases q
    · have := List.eq_of_mem_replicate m
      cases this
  refine ⟨?_, Ex.refl C, e, fun a o z _ => z, fun a _ z => z, fun i d z => ?_, fun i es z => absurd z nov, fun p hp => (by cases hp), fun i es z => absurd z nov, fun p hp => (by cases hp), fun p hp => (by cases hp), fun p hp => (by cases hp), fun i j es fs _ z => absurd z nov⟩
  · unfold L2.start
    simp [hl]
  · have hi : i < ds.length := by
      rcases Nat.lt_or_ge i ds.length with h | h
      · exact h
      · rw [List.getElem?_append_right (by simpa using h)] at z
        have := List.eq_of_mem_replicate (List.mem_of_getElem? z)
        cases this
    rw [List.getElem?_append_left (by simpa using hi), List.getElem?_map] at z
    cases q : ds[i]? with
    | none => rw [q] at z; cases z
    | some d' =>
      rw [q] at z
      cases z
      obtain ⟨v, h1, h2⟩ := dpa_get h q
      refine ⟨v, ?_, h2⟩
      unfold L2.start
      rw [List.getElem?_append_left (by simpa [hl] using hi), List.getElem?_map, h1]
      rfl
section
variable {P : Program} {w : World} {K : PySem.W.Frag} {mg : Str → Option Value} {base : Heap}
/-- THE RULE of a def that no exception leaves -/
theorem def_ok {x qual : Str} {st : Stmt} {f : Addr} {fd : FuncData} {N ps : List Str} {k : Nat} {EC : ECl} {m : M Fl} (F : Fun K x qual st f fd) (S : FnScope N ps (defScope st))
    (hb : ∀ (cdv : Value) (A : Around) (outer : List Env) (s : Shared) (H : Hp) (E : XK), Room k (A.deeper (envOfC qual (defScope st) s.heap.objs.size f cdv)) →
      DSs (cxOf CX0 P w K mg base N qual (defScope st) f cdv A outer s H E).nox EC (fun _ _ _ _ => False) (defBody st) m) : FnOk P w K mg base CX0 (k + 1) f fd ps (SpP K ps.length (mDef N.length m)) := by
  refine F.ok S (fun vs H Q E h => ?_) (fun cdv A outer s H vs Q E hr h => ?_)
  · obtain ⟨C, ds, _, _, hl, _⟩ := h
    exact hl
  · obtain ⟨C, ds, e, hd, hl, q⟩ := h
    obtain ⟨t, p, r⟩ := (hb cdv A outer s H E hr).ex
    refine ⟨t, p, r C H [] C H (L2.start N vs) _ _ (start_sr e hd) (RP.imp (RP.bind q) (fun f δ h1 σ C2 H2 e2 S2 => ?_) fun c d δ z => z.elim)⟩
    have n2 : ∀ a, H a ≠ none → C a = none → C2 a = none := S2.nw
    have eH : Ex H H2 := fun a o z => S2.fr a o z fun p hp => by cases hp
    cases f with
    | nx => exact h1 .non C2 H2 e2 eH S2.ch n2 .non
    | rt d => exact fun v hv => h1 v C2 H2 e2 eH S2.ch n2 hv
    | bk => exact h1.elim
    | ct => exact h1.elim
end
section
variable {X : Cx} {EC : ECl} {W : WX} {e : Expr} {es : List Expr} {mes : M (List D)} {pos p : Pos} {k : Nat} {f : Addr} {fd : FuncData} {ps : List Str} {n : Nat} {mf : List D → R D} {x : Str}
def mCallF (mf : List D → R D) (a : M (List D)) : M D := fun δ => (a δ).bind fun ds δ => match mf ds with
  | .ok d _ => .ok d δ
  | _ => .no
theorem de_call (F : FnOk X.prog X.w X.K X.mg X.base CX0 k f fd ps (SpP X.K n mf)) (hr : Room k X.A) (hn : es.length + 1 = n) (hm : X.mg x = some (.ref f)) (hk : PySem.W.keepIn X.K (.ref f) = true) (hb : Binds X.K fd ps []) (ha : DA X EC W (e :: es) mes) (hg : Gl X x := by rfl)
    (hdb : (x == ("__debug__" : Str)) = false := by decide) (he : starEach (e :: es) X.env = (false, eval e X.env) :: starEach es X.env := by rfl) (hpl : (backTo pos (starEach es X.env)).any (·.1) = false := by rfl) : DE X EC W (.Call (.Name x p) (e :: es) [] pos) (mCallF mf mes) := by
  obtain ⟨t, pa, ra⟩ := ha.ex
  refine ⟨_, pe_call (dvs := []) (ds := []) F hr hg hm hk hb .nil pass0 pa hdb he hpl, fun C0 H0 B C H σ δ Q S h => ?_⟩
  have hb := RP.bind h
  refine ra C0 H0 B C H σ δ _ S ?_
  cases q : mes δ with
  | no => rw [q] at hb; exact hb.elim
  | ex c d δ' => rw [q] at hb; exact hb
  | ok ds δ1 =>
    rw [q] at hb
    have hl := ha.len δ ds δ1 q
    intro vs C1 H1 e1 S1 d1
    refine ⟨C1, ds, S1.ch, by rw [List.append_nil]; exact d1, by rw [List.append_nil, dpa_len d1, hl]; exact hn, ?_⟩
    have hb : RP (match mf ds with | .ok d _ => R.ok d δ1 | _ => .no) (PKe X.K C0 H0 B C σ Q) (PXe X.K EC W C0 H0 B C σ) := hb
    cases q2 : mf ds with
    | no => rw [q2] at hb; exact hb.elim
    | ex c d δ' => rw [q2] at hb; exact hb.elim
    | ok d δ2 =>
      rw [q2] at hb
      intro v C2 H2 e2 e3 e4 n2 dv
      exact hb v C2 H2 (e1.trans e2) (S1.step e2 e3 e4 n2) dv
end
end DL
end Part_DLg

section Part_DLh
set_option Elab.async false
set_option linter.all false
set_option maxRecDepth 100000
set_option autoImplicit false
set_option maxHeartbeats 2000000
namespace DL
open PySem PySem.Spec PyProof.Rows L2 Evl

/-! ### defs by name -/
/-- the def st stands at the name x -/
structure FunX (K : PySem.W.Frag) (mg : Str → Option Value) (x : Str) (st : Stmt) (ps : List Str) : Prop where
  ex : ∃ f fd, Fun K x x st f fd ∧ mg x = some (.ref f) ∧ ∀ (s : Shared) (us : List Value), us.length = ps.length → BindsTo s fd ⟨us, []⟩ (ps.zip us)
theorem binds_of {K : PySem.W.Frag} {fd : FuncData} {ps : List Str} (h : ∀ (s : Shared) (us : List Value), us.length = ps.length → BindsTo s fd ⟨us, []⟩ (ps.zip us)) : Binds K fd ps [] := fun s us _ hl => by
  rw [List.append_nil] at hl ⊢
  exact h s us hl
/-- .. and does what the mirror mf says -/
structure FnX (P : Program) (w : World) (K : PySem.W.Frag) (mg : Str → Option Value) (base : Heap) (k : Nat) (x : Str) (n : Nat) (mf : List D → R D) : Prop where
  ex : ∃ f fd ps, FnOk P w K mg base CX0 k f fd ps (SpP K n mf) ∧ mg x = some (.ref f) ∧ PySem.W.keepIn K (.ref f) = true ∧ Binds K fd ps []
section
variable {P : Program} {w : World} {K : PySem.W.Frag} {mg : Str → Option Value} {base : Heap}
theorem def_okX {x : Str} {st : Stmt} {N ps : List Str} {k : Nat} {EC : ECl} {m : M Fl} (F : FunX K mg x st ps) (S : FnScope N ps (defScope st))
    (hb : ∀ (f : Addr) (cdv : Value) (A : Around) (outer : List Env) (s : Shared) (H : Hp) (E : XK), Room k (A.deeper (envOfC x (defScope st) s.heap.objs.size f cdv)) →
      DSs (cxOf CX0 P w K mg base N x (defScope st) f cdv A outer s H E).nox EC (fun _ _ _ _ => False) (defBody st) m) : FnX P w K mg base (k + 1) x ps.length (mDef N.length m) := by
  obtain ⟨f, fd, F, hg, hbi⟩ := F.ex
  exact ⟨f, fd, ps, def_ok F S fun cdv A outer s H E hr => hb f cdv A outer s H E hr, hg, F.kp, binds_of hbi⟩
theorem funX_mk {h : Heap} {x : Str} {st : Stmt} {ps : List Str} {f : Addr} {oc : Value} {od an : Option Addr} {osl : Array (Option Value)} {kV doc pm cdv ct : Value} (X : K.In h) (G : h.Ns mainGlobals mg) (a : PySem.W.nsIn K mainGlobals x = some (some (.ref f)))
    (l : K.lookup f = some ⟨oc, od, .func (PySem.W.fnOf x x (defArgs st) (defBody st) (defScope st) .none kV doc pm an cdv ct), osl⟩) (c : PySem.W.codeIn K cdv x = true) (k : PySem.W.keepIn K (.ref f) = true)
    (hb : ∀ (kV doc pm : Value) (an : Option Addr) (cdv ct : Value) (us : List Value), us.length = ps.length → bindArgs (PySem.W.fnOf x x (defArgs st) (defBody st) (defScope st) .none kV doc pm an cdv ct) ⟨us, []⟩ = pure (ps.zip us)) : FunX K mg x st ps := by
  have F := fun_mk (st := st) l c k
  exact ⟨f, _, F, PySem.W.mg_of X G a, fun s us hl => .of_eq (hb _ _ _ _ _ _ us hl)⟩
/-- a constant of the module -/
structure ConX (K : PySem.W.Frag) (mg : Str → Option Value) (x : Str) (d : D) : Prop where
  ex : ∃ v u, mg x = some u ∧ RelV v u ∧ ∀ C, Dq K C v d
theorem con_int {h : Heap} {x : Str} {i : Int} {t : Tok} (X : K.In h) (G : h.Ns mainGlobals mg) (a : PySem.W.nsIn K mainGlobals x = some (some (.int i t))) : ConX K mg x (.int i) := ⟨.int i, _, PySem.W.mg_of X G a, ⟨t, rfl⟩, fun _ => .int i⟩
theorem con_str {h : Heap} {x z : Str} {t : Tok} (X : K.In h) (G : h.Ns mainGlobals mg) (a : PySem.W.nsIn K mainGlobals x = some (some (.str z t))) : ConX K mg x (.str z) := ⟨.str z, _, PySem.W.mg_of X G a, ⟨t, rfl⟩, fun _ => .str z⟩
/-- values that are data by themselves -/
def flatU : Value → Option D
  | .none => some .none
  | .bool b => some (.bool b)
  | .int i _ => some (.int i)
  | .str s _ => some (.str s)
  | _ => none
theorem flatU_ok {u : Value} {d : D} (h : flatU u = some d) : ∃ v, RelV v u ∧ ∀ (K : PySem.W.Frag) C, Dq K C v d := by
  cases u <;> first | (cases h; done) | skip
  · cases h; exact ⟨.non, rfl, fun _ _ => .non⟩
  · rename_i b; cases h; exact ⟨.bl b, rfl, fun _ _ => .bl b⟩
  · rename_i i t; cases h; exact ⟨.int i, ⟨t, rfl⟩, fun _ _ => .int i⟩
  · rename_i s t; cases h; exact ⟨.str s, ⟨t, rfl⟩, fun _ _ => .str s⟩
def flatsU : List Value → Option (List D)
  | [] => some []
  | u :: us => match flatU u, flatsU us with
    | some d, some ds => some (d :: ds)
    | _, _ => none
theorem flatsU_ok : ∀ {us : List Value} {ds : List D}, flatsU us = some ds → ∃ vs, Vals vs us ∧ ∀ (K : PySem.W.Frag) C, DqAll K C vs ds
  | [], _, h => by cases h; exact ⟨[], .nil, fun _ _ => .nil⟩
  | u :: us, ds, h => by
    unfold flatsU at h
    split at h
    · rename_i d ds' h1 h2
      cases h
      obtain ⟨v, r, q⟩ := flatU_ok h1
      obtain ⟨vs, rs, qs⟩ := flatsU_ok h2
      exact ⟨v :: vs, .cons r rs, fun K C => .cons (q K C) (qs K C)⟩
    · cases h
theorem con_tup {h : Heap} {x : Str} {a : Addr} {dd : Option Addr} {us : List Value} {n : Nat} {sl : Array (Option Value)} {ds : List D} (X : K.In h) (G : h.Ns mainGlobals mg) (e : PySem.W.nsIn K mainGlobals x = some (some (.ref a)))
    (l : K.lookup a = some ⟨.type "tuple", dd, .seq us.toArray n, sl⟩) (hd : flatsU us = some ds) (hz : us.length ≤ 100000 := by decide) : ConX K mg x (.tuple ds) := by
  obtain ⟨vs, r, q⟩ := flatsU_ok hd
  exact ⟨.ref a, _, PySem.W.mg_of X G e, rfl, fun C => .tup (.inr ⟨_, us.toArray, n, l, rfl, rfl, sz_of (by simpa using hz), by simpa using r⟩) (q K C)⟩
end
section
variable {X : Cx} {EC : ECl} {W : WX} {e : Expr} {es : List Expr} {mes : M (List D)} {pos p : Pos} {k n : Nat} {mf : List D → R D} {x : Str} {d : D}
theorem de_callX (F : FnX X.prog X.w X.K X.mg X.base k x n mf) (hr : Room k X.A) (ha : DA X EC W (e :: es) mes) (hn : es.length + 1 = n := by rfl) (hg : Gl X x := by rfl)
    (hdb : (x == ("__debug__" : Str)) = false := by decide) (he : starEach (e :: es) X.env = (false, eval e X.env) :: starEach es X.env := by rfl) (hpl : (backTo pos (starEach es X.env)).any (·.1) = false := by rfl) :
    DE X EC W (.Call (.Name x p) (e :: es) [] pos) (mCallF mf mes) := by
  obtain ⟨f, fd, ps, F, hm, hk, hb⟩ := F.ex
  exact de_call F hr hn hm hk hb ha hg hdb he hpl
theorem de_callX0 (F : FnX X.prog X.w X.K X.mg X.base k x 0 mf) (hr : Room k X.A) (hg : Gl X x := by rfl)
    (hdb : (x == ("__debug__" : Str)) = false := by decide) : DE X EC W (.Call (.Name x p) [] [] pos) (mCallF mf mNil) := by
  obtain ⟨f, fd, ps, F, hm, hk, hb⟩ := F.ex
  refine ⟨_, pe_call0 (dvs := []) (ds := []) F hr hg hm hk hb .nil pass0 hdb, fun C0 H0 B C H σ δ Q S h => ?_⟩
  refine ⟨C, [], S.ch, .nil, rfl, ?_⟩
  have h : RP (match mf [] with | .ok d _ => R.ok d δ | _ => .no) (PKe X.K C0 H0 B C σ Q) (PXe X.K EC W C0 H0 B C σ) := h
  cases q2 : mf [] with
  | no => rw [q2] at h; exact h.elim
  | ex c d δ' => rw [q2] at h; exact h.elim
  | ok d δ2 =>
    rw [q2] at h
    intro v C2 H2 e2 e3 e4 n2 dv
    exact h v C2 H2 e2 (S.step e2 e3 e4 n2) dv
theorem de_conX (h : ConX X.K X.mg x d) (hg : Gl X x := by rfl) (hdb : (x == ("__debug__" : Str)) = false := by decide) : DE X EC W (.Name x pos) (mC d) := by
  obtain ⟨v, u, hm, r, hd⟩ := h.ex
  exact de_glob hg hm r hd hdb
end
/-! ### the end -/
theorem walk_law {l : PySem.W.OpenLaw} {k : Nat} {q : Program} {loose : List Str} {XP : (Str → Option Value) → Heap → Prop} {YP : World → Heap → Prop} {d : DefRec} {K : Params → PySem.W.Frag} {m : M Fl} {st : Stmt} {N : List Str} {EC : ECl} (hn : l.most = some 63) (hdf : d.params.defaults = []) (hname : d.name = "law")
    (hr : Room (k + 1) callerA) (hY : ∀ (w : World) (h : Heap), YP w h → (K w.params).In h) (S : FnScope N ["script"] (defScope st))
    (F : ∀ (w : World) (mg : Str → Option Value) (h : Heap), (K w.params).In h → h.Ns mainGlobals mg →
      FunX (K w.params) mg "law" st ["script"] ∧ ∀ (base : Heap) (f : Addr) (cdv : Value) (A : Around) (outer : List Env) (s : Shared) (H : Hp) (E : XK), Room k (A.deeper (envOfC "law" (defScope st) s.heap.objs.size f cdv)) →
      DSs (cxOf CX0 l.prog w (K w.params) mg base N "law" (defScope st) f cdv A outer s H E).nox EC (fun _ _ _ _ => False) (defBody st) m)
    (hsp : ∀ ns : List Int, ns.length ≤ 63 → ∃ δ, mDef N.length m [.list (ns.map .int)] = .ok (.bool true) δ) :
    PySem.W.WalkO q loose XP YP l.row.toRowW d [] (fun f vs => PySem.call f vs) := by
  refine L2.walk_of (n := 63) (k := k + 1) (x := "script") (CX := fun _ => CX0) (sp := fun w => SpP (K w.params) 1 (mDef N.length m)) hn (by decide) hdf hr hY (fun w mg fa h KX G hmg => ?_) (fun w H a ns hl _ hS => ?_) fun _ _ _ _ _ z => z
  · obtain ⟨F1, F2⟩ := F w mg h KX G
    obtain ⟨f, fd, F0, hg, hb⟩ := F1.ex
    rw [hname, hg] at hmg
    cases hmg
    exact ⟨fd, fun s u => hb s [u] rfl, fun base Kb Gb => def_ok F0 S fun cdv A outer s H E hr => F2 base _ cdv A outer s H E hr⟩
  · obtain ⟨δ, e⟩ := hsp ns hl
    refine ⟨H, [.list (ns.map .int)], Ex.refl H, .cons (.lst hS ints_dpa) .nil, rfl, ?_⟩
    rw [e]
    intro v C2 H2 e1 e2 e3 n2 dv
    cases dv
    rfl
end DL
end Part_DLh

section Part_DLi
set_option Elab.async false
set_option linter.all false
set_option maxRecDepth 100000
set_option autoImplicit false
set_option maxHeartbeats 2000000
namespace DL
open PySem PySem.Spec PyProof.Rows L2 Evl
/-! ### mirrors, evaluated -/
section
variable {α β : Type} {δ : Dl}
theorem bind_ok {a : α} {f : α → Dl → R β} : R.bind (.ok a δ) f = f a δ := rfl
theorem bind_no {f : α → Dl → R β} : R.bind .no f = .no := rfl
theorem bind_ite {c : Prop} [Decidable c] {x y : R α} {f : α → Dl → R β} : R.bind (if c then x else y) f = if c then R.bind x f else R.bind y f := by split <;> rfl
theorem lift_some {a : α} : R.lift (some a) δ = .ok a δ := rfl
theorem lift_none : R.lift (none : Option α) δ = .no := rfl
theorem noex_ok {a : α} : R.noex (.ok a δ) = .ok a δ := rfl
end
theorem sh_int (i : Int) : SeqAt.shaped (.int i) = true := rfl
theorem sh_bool (i : Bool) : SeqAt.shaped (.bool i) = true := rfl
theorem sh_none : SeqAt.shaped .none = true := rfl
theorem add_ii (i j : Int) : dAdd (.int i) (.int j) = some (.int (i + j)) := rfl
theorem sub_ii (i j : Int) : dSub (.int i) (.int j) = some (.int (i - j)) := rfl
theorem neg_i (i : Int) : dNeg (.int i) = some (.int (-i)) := rfl
theorem mul_r {i j : Int} (h1 : -18446744073709551616 < j) (h2 : j < 18446744073709551616) : dMul (.int i) (.int j) = some (.int (i * j)) := by
  show (if CMul i j ∨ CMulW i j then some (PyData.int (i * j)) else none) = _
  rw [if_pos (.inl (.inr ⟨by omega, by omega⟩))]
theorem mul_l {i j : Int} (h1 : -18446744073709551616 < i) (h2 : i < 18446744073709551616) : dMul (.int i) (.int j) = some (.int (i * j)) := by
  show (if CMul i j ∨ CMulW i j then some (PyData.int (i * j)) else none) = _
  rw [if_pos (.inl (.inl ⟨by omega, by omega⟩))]
theorem div_s {i j : Int} (h1 : 0 < j) (h2 : j < 1073741824) : dDiv (.int i) (.int j) = some (.int (i / j)) := by
  show (if CDivN i j ∨ CDivW i j then some (PyData.int (i.fdiv j)) else none) = _
  rw [if_pos (.inl ⟨by omega, by omega⟩), Int.fdiv_eq_ediv_of_nonneg i (by omega)]
theorem mod_s {i j : Int} (h1 : 0 < j) : dMod (.int i) (.int j) = some (.int (i % j)) := by
  show (if j ≠ 0 then some (PyData.int (i.fmod j)) else none) = _
  rw [if_pos (by omega), Int.fmod_eq_emod_of_nonneg i (by omega)]
theorem eq_ii (i j : Int) : dEq (.int i) (.int j) = some (.bool (decide (i = j))) := by
  show some (PyData.bool (i == j)) = _
  rw [Bool.beq_eq_decide_eq]
theorem ne_ii (i j : Int) : dNe (.int i) (.int j) = some (.bool (!decide (i = j))) := by
  show some (PyData.bool (!(i == j))) = _
  rw [Bool.beq_eq_decide_eq]
theorem eq_bb (i j : Bool) : dEq (.bool i) (.bool j) = some (.bool (i == j)) := rfl
theorem ne_bb (i j : Bool) : dNe (.bool i) (.bool j) = some (.bool (!(i == j))) := rfl
theorem lt_ii (i j : Int) : dLt (.int i) (.int j) = some (.bool (decide (i < j))) := rfl
theorem gt_ii (i j : Int) : dGt (.int i) (.int j) = some (.bool (decide (j < i))) := rfl
theorem le_ii (i j : Int) : dLe (.int i) (.int j) = some (.bool (decide (i ≤ j))) := rfl
theorem ge_ii (i j : Int) : dGe (.int i) (.int j) = some (.bool (decide (j ≤ i))) := rfl
theorem len_l (xs : List D) : dLen [.list xs] = some (.int xs.length) := rfl
theorem len_t (xs : List D) : dLen [.tuple xs] = some (.int xs.length) := rfl
theorem len_s {s : Str} (h : s.length ≤ 16777216) : dLen [.str s] = some (.int s.length) := by
  show (if s.length ≤ LINE then some (PyData.int s.length) else none) = _
  rw [if_pos h]
theorem int_i (i : Int) : dInt [.int i] = some (.int i) := rfl
theorem int_b (b : Bool) : dInt [.bool b] = some (.int (if b then 1 else 0)) := rfl
theorem abs_i (i : Int) : dAbs [.int i] = some (.int (if i < 0 then -i else i)) := rfl
theorem max_ii (i j : Int) : dMax [.int i, .int j] = some (.int (if j > i then j else i)) := rfl
theorem min_ii (i j : Int) : dMin [.int i, .int j] = some (.int (if j < i then j else i)) := rfl
theorem tuple_l (xs : List D) : dTuple [.list xs] = some (.tuple xs) := rfl
theorem all_l (bs : List Bool) : dAll [.list (bs.map .bool)] = some (.bool (bs.all id)) := by
  show (dBls (bs.map .bool)).map _ = _
  rw [dBls_map]
  rfl
theorem ix_l (xs : List D) (i : Int) : dIx (.list xs) (.int i) = atI xs i := rfl
theorem ix_t (xs : List D) (i : Int) : dIx (.tuple xs) (.int i) = atI xs i := rfl
theorem at_nat {α : Type} (xs : List α) (k : Nat) : atI xs (k : Int) = xs[k]? := by
  unfold atI ixN
  rw [if_pos (by omega)]
  by_cases h : k < xs.length
  · rw [if_pos (by omega)]
    simp
  · rw [if_neg (by omega)]
    simp [Nat.le_of_not_lt h]
theorem at_pos {α : Type} (xs : List α) {i : Int} (h0 : 0 ≤ i) : atI xs i = xs[i.toNat]? := by
  have := at_nat xs i.toNat
  rwa [Int.toNat_of_nonneg h0] at this
theorem tr_b (b : Bool) : truthD (.bool b) = some b := rfl
theorem tup_ok {xs : List D} (h : xs.length ≤ 16777216) : dTup xs = some (.tuple xs) := by unfold dTup; rw [if_pos h]
theorem new_ok {ma : M (List D)} {δ δ' : Dl} {xs : List D} (h : ma δ = .ok xs δ') (hl : xs.length ≤ 16777216) : mNew ma δ = .ok xs δ' := by
  unfold mNew
  rw [h]
  show (if xs.length ≤ LINE then R.ok xs δ' else .no) = _
  rw [if_pos hl]
theorem set_set' {α : Type} : ∀ (l : List α) (i : Nat) (a b : α), (l.set i a).set i b = l.set i b := fun l i a b => List.set_set a
/-! ### comprehensions of a pure element -/
theorem noVar_set {δ : Dl} {j : Nat} {d : D} (h : noVar δ = true) : noVar (δ.set j (.val d)) = true := by
  refine List.all_eq_true.mpr fun c hc => ?_
  rcases List.mem_or_eq_of_mem_set hc with h1 | h1
  · exact List.all_eq_true.mp h c h1
  · subst h1; rfl
theorem setV_ok {δ : Dl} {j : Nat} {d : D} (hj : j < δ.length) (h : noVar δ = true) : setV j d δ = some (δ.set j (.val d)) := by
  unfold setV
  rw [List.getElem?_eq_getElem hj]
  cases q : δ[j] with
  | var b ds => exact absurd (by rw [List.getElem?_eq_getElem hj, q]) (noVar_at (b := b) (ds := ds) h (i := j))
  | non => rfl
  | val d => rfl
theorem mLc_pure {j : Nat} {t : M Bool} {e : M D} {δ : Dl} (hj : j < δ.length) (hn : noVar δ = true) (p : D → Bool) (f : D → D) : ∀ (items : List D), (∀ x ∈ items, t (δ.set j (.val x)) = .ok (p x) (δ.set j (.val x)) ∧ (p x = true → e (δ.set j (.val x)) = .ok (f x) (δ.set j (.val x)))) →
    ∀ δ0 : Dl, noVar δ0 = true → δ0.set j .non = δ.set j .non → ∃ δ1 : Dl, mLc [j] (setV j) t e items δ0 = .ok ((items.filter p).map f) δ1 ∧ δ1.set j .non = δ.set j .non
  | [], _, δ0, h0, h1 => ⟨δ0, rfl, h1⟩
  | x :: xs, he, δ0, h0, h1 => by
    obtain ⟨ht, hx⟩ := he x List.mem_cons_self
    have hs : wipeD δ0 [j] = δ.set j .non := h1
    have hn' : noVar (δ.set j .non) = true := by
      have := noVar_wipe hn [j]
      exact this
    have e1 : setV j x (wipeD δ0 [j]) = some (δ.set j (.val x)) := by
      rw [hs, setV_ok (by rw [List.length_set]; exact hj) hn', List.set_set]
    have e2 : (δ.set j (.val x)).set j .non = δ.set j .non := List.set_set _
    have nx : noVar (δ.set j (.val x)) = true := noVar_set hn
    obtain ⟨δ1, ih1, ih2⟩ := mLc_pure hj hn p f xs (fun y hy => he y (List.mem_cons_of_mem _ hy)) _ nx e2
    refine ⟨δ1, ?_, ih2⟩
    unfold mLc
    rw [e1]
    simp only [ht, noex_ok, bind_ok]
    cases hp : p x with
    | true =>
      rw [if_pos rfl]
      simp only [hx hp, noex_ok, bind_ok, nx, if_true, ih1]
      rw [List.filter_cons_of_pos hp, List.map_cons]
    | false =>
      rw [if_neg Bool.false_ne_true, if_pos nx, ih1, List.filter_cons_of_neg (by rw [hp]; exact Bool.false_ne_true)]
theorem lcS_pure {j : Nat} {it : M (List D)} {t : M Bool} {e : M D} {δ δ' : Dl} {items : List D} (p : D → Bool) (f : D → D) (hit : it δ = .ok items δ') (hj : j < δ'.length) (hn : noVar δ' = true) (hl : items.length ≤ 16777216)
    (he : ∀ x ∈ items, t (δ'.set j (.val x)) = .ok (p x) (δ'.set j (.val x)) ∧ (p x = true → e (δ'.set j (.val x)) = .ok (f x) (δ'.set j (.val x)))) :
    mLcS [j] it (setV j) t e δ = .ok ((items.filter p).map f) δ' := by
  obtain ⟨δ1, h1, h2⟩ := mLc_pure hj hn p f items he δ' hn rfl
  unfold mLcS
  rw [hit, bind_ok, hn, Bool.true_and, if_pos (decide_eq_true hl), h1, bind_ok]
  have : backD δ' δ1 [j] = δ' := by
    show δ1.set j (δ'.getD j .non) = δ'
    have e0 : δ1.set j (δ'.getD j .non) = (δ1.set j .non).set j (δ'.getD j .non) := (List.set_set _).symm
    rw [e0, h2, List.set_set]
    apply List.ext_getElem?
    intro i
    by_cases q : j = i
    · subst q
      rw [List.getElem?_set_self hj, List.getElem?_eq_getElem hj]
      simp [List.getD, hj]
    · rw [List.getElem?_set_ne q]
  rw [this]
theorem filter_true {α : Type} (l : List α) : l.filter (fun _ => true) = l := List.filter_eq_self.mpr fun _ _ => rfl
/-- [e for x in ..] -/
theorem lcS_map {j : Nat} {it : M (List D)} {e : M D} {δ δ' : Dl} {items : List D} (f : D → D) (hit : it δ = .ok items δ') (hj : j < δ'.length) (hn : noVar δ' = true) (hl : items.length ≤ 16777216)
    (he : ∀ x ∈ items, e (δ'.set j (.val x)) = .ok (f x) (δ'.set j (.val x))) : mLcS [j] it (setV j) mYes e δ = .ok (items.map f) δ' := by
  have h := lcS_pure (t := mYes) (fun _ => true) f hit hj hn hl fun x hx => ⟨rfl, fun _ => he x hx⟩
  rw [filter_true] at h
  exact h
theorem map_of {α : Type} {P : α → D → Prop} [Inhabited D] : ∀ (items : List α), (∀ x ∈ items, ∃ y, P x y) → ∃ f : α → D, ∀ x ∈ items, P x (f x) := fun items h => by
  classical
  refine ⟨fun x => if hx : ∃ y, P x y then hx.choose else default, fun x hx => ?_⟩
  have z := h x hx
  simp only [dif_pos z]
  exact z.choose_spec
instance : Inhabited D := ⟨.none⟩
/-- .. where it is only known that it gives something with P -/
theorem lcS_ex {j : Nat} {it : M (List D)} {e : M D} {δ δ' : Dl} {items : List D} {P : D → D → Prop} (hit : it δ = .ok items δ') (hj : j < δ'.length) (hn : noVar δ' = true) (hl : items.length ≤ 16777216)
    (he : ∀ x ∈ items, ∃ y, e (δ'.set j (.val x)) = .ok y (δ'.set j (.val x)) ∧ P x y) : ∃ f : D → D, mLcS [j] it (setV j) mYes e δ = .ok (items.map f) δ' ∧ ∀ x ∈ items, P x (f x) := by
  obtain ⟨f, hf⟩ := map_of items he
  exact ⟨f, lcS_map f hit hj hn hl fun x hx => (hf x hx).1, fun x hx => (hf x hx).2⟩
theorem at_ex {α : Type} (xs : List α) {i : Int} (h0 : 0 ≤ i) (h1 : i < xs.length) : ∃ d, d ∈ xs ∧ atI xs i = some d := by
  have h : i.toNat < xs.length := by omega
  exact ⟨xs[i.toNat], List.getElem_mem h, by rw [at_pos xs h0, List.getElem?_eq_getElem h]⟩
theorem rng_len (lo hi : Int) : (rng lo hi).length = (hi - lo).toNat := by unfold rng; rw [List.length_map, List.length_range]
theorem rng_int {lo hi : Int} {d : D} (h : d ∈ rng lo hi) : ∃ i : Int, d = .int i ∧ lo ≤ i ∧ i < hi := by
  unfold rng at h
  obtain ⟨k, hk, e⟩ := List.mem_map.mp h
  have := List.mem_range.mp hk
  exact ⟨lo + (k : Nat), e.symm, by omega, by omega⟩
/-- an int that may stand in a range -/
theorem big_of {i : Int} (h : -1000000000 ≤ i) (h2 : i ≤ 1000000000) : big i = true := decide_eq_true ⟨by omega, by omega⟩
end DL
end Part_DLi

section Part_DX
set_option Elab.async false
set_option linter.all false
set_option maxRecDepth 100000
set_option autoImplicit false
set_option maxHeartbeats 2000000
namespace DL
open PySem PySem.Spec PyProof.Rows L2 Evl
open PySem.W (kxs_mw)
/-! ### an __init__ that says super().__init__(text), then self.f = par -/
section
variable {prog : Program} {w : World} {A : Around} {E : Value → Shared → Prop} {h : Heap} {g : Array GenState} {d : Drawn} {t : Nat} {os : OsState}
variable {nm q : Str} {C N : Addr} {bs bm : List Value} {hdct : Bool} {sn : List Str} {sub : List Value} {ab : Bool} {col : Option Bool} {dd : Option Addr} {k0 k1 k2 k3 k5 : Option Value}
theorem call_mw {u e t0 : Addr} {rest : List Value} {Q : Value → Shared → Prop}
    (hC : h.get? C = some (excClassObj nm q C N bs bm hdct sn sub ab col dd k0 k1 k2 k3 k5 "ValueError.__new__")) (he : h.get? e = some (PySem.W.excObj C t0 none .none)) (hu : h.get? u = some (kxs_mw "ValueError.__init__" e)) (hrest : rest.length ≤ sizeLine)
    (hq : ∀ h' t1, (∀ b o, b ≠ e → h.get? b = some o → h'.get? b = some o) → h'.get? e = some (PySem.W.excObj C t1 none .none) → Q .none ⟨h', g, d, t, os⟩) :
    wpAny (model prog w) A (call (.ref u) rest) Q E ⟨h, g, d, t, os⟩ := by
  refine wpAny_call (codeAny_of_tree ?_)
  show wpAny _ A.in1 (callAny (.ref u) ⟨rest, []⟩) _ _ _
  simp only [callAny]
  refine wpAny_bind (wpAny_load hu ?_)
  simp only [kxs_mw, show (Value.type "method-wrapper" == Value.type "method" || Value.type "method-wrapper" == Value.type "builtin_function_or_method" || Value.type "method-wrapper" == Value.type "method-wrapper") = true by decide, if_true]
  refine PySem.W.KFB.if_so (by decide) ?_
  refine wpAny_bind (PySem.W.check_bound_init F.excBase_ValueError.toExcCallFacts hC he rfl ?_)
  refine wpAny_bind (wpAny_pure (wpAny_pure ?_))
  refine ⟨plainId_quiet F.excBase_ValueError.init.plain _, codeAny_builtin F.excBase_ValueError.initEntry ?_⟩
  exact PySem.W.exc_init_tree (cls := .ref C) (t0 := t0) (dv := none) (c2 := .none) (c3 := .none) (b4 := .bool false) he hrest fun h' k e' _ => hq h' _ k e'
end

/-- an own error class over ValueError: C, its __init__ at f, the one attribute fld, told by the argument par -/
structure InitF (P : Program) (K : PySem.W.Frag) (mg : Str → Option Value) (C f : Addr) (fd : FuncData) (qual par fld : Str) (e : Expr) : Prop where
  ex : ∃ (oc : Value) (od : Option Addr) (osl : Array (Option Value)) (kV doc pm : Value) (an : Option Addr) (c cc : Addr) (ct : Value) (params : Arguments) (body : List Stmt) (scope : Scope) (p0 p1 p2 p3 p4 p5 p6 p7 p8 : Pos) (ar : Arg) (ar2 : List Arg) (ccl cl : Value) (cdd cld : Option Addr) (ccs csl : Array (Option Value)) (vs : Array Value) (file : Str) (tf : Tok) (cd : ClassData) (n : Nat),
    fd = PySem.W.fnX "__init__" qual params body scope [("__class__", cc)] .none kV doc pm an (.ref c) ct ∧ K.lookup f = some ⟨oc, od, .func fd, osl⟩ ∧ PySem.W.codeIn K (.ref c) qual = true ∧
    body = [.Expr (.Call (.Attribute (.Call (.Name "super" p0) [] [] p1) "__init__" p2) [e] [] p3) p4, .Assign [.Attribute (.Name "self" p5) fld p6] (.Name par p7) p8] ∧
    NdefX.NScope [("self" : Str), par, "__class__"] [("self" : Str), par] ["__class__"] scope ∧ scope.names.lookup ("super" : Str) = some .globalImplicit ∧
    (params.posonlyargs ++ params.args) = ar :: ar2 ∧ ar.arg = "self" ∧
    K.lookup c = some ⟨ccl, cdd, .fields vs, ccs⟩ ∧ vs[2]? = some (.str file tf) ∧ ((P.main.file : Str) == file) = true ∧ (P.main.scope.names.lookup ("super" : Str)).isSome = false ∧
    K.lookup cc = some ⟨cl, cld, .cell (some (.ref C)), csl⟩ ∧ PySem.W.clsIn K C = some cd ∧ PySem.W.mroIn K C (.ref C) = some true ∧ mg "super" = none ∧ PySem.W.nsIn K cStatics "thirdparty.any" = some none ∧
    PySem.W.ks_superIn K C C "__init__" = some (some (.builtin "ValueError.__init__")) ∧ PySem.W.subIn K (.ref C) (.type "ValueError") = some true ∧
    PySem.W.findIn K (.ref C) fld = some none ∧ n = 0 ∧
    (∀ env : Env, ∃ pl : Sem Bool, eval (.Call (.Attribute (.Call (.Name "super" p0) [] [] p1) "__init__" p2) [e] [] p3) env = (do
      let ov ← attributeBase (.Call (.Name "super" p0) [] [] p1) "__init__" env (eval (.Call (.Name "super" p0) [] [] p1) env)
      standAt p2.atName
      let (f, first) ← holding [ov] (getMethod ov "__init__" pl)
      callWith p3 f first (backTo p3 (starEach [e] env)) [])) ∧ (∀ env : Env, starEach [e] env = (false, eval e env) :: starEach [] env) ∧ (par == ("__debug__" : Str)) = false ∧ (par == ("__classdict__" : Str)) = false ∧ (∀ env : Env, swapsWith (.Name par p7) (some (.Attribute (.Name "self" p5) fld p6)) p8.line env = pure false)
  oex : OexC K C
section
variable {P : Program} {w : World} {K : PySem.W.Frag} {mg : Str → Option Value} {base : Heap}
/-- what such an __init__ does -/
def SpI (T : V → Prop) (C : Addr) (fld : Str) : Sp := fun vs H Q _ => ∃ a y, vs = [.ref a, y] ∧ T y ∧ H a = some (exo a C none) ∧ ∀ dx, H dx = none → dx ≠ a → Q .non (upd (upd H dx (exd dx [(fld, y)])) a (exo a C (some dx)))
theorem init_ok {T : V → Prop} {C f : Addr} {fd : FuncData} {qual par fld : Str} {e : Expr} {k : Nat} (F : InitF P K mg C f fd qual par fld e) {CX : CXT}
    (he : ∀ (X : Cx), X.prog = P → X.K = K → X.mg = mg → X.N = [("self" : Str), par, "__class__"] → Vis X.env.scope par → ∃ te, PE X e te ∧ ∀ (a : Addr) (y : V) H Q, T y → (∀ v, Q v H) → te [some (.ref a), some y, none] H Q) : FnOk P w K mg base CX (k + 1) f fd [("self" : Str), par] (SpI T C fld) := by
  obtain ⟨oc, od, osl, kV, doc, pm, an, c, cc, ct, params, body, scope, p0, p1, p2, p3, p4, p5, p6, p7, p8, ar, ar2, ccl, cl, cdd, cld, ccs, csl, vs', file, tf, cd, n, rfl, lk, hcd, rfl, S, hsup, hp, har, lc, hvs, hfile, htop, lcell, hcls, hmro, hmg, hst, hsu, hB, hno, _, hev, hst1, pd1, pd2, hsw⟩ := F.ex
  refine ⟨fun vs H Q E h => ?_, fun A outer s H args us vs Q E hr e0 hb r hsp => ?_⟩
  · obtain ⟨a, y, rfl, _⟩ := h
    rfl
  obtain ⟨a, y, rfl, hT, ha, hq⟩ := hsp
  have KX : K.In s.heap := e0.mod.kin.keeps fun b o e => (e0.bs b o e).1
  have lim : s.heap.NoLimit := e0.mod.nolimit.keeps fun b o e => (e0.bs b o e).1
  have r0 := r
  cases r with
  | @cons _ u0 _ ur ra rw' =>
    obtain rfl : u0 = Value.ref a := ra
    cases rw' with
    | @cons _ u1 _ ur2 ry rn =>
      cases rn
      refine ks_codeAny_call_defAt hr.depth (KX _ _ lk) rfl lim (PySem.W.codeRec_of KX hcd) rfl hb S.nocell (fun ⟨n, v⟩ hy => S.par n (List.of_mem_zip hy).1) (fun h₁ hns kp => ?_) S.co S.gen S.kind
      have C0 : NdefX.CellsAt [("__class__", cc)] [("__class__" : Str)] [none] s.heap H := by
        have key : ∀ (y : Str) (c' : Addr), List.lookup y [(("__class__" : Str), cc)] = some c' → y = "__class__" ∧ c' = cc := fun y c' e => by
          have m := PySem.mem_of_lookup e
          rw [List.mem_singleton] at m
          cases m
          exact ⟨rfl, rfl⟩
        refine ⟨rfl, fun y c' e => ?_, fun x y c' e1 e2 => ?_, fun i y e => ?_⟩
        · obtain ⟨_, rfl⟩ := key y c' e
          exact ⟨(e0.bs _ _ (e0.mod.kin _ _ lcell)).2, _, _, KX _ _ lcell, rfl⟩
        · exact (key x c' e1).1.trans (key y c' e2).1.symm
        · cases i with
          | zero =>
            cases e
            exact ⟨cc, rfl, fun v z => nomatch z⟩
          | succ i => cases e
      have ndP : [("self" : Str), par].Nodup := by
        have q := S.nd.sublist (List.take_sublist ([("self" : Str), par].length + [("__class__" : Str)].length) _)
        rw [S.pre] at q
        exact (List.nodup_append.mp q).1
      have I := NdefX.inv_startN (CX := CX) (P := P) (w := w) (base := base) (E := E) (F := ⟨"__init__", qual, params, [], scope, [("__class__", cc)], c⟩) (f := f) (tk := s.toks + ([("self" : Str), par].zip [Value.ref a, u1]).length) S hr.hd e0 rfl r0 C0 hns kp
      obtain ⟨pl, hev⟩ := hev (callEnv (PySem.W.fnX "__init__" qual params [.Expr (.Call (.Attribute (.Call (.Name "super" p0) [] [] p1) "__init__" p2) [e] [] p3) p4, .Assign [.Attribute (.Name "self" p5) fld p6] (.Name par p7) p8] scope [("__class__", cc)] .none kV doc pm an (.ref c) ct) s.heap.objs.size f)
      have qt : interactive (callEnv (PySem.W.fnX "__init__" qual params [.Expr (.Call (.Attribute (.Call (.Name "super" p0) [] [] p1) "__init__" p2) [e] [] p3) p4, .Assign [.Attribute (.Name "self" p5) fld p6] (.Name par p7) p8] scope [("__class__", cc)] .none kV doc pm an (.ref c) ct) s.heap.objs.size f) = false := I.quiet
      refine ks_wpAt_execs_cons (ks_wpAt_Expr_any (hi := qt) (ks_wpAt_MethodCall (he := hev) (ks_wpAt_super_base (ar := ar) hsup (S.frk _ (by simp)) rfl rfl (kp _ _ (KX _ _ lk)) rfl (by show (params.posonlyargs ++ params.args).head? = some ar; rw [hp]; rfl) rfl (kp _ _ (KX _ _ lc)) rfl hvs hfile htop ?_)))
      obtain ⟨mb, hb1, hb2⟩ := I.mod.blt
      refine PySem.W.ks_loadName_global S.kind hsup (Calls.loadGlobal_builtin (I.mod.glob.keeps I.bk) hmg (hb1.keeps I.bk) ((hb2 "super" (by decide)).trans (by decide +kernel)) ⟨rfl, ?_⟩)
      refine wpAny_loadName_free S.kind (S.frk _ (by simp)) rfl ⟨_, kp _ _ (KX _ _ lcell), rfl⟩ ?_
      rw [har]
      refine wpAny_loadName_local S.kind (S.par _ (by simp)) hns (v := Value.ref a) (NdefX.zip_look (i := 0) ndP rfl rfl) ?_
      obtain ⟨oD, hD1, hD2⟩ : ∃ oD, h₁.get? C = some oD ∧ oD.data = .cls cd := by
        have hD := hcls
        unfold PySem.W.clsIn at hD
        split at hD
        · rename_i c' d' cd' sl ho
          cases hD
          exact ⟨_, I.kIn _ _ ho, rfl⟩
        · cases hD
      obtain ⟨t1, hx⟩ := exo_at I.hok ha
      refine ks_wpAny_isType_cls hD1 hD2 ⟨rfl, ?_⟩
      refine ks_wpAny_call_super hD1 hD2 hx rfl (fun c e => nomatch e) (PySem.W.looks_mroIn I.kIn hmro) (fun h2 so k2 => ?_)
      have I2 := I.kept (t' := s.toks + ([("self" : Str), par].zip [Value.ref a, u1]).length) k2
      have hx2 := k2 _ _ hx
      have Ia : PySem.W.InstAt h2 a _ C none := ⟨hx2, rfl, rfl, trivial⟩
      refine PySem.W.kxs_getMethod PySem.W.kxs_ValueError so (PySem.W.looks_opaque I2.kIn hst) (l₀ := cd.mro) ?_ rfl I2.kIn ?_ (Ia.type.andThen (PySem.W.looks_subIn I2.kIn hB)) (PySem.W.ks_ne I2.kIn Ia hcls) rfl ?_
      · exact fun A Q E s k q => wpAny_bind ((PySem.W.looks_clsIn I2.kIn hcls) A _ E s k (wpAny_pure q))
      · have := hsu
        unfold PySem.W.ks_superIn at this
        rw [hcls] at this
        exact this
      have gk : ∀ b o, h2.get? b = some o → (h2.push (kxs_mw "ValueError.__init__" a)).get? b = some o := fun b o e => Heap.get?_push_of_some _ e
      have I3 := (I2.kept (t' := s.toks + ([("self" : Str), par].zip [Value.ref a, u1]).length + 1) gk).pins_of (pins' := [(h2.objs.size, kxs_mw "ValueError.__init__" a)]) (fun p hp => by
        rw [List.mem_singleton.mp hp]
        exact ⟨Heap.get?_push_at rfl rfl, I2.hok.fresh (Nat.le_refl _), Ne.symm (Nat.ne_of_lt I2.lt), I2.nofs (Nat.le_refl _), fun v e => nomatch e⟩)
      obtain ⟨te, pe, hte⟩ := he (NdefX.ncx CX P w K mg base [("self" : Str), par, "__class__"] ⟨"__init__", qual, params, [], scope, [("__class__", cc)], c⟩ f A outer s H E) rfl rfl rfl rfl (Or.inl (S.par _ (by simp)))
      have gl := hst1 (NdefX.ncx CX P w K mg base [("self" : Str), par, "__class__"] ⟨"__init__", qual, params, [], scope, [("__class__", cc)], c⟩ f A outer s H E).env
      have pa := pa_cons pe pa_nil gl
      have rn := pa.run p3 _ _ _ _ (fun vs H2 => (∃ v, vs = [v]) ∧ H2 = H) I3 (hte a y H _ hT fun v => ⟨⟨v, rfl⟩, rfl⟩)
      show wpAny _ _ (callWith p3 (.ref h2.objs.size) [] (backTo p3 (starEach [e] _)) []) _ _ _
      refine PySem.W.kxs_callWith (i := "ValueError.__init__") (x := a) (by rw [hst1]; rfl) ?_
      have rn2 := rn
      rw [hst1] at rn2 ⊢
      refine Calls.evalArgs_plain (wpAny_mono rn2 (fun us4 s4 hs4 => ?_) fun _ _ x => x)
      obtain ⟨vs4, H4, I4, rv4, ⟨v4, ev4⟩, eH4⟩ := hs4
      subst ev4
      rw [eH4] at I4
      have p4 := I4.pin (h2.objs.size, kxs_mw "ValueError.__init__" a) (by simp)
      refine ⟨p4.1, ?_⟩
      obtain ⟨nm, q', N', bs, bm, sn, sub, ab, col, dd, k0, k1, k2', k3, k5, hC, hbm⟩ := F.oex.cls
      obtain ⟨t4, hx4⟩ := exo_at I4.hok ha
      have hl4 : us4.length ≤ sizeLine := by
        rw [← Paired.length rv4, sizeLine_eq]
        show 1 ≤ 16777216
        decide
      obtain ⟨hp4, g4, d4, tk4, os4⟩ := s4
      refine call_mw (I4.kIn _ _ hC) hx4 p4.1 hl4 (fun h5 t5 k5' e5 => ?_)
      have I5 := I4.write (t' := tk4) (x := a) (e := a) (o := exo a C none) (by rw [ha]; exact True.intro) (.inl rfl) k5' ⟨_, e5⟩ (exo_ok e5)
      have eu : upd H a (exo a C none) = H := by
        funext b
        by_cases hb : b = a
        · rw [hb, upd_same, ha]
        · rw [upd_ne hb]
      rw [eu] at I5
      have I6 := I5.pins_of (pins' := []) (fun p hp => by cases hp)
      show PySem.wpAt _ _ _ (execs [.Assign [.Attribute (.Name "self" p5) fld p6] (.Name par p7) p8] _) _ _ _
      refine wpAt_of_wpAny ?_
      have ps := pss_one (ps_ost (pe_var (X := NdefX.ncx CX P w K mg base [("self" : Str), par, "__class__"] ⟨"__init__", qual, params, [], scope, [("__class__", cc)], c⟩ f A outer s H E) (i := 0) (x := "self") (pos := p5) rfl (Or.inl (S.par _ (by simp)))) (pe_var (i := 1) (x := par) (pos := p7) rfl (Or.inl (S.par _ (by simp))) pd1 pd2) (f := fld) (p' := p6) (pos := p8) (hsw _))
      refine wpAny_mono (ps.run [] _ _ H { nx := fun _ H' => Q .non H', rt := Q } I6 ⟨y, rfl, .ref a, rfl, a, C, rfl, F.oex, hno, .inl ⟨ha, fun dx n ne => hq dx n ne⟩⟩) (fun fl s' hs => ?_) fun e s' hs => hs
      have fin : ∀ {σ' : L2.St} {H' : Hp} {v : V} {u : Value}, Inv (NdefX.ncx CX P w K mg base [("self" : Str), par, "__class__"] ⟨"__init__", qual, params, [], scope, [("__class__", cc)], c⟩ f A outer s H E) [] σ' H' s' → L2.RelV v u → Q v H' → CE outer P w H s Q u s' :=
        fun {σ' H' v u} J rv q => ⟨v, H', J.os, J.bare, J.base, J.hok, rv, q⟩
      cases fl with
      | ret u =>
        obtain ⟨v, σ', H', J, rv, q⟩ := hs
        exact fin J rv q
      | next =>
        obtain ⟨σ', H', J, q⟩ := hs
        exact fin (v := V.non) (u := Value.none) J rfl q
      | brk =>
        obtain ⟨_, _, _, q⟩ := hs
        exact False.elim q
      | cont =>
        obtain ⟨_, _, _, q⟩ := hs
        exact False.elim q
end
end DL
end Part_DX

section Part_DY
set_option Elab.async false
set_option linter.all false
set_option maxRecDepth 100000
set_option autoImplicit false
set_option maxHeartbeats 2000000
namespace DL
open PySem PySem.Spec PyProof.Rows L2 Evl
/-! ### raise X(e) -/
def mRaise (c : Nat) (t : D → Bool) (a : M D) : M Fl := fun δ => (a δ).bind fun d δ => if t d then .ex c d δ else .no
/-- the error class x, number c: (where, its attribute) = p, t: what may be told -/
structure ErrX (P : Program) (w : World) (K : PySem.W.Frag) (mg : Str → Option Value) (base : Heap) (k : Nat) (x : Str) (p : Addr × Str) (t : D → Bool) : Prop where
  ex : ∃ fI fd ps T, OexC K p.1 ∧ PySem.W.findIn K (.ref p.1) "__init__" = some (some (.ref fI)) ∧ PySem.W.typeIn K (.ref fI) = some (.type "function") ∧ FnOk P w K mg base CX0 k fI fd ps (SpI T p.1 p.2) ∧ Binds K fd ps [] ∧ mg x = some (.ref p.1) ∧
    ∀ C v d, Dq K C v d → t d = true → T v
section
variable {X : Cx} {EC : ECl} {W : WX} {e : Expr} {ma : M D} {x : Str} {p pos pos' : Pos} {c k : Nat} {t : D → Bool}
theorem ds_raise (hc : X.calm = true) (tk : Takes X W) (F : ErrX X.prog X.w X.K X.mg X.base k x (EC c) t) (hr : Room (k + 1) X.A) (ha : DE X EC W e ma) (hg : Gl X x := by rfl) (hdb : (x == ("__debug__" : Str)) = false := by decide)
    (he : starEach (e :: []) X.env = (false, eval e X.env) :: starEach [] X.env := by rfl) (hpl : (backTo pos (starEach [] X.env)).any (·.1) = false := by rfl) :
    DS X EC W (.Raise (some (.Call (.Name x p) [e] [] pos)) none pos') (mRaise c t ma) := by
  obtain ⟨fI, fd, ps, T, O, iC, tI, F1, hb, hm, hT⟩ := F.ex
  obtain ⟨te, pe, re⟩ := ha.ex
  refine ⟨_, ps_raise hc tk (pmk_oex (dvs := []) (ds := []) O iC tI F1 hr hb .nil pass0 hg hm (pa_cons pe pa_nil he) hdb he hpl), fun C0 H0 B C H σ δ N S h => re C0 H0 B C H σ δ _ S (RP.imp (RP.bind h) (fun d δ1 h1 y C1 H1 e1 S1 d1 => ?_) fun c d δ z => ?_)⟩
  · refine ⟨by show 1 ≤ 1000; decide, fun a hn => ?_⟩
    cases q : t d with
    | false => rw [q] at h1; exact h1.elim
    | true =>
      rw [q] at h1
      refine ⟨a, y, rfl, hT C1 y d d1 q, upd_same, fun dx hdx ne => ⟨rfl, dx, [((EC c).2, y)], upd_same, by rw [upd_ne ne, upd_same], ?_, ?_⟩⟩
      · rwa [upd_ne ne] at hdx
      · have hdx' : H1 dx = none := by rwa [upd_ne ne] at hdx
        have e2 : upd (del (upd (upd (upd H1 a (exo a (EC c).1 none)) dx (exd dx [((EC c).2, y)])) a (exo a (EC c).1 (some dx))) a) dx (.xd [((EC c).2, y)]) = upd H1 dx (.xd [((EC c).2, y)]) := by
          funext b
          by_cases hb1 : b = dx
          · rw [hb1, upd_same, upd_same]
          · rw [upd_ne hb1, upd_ne hb1]
            by_cases hb2 : b = a
            · rw [hb2, del_same, hn]
            · rw [del_ne hb2, upd_ne hb2, upd_ne hb1, upd_ne hb2]
        rw [e2]
        exact h1 σ y dx C1 _ e1 (S1.newN hdx') upd_same d1
  · exact z σ
end

/-! ### defs that may raise -/
/-- what a def gives of data, an error too -/
def mDefE (n : Nat) (body : M Fl) (ds : List D) : R D := (body (ds.map .val ++ List.replicate (n - ds.length) .non)).bind fun f _ => match f with
  | .rt d => .ok d []
  | .nx => .ok .none []
  | _ => .no
def SpE (K : PySem.W.Frag) (EC : ECl) (n : Nat) (mf : List D → R D) : Sp := fun vs H Q E => ∃ C ds, Ex C H ∧ DqAll K C vs ds ∧ vs.length = n ∧
  RP (mf ds) (fun d _ => ∀ v C2 H2, Ex C C2 → Ex H H2 → Ex C2 H2 → (∀ a, H a ≠ none → C a = none → C2 a = none) → Dq K C2 v d → Q v H2)
    fun c d _ => ∀ v dd C2 H2, Ex C C2 → Ex H H2 → Ex C2 H2 → (∀ a, H a ≠ none → C a = none → C2 a = none) → H2 dd = some (.xd [((EC c).2, v)]) → Dq K C2 v d → E (.ref (EC c).1) (some dd) H2
/-- the def at the name x may raise, and does what mf says -/
structure FnE (P : Program) (w : World) (K : PySem.W.Frag) (mg : Str → Option Value) (base : Heap) (EC : ECl) (k : Nat) (x : Str) (n : Nat) (mf : List D → R D) : Prop where
  ex : ∃ f fd ps, FnOk P w K mg base (L2.CX P w) k f fd ps (SpE K EC n mf) ∧ mg x = some (.ref f) ∧ PySem.W.keepIn K (.ref f) = true ∧ Binds K fd ps []
section
variable {P : Program} {w : World} {K : PySem.W.Frag} {mg : Str → Option Value} {base : Heap}
theorem def_okE {x : Str} {st : Stmt} {N ps : List Str} {k : Nat} {EC : ECl} {m : M Fl} (F : FunX K mg x st ps) (S : FnScope N ps (defScope st))
    (hb : ∀ (f : Addr) (cdv : Value) (A : Around) (outer : List Env) (s : Shared) (H : Hp) (E : XK), Room k (A.deeper (envOfC x (defScope st) s.heap.objs.size f cdv)) →
      Takes (cxOf (L2.CX P w) P w K mg base N x (defScope st) f cdv A outer s H E) (fun cls d _ H' => E cls d H') →
      PassesOwn (model P w) (cxOf (L2.CX P w) P w K mg base N x (defScope st) f cdv A outer s H E).A (cxOf (L2.CX P w) P w K mg base N x (defScope st) f cdv A outer s H E).env (cxOf (L2.CX P w) P w K mg base N x (defScope st) f cdv A outer s H E).xe →
      DSs (cxOf (L2.CX P w) P w K mg base N x (defScope st) f cdv A outer s H E) EC (fun cls d _ H' => E cls d H') (defBody st) m) : FnE P w K mg base EC (k + 1) x ps.length (mDefE N.length m) := by
  obtain ⟨f, fd, F, hg, hbi⟩ := F.ex
  refine ⟨f, fd, ps, F.okX S (fun vs H Q E h => ?_) (fun cdv A outer s H vs Q E hr h => ?_), hg, F.kp, binds_of hbi⟩
  · obtain ⟨C, ds, _, _, hl, _⟩ := h
    exact hl
  · obtain ⟨C, ds, e, hd, hl, q⟩ := h
    obtain ⟨t, p, r⟩ := (hb f cdv A outer s H E hr (takes_of rfl rfl rfl rfl) (passes_of rfl)).ex
    refine ⟨t, p, r C H [] C H (L2.start N vs) _ _ (start_sr e hd) (RP.imp (RP.bind q) (fun f δ h1 σ C2 H2 e2 S2 => ?_) fun c d δ z σ v dd C2 H2 e2 S2 z1 z2 => ?_)⟩
    · have n2 : ∀ a, H a ≠ none → C a = none → C2 a = none := S2.nw
      have eH : Ex H H2 := fun a o z => S2.fr a o z fun p hp => by cases hp
      cases f with
      | nx => exact h1 .non C2 H2 e2 eH S2.ch n2 .non
      | rt d => exact fun v hv => h1 v C2 H2 e2 eH S2.ch n2 hv
      | bk => exact h1.elim
      | ct => exact h1.elim
    · exact z v dd C2 H2 e2 (fun a o z => S2.fr a o z fun p hp => by cases hp) S2.ch S2.nw z1 z2
end
section
variable {X : Cx} {EC : ECl} {W : WX} {e : Expr} {es : List Expr} {mes : M (List D)} {pos p : Pos} {k n : Nat} {mf : List D → R D} {x : Str}
def mCallE (mf : List D → R D) (a : M (List D)) : M D := fun δ => (a δ).bind fun ds δ => match mf ds with
  | .ok d _ => .ok d δ
  | .ex c d _ => .ex c d δ
  | .no => .no
theorem de_callE (tk : Takes X W) (F : FnE X.prog X.w X.K X.mg X.base EC k x n mf) (hr : Room k X.A) (ha : DA X EC W (e :: es) mes) (hn : es.length + 1 = n := by rfl) (hg : Gl X x := by rfl)
    (hdb : (x == ("__debug__" : Str)) = false := by decide) (he : starEach (e :: es) X.env = (false, eval e X.env) :: starEach es X.env := by rfl) (hpl : (backTo pos (starEach es X.env)).any (·.1) = false := by rfl) :
    DE X EC W (.Call (.Name x p) (e :: es) [] pos) (mCallE mf mes) := by
  obtain ⟨f, fd, ps, F, hm, hk, hb⟩ := F.ex
  obtain ⟨t, pa, ra⟩ := ha.ex
  refine ⟨_, pe_callS F hr hg hm hk hb (fun σ => passAt tk σ) pa hdb he hpl, fun C0 H0 B C H σ δ Q S h => ?_⟩
  have hb := RP.bind h
  refine ra C0 H0 B C H σ δ _ S ?_
  cases q : mes δ with
  | no => rw [q] at hb; exact hb.elim
  | ex c d δ' => rw [q] at hb; exact hb
  | ok ds δ1 =>
    rw [q] at hb
    have hl := ha.len δ ds δ1 q
    intro vs C1 H1 e1 S1 d1
    refine ⟨C1, ds, S1.ch, d1, by rw [dpa_len d1, hl]; exact hn, ?_⟩
    have hb : RP (match mf ds with | .ok d _ => R.ok d δ1 | .ex c d _ => R.ex c d δ1 | .no => .no) (PKe X.K C0 H0 B C σ Q) (PXe X.K EC W C0 H0 B C σ) := hb
    cases q2 : mf ds with
    | no => rw [q2] at hb; exact hb.elim
    | ex c d δ' =>
      rw [q2] at hb
      intro v dd C2 H2 e2 e3 e4 n2 z1 z2
      exact hb v dd C2 H2 (e1.trans e2) (S1.step e2 e3 e4 n2) z1 z2
    | ok d δ2 =>
      rw [q2] at hb
      intro v C2 H2 e2 e3 e4 n2 dv
      exact hb v C2 H2 (e1.trans e2) (S1.step e2 e3 e4 n2) dv
end

/-! ### try: body / except x as n: return (..) -/
def mTryR (i : Nat) (ok : Nat → Bool) (mb : M Fl) (mh : Nat → D → List D) : M Fl := fun δ => match mb δ with
  | .ok f δ' => .ok f δ'
  | .ex c d δ' => if ok c then (match δ'[i]? with
      | some (.var _ _) => .no
      | some _ => .ok (.rt (.tuple (mh c d))) (δ'.set i .non)
      | none => .no) else .ex c d δ'
  | .no => .no
theorem SR.setN {K : PySem.W.Frag} {C0 H0 : Hp} {B : List (Nat × Addr)} {C H : Hp} {σ : L2.St} {δ : Dl} (S : SR K C0 H0 B C H σ δ) {i : Nat} {o : Option V} (h : ∀ b ds, δ[i]? ≠ some (.var b ds)) : SR K C0 H0 B C H (σ.set i o) (δ.set i .non) := by
  have hl := S.len
  have back : ∀ {j : Nat} {c : Cell}, (δ.set i .non)[j]? = some c → c ≠ .non → δ[j]? = some c ∧ j ≠ i := fun {j c} e ne => by
    by_cases q : i = j
    · subst q
      rw [List.getElem?_set] at e
      split at e
      · split at e
        · cases e; exact absurd rfl ne
        · cases e
      · exact absurd rfl (by assumption)
    · rw [List.getElem?_set_ne q] at e
      exact ⟨e, Ne.symm q⟩
  have fw : ∀ {j : Nat}, j ≠ i → (σ.set i o)[j]? = σ[j]? := fun {j} q => List.getElem?_set_ne (Ne.symm q)
  have fd : ∀ {j : Nat}, j ≠ i → (δ.set i .non)[j]? = δ[j]? := fun {j} q => List.getElem?_set_ne (Ne.symm q)
  refine ⟨by rw [List.length_set, List.length_set, hl], S.c0, S.ch, S.fr, S.nw, fun j d e => ?_, fun j ds e => ?_, fun p hp => ?_, fun j ds e => ?_, S.bd1, S.bd2, S.bH0, fun j k ds ds' ne e1 e2 l h1 => ?_⟩
  · obtain ⟨e1, q⟩ := back e (fun z => nomatch z)
    rw [fw q]
    exact S.val j d e1
  · obtain ⟨e1, q⟩ := back e (fun z => nomatch z)
    rw [fw q]
    exact S.own j ds e1
  · obtain ⟨ds, xs, h1, h2, h3⟩ := S.bor p hp
    have q : p.1 ≠ i := fun z => h _ _ (by rw [← z]; exact h1)
    exact ⟨ds, xs, by rw [fd q]; exact h1, by rw [fw q]; exact h2, h3⟩
  · obtain ⟨e1, q⟩ := back e (fun z => nomatch z)
    exact S.btr j ds e1
  · obtain ⟨f1, q1⟩ := back e1 (fun z => nomatch z)
    obtain ⟨f2, q2⟩ := back e2 (fun z => nomatch z)
    rw [fw q1] at h1
    rw [fw q2]
    exact S.odis j k ds ds' ne f1 f2 l h1
/-- elements of such a tuple: nothing is made or changed -/
structure SA (X : Cx) (EC : ECl) (i : Nat) (a : Addr) (c : Nat) (d : Option Addr) (es : List Expr) (mh : D → List D) : Prop where
  ex : ∃ ta, PA X es ta ∧ ∀ (dd : Addr) (v : V) (pay : D) (C H : Hp) (σ : L2.St) (Q : List V → Hp → Prop), Ex C H → d = some dd → σ[i]? = some (some (.ref a)) → H dd = some (.xd [((EC c).2, v)]) → Dq X.K C v pay →
    (∀ vs, DqAll X.K C vs (mh pay) → vs.length ≤ 16777216 → Q vs H) → ta σ H Q
section
variable {X : Cx} {EC : ECl} {W : WX} {i : Nat} {x n : Str} {cv : Value} {ok : Nat → Bool} {body : List Stmt} {es : List Expr} {mb : M Fl} {mh : Nat → D → List D} {np pos pos' rp tp : Pos}
def tbD (K : PySem.W.Frag) (EC : ECl) (mb : M Fl) (W : WX) : TS := fun N σ H => ∃ C0 H0 B C δ, SR K C0 H0 B C H σ δ ∧ RP (mb δ) (PKs K C0 H0 B C N) (PXs K EC W C0 H0 B C)
def thD (K : PySem.W.Frag) (EC : ECl) (i : Nat) (ok : Nat → Bool) (mh : Nat → D → List D) (a : Addr) (cls : Value) (d : Option Addr) : TS := fun N σ H => ∃ c dd v pay C0 H0 B C δ, ok c = true ∧ cls = .ref (EC c).1 ∧ d = some dd ∧ H dd = some (.xd [((EC c).2, v)]) ∧ Dq K C v pay ∧ SR K C0 H0 B C H σ δ ∧ σ[i]? = some (some (.ref a)) ∧
  PKs K C0 H0 B C N (.rt (.tuple (mh c pay))) δ
theorem ds_tryR {kc} (hs : X.stack = X.env :: X.outer) (hf : X.env.frame = some X.env.locals) (hN : X.N.Nodup) (hi : X.N[i]? = some n) (hln : X.env.kindOf n = some .local) (hc : Names X x cv) (tk : Takes X W)
    (hm : ∀ c, PySem.W.exmOne X.K (.ref (EC c).1) cv = some (ok c))
    (hb : ∀ (W' : WX) (pn : List (Addr × Obj)) (xe : Value → Shared → Prop), Takes (X.tr pn xe) W' → PassesOwn (model X.prog X.w) X.A X.env xe → DSs (X.tr pn xe) EC W' body mb)
    (hsu : ∀ (a : Addr) (oe : Obj) (c : Nat) (d : Option Addr) (pn : List (Addr × Obj)), ok c = true → Zc (.ref (EC c).1) d oe → (∃ vs, oe.data = .fields vs) → SA (X.suite a ((a, oe) :: pn)) EC i a c d es (mh c)) :
    DS X EC W (.Try body [.ExceptHandler (some (.Name x np)) (some n) [.Return (some (.Tuple es kc tp)) rp] pos'] [] [] pos) (mTryR i ok mb mh) := by
  have p := ps_try_as (body := body) (pos := pos) (pos' := pos') (np := np) (tb := tbD X.K EC mb) (ts := thD X.K EC i ok mh) (b₀ := .Return (some (.Tuple es kc tp)) rp) (suite := []) hs hf hN hi hln hc tk (fun W' pn xe tk' ho => ⟨fun pins s σ H N I h => ?_⟩) (fun a oe cls d pn hz hfl => ⟨fun pins s σ H N I h => ?_⟩)
  · refine ⟨_, p, fun C0 H0 B C H σ δ N S h => ?_⟩
    refine ⟨C0, H0, B, C, δ, S, ?_⟩
    unfold mTryR at h
    cases q : mb δ with
    | no => rw [q] at h; exact h.elim
    | ok f δ' => rw [q] at h; exact h
    | ex c d δ' =>
      rw [q] at h
      intro σ2 v dd C2 H2 e2 S2 z1 z2
      refine ⟨ok c, hm c, fun hk a na => ?_, fun hk => ?_⟩
      · have h : RP (if ok c = true then (match δ'[i]? with | some (.var _ _) => R.no | some _ => .ok (.rt (.tuple (mh c d))) (δ'.set i .non) | none => .no) else .ex c d δ') (PKs X.K C0 H0 B C N) (PXs X.K EC W C0 H0 B C) := h
        rw [if_pos hk] at h
        have nv : ∀ b ds, δ'[i]? ≠ some (.var b ds) := fun b ds z => by rw [z] at h; exact h.elim
        have hlen : i < δ'.length := by
          rcases Nat.lt_or_ge i δ'.length with q | q
          · exact q
          · rw [List.getElem?_eq_none q] at h; exact h.elim
        have h2 : PKs X.K C0 H0 B C N (.rt (.tuple (mh c d))) (δ'.set i .non) := by
          cases q : δ'[i]? with
          | none => rw [q] at h; exact h.elim
          | some cl =>
            rw [q] at h
            cases cl with
            | var b ds => exact h.elim
            | non => exact h
            | val d => exact h
        refine ⟨c, dd, v, d, C0, H0, B, C2, δ'.set i .non, hk, rfl, rfl, z1, z2, S2.setN nv, ?_, fun σ3 C3 H3 e3 S3 => ?_⟩
        · rw [List.getElem?_set_self (by rw [S2.len]; exact hlen)]
        · exact h2 σ3 C3 H3 (e2.trans e3) S3
      · have h : RP (if ok c = true then (match δ'[i]? with | some (.var _ _) => R.no | some _ => .ok (.rt (.tuple (mh c d))) (δ'.set i .non) | none => .no) else .ex c d δ') (PKs X.K C0 H0 B C N) (PXs X.K EC W C0 H0 B C) := h
        rw [if_neg (by rw [hk]; exact Bool.false_ne_true)] at h
        exact h σ2 v dd C2 H2 e2 S2 z1 z2
  · obtain ⟨C0, H0, B, C, δ, S, r⟩ := h
    obtain ⟨t, pt, rt⟩ := (hb W' pn xe tk' ho).ex
    exact pt.run pins s σ H N I (rt C0 H0 B C H σ δ N S r)
  · obtain ⟨c, dd, v, pay, C0, H0, B, C, δ, hk, rfl, rfl, z1, z2, S, hσ, r⟩ := h
    obtain ⟨ta, pa, ra⟩ := (hsu a oe c (some dd) pn hk hz hfl).ex
    refine (pss_one (ps_ret (pe_tup pa))).run pins s σ H N I (ra dd v pay C H σ _ S.ch rfl hσ z1 z2 fun vs hvs hl => ⟨hl, fun p hp => ?_⟩)
    exact r σ _ _ (Ex.new (free_of S.ch hp)) (S.new hp) (.ref p) (.tup (SqT.of upd_same) (dpAll_ex (Ex.new (free_of S.ch hp)) _ _ hvs))
end

/-! ### what stands in such a tuple -/
structure SEl (X : Cx) (EC : ECl) (i : Nat) (a : Addr) (c : Nat) (d : Option Addr) (e : Expr) (m : D → D) : Prop where
  ex : ∃ te, PE X e te ∧ ∀ (dd : Addr) (v : V) (pay : D) (C H : Hp) (σ : L2.St) (Q : VK), Ex C H → d = some dd → σ[i]? = some (some (.ref a)) → H dd = some (.xd [((EC c).2, v)]) → Dq X.K C v pay → (∀ y, Dq X.K C y (m pay) → Q y H) → te σ H Q
section
variable {X : Cx} {EC : ECl} {i c : Nat} {a : Addr} {d : Option Addr} {e : Expr} {es : List Expr} {m : D → D} {ms : D → List D} {oe : Obj} {pn : List (Addr × Obj)} {n : Str} {p p2 p3 pos : Pos}
theorem sa_nil : SA X EC i a c d [] fun _ => [] := ⟨_, pa_nil, fun dd v pay C H σ Q e1 h1 h2 h3 h4 q => q [] .nil (by simp)⟩
theorem sa_cons (h : SEl X EC i a c d e m) (hs : SA X EC i a c d es ms) (hl : es.length < 1000 := by decide) (hm : ∀ pay, (ms pay).length = es.length := by intro _; rfl) (he : starEach (e :: es) X.env = (false, eval e X.env) :: starEach es X.env := by rfl) : SA X EC i a c d (e :: es) fun pay => m pay :: ms pay := by
  obtain ⟨te, pe, re⟩ := h.ex
  obtain ⟨ta, pa, ra⟩ := hs.ex
  refine ⟨_, pa_cons pe pa he, fun dd v pay C H σ Q e1 h1 h2 h3 h4 q => re dd v pay C H σ _ e1 h1 h2 h3 h4 fun y hy => ra dd v pay C H σ _ e1 h1 h2 h3 h4 fun ys hys _ => q (y :: ys) (.cons hy hys) ?_⟩
  rw [List.length_cons, dpa_len hys, hm]
  omega
theorem sel_str {z : Str} {j : Nat} : SEl X EC i a c d (.Constant (.str z) j pos) fun _ => .str z := ⟨_, pe_str, fun dd v pay C H σ Q e1 h1 h2 h3 h4 q => q _ (.str z)⟩
theorem sel_fld (T : XfC X.K (EC c).1) (hno : PySem.W.findIn X.K (.ref (EC c).1) (EC c).2 = some none) (hz : Zc (.ref (EC c).1) d oe) (hf : ∃ vs, oe.data = .fields vs) (hN : X.N[i]? = some n) (hv : Vis X.env.scope n) (hd : (n == ("__debug__" : Str)) = false := by decide)
    (hcd : (n == ("__classdict__" : Str)) = false := by decide) {fl : Str} (hfl : fl = (EC c).2) (hb : attributeBase (.Name n p) fl X.env (eval (.Name n p) X.env) = eval (.Name n p) X.env := by rfl) : SEl (X.suite a ((a, oe) :: pn)) EC i a c d (.Attribute (.Name n p) fl pos) fun pay => pay := by
  subst hfl
  refine ⟨_, pe_xf T hno hz hf (pe_var (X := X.suite a ((a, oe) :: pn)) hN hv hd hcd) hb, fun dd v pay C H σ Q e1 h1 h2 h3 h4 q => ⟨_, h2, rfl, rfl, dd, _, v, h1, h3, ?_, q v h4⟩⟩
  rw [lookup_put, if_pos rfl]
/-- isinstance(e, c), e the exception that the suite holds, its dict there -/
def rIsD (K : PySem.W.Frag) (D a : Addr) (d : Option Addr) : List V → Hp → VK → Prop := fun xs H Q => ∃ (c : V) (cv : Value) (b : Bool) (dd : Addr) (fs : List (Str × V)), xs = [.ref a, c] ∧ (∀ u, RelV c u → u = cv) ∧ PySem.W.kitOne K (.ref D) cv = some b ∧ d = some dd ∧ H dd = some (.xd fs) ∧ Q (.bl b) H
theorem call_isD {D : Addr} (C : ExcC X.K D) (hz : Zc (.ref D) d oe) (hf : ∃ vs, oe.data = .fields vs) : CallR (X.suite a ((a, oe) :: pn)) (.builtin "isinstance") (rIsD X.K D a d) := by
  intro pins s σ H xs us Q I r h
  obtain ⟨c, cv, b, dd, fs, rfl, hcv, e, rfl, ea, q⟩ := h
  cases r with
  | cons rx rr =>
    cases rr with
    | cons rt rr =>
      cases rr
      cases rx
      have ec := hcv _ rt
      subst ec
      obtain ⟨hget, _⟩ := I.pin (a, oe) (List.mem_append.mpr (.inl List.mem_cons_self))
      obtain ⟨vs, hv⟩ := hf
      have hx : ObjOk X.prog X.w H s.heap dd (.xd fs) := I.hok dd _ ea
      obtain ⟨mA, hns, hr⟩ := hx
      obtain ⟨od, ho, hl⟩ := lookIn_ns hns
      have J : PySem.W.InstAt s.heap a oe D (some od) := ⟨hget, hz.1, by unfold PySem.W.notCls; rw [hv] <;> rfl, by rw [hz.2]; exact ho⟩
      exact PySem.W.kia_one (PySem.W.kitx_exc (by obtain ⟨cd, h, _⟩ := PySem.W.any_some C.hd; rw [h]; rfl) C.hg C.hk C.hs C.ha C.hn C.ht C.hm) I.kIn J e (fun z => nomatch z) fun tk => ⟨.bl b, H, I.kept (t' := tk) fun _ _ z => z, rfl, q⟩
theorem sel_is {x : Str} {cc : V} {cv : Value} {b : Bool} (C : ExcC X.K (EC c).1) (hz : Zc (.ref (EC c).1) d oe) (hf : ∃ vs, oe.data = .fields vs) (hN : X.N[i]? = some n) (hv : Vis X.env.scope n) (hk : PySem.W.kitOne X.K (.ref (EC c).1) cv = some b)
    (hx : PE (X.suite a ((a, oe) :: pn)) (.Name x p3) (tC cc)) (hcv : ∀ u, RelV cc u → u = cv) (hg : Gl X "isinstance") (hm : X.mg "isinstance" = none) (hd : (n == ("__debug__" : Str)) = false := by decide) (hcd : (n == ("__classdict__" : Str)) = false := by decide)
    (he : starEach [.Name n p2, .Name x p3] X.env = (false, eval (.Name n p2) X.env) :: starEach [.Name x p3] X.env := by rfl) (he2 : starEach [.Name x p3] X.env = (false, eval (.Name x p3) X.env) :: starEach [] X.env := by rfl) (hpl : (backTo pos (starEach [Expr.Name x p3] X.env)).any (·.1) = false := by rfl) :
    SEl (X.suite a ((a, oe) :: pn)) EC i a c d (.Call (.Name "isinstance" p) [.Name n p2, .Name x p3] [] pos) fun _ => .bool b := by
  refine ⟨_, pe_callB (X := X.suite a ((a, oe) :: pn)) (call_isD C hz hf) hg hm (by decide +kernel) (pa_cons (pe_var (X := X.suite a ((a, oe) :: pn)) hN hv hd hcd) (pa_cons hx pa_nil he2) he) (by decide) (by decide) he hpl, fun dd v pay C H σ Q e1 h1 h2 h3 h4 q => ⟨_, h2, cc, cv, b, dd, _, rfl, hcv, hk, h1, h3, q _ (.bl b)⟩⟩
end
end DL
end Part_DY

section Part_DZ
set_option Elab.async false
set_option linter.all false
set_option maxRecDepth 100000
set_option autoImplicit false
set_option maxHeartbeats 2000000
namespace DL
open PySem PySem.Spec PyProof.Rows L2 Evl
section
variable {P : Program} {w : World} {K : PySem.W.Frag} {mg : Str → Option Value} {base : Heap}
/-- what is asked of the class of an own error -/
structure ClsF (K : PySem.W.Frag) (C : Addr) (fld : Str) : Prop where
  oex : OexC K C
  xfc : XfC K C
  exc : ExcC K C
  nof : PySem.W.findIn K (.ref C) fld = some none
theorem clsF_mk {C : Addr} {fld : Str} {nm q : Str} {N : Addr} {bs bm : List Value} {sn : List Str} {sub : List Value} {ab : Bool} {col : Option Bool} {dd : Option Addr} {k0 k1 k2 k3 k5 : Option Value}
    (l : K.lookup C = some (excClassObj nm q C N bs bm true sn sub ab col dd k0 k1 k2 k3 k5 "ValueError.__new__")) (hbm : PySem.HandSPX.refsVE bm = true) (sa : PySem.W.findIn K (.ref C) "__setattr__" = some (some (.builtin "object.__setattr__")))
    (exC : PySem.W.subIn K (.ref C) (.type "BaseException") = some true) (tyC : PySem.W.typeIn K (.ref C) = some (.type "type")) (kC : PySem.W.keepIn K (.ref C) = true)
    (ga : PySem.W.findIn K (.ref C) "__getattribute__" = some (some (.builtin "BaseException.__getattribute__"))) (gg : PySem.W.findIn K (.ref C) "__getattr__" = some none) (hd : PySem.W.hasDictIn K C = true)
    (ha : PySem.W.findIn K (.ref C) "__class__" = some (some (.builtin "object.__class__"))) (hn : PySem.W.specialIn K (.builtin "object.__class__") "__get__" = some (some (.builtin "getset_descriptor.__get__"))) (ht : PySem.W.takesIn K (.builtin "object.__class__") = some true)
    (hm : PySem.W.mroIn K C (.type "object") = some true) (nof : PySem.W.findIn K (.ref C) fld = some none) : ClsF K C fld :=
  ⟨⟨⟨nm, q, N, bs, bm, sn, sub, ab, col, dd, k0, k1, k2, k3, k5, l, hbm⟩, sa, exC, tyC, kC⟩, ⟨ga, gg, exC, hd⟩, ⟨ga, gg, exC, hd, ha, hn, ht, hm⟩, nof⟩
theorem errX_mk {h : Heap} {x par fld qual : Str} {C fI c cc : Addr} {oc ccl cl doc pm kV ct : Value} {od an cdd cld : Option Addr} {osl ccs csl : Array (Option Value)} {params : Arguments} {scope : Scope} {e : Expr} {p0 p1 p2 p3 p4 p5 p6 p7 p8 : Pos} {ar : Arg} {ar2 : List Arg} {vs : Array Value} {file : Str} {tf : Tok} {cd : ClassData} {t : D → Bool}
    (T : V → Prop) (X : K.In h) (G : h.Ns mainGlobals mg) (F : ClsF K C fld) (a : PySem.W.nsIn K mainGlobals x = some (some (.ref C))) (b : PySem.W.findIn K (.ref C) "__init__" = some (some (.ref fI))) (tI : PySem.W.typeIn K (.ref fI) = some (.type "function"))
    (l : K.lookup fI = some ⟨oc, od, .func (PySem.W.fnX "__init__" qual params [.Expr (.Call (.Attribute (.Call (.Name "super" p0) [] [] p1) "__init__" p2) [e] [] p3) p4, .Assign [.Attribute (.Name "self" p5) fld p6] (.Name par p7) p8] scope [("__class__", cc)] .none kV doc pm an (.ref c) ct), osl⟩)
    (ci : PySem.W.codeIn K (.ref c) qual = true) (S : NdefX.NScope [("self" : Str), par, "__class__"] [("self" : Str), par] ["__class__"] scope) (hsup : scope.names.lookup ("super" : Str) = some .globalImplicit)
    (hp : (params.posonlyargs ++ params.args) = ar :: ar2) (har : ar.arg = "self") (lc : K.lookup c = some ⟨ccl, cdd, .fields vs, ccs⟩) (hvs : vs[2]? = some (.str file tf)) (hfile : ((P.main.file : Str) == file) = true) (htop : (P.main.scope.names.lookup ("super" : Str)).isSome = false)
    (lcc : K.lookup cc = some ⟨cl, cld, .cell (some (.ref C)), csl⟩) (hcls : PySem.W.clsIn K C = some cd) (hmro : PySem.W.mroIn K C (.ref C) = some true) (hsg : PySem.W.nsIn K mainGlobals "super" = some none) (hst : PySem.W.nsIn K cStatics "thirdparty.any" = some none)
    (hsu : PySem.W.alongIn K "__init__" ((cd.mro.dropWhile (· != .ref C)).drop 1) = some (some (.builtin "ValueError.__init__"))) (hB : PySem.W.subIn K (.ref C) (.type "ValueError") = some true)
    (hev : ∀ env : Env, ∃ pl : Sem Bool, eval (.Call (.Attribute (.Call (.Name "super" p0) [] [] p1) "__init__" p2) [e] [] p3) env = (do
      let ov ← attributeBase (.Call (.Name "super" p0) [] [] p1) "__init__" env (eval (.Call (.Name "super" p0) [] [] p1) env)
      standAt p2.atName
      let (f, first) ← holding [ov] (getMethod ov "__init__" pl)
      callWith p3 f first (backTo p3 (starEach [e] env)) [])) (hse : ∀ env : Env, starEach [e] env = (false, eval e env) :: starEach [] env) (pd1 : (par == ("__debug__" : Str)) = false) (pd2 : (par == ("__classdict__" : Str)) = false)
    (hsw : ∀ env : Env, swapsWith (.Name par p7) (some (.Attribute (.Name "self" p5) fld p6)) p8.line env = pure false)
    (hb : ∀ (us : List Value), us.length = 2 → bindArgs (PySem.W.fnX "__init__" qual params [.Expr (.Call (.Attribute (.Call (.Name "super" p0) [] [] p1) "__init__" p2) [e] [] p3) p4, .Assign [.Attribute (.Name "self" p5) fld p6] (.Name par p7) p8] scope [("__class__", cc)] .none kV doc pm an (.ref c) ct) ⟨us, []⟩ = pure ([("self" : Str), par].zip us))
    (he : ∀ (X : Cx), X.prog = P → X.K = K → X.mg = mg → X.N = [("self" : Str), par, "__class__"] → Vis X.env.scope par → ∃ te, PE X e te ∧ ∀ (a : Addr) (y : V) H Q, T y → (∀ v, Q v H) → te [some (.ref a), some y, none] H Q)
    (hT : ∀ C v d, Dq K C v d → t d = true → T v) : ErrX P w K mg base 1 x (C, fld) t := by
  refine ⟨fI, _, [("self" : Str), par], T, F.oex, b, tI, init_ok (k := 0) (CX := CX0) (e := e) (par := par) ⟨⟨oc, od, osl, kV, doc, pm, an, c, cc, ct, params, _, scope, p0, p1, p2, p3, p4, p5, p6, p7, p8, ar, ar2, ccl, cl, cdd, cld, ccs, csl, vs, file, tf, cd, 0, rfl, l, ci, rfl, S, hsup, hp, har, lc, hvs, hfile, htop, lcc, hcls, hmro, PySem.W.mg_none_of X G hsg, hst, ?_, hB, F.nof, rfl, hev, hse, pd1, pd2, hsw⟩, F.oex⟩ he, ?_, PySem.W.mg_of X G a, hT⟩
  · unfold PySem.W.ks_superIn
    rw [hcls]
    exact hsu
  · exact binds_of fun s us hl => .of_eq (hb us hl)
theorem kit_ref {t : Value} {A : Addr} {cd : ClassData} {b : Bool} (h1 : PySem.W.clsIn K A = some cd) (h2 : PySem.W.typeIn K (.ref A) = some (.type "type")) (h3 : PySem.W.subIn K t (.ref A) = some b) (hne : (t == .ref A) = false) : PySem.W.kitOne K t (.ref A) = some b := by
  unfold PySem.W.kitOne
  rw [hne, if_neg Bool.false_ne_true]
  show (if ((PySem.W.clsIn K A).isSome && PySem.W.typeIn K (.ref A) == some (.type "type")) = true then PySem.W.subIn K t (.ref A) else none) = _
  rw [h1, h2, if_pos (by rfl)]
  exact h3
theorem kit_typ {A : Addr} {T : String} {b : Bool} (h1 : PySem.W.kitMeta T = true) (h3 : PySem.W.subIn K (.ref A) (.type T) = some b) : PySem.W.kitOne K (.ref A) (.type T) = some b := by
  unfold PySem.W.kitOne
  rw [if_neg (by simp)]
  show (if PySem.W.kitMeta T = true then PySem.W.subIn K (.ref A) (.type T) else none) = _
  rw [if_pos h1]
  exact h3
end

/-- f'text{par}', par a small int -/
def TInt : V → Prop := fun v => ∃ i : Int, v = .int i ∧ 0 ≤ i ∧ i < 1000000000
def tInt : D → Bool
  | .int i => decide (0 ≤ i) && decide (i < 1000000000)
  | _ => false
theorem tInt_ok {K : PySem.W.Frag} : ∀ C v d, Dq K C v d → tInt d = true → TInt v := by
  intro C v d h q
  cases h <;> first | (cases q; done) | skip
  rename_i i
  obtain ⟨h1, h2⟩ := Bool.and_eq_true_iff.mp q
  exact ⟨i, rfl, of_decide_eq_true h1, of_decide_eq_true h2⟩
theorem num_log {n : Nat} (h : n < 1000000000) : n.log2 < 1920 := by
  by_cases q : n = 0
  · rw [q]; decide
  · exact (Nat.log2_lt q).mpr (Nat.lt_of_lt_of_le h (by decide +kernel))
theorem fstr_he {m par : Str} {j : Nat} {p q r s : Pos} (hm : m.length ≤ 1000) (X : Cx) (hN : X.N = [("self" : Str), par, "__class__"]) (hv : Vis X.env.scope par) (pd1 : (par == ("__debug__" : Str)) = false) (pd2 : (par == ("__classdict__" : Str)) = false) :
    ∃ te, PE X (.JoinedStr [.Constant (.str m) j p, .FormattedValue (.Name par q) (-1) none r] s) te ∧ ∀ (a : Addr) (y : V) H Q, TInt y → (∀ v, Q v H) → te [some (.ref a), some y, none] H Q := by
  refine ⟨_, pe_joined (.cons pe_str (.cons (pe_fmt (pe_var (i := 1) (by rw [hN] <;> rfl) hv pd1 pd2)) .nil)), fun a y H Q hy h => ?_⟩
  obtain ⟨i, rfl, h0, h1⟩ := hy
  obtain ⟨n, rfl⟩ := Int.eq_ofNat_of_zero_le h0
  have hl : (Str.ofString (toString ((n : Nat) : Int))).length ≤ 10 := by
    rw [SX.num_S, SX.S_len]
    exact Nat.le_trans (TL.numL_len (k := 9) (by decide) (by omega)) (by decide)
  have ln : ∀ a b : Str, (a ++ b).length = a.length + b.length := fun a b => by
    show (a.cps ++ b.cps).size = _
    rw [Array.size_append]
    rfl
  refine ⟨m, rfl, ?_, .int n, rfl, .inr ⟨n, rfl, num_log (n := n) (by omega), _, rfl, ?_, h _⟩⟩
  · rw [ln, sizeLine_eq]
    show 0 + _ ≤ _
    omega
  · rw [ln, ln, sizeLine_eq]
    show 0 + _ + _ ≤ _
    have : (Str.ofString (toString ((n : Nat) : Int))).length ≤ 10 := hl
    omega
end DL
end Part_DZ

section Part_DV
set_option Elab.async false
set_option linter.all false
set_option maxRecDepth 100000
set_option autoImplicit false
set_option maxHeartbeats 2000000
namespace DL
open PySem PySem.Spec PyProof.Rows L2 Evl
/-! ### written values as data -/
def listIn (f : Value → Option D) : List Value → Option (List D)
  | [] => some []
  | u :: us => match f u, listIn f us with
    | some d, some ds => some (d :: ds)
    | _, _ => none
def dataIn (K : PySem.W.Frag) : Nat → Value → Option D
  | 0, u => flatU u
  | n + 1, u => match u with
    | .ref a => (match K.lookup a with
      | some ⟨.type c, _, .seq us _, _⟩ => if c = "tuple" ∧ us.size ≤ 100000 then (listIn (dataIn K n) us.toList).map .tuple else none
      | _ => none)
    | u => flatU u
def Says (K : PySem.W.Frag) (u : Value) (d : D) : Prop := ∃ v, RelV v u ∧ ∀ C, Dq K C v d
theorem says_flat {K : PySem.W.Frag} {u : Value} {d : D} (h : flatU u = some d) : Says K u d := let ⟨v, r, q⟩ := flatU_ok h; ⟨v, r, fun C => q K C⟩
theorem listIn_ok {K : PySem.W.Frag} {f : Value → Option D} (hf : ∀ u d, f u = some d → Says K u d) : ∀ {us : List Value} {ds : List D}, listIn f us = some ds → ∃ vs, Vals vs us ∧ ∀ C, DqAll K C vs ds
  | [], _, h => by cases h; exact ⟨[], .nil, fun _ => .nil⟩
  | u :: us, ds, h => by
    unfold listIn at h
    split at h
    · rename_i d ds' h1 h2
      cases h
      obtain ⟨v, r, q⟩ := hf u d h1
      obtain ⟨vs, rs, qs⟩ := listIn_ok hf h2
      exact ⟨v :: vs, .cons r rs, fun C => .cons (q C) (qs C)⟩
    · cases h
theorem dataIn_ok {K : PySem.W.Frag} : ∀ (n : Nat) (u : Value) (d : D), dataIn K n u = some d → Says K u d
  | 0, u, d, h => says_flat h
  | n + 1, u, d, h => by
    unfold dataIn at h
    split at h
    · rename_i a
      split at h
      · rename_i c dd us m sl hl
        split at h
        · rename_i hc
          obtain ⟨hc, hz⟩ := hc
          subst hc
          cases q : listIn (dataIn K n) us.toList with
          | none => rw [q] at h; cases h
          | some ds =>
            rw [q] at h
            cases h
            obtain ⟨vs, rs, qs⟩ := listIn_ok (dataIn_ok n) q
            exact ⟨.ref a, rfl, fun C => .tup (.inr ⟨_, us, m, hl, rfl, rfl, by rw [sizeLine_eq]; omega, rs⟩) (qs C)⟩
        · cases h
      · cases h
    · exact says_flat h

/-! ### written dicts with text keys -/
def getT {α : Type} (t : List (Str × α)) (z : Str) : Option α := (t.find? fun p => p.1 == z).map (·.2)
/-- the entries of a written dict, as a table: each value by R -/
inductive TabR {α : Type} (R : Value → α → Prop) : List DictEntry → List (Str × α) → Prop
  | nil : TabR R [] []
  | cons {e : DictEntry} {p : Str × α} {es : List DictEntry} {ps : List (Str × α)} {t : Tok} : e.key = .str p.1 t → R e.val p.2 → TabR R es ps → TabR R (e :: es) (p :: ps)
theorem TabR.get {α : Type} {R : Value → α → Prop} {es : List DictEntry} {ps : List (Str × α)} (h : TabR R es ps) (z : Str) :
    (∃ e d, es.find? (·.key.isStr z) = some e ∧ getT ps z = some d ∧ R e.val d) ∨ (es.find? (·.key.isStr z) = none ∧ getT ps z = none ∧ es.any (·.refKey) = false) := by
  induction h with
  | nil => exact .inr ⟨rfl, rfl, rfl⟩
  | @cons e p es ps t h1 h2 h3 ih =>
    by_cases q : (p.1 == z) = true
    · refine .inl ⟨e, p.2, ?_, ?_, h2⟩
      · rw [List.find?_cons, h1]
        show (match (p.1 == z) with | true => some e | false => _) = _
        rw [q]
      · unfold getT
        rw [List.find?_cons, q]
        rfl
    · have q' : (p.1 == z) = false := by simpa using q
      have e1 : (e :: es).find? (·.key.isStr z) = es.find? (·.key.isStr z) := by
        rw [List.find?_cons, h1]
        show (match (p.1 == z) with | true => some e | false => _) = _
        rw [q']
      have e2 : getT (p :: ps) z = getT ps z := by
        unfold getT
        rw [List.find?_cons, q']
      have e3 : (e :: es).any (·.refKey) = es.any (·.refKey) := by
        rw [List.any_cons]
        have : e.refKey = false := by
          unfold DictEntry.refKey
          rw [h1]
        rw [this, Bool.false_or]
      rw [e1, e2, e3]
      exact ih
structure TabX (K : PySem.W.Frag) (w : World) (mg : Str → Option Value) (x : Str) {α : Type} (R : Value → α → Prop) (t : List (Str × α)) : Prop where
  ex : ∃ a es n, mg x = some (.ref a) ∧ KDict K w a es n ∧ TabR R es.toList t
theorem tab_ns {K : PySem.W.Frag} {w : World} {α : Type} {R : Value → α → Prop} {t : List (Str × α)} {a : Addr} {es : Array DictEntry} {n : Nat} (D : KDict K w a es n) (T : TabR R es.toList t) (z : Str) :
    (∃ u d, PySem.W.nsIn K a z = some (some u) ∧ getT t z = some d ∧ R u d) ∨ (PySem.W.nsIn K a z = some none ∧ getT t z = none) := by
  unfold PySem.W.nsIn
  rw [D.at_]
  dsimp only
  rcases T.get z with ⟨e, d, h1, h2, h3⟩ | ⟨h1, h2, h3⟩
  · refine .inl ⟨e.val, d, ?_, h2, h3⟩
    rw [h1]
  · refine .inr ⟨?_, h2⟩
    rw [h1, h3]
    rfl
/-- from what is written: data -/
def dataB (f : Value → Option D) : List DictEntry → Option (List (Str × D))
  | [] => some []
  | e :: r => match e.key, f e.val, dataB f r with
    | .str x _, some d, some t => some ((x, d) :: t)
    | _, _, _ => none
theorem dataB_ok {K : PySem.W.Frag} {n : Nat} : ∀ {es : List DictEntry} {t : List (Str × D)}, dataB (dataIn K n) es = some t → TabR (Says K) es t
  | [], _, h => by cases h; exact .nil
  | e :: es, t, h => by
    unfold dataB at h
    split at h
    · rename_i x tk d t' h1 h2 h3
      cases h
      exact .cons (t := tk) h1 (dataIn_ok n _ _ h2) (dataB_ok h3)
    · cases h
/-- .. defs, by their names -/
def funsB (K : PySem.W.Frag) : List DictEntry → List (Str × Str) → Bool
  | [], [] => true
  | e :: r, p :: ps => (match e.key with | .str x _ => decide (x = p.1) | _ => false) && (match PySem.W.nsIn K mainGlobals p.2, e.val with | some (some (.ref a)), .ref b => decide (a = b) | _, _ => false) && funsB K r ps
  | _, _ => false
theorem funsB_ok {K : PySem.W.Frag} {h : Heap} {mg : Str → Option Value} (X : K.In h) (G : h.Ns mainGlobals mg) : ∀ {es : List DictEntry} {t : List (Str × Str)}, funsB K es t = true → TabR (fun u py => mg py = some u) es t
  | [], [], _ => .nil
  | e :: es, p :: ps, h => by
    unfold funsB at h
    rw [Bool.and_eq_true, Bool.and_eq_true] at h
    obtain ⟨⟨h1, h2⟩, h3⟩ := h
    split at h1
    · rename_i x tk hk
      have hx := of_decide_eq_true h1
      subst hx
      refine .cons (t := tk) hk ?_ (funsB_ok X G h3)
      split at h2
      · rename_i a b e1 e2
        have := of_decide_eq_true h2
        subst this
        rw [e2]
        exact PySem.W.mg_of X G e1
      · cases h2
    · cases h1
  | [], _ :: _, h => by cases h
  | _ :: _, [], h => by cases h
theorem tab_data {K : PySem.W.Frag} {w : World} {mg : Str → Option Value} {h : Heap} {x : Str} {a : Addr} {es : Array DictEntry} {n : Nat} {t : List (Str × D)} {ks : List Str} (X : K.In h) (G : h.Ns mainGlobals mg) (g : PySem.W.nsIn K mainGlobals x = some (some (.ref a)))
    (l : K.lookup a = some ⟨.type "dict", none, .dict es n, #[]⟩) (lit : es.toList.map He.keyOf = He.keysIn w.params ks) (low : (a == sysModules) = false) (hd : dataB (dataIn K 3) es.toList = some t) : TabX K w mg x (Says K) t :=
  ⟨a, es, n, PySem.W.mg_of X G g, ⟨l, He.keysLit_of lit, low⟩, dataB_ok hd⟩
theorem tab_funs {K : PySem.W.Frag} {w : World} {mg : Str → Option Value} {h : Heap} {x : Str} {a : Addr} {es : Array DictEntry} {n : Nat} {t : List (Str × Str)} {ks : List Str} (X : K.In h) (G : h.Ns mainGlobals mg) (g : PySem.W.nsIn K mainGlobals x = some (some (.ref a)))
    (l : K.lookup a = some ⟨.type "dict", none, .dict es n, #[]⟩) (lit : es.toList.map He.keyOf = He.keysIn w.params ks) (low : (a == sysModules) = false) (hd : funsB K es.toList t = true) : TabX K w mg x (fun u py => mg py = some u) t :=
  ⟨a, es, n, PySem.W.mg_of X G g, ⟨l, He.keysLit_of lit, low⟩, funsB_ok X G hd⟩

section
variable {X : Cx} {EC : ECl} {W : WX} {a b c e : Expr} {es : List Expr} {ma mb mc : M D} {mes : M (List D)} {pos p p2 : Pos} {x : Str} {α : Type} {R : Value → α → Prop} {t : List (Str × α)} {td : List (Str × D)}
def dInK {α : Type} (t : List (Str × α)) : D → Option D
  | .str z => some (.bool (getT t z).isSome)
  | _ => none
def dGetK (t : List (Str × D)) : D → Option D
  | .str z => getT t z
  | _ => none
theorem inK_read (T : TabX X.K X.w X.mg x R t) : ∃ a es n, X.mg x = some (.ref a) ∧ KDict X.K X.w a es n ∧ ∀ (d z : D) (v : V) (C H : Hp) (Q : VK), Ex C H → Dq X.K C v d → dInK t d = some z → Rs X.K C H z Q →
    ∃ (z : Str) (r : Option Value), v = .str z ∧ V.ref a = .ref a ∧ PySem.W.nsIn X.K a z = some r ∧ Q (.bl r.isSome) H := by
  obtain ⟨a, es, n, hm, D, TT⟩ := T.ex
  refine ⟨a, es, n, hm, D, fun d z v C H Q e hv hz q => ?_⟩
  unfold dInK at hz
  split at hz
  · rename_i s
    cases hz
    cases hv
    rcases tab_ns D TT s with ⟨u, d, h1, h2, h3⟩ | ⟨h1, h2⟩
    · rw [h2] at q
      exact ⟨s, _, rfl, rfl, h1, q.1 _ (.bl _)⟩
    · rw [h2] at q
      exact ⟨s, _, rfl, rfl, h1, q.1 _ (.bl _)⟩
  · cases hz
theorem de_inK (T : TabX X.K X.w X.mg x R t) (ha : DE X EC W a ma) (hg : Gl X x := by rfl) (hdb : (x == ("__debug__" : Str)) = false := by decide) : DE X EC W (.Compare a [.In] [.Name x p] pos) (mUn (dInK t) ma) := by
  obtain ⟨ta, pa, ra⟩ := ha.ex
  obtain ⟨ad, es, n, hm, D, rd⟩ := inK_read T
  refine ⟨_, pe_cmpR (op_in_kd D) pa (pe_glob (v := .ref ad) hg hm rfl hdb) rfl, fun C0 H0 B C H σ δ Q S h => ra C0 H0 B C H σ δ _ S (RP.imp (RP.bind h) (fun x δ1 h1 v C1 H1 e1 S1 d1 => ?_) fun c d δ h => h)⟩
  obtain ⟨z, hz, q⟩ := RP.lift h1
  exact rd x z v C1 H1 Q S1.ch d1 hz (rs_of S1 (PKe.mono e1 _ _ q))
theorem dt_inK (T : TabX X.K X.w X.mg x R t) (ha : DE X EC W a ma) (hg : Gl X x := by rfl) (hdb : (x == ("__debug__" : Str)) = false := by decide) : DT X EC W (.Compare a [.In] [.Name x p] pos) (mT (mUn (dInK t) ma)) := by
  obtain ⟨ta, pa, ra⟩ := ha.ex
  obtain ⟨ad, es, n, hm, D, rd⟩ := inK_read T
  refine ⟨_, pt_cmpR (op_in_kd D) pa (pe_glob (v := .ref ad) hg hm rfl hdb) rfl, fun C0 H0 B C H σ δ Q S h => ra C0 H0 B C H σ δ _ S (RP.imp (RP.bind (RP.bind h)) (fun x δ1 h1 v C1 H1 e1 S1 d1 => ?_) fun c d δ h => h)⟩
  obtain ⟨z, hz, q⟩ := RP.lift h1
  refine rd x z v C1 H1 (fun x H' => ∃ k, x = .bl k ∧ Q k H') S1.ch d1 hz (rs_of (Q := fun x H' => ∃ k, x = .bl k ∧ Q k H') S1 fun u C3 H3 e3 S3 d3 => ?_)
  split at q
  · rename_i k
    cases d3
    exact ⟨k, rfl, q C3 H3 (e1.trans e3) S3⟩
  · exact q.elim
theorem de_getK (T : TabX X.K X.w X.mg x (Says X.K) td) (hb : DE X EC W b mb) (hs : PlainIx b := by intro _ _; rfl) (hg : Gl X x := by rfl) (hdb : (x == ("__debug__" : Str)) = false := by decide) : DE X EC W (.Subscript (.Name x p) b pos) (mUn (dGetK td) mb) := by
  obtain ⟨tb, pb, rb⟩ := hb.ex
  obtain ⟨ad, es, n, hm, Dd, TT⟩ := T.ex
  refine ⟨_, pe_ix ix_kdict (pe_glob (v := .ref ad) hg hm rfl hdb) pb hs, fun C0 H0 B C H σ δ Q S h => rb C0 H0 B C H σ δ _ S (RP.imp (RP.bind h) (fun y δ1 h1 v C1 H1 e1 S1 d1 => ?_) fun c d δ h => h)⟩
  obtain ⟨z, hz, q⟩ := RP.lift h1
  unfold dGetK at hz
  split at hz
  · rename_i s
    cases d1
    rcases tab_ns Dd TT s with ⟨u, d, g1, g2, v', r', g3⟩ | ⟨g1, g2⟩
    · rw [g2] at hz
      cases hz
      exact ⟨ad, s, v', rfl, rfl, ⟨es, n, u, Dd.at_, Dd.lit, g1, r'⟩, (rs_of S1 (PKe.mono e1 _ _ q)).1 v' (g3 C1)⟩
    · rw [g2] at hz
      cases hz
  · cases hz

/-! ### sorted(d) of a written dict -/
theorem lt_irr {a b : Str} (h1 : ltCps a.cps.toList b.cps.toList = false) (h2 : ltCps b.cps.toList a.cps.toList = false) : a = b := by
  have key : ∀ (x y : List Nat), ltCps x y = false → ltCps y x = false → x = y := by
    intro x
    induction x with
    | nil => intro y h1 h2; cases y with | nil => rfl | cons b y => exact absurd h1 (by simp [ltCps])
    | cons a x ih =>
      intro y h1 h2
      cases y with
      | nil => exact absurd h2 (by simp [ltCps])
      | cons b y =>
        by_cases q : a = b
        · subst q
          simp [ltCps] at h1 h2
          rw [ih y h1 h2]
        · exfalso
          simp [ltCps, q, Ne.symm q] at h1 h2
          omega
  have := key _ _ h1 h2
  cases a; cases b
  simp only [Str.mk.injEq]
  exact Array.toList_inj.mp this
end
end DL
end Part_DV

section Part_DW
set_option Elab.async false
set_option linter.all false
set_option maxRecDepth 100000
set_option autoImplicit false
set_option maxHeartbeats 2000000
namespace DL
open PySem PySem.Spec PyProof.Rows L2 Evl
/-! ### sorted(d) of a written dict -/
theorem rising_pw : ∀ (l : List Str) (p : Str), risingS p l = true → (∀ z : List Nat, True) → (p :: l).Pairwise (fun a b => ltCps b.cps.toList a.cps.toList = false) := by
  have tr : ∀ (a b c : List Nat), ltCps b a = false → ltCps c b = false → ltCps c a = false := by
    intro a
    induction a with
    | nil => intro b c h1 h2; cases b with
      | nil => exact h2
      | cons y b => cases c with
        | nil => exact absurd h2 (by simp [ltCps])
        | cons z c => simp [ltCps]
    | cons x a ih =>
      intro b c h1 h2
      cases b with
      | nil => exact absurd h1 (by simp [ltCps])
      | cons y b =>
        cases c with
        | nil => exact absurd h2 (by simp [ltCps])
        | cons z c =>
          simp only [ltCps, Bool.or_eq_false_iff, Bool.and_eq_false_iff, decide_eq_false_iff_not, beq_eq_false_iff_ne] at h1 h2 ⊢
          refine ⟨by omega, ?_⟩
          by_cases q : z = x
          · right
            subst q
            have e : y = z := by omega
            subst e
            refine ih b c ?_ ?_
            · rcases h1.2 with h | h
              · exact absurd rfl h
              · exact h
            · rcases h2.2 with h | h
              · exact absurd rfl h
              · exact h
          · exact .inl q
  intro l
  induction l with
  | nil => intro p _ _; simp
  | cons x r ih =>
    intro p h _
    have h : (!ltCps x.cps.toList p.cps.toList && risingS x r) = true := h
    rw [Bool.and_eq_true, Bool.not_eq_true'] at h
    have h2 := ih x h.2 fun _ => trivial
    refine List.pairwise_cons.mpr ⟨fun y hy => ?_, h2⟩
    rcases List.mem_cons.mp hy with e | hy
    · rw [e]; exact h.1
    · exact tr _ _ _ h.1 ((List.pairwise_cons.mp h2).1 y hy)
theorem sorted_pw {l : List Str} (h : sortedS l = true) : l.Pairwise (fun a b => ltCps b.cps.toList a.cps.toList = false) := by
  cases l with
  | nil => simp
  | cons x r => exact rising_pw r x h fun _ => trivial
theorem pw_uniq : ∀ {l m : List Str}, l.Perm m → l.Pairwise (fun a b => ltCps b.cps.toList a.cps.toList = false) → m.Pairwise (fun a b => ltCps b.cps.toList a.cps.toList = false) → l = m := by
  intro l m p h1 h2
  induction l generalizing m with
  | nil => exact (List.nil_perm.mp p).symm
  | cons x r ih =>
    cases m with
    | nil => exact absurd p.symm.length_eq (by simp)
    | cons y t =>
      have hx : x = y := by
        have a1 : x ∈ y :: t := p.subset List.mem_cons_self
        have a2 : y ∈ x :: r := p.symm.subset List.mem_cons_self
        rcases List.mem_cons.mp a1 with e | a1
        · exact e
        rcases List.mem_cons.mp a2 with e | a2
        · exact e.symm
        exact lt_irr ((List.pairwise_cons.mp h2).1 x a1) ((List.pairwise_cons.mp h1).1 y a2)
      subst hx
      rw [ih (List.Perm.cons_inv p) (List.pairwise_cons.mp h1).2 (List.pairwise_cons.mp h2).2]
theorem sorted_uniq {l m : List Str} (p : l.Perm m) (h1 : sortedS l = true) (h2 : sortedS m = true) : l = m := pw_uniq p (sorted_pw h1) (sorted_pw h2)
theorem TabR.at_ {α : Type} {RR : Value → α → Prop} {es : List DictEntry} {ps : List (Str × α)} (h : TabR RR es ps) : es.length = ps.length ∧ ∀ (j : Nat) (e : DictEntry), es[j]? = some e → ∃ (x : Str) (t : Tok), (ps.map (·.1))[j]? = some x ∧ e.key = .str x t := by
  induction h with
  | nil => exact ⟨rfl, fun j e h => by simp at h⟩
  | @cons e p es ps t h1 h2 h3 ih =>
    refine ⟨by simp [ih.1], fun j e' h => ?_⟩
    cases j with
    | zero =>
      simp at h
      subst h
      exact ⟨p.1, t, by simp, h1⟩
    | succ j => simpa using ih.2 j e' (by simpa using h)
section
variable {X : Cx} {α : Type} {RR : Value → α → Prop} {t : List (Str × α)}
theorem call_sortedK {a : Addr} {es : Array DictEntry} {n : Nat} (hcalm : X.calm = true) (Dd : KDict X.K X.w a es n) (T : TabR RR es.toList t) (h64 : t.length < 64) : CallR X (.builtin "sorted") (fun xs H Q => xs = [.ref a] ∧
    ∀ ys p, ys.Perm (t.map (·.1)) → sortedS ys = true → H p = none → Q (.ref p) (upd H p (.lst (ys.map V.str)))) := by
  intro pins s σ H xs us Q I r q
  obtain ⟨ex, q⟩ := q
  subst ex
  obtain ⟨u, eu, rx⟩ := vals1 r
  subst eu
  cases rx
  have hat := I.kIn _ _ Dd.at_
  have hl : es.size = t.length := by rw [← Array.length_toList]; exact T.at_.1
  have h16 : es.size ≤ sizeLine := by rw [hl, sizeLine_eq]; omega
  refine Calls.call_function_entry PyProof.Rows.kind_sorted PyProof.Rows.plain_sorted PyProof.Rows.entry_sorted (PyProof.Rows.args_sorted1 _) ?_
  unfold Builtin.«sorted»
  refine wpAny_bind (m := checkCount "sorted" 1 1 _) (wpAny_pure ?_)
  refine wpAny_bind (PySem.W.kdu_collect (A := X.A.in1) (kdl_raw (d := a) Dd.low ⟨rfl, rfl, rfl⟩ rfl) (I.ok.hd hcalm) hat h16 fun h' tk acc hk hacc => ?_)
  have hal : acc.toList.length = (t.map (·.1)).length := by rw [Array.length_toList, hacc.1, hl, List.length_map]
  have hS : StrsAre acc.toList (t.map (·.1)) := strs_at hal fun j v e => by
    obtain ⟨en, e1, e2⟩ := hacc.2 j v (by rw [← Array.getElem?_toList]; exact e)
    obtain ⟨x, tk', g1, g2⟩ := T.at_.2 j en (by rw [Array.getElem?_toList]; exact e1)
    exact ⟨x, tk', g1, by rw [e2, g2]⟩
  have h64 : acc.toList.length < 64 := by rw [hal, List.length_map]; exact h64
  have I1 : Inv X pins σ H { s with heap := h', toks := tk } := I.kept hk
  refine wpAny_bind (wpAny_newList ?_ (by rw [sizeLine_eq]; omega))
  have hoL : (h'.push (seqObj "list" acc.toList.toArray 0)).get? h'.objs.size = some (seqObj "list" acc.toList.toArray 0) := Heap.get?_push_size _ rfl
  show wpAny _ _ _ _ _ { s with heap := h'.push (seqObj "list" acc.toList.toArray 0), toks := tk }
  refine wpAny_bind (wpAny_holding (wpAny_call_entry PyProof.Rows.slot_list_sort ⟨_, hoL, rfl⟩ PyProof.Rows.entry_list_sort
    (list_sort_treeK strKind_oneLt (s := { s with heap := h'.push (seqObj "list" acc.toList.toArray 0), toks := tk }) hoL hS.keysOf (fun v₁ v₂ rest e => keyKind_strs (by rw [← e]; exact hS)) h64 fun st' hp hs => ⟨_, rfl, ?_⟩)
    (PyProof.Rows.args_list_sort _)))
  obtain ⟨ys, g1, g2, g3⟩ := sorted_out_str hS hp hs
  obtain ⟨e', he'⟩ := PyProof.Rows.sortedHeap_at (vs := acc.toList) (out := (arrOf st').map (·.2)) hoL
  have hlen : (ys.map V.str).length ≤ sizeLine := by
    rw [List.length_map, g2.length_eq, ← hal]
    exact Nat.le_trans (Nat.le_of_lt h64) (by decide)
  refine wpAny_pure ⟨_, rfl, .ref h'.objs.size, upd H h'.objs.size (.lst (ys.map V.str)), I1.laid (t' := tk) (fun b u e => ?_) (Nat.le_refl _)
    (show ObjOk X.prog X.w _ _ _ (.lst (ys.map V.str)) from ⟨hlen, ((arrOf st').map (·.2)).toList, e', vals_of_strs g1, by rw [Array.toArray_toList]; exact he'⟩), rfl, q ys _ g2 g3 (I1.hok.fresh (Nat.le_refl _))⟩
  have hb : b < h'.objs.size := Heap.lt_size e
  rw [PyProof.Rows.sortedHeap_old (Nat.ne_of_lt hb) (by rw [size_push']; exact Nat.lt_succ_of_lt hb)]
  exact Heap.get?_push_of_some _ e
end
section
variable {X : Cx} {EC : ECl} {W : WX} {a b c e : Expr} {es : List Expr} {ma mb mc : M D} {mes : M (List D)} {pos p p2 sp_ : Pos} {x y : Str} {α : Type} {RR : Value → α → Prop} {t : List (Str × α)} {td : List (Str × D)}
theorem de_sortK (T : TabX X.K X.w X.mg x RR t) (hc : X.calm = true) (h64 : t.length < 64) (hs : sortedS (t.map (·.1)) = true) (hm : X.mg "sorted" = none) (hg1 : Gl X "sorted" := by rfl) (hg : Gl X x := by rfl) (hdb : (x == ("__debug__" : Str)) = false := by decide)
    (he : starEach [.Name x p2] X.env = (false, eval (.Name x p2) X.env) :: starEach [] X.env := by rfl) :
    DE X EC W (.Call (.Name "sorted" p) [.Name x p2] [] pos) (mC (.list (t.map fun q => .str q.1))) := by
  obtain ⟨ad, es, n, hmx, Dd, TT⟩ := T.ex
  refine ⟨_, pe_callB (call_sortedK hc Dd TT h64) hg1 hm (by decide +kernel) (pa_cons (pe_glob (v := .ref ad) hg hmx rfl hdb) pa_nil he) (by decide) (by decide) he (by rfl), fun C0 H0 B C H σ δ Q S h => ⟨rfl, fun ys p' g1 g2 g3 => ?_⟩⟩
  have e1 := sorted_uniq g1 g2 hs
  subst e1
  refine h (.ref p') _ _ (Ex.new (free_of S.ch g3)) (S.new g3) (.lst (SqL.of upd_same) ?_)
  have : ∀ l : List (Str × α), DqAll X.K (upd C p' (.lst ((t.map (·.1)).map V.str))) ((l.map (·.1)).map V.str) (l.map fun q => .str q.1) := fun l => by
    induction l with
    | nil => exact .nil
    | cons q r ih => exact .cons (.str _) ih
  exact this t

/-! ### calls with a star -/
theorem pe_starCall {f : Addr} {fd : FuncData} {ps : List Str} {k : Nat} {sp : Sp} {te : TE} {s : Shared} {pins : List (Addr × Obj)} {σ : L2.St} {H : Hp} {Q : VK} (F : FnOk X.prog X.w X.K X.mg X.base CX0 k f fd ps sp) (hr : Room k X.A) (hk : PySem.W.keepIn X.K (.ref f) = true) (hb : Binds X.K fd ps []) (he : PE X e te) (I : Inv X pins σ H s)
    (ht : te σ H fun y H1 => ∃ a xs, y = V.ref a ∧ (SqT X.K H1 a xs ∨ SqL X.K H1 a xs) ∧ sp xs H1 Q (fun _ _ _ => False)) (hst : starEach [.Starred e sp_] X.env = [(true, eval e X.env)]) :
    wpAny (model X.prog X.w) X.A (callWith pos (.ref f) [] (backTo pos (starEach [.Starred e sp_] X.env)) []) (EP X pins σ Q) X.xe s := by
  refine PySem.W.callWith_S (h₀ := X.base) I.ok.mod.kin hk (thn (he.run pins s σ _ _ I ht) fun v s2 ⟨y, H1, I2, ry, a, xs, ey, hxs, q⟩ => ?_) hst
  subst ey
  obtain rfl : v = Value.ref a := ry
  refine StX.star_any I2 hxs fun us s3 I3 rv => ⟨I3.kIn, ?_⟩
  have z := run_fn (dvs := []) (ds := []) (E := fun _ _ _ => False) F hr hb .nil pass0 I3 rv (by rw [List.append_nil]; exact q)
  exact z
/-- the mirror of a call of mf with all of a list's or a tuple's items -/
def starD (n : Nat) (mf : List D → R D) : D → Option D := fun d =>
  match (match d with | .list xs => some xs | .tuple xs => some xs | _ => none) with
  | some xs => if xs.length = n then (match mf xs with | .ok z _ => some z | _ => none) else none
  | none => none
theorem star_read {K : PySem.W.Frag} {n : Nat} {mf : List D → R D} {C0 H0 C H : Hp} {B : List (Nat × Addr)} {σ : L2.St} {δ : Dl} {Q : VK} {v : V} {d z : D} (S : SR K C0 H0 B C H σ δ) (hd : Dq K C v d) (hz : starD n mf d = some z) (q : PKe K C0 H0 B C σ Q z δ) :
    ∃ a xs, v = V.ref a ∧ (SqT K H a xs ∨ SqL K H a xs) ∧ SpP K n mf xs H Q (fun _ _ _ => False) := by
  have fin : ∀ {vs : List V} {ds : List D}, DqAll K C vs ds → (if ds.length = n then (match mf ds with | .ok z _ => some z | _ => none) else none) = some z → SpP K n mf vs H Q (fun _ _ _ => False) := by
    intro vs ds ha hz
    split at hz
    · rename_i hl
      refine ⟨C, ds, S.ch, ha, by rw [dpa_len ha]; exact hl, ?_⟩
      split at hz
      · rename_i z' δ' hm
        cases hz
        rw [hm]
        intro v C2 H2 e2 e3 e4 n2 dv
        exact q v C2 H2 e2 (S.step e2 e3 e4 n2) dv
      · cases hz
    · cases hz
  unfold starD at hz
  cases hd with
  | lst h1 h2 => exact ⟨_, _, rfl, .inr (ex_l S.ch h1), fin h2 hz⟩
  | tup h1 h2 => exact ⟨_, _, rfl, .inl (ex_t S.ch h1), fin h2 hz⟩
  | _ => cases hz
/-- x(*e), x a def of the module -/
theorem de_callSt {k n : Nat} {mf : List D → R D} (F : FnX X.prog X.w X.K X.mg X.base k x n mf) (hr : Room k X.A) (ha : DE X EC W a ma) (hg : Gl X x := by rfl) (hdb : (x == ("__debug__" : Str)) = false := by decide)
    (hst : starEach [.Starred a sp_] X.env = [(true, eval a X.env)] := by rfl) : DE X EC W (.Call (.Name x p) [.Starred a sp_] [] pos) (mUn (starD n mf) ma) := by
  obtain ⟨f, fd, ps, F, hm, hk, hb⟩ := F.ex
  obtain ⟨ta, pa, ra⟩ := ha.ex
  refine ⟨fun σ H Q => ta σ H fun y H1 => ∃ a xs, y = V.ref a ∧ (SqT X.K H1 a xs ∨ SqL X.K H1 a xs) ∧ SpP X.K n mf xs H1 Q (fun _ _ _ => False), ⟨fun pins s σ H Q I h => wpAny_Call_Name_kw (ld_glob I hg hm (pe_starCall F hr hk hb pa I h hst) hdb)⟩,
    fun C0 H0 B C H σ δ Q S h => ra C0 H0 B C H σ δ _ S (RP.imp (RP.bind h) (fun x δ1 h1 v C1 H1 e1 S1 d1 => ?_) fun c d δ h => h)⟩
  obtain ⟨z, hz, q⟩ := RP.lift h1
  exact star_read S1 d1 hz (PKe.mono e1 _ _ q)

/-! ### a def out of one of three written dicts, called -/
/-- act: by the def's name in the module -/
def mDisp {α : Type} (get : Str → Option α) (act : α → Option (Nat × (List D → R D))) (i v : Nat) : M Fl := fun δ => match δ[i]?, δ[v]? with
  | some (.val (.str z)), some (.val d) => (match (get z).bind act with
    | some (n, mf) => (match starD n mf d with
      | some r => .ok (.rt r) δ
      | none => .no)
    | none => .no)
  | _, _ => .no
def mDispJ {α : Type} (get : Str → Option α) (act : α → Option (Nat × (List D → R D))) (i v j : Nat) : M Fl := fun δ => match δ[j]? with
  | some .non => mDisp get act i v δ
  | _ => .no
abbrev NmR (mg : Str → Option Value) : Value → Str → Prop := fun u py => mg py = some u
theorem SR.free {K : PySem.W.Frag} {C0 H0 C H : Hp} {B : List (Nat × Addr)} {σ : L2.St} {δ : Dl} {j : Nat} {v : V} (S : SR K C0 H0 B C H σ δ) (hj : δ[j]? = some .non) : SR K C0 H0 B C H (σ.set j (some v)) δ := by
  have hl : j < δ.length := (List.getElem?_eq_some_iff.mp hj).1
  have z := S.setC (c := .non) (v := v) hl (fun ds q => by rw [hj] at q; cases q) (fun d q => by cases q) (fun b ds q => by cases q)
  have e : δ.set j .non = δ := by
    apply List.ext_getElem?
    intro i
    by_cases q : j = i
    · subst q; rw [List.getElem?_set_self hl, hj]
    · rw [List.getElem?_set_ne q]
  rw [e] at z
  exact z
theorem pe_callLS {k j : Nat} {te : TE} (hr : Room k X.A) (hN : X.N[j]? = some x) (hv : Vis X.env.scope x) (he : PE X e te) (hdb : (x == ("__debug__" : Str)) = false := by decide) (hcd : (x == ("__classdict__" : Str)) = false := by decide)
    (hst : starEach [.Starred e sp_] X.env = [(true, eval e X.env)] := by rfl) :
    PE X (.Call (.Name x p) [.Starred e sp_] [] pos) (fun σ H Q => ∃ f sp, σ[j]? = some (some (.ref f)) ∧ Held X.prog X.w X.K X.mg X.base k f sp ∧ te σ H fun y H1 => ∃ a xs, y = V.ref a ∧ (SqT X.K H1 a xs ∨ SqL X.K H1 a xs) ∧ sp xs H1 Q (fun _ _ _ => False)) := by
  refine ⟨fun pins s σ H Q I h => ?_⟩
  obtain ⟨f, sp, hs, hH, ht⟩ := h
  obtain ⟨fd, ps, F, hk, hb⟩ := hH.ex
  refine wpAny_Call_Name_kw (thn ((pe_var (pos := p) hN hv hdb hcd).run pins s σ H (fun v H1 => v = .ref f ∧ H1 = H) I ⟨.ref f, hs, rfl, rfl⟩) fun u s1 ⟨v, H1, I1, r1, q1⟩ => ?_)
  obtain ⟨rfl, rfl⟩ := q1
  cases r1
  exact pe_starCall F hr hk hb he I1 ht hst
/-- if z in D1: act = D1[z] elif z in D2: act = D2[z] else: act = D3[z]; return act(*vs) -/
theorem dss_disp {i v j k : Nat} {z vs act d1 d2 d3 : Str} {t1 t2 t3 : List (Str × Str)} {act' : Str → Option (Nat × (List D → R D))} {q1 q2 q3 q4 q5 q6 q7 q8 q9 q10 q11 q12 q13 q14 q15 q16 q17 q18 q19 q20 q21 q22 q23 q24 q25 : Pos}
    (T1 : TabX X.K X.w X.mg d1 (NmR X.mg) t1) (T2 : TabX X.K X.w X.mg d2 (NmR X.mg) t2) (T3 : TabX X.K X.w X.mg d3 (NmR X.mg) t3)
    (hA : ∀ py n mf, act' py = some (n, mf) → FnX X.prog X.w X.K X.mg X.base k py n mf) (hr : Room k X.A) (hnd : X.N.Nodup)
    (hi : X.N[i]? = some z := by rfl) (hv : X.N[v]? = some vs := by rfl) (hj : X.N[j]? = some act := by rfl)
    (vz : Vis X.env.scope z := by exact Or.inl rfl) (vv : Vis X.env.scope vs := by exact Or.inl rfl) (va : Vis X.env.scope act := by exact Or.inl rfl) (la : Loc X.env.scope act := by exact Or.inl rfl)
    (g1 : Gl X d1 := by rfl) (g2 : Gl X d2 := by rfl) (g3 : Gl X d3 := by rfl)
    (b1 : (d1 == ("__debug__" : Str)) = false := by decide) (b2 : (d2 == ("__debug__" : Str)) = false := by decide) (b3 : (d3 == ("__debug__" : Str)) = false := by decide) (b4 : (z == ("__debug__" : Str)) = false := by decide) (b5 : (z == ("__classdict__" : Str)) = false := by decide)
    (b6 : (vs == ("__debug__" : Str)) = false := by decide) (b7 : (vs == ("__classdict__" : Str)) = false := by decide) (b8 : (act == ("__debug__" : Str)) = false := by decide) (b9 : (act == ("__classdict__" : Str)) = false := by decide)
    (hf : X.fn act = true ∨ X.env.scope.names.lookup act = some .local := by first | exact .inl rfl | exact .inr rfl)
    (s1 : swapsWith (.Subscript (.Name d1 q3) (.Name z q4) q5) (some (.Name act q6)) q7.line X.env = pure false := by rfl)
    (s2 : swapsWith (.Subscript (.Name d2 q11) (.Name z q12) q13) (some (.Name act q14)) q15.line X.env = pure false := by rfl)
    (s3 : swapsWith (.Subscript (.Name d3 q16) (.Name z q17) q18) (some (.Name act q19)) q20.line X.env = pure false := by rfl)
    (hst : starEach [.Starred (.Name vs q22) q23] X.env = [(true, eval (.Name vs q22) X.env)] := by rfl) :
    DSs X EC W [.If (.Compare (.Name z q1) [.In] [.Name d1 q2] p) [.Assign [.Name act q6] (.Subscript (.Name d1 q3) (.Name z q4) q5) q7]
        [.If (.Compare (.Name z q8) [.In] [.Name d2 q9] q10) [.Assign [.Name act q14] (.Subscript (.Name d2 q11) (.Name z q12) q13) q15] [.Assign [.Name act q19] (.Subscript (.Name d3 q16) (.Name z q17) q18) q20] q24] pos,
      .Return (some (.Call (.Name act q21) [.Starred (.Name vs q22) q23] [] q25)) p2] (mDispJ (fun z => (getT t1 z).or ((getT t2 z).or (getT t3 z))) act' i v j) := by
  obtain ⟨a1, e1, n1, m1, D1, R1⟩ := T1.ex
  obtain ⟨a2, e2, n2, m2, D2, R2⟩ := T2.ex
  obtain ⟨a3, e3, n3, m3, D3, R3⟩ := T3.ex
  have pz : ∀ q : Pos, PE X (.Name z q) (tVar i) := fun q => pe_var hi vz b4 b5
  have pv : ∀ q : Pos, PE X (.Name vs q) (tVar v) := fun q => pe_var hv vv b6 b7
  have G1 : ∀ q : Pos, PE X (.Name d1 q) (tC (.ref a1)) := fun q => pe_glob g1 m1 rfl b1
  have G2 : ∀ q : Pos, PE X (.Name d2 q) (tC (.ref a2)) := fun q => pe_glob g2 m2 rfl b2
  have G3 : ∀ q : Pos, PE X (.Name d3 q) (tC (.ref a3)) := fun q => pe_glob g3 m3 rfl b3
  refine ⟨_, pss_cons (ps_if (pt_cmpR (op_in_kd D1) (pz q1) (G1 q2) rfl) (pss_one (ps_set hnd hj la (pe_ix ix_kdict (G1 q3) (pz q4) (by intro _ _; rfl)) s1 hf))
    (pss_one (ps_if (pt_cmpR (op_in_kd D2) (pz q8) (G2 q9) rfl) (pss_one (ps_set hnd hj la (pe_ix ix_kdict (G2 q11) (pz q12) (by intro _ _; rfl)) s2 hf))
      (pss_one (ps_set hnd hj la (pe_ix ix_kdict (G3 q16) (pz q17) (by intro _ _; rfl)) s3 hf)))))
    (pss_one (ps_ret (pe_callLS (p := q21) (pos := q25) (sp_ := q23) hr hj va (pv q22) b8 b9 hst))), fun C0 H0 B C H σ δ N S h => ?_⟩
  have h0 : δ[j]? = some .non ∧ RP (mDisp (fun z => (getT t1 z).or ((getT t2 z).or (getT t3 z))) act' i v δ) (PKs X.K C0 H0 B C N) (PXs X.K EC W C0 H0 B C) := by
    unfold mDispJ at h
    split at h
    · rename_i hq
      exact ⟨hq, h⟩
    · exact h.elim
  obtain ⟨hjn, h⟩ := h0
  unfold mDisp at h
  split at h
  case h_2 => exact h.elim
  rename_i zz dd hz hd
  split at h
  case h_2 => exact h.elim
  rename_i n mf hget
  split at h
  case h_2 => exact h.elim
  rename_i r hr'
  obtain ⟨vz', hz1, hz2⟩ := S.val i _ hz
  cases hz2
  obtain ⟨vd, hd1, hd2⟩ := S.val v _ hd
  have hij : i ≠ j := fun q => by rw [q, hjn] at hz; cases hz
  have hvj : v ≠ j := fun q => by rw [q, hjn] at hd; cases hd
  have hlj : j < σ.length := by rw [S.len]; exact (List.getElem?_eq_some_iff.mp hjn).1
  -- behind the choice
  have tail : ∀ (f : Addr) (py : Str), X.mg py = some (.ref f) → act' py = some (n, mf) →
      ∃ (f' : Addr) (sp : Sp), (σ.set j (some (.ref f)))[j]? = some (some (.ref f')) ∧ Held X.prog X.w X.K X.mg X.base k f' sp ∧ tVar v (σ.set j (some (.ref f))) H fun y H1 => ∃ a xs, y = V.ref a ∧ (SqT X.K H1 a xs ∨ SqL X.K H1 a xs) ∧ sp xs H1 (fun v H => N.rt v H) (fun _ _ _ => False) := by
    intro f py hm hp
    obtain ⟨f', fd, ps, F, hm', hk, hb⟩ := (hA py n mf hp).ex
    rw [hm] at hm'
    cases hm'
    refine ⟨f, SpP X.K n mf, List.getElem?_set_self hlj, ⟨fd, ps, F, hk, hb⟩, vd, by rw [List.getElem?_set_ne (Ne.symm hvj)]; exact hd1, ?_⟩
    exact star_read (S.free (v := .ref f) hjn) hd2 hr' fun u C2 H2 e2 S2 du => h _ C2 H2 e2 S2 u du
  have fin : ∀ {a : Addr} {e : Array DictEntry} {m : Nat} {t : List (Str × Str)} (D : KDict X.K X.w a e m) (T : TabR (NmR X.mg) e.toList t) (py : Str), getT t zz = some py → act' py = some (n, mf) →
      ∃ (f : Addr), (∃ u, PySem.W.nsIn X.K a zz = some (some u) ∧ RelV (.ref f) u) ∧ X.mg py = some (.ref f) := by
    intro a e m t D T py hg hp
    obtain ⟨f', fd, ps, F, hm', hk, hb⟩ := (hA py n mf hp).ex
    rcases tab_ns D T zz with ⟨u, d, g1, g2, g3⟩ | ⟨g1, g2⟩
    · rw [hg] at g2
      cases g2
      have g3 : X.mg py = some u := g3
      rw [hm'] at g3
      cases g3
      exact ⟨f', ⟨_, g1, rfl⟩, hm'⟩
    · rw [hg] at g2
      cases g2
  have no : ∀ {a : Addr} {e : Array DictEntry} {m : Nat} {t : List (Str × Str)} (D : KDict X.K X.w a e m) (T : TabR (NmR X.mg) e.toList t), getT t zz = none → PySem.W.nsIn X.K a zz = some none := by
    intro a e m t D T hg
    rcases tab_ns D T zz with ⟨u, d, g1, g2, g3⟩ | ⟨g1, g2⟩
    · rw [hg] at g2; cases g2
    · exact g1
  have hget : ((getT t1 zz).or ((getT t2 zz).or (getT t3 zz))).bind act' = some (n, mf) := hget
  cases hg1 : getT t1 zz with
  | some py =>
    rw [hg1] at hget
    have hp : act' py = some (n, mf) := hget
    obtain ⟨f, ⟨u, u1, u2⟩, hm⟩ := fin D1 R1 py hg1 hp
    exact ⟨.str zz, hz1, zz, some u, rfl, rfl, u1, true, rfl, ⟨.str zz, hz1, a1, zz, .ref f, rfl, rfl, ⟨e1, n1, u, D1.at_, D1.lit, u1, u2⟩, tail f py hm hp⟩⟩
  | none =>
    rw [hg1] at hget
    refine ⟨.str zz, hz1, zz, none, rfl, rfl, no D1 R1 hg1, false, rfl, ?_⟩
    cases hg2 : getT t2 zz with
    | some py =>
      rw [hg2] at hget
      have hp : act' py = some (n, mf) := hget
      obtain ⟨f, ⟨u, u1, u2⟩, hm⟩ := fin D2 R2 py hg2 hp
      exact ⟨.str zz, hz1, zz, some u, rfl, rfl, u1, true, rfl, ⟨.str zz, hz1, a2, zz, .ref f, rfl, rfl, ⟨e2, n2, u, D2.at_, D2.lit, u1, u2⟩, tail f py hm hp⟩⟩
    | none =>
      rw [hg2] at hget
      refine ⟨.str zz, hz1, zz, none, rfl, rfl, no D2 R2 hg2, false, rfl, ?_⟩
      cases hg3 : getT t3 zz with
      | some py =>
        rw [hg3] at hget
        have hp : act' py = some (n, mf) := hget
        obtain ⟨f, ⟨u, u1, u2⟩, hm⟩ := fin D3 R3 py hg3 hp
        exact ⟨.str zz, hz1, a3, zz, .ref f, rfl, rfl, ⟨e3, n3, u, D3.at_, D3.lit, u1, u2⟩, tail f py hm hp⟩
      | none =>
        rw [hg3] at hget
        cases hget

/-! ### x in xs, items of any depth -/
def dInG : D → D → Option D
  | x, .list ds => if SeqAt.shaped x && (SeqAt.shaped (.list ds) && decide (x.depth ≤ 60)) then some (.bool (ds.any fun z => PyData.eqv z x)) else none
  | x, .tuple ds => if SeqAt.shaped x && (SeqAt.shaped (.tuple ds) && decide (x.depth ≤ 60)) then some (.bool (ds.any fun z => PyData.eqv z x)) else none
  | _, _ => none
def rInG (K : PySem.W.Frag) (neg : Bool) : R2 := fun x y H Q => ∃ d ds, Dp K H x d ∧ (Dp K H y (.list ds) ∨ Dp K H y (.tuple ds)) ∧ SeqAt.shaped d = true ∧ (SeqAt.shaped (.list ds) = true ∨ SeqAt.shaped (.tuple ds) = true) ∧ d.depth ≤ 60 ∧ Q (.bl (if neg then !ds.any fun z => PyData.eqv z d else ds.any fun z => PyData.eqv z d)) H
theorem shaped_all {ds : List D} (h : SeqAt.shaped (.list ds) = true ∨ SeqAt.shaped (.tuple ds) = true) : PyData.canLayAll0 ds = true := by
  rcases h with h | h
  · exact SeqAt.canLay_of_shaped h
  · exact SeqAt.canLay_of_shaped h
theorem op_inG (hu : X.A.units + 64 < cLine) : OpR X (compareOp .In) (rInG X.K false) := by
  intro pins s σ H x y v u Q I rx ry h
  obtain ⟨d, ds, hd, he, sd, se, hdp, q⟩ := h
  obtain ⟨as, r1⟩ := Dp.reads I d x v hd rx
  have hroom : X.A.units + 1 + min (PyData.depthAll ds) d.depth < cLine := by
    have := Nat.min_le_right (PyData.depthAll ds) d.depth
    omega
  rcases he with he | he
  · obtain ⟨bs, r2⟩ := Dp.reads I (.list ds) y u he ry
    exact SeqAt.in_list_reads r2 r1 (shaped_all se) (SeqAt.canLay_of_shaped sd) hroom ⟨.bl _, H, I, rfl, q⟩
  · obtain ⟨bs, r2⟩ := Dp.reads I (.tuple ds) y u he ry
    exact SeqAt.in_tuple_reads r2 r1 (shaped_all se) (SeqAt.canLay_of_shaped sd) hroom ⟨.bl _, H, I, rfl, q⟩
theorem ro_inG {K : PySem.W.Frag} : RO K (rInG K false) dInG := by
  intro x y z hz v w C H Q e hv hw q
  unfold dInG at hz
  split at hz
  · split at hz
    · rename_i hc
      rw [Bool.and_eq_true, Bool.and_eq_true] at hc
      cases hz
      exact ⟨x, _, dq_dp _ _ (dp_ex e _ _ hv), .inl (dq_dp _ _ (dp_ex e _ _ hw)), hc.1, .inl hc.2.1, of_decide_eq_true hc.2.2, q.1 _ (.bl _)⟩
    · cases hz
  · split at hz
    · rename_i hc
      rw [Bool.and_eq_true, Bool.and_eq_true] at hc
      cases hz
      exact ⟨x, _, dq_dp _ _ (dp_ex e _ _ hv), .inr (dq_dp _ _ (dp_ex e _ _ hw)), hc.1, .inr hc.2.1, of_decide_eq_true hc.2.2, q.1 _ (.bl _)⟩
    · cases hz
  · cases hz

/-! ### zip of two lists, of two tuples -/
theorem walk_zipTt {K : PySem.W.Frag} {a b : Addr} {xs ys : List V} {n : Nat} (hn : n = min xs.length ys.length) : Walk (RZ.ItzT K a b) n (fun H => SqT K H a xs ∧ SqT K H b ys) (YPair (fun i => xs[i]?) (fun i => ys[i]?)) := by
  subst hn
  refine ⟨fun i _ hi q => ?_, fun _ q => ⟨xs, ys, q.1, q.2, by omega⟩, fun i H v H' _ q y => ?_⟩
  · have h1 : i < xs.length := by omega
    have h2 : i < ys.length := by omega
    exact ⟨xs, ys, xs[i], ys[i], q.1, q.2, by simp [h1], by simp [h2]⟩
  · obtain ⟨T, x, z, h1, h2, h3, h4, h5⟩ := y
    exact ⟨T, x, z, h1, h2, h3, h4 xs q.1, h5 ys q.2⟩
def zipD (xs ys : List D) : List D := (xs.zip ys).map fun q => .tuple [q.1, q.2]
theorem zip_at {xs ys : List D} {i : Nat} {d : D} (h : (zipD xs ys)[i]? = some d) : ∃ x y, xs[i]? = some x ∧ ys[i]? = some y ∧ d = .tuple [x, y] := by
  unfold zipD at h
  rw [List.getElem?_map] at h
  cases q : (xs.zip ys)[i]? with
  | none => rw [q] at h; cases h
  | some z =>
    rw [q] at h
    cases h
    obtain ⟨h1, h2⟩ := List.getElem?_zip_eq_some.mp q
    exact ⟨z.1, z.2, h1, h2, rfl⟩
theorem zip_len {xs ys : List D} : (zipD xs ys).length = min xs.length ys.length := by
  unfold zipD
  rw [List.length_map, List.length_zip]
theorem it_pair {K : PySem.W.Frag} {C : Hp} {J : It} {n : Nat} {G : Hp → Prop} {xs ys : List V} {ds es : List D} (w : Walk J n G (YPair (fun i => xs[i]?) (fun i => ys[i]?))) (hn : n = (zipD ds es).length) (hG : ∀ H, Ex C H → G H) (h1 : DqAll K C xs ds) (h2 : DqAll K C ys es) : ItOk K C J (zipD ds es) := by
  subst hn
  refine ⟨G, _, w, hG, fun i d hi C2 H x H' Q e1 e2 y q => ?_⟩
  obtain ⟨T, a, b, hx, hT, hH, ha, hb⟩ := y
  subst hx hH
  obtain ⟨u, v, hu, hv, rfl⟩ := zip_at hi
  obtain ⟨u', hu', du⟩ := dpa_get' h1 ha
  obtain ⟨v', hv', dv⟩ := dpa_get' h2 hb
  rw [hu] at hu'
  rw [hv] at hv'
  cases hu'
  cases hv'
  have hC : C2 T = none := free_of e2 hT
  refine q.2 T _ hT (.tup (SqT.of upd_same) ?_)
  have e3 : Ex C (upd C2 T (.tup [a, b])) := e1.trans (Ex.new hC)
  exact .cons (dp_ex e3 _ _ du) (.cons (dp_ex e3 _ _ dv) .nil)
def dZip : List D → Option (List D)
  | [.list xs, .list ys] => some (zipD xs ys)
  | [.tuple xs, .tuple ys] => some (zipD xs ys)
  | _ => none
def mZip (a b : M D) : M (List D) := fun δ => (a δ).bind fun x δ => (b δ).bind fun y δ => R.lift (dZip [x, y]) δ
theorem di_zip {elts : List Expr} {kk : Nat} {tpos : Pos} (hg : Gl X "zip") (hm : X.mg "zip" = none) (h : DE X EC W a ma) (h2 : DE X EC W b mb) (hs' : starEach (a :: [b]) X.env = (false, eval a X.env) :: starEach [b] X.env := by rfl) (hs3 : starEach (b :: []) X.env = (false, eval b X.env) :: starEach [] X.env := by rfl) (hpl : (backTo pos (starEach [b] X.env)).any (·.1) = false := by rfl) :
    DI X EC W (.Tuple elts kk tpos) (.Call (.Name "zip" p) [a, b] [] pos) (mZip ma mb) := by
  obtain ⟨te, pe, re⟩ := h.ex
  obtain ⟨tb, pb, rb⟩ := h2.ex
  refine ⟨_, RZ.pi_zipA hg hm (pa_cons pe (pa_cons pb pa_nil hs3) hs') hs' hpl, fun C0 H0 B C H σ δ RR S h => re C0 H0 B C H σ δ _ S (RP.imp (RP.bind h) (fun x δ1 h1 v C1 H1 e1 S1 d1 => ?_) fun c d δ h => h)⟩
  refine rb C0 H0 B C1 H1 σ δ1 _ S1 (RP.imp (RP.bind h1) (fun y δ2 h2 w C2 H2 e2 S2 d2 => ?_) (PXe.mono e1))
  obtain ⟨items, hi, q⟩ := RP.lift h2
  have d1 := dp_ex e2 _ _ d1
  unfold dZip at hi
  split at hi
  · rename_i hq
    cases hq
    cases hi
    cases d1 with
    | lst l1 a1 =>
      cases d2 with
      | lst l2 a2 =>
        refine ⟨_, _, _, _, rfl, .inl ⟨ex_l S2.ch l1, ex_l S2.ch l2, q _ C2 H2 (e1.trans e2) S2 (it_pair (walk_zip rfl) ?_ (fun H e => ⟨ex_l e l1, ex_l e l2⟩) a1 a2)⟩⟩
        rw [zip_len, dpa_len a1, dpa_len a2]
  · rename_i hq
    cases hq
    cases hi
    cases d1 with
    | tup l1 a1 =>
      cases d2 with
      | tup l2 a2 =>
        refine ⟨_, _, _, _, rfl, .inr ⟨ex_t S2.ch l1, ex_t S2.ch l2, q _ C2 H2 (e1.trans e2) S2 (it_pair (walk_zipTt rfl) ?_ (fun H e => ⟨ex_t e l1, ex_t e l2⟩) a1 a2)⟩⟩
        rw [zip_len, dpa_len a1, dpa_len a2]
  · cases hi
end

/-! ### f'text{par}', par a text -/
def TStr : V → Prop := fun v => ∃ z : Str, v = .str z ∧ z.length ≤ 1000000
def tStr : D → Bool
  | .str z => decide (z.length ≤ 1000000)
  | _ => false
theorem tStr_ok {K : PySem.W.Frag} : ∀ C v d, Dq K C v d → tStr d = true → TStr v := by
  intro C v d h q
  cases h <;> first | (cases q; done) | skip
  rename_i z
  exact ⟨z, rfl, of_decide_eq_true q⟩
theorem fstr_heS {m par : Str} {j : Nat} {p q r s : Pos} (hm : m.length ≤ 1000) (X : Cx) (hN : X.N = [("self" : Str), par, "__class__"]) (hv : Vis X.env.scope par) (pd1 : (par == ("__debug__" : Str)) = false) (pd2 : (par == ("__classdict__" : Str)) = false) :
    ∃ te, PE X (.JoinedStr [.Constant (.str m) j p, .FormattedValue (.Name par q) (-1) none r] s) te ∧ ∀ (a : Addr) (y : V) H Q, TStr y → (∀ v, Q v H) → te [some (.ref a), some y, none] H Q := by
  refine ⟨_, pe_joined (.cons pe_str (.cons (pe_fmt (pe_var (i := 1) (by rw [hN] <;> rfl) hv pd1 pd2)) .nil)), fun a y H Q hy h => ?_⟩
  obtain ⟨z, rfl, hz⟩ := hy
  have ln : ∀ a b : Str, (a ++ b).length = a.length + b.length := fun a b => by
    show (a.cps ++ b.cps).size = _
    rw [Array.size_append]
    rfl
  refine ⟨m, rfl, ?_, .str z, rfl, .inl ⟨z, rfl, by rw [sizeLine_eq]; omega, _, rfl, ?_, h _⟩⟩
  · rw [ln, sizeLine_eq]
    show 0 + _ ≤ _
    omega
  · rw [ln, ln, sizeLine_eq]
    show 0 + _ + _ ≤ _
    omega
end DL
namespace DL
open PySem PySem.Spec PyProof.Rows L2 Evl
def AllFn (P : Program) (w : World) (K : PySem.W.Frag) (mg : Str → Option Value) (base : Heap) (k : Nat) : List (Str × (Nat × (List D → R D))) → Prop
  | [] => True
  | e :: r => FnX P w K mg base k e.1 e.2.1 e.2.2 ∧ AllFn P w K mg base k r
theorem acts_ok {P : Program} {w : World} {K : PySem.W.Frag} {mg : Str → Option Value} {base : Heap} {k : Nat} : ∀ {acts : List (Str × (Nat × (List D → R D)))}, AllFn P w K mg base k acts → ∀ py n mf, getT acts py = some (n, mf) → FnX P w K mg base k py n mf
  | [], _, py, n, mf, h => by cases h
  | e :: r, h, py, n, mf, hg => by
    by_cases q : (e.1 == py) = true
    · have hg : ((e :: r).find? fun p => p.1 == py).map (·.2) = some (n, mf) := hg
      rw [List.find?_cons, q] at hg
      have h2 : e.2 = (n, mf) := by simpa using hg
      have h1 := h.1
      rw [h2] at h1
      rw [← eq_of_beq q]
      exact h1
    · refine acts_ok h.2 py n mf ?_
      have hg : ((e :: r).find? fun p => p.1 == py).map (·.2) = some (n, mf) := hg
      rw [List.find?_cons] at hg
      have q' : (e.1 == py) = false := by simpa using q
      rw [q'] at hg
      exact hg
end DL
end Part_DW

section Part_K05d
set_option Elab.async false
set_option linter.all false
set_option maxRecDepth 100000
set_option autoImplicit false
set_option maxHeartbeats 2000000
namespace K5
open PySem PySem.Spec PyProof.Rows L2 DL
def top (i : Nat) : Stmt := PySem.Challenge.pw_leastfit_k05_unknown_and_commutative_com.main.body.getD i (.Pass ⟨0, 0, 0, 0⟩)
def W00 : WX := fun _ _ _ _ => False
abbrev EC0 (C : Addr) : ECl := fun _ => (C, "name")
def t_NotFound : D → Bool := tStr
abbrev s__law_library : Stmt := top 88
abbrev N__law_library : List Str := ["rows", "row"]
theorem sc__law_library : FnScope N__law_library [] (defScope s__law_library) := ⟨rfl, rfl, rfl, by decide +kernel, rfl, by decide +kernel, by decide +kernel⟩
abbrev s_is_component : Stmt := top 77
abbrev N_is_component : List Str := ["name"]
theorem sc_is_component : FnScope N_is_component ["name"] (defScope s_is_component) := ⟨rfl, rfl, rfl, by decide +kernel, rfl, by decide +kernel, by decide +kernel⟩
abbrev s_is_commutative : Stmt := top 81
abbrev N_is_commutative : List Str := ["name"]
theorem sc_is_commutative : FnScope N_is_commutative ["name"] (defScope s_is_commutative) := ⟨rfl, rfl, rfl, by decide +kernel, rfl, by decide +kernel, by decide +kernel⟩
abbrev s__law_cell : Stmt := top 86
abbrev N__law_cell : List Str := ["script", "k"]
theorem sc__law_cell : FnScope N__law_cell ["script", "k"] (defScope s__law_cell) := ⟨rfl, rfl, rfl, by decide +kernel, rfl, by decide +kernel, by decide +kernel⟩
abbrev s__law_number : Stmt := top 90
abbrev N__law_number : List Str := ["cell", "kind"]
theorem sc__law_number : FnScope N__law_number ["cell"] (defScope s__law_number) := ⟨rfl, rfl, rfl, by decide +kernel, rfl, by decide +kernel, by decide +kernel⟩
abbrev s__law_draws : Stmt := top 87
abbrev N__law_draws : List Str := ["cell", "many", "limit", "draws", "rest", "k", "mixed"]
theorem sc__law_draws : FnScope N__law_draws ["cell", "many", "limit"] (defScope s__law_draws) := ⟨rfl, rfl, rfl, by decide +kernel, rfl, by decide +kernel, by decide +kernel⟩
abbrev s__law_value : Stmt := top 91
abbrev N__law_value : List Str := ["letter", "cell", "size", "k"]
theorem sc__law_value : FnScope N__law_value ["letter", "cell"] (defScope s__law_value) := ⟨rfl, rfl, rfl, by decide +kernel, rfl, by decide +kernel, by decide +kernel⟩
abbrev s_names : Stmt := top 78
abbrev N_names : List Str := []
theorem sc_names : FnScope N_names [] (defScope s_names) := ⟨rfl, rfl, rfl, by decide +kernel, rfl, by decide +kernel, by decide +kernel⟩
abbrev s__abs : Stmt := top 42
abbrev N__abs : List Str := ["n"]
theorem sc__abs : FnScope N__abs ["n"] (defScope s__abs) := ⟨rfl, rfl, rfl, by decide +kernel, rfl, by decide +kernel, by decide +kernel⟩
abbrev s__add : Stmt := top 43
abbrev N__add : List Str := ["n", "m"]
theorem sc__add : FnScope N__add ["n", "m"] (defScope s__add) := ⟨rfl, rfl, rfl, by decide +kernel, rfl, by decide +kernel, by decide +kernel⟩
abbrev s__both : Stmt := top 44
abbrev N__both : List Str := ["p", "q"]
theorem sc__both : FnScope N__both ["p", "q"] (defScope s__both) := ⟨rfl, rfl, rfl, by decide +kernel, rfl, by decide +kernel, by decide +kernel⟩
abbrev s__divide : Stmt := top 45
abbrev N__divide : List Str := ["n", "m"]
theorem sc__divide : FnScope N__divide ["n", "m"] (defScope s__divide) := ⟨rfl, rfl, rfl, by decide +kernel, rfl, by decide +kernel, by decide +kernel⟩
abbrev s__double : Stmt := top 46
abbrev N__double : List Str := ["n"]
theorem sc__double : FnScope N__double ["n"] (defScope s__double) := ⟨rfl, rfl, rfl, by decide +kernel, rfl, by decide +kernel, by decide +kernel⟩
abbrev s__either : Stmt := top 47
abbrev N__either : List Str := ["p", "q"]
theorem sc__either : FnScope N__either ["p", "q"] (defScope s__either) := ⟨rfl, rfl, rfl, by decide +kernel, rfl, by decide +kernel, by decide +kernel⟩
abbrev s__equal : Stmt := top 48
abbrev N__equal : List Str := ["n", "m"]
theorem sc__equal : FnScope N__equal ["n", "m"] (defScope s__equal) := ⟨rfl, rfl, rfl, by decide +kernel, rfl, by decide +kernel, by decide +kernel⟩
abbrev s__half : Stmt := top 49
abbrev N__half : List Str := ["n"]
theorem sc__half : FnScope N__half ["n"] (defScope s__half) := ⟨rfl, rfl, rfl, by decide +kernel, rfl, by decide +kernel, by decide +kernel⟩
abbrev s__is_even : Stmt := top 50
abbrev N__is_even : List Str := ["n"]
theorem sc__is_even : FnScope N__is_even ["n"] (defScope s__is_even) := ⟨rfl, rfl, rfl, by decide +kernel, rfl, by decide +kernel, by decide +kernel⟩
abbrev s__less : Stmt := top 51
abbrev N__less : List Str := ["n", "m"]
theorem sc__less : FnScope N__less ["n", "m"] (defScope s__less) := ⟨rfl, rfl, rfl, by decide +kernel, rfl, by decide +kernel, by decide +kernel⟩
abbrev s__max : Stmt := top 52
abbrev N__max : List Str := ["n", "m"]
theorem sc__max : FnScope N__max ["n", "m"] (defScope s__max) := ⟨rfl, rfl, rfl, by decide +kernel, rfl, by decide +kernel, by decide +kernel⟩
abbrev s__min : Stmt := top 53
abbrev N__min : List Str := ["n", "m"]
theorem sc__min : FnScope N__min ["n", "m"] (defScope s__min) := ⟨rfl, rfl, rfl, by decide +kernel, rfl, by decide +kernel, by decide +kernel⟩
abbrev s__mod : Stmt := top 54
abbrev N__mod : List Str := ["n", "m"]
theorem sc__mod : FnScope N__mod ["n", "m"] (defScope s__mod) := ⟨rfl, rfl, rfl, by decide +kernel, rfl, by decide +kernel, by decide +kernel⟩
abbrev s__mul : Stmt := top 55
abbrev N__mul : List Str := ["n", "m"]
theorem sc__mul : FnScope N__mul ["n", "m"] (defScope s__mul) := ⟨rfl, rfl, rfl, by decide +kernel, rfl, by decide +kernel, by decide +kernel⟩
abbrev s__neg : Stmt := top 56
abbrev N__neg : List Str := ["n"]
theorem sc__neg : FnScope N__neg ["n"] (defScope s__neg) := ⟨rfl, rfl, rfl, by decide +kernel, rfl, by decide +kernel, by decide +kernel⟩
abbrev s__negate : Stmt := top 57
abbrev N__negate : List Str := ["p"]
theorem sc__negate : FnScope N__negate ["p"] (defScope s__negate) := ⟨rfl, rfl, rfl, by decide +kernel, rfl, by decide +kernel, by decide +kernel⟩
abbrev s__sub : Stmt := top 58
abbrev N__sub : List Str := ["n", "m"]
theorem sc__sub : FnScope N__sub ["n", "m"] (defScope s__sub) := ⟨rfl, rfl, rfl, by decide +kernel, rfl, by decide +kernel, by decide +kernel⟩
abbrev s__concat : Stmt := top 61
abbrev N__concat : List Str := ["s", "t"]
theorem sc__concat : FnScope N__concat ["s", "t"] (defScope s__concat) := ⟨rfl, rfl, rfl, by decide +kernel, rfl, by decide +kernel, by decide +kernel⟩
abbrev s__contains : Stmt := top 62
abbrev N__contains : List Str := ["s", "t"]
theorem sc__contains : FnScope N__contains ["s", "t"] (defScope s__contains) := ⟨rfl, rfl, rfl, by decide +kernel, rfl, by decide +kernel, by decide +kernel⟩
abbrev s__length : Stmt := top 63
abbrev N__length : List Str := ["s"]
theorem sc__length : FnScope N__length ["s"] (defScope s__length) := ⟨rfl, rfl, rfl, by decide +kernel, rfl, by decide +kernel, by decide +kernel⟩
abbrev s__number_text : Stmt := top 64
abbrev N__number_text : List Str := ["n"]
theorem sc__number_text : FnScope N__number_text ["n"] (defScope s__number_text) := ⟨rfl, rfl, rfl, by decide +kernel, rfl, by decide +kernel, by decide +kernel⟩
abbrev s__repeat : Stmt := top 65
abbrev N__repeat : List Str := ["s", "n"]
theorem sc__repeat : FnScope N__repeat ["s", "n"] (defScope s__repeat) := ⟨rfl, rfl, rfl, by decide +kernel, rfl, by decide +kernel, by decide +kernel⟩
abbrev s__reverse_text : Stmt := top 66
abbrev N__reverse_text : List Str := ["s"]
theorem sc__reverse_text : FnScope N__reverse_text ["s"] (defScope s__reverse_text) := ⟨rfl, rfl, rfl, by decide +kernel, rfl, by decide +kernel, by decide +kernel⟩
abbrev s__same_text : Stmt := top 67
abbrev N__same_text : List Str := ["s", "t"]
theorem sc__same_text : FnScope N__same_text ["s", "t"] (defScope s__same_text) := ⟨rfl, rfl, rfl, by decide +kernel, rfl, by decide +kernel, by decide +kernel⟩
abbrev s__skip : Stmt := top 68
abbrev N__skip : List Str := ["s", "n"]
theorem sc__skip : FnScope N__skip ["s", "n"] (defScope s__skip) := ⟨rfl, rfl, rfl, by decide +kernel, rfl, by decide +kernel, by decide +kernel⟩
abbrev s__start : Stmt := top 69
abbrev N__start : List Str := ["s", "n"]
theorem sc__start : FnScope N__start ["s", "n"] (defScope s__start) := ⟨rfl, rfl, rfl, by decide +kernel, rfl, by decide +kernel, by decide +kernel⟩
abbrev s__text_number : Stmt := top 70
abbrev N__text_number : List Str := ["s", "sign"]
theorem sc__text_number : FnScope N__text_number ["s"] (defScope s__text_number) := ⟨rfl, rfl, rfl, by decide +kernel, rfl, by decide +kernel, by decide +kernel⟩
abbrev s__words : Stmt := top 71
abbrev N__words : List Str := ["s"]
theorem sc__words : FnScope N__words ["s"] (defScope s__words) := ⟨rfl, rfl, rfl, by decide +kernel, rfl, by decide +kernel, by decide +kernel⟩
abbrev s__add_each : Stmt := top 14
abbrev N__add_each : List Str := ["a", "n", "number"]
theorem sc__add_each : FnScope N__add_each ["a", "n"] (defScope s__add_each) := ⟨rfl, rfl, rfl, by decide +kernel, rfl, by decide +kernel, by decide +kernel⟩
abbrev s__append : Stmt := top 15
abbrev N__append : List Str := ["a", "n"]
theorem sc__append : FnScope N__append ["a", "n"] (defScope s__append) := ⟨rfl, rfl, rfl, by decide +kernel, rfl, by decide +kernel, by decide +kernel⟩
abbrev s__at : Stmt := top 16
abbrev N__at : List Str := ["a", "n"]
theorem sc__at : FnScope N__at ["a", "n"] (defScope s__at) := ⟨rfl, rfl, rfl, by decide +kernel, rfl, by decide +kernel, by decide +kernel⟩
abbrev s__count_of : Stmt := top 17
abbrev N__count_of : List Str := ["a", "n"]
theorem sc__count_of : FnScope N__count_of ["a", "n"] (defScope s__count_of) := ⟨rfl, rfl, rfl, by decide +kernel, rfl, by decide +kernel, by decide +kernel⟩
abbrev s__distinct : Stmt := top 18
abbrev N__distinct : List Str := ["a", "kept", "number"]
theorem sc__distinct : FnScope N__distinct ["a"] (defScope s__distinct) := ⟨rfl, rfl, rfl, by decide +kernel, rfl, by decide +kernel, by decide +kernel⟩
abbrev s__drop : Stmt := top 19
abbrev N__drop : List Str := ["a", "n"]
theorem sc__drop : FnScope N__drop ["a", "n"] (defScope s__drop) := ⟨rfl, rfl, rfl, by decide +kernel, rfl, by decide +kernel, by decide +kernel⟩
abbrev s__first : Stmt := top 20
abbrev N__first : List Str := ["a"]
theorem sc__first : FnScope N__first ["a"] (defScope s__first) := ⟨rfl, rfl, rfl, by decide +kernel, rfl, by decide +kernel, by decide +kernel⟩
abbrev s__greatest : Stmt := top 21
abbrev N__greatest : List Str := ["a"]
theorem sc__greatest : FnScope N__greatest ["a"] (defScope s__greatest) := ⟨rfl, rfl, rfl, by decide +kernel, rfl, by decide +kernel, by decide +kernel⟩
abbrev s__is_empty : Stmt := top 22
abbrev N__is_empty : List Str := ["a"]
theorem sc__is_empty : FnScope N__is_empty ["a"] (defScope s__is_empty) := ⟨rfl, rfl, rfl, by decide +kernel, rfl, by decide +kernel, by decide +kernel⟩
abbrev s__join : Stmt := top 23
abbrev N__join : List Str := ["a", "b"]
theorem sc__join : FnScope N__join ["a", "b"] (defScope s__join) := ⟨rfl, rfl, rfl, by decide +kernel, rfl, by decide +kernel, by decide +kernel⟩
abbrev s__keep_above : Stmt := top 24
abbrev N__keep_above : List Str := ["a", "n", "number"]
theorem sc__keep_above : FnScope N__keep_above ["a", "n"] (defScope s__keep_above) := ⟨rfl, rfl, rfl, by decide +kernel, rfl, by decide +kernel, by decide +kernel⟩
abbrev s__keep_even : Stmt := top 25
abbrev N__keep_even : List Str := ["a", "number"]
theorem sc__keep_even : FnScope N__keep_even ["a"] (defScope s__keep_even) := ⟨rfl, rfl, rfl, by decide +kernel, rfl, by decide +kernel, by decide +kernel⟩
abbrev s__last : Stmt := top 26
abbrev N__last : List Str := ["a"]
theorem sc__last : FnScope N__last ["a"] (defScope s__last) := ⟨rfl, rfl, rfl, by decide +kernel, rfl, by decide +kernel, by decide +kernel⟩
abbrev s__least : Stmt := top 27
abbrev N__least : List Str := ["a"]
theorem sc__least : FnScope N__least ["a"] (defScope s__least) := ⟨rfl, rfl, rfl, by decide +kernel, rfl, by decide +kernel, by decide +kernel⟩
abbrev s__prepend : Stmt := top 28
abbrev N__prepend : List Str := ["n", "a"]
theorem sc__prepend : FnScope N__prepend ["n", "a"] (defScope s__prepend) := ⟨rfl, rfl, rfl, by decide +kernel, rfl, by decide +kernel, by decide +kernel⟩
abbrev s__product : Stmt := top 29
abbrev N__product : List Str := ["a", "total", "number"]
theorem sc__product : FnScope N__product ["a"] (defScope s__product) := ⟨rfl, rfl, rfl, by decide +kernel, rfl, by decide +kernel, by decide +kernel⟩
abbrev s__rest : Stmt := top 30
abbrev N__rest : List Str := ["a"]
theorem sc__rest : FnScope N__rest ["a"] (defScope s__rest) := ⟨rfl, rfl, rfl, by decide +kernel, rfl, by decide +kernel, by decide +kernel⟩
abbrev s__reverse : Stmt := top 31
abbrev N__reverse : List Str := ["a"]
theorem sc__reverse : FnScope N__reverse ["a"] (defScope s__reverse) := ⟨rfl, rfl, rfl, by decide +kernel, rfl, by decide +kernel, by decide +kernel⟩
abbrev s__running : Stmt := top 32
abbrev N__running : List Str := ["a", "total", "totals", "number"]
theorem sc__running : FnScope N__running ["a"] (defScope s__running) := ⟨rfl, rfl, rfl, by decide +kernel, rfl, by decide +kernel, by decide +kernel⟩
abbrev s__same_list : Stmt := top 33
abbrev N__same_list : List Str := ["a", "b"]
theorem sc__same_list : FnScope N__same_list ["a", "b"] (defScope s__same_list) := ⟨rfl, rfl, rfl, by decide +kernel, rfl, by decide +kernel, by decide +kernel⟩
abbrev s__size : Stmt := top 34
abbrev N__size : List Str := ["a"]
theorem sc__size : FnScope N__size ["a"] (defScope s__size) := ⟨rfl, rfl, rfl, by decide +kernel, rfl, by decide +kernel, by decide +kernel⟩
abbrev s__sort : Stmt := top 35
abbrev N__sort : List Str := ["a"]
theorem sc__sort : FnScope N__sort ["a"] (defScope s__sort) := ⟨rfl, rfl, rfl, by decide +kernel, rfl, by decide +kernel, by decide +kernel⟩
abbrev s__sum : Stmt := top 36
abbrev N__sum : List Str := ["a"]
theorem sc__sum : FnScope N__sum ["a"] (defScope s__sum) := ⟨rfl, rfl, rfl, by decide +kernel, rfl, by decide +kernel, by decide +kernel⟩
abbrev s__take : Stmt := top 37
abbrev N__take : List Str := ["a", "n"]
theorem sc__take : FnScope N__take ["a", "n"] (defScope s__take) := ⟨rfl, rfl, rfl, by decide +kernel, rfl, by decide +kernel, by decide +kernel⟩
abbrev s__up_to : Stmt := top 38
abbrev N__up_to : List Str := ["n"]
theorem sc__up_to : FnScope N__up_to ["n"] (defScope s__up_to) := ⟨rfl, rfl, rfl, by decide +kernel, rfl, by decide +kernel, by decide +kernel⟩
abbrev s__zip_add : Stmt := top 39
abbrev N__zip_add : List Str := ["a", "b", "n", "m"]
theorem sc__zip_add : FnScope N__zip_add ["a", "b"] (defScope s__zip_add) := ⟨rfl, rfl, rfl, by decide +kernel, rfl, by decide +kernel, by decide +kernel⟩
abbrev s__result : Stmt := top 84
abbrev N__result : List Str := ["name", "values", "action"]
theorem sc__result : FnScope N__result ["name", "values"] (defScope s__result) := ⟨rfl, rfl, rfl, by decide +kernel, rfl, by decide +kernel, by decide +kernel⟩
abbrev s__chosen : Stmt := top 83
abbrev N__chosen : List Str := ["truth", "second", "third"]
theorem sc__chosen : FnScope N__chosen ["truth", "second", "third"] (defScope s__chosen) := ⟨rfl, rfl, rfl, by decide +kernel, rfl, by decide +kernel, by decide +kernel⟩
abbrev s_is_number : Stmt := top 9
abbrev N_is_number : List Str := ["value"]
theorem sc_is_number : FnScope N_is_number ["value"] (defScope s_is_number) := ⟨rfl, rfl, rfl, by decide +kernel, rfl, by decide +kernel, by decide +kernel⟩
abbrev s_is_text : Stmt := top 10
abbrev N_is_text : List Str := ["value", "sign"]
theorem sc_is_text : FnScope N_is_text ["value"] (defScope s_is_text) := ⟨rfl, rfl, rfl, by decide +kernel, rfl, by decide +kernel, by decide +kernel⟩
abbrev s_is_list : Stmt := top 11
abbrev N_is_list : List Str := ["value", "number"]
theorem sc_is_list : FnScope N_is_list ["value"] (defScope s_is_list) := ⟨rfl, rfl, rfl, by decide +kernel, rfl, by decide +kernel, by decide +kernel⟩
abbrev s_is_value : Stmt := top 12
abbrev N_is_value : List Str := ["kind", "value"]
theorem sc_is_value : FnScope N_is_value ["kind", "value"] (defScope s_is_value) := ⟨rfl, rfl, rfl, by decide +kernel, rfl, by decide +kernel, by decide +kernel⟩
abbrev s_apply : Stmt := top 82
abbrev N_apply : List Str := ["name", "outcomes", "result"]
theorem sc_apply : FnScope N_apply ["name", "outcomes"] (defScope s_apply) := ⟨rfl, rfl, rfl, by decide +kernel, rfl, by decide +kernel, by decide +kernel⟩
abbrev s_argument_kinds : Stmt := top 79
abbrev N_argument_kinds : List Str := ["name"]
theorem sc_argument_kinds : FnScope N_argument_kinds ["name"] (defScope s_argument_kinds) := ⟨rfl, rfl, rfl, by decide +kernel, rfl, by decide +kernel, by decide +kernel⟩
abbrev s_result_kind : Stmt := top 80
abbrev N_result_kind : List Str := ["name"]
theorem sc_result_kind : FnScope N_result_kind ["name"] (defScope s_result_kind) := ⟨rfl, rfl, rfl, by decide +kernel, rfl, by decide +kernel, by decide +kernel⟩
abbrev s__law_asked : Stmt := top 92
abbrev N__law_asked : List Str := ["which", "name", "e"]
theorem sc__law_asked : FnScope N__law_asked ["which", "name"] (defScope s__law_asked) := ⟨rfl, rfl, rfl, by decide +kernel, rfl, by decide +kernel, by decide +kernel⟩
abbrev s_law : Stmt := top 93
abbrev N_law : List Str := ["script", "first", "library", "row", "swapped", "actual", "at", "way", "wrong", "which", "one", "two", "known"]
theorem sc_law : FnScope N_law ["script"] (defScope s_law) := ⟨rfl, rfl, rfl, by decide +kernel, rfl, by decide +kernel, by decide +kernel⟩
abbrev c_CHOICES : D := (.tuple [(.str "choose_list"), (.str "choose_number"), (.str "choose_text")])
abbrev c_COMMUTATIVE : D := (.tuple [(.str "add"), (.str "both"), (.str "either"), (.str "equal"), (.str "max"), (.str "min"), (.str "mul"), (.str "same_list"), (.str "same_text"), (.str "zip_add")])
abbrev c_DIGITS : D := (.str "0123456789")
abbrev c_LIST_LIMIT : D := (.int 12)
abbrev c_NUMBER_LIMIT : D := (.int 1000000)
abbrev c_SIGNS : D := (.str " 0123456789abcdefghijklmnopqrstuvwxyz")
abbrev c_TEXT_LIMIT : D := (.int 30)
def d_LIST_ACTIONS : List (Str × Str) := ("add_each", "_add_each") :: ("append", "_append") :: ("at", "_at") :: ("count_of", "_count_of") :: ("distinct", "_distinct") :: ("drop", "_drop") :: ("first", "_first") :: ("greatest", "_greatest") :: ("is_empty", "_is_empty") :: ("join", "_join") :: ("keep_above", "_keep_above") :: ("keep_even", "_keep_even") :: ("last", "_last") :: ("least", "_least") :: ("prepend", "_prepend") :: ("product", "_product") :: ("rest", "_rest") :: ("reverse", "_reverse") :: ("running", "_running") :: ("same_list", "_same_list") :: ("size", "_size") :: ("sort", "_sort") :: ("sum", "_sum") :: ("take", "_take") :: ("up_to", "_up_to") :: ("zip_add", "_zip_add") :: []
def d_NUMBER_ACTIONS : List (Str × Str) := ("abs", "_abs") :: ("add", "_add") :: ("both", "_both") :: ("divide", "_divide") :: ("double", "_double") :: ("either", "_either") :: ("equal", "_equal") :: ("half", "_half") :: ("is_even", "_is_even") :: ("less", "_less") :: ("max", "_max") :: ("min", "_min") :: ("mod", "_mod") :: ("mul", "_mul") :: ("neg", "_neg") :: ("negate", "_negate") :: ("sub", "_sub") :: []
def d_SIGNATURES : List (Str × D) := ("abs", (PyData.tuple [(PyData.tuple [(PyData.str "number")]), (PyData.str "number")])) :: ("add", (PyData.tuple [(PyData.tuple [(PyData.str "number"), (PyData.str "number")]), (PyData.str "number")])) :: ("add_each", (PyData.tuple [(PyData.tuple [(PyData.str "list"), (PyData.str "number")]), (PyData.str "list")])) :: ("append", (PyData.tuple [(PyData.tuple [(PyData.str "list"), (PyData.str "number")]), (PyData.str "list")])) :: ("at", (PyData.tuple [(PyData.tuple [(PyData.str "list"), (PyData.str "number")]), (PyData.str "number")])) :: ("both", (PyData.tuple [(PyData.tuple [(PyData.str "truth"), (PyData.str "truth")]), (PyData.str "truth")])) :: ("choose_list", (PyData.tuple [(PyData.tuple [(PyData.str "truth"), (PyData.str "list"), (PyData.str "list")]), (PyData.str "list")])) :: ("choose_number", (PyData.tuple [(PyData.tuple [(PyData.str "truth"), (PyData.str "number"), (PyData.str "number")]), (PyData.str "number")])) :: ("choose_text", (PyData.tuple [(PyData.tuple [(PyData.str "truth"), (PyData.str "text"), (PyData.str "text")]), (PyData.str "text")])) :: ("concat", (PyData.tuple [(PyData.tuple [(PyData.str "text"), (PyData.str "text")]), (PyData.str "text")])) :: ("contains", (PyData.tuple [(PyData.tuple [(PyData.str "text"), (PyData.str "text")]), (PyData.str "truth")])) :: ("count_of", (PyData.tuple [(PyData.tuple [(PyData.str "list"), (PyData.str "number")]), (PyData.str "number")])) :: ("distinct", (PyData.tuple [(PyData.tuple [(PyData.str "list")]), (PyData.str "list")])) :: ("divide", (PyData.tuple [(PyData.tuple [(PyData.str "number"), (PyData.str "number")]), (PyData.str "number")])) :: ("double", (PyData.tuple [(PyData.tuple [(PyData.str "number")]), (PyData.str "number")])) :: ("drop", (PyData.tuple [(PyData.tuple [(PyData.str "list"), (PyData.str "number")]), (PyData.str "list")])) :: ("either", (PyData.tuple [(PyData.tuple [(PyData.str "truth"), (PyData.str "truth")]), (PyData.str "truth")])) :: ("equal", (PyData.tuple [(PyData.tuple [(PyData.str "number"), (PyData.str "number")]), (PyData.str "truth")])) :: ("first", (PyData.tuple [(PyData.tuple [(PyData.str "list")]), (PyData.str "number")])) :: ("greatest", (PyData.tuple [(PyData.tuple [(PyData.str "list")]), (PyData.str "number")])) :: ("half", (PyData.tuple [(PyData.tuple [(PyData.str "number")]), (PyData.str "number")])) :: ("is_empty", (PyData.tuple [(PyData.tuple [(PyData.str "list")]), (PyData.str "truth")])) :: ("is_even", (PyData.tuple [(PyData.tuple [(PyData.str "number")]), (PyData.str "truth")])) :: ("join", (PyData.tuple [(PyData.tuple [(PyData.str "list"), (PyData.str "list")]), (PyData.str "list")])) :: ("keep_above", (PyData.tuple [(PyData.tuple [(PyData.str "list"), (PyData.str "number")]), (PyData.str "list")])) :: ("keep_even", (PyData.tuple [(PyData.tuple [(PyData.str "list")]), (PyData.str "list")])) :: ("last", (PyData.tuple [(PyData.tuple [(PyData.str "list")]), (PyData.str "number")])) :: ("least", (PyData.tuple [(PyData.tuple [(PyData.str "list")]), (PyData.str "number")])) :: ("length", (PyData.tuple [(PyData.tuple [(PyData.str "text")]), (PyData.str "number")])) :: ("less", (PyData.tuple [(PyData.tuple [(PyData.str "number"), (PyData.str "number")]), (PyData.str "truth")])) :: ("max", (PyData.tuple [(PyData.tuple [(PyData.str "number"), (PyData.str "number")]), (PyData.str "number")])) :: ("min", (PyData.tuple [(PyData.tuple [(PyData.str "number"), (PyData.str "number")]), (PyData.str "number")])) :: ("mod", (PyData.tuple [(PyData.tuple [(PyData.str "number"), (PyData.str "number")]), (PyData.str "number")])) :: ("mul", (PyData.tuple [(PyData.tuple [(PyData.str "number"), (PyData.str "number")]), (PyData.str "number")])) :: ("neg", (PyData.tuple [(PyData.tuple [(PyData.str "number")]), (PyData.str "number")])) :: ("negate", (PyData.tuple [(PyData.tuple [(PyData.str "truth")]), (PyData.str "truth")])) :: ("number_text", (PyData.tuple [(PyData.tuple [(PyData.str "number")]), (PyData.str "text")])) :: ("prepend", (PyData.tuple [(PyData.tuple [(PyData.str "number"), (PyData.str "list")]), (PyData.str "list")])) :: ("product", (PyData.tuple [(PyData.tuple [(PyData.str "list")]), (PyData.str "number")])) :: ("repeat", (PyData.tuple [(PyData.tuple [(PyData.str "text"), (PyData.str "number")]), (PyData.str "text")])) :: ("rest", (PyData.tuple [(PyData.tuple [(PyData.str "list")]), (PyData.str "list")])) :: ("reverse", (PyData.tuple [(PyData.tuple [(PyData.str "list")]), (PyData.str "list")])) :: ("reverse_text", (PyData.tuple [(PyData.tuple [(PyData.str "text")]), (PyData.str "text")])) :: ("running", (PyData.tuple [(PyData.tuple [(PyData.str "list")]), (PyData.str "list")])) :: ("same_list", (PyData.tuple [(PyData.tuple [(PyData.str "list"), (PyData.str "list")]), (PyData.str "truth")])) :: ("same_text", (PyData.tuple [(PyData.tuple [(PyData.str "text"), (PyData.str "text")]), (PyData.str "truth")])) :: ("size", (PyData.tuple [(PyData.tuple [(PyData.str "list")]), (PyData.str "number")])) :: ("skip", (PyData.tuple [(PyData.tuple [(PyData.str "text"), (PyData.str "number")]), (PyData.str "text")])) :: ("sort", (PyData.tuple [(PyData.tuple [(PyData.str "list")]), (PyData.str "list")])) :: ("start", (PyData.tuple [(PyData.tuple [(PyData.str "text"), (PyData.str "number")]), (PyData.str "text")])) :: ("sub", (PyData.tuple [(PyData.tuple [(PyData.str "number"), (PyData.str "number")]), (PyData.str "number")])) :: ("sum", (PyData.tuple [(PyData.tuple [(PyData.str "list")]), (PyData.str "number")])) :: ("take", (PyData.tuple [(PyData.tuple [(PyData.str "list"), (PyData.str "number")]), (PyData.str "list")])) :: ("text_number", (PyData.tuple [(PyData.tuple [(PyData.str "text")]), (PyData.str "number")])) :: ("up_to", (PyData.tuple [(PyData.tuple [(PyData.str "number")]), (PyData.str "list")])) :: ("words", (PyData.tuple [(PyData.tuple [(PyData.str "text")]), (PyData.str "number")])) :: ("zip_add", (PyData.tuple [(PyData.tuple [(PyData.str "list"), (PyData.str "list")]), (PyData.str "list")])) :: []
def d_TEXT_ACTIONS : List (Str × Str) := ("concat", "_concat") :: ("contains", "_contains") :: ("length", "_length") :: ("number_text", "_number_text") :: ("repeat", "_repeat") :: ("reverse_text", "_reverse_text") :: ("same_text", "_same_text") :: ("skip", "_skip") :: ("start", "_start") :: ("text_number", "_text_number") :: ("words", "_words") :: []
noncomputable def b__law_library_E1 : M D := (mM1 dSplit (mVar 1) (mC (.str " ")))
noncomputable def b__law_library : M Fl := (mSeq (mAsg (setV 0) (mOf (mNew (mCons (mC (.str "abs n n")) (mCons (mC (.str "add nn n")) (mCons (mC (.str "add_each ln l")) (mCons (mC (.str "append ln l")) (mCons (mC (.str "at ln n")) (mCons (mC (.str "both tt t")) (mCons (mC (.str "choose_list tll l")) (mCons (mC (.str "choose_number tnn n")) (mCons (mC (.str "choose_text tss s")) (mCons (mC (.str "concat ss s")) (mCons (mC (.str "contains ss t")) (mCons (mC (.str "count_of ln n")) (mCons (mC (.str "distinct l l")) (mCons (mC (.str "divide nn n")) (mCons (mC (.str "double n n")) (mCons (mC (.str "drop ln l")) (mCons (mC (.str "either tt t")) (mCons (mC (.str "equal nn t")) (mCons (mC (.str "first l n")) (mCons (mC (.str "greatest l n")) (mCons (mC (.str "half n n")) (mCons (mC (.str "is_empty l t")) (mCons (mC (.str "is_even n t")) (mCons (mC (.str "join ll l")) (mCons (mC (.str "keep_above ln l")) (mCons (mC (.str "keep_even l l")) (mCons (mC (.str "last l n")) (mCons (mC (.str "least l n")) (mCons (mC (.str "length s n")) (mCons (mC (.str "less nn t")) (mCons (mC (.str "max nn n")) (mCons (mC (.str "min nn n")) (mCons (mC (.str "mod nn n")) (mCons (mC (.str "mul nn n")) (mCons (mC (.str "neg n n")) (mCons (mC (.str "negate t t")) (mCons (mC (.str "number_text n s")) (mCons (mC (.str "prepend nl l")) (mCons (mC (.str "product l n")) (mCons (mC (.str "repeat sn s")) (mCons (mC (.str "rest l l")) (mCons (mC (.str "reverse l l")) (mCons (mC (.str "reverse_text s s")) (mCons (mC (.str "running l l")) (mCons (mC (.str "same_list ll t")) (mCons (mC (.str "same_text ss t")) (mCons (mC (.str "size l n")) (mCons (mC (.str "skip sn s")) (mCons (mC (.str "sort l l")) (mCons (mC (.str "start sn s")) (mCons (mC (.str "sub nn n")) (mCons (mC (.str "sum l n")) (mCons (mC (.str "take ln l")) (mCons (mC (.str "text_number s n")) (mCons (mC (.str "up_to n l")) (mCons (mC (.str "words s n")) (mCons (mC (.str "zip_add ll l")) mNil))))))))))))))))))))))))))))))))))))))))))))))))))))))))))))
    (mRet (mOf (mLcS [1] (mItems (mVar 0)) (setV 1) mYes b__law_library_E1))))
noncomputable def m__law_library : List D → R D := mDef 2 b__law_library
noncomputable def b_is_component : M Fl := (mRet (mAnd (mIs "str" (mVar 0)) (mUn (dInK d_SIGNATURES) (mVar 0))))
noncomputable def m_is_component : List D → R D := mDef 1 b_is_component
noncomputable def b_is_commutative : M Fl := (mSeq (mIf (mNotT (mTr (mCallF m_is_component (mCons (mVar 0) mNil))))
    (mRaise 0 t_NotFound (mVar 0))
    mSkip)
    (mRet (mOp dIn (mVar 0) (mC c_COMMUTATIVE))))
noncomputable def m_is_commutative : List D → R D := mDefE 1 b_is_commutative
noncomputable def b__law_cell : M Fl := (mSeq (mIf (mT (mOp dLt (mVar 1) (mCall dLen (mCons (mVar 0) mNil))))
    (mRet (mCall dInt (mCons (mOp dIx (mVar 0) (mVar 1)) mNil)))
    mSkip)
    (mRet (mC (.int 0))))
noncomputable def m__law_cell : List D → R D := mDef 2 b__law_cell
noncomputable def b__law_number : M Fl := (mSeq (mAsg (setV 1) (mOp dMod (mVar 0) (mC (.int 4))))
    (mSeq (mIf (mT (mOp dEq (mVar 1) (mC (.int 0))))
    (mRet (mOp dSub (mOp dMod (mOp dDiv (mVar 0) (mC (.int 4))) (mC (.int 7))) (mC (.int 3))))
    mSkip)
    (mSeq (mIf (mT (mOp dEq (mVar 1) (mC (.int 1))))
    (mRet (mOp dSub (mOp dMod (mOp dDiv (mVar 0) (mC (.int 4))) (mC (.int 61))) (mC (.int 30))))
    mSkip)
    (mSeq (mIf (mT (mOp dEq (mVar 1) (mC (.int 2))))
    (mRet (mOp dIx (mOf (mNew (mCons (mC (.int 1000000)) (mCons (mUn dNeg (mC (.int 1000000))) (mCons (mC (.int 999999)) (mCons (mC (.int 500000)) (mCons (mC (.int 500001)) (mCons (mUn dNeg (mC (.int 500000))) (mCons (mC (.int 1000)) (mCons (mUn dNeg (mC (.int 1000))) mNil)))))))))) (mOp dMod (mOp dDiv (mVar 0) (mC (.int 4))) (mC (.int 8)))))
    mSkip)
    (mRet (mOp dSub (mOp dMod (mOp dDiv (mVar 0) (mC (.int 4))) (mC (.int 2000001))) (mC (.int 1000000))))))))
noncomputable def m__law_number : List D → R D := mDef 2 b__law_number
noncomputable def b__law_draws_L1 : M Fl := (mIf (mAndT (mT (mOp dGe (mCall dAbs (mCons (mVar 0) mNil)) (mOp dPow (mC (.int 10)) (mC (.int 18))))) (mT (mOp dGt (mVar 4) (mC (.int 0)))))
    (mSeq (mApp 3 (mOp dMod (mCall dInt (mCons (mVar 4) mNil)) (mVar 2)))
    (mAsg (setV 4) (mOp dDiv (mVar 4) (mVar 2))))
    (mSeq (mAsg (setV 6) (mOp dMod (mCall dInt (mCons (mOp dAdd (mOp dAdd (mOp dMul (mCall dAbs (mCons (mVar 0) mNil)) (mC (.int 48271))) (mOp dMul (mVar 5) (mC (.int 69621)))) (mC (.int 7))) mNil)) (mC (.int 2147483647))))
    (mSeq (mAsg (setV 6) (mOp dMod (mCall dInt (mCons (mOp dAdd (mOp dAdd (mOp dMul (mVar 6) (mC (.int 16807))) (mOp dDiv (mVar 6) (mC (.int 127)))) (mOp dMul (mVar 5) (mC (.int 31)))) mNil)) (mC (.int 2147483629))))
    (mApp 3 (mOp dMod (mOp dDiv (mVar 6) (mC (.int 3))) (mVar 2))))))
noncomputable def b__law_draws : M Fl := (mSeq (mSetM 3 (mNew mNil))
    (mSeq (mAsg (setV 4) (mCall dAbs (mCons (mVar 0) mNil)))
    (mSeq (mForS (mRng1 (mVar 1)) (setV 5)
    b__law_draws_L1)
    (mFrz 3 (mRet (mVar 3))))))
noncomputable def m__law_draws : List D → R D := mDef 7 b__law_draws
noncomputable def b__law_value_E1 : M D := (mOp dIx (mC (.str "a b0 9z1")) (mOp dMod (mVar 3) (mC (.int 8))))
noncomputable def b__law_value_E2 : M D := (mCallF m__law_number (mCons (mVar 3) mNil))
noncomputable def b__law_value_E3 : M D := (mOp dSub (mOp dMod (mVar 3) (mC (.int 9))) (mC (.int 4)))
noncomputable def b__law_value : M Fl := (mSeq (mIf (mT (mOp dEq (mVar 0) (mC (.str "n"))))
    (mRet (mCallF m__law_number (mCons (mVar 1) mNil)))
    mSkip)
    (mSeq (mIf (mT (mOp dEq (mVar 0) (mC (.str "t"))))
    (mRet (mOp dEq (mOp dMod (mVar 1) (mC (.int 2))) (mC (.int 1))))
    mSkip)
    (mSeq (mIf (mT (mOp dEq (mVar 0) (mC (.str "s"))))
    (mSeq (mAsg (setV 2) (mOp dIx (mOf (mNew (mCons (mC (.int 0)) (mCons (mC (.int 1)) (mCons (mC (.int 2)) (mCons (mC (.int 3)) (mCons (mC (.int 5)) (mCons (mC (.int 15)) (mCons (mC (.int 16)) (mCons (mC (.int 30)) mNil)))))))))) (mOp dMod (mVar 1) (mC (.int 8)))))
    (mRet (mM1 dJoin (mC (.str "")) (mOf (mLcS [3] (mItems (mCallF m__law_draws (mCons (mOp dDiv (mVar 1) (mC (.int 8))) (mCons (mVar 2) (mCons (mC (.int 64)) mNil))))) (setV 3) mYes b__law_value_E1)))))
    mSkip)
    (mSeq (mAsg (setV 2) (mOp dIx (mOf (mNew (mCons (mC (.int 0)) (mCons (mC (.int 1)) (mCons (mC (.int 2)) (mCons (mC (.int 3)) (mCons (mC (.int 4)) (mCons (mC (.int 6)) (mCons (mC (.int 11)) (mCons (mC (.int 12)) mNil)))))))))) (mOp dMod (mVar 1) (mC (.int 8)))))
    (mSeq (mIf (mT (mOp dEq (mOp dMod (mOp dDiv (mVar 1) (mC (.int 8))) (mC (.int 3))) (mC (.int 0))))
    (mRet (mCall dTuple (mCons (mOf (mLcS [3] (mItems (mCallF m__law_draws (mCons (mOp dDiv (mVar 1) (mC (.int 24))) (mCons (mVar 2) (mCons (mC (.int 4000)) mNil))))) (setV 3) mYes b__law_value_E2)) mNil)))
    mSkip)
    (mRet (mCall dTuple (mCons (mOf (mLcS [3] (mItems (mCallF m__law_draws (mCons (mOp dDiv (mVar 1) (mC (.int 24))) (mCons (mVar 2) (mCons (mC (.int 63)) mNil))))) (setV 3) mYes b__law_value_E3)) mNil))))))))
noncomputable def m__law_value : List D → R D := mDef 4 b__law_value
noncomputable def b_names : M Fl := (mRet (mC (.list (d_SIGNATURES.map fun q => .str q.1))))
noncomputable def m_names : List D → R D := mDef 0 b_names
noncomputable def b__abs : M Fl := (mRet (mCall dAbs (mCons (mVar 0) mNil)))
noncomputable def m__abs : List D → R D := mDef 1 b__abs
noncomputable def b__add : M Fl := (mRet (mOp dAdd (mVar 0) (mVar 1)))
noncomputable def m__add : List D → R D := mDef 2 b__add
noncomputable def b__both : M Fl := (mRet (mAnd (mVar 0) (mVar 1)))
noncomputable def m__both : List D → R D := mDef 2 b__both
noncomputable def b__divide : M Fl := (mRet (mIfE (mT (mOp dEq (mVar 1) (mC (.int 0)))) (mC .none) (mOp dDiv (mVar 0) (mVar 1))))
noncomputable def m__divide : List D → R D := mDef 2 b__divide
noncomputable def b__double : M Fl := (mRet (mOp dMul (mC (.int 2)) (mVar 0)))
noncomputable def m__double : List D → R D := mDef 1 b__double
noncomputable def b__either : M Fl := (mRet (mOr (mVar 0) (mVar 1)))
noncomputable def m__either : List D → R D := mDef 2 b__either
noncomputable def b__equal : M Fl := (mRet (mOp dEq (mVar 0) (mVar 1)))
noncomputable def m__equal : List D → R D := mDef 2 b__equal
noncomputable def b__half : M Fl := (mRet (mOp dDiv (mVar 0) (mC (.int 2))))
noncomputable def m__half : List D → R D := mDef 1 b__half
noncomputable def b__is_even : M Fl := (mRet (mOp dEq (mOp dMod (mVar 0) (mC (.int 2))) (mC (.int 0))))
noncomputable def m__is_even : List D → R D := mDef 1 b__is_even
noncomputable def b__less : M Fl := (mRet (mOp dLt (mVar 0) (mVar 1)))
noncomputable def m__less : List D → R D := mDef 2 b__less
noncomputable def b__max : M Fl := (mRet (mCall dMax (mCons (mVar 0) (mCons (mVar 1) mNil))))
noncomputable def m__max : List D → R D := mDef 2 b__max
noncomputable def b__min : M Fl := (mRet (mCall dMin (mCons (mVar 0) (mCons (mVar 1) mNil))))
noncomputable def m__min : List D → R D := mDef 2 b__min
noncomputable def b__mod : M Fl := (mRet (mIfE (mT (mOp dEq (mVar 1) (mC (.int 0)))) (mC .none) (mOp dMod (mVar 0) (mVar 1))))
noncomputable def m__mod : List D → R D := mDef 2 b__mod
noncomputable def b__mul : M Fl := (mRet (mOp dMul (mVar 0) (mVar 1)))
noncomputable def m__mul : List D → R D := mDef 2 b__mul
noncomputable def b__neg : M Fl := (mRet (mUn dNeg (mVar 0)))
noncomputable def m__neg : List D → R D := mDef 1 b__neg
noncomputable def b__negate : M Fl := (mRet (mNot (mVar 0)))
noncomputable def m__negate : List D → R D := mDef 1 b__negate
noncomputable def b__sub : M Fl := (mRet (mOp dSub (mVar 0) (mVar 1)))
noncomputable def m__sub : List D → R D := mDef 2 b__sub
noncomputable def b__concat : M Fl := (mRet (mOp dAdd (mVar 0) (mVar 1)))
noncomputable def m__concat : List D → R D := mDef 2 b__concat
noncomputable def b__contains : M Fl := (mRet (mOp dIn (mVar 1) (mVar 0)))
noncomputable def m__contains : List D → R D := mDef 2 b__contains
noncomputable def b__length : M Fl := (mRet (mCall dLen (mCons (mVar 0) mNil)))
noncomputable def m__length : List D → R D := mDef 1 b__length
noncomputable def b__number_text : M Fl := (mRet (mIfE (mT (mOp dLt (mVar 0) (mC (.int 0)))) (mC .none) (mCall dStr (mCons (mVar 0) mNil))))
noncomputable def m__number_text : List D → R D := mDef 1 b__number_text
noncomputable def b__repeat : M Fl := (mSeq (mIf (mOrT (mT (mOp dLt (mVar 1) (mC (.int 0)))) (mT (mOp dGt (mOp dMul (mCall dLen (mCons (mVar 0) mNil)) (mVar 1)) (mC c_TEXT_LIMIT))))
    (mRet (mC .none))
    mSkip)
    (mRet (mOp dMul (mVar 0) (mVar 1))))
noncomputable def m__repeat : List D → R D := mDef 2 b__repeat
noncomputable def b__reverse_text : M Fl := mNo
noncomputable def m__reverse_text : List D → R D := mDef 1 b__reverse_text
noncomputable def b__same_text : M Fl := (mRet (mOp dEq (mVar 0) (mVar 1)))
noncomputable def m__same_text : List D → R D := mDef 2 b__same_text
noncomputable def b__skip : M Fl := (mRet (mSl (mVar 0) (mPart (mCall dMax (mCons (mVar 1) (mCons (mC (.int 0)) mNil)))) mNoPart))
noncomputable def m__skip : List D → R D := mDef 2 b__skip
noncomputable def b__start : M Fl := (mRet (mSl (mVar 0) mNoPart (mPart (mCall dMax (mCons (mVar 1) (mCons (mC (.int 0)) mNil))))))
noncomputable def m__start : List D → R D := mDef 2 b__start
noncomputable def b__text_number_E1 : M D := (mOp dIn (mVar 1) (mC c_DIGITS))
noncomputable def b__text_number : M Fl := (mSeq (mIf (mOrT (mT (mOp dEq (mVar 0) (mC (.str "")))) (mAndT (mT (mOp dEq (mOp dIx (mVar 0) (mC (.int 0))) (mC (.str "0")))) (mT (mOp dNe (mVar 0) (mC (.str "0"))))))
    (mRet (mC .none))
    mSkip)
    (mSeq (mIf (mNotT (mTr (mCall dAll (mCons (mOf (mLcS [1] (mItems (mVar 0)) (setV 1) mYes b__text_number_E1)) mNil))))
    (mRet (mC .none))
    mSkip)
    (mRet (mCall dInt (mCons (mVar 0) mNil)))))
noncomputable def m__text_number : List D → R D := mDef 2 b__text_number
noncomputable def b__words : M Fl := (mRet (mCall dLen (mCons (mM0 dWords (mVar 0)) mNil)))
noncomputable def m__words : List D → R D := mDef 1 b__words
noncomputable def b__add_each_E1 : M D := (mOp dAdd (mVar 2) (mVar 1))
noncomputable def b__add_each : M Fl := (mRet (mCall dTuple (mCons (mOf (mLcS [2] (mItems (mVar 0)) (setV 2) mYes b__add_each_E1)) mNil)))
noncomputable def m__add_each : List D → R D := mDef 3 b__add_each
noncomputable def b__append : M Fl := mNo
noncomputable def m__append : List D → R D := mDef 2 b__append
noncomputable def b__at : M Fl := (mRet (mIfE (mT (mChain dLe dLt (mC (.int 0)) (mVar 1) (mCall dLen (mCons (mVar 0) mNil)))) (mOp dIx (mVar 0) (mVar 1)) (mC .none)))
noncomputable def m__at : List D → R D := mDef 2 b__at
noncomputable def b__count_of : M Fl := mNo
noncomputable def m__count_of : List D → R D := mDef 2 b__count_of
noncomputable def b__distinct : M Fl := mNo
noncomputable def m__distinct : List D → R D := mDef 3 b__distinct
noncomputable def b__drop : M Fl := (mRet (mSl (mVar 0) (mPart (mCall dMax (mCons (mVar 1) (mCons (mC (.int 0)) mNil)))) mNoPart))
noncomputable def m__drop : List D → R D := mDef 2 b__drop
noncomputable def b__first : M Fl := (mRet (mIfE (mTr (mVar 0)) (mOp dIx (mVar 0) (mC (.int 0))) (mC .none)))
noncomputable def m__first : List D → R D := mDef 1 b__first
noncomputable def b__greatest : M Fl := mNo
noncomputable def m__greatest : List D → R D := mDef 1 b__greatest
noncomputable def b__is_empty : M Fl := (mRet (mOp dEq (mCall dLen (mCons (mVar 0) mNil)) (mC (.int 0))))
noncomputable def m__is_empty : List D → R D := mDef 1 b__is_empty
noncomputable def b__join : M Fl := (mRet (mOp dAdd (mVar 0) (mVar 1)))
noncomputable def m__join : List D → R D := mDef 2 b__join
noncomputable def b__keep_above_E1 : M D := (mVar 2)
noncomputable def b__keep_above_T1 : M Bool := (mT (mOp dGt (mVar 2) (mVar 1)))
noncomputable def b__keep_above : M Fl := (mRet (mCall dTuple (mCons (mOf (mLcS [2] (mItems (mVar 0)) (setV 2) b__keep_above_T1 b__keep_above_E1)) mNil)))
noncomputable def m__keep_above : List D → R D := mDef 3 b__keep_above
noncomputable def b__keep_even_E1 : M D := (mVar 1)
noncomputable def b__keep_even_T1 : M Bool := (mT (mOp dEq (mOp dMod (mVar 1) (mC (.int 2))) (mC (.int 0))))
noncomputable def b__keep_even : M Fl := (mRet (mCall dTuple (mCons (mOf (mLcS [1] (mItems (mVar 0)) (setV 1) b__keep_even_T1 b__keep_even_E1)) mNil)))
noncomputable def m__keep_even : List D → R D := mDef 2 b__keep_even
noncomputable def b__last : M Fl := (mRet (mIfE (mTr (mVar 0)) (mOp dIx (mVar 0) (mUn dNeg (mC (.int 1)))) (mC .none)))
noncomputable def m__last : List D → R D := mDef 1 b__last
noncomputable def b__least : M Fl := mNo
noncomputable def m__least : List D → R D := mDef 1 b__least
noncomputable def b__prepend : M Fl := mNo
noncomputable def m__prepend : List D → R D := mDef 2 b__prepend
noncomputable def b__product_L1 : M Fl := (mAsg (setV 1) (mOp dMul (mVar 1) (mVar 2)))
noncomputable def b__product : M Fl := (mSeq (mAsg (setV 1) (mC (.int 1)))
    (mSeq (mForS (mItems (mVar 0)) (setV 2)
    b__product_L1)
    (mRet (mVar 1))))
noncomputable def m__product : List D → R D := mDef 3 b__product
noncomputable def b__rest : M Fl := (mRet (mIfE (mTr (mVar 0)) (mSl (mVar 0) (mPart (mC (.int 1))) mNoPart) (mC .none)))
noncomputable def m__rest : List D → R D := mDef 1 b__rest
noncomputable def b__reverse : M Fl := mNo
noncomputable def m__reverse : List D → R D := mDef 1 b__reverse
noncomputable def b__running_L1 : M Fl := (mSeq (mAsg (setV 1) (mOp dAdd (mVar 1) (mVar 3)))
    (mApp 2 (mVar 1)))
noncomputable def b__running : M Fl := (mSeq (mAsg (setV 1) (mC (.int 0)))
    (mSeq (mSetM 2 (mNew mNil))
    (mSeq (mForS (mItems (mVar 0)) (setV 3)
    b__running_L1)
    (mFrz 2 (mRet (mCall dTuple (mCons (mVar 2) mNil)))))))
noncomputable def m__running : List D → R D := mDef 4 b__running
noncomputable def b__same_list : M Fl := (mRet (mOp dEq (mVar 0) (mVar 1)))
noncomputable def m__same_list : List D → R D := mDef 2 b__same_list
noncomputable def b__size : M Fl := (mRet (mCall dLen (mCons (mVar 0) mNil)))
noncomputable def m__size : List D → R D := mDef 1 b__size
noncomputable def b__sort : M Fl := mNo
noncomputable def m__sort : List D → R D := mDef 1 b__sort
noncomputable def b__sum : M Fl := (mRet (mCall dSum (mCons (mVar 0) mNil)))
noncomputable def m__sum : List D → R D := mDef 1 b__sum
noncomputable def b__take : M Fl := (mRet (mSl (mVar 0) mNoPart (mPart (mCall dMax (mCons (mVar 1) (mCons (mC (.int 0)) mNil))))))
noncomputable def m__take : List D → R D := mDef 2 b__take
noncomputable def b__up_to : M Fl := mNo
noncomputable def m__up_to : List D → R D := mDef 1 b__up_to
noncomputable def b__zip_add_E1 : M D := (mOp dAdd (mVar 2) (mVar 3))
noncomputable def b__zip_add : M Fl := (mRet (mCall dTuple (mCons (mOf (mLcS [2, 3] (mZip (mVar 0) (mVar 1)) (setT2 (setV 2) (setV 3)) mYes b__zip_add_E1)) mNil)))
noncomputable def m__zip_add : List D → R D := mDef 4 b__zip_add
noncomputable def acts__result : List (Str × (Nat × (List D → R D))) := ("_abs", (1, m__abs)) :: ("_add", (2, m__add)) :: ("_both", (2, m__both)) :: ("_divide", (2, m__divide)) :: ("_double", (1, m__double)) :: ("_either", (2, m__either)) :: ("_equal", (2, m__equal)) :: ("_half", (1, m__half)) :: ("_is_even", (1, m__is_even)) :: ("_less", (2, m__less)) :: ("_max", (2, m__max)) :: ("_min", (2, m__min)) :: ("_mod", (2, m__mod)) :: ("_mul", (2, m__mul)) :: ("_neg", (1, m__neg)) :: ("_negate", (1, m__negate)) :: ("_sub", (2, m__sub)) :: ("_concat", (2, m__concat)) :: ("_contains", (2, m__contains)) :: ("_length", (1, m__length)) :: ("_number_text", (1, m__number_text)) :: ("_repeat", (2, m__repeat)) :: ("_reverse_text", (1, m__reverse_text)) :: ("_same_text", (2, m__same_text)) :: ("_skip", (2, m__skip)) :: ("_start", (2, m__start)) :: ("_text_number", (1, m__text_number)) :: ("_words", (1, m__words)) :: ("_add_each", (2, m__add_each)) :: ("_append", (2, m__append)) :: ("_at", (2, m__at)) :: ("_count_of", (2, m__count_of)) :: ("_distinct", (1, m__distinct)) :: ("_drop", (2, m__drop)) :: ("_first", (1, m__first)) :: ("_greatest", (1, m__greatest)) :: ("_is_empty", (1, m__is_empty)) :: ("_join", (2, m__join)) :: ("_keep_above", (2, m__keep_above)) :: ("_keep_even", (1, m__keep_even)) :: ("_last", (1, m__last)) :: ("_least", (1, m__least)) :: ("_prepend", (2, m__prepend)) :: ("_product", (1, m__product)) :: ("_rest", (1, m__rest)) :: ("_reverse", (1, m__reverse)) :: ("_running", (1, m__running)) :: ("_same_list", (2, m__same_list)) :: ("_size", (1, m__size)) :: ("_sort", (1, m__sort)) :: ("_sum", (1, m__sum)) :: ("_take", (2, m__take)) :: ("_up_to", (1, m__up_to)) :: ("_zip_add", (2, m__zip_add)) :: []
noncomputable def b__result : M Fl := (mDispJ (fun z => (getT d_NUMBER_ACTIONS z).or ((getT d_TEXT_ACTIONS z).or (getT d_LIST_ACTIONS z))) (getT acts__result) 0 1 2)
noncomputable def m__result : List D → R D := mDef 3 b__result
noncomputable def b__chosen : M Fl := (mSeq (mIf (mT (mOp dIsN (mVar 0) (mC .none)))
    (mRet (mC .none))
    mSkip)
    (mRet (mIfE (mTr (mVar 0)) (mVar 1) (mVar 2))))
noncomputable def m__chosen : List D → R D := mDef 3 b__chosen
noncomputable def b_is_number : M Fl := (mSeq (mIf (mOrT (mNotT (mTr (mIs "int" (mVar 0)))) (mTr (mIs "bool" (mVar 0))))
    (mRet (mC (.bool false)))
    mSkip)
    (mRet (mChain dLe dLe (mUn dNeg (mC c_NUMBER_LIMIT)) (mVar 0) (mC c_NUMBER_LIMIT))))
noncomputable def m_is_number : List D → R D := mDef 1 b_is_number
noncomputable def b_is_text_E1 : M D := (mOp dIn (mVar 1) (mC c_SIGNS))
noncomputable def b_is_text : M Fl := (mSeq (mIf (mOrT (mNotT (mTr (mIs "str" (mVar 0)))) (mT (mOp dGt (mCall dLen (mCons (mVar 0) mNil)) (mC c_TEXT_LIMIT))))
    (mRet (mC (.bool false)))
    mSkip)
    (mRet (mCall dAll (mCons (mOf (mLcS [1] (mItems (mVar 0)) (setV 1) mYes b_is_text_E1)) mNil))))
noncomputable def m_is_text : List D → R D := mDef 2 b_is_text
noncomputable def b_is_list_E1 : M D := (mCallF m_is_number (mCons (mVar 1) mNil))
noncomputable def b_is_list : M Fl := (mSeq (mIf (mOrT (mNotT (mTr (mIs "tuple" (mVar 0)))) (mT (mOp dGt (mCall dLen (mCons (mVar 0) mNil)) (mC c_LIST_LIMIT))))
    (mRet (mC (.bool false)))
    mSkip)
    (mRet (mCall dAll (mCons (mOf (mLcS [1] (mItems (mVar 0)) (setV 1) mYes b_is_list_E1)) mNil))))
noncomputable def m_is_list : List D → R D := mDef 2 b_is_list
noncomputable def b_is_value : M Fl := (mSeq (mIf (mT (mOp dEq (mVar 0) (mC (.str "number"))))
    (mRet (mCallF m_is_number (mCons (mVar 1) mNil)))
    mSkip)
    (mSeq (mIf (mT (mOp dEq (mVar 0) (mC (.str "truth"))))
    (mRet (mIs "bool" (mVar 1)))
    mSkip)
    (mSeq (mIf (mT (mOp dEq (mVar 0) (mC (.str "text"))))
    (mRet (mCallF m_is_text (mCons (mVar 1) mNil)))
    mSkip)
    (mRet (mAnd (mOp dEq (mVar 0) (mC (.str "list"))) (mCallF m_is_list (mCons (mVar 1) mNil)))))))
noncomputable def m_is_value : List D → R D := mDef 2 b_is_value
noncomputable def b_apply : M Fl := (mSeq (mIf (mNotT (mTr (mCallF m_is_component (mCons (mVar 0) mNil))))
    (mRaise 0 t_NotFound (mVar 0))
    mSkip)
    (mSeq (mIf (mT (mOp dIn (mVar 0) (mC c_CHOICES)))
    (mRet (mUn (starD 3 m__chosen) (mVar 1)))
    mSkip)
    (mSeq (mIf (mT (mOp dInG (mC .none) (mVar 1)))
    (mRet (mC .none))
    mSkip)
    (mSeq (mAsg (setV 2) (mCallF m__result (mCons (mVar 0) (mCons (mVar 1) mNil))))
    (mRet (mIfE (mTr (mCallF m_is_value (mCons (mOp dIx (mUn (dGetK d_SIGNATURES) (mVar 0)) (mC (.int 1))) (mCons (mVar 2) mNil)))) (mVar 2) (mC .none)))))))
noncomputable def m_apply : List D → R D := mDefE 3 b_apply
noncomputable def b_argument_kinds : M Fl := (mSeq (mIf (mNotT (mTr (mCallF m_is_component (mCons (mVar 0) mNil))))
    (mRaise 0 t_NotFound (mVar 0))
    mSkip)
    (mRet (mCall dList (mCons (mOp dIx (mUn (dGetK d_SIGNATURES) (mVar 0)) (mC (.int 0))) mNil))))
noncomputable def m_argument_kinds : List D → R D := mDefE 1 b_argument_kinds
noncomputable def b_result_kind : M Fl := (mSeq (mIf (mNotT (mTr (mCallF m_is_component (mCons (mVar 0) mNil))))
    (mRaise 0 t_NotFound (mVar 0))
    mSkip)
    (mRet (mOp dIx (mUn (dGetK d_SIGNATURES) (mVar 0)) (mC (.int 1)))))
noncomputable def m_result_kind : List D → R D := mDefE 1 b_result_kind
noncomputable def b__law_asked_B1 : M Fl := (mSeq (mIf (mT (mOp dEq (mVar 0) (mC (.int 0))))
    (mRet (mCall dTup (mCons (mC (.str "told")) (mCons (mCallE m_argument_kinds (mCons (mVar 1) mNil)) mNil))))
    mSkip)
    (mSeq (mIf (mT (mOp dEq (mVar 0) (mC (.int 1))))
    (mRet (mCall dTup (mCons (mC (.str "told")) (mCons (mCallE m_result_kind (mCons (mVar 1) mNil)) mNil))))
    mSkip)
    (mSeq (mIf (mT (mOp dEq (mVar 0) (mC (.int 2))))
    (mRet (mCall dTup (mCons (mC (.str "told")) (mCons (mCallE m_is_commutative (mCons (mVar 1) mNil)) mNil))))
    mSkip)
    (mRet (mCall dTup (mCons (mC (.str "told")) (mCons (mCallE m_apply (mCons (mVar 1) (mCons (mOf (mNew (mCons (mC .none) (mCons (mC .none) mNil)))) mNil))) mNil)))))))
noncomputable def b__law_asked : M Fl := (mTryR 2 (fun _ => true) b__law_asked_B1 (fun _ pay => [(.str "unknown"), pay, (.bool true)]))
noncomputable def m__law_asked : List D → R D := mDefE 3 b__law_asked
noncomputable def b_law_E1 : M D := (mOp dIx (mVar 12) (mC (.int 0)))
noncomputable def b_law_L1 : M Fl := (mIf (mT (mOp dNe (mCallE m__law_asked (mCons (mVar 9) (mCons (mVar 8) mNil))) (mCall dTup (mCons (mC (.str "unknown")) (mCons (mVar 8) (mCons (mC (.bool true)) mNil))))))
    (mRet (mC (.bool false)))
    mSkip)
noncomputable def b_law_E2 : M D := (mOp dIx (mVar 12) (mC (.int 0)))
noncomputable def b_law : M Fl := (mSeq (mAsg (setV 1) (mCall dAbs (mCons (mCallF m__law_cell (mCons (mVar 0) (mCons (mC (.int 0)) mNil))) mNil)))
    (mSeq (mAsg (setV 2) (mCallF m__law_library mNil))
    (mSeq (mAsg (setV 3) (mOp dIx (mVar 2) (mOp dMod (mVar 1) (mC (.int 57)))))
    (mSeq (mAsg (setV 4) (mOf (mNew (mCons (mC (.str "add")) (mCons (mC (.str "both")) (mCons (mC (.str "either")) (mCons (mC (.str "equal")) (mCons (mC (.str "max")) (mCons (mC (.str "min")) (mCons (mC (.str "mul")) (mCons (mC (.str "same_list")) (mCons (mC (.str "same_text")) (mCons (mC (.str "zip_add")) mNil)))))))))))))
    (mSeq (mAsg (setV 5) (mCallE m_is_commutative (mCons (mOp dIx (mVar 3) (mC (.int 0))) mNil)))
    (mSeq (mIf (mOrT (mNotT (mTr (mIs "bool" (mVar 5)))) (mT (mOp dNe (mVar 5) (mOp dIn (mOp dIx (mVar 3) (mC (.int 0))) (mVar 4)))))
    (mRet (mC (.bool false)))
    mSkip)
    (mSeq (mIf (mT (mOp dIn (mOp dIx (mVar 3) (mC (.int 0))) (mVar 4)))
    (mSeq (mAsg (setV 10) (mCallF m__law_value (mCons (mOp dIx (mOp dIx (mVar 3) (mC (.int 1))) (mC (.int 0))) (mCons (mCall dAbs (mCons (mCallF m__law_cell (mCons (mVar 0) (mCons (mC (.int 1)) mNil))) mNil)) mNil))))
    (mSeq (mAsg (setV 11) (mCallF m__law_value (mCons (mOp dIx (mOp dIx (mVar 3) (mC (.int 1))) (mC (.int 1))) (mCons (mCall dAbs (mCons (mCallF m__law_cell (mCons (mVar 0) (mCons (mC (.int 2)) mNil))) mNil)) mNil))))
    (mIf (mT (mOp dNe (mCallE m_apply (mCons (mOp dIx (mVar 3) (mC (.int 0))) (mCons (mOf (mNew (mCons (mVar 10) (mCons (mVar 11) mNil)))) mNil))) (mCallE m_apply (mCons (mOp dIx (mVar 3) (mC (.int 0))) (mCons (mOf (mNew (mCons (mVar 11) (mCons (mVar 10) mNil)))) mNil)))))
    (mRet (mC (.bool false)))
    mSkip)))
    mSkip)
    (mSeq (mAsg (setV 6) (mOp dMod (mOp dDiv (mVar 1) (mC (.int 57))) (mCall dLen (mCons (mOp dIx (mVar 3) (mC (.int 0))) mNil))))
    (mSeq (mAsg (setV 7) (mOp dMod (mOp dDiv (mVar 1) (mC (.int 1000))) (mC (.int 4))))
    (mSeq (mAsg (setV 8) (mOp dAdd (mSl (mOp dIx (mVar 3) (mC (.int 0))) mNoPart (mPart (mVar 6))) (mSl (mOp dIx (mVar 3) (mC (.int 0))) (mPart (mOp dAdd (mVar 6) (mC (.int 1)))) mNoPart)))
    (mSeq (mIf (mT (mOp dEq (mVar 7) (mC (.int 1))))
    (mAsg (setV 8) (mOp dAdd (mOp dAdd (mSl (mOp dIx (mVar 3) (mC (.int 0))) mNoPart (mPart (mVar 6))) (mOp dIx (mOp dIx (mVar 3) (mC (.int 0))) (mVar 6))) (mSl (mOp dIx (mVar 3) (mC (.int 0))) (mPart (mVar 6)) mNoPart)))
    mSkip)
    (mSeq (mIf (mT (mOp dEq (mVar 7) (mC (.int 2))))
    (mAsg (setV 8) (mOp dAdd (mOp dAdd (mSl (mOp dIx (mVar 3) (mC (.int 0))) mNoPart (mPart (mVar 6))) (mC (.str "A"))) (mSl (mOp dIx (mVar 3) (mC (.int 0))) (mPart (mOp dAdd (mVar 6) (mC (.int 1)))) mNoPart)))
    mSkip)
    (mSeq (mIf (mT (mOp dEq (mVar 7) (mC (.int 3))))
    (mAsg (setV 8) (mOp dIx (mOf (mNew (mCons (mC (.str "input")) (mCons (mC (.str "constant")) (mCons (mC (.str "")) (mCons (mC (.str "choose")) (mCons (mC (.str " add")) mNil))))))) (mOp dMod (mOp dDiv (mVar 1) (mC (.int 4000))) (mC (.int 5)))))
    mSkip)
    (mSeq (mIf (mT (mOp dIn (mVar 8) (mOf (mLcS [12] (mItems (mVar 2)) (setV 12) mYes b_law_E1))))
    (mRet (mC (.bool true)))
    mSkip)
    (mSeq (mForS (mRng1 (mC (.int 4))) (setV 9)
    b_law_L1)
    (mRet (mOp dEq (mCallF m_names mNil) (mOf (mLcS [12] (mItems (mVar 2)) (setV 12) mYes b_law_E2)))))))))))))))))))
noncomputable def m_law : List D → R D := mDef 13 b_law
end K5
end Part_K05d

section Part_K05o
set_option Elab.async false
set_option linter.all false
set_option maxRecDepth 100000
set_option autoImplicit false
set_option maxHeartbeats 2000000
namespace K5
open PySem PySem.Spec PyProof.Rows L2 DL
/-- what the top has written -/
structure Txt (P : Program) (w : World) (K : PySem.W.Frag) (mg : Str → Option Value) (C : Addr) : Prop where
  f__law_library : FunX K mg "_law_library" s__law_library []
  f_is_component : FunX K mg "is_component" s_is_component ["name"]
  f_is_commutative : FunX K mg "is_commutative" s_is_commutative ["name"]
  f__law_cell : FunX K mg "_law_cell" s__law_cell ["script", "k"]
  f__law_number : FunX K mg "_law_number" s__law_number ["cell"]
  f__law_draws : FunX K mg "_law_draws" s__law_draws ["cell", "many", "limit"]
  f__law_value : FunX K mg "_law_value" s__law_value ["letter", "cell"]
  f_names : FunX K mg "names" s_names []
  f__abs : FunX K mg "_abs" s__abs ["n"]
  f__add : FunX K mg "_add" s__add ["n", "m"]
  f__both : FunX K mg "_both" s__both ["p", "q"]
  f__divide : FunX K mg "_divide" s__divide ["n", "m"]
  f__double : FunX K mg "_double" s__double ["n"]
  f__either : FunX K mg "_either" s__either ["p", "q"]
  f__equal : FunX K mg "_equal" s__equal ["n", "m"]
  f__half : FunX K mg "_half" s__half ["n"]
  f__is_even : FunX K mg "_is_even" s__is_even ["n"]
  f__less : FunX K mg "_less" s__less ["n", "m"]
  f__max : FunX K mg "_max" s__max ["n", "m"]
  f__min : FunX K mg "_min" s__min ["n", "m"]
  f__mod : FunX K mg "_mod" s__mod ["n", "m"]
  f__mul : FunX K mg "_mul" s__mul ["n", "m"]
  f__neg : FunX K mg "_neg" s__neg ["n"]
  f__negate : FunX K mg "_negate" s__negate ["p"]
  f__sub : FunX K mg "_sub" s__sub ["n", "m"]
  f__concat : FunX K mg "_concat" s__concat ["s", "t"]
  f__contains : FunX K mg "_contains" s__contains ["s", "t"]
  f__length : FunX K mg "_length" s__length ["s"]
  f__number_text : FunX K mg "_number_text" s__number_text ["n"]
  f__repeat : FunX K mg "_repeat" s__repeat ["s", "n"]
  f__reverse_text : FunX K mg "_reverse_text" s__reverse_text ["s"]
  f__same_text : FunX K mg "_same_text" s__same_text ["s", "t"]
  f__skip : FunX K mg "_skip" s__skip ["s", "n"]
  f__start : FunX K mg "_start" s__start ["s", "n"]
  f__text_number : FunX K mg "_text_number" s__text_number ["s"]
  f__words : FunX K mg "_words" s__words ["s"]
  f__add_each : FunX K mg "_add_each" s__add_each ["a", "n"]
  f__append : FunX K mg "_append" s__append ["a", "n"]
  f__at : FunX K mg "_at" s__at ["a", "n"]
  f__count_of : FunX K mg "_count_of" s__count_of ["a", "n"]
  f__distinct : FunX K mg "_distinct" s__distinct ["a"]
  f__drop : FunX K mg "_drop" s__drop ["a", "n"]
  f__first : FunX K mg "_first" s__first ["a"]
  f__greatest : FunX K mg "_greatest" s__greatest ["a"]
  f__is_empty : FunX K mg "_is_empty" s__is_empty ["a"]
  f__join : FunX K mg "_join" s__join ["a", "b"]
  f__keep_above : FunX K mg "_keep_above" s__keep_above ["a", "n"]
  f__keep_even : FunX K mg "_keep_even" s__keep_even ["a"]
  f__last : FunX K mg "_last" s__last ["a"]
  f__least : FunX K mg "_least" s__least ["a"]
  f__prepend : FunX K mg "_prepend" s__prepend ["n", "a"]
  f__product : FunX K mg "_product" s__product ["a"]
  f__rest : FunX K mg "_rest" s__rest ["a"]
  f__reverse : FunX K mg "_reverse" s__reverse ["a"]
  f__running : FunX K mg "_running" s__running ["a"]
  f__same_list : FunX K mg "_same_list" s__same_list ["a", "b"]
  f__size : FunX K mg "_size" s__size ["a"]
  f__sort : FunX K mg "_sort" s__sort ["a"]
  f__sum : FunX K mg "_sum" s__sum ["a"]
  f__take : FunX K mg "_take" s__take ["a", "n"]
  f__up_to : FunX K mg "_up_to" s__up_to ["n"]
  f__zip_add : FunX K mg "_zip_add" s__zip_add ["a", "b"]
  f__result : FunX K mg "_result" s__result ["name", "values"]
  f__chosen : FunX K mg "_chosen" s__chosen ["truth", "second", "third"]
  f_is_number : FunX K mg "is_number" s_is_number ["value"]
  f_is_text : FunX K mg "is_text" s_is_text ["value"]
  f_is_list : FunX K mg "is_list" s_is_list ["value"]
  f_is_value : FunX K mg "is_value" s_is_value ["kind", "value"]
  f_apply : FunX K mg "apply" s_apply ["name", "outcomes"]
  f_argument_kinds : FunX K mg "argument_kinds" s_argument_kinds ["name"]
  f_result_kind : FunX K mg "result_kind" s_result_kind ["name"]
  f__law_asked : FunX K mg "_law_asked" s__law_asked ["which", "name"]
  f_law : FunX K mg "law" s_law ["script"]
  c_CHOICES : ConX K mg "CHOICES" c_CHOICES
  c_COMMUTATIVE : ConX K mg "COMMUTATIVE" c_COMMUTATIVE
  c_DIGITS : ConX K mg "DIGITS" c_DIGITS
  c_LIST_LIMIT : ConX K mg "LIST_LIMIT" c_LIST_LIMIT
  c_NUMBER_LIMIT : ConX K mg "NUMBER_LIMIT" c_NUMBER_LIMIT
  c_SIGNS : ConX K mg "SIGNS" c_SIGNS
  c_TEXT_LIMIT : ConX K mg "TEXT_LIMIT" c_TEXT_LIMIT
  d_LIST_ACTIONS : TabX K w mg "LIST_ACTIONS" (NmR mg) d_LIST_ACTIONS
  d_NUMBER_ACTIONS : TabX K w mg "NUMBER_ACTIONS" (NmR mg) d_NUMBER_ACTIONS
  d_SIGNATURES : TabX K w mg "SIGNATURES" (Says K) d_SIGNATURES
  d_TEXT_ACTIONS : TabX K w mg "TEXT_ACTIONS" (NmR mg) d_TEXT_ACTIONS
  z_abs : mg "abs" = none
  z_all : mg "all" = none
  z_bool : mg "bool" = none
  z_int : mg "int" = none
  z_isinstance : mg "isinstance" = none
  z_len : mg "len" = none
  z_list : mg "list" = none
  z_max : mg "max" = none
  z_min : mg "min" = none
  z_range : mg "range" = none
  z_sorted : mg "sorted" = none
  z_str : mg "str" = none
  z_sum : mg "sum" = none
  z_tuple : mg "tuple" = none
  z_zip : mg "zip" = none
  g_NotFound : mg "NotFound" = some (.ref C)
  cf : ClsF K C "name"
  x_NotFound : ∀ (w : World) (base : Heap), ErrX P w K mg base 1 "NotFound" (C, "name") t_NotFound
  m_NotFound : PySem.W.exmOne K (.ref C) (.ref C) = some true
  k_LeastError : ∃ a, mg "LeastError" = some (.ref a) ∧ PySem.W.kitOne K (.ref C) (.ref a) = some true
section
variable {P : Program} {w : World} {K : PySem.W.Frag} {mg : Str → Option Value} {base : Heap} {C : Addr}
theorem ok__law_library (T : Txt P w K mg C) : FnX P w K mg base 1 "_law_library" 0 m__law_library :=
  def_okX (k := 0) (EC := EC0 C) T.f__law_library sc__law_library fun f cdv A outer s H E hr => (show DSs _ _ _ _ b__law_library from
  (dss_cons (ds_set 0 sc__law_library.nd (de_lst (da_cons de_str (da_cons de_str (da_cons de_str (da_cons de_str (da_cons de_str (da_cons de_str (da_cons de_str (da_cons de_str (da_cons de_str (da_cons de_str (da_cons de_str (da_cons de_str (da_cons de_str (da_cons de_str (da_cons de_str (da_cons de_str (da_cons de_str (da_cons de_str (da_cons de_str (da_cons de_str (da_cons de_str (da_cons de_str (da_cons de_str (da_cons de_str (da_cons de_str (da_cons de_str (da_cons de_str (da_cons de_str (da_cons de_str (da_cons de_str (da_cons de_str (da_cons de_str (da_cons de_str (da_cons de_str (da_cons de_str (da_cons de_str (da_cons de_str (da_cons de_str (da_cons de_str (da_cons de_str (da_cons de_str (da_cons de_str (da_cons de_str (da_cons de_str (da_cons de_str (da_cons de_str (da_cons de_str (da_cons de_str (da_cons de_str (da_cons de_str (da_cons de_str (da_cons de_str (da_cons de_str (da_cons de_str (da_cons de_str (da_cons de_str (da_cons de_str da_nil)))))))))))))))))))))))))))))))))))))))))))))))))))))))))))
    (dss_one (ds_ret (de_of (dl_lc (own := [(("row" : Str), 1)]) (W0 := W00) rfl sc__law_library.nd (di_seq (de_var 0)) (blkOk_by (N := N__law_library) (sc := defScope s__law_library) (by decide +kernel)) (fun _ _ _ _ _ => (dg_name (j := 1) sc__law_library.nd rfl (by first | exact Or.inl rfl | exact Or.inr rfl))) (by simp) (fun _ _ _ _ _ => dts_nil) (fun _ _ _ _ _ => (de_m1 PySem.F.slot_str_split PySem.F.type_str_split mt_split rm_split (de_var 1) de_str))))))))
theorem ok_is_component (T : Txt P w K mg C) : FnX P w K mg base 1 "is_component" 1 m_is_component :=
  def_okX (k := 0) (EC := EC0 C) T.f_is_component sc_is_component fun f cdv A outer s H E hr => (show DSs _ _ _ _ b_is_component from
  (dss_one (ds_ret (de_and (de_isi (T := "str") (by unfold TyKnown; decide) (de_var 0) (by rfl) T.z_isinstance (by rfl) T.z_str (by decide +kernel)) (de_one (de_inK T.d_SIGNATURES (de_var 0)))))))
theorem ok_is_commutative (T : Txt P w K mg C) : FnE P w K mg base (EC0 C) 3 "is_commutative" 1 m_is_commutative :=
  def_okE (k := 2) (EC := EC0 C) T.f_is_commutative sc_is_commutative fun f cdv A outer s H E hr tk po => (show DSs _ _ _ _ b_is_commutative from
  (dss_cons (ds_if (dt_not (dt_truth (de_callX (ok_is_component T) (hr.mono (by decide)) (da_cons (de_var 0) da_nil))))
    (dss_one (ds_raise rfl tk (T.x_NotFound _ _) (hr.mono (by decide)) (de_var 0)))
    dss_nil)
    (dss_one (ds_ret (de_cmp op_inA ro_in (de_var 0) (de_conX T.c_COMMUTATIVE) rfl)))))
theorem ok__law_cell (T : Txt P w K mg C) : FnX P w K mg base 1 "_law_cell" 2 m__law_cell :=
  def_okX (k := 0) (EC := EC0 C) T.f__law_cell sc__law_cell fun f cdv A outer s H E hr => (show DSs _ _ _ _ b__law_cell from
  (dss_cons (ds_if (dt_cmp (op_ltA hr.units0) ro_lt (de_var 1) (de_callB call_len rc_len (by rfl) T.z_len (by decide +kernel) (da_cons (de_var 0) da_nil)) (nomark _))
    (dss_one (ds_ret (de_callTy call_intA rc_int (by rfl) T.z_int (by decide +kernel) (da_cons (de_ix (de_var 0) (de_var 1)) da_nil))))
    dss_nil)
    (dss_one (ds_ret de_int))))
theorem ok__law_number (T : Txt P w K mg C) : FnX P w K mg base 1 "_law_number" 1 m__law_number :=
  def_okX (k := 0) (EC := EC0 C) T.f__law_number sc__law_number fun f cdv A outer s H E hr => (show DSs _ _ _ _ b__law_number from
  (dss_cons (ds_set 1 sc__law_number.nd (de_op op_modN ro_mod (de_var 0) de_int))
    (dss_cons (ds_if (dt_cmp (op_eqD hr.units) ro_eq (de_var 1) de_int (nomark _))
    (dss_one (ds_ret (de_op op_sub ro_sub (de_op op_modN ro_mod (de_op op_divA ro_div (de_var 0) de_int) de_int) de_int)))
    dss_nil)
    (dss_cons (ds_if (dt_cmp (op_eqD hr.units) ro_eq (de_var 1) de_int (nomark _))
    (dss_one (ds_ret (de_op op_sub ro_sub (de_op op_modN ro_mod (de_op op_divA ro_div (de_var 0) de_int) de_int) de_int)))
    dss_nil)
    (dss_cons (ds_if (dt_cmp (op_eqD hr.units) ro_eq (de_var 1) de_int (nomark _))
    (dss_one (ds_ret (de_ix (de_lst (da_cons de_int (da_cons (de_un un_neg ro_neg de_int) (da_cons de_int (da_cons de_int (da_cons de_int (da_cons (de_un un_neg ro_neg de_int) (da_cons de_int (da_cons (de_un un_neg ro_neg de_int) da_nil))))))))) (de_op op_modN ro_mod (de_op op_divA ro_div (de_var 0) de_int) de_int))))
    dss_nil)
    (dss_one (ds_ret (de_op op_sub ro_sub (de_op op_modN ro_mod (de_op op_divA ro_div (de_var 0) de_int) de_int) de_int))))))))
theorem ok__law_draws (T : Txt P w K mg C) : FnX P w K mg base 1 "_law_draws" 3 m__law_draws :=
  def_okX (k := 0) (EC := EC0 C) T.f__law_draws sc__law_draws fun f cdv A outer s H E hr => (show DSs _ _ _ _ b__law_draws from
  (dss_cons (ds_setM 3 sc__law_draws.nd (dl_lst da_nil))
    (dss_cons (ds_set 4 sc__law_draws.nd (de_callB call_abs rc_abs (by rfl) T.z_abs (by decide +kernel) (da_cons (de_var 0) da_nil)))
    (dss_cons (ds_for PassesOwn.never rfl (di_rng1 (by rfl) T.z_range (de_var 1)) (dg_name (j := 5) sc__law_draws.nd rfl (by first | exact Or.inl rfl | exact Or.inr rfl))
    (dss_one (ds_if (dw_and (dt_cmp op_ge ro_ge (de_callB call_abs rc_abs (by rfl) T.z_abs (by decide +kernel) (da_cons (de_var 0) da_nil)) (de_op op_pow ro_pow de_int de_int) (nomark _)) (dw_and1 (dt_cmp (op_gtA hr.units0) ro_gt (de_var 4) de_int (nomark _)))).dt
    (dss_cons (ds_app 3 (de_op op_modN ro_mod (de_callTy call_intA rc_int (by rfl) T.z_int (by decide +kernel) (da_cons (de_var 4) da_nil)) (de_var 2)))
    (dss_one (ds_set 4 sc__law_draws.nd (de_op op_divA ro_div (de_var 4) (de_var 2)))))
    (dss_cons (ds_set 6 sc__law_draws.nd (de_op op_modN ro_mod (de_callTy call_intA rc_int (by rfl) T.z_int (by decide +kernel) (da_cons (de_op op_addA ro_add (de_op op_addA ro_add (de_op op_mulA ro_mul (de_callB call_abs rc_abs (by rfl) T.z_abs (by decide +kernel) (da_cons (de_var 0) da_nil)) de_int) (de_op op_mulA ro_mul (de_var 5) de_int)) de_int) da_nil)) de_int))
    (dss_cons (ds_set 6 sc__law_draws.nd (de_op op_modN ro_mod (de_callTy call_intA rc_int (by rfl) T.z_int (by decide +kernel) (da_cons (de_op op_addA ro_add (de_op op_addA ro_add (de_op op_mulA ro_mul (de_var 6) de_int) (de_op op_divA ro_div (de_var 6) de_int)) (de_op op_mulA ro_mul (de_var 5) de_int)) da_nil)) de_int))
    (dss_one (ds_app 3 (de_op op_modN ro_mod (de_op op_divA ro_div (de_var 6) de_int) (de_var 2)))))))))
    (dss_frz 3 (dss_one (ds_ret (de_var 3))))))))
theorem ok__law_value (T : Txt P w K mg C) : FnX P w K mg base 2 "_law_value" 2 m__law_value :=
  def_okX (k := 1) (EC := EC0 C) T.f__law_value sc__law_value fun f cdv A outer s H E hr => (show DSs _ _ _ _ b__law_value from
  (dss_cons (ds_if (dt_cmp (op_eqD hr.units) ro_eq (de_var 0) de_str (nomark _))
    (dss_one (ds_ret (de_callX (ok__law_number T) (hr.mono (by decide)) (da_cons (de_var 1) da_nil))))
    dss_nil)
    (dss_cons (ds_if (dt_cmp (op_eqD hr.units) ro_eq (de_var 0) de_str (nomark _))
    (dss_one (ds_ret (de_cmp (op_eqD hr.units) ro_eq (de_op op_modN ro_mod (de_var 1) de_int) de_int (nomark _))))
    dss_nil)
    (dss_cons (ds_if (dt_cmp (op_eqD hr.units) ro_eq (de_var 0) de_str (nomark _))
    (dss_cons (ds_set 2 sc__law_value.nd (de_ix (de_lst (da_cons de_int (da_cons de_int (da_cons de_int (da_cons de_int (da_cons de_int (da_cons de_int (da_cons de_int (da_cons de_int da_nil))))))))) (de_op op_modN ro_mod (de_var 1) de_int)))
    (dss_one (ds_ret (de_m1 PySem.F.slot_str_join PySem.F.type_str_join mt_join rm_join de_str (de_of (dl_lc (own := [(("k" : Str), 3)]) (W0 := W00) rfl sc__law_value.nd (di_seq (de_callX (ok__law_draws T) (hr.mono (by decide)) (da_cons (de_op op_divA ro_div (de_var 1) de_int) (da_cons (de_var 2) (da_cons de_int da_nil))))) (blkOk_by (N := N__law_value) (sc := defScope s__law_value) (by decide +kernel)) (fun _ _ _ _ _ => (dg_name (j := 3) sc__law_value.nd rfl (by first | exact Or.inl rfl | exact Or.inr rfl))) (by simp) (fun _ _ _ _ _ => dts_nil) (fun _ _ _ _ _ => (de_ix de_str (de_op op_modN ro_mod (de_var 3) de_int)))))))))
    dss_nil)
    (dss_cons (ds_set 2 sc__law_value.nd (de_ix (de_lst (da_cons de_int (da_cons de_int (da_cons de_int (da_cons de_int (da_cons de_int (da_cons de_int (da_cons de_int (da_cons de_int da_nil))))))))) (de_op op_modN ro_mod (de_var 1) de_int)))
    (dss_cons (ds_if (dt_cmp (op_eqD hr.units) ro_eq (de_op op_modN ro_mod (de_op op_divA ro_div (de_var 1) de_int) de_int) de_int (nomark _))
    (dss_one (ds_ret (de_callTy call_tuple_of rc_tuple (by rfl) T.z_tuple (by decide +kernel) (da_cons (de_of (dl_lc (own := [(("k" : Str), 3)]) (W0 := W00) rfl sc__law_value.nd (di_seq (de_callX (ok__law_draws T) (hr.mono (by decide)) (da_cons (de_op op_divA ro_div (de_var 1) de_int) (da_cons (de_var 2) (da_cons de_int da_nil))))) (blkOk_by (N := N__law_value) (sc := defScope s__law_value) (by decide +kernel)) (fun _ _ _ _ _ => (dg_name (j := 3) sc__law_value.nd rfl (by first | exact Or.inl rfl | exact Or.inr rfl))) (by simp) (fun _ _ _ _ _ => dts_nil) (fun _ _ _ _ _ => (de_callX (ok__law_number T) (hr.mono (by decide)) (da_cons (de_var 3) da_nil))))) da_nil))))
    dss_nil)
    (dss_one (ds_ret (de_callTy call_tuple_of rc_tuple (by rfl) T.z_tuple (by decide +kernel) (da_cons (de_of (dl_lc (own := [(("k" : Str), 3)]) (W0 := W00) rfl sc__law_value.nd (di_seq (de_callX (ok__law_draws T) (hr.mono (by decide)) (da_cons (de_op op_divA ro_div (de_var 1) de_int) (da_cons (de_var 2) (da_cons de_int da_nil))))) (blkOk_by (N := N__law_value) (sc := defScope s__law_value) (by decide +kernel)) (fun _ _ _ _ _ => (dg_name (j := 3) sc__law_value.nd rfl (by first | exact Or.inl rfl | exact Or.inr rfl))) (by simp) (fun _ _ _ _ _ => dts_nil) (fun _ _ _ _ _ => (de_op op_sub ro_sub (de_op op_modN ro_mod (de_var 3) de_int) de_int)))) da_nil))))))))))
theorem ok_names (T : Txt P w K mg C) : FnX P w K mg base 1 "names" 0 m_names :=
  def_okX (k := 0) (EC := EC0 C) T.f_names sc_names fun f cdv A outer s H E hr => (show DSs _ _ _ _ b_names from
  (dss_one (ds_ret (de_sortK T.d_SIGNATURES rfl (by decide) (by decide +kernel) T.z_sorted))))
theorem ok__abs (T : Txt P w K mg C) : FnX P w K mg base 1 "_abs" 1 m__abs :=
  def_okX (k := 0) (EC := EC0 C) T.f__abs sc__abs fun f cdv A outer s H E hr => (show DSs _ _ _ _ b__abs from
  (dss_one (ds_ret (de_callB call_abs rc_abs (by rfl) T.z_abs (by decide +kernel) (da_cons (de_var 0) da_nil)))))
theorem ok__add (T : Txt P w K mg C) : FnX P w K mg base 1 "_add" 2 m__add :=
  def_okX (k := 0) (EC := EC0 C) T.f__add sc__add fun f cdv A outer s H E hr => (show DSs _ _ _ _ b__add from
  (dss_one (ds_ret (de_op op_addA ro_add (de_var 0) (de_var 1)))))
theorem ok__both (T : Txt P w K mg C) : FnX P w K mg base 1 "_both" 2 m__both :=
  def_okX (k := 0) (EC := EC0 C) T.f__both sc__both fun f cdv A outer s H E hr => (show DSs _ _ _ _ b__both from
  (dss_one (ds_ret (de_and (de_var 0) (de_one (de_var 1))))))
theorem ok__divide (T : Txt P w K mg C) : FnX P w K mg base 1 "_divide" 2 m__divide :=
  def_okX (k := 0) (EC := EC0 C) T.f__divide sc__divide fun f cdv A outer s H E hr => (show DSs _ _ _ _ b__divide from
  (dss_one (ds_ret (de_ifE (dt_cmp (op_eqD hr.units) ro_eq (de_var 1) de_int (nomark _)) de_non (de_op op_divA ro_div (de_var 0) (de_var 1))))))
theorem ok__double (T : Txt P w K mg C) : FnX P w K mg base 1 "_double" 1 m__double :=
  def_okX (k := 0) (EC := EC0 C) T.f__double sc__double fun f cdv A outer s H E hr => (show DSs _ _ _ _ b__double from
  (dss_one (ds_ret (de_op op_mulA ro_mul de_int (de_var 0)))))
theorem ok__either (T : Txt P w K mg C) : FnX P w K mg base 1 "_either" 2 m__either :=
  def_okX (k := 0) (EC := EC0 C) T.f__either sc__either fun f cdv A outer s H E hr => (show DSs _ _ _ _ b__either from
  (dss_one (ds_ret (de_or (de_var 0) (de_one (de_var 1))))))
theorem ok__equal (T : Txt P w K mg C) : FnX P w K mg base 1 "_equal" 2 m__equal :=
  def_okX (k := 0) (EC := EC0 C) T.f__equal sc__equal fun f cdv A outer s H E hr => (show DSs _ _ _ _ b__equal from
  (dss_one (ds_ret (de_cmp (op_eqD hr.units) ro_eq (de_var 0) (de_var 1) (nomark _)))))
theorem ok__half (T : Txt P w K mg C) : FnX P w K mg base 1 "_half" 1 m__half :=
  def_okX (k := 0) (EC := EC0 C) T.f__half sc__half fun f cdv A outer s H E hr => (show DSs _ _ _ _ b__half from
  (dss_one (ds_ret (de_op op_divA ro_div (de_var 0) de_int))))
theorem ok__is_even (T : Txt P w K mg C) : FnX P w K mg base 1 "_is_even" 1 m__is_even :=
  def_okX (k := 0) (EC := EC0 C) T.f__is_even sc__is_even fun f cdv A outer s H E hr => (show DSs _ _ _ _ b__is_even from
  (dss_one (ds_ret (de_cmp (op_eqD hr.units) ro_eq (de_op op_modN ro_mod (de_var 0) de_int) de_int (nomark _)))))
theorem ok__less (T : Txt P w K mg C) : FnX P w K mg base 1 "_less" 2 m__less :=
  def_okX (k := 0) (EC := EC0 C) T.f__less sc__less fun f cdv A outer s H E hr => (show DSs _ _ _ _ b__less from
  (dss_one (ds_ret (de_cmp (op_ltA hr.units0) ro_lt (de_var 0) (de_var 1) (nomark _)))))
theorem ok__max (T : Txt P w K mg C) : FnX P w K mg base 1 "_max" 2 m__max :=
  def_okX (k := 0) (EC := EC0 C) T.f__max sc__max fun f cdv A outer s H E hr => (show DSs _ _ _ _ b__max from
  (dss_one (ds_ret (de_callB (call_maxA (by rfl)) rc_m2 (by rfl) T.z_max (by decide +kernel) (da_cons (de_var 0) (da_cons (de_var 1) da_nil))))))
theorem ok__min (T : Txt P w K mg C) : FnX P w K mg base 1 "_min" 2 m__min :=
  def_okX (k := 0) (EC := EC0 C) T.f__min sc__min fun f cdv A outer s H E hr => (show DSs _ _ _ _ b__min from
  (dss_one (ds_ret (de_callB (call_minA (by rfl)) rc_m2 (by rfl) T.z_min (by decide +kernel) (da_cons (de_var 0) (da_cons (de_var 1) da_nil))))))
theorem ok__mod (T : Txt P w K mg C) : FnX P w K mg base 1 "_mod" 2 m__mod :=
  def_okX (k := 0) (EC := EC0 C) T.f__mod sc__mod fun f cdv A outer s H E hr => (show DSs _ _ _ _ b__mod from
  (dss_one (ds_ret (de_ifE (dt_cmp (op_eqD hr.units) ro_eq (de_var 1) de_int (nomark _)) de_non (de_op op_modN ro_mod (de_var 0) (de_var 1))))))
theorem ok__mul (T : Txt P w K mg C) : FnX P w K mg base 1 "_mul" 2 m__mul :=
  def_okX (k := 0) (EC := EC0 C) T.f__mul sc__mul fun f cdv A outer s H E hr => (show DSs _ _ _ _ b__mul from
  (dss_one (ds_ret (de_op op_mulA ro_mul (de_var 0) (de_var 1)))))
theorem ok__neg (T : Txt P w K mg C) : FnX P w K mg base 1 "_neg" 1 m__neg :=
  def_okX (k := 0) (EC := EC0 C) T.f__neg sc__neg fun f cdv A outer s H E hr => (show DSs _ _ _ _ b__neg from
  (dss_one (ds_ret (de_un un_neg ro_neg (de_var 0)))))
theorem ok__negate (T : Txt P w K mg C) : FnX P w K mg base 1 "_negate" 1 m__negate :=
  def_okX (k := 0) (EC := EC0 C) T.f__negate sc__negate fun f cdv A outer s H E hr => (show DSs _ _ _ _ b__negate from
  (dss_one (ds_ret (de_not (de_var 0)))))
theorem ok__sub (T : Txt P w K mg C) : FnX P w K mg base 1 "_sub" 2 m__sub :=
  def_okX (k := 0) (EC := EC0 C) T.f__sub sc__sub fun f cdv A outer s H E hr => (show DSs _ _ _ _ b__sub from
  (dss_one (ds_ret (de_op op_sub ro_sub (de_var 0) (de_var 1)))))
theorem ok__concat (T : Txt P w K mg C) : FnX P w K mg base 1 "_concat" 2 m__concat :=
  def_okX (k := 0) (EC := EC0 C) T.f__concat sc__concat fun f cdv A outer s H E hr => (show DSs _ _ _ _ b__concat from
  (dss_one (ds_ret (de_op op_addA ro_add (de_var 0) (de_var 1)))))
theorem ok__contains (T : Txt P w K mg C) : FnX P w K mg base 1 "_contains" 2 m__contains :=
  def_okX (k := 0) (EC := EC0 C) T.f__contains sc__contains fun f cdv A outer s H E hr => (show DSs _ _ _ _ b__contains from
  (dss_one (ds_ret (de_cmp op_inA ro_in (de_var 1) (de_var 0) rfl))))
theorem ok__length (T : Txt P w K mg C) : FnX P w K mg base 1 "_length" 1 m__length :=
  def_okX (k := 0) (EC := EC0 C) T.f__length sc__length fun f cdv A outer s H E hr => (show DSs _ _ _ _ b__length from
  (dss_one (ds_ret (de_callB call_len rc_len (by rfl) T.z_len (by decide +kernel) (da_cons (de_var 0) da_nil)))))
theorem ok__number_text (T : Txt P w K mg C) : FnX P w K mg base 1 "_number_text" 1 m__number_text :=
  def_okX (k := 0) (EC := EC0 C) T.f__number_text sc__number_text fun f cdv A outer s H E hr => (show DSs _ _ _ _ b__number_text from
  (dss_one (ds_ret (de_ifE (dt_cmp (op_ltA hr.units0) ro_lt (de_var 0) de_int (nomark _)) de_non (de_callTy call_str_int rc_str (by rfl) T.z_str (by decide +kernel) (da_cons (de_var 0) da_nil))))))
theorem ok__repeat (T : Txt P w K mg C) : FnX P w K mg base 1 "_repeat" 2 m__repeat :=
  def_okX (k := 0) (EC := EC0 C) T.f__repeat sc__repeat fun f cdv A outer s H E hr => (show DSs _ _ _ _ b__repeat from
  (dss_cons (ds_if (dw_or (dt_cmp (op_ltA hr.units0) ro_lt (de_var 1) de_int (nomark _)) (dw_or1 (dt_cmp (op_gtA hr.units0) ro_gt (de_op op_mulA ro_mul (de_callB call_len rc_len (by rfl) T.z_len (by decide +kernel) (da_cons (de_var 0) da_nil)) (de_var 1)) (de_conX T.c_TEXT_LIMIT) (nomark _)))).dt
    (dss_one (ds_ret de_non))
    dss_nil)
    (dss_one (ds_ret (de_op op_mulA ro_mul (de_var 0) (de_var 1))))))
theorem ok__reverse_text (T : Txt P w K mg C) : FnX P w K mg base 1 "_reverse_text" 1 m__reverse_text :=
  def_okX (k := 0) (EC := EC0 C) T.f__reverse_text sc__reverse_text fun f cdv A outer s H E hr => (show DSs _ _ _ _ b__reverse_text from
  dss_no)
theorem ok__same_text (T : Txt P w K mg C) : FnX P w K mg base 1 "_same_text" 2 m__same_text :=
  def_okX (k := 0) (EC := EC0 C) T.f__same_text sc__same_text fun f cdv A outer s H E hr => (show DSs _ _ _ _ b__same_text from
  (dss_one (ds_ret (de_cmp (op_eqD hr.units) ro_eq (de_var 0) (de_var 1) (nomark _)))))
theorem ok__skip (T : Txt P w K mg C) : FnX P w K mg base 1 "_skip" 2 m__skip :=
  def_okX (k := 0) (EC := EC0 C) T.f__skip sc__skip fun f cdv A outer s H E hr => (show DSs _ _ _ _ b__skip from
  (dss_one (ds_ret (de_sl (de_var 0) (do_some (de_callB (call_maxA (by rfl)) rc_m2 (by rfl) T.z_max (by decide +kernel) (da_cons (de_var 1) (da_cons de_int da_nil)))) do_none))))
theorem ok__start (T : Txt P w K mg C) : FnX P w K mg base 1 "_start" 2 m__start :=
  def_okX (k := 0) (EC := EC0 C) T.f__start sc__start fun f cdv A outer s H E hr => (show DSs _ _ _ _ b__start from
  (dss_one (ds_ret (de_sl (de_var 0) do_none (do_some (de_callB (call_maxA (by rfl)) rc_m2 (by rfl) T.z_max (by decide +kernel) (da_cons (de_var 1) (da_cons de_int da_nil))))))))
theorem ok__text_number (T : Txt P w K mg C) : FnX P w K mg base 1 "_text_number" 1 m__text_number :=
  def_okX (k := 0) (EC := EC0 C) T.f__text_number sc__text_number fun f cdv A outer s H E hr => (show DSs _ _ _ _ b__text_number from
  (dss_cons (ds_if (dw_or (dt_cmp (op_eqD hr.units) ro_eq (de_var 0) de_str (nomark _)) (dw_or1 (dw_and (dt_cmp (op_eqD hr.units) ro_eq (de_ix (de_var 0) de_int) de_str (nomark _)) (dw_and1 (dt_cmp (op_neD hr.units) ro_ne (de_var 0) de_str (nomark _)))).dt)).dt
    (dss_one (ds_ret de_non))
    dss_nil)
    (dss_cons (ds_if (dt_not (dt_truth (de_callB (cr_all (by rfl)) rc_all (by rfl) T.z_all (by decide +kernel) (da_cons (de_of (dl_lc (own := [(("sign" : Str), 1)]) (W0 := W00) rfl sc__text_number.nd (di_seq (de_var 0)) (blkOk_by (N := N__text_number) (sc := defScope s__text_number) (by decide +kernel)) (fun _ _ _ _ _ => (dg_name (j := 1) sc__text_number.nd rfl (by first | exact Or.inl rfl | exact Or.inr rfl))) (by simp) (fun _ _ _ _ _ => dts_nil) (fun _ _ _ _ _ => (de_cmp op_inA ro_in (de_var 1) (de_conX T.c_DIGITS) rfl)))) da_nil))))
    (dss_one (ds_ret de_non))
    dss_nil)
    (dss_one (ds_ret (de_callTy call_intA rc_int (by rfl) T.z_int (by decide +kernel) (da_cons (de_var 0) da_nil)))))))
theorem ok__words (T : Txt P w K mg C) : FnX P w K mg base 1 "_words" 1 m__words :=
  def_okX (k := 0) (EC := EC0 C) T.f__words sc__words fun f cdv A outer s H E hr => (show DSs _ _ _ _ b__words from
  (dss_one (ds_ret (de_callB call_len rc_len (by rfl) T.z_len (by decide +kernel) (da_cons (de_m0 PySem.F.slot_str_split PySem.F.type_str_split mt_words rm_words (de_var 0)) da_nil)))))
theorem ok__add_each (T : Txt P w K mg C) : FnX P w K mg base 1 "_add_each" 2 m__add_each :=
  def_okX (k := 0) (EC := EC0 C) T.f__add_each sc__add_each fun f cdv A outer s H E hr => (show DSs _ _ _ _ b__add_each from
  (dss_one (ds_ret (de_callTy call_tuple_of rc_tuple (by rfl) T.z_tuple (by decide +kernel) (da_cons (de_of (dl_lc (own := [(("number" : Str), 2)]) (W0 := W00) rfl sc__add_each.nd (di_seq (de_var 0)) (blkOk_by (N := N__add_each) (sc := defScope s__add_each) (by decide +kernel)) (fun _ _ _ _ _ => (dg_name (j := 2) sc__add_each.nd rfl (by first | exact Or.inl rfl | exact Or.inr rfl))) (by simp) (fun _ _ _ _ _ => dts_nil) (fun _ _ _ _ _ => (de_op op_addA ro_add (de_var 2) (de_var 1))))) da_nil)))))
theorem ok__append (T : Txt P w K mg C) : FnX P w K mg base 1 "_append" 2 m__append :=
  def_okX (k := 0) (EC := EC0 C) T.f__append sc__append fun f cdv A outer s H E hr => (show DSs _ _ _ _ b__append from
  dss_no)
theorem ok__at (T : Txt P w K mg C) : FnX P w K mg base 1 "_at" 2 m__at :=
  def_okX (k := 0) (EC := EC0 C) T.f__at sc__at fun f cdv A outer s H E hr => (show DSs _ _ _ _ b__at from
  (dss_one (ds_ret (de_ifE (dt_chain op_le ro_le (op_ltA hr.units0) ro_lt de_int (de_var 1) (de_callB call_len rc_len (by rfl) T.z_len (by decide +kernel) (da_cons (de_var 0) da_nil))) (de_ix (de_var 0) (de_var 1)) de_non))))
theorem ok__count_of (T : Txt P w K mg C) : FnX P w K mg base 1 "_count_of" 2 m__count_of :=
  def_okX (k := 0) (EC := EC0 C) T.f__count_of sc__count_of fun f cdv A outer s H E hr => (show DSs _ _ _ _ b__count_of from
  dss_no)
theorem ok__distinct (T : Txt P w K mg C) : FnX P w K mg base 1 "_distinct" 1 m__distinct :=
  def_okX (k := 0) (EC := EC0 C) T.f__distinct sc__distinct fun f cdv A outer s H E hr => (show DSs _ _ _ _ b__distinct from
  dss_no)
theorem ok__drop (T : Txt P w K mg C) : FnX P w K mg base 1 "_drop" 2 m__drop :=
  def_okX (k := 0) (EC := EC0 C) T.f__drop sc__drop fun f cdv A outer s H E hr => (show DSs _ _ _ _ b__drop from
  (dss_one (ds_ret (de_sl (de_var 0) (do_some (de_callB (call_maxA (by rfl)) rc_m2 (by rfl) T.z_max (by decide +kernel) (da_cons (de_var 1) (da_cons de_int da_nil)))) do_none))))
theorem ok__first (T : Txt P w K mg C) : FnX P w K mg base 1 "_first" 1 m__first :=
  def_okX (k := 0) (EC := EC0 C) T.f__first sc__first fun f cdv A outer s H E hr => (show DSs _ _ _ _ b__first from
  (dss_one (ds_ret (de_ifE (dt_truth (de_var 0)) (de_ix (de_var 0) de_int) de_non))))
theorem ok__greatest (T : Txt P w K mg C) : FnX P w K mg base 1 "_greatest" 1 m__greatest :=
  def_okX (k := 0) (EC := EC0 C) T.f__greatest sc__greatest fun f cdv A outer s H E hr => (show DSs _ _ _ _ b__greatest from
  dss_no)
theorem ok__is_empty (T : Txt P w K mg C) : FnX P w K mg base 1 "_is_empty" 1 m__is_empty :=
  def_okX (k := 0) (EC := EC0 C) T.f__is_empty sc__is_empty fun f cdv A outer s H E hr => (show DSs _ _ _ _ b__is_empty from
  (dss_one (ds_ret (de_cmp (op_eqD hr.units) ro_eq (de_callB call_len rc_len (by rfl) T.z_len (by decide +kernel) (da_cons (de_var 0) da_nil)) de_int (nomark _)))))
theorem ok__join (T : Txt P w K mg C) : FnX P w K mg base 1 "_join" 2 m__join :=
  def_okX (k := 0) (EC := EC0 C) T.f__join sc__join fun f cdv A outer s H E hr => (show DSs _ _ _ _ b__join from
  (dss_one (ds_ret (de_op op_addA ro_add (de_var 0) (de_var 1)))))
theorem ok__keep_above (T : Txt P w K mg C) : FnX P w K mg base 1 "_keep_above" 2 m__keep_above :=
  def_okX (k := 0) (EC := EC0 C) T.f__keep_above sc__keep_above fun f cdv A outer s H E hr => (show DSs _ _ _ _ b__keep_above from
  (dss_one (ds_ret (de_callTy call_tuple_of rc_tuple (by rfl) T.z_tuple (by decide +kernel) (da_cons (de_of (dl_lc (own := [(("number" : Str), 2)]) (W0 := W00) rfl sc__keep_above.nd (di_seq (de_var 0)) (blkOk_by (N := N__keep_above) (sc := defScope s__keep_above) (by decide +kernel)) (fun _ _ _ _ _ => (dg_name (j := 2) sc__keep_above.nd rfl (by first | exact Or.inl rfl | exact Or.inr rfl))) (by simp) (fun _ _ _ _ _ => (dts_one (dt_cmp (op_gtA hr.units0) ro_gt (de_var 2) (de_var 1) (nomark _)))) (fun _ _ _ _ _ => (de_var 2)))) da_nil)))))
theorem ok__keep_even (T : Txt P w K mg C) : FnX P w K mg base 1 "_keep_even" 1 m__keep_even :=
  def_okX (k := 0) (EC := EC0 C) T.f__keep_even sc__keep_even fun f cdv A outer s H E hr => (show DSs _ _ _ _ b__keep_even from
  (dss_one (ds_ret (de_callTy call_tuple_of rc_tuple (by rfl) T.z_tuple (by decide +kernel) (da_cons (de_of (dl_lc (own := [(("number" : Str), 1)]) (W0 := W00) rfl sc__keep_even.nd (di_seq (de_var 0)) (blkOk_by (N := N__keep_even) (sc := defScope s__keep_even) (by decide +kernel)) (fun _ _ _ _ _ => (dg_name (j := 1) sc__keep_even.nd rfl (by first | exact Or.inl rfl | exact Or.inr rfl))) (by simp) (fun _ _ _ _ _ => (dts_one (dt_cmp (op_eqD hr.units) ro_eq (de_op op_modN ro_mod (de_var 1) de_int) de_int (nomark _)))) (fun _ _ _ _ _ => (de_var 1)))) da_nil)))))
theorem ok__last (T : Txt P w K mg C) : FnX P w K mg base 1 "_last" 1 m__last :=
  def_okX (k := 0) (EC := EC0 C) T.f__last sc__last fun f cdv A outer s H E hr => (show DSs _ _ _ _ b__last from
  (dss_one (ds_ret (de_ifE (dt_truth (de_var 0)) (de_ix (de_var 0) (de_un un_neg ro_neg de_int)) de_non))))
theorem ok__least (T : Txt P w K mg C) : FnX P w K mg base 1 "_least" 1 m__least :=
  def_okX (k := 0) (EC := EC0 C) T.f__least sc__least fun f cdv A outer s H E hr => (show DSs _ _ _ _ b__least from
  dss_no)
theorem ok__prepend (T : Txt P w K mg C) : FnX P w K mg base 1 "_prepend" 2 m__prepend :=
  def_okX (k := 0) (EC := EC0 C) T.f__prepend sc__prepend fun f cdv A outer s H E hr => (show DSs _ _ _ _ b__prepend from
  dss_no)
theorem ok__product (T : Txt P w K mg C) : FnX P w K mg base 1 "_product" 1 m__product :=
  def_okX (k := 0) (EC := EC0 C) T.f__product sc__product fun f cdv A outer s H E hr => (show DSs _ _ _ _ b__product from
  (dss_cons (ds_set 1 sc__product.nd de_int)
    (dss_cons (ds_for PassesOwn.never rfl (di_seq (de_var 0)) (dg_name (j := 2) sc__product.nd rfl (by first | exact Or.inl rfl | exact Or.inr rfl))
    (dss_one (ds_set 1 sc__product.nd (de_op op_mulA ro_mul (de_var 1) (de_var 2)))))
    (dss_one (ds_ret (de_var 1))))))
theorem ok__rest (T : Txt P w K mg C) : FnX P w K mg base 1 "_rest" 1 m__rest :=
  def_okX (k := 0) (EC := EC0 C) T.f__rest sc__rest fun f cdv A outer s H E hr => (show DSs _ _ _ _ b__rest from
  (dss_one (ds_ret (de_ifE (dt_truth (de_var 0)) (de_sl (de_var 0) (do_some de_int) do_none) de_non))))
theorem ok__reverse (T : Txt P w K mg C) : FnX P w K mg base 1 "_reverse" 1 m__reverse :=
  def_okX (k := 0) (EC := EC0 C) T.f__reverse sc__reverse fun f cdv A outer s H E hr => (show DSs _ _ _ _ b__reverse from
  dss_no)
theorem ok__running (T : Txt P w K mg C) : FnX P w K mg base 1 "_running" 1 m__running :=
  def_okX (k := 0) (EC := EC0 C) T.f__running sc__running fun f cdv A outer s H E hr => (show DSs _ _ _ _ b__running from
  (dss_cons (ds_set 1 sc__running.nd de_int)
    (dss_cons (ds_setM 2 sc__running.nd (dl_lst da_nil))
    (dss_cons (ds_for PassesOwn.never rfl (di_seq (de_var 0)) (dg_name (j := 3) sc__running.nd rfl (by first | exact Or.inl rfl | exact Or.inr rfl))
    (dss_cons (ds_set 1 sc__running.nd (de_op op_addA ro_add (de_var 1) (de_var 3)))
    (dss_one (ds_app 2 (de_var 1)))))
    (dss_frz 2 (dss_one (ds_ret (de_callTy call_tuple_of rc_tuple (by rfl) T.z_tuple (by decide +kernel) (da_cons (de_var 2) da_nil)))))))))
theorem ok__same_list (T : Txt P w K mg C) : FnX P w K mg base 1 "_same_list" 2 m__same_list :=
  def_okX (k := 0) (EC := EC0 C) T.f__same_list sc__same_list fun f cdv A outer s H E hr => (show DSs _ _ _ _ b__same_list from
  (dss_one (ds_ret (de_cmp (op_eqD hr.units) ro_eq (de_var 0) (de_var 1) (nomark _)))))
theorem ok__size (T : Txt P w K mg C) : FnX P w K mg base 1 "_size" 1 m__size :=
  def_okX (k := 0) (EC := EC0 C) T.f__size sc__size fun f cdv A outer s H E hr => (show DSs _ _ _ _ b__size from
  (dss_one (ds_ret (de_callB call_len rc_len (by rfl) T.z_len (by decide +kernel) (da_cons (de_var 0) da_nil)))))
theorem ok__sort (T : Txt P w K mg C) : FnX P w K mg base 1 "_sort" 1 m__sort :=
  def_okX (k := 0) (EC := EC0 C) T.f__sort sc__sort fun f cdv A outer s H E hr => (show DSs _ _ _ _ b__sort from
  dss_no)
theorem ok__sum (T : Txt P w K mg C) : FnX P w K mg base 1 "_sum" 1 m__sum :=
  def_okX (k := 0) (EC := EC0 C) T.f__sum sc__sum fun f cdv A outer s H E hr => (show DSs _ _ _ _ b__sum from
  (dss_one (ds_ret (de_callB (cr_sum (by rfl)) rc_sum (by rfl) T.z_sum (by decide +kernel) (da_cons (de_var 0) da_nil)))))
theorem ok__take (T : Txt P w K mg C) : FnX P w K mg base 1 "_take" 2 m__take :=
  def_okX (k := 0) (EC := EC0 C) T.f__take sc__take fun f cdv A outer s H E hr => (show DSs _ _ _ _ b__take from
  (dss_one (ds_ret (de_sl (de_var 0) do_none (do_some (de_callB (call_maxA (by rfl)) rc_m2 (by rfl) T.z_max (by decide +kernel) (da_cons (de_var 1) (da_cons de_int da_nil))))))))
theorem ok__up_to (T : Txt P w K mg C) : FnX P w K mg base 1 "_up_to" 1 m__up_to :=
  def_okX (k := 0) (EC := EC0 C) T.f__up_to sc__up_to fun f cdv A outer s H E hr => (show DSs _ _ _ _ b__up_to from
  dss_no)
theorem ok__zip_add (T : Txt P w K mg C) : FnX P w K mg base 1 "_zip_add" 2 m__zip_add :=
  def_okX (k := 0) (EC := EC0 C) T.f__zip_add sc__zip_add fun f cdv A outer s H E hr => (show DSs _ _ _ _ b__zip_add from
  (dss_one (ds_ret (de_callTy call_tuple_of rc_tuple (by rfl) T.z_tuple (by decide +kernel) (da_cons (de_of (dl_lc (own := [(("n" : Str), 2), (("m" : Str), 3)]) (W0 := W00) rfl sc__zip_add.nd (di_zip (by rfl) T.z_zip (de_var 0) (de_var 1)) (blkOk_by (N := N__zip_add) (sc := defScope s__zip_add) (by decide +kernel)) (fun _ _ _ _ _ => (dg_tup2 rfl (dg_name (j := 2) sc__zip_add.nd rfl (by first | exact Or.inl rfl | exact Or.inr rfl)) (dg_name (j := 3) sc__zip_add.nd rfl (by first | exact Or.inl rfl | exact Or.inr rfl)))) (by simp) (fun _ _ _ _ _ => dts_nil) (fun _ _ _ _ _ => (de_op op_addA ro_add (de_var 2) (de_var 3))))) da_nil)))))
theorem ok__result (T : Txt P w K mg C) : FnX P w K mg base 2 "_result" 2 m__result :=
  def_okX (k := 1) (EC := EC0 C) T.f__result sc__result fun f cdv A outer s H E hr => (show DSs _ _ _ _ b__result from
  (dss_disp (i := 0) (v := 1) (j := 2) (act' := getT acts__result) T.d_NUMBER_ACTIONS T.d_TEXT_ACTIONS T.d_LIST_ACTIONS (acts_ok (by exact ⟨ok__abs T, ok__add T, ok__both T, ok__divide T, ok__double T, ok__either T, ok__equal T, ok__half T, ok__is_even T, ok__less T, ok__max T, ok__min T, ok__mod T, ok__mul T, ok__neg T, ok__negate T, ok__sub T, ok__concat T, ok__contains T, ok__length T, ok__number_text T, ok__repeat T, ok__reverse_text T, ok__same_text T, ok__skip T, ok__start T, ok__text_number T, ok__words T, ok__add_each T, ok__append T, ok__at T, ok__count_of T, ok__distinct T, ok__drop T, ok__first T, ok__greatest T, ok__is_empty T, ok__join T, ok__keep_above T, ok__keep_even T, ok__last T, ok__least T, ok__prepend T, ok__product T, ok__rest T, ok__reverse T, ok__running T, ok__same_list T, ok__size T, ok__sort T, ok__sum T, ok__take T, ok__up_to T, ok__zip_add T, trivial⟩)) (hr.mono (by decide)) sc__result.nd))
theorem ok__chosen (T : Txt P w K mg C) : FnX P w K mg base 1 "_chosen" 3 m__chosen :=
  def_okX (k := 0) (EC := EC0 C) T.f__chosen sc__chosen fun f cdv A outer s H E hr => (show DSs _ _ _ _ b__chosen from
  (dss_cons (ds_if (dt_cmp op_isN ro_isN (de_var 0) de_non (nomark _))
    (dss_one (ds_ret de_non))
    dss_nil)
    (dss_one (ds_ret (de_ifE (dt_truth (de_var 0)) (de_var 1) (de_var 2))))))
theorem ok_is_number (T : Txt P w K mg C) : FnX P w K mg base 1 "is_number" 1 m_is_number :=
  def_okX (k := 0) (EC := EC0 C) T.f_is_number sc_is_number fun f cdv A outer s H E hr => (show DSs _ _ _ _ b_is_number from
  (dss_cons (ds_if (dw_or (dt_not (dt_truth (de_isi (T := "int") (by unfold TyKnown; decide) (de_var 0) (by rfl) T.z_isinstance (by rfl) T.z_int (by decide +kernel)))) (dw_or1 (dt_truth (de_isi (T := "bool") (by unfold TyKnown; decide) (de_var 0) (by rfl) T.z_isinstance (by rfl) T.z_bool (by decide +kernel))))).dt
    (dss_one (ds_ret de_bl))
    dss_nil)
    (dss_one (ds_ret (de_chain op_le ro_le op_le ro_le (de_un un_neg ro_neg (de_conX T.c_NUMBER_LIMIT)) (de_var 0) (de_conX T.c_NUMBER_LIMIT))))))
theorem ok_is_text (T : Txt P w K mg C) : FnX P w K mg base 1 "is_text" 1 m_is_text :=
  def_okX (k := 0) (EC := EC0 C) T.f_is_text sc_is_text fun f cdv A outer s H E hr => (show DSs _ _ _ _ b_is_text from
  (dss_cons (ds_if (dw_or (dt_not (dt_truth (de_isi (T := "str") (by unfold TyKnown; decide) (de_var 0) (by rfl) T.z_isinstance (by rfl) T.z_str (by decide +kernel)))) (dw_or1 (dt_cmp (op_gtA hr.units0) ro_gt (de_callB call_len rc_len (by rfl) T.z_len (by decide +kernel) (da_cons (de_var 0) da_nil)) (de_conX T.c_TEXT_LIMIT) (nomark _)))).dt
    (dss_one (ds_ret de_bl))
    dss_nil)
    (dss_one (ds_ret (de_callB (cr_all (by rfl)) rc_all (by rfl) T.z_all (by decide +kernel) (da_cons (de_of (dl_lc (own := [(("sign" : Str), 1)]) (W0 := W00) rfl sc_is_text.nd (di_seq (de_var 0)) (blkOk_by (N := N_is_text) (sc := defScope s_is_text) (by decide +kernel)) (fun _ _ _ _ _ => (dg_name (j := 1) sc_is_text.nd rfl (by first | exact Or.inl rfl | exact Or.inr rfl))) (by simp) (fun _ _ _ _ _ => dts_nil) (fun _ _ _ _ _ => (de_cmp op_inA ro_in (de_var 1) (de_conX T.c_SIGNS) rfl)))) da_nil))))))
theorem ok_is_list (T : Txt P w K mg C) : FnX P w K mg base 2 "is_list" 1 m_is_list :=
  def_okX (k := 1) (EC := EC0 C) T.f_is_list sc_is_list fun f cdv A outer s H E hr => (show DSs _ _ _ _ b_is_list from
  (dss_cons (ds_if (dw_or (dt_not (dt_truth (de_isi (T := "tuple") (by unfold TyKnown; decide) (de_var 0) (by rfl) T.z_isinstance (by rfl) T.z_tuple (by decide +kernel)))) (dw_or1 (dt_cmp (op_gtA hr.units0) ro_gt (de_callB call_len rc_len (by rfl) T.z_len (by decide +kernel) (da_cons (de_var 0) da_nil)) (de_conX T.c_LIST_LIMIT) (nomark _)))).dt
    (dss_one (ds_ret de_bl))
    dss_nil)
    (dss_one (ds_ret (de_callB (cr_all (by rfl)) rc_all (by rfl) T.z_all (by decide +kernel) (da_cons (de_of (dl_lc (own := [(("number" : Str), 1)]) (W0 := W00) rfl sc_is_list.nd (di_seq (de_var 0)) (blkOk_by (N := N_is_list) (sc := defScope s_is_list) (by decide +kernel)) (fun _ _ _ _ _ => (dg_name (j := 1) sc_is_list.nd rfl (by first | exact Or.inl rfl | exact Or.inr rfl))) (by simp) (fun _ _ _ _ _ => dts_nil) (fun _ _ _ _ _ => (de_callX (ok_is_number T) (hr.mono (by decide)) (da_cons (de_var 1) da_nil))))) da_nil))))))
theorem ok_is_value (T : Txt P w K mg C) : FnX P w K mg base 3 "is_value" 2 m_is_value :=
  def_okX (k := 2) (EC := EC0 C) T.f_is_value sc_is_value fun f cdv A outer s H E hr => (show DSs _ _ _ _ b_is_value from
  (dss_cons (ds_if (dt_cmp (op_eqD hr.units) ro_eq (de_var 0) de_str (nomark _))
    (dss_one (ds_ret (de_callX (ok_is_number T) (hr.mono (by decide)) (da_cons (de_var 1) da_nil))))
    dss_nil)
    (dss_cons (ds_if (dt_cmp (op_eqD hr.units) ro_eq (de_var 0) de_str (nomark _))
    (dss_one (ds_ret (de_isi (T := "bool") (by unfold TyKnown; decide) (de_var 1) (by rfl) T.z_isinstance (by rfl) T.z_bool (by decide +kernel))))
    dss_nil)
    (dss_cons (ds_if (dt_cmp (op_eqD hr.units) ro_eq (de_var 0) de_str (nomark _))
    (dss_one (ds_ret (de_callX (ok_is_text T) (hr.mono (by decide)) (da_cons (de_var 1) da_nil))))
    dss_nil)
    (dss_one (ds_ret (de_and (de_cmp (op_eqD hr.units) ro_eq (de_var 0) de_str (nomark _)) (de_one (de_callX (ok_is_list T) (hr.mono (by decide)) (da_cons (de_var 1) da_nil))))))))))
theorem ok_apply (T : Txt P w K mg C) : FnE P w K mg base (EC0 C) 4 "apply" 2 m_apply :=
  def_okE (k := 3) (EC := EC0 C) T.f_apply sc_apply fun f cdv A outer s H E hr tk po => (show DSs _ _ _ _ b_apply from
  (dss_cons (ds_if (dt_not (dt_truth (de_callX (ok_is_component T) (hr.mono (by decide)) (da_cons (de_var 0) da_nil))))
    (dss_one (ds_raise rfl tk (T.x_NotFound _ _) (hr.mono (by decide)) (de_var 0)))
    dss_nil)
    (dss_cons (ds_if (dt_cmp op_inA ro_in (de_var 0) (de_conX T.c_CHOICES) rfl)
    (dss_one (ds_ret (de_callSt (ok__chosen T) (hr.mono (by decide)) (de_var 1))))
    dss_nil)
    (dss_cons (ds_if (dt_cmp (op_inG hr.units) ro_inG de_non (de_var 1) rfl)
    (dss_one (ds_ret de_non))
    dss_nil)
    (dss_cons (ds_set 2 sc_apply.nd (de_callX (ok__result T) (hr.mono (by decide)) (da_cons (de_var 0) (da_cons (de_var 1) da_nil))))
    (dss_one (ds_ret (de_ifE (dt_truth (de_callX (ok_is_value T) (hr.mono (by decide)) (da_cons (de_ix (de_getK T.d_SIGNATURES (de_var 0)) de_int) (da_cons (de_var 2) da_nil)))) (de_var 2) de_non))))))))
theorem ok_argument_kinds (T : Txt P w K mg C) : FnE P w K mg base (EC0 C) 3 "argument_kinds" 1 m_argument_kinds :=
  def_okE (k := 2) (EC := EC0 C) T.f_argument_kinds sc_argument_kinds fun f cdv A outer s H E hr tk po => (show DSs _ _ _ _ b_argument_kinds from
  (dss_cons (ds_if (dt_not (dt_truth (de_callX (ok_is_component T) (hr.mono (by decide)) (da_cons (de_var 0) da_nil))))
    (dss_one (ds_raise rfl tk (T.x_NotFound _ _) (hr.mono (by decide)) (de_var 0)))
    dss_nil)
    (dss_one (ds_ret (de_callTy call_list_of rc_list (by rfl) T.z_list (by decide +kernel) (da_cons (de_ix (de_getK T.d_SIGNATURES (de_var 0)) de_int) da_nil))))))
theorem ok_result_kind (T : Txt P w K mg C) : FnE P w K mg base (EC0 C) 3 "result_kind" 1 m_result_kind :=
  def_okE (k := 2) (EC := EC0 C) T.f_result_kind sc_result_kind fun f cdv A outer s H E hr tk po => (show DSs _ _ _ _ b_result_kind from
  (dss_cons (ds_if (dt_not (dt_truth (de_callX (ok_is_component T) (hr.mono (by decide)) (da_cons (de_var 0) da_nil))))
    (dss_one (ds_raise rfl tk (T.x_NotFound _ _) (hr.mono (by decide)) (de_var 0)))
    dss_nil)
    (dss_one (ds_ret (de_ix (de_getK T.d_SIGNATURES (de_var 0)) de_int)))))
theorem ok__law_asked (T : Txt P w K mg C) : FnE P w K mg base (EC0 C) 5 "_law_asked" 2 m__law_asked :=
  def_okE (k := 4) (EC := EC0 C) T.f__law_asked sc__law_asked fun f cdv A outer s H E hr tk po => (show DSs _ _ _ _ b__law_asked from
  (dss_one (ds_tryR (i := 2) rfl rfl sc__law_asked.nd rfl (by rfl) ⟨by rfl, by decide, .inl T.g_NotFound⟩ tk (fun _ => T.m_NotFound) (fun W' pn xe tk po => (dss_cons (ds_if (dt_cmp (op_eqD hr.units) ro_eq (de_var 0) de_int (nomark _))
    (dss_one (ds_ret (de_tup (da_cons de_str (da_cons (de_callE tk (ok_argument_kinds T) (hr.mono (by decide)) (da_cons (de_var 1) da_nil)) da_nil)))))
    dss_nil)
    (dss_cons (ds_if (dt_cmp (op_eqD hr.units) ro_eq (de_var 0) de_int (nomark _))
    (dss_one (ds_ret (de_tup (da_cons de_str (da_cons (de_callE tk (ok_result_kind T) (hr.mono (by decide)) (da_cons (de_var 1) da_nil)) da_nil)))))
    dss_nil)
    (dss_cons (ds_if (dt_cmp (op_eqD hr.units) ro_eq (de_var 0) de_int (nomark _))
    (dss_one (ds_ret (de_tup (da_cons de_str (da_cons (de_callE tk (ok_is_commutative T) (hr.mono (by decide)) (da_cons (de_var 1) da_nil)) da_nil)))))
    dss_nil)
    (dss_one (ds_ret (de_tup (da_cons de_str (da_cons (de_callE tk (ok_apply T) (hr.mono (by decide)) (da_cons (de_var 1) (da_cons (de_lst (da_cons de_non (da_cons de_non da_nil))) da_nil))) da_nil)))))))))
    (fun a oe c d pn hk hz hf => (sa_cons sel_str (sa_cons (sel_fld T.cf.xfc T.cf.nof hz hf (by rfl) (Or.inl rfl) (by decide) (by decide) rfl) (sa_cons (let ⟨a', ha, hk'⟩ := T.k_LeastError; sel_is T.cf.exc hz hf (by rfl) (Or.inl rfl) hk' (pe_glob (v := .ref a') (by rfl) ha rfl) (fun _ h => h) (by rfl) T.z_isinstance) sa_nil)))))))
theorem body_law (T : Txt P w K mg C) {f : Addr} {cdv : Value} {A : Around} {outer : List Env} {s : Shared} {H : Hp} {E : XK} (hr : Room 5 (A.deeper (envOfC "law" (defScope s_law) s.heap.objs.size f cdv))) :
    DSs (cxOf CX0 P w K mg base N_law "law" (defScope s_law) f cdv A outer s H E).nox (EC0 C) (fun _ _ _ _ => False) (defBody s_law) b_law :=
  (dss_cons (ds_set 1 sc_law.nd (de_callB call_abs rc_abs (by rfl) T.z_abs (by decide +kernel) (da_cons (de_callX (ok__law_cell T) (hr.mono (by decide)) (da_cons (de_var 0) (da_cons de_int da_nil))) da_nil)))
    (dss_cons (ds_set 2 sc_law.nd (de_callX0 (ok__law_library T) (hr.mono (by decide))))
    (dss_cons (ds_set 3 sc_law.nd (de_ix (de_var 2) (de_op op_modN ro_mod (de_var 1) de_int)))
    (dss_cons (ds_set 4 sc_law.nd (de_lst (da_cons de_str (da_cons de_str (da_cons de_str (da_cons de_str (da_cons de_str (da_cons de_str (da_cons de_str (da_cons de_str (da_cons de_str (da_cons de_str da_nil))))))))))))
    (dss_cons (ds_set 5 sc_law.nd (de_callE takes0 (ok_is_commutative T) (hr.mono (by decide)) (da_cons (de_ix (de_var 3) de_int) da_nil)))
    (dss_cons (ds_if (dw_or (dt_not (dt_truth (de_isi (T := "bool") (by unfold TyKnown; decide) (de_var 5) (by rfl) T.z_isinstance (by rfl) T.z_bool (by decide +kernel)))) (dw_or1 (dt_cmp (op_neD hr.units) ro_ne (de_var 5) (de_cmp op_inA ro_in (de_ix (de_var 3) de_int) (de_var 4) rfl) (nomark _)))).dt
    (dss_one (ds_ret de_bl))
    dss_nil)
    (dss_cons (ds_if (dt_cmp op_inA ro_in (de_ix (de_var 3) de_int) (de_var 4) rfl)
    (dss_cons (ds_set 10 sc_law.nd (de_callX (ok__law_value T) (hr.mono (by decide)) (da_cons (de_ix (de_ix (de_var 3) de_int) de_int) (da_cons (de_callB call_abs rc_abs (by rfl) T.z_abs (by decide +kernel) (da_cons (de_callX (ok__law_cell T) (hr.mono (by decide)) (da_cons (de_var 0) (da_cons de_int da_nil))) da_nil)) da_nil))))
    (dss_cons (ds_set 11 sc_law.nd (de_callX (ok__law_value T) (hr.mono (by decide)) (da_cons (de_ix (de_ix (de_var 3) de_int) de_int) (da_cons (de_callB call_abs rc_abs (by rfl) T.z_abs (by decide +kernel) (da_cons (de_callX (ok__law_cell T) (hr.mono (by decide)) (da_cons (de_var 0) (da_cons de_int da_nil))) da_nil)) da_nil))))
    (dss_one (ds_if (dt_cmp (op_neD hr.units) ro_ne (de_callE takes0 (ok_apply T) (hr.mono (by decide)) (da_cons (de_ix (de_var 3) de_int) (da_cons (de_lst (da_cons (de_var 10) (da_cons (de_var 11) da_nil))) da_nil))) (de_callE takes0 (ok_apply T) (hr.mono (by decide)) (da_cons (de_ix (de_var 3) de_int) (da_cons (de_lst (da_cons (de_var 11) (da_cons (de_var 10) da_nil))) da_nil))) (nomark _))
    (dss_one (ds_ret de_bl))
    dss_nil))))
    dss_nil)
    (dss_cons (ds_set 6 sc_law.nd (de_op op_modN ro_mod (de_op op_divA ro_div (de_var 1) de_int) (de_callB call_len rc_len (by rfl) T.z_len (by decide +kernel) (da_cons (de_ix (de_var 3) de_int) da_nil))))
    (dss_cons (ds_set 7 sc_law.nd (de_op op_modN ro_mod (de_op op_divA ro_div (de_var 1) de_int) de_int))
    (dss_cons (ds_set 8 sc_law.nd (de_op op_addA ro_add (de_sl (de_ix (de_var 3) de_int) do_none (do_some (de_var 6))) (de_sl (de_ix (de_var 3) de_int) (do_some (de_op op_addA ro_add (de_var 6) de_int)) do_none)))
    (dss_cons (ds_if (dt_cmp (op_eqD hr.units) ro_eq (de_var 7) de_int (nomark _))
    (dss_one (ds_set 8 sc_law.nd (de_op op_addA ro_add (de_op op_addA ro_add (de_sl (de_ix (de_var 3) de_int) do_none (do_some (de_var 6))) (de_ix (de_ix (de_var 3) de_int) (de_var 6))) (de_sl (de_ix (de_var 3) de_int) (do_some (de_var 6)) do_none))))
    dss_nil)
    (dss_cons (ds_if (dt_cmp (op_eqD hr.units) ro_eq (de_var 7) de_int (nomark _))
    (dss_one (ds_set 8 sc_law.nd (de_op op_addA ro_add (de_op op_addA ro_add (de_sl (de_ix (de_var 3) de_int) do_none (do_some (de_var 6))) de_str) (de_sl (de_ix (de_var 3) de_int) (do_some (de_op op_addA ro_add (de_var 6) de_int)) do_none))))
    dss_nil)
    (dss_cons (ds_if (dt_cmp (op_eqD hr.units) ro_eq (de_var 7) de_int (nomark _))
    (dss_one (ds_set 8 sc_law.nd (de_ix (de_lst (da_cons de_str (da_cons de_str (da_cons de_str (da_cons de_str (da_cons de_str da_nil)))))) (de_op op_modN ro_mod (de_op op_divA ro_div (de_var 1) de_int) de_int))))
    dss_nil)
    (dss_cons (ds_if (dt_cmp op_inA ro_in (de_var 8) (de_of (dl_lc (own := [(("known" : Str), 12)]) (W0 := W00) rfl sc_law.nd (di_seq (de_var 2)) (blkOk_by (N := N_law) (sc := defScope s_law) (by decide +kernel)) (fun _ _ _ _ _ => (dg_name (j := 12) sc_law.nd rfl (by first | exact Or.inl rfl | exact Or.inr rfl))) (by simp) (fun _ _ _ _ _ => dts_nil) (fun _ _ _ _ _ => (de_ix (de_var 12) de_int)))) rfl)
    (dss_one (ds_ret de_bl))
    dss_nil)
    (dss_cons (ds_for PassesOwn.never rfl (di_rng1 (by rfl) T.z_range de_int) (dg_name (j := 9) sc_law.nd rfl (by first | exact Or.inl rfl | exact Or.inr rfl))
    (dss_one (ds_if (dt_cmp (op_neD hr.units) ro_ne (de_callE takes0 (ok__law_asked T) (hr.mono (by decide)) (da_cons (de_var 9) (da_cons (de_var 8) da_nil))) (de_tup (da_cons de_str (da_cons (de_var 8) (da_cons de_bl da_nil)))) (nomark _))
    (dss_one (ds_ret de_bl))
    dss_nil)))
    (dss_one (ds_ret (de_cmp (op_eqD hr.units) ro_eq (de_callX0 (ok_names T) (hr.mono (by decide))) (de_of (dl_lc (own := [(("known" : Str), 12)]) (W0 := W00) rfl sc_law.nd (di_seq (de_var 2)) (blkOk_by (N := N_law) (sc := defScope s_law) (by decide +kernel)) (fun _ _ _ _ _ => (dg_name (j := 12) sc_law.nd rfl (by first | exact Or.inl rfl | exact Or.inr rfl))) (by simp) (fun _ _ _ _ _ => dts_nil) (fun _ _ _ _ _ => (de_ix (de_var 12) de_int)))) (nomark _)))))))))))))))))))
theorem fin (T : Txt P w K mg C) : FunX K mg "law" s_law ["script"] ∧ ∀ (base : Heap) (f : Addr) (cdv : Value) (A : Around) (outer : List Env) (s : Shared) (H : Hp) (E : XK), Room 5 (A.deeper (envOfC "law" (defScope s_law) s.heap.objs.size f cdv)) →
    DSs (cxOf CX0 P w K mg base N_law "law" (defScope s_law) f cdv A outer s H E).nox (EC0 C) (fun _ _ _ _ => False) (defBody s_law) b_law := ⟨T.f_law, fun base f cdv A outer s H E hr => body_law T hr⟩
end
end K5
end Part_K05o

section Part_MA
set_option Elab.async false
set_option linter.all false
set_option maxRecDepth 100000
set_option autoImplicit false
set_option maxHeartbeats 2000000
namespace DL
open PySem PySem.Spec PyProof.Rows L2 Evl SX
/-! ### texts as lists of code points -/
theorem sh_S {l : List Nat} (h : ∀ c ∈ l, c < 1000) : SeqAt.shaped (.str (S l)) = true := by
  show (PyData.strOk (S l) && decide ((PyData.str (S l)).depth ≤ 64)) = true
  rw [Bool.and_eq_true]
  refine ⟨?_, by rfl⟩
  show (S l).cps.all (· < 0x110000) = true
  rw [← Array.all_toList, List.all_eq_true]
  intro c hc
  have := h c hc
  exact decide_eq_true (by omega)
theorem sh_ints (ns : List Int) : SeqAt.shaped (.tuple (ns.map .int)) = true := by
  have h : ∀ ns : List Int, PyData.canLayAll0 (ns.map .int) = true ∧ PyData.depthAll (ns.map .int) = 0 := by
    intro ns
    induction ns with
    | nil => exact ⟨rfl, rfl⟩
    | cons n ns ih =>
      refine ⟨?_, ?_⟩
      · show (PyData.canLay0 (.int n) && PyData.canLayAll0 (ns.map .int)) = true
        rw [ih.1]; rfl
      · show max (PyData.depth (.int n)) (PyData.depthAll (ns.map .int)) = 0
        rw [ih.2]; rfl
  show (PyData.canLayAll0 (ns.map .int) && decide (PyData.depthAll (ns.map .int) + 1 ≤ 64)) = true
  rw [(h ns).1, (h ns).2]
  rfl
theorem len_S {l : List Nat} (h : l.length ≤ 16777216) : dLen [.str (S l)] = some (.int l.length) := by
  rw [len_s (by rw [S_len]; exact h), S_len]
theorem cat_S {l m : List Nat} (h : l.length + m.length ≤ 16777216) : dAdd (.str (S l)) (.str (S m)) = some (.str (S (l ++ m))) := by
  show (if (S l).length + (S m).length ≤ LINE then some (PyData.str (S l ++ S m)) else none) = _
  rw [S_len, S_len, if_pos h, S_cat]
theorem ix_S {l : List Nat} {k : Nat} (h : l.length ≤ 16777216) : dIx (.str (S l)) (.int k) = (l[k]?).map fun c => .str (S [c]) := by
  show (if (S l).length ≤ LINE then (atI l k).map fun c => PyData.str ⟨#[c]⟩ else none) = _
  rw [S_len, if_pos h, at_nat]
theorem sl_S {l : List Nat} {a b : Nat} (h : l.length ≤ 16777216) : dSl (.str (S l)) (some a) (some b) = some (.str (S ((l.drop a).take (b - a)))) := by
  show (if (S l).length ≤ LINE then some (PyData.str (cutS (S l) (some a) (some b))) else none) = _
  rw [S_len, if_pos h]
  unfold cutS
  rw [S_len, HT.sIx_nat, HT.sIx_nat]
  show some (PyData.str (S ((l.drop _).take _))) = _
  congr 3
  rcases Nat.le_total a l.length with q | q
  · rw [Nat.min_eq_left q]
    rcases Nat.le_total b l.length with q2 | q2
    · rw [Nat.min_eq_left q2]
    · rw [Nat.min_eq_right q2, List.take_of_length_le (by rw [List.length_drop]; omega), List.take_of_length_le (by rw [List.length_drop]; omega)]
  · rw [Nat.min_eq_right q, List.drop_of_length_le (Nat.le_refl _), List.drop_of_length_le q]
    simp
theorem eq_S {l m : List Nat} (h : ∀ c ∈ l, c < 1000) (h' : ∀ c ∈ m, c < 1000) : dEq (.str (S l)) (.str (S m)) = some (.bool (decide (l = m))) := by
  unfold dEq
  rw [sh_S h, sh_S h', ← S_beq_eq]
  rfl
theorem ne_S {l m : List Nat} (h : ∀ c ∈ l, c < 1000) (h' : ∀ c ∈ m, c < 1000) : dNe (.str (S l)) (.str (S m)) = some (.bool (!decide (l = m))) := by
  unfold dNe
  rw [sh_S h, sh_S h', ← S_beq_eq]
  rfl
theorem in_S (c : Nat) (m : List Nat) : dIn (.str (S [c])) (.str (S m)) = some (.bool (decide (c ∈ m))) := rfl
theorem items_S (l : List Nat) : dItems (.str (S l)) = some (l.map fun c => .str (S [c])) := rfl
theorem join_S' {a : List Nat} {ls : List (List Nat)} (h : (ls.map (·.length)).sum + ls.length * a.length ≤ 16777216) : dJoin (.str (S a)) [.list (ls.map fun l => .str (S l))] = some (.str (S (TL.joinL a ls))) := by
  have e : (ls.map fun l => PyData.str (S l)) = (ls.map S).map PyData.str := by rw [List.map_map]; rfl
  show (dStrs _).bind (joinOk (S a)) = _
  rw [e, dStrs_map]
  show joinOk (S a) (ls.map S) = _
  unfold joinOk
  rw [lens, List.length_map, S_len, if_pos h, join_S]
theorem int_dig {c : Nat} (h1 : 48 ≤ c) (h2 : c ≤ 57) : dInt [.str (S [c])] = some (.int ((c - 48 : Nat) : Int)) := by
  show (if (S [c]).length ≤ 640 then (PySem.intText? (S [c])).map PyData.int else none) = _
  rw [S_len, if_pos (by simp), int_S (by simp; omega) (by simp) (by simp)]
  show some (PyData.int ((0 * 10 + (c - 48) : Nat) : Int)) = _
  rw [Nat.zero_mul, Nat.zero_add]
/-- the text of an int -/
def iL (i : Int) : List Nat := if 0 ≤ i then TL.numL i.toNat else 45 :: TL.numL (-i).toNat
theorem iL_eq (i : Int) : Str.ofString (toString i) = S (iL i) := by
  unfold iL
  split
  · rename_i h
    obtain ⟨n, rfl⟩ := Int.eq_ofNat_of_zero_le h
    exact num_S n
  · rename_i h
    obtain ⟨n, hn⟩ : ∃ n : Nat, i = -((n + 1 : Nat) : Int) := ⟨(-i).toNat - 1, by omega⟩
    subst hn
    have e : (-(-((n + 1 : Nat) : Int))).toNat = n + 1 := by omega
    rw [e]
    apply TL.ext_tl
    rw [TL.tl_ofString]
    show (Int.repr (Int.negSucc n)).toList.map Char.toNat = 45 :: TL.numL (n + 1)
    show (("-" ++ Nat.repr (n + 1)) : String).toList.map Char.toNat = _
    rw [String.toList_append, List.map_append]
    show 45 :: (Nat.repr (n + 1)).toList.map Char.toNat = _
    rw [Nat.toList_repr]
    rfl
theorem str_i {i : Int} (h1 : -1000000 ≤ i) (h2 : i ≤ 1000000) : dStr [.int i] = some (.str (S (iL i))) := by
  show (if i.natAbs.log2 < 1920 then some (PyData.str (Str.ofString (toString i))) else none) = _
  rw [if_pos, iL_eq]
  have h : i.natAbs < 2 ^ 1920 := Nat.lt_of_le_of_lt (show i.natAbs ≤ 1000000 by omega) (by decide +kernel)
  by_cases q : i.natAbs = 0
  · rw [q]; decide
  · exact (Nat.log2_lt q).mpr h
theorem lt_S (l m : List Nat) : dLt (.str (S l)) (.str (S m)) = some (.bool (decide (l < m))) := rfl
theorem gt_S (l m : List Nat) : dGt (.str (S l)) (.str (S m)) = some (.bool (decide (m < l))) := rfl
theorem lt_T (l m : List Int) : dLt (.tuple (l.map .int)) (.tuple (m.map .int)) = some (.bool (HT.lexLt l m)) := by
  show (match dInts (l.map .int), dInts (m.map .int) with | some ns, some ms => some (PyData.bool (HT.lexLt ns ms)) | _, _ => none) = _
  rw [dInts_map, dInts_map]
theorem gt_T (l m : List Int) : dGt (.tuple (l.map .int)) (.tuple (m.map .int)) = some (.bool (HT.lexLt m l)) := by
  show (match dInts (l.map .int), dInts (m.map .int) with | some ns, some ms => some (PyData.bool (HT.lexLt ms ns)) | _, _ => none) = _
  rw [dInts_map, dInts_map]
theorem eqv_ints : ∀ l m : List Int, PyData.eqvAll (l.map .int) (m.map .int) = decide (l = m)
  | [], [] => rfl
  | [], _ :: _ => rfl
  | _ :: _, [] => rfl
  | x :: xs, y :: ys => by
    show ((x == y) && PyData.eqvAll (xs.map .int) (ys.map .int)) = _
    rw [eqv_ints xs ys]
    by_cases h : x = y <;> by_cases h2 : xs = ys <;> simp [h, h2]
theorem eq_T (l m : List Int) : dEq (.tuple (l.map .int)) (.tuple (m.map .int)) = some (.bool (decide (l = m))) := by
  unfold dEq
  rw [sh_ints, sh_ints, ← eqv_ints]
  rfl
theorem ne_T (l m : List Int) : dNe (.tuple (l.map .int)) (.tuple (m.map .int)) = some (.bool (!decide (l = m))) := by
  unfold dNe
  rw [sh_ints, sh_ints, ← eqv_ints]
  rfl
/-! ### cells that are known to be no borrowed list -/
theorem setV_s {δ : Dl} {j : Nat} {d : D} (h : (δ[j]?).map Cell.isVar = some false) : setV j d δ = some (δ.set j (.val d)) := by
  unfold setV
  cases q : δ[j]? with
  | none => rw [q] at h; cases h
  | some c =>
    rw [q] at h
    cases c with
    | var b ds => cases h
    | non => rfl
    | val d => rfl
/-! ### for -/
theorem mFor_inv {g : D → Dl → Option Dl} {body : M Fl} {items : List D} (Inv : Nat → Dl → Prop) (step : ∀ i x δ, items[i]? = some x → Inv i δ → ∃ δ1, g x δ = some δ1 ∧ ∃ δ2, body δ1 = .ok .nx δ2 ∧ Inv (i + 1) δ2) : ∀ {δ : Dl}, Inv 0 δ → ∃ δ', mFor g body items δ = .ok .nx δ' ∧ Inv items.length δ' := by
  have H : ∀ (r : List D) (k : Nat), items.drop k = r → k ≤ items.length → ∀ δ : Dl, Inv k δ → ∃ δ', mFor g body r δ = .ok .nx δ' ∧ Inv items.length δ' := by
    intro r
    induction r with
    | nil =>
      intro k hk hl δ h
      have e : k = items.length := by
        have := congrArg List.length hk
        rw [List.length_drop, List.length_nil] at this
        omega
      subst e
      exact ⟨δ, rfl, h⟩
    | cons x r ih =>
      intro k hk hl δ h
      have hx : items[k]? = some x := by
        have := congrArg (fun l => l[0]?) hk
        simpa using this
      have hl2 : k < items.length := by
        rcases Nat.lt_or_ge k items.length with q | q
        · exact q
        · rw [List.drop_of_length_le q] at hk; cases hk
      obtain ⟨δ1, h1, δ2, h2, h3⟩ := step k x δ hx h
      obtain ⟨δ', h4, h5⟩ := ih (k + 1) (by rw [← List.drop_drop, hk]; rfl) hl2 δ2 h3
      refine ⟨δ', ?_, h5⟩
      unfold mFor
      rw [h1]
      simp only [h2, bind_ok]
      exact h4
  exact fun {δ} h => H items 0 rfl (Nat.zero_le _) δ h
/-- .. with an early return -/
theorem mFor_ret {g : D → Dl → Option Dl} {body : M Fl} {items : List D} (Inv : Nat → Dl → Prop) (P : D → Prop) (step : ∀ i x δ, items[i]? = some x → Inv i δ → ∃ δ1, g x δ = some δ1 ∧ ∃ δ2, (body δ1 = .ok .nx δ2 ∧ Inv (i + 1) δ2 ∨ ∃ d, body δ1 = .ok (.rt d) δ2 ∧ P d)) : ∀ {δ : Dl}, Inv 0 δ → (∃ δ', mFor g body items δ = .ok .nx δ' ∧ Inv items.length δ') ∨ ∃ d δ', mFor g body items δ = .ok (.rt d) δ' ∧ P d := by
  have H : ∀ (r : List D) (k : Nat), items.drop k = r → k ≤ items.length → ∀ δ : Dl, Inv k δ → (∃ δ', mFor g body r δ = .ok .nx δ' ∧ Inv items.length δ') ∨ ∃ d δ', mFor g body r δ = .ok (.rt d) δ' ∧ P d := by
    intro r
    induction r with
    | nil =>
      intro k hk hl δ h
      have e : k = items.length := by
        have := congrArg List.length hk
        rw [List.length_drop, List.length_nil] at this
        omega
      subst e
      exact .inl ⟨δ, rfl, h⟩
    | cons x r ih =>
      intro k hk hl δ h
      have hx : items[k]? = some x := by
        have := congrArg (fun l => l[0]?) hk
        simpa using this
      have hl2 : k < items.length := by
        rcases Nat.lt_or_ge k items.length with q | q
        · exact q
        · rw [List.drop_of_length_le q] at hk; cases hk
      obtain ⟨δ1, h1, δ2, h⟩ := step k x δ hx h
      rcases h with ⟨h2, h3⟩ | ⟨d, h2, h3⟩
      · rcases ih (k + 1) (by rw [← List.drop_drop, hk]; rfl) hl2 δ2 h3 with ⟨δ', h4, h5⟩ | ⟨d, δ', h4, h5⟩
        · refine .inl ⟨δ', ?_, h5⟩
          unfold mFor
          rw [h1]
          simp only [h2, bind_ok]
          exact h4
        · refine .inr ⟨d, δ', ?_, h5⟩
          unfold mFor
          rw [h1]
          simp only [h2, bind_ok]
          exact h4
      · refine .inr ⟨d, δ2, ?_, h3⟩
        unfold mFor
        rw [h1]
        simp only [h2, bind_ok]
  exact fun {δ} h => H items 0 rfl (Nat.zero_le _) δ h
theorem rng_at {lo hi : Int} {k : Nat} {d : D} (h : (rng lo hi)[k]? = some d) : d = .int (lo + k) ∧ lo + k < hi := by
  unfold rng at h
  rw [List.getElem?_map] at h
  cases q : (List.range (hi - lo).toNat)[k]? with
  | none => rw [q] at h; cases h
  | some n =>
    rw [q] at h
    cases h
    obtain ⟨h1, h2⟩ := List.getElem?_eq_some_iff.mp q
    rw [List.getElem_range] at h2
    rw [List.length_range] at h1
    subst h2
    exact ⟨rfl, by omega⟩
/-- one turn of a while -/
theorem mWhile_turn {t : M Bool} {body : M Fl} {n : Nat} {δ δ1 : Dl} (h1 : t δ = .ok true δ) (h2 : body δ = .ok .nx δ1) : mWhile t body (n + 1) δ = mWhile t body n δ1 := by
  rw [mWhile]
  simp only [h1, h2, bind_ok, if_true]
theorem mWhile_end {t : M Bool} {body : M Fl} {n : Nat} {δ : Dl} (h1 : t δ = .ok false δ) : mWhile t body (n + 1) δ = .ok .nx δ := by
  rw [mWhile]
  simp only [h1, bind_ok, Bool.false_eq_true, if_false]
theorem mWhile_get {t : M Bool} {body : M Fl} {n : Nat} {δ δ1 : Dl} {f : Fl} (h : mWhile t body n δ = .ok f δ1) : mWhileS t body δ = .ok f δ1 := by
  rw [mWhileS_eq (n := n) (by rw [h]; intro e; cases e), h]
end DL
end Part_MA

section Part_PA
set_option Elab.async false
set_option linter.all false
set_option maxRecDepth 100000
set_option autoImplicit false
set_option maxHeartbeats 2000000
namespace K5
open PySem PySem.Spec PyProof.Rows L2 DL SX
theorem iv_non : Cell.isVar .non = false := rfl
theorem iv_val (d : D) : Cell.isVar (.val d) = false := rfl
/-- a cell that is no borrowed list -/
def cO : Option D → Cell
  | none => .non
  | some d => .val d
theorem iv_cO (o : Option D) : Cell.isVar (cO o) = false := by cases o <;> rfl
theorem setV_zn (d : D) (δ : Dl) : setV 0 d (.non :: δ) = some (.val d :: δ) := rfl
theorem setV_zv (d x : D) (δ : Dl) : setV 0 d (.val x :: δ) = some (.val d :: δ) := rfl
theorem setV_zo (d : D) (o : Option D) (δ : Dl) : setV 0 d (cO o :: δ) = some (.val d :: δ) := by cases o <;> rfl
theorem setV_succ (j : Nat) (d : D) (c : Cell) (δ : Dl) : setV (j + 1) d (c :: δ) = (setV j d δ).map (c :: ·) := by
  unfold setV
  rw [List.getElem?_cons_succ]
  cases q : δ[j]? with
  | none => rfl
  | some x => cases x with
    | var b ds => cases b <;> rfl
    | non => rfl
    | val d => rfl
local macro_rules | `(tactic| walk_at "ev") => `(tactic| try simp -implicitDefEqProofs only [mDef, mSeq, mIf, mT, mTr, mOp, mUn, mVar, mC, mCall, mCons, mNil, mRet, mSkip, mAsg, mSl, mPart, mNoPart, mAndT, mOrT, mNotT, mAnd, mOr, mNot, mIfE, mChain, mIs, mIs2, mOf, mNew, mCallF, mM1, mM0, mIxM, mLenM, mApp, mSetM, mSetIx, mAug, mFrz, mForS, mRng1, mRng2, mItems, setV_zn, setV_zv, setV_zo, setV_succ, setM, frz, setT2, mBk, mCt, mNo, 
  DL.bind_ok, DL.bind_no, DL.bind_ite, lift_some, lift_none, List.map_cons, List.map_nil, List.length_cons, List.length_nil, List.replicate_succ, List.replicate_zero, List.cons_append, List.nil_append, List.append_nil, List.getElem?_cons_zero, List.getElem?_cons_succ, List.set_cons_zero, List.set_cons_succ, Nat.reduceAdd, Nat.reduceSub, Nat.zero_add, Nat.sub_self, decide_eq_true_eq,
  add_ii, sub_ii, neg_i, mul_r, mul_l, div_s, mod_s, eq_ii, ne_ii, eq_bb, ne_bb, lt_ii, gt_ii, le_ii, ge_ii, len_l, len_t, int_i, int_b, abs_i, max_ii, min_ii, tuple_l, ix_l, ix_t, tr_b, Nat.reduceLeDiff, if_true, if_false, Option.map_some, Option.bind_some, reduceIte, Int.reduceLT, Int.reduceNeg, Int.reduceMul, Nat.reduceLT, Nat.le_refl, LINE, Bool.false_eq_true, Bool.not_true, Bool.not_false, Bool.true_eq_false])
local macro_rules | `(tactic| walk_at "ev*") => `(tactic| try simp -implicitDefEqProofs only [mDef, mSeq, mIf, mT, mTr, mOp, mUn, mVar, mC, mCall, mCons, mNil, mRet, mSkip, mAsg, mSl, mPart, mNoPart, mAndT, mOrT, mNotT, mAnd, mOr, mNot, mIfE, mChain, mIs, mIs2, mOf, mNew, mCallF, mM1, mM0, mIxM, mLenM, mApp, mSetM, mSetIx, mAug, mFrz, mForS, mRng1, mRng2, mItems, setV_zn, setV_zv, setV_zo, setV_succ, setM, frz, setT2, mBk, mCt, mNo, 
  DL.bind_ok, DL.bind_no, DL.bind_ite, lift_some, lift_none, List.map_cons, List.map_nil, List.length_cons, List.length_nil, List.replicate_succ, List.replicate_zero, List.cons_append, List.nil_append, List.append_nil, List.getElem?_cons_zero, List.getElem?_cons_succ, List.set_cons_zero, List.set_cons_succ, Nat.reduceAdd, Nat.reduceSub, Nat.zero_add, Nat.sub_self, decide_eq_true_eq,
  add_ii, sub_ii, neg_i, mul_r, mul_l, div_s, mod_s, eq_ii, ne_ii, eq_bb, ne_bb, lt_ii, gt_ii, le_ii, ge_ii, len_l, len_t, int_i, int_b, abs_i, max_ii, min_ii, tuple_l, ix_l, ix_t, tr_b, Nat.reduceLeDiff, if_true, if_false, Option.map_some, Option.bind_some, reduceIte, Int.reduceLT, Int.reduceNeg, Int.reduceMul, Nat.reduceLT, Nat.le_refl, LINE, Bool.false_eq_true, Bool.not_true, Bool.not_false, Bool.true_eq_false, *])
theorem cell_eq (ns : List Int) (k : Nat) : m__law_cell [.list (ns.map .int), .int k] = .ok (.int (ns.getD k 0)) [] := by
  unfold m__law_cell b__law_cell
  walk_at "ev"
  rw [at_nat]
  by_cases h : k < ns.length
  · rw [if_pos (by rw [List.length_map]; omega)]
    simp [h]
    walk_at "ev"
  · rw [if_neg (by rw [List.length_map]; omega)]
    simp [h]
theorem number_eq (c : Int) : ∃ v : Int, m__law_number [.int c] = .ok (.int v) [] ∧ -1000000 ≤ v ∧ v ≤ 1000000 := by
  unfold m__law_number b__law_number
  walk_at "ev"
  split
  · exact ⟨_, rfl, by omega, by omega⟩
  split
  · exact ⟨_, rfl, by omega, by omega⟩
  split
  · obtain ⟨d, hd, e⟩ := at_ex [PyData.int 1000000, PyData.int (-1000000), PyData.int 999999, PyData.int 500000, PyData.int 500001, PyData.int (-500000), PyData.int 1000, PyData.int (-1000)] (i := c / 4 % 8) (by omega) (by show _ < (8 : Int); omega)
    rw [e]
    walk_at "ev"
    simp only [List.mem_cons, List.not_mem_nil, or_false] at hd
    rcases hd with rfl | rfl | rfl | rfl | rfl | rfl | rfl | rfl <;> exact ⟨_, rfl, by decide, by decide⟩
  · exact ⟨_, rfl, by omega, by omega⟩
theorem pow18 : dPow (.int 10) (.int 18) = some (.int 1000000000000000000) := by
  show (if CPow 10 18 then some (PyData.int (10 ^ (18 : Int).toNat)) else none) = _
  rw [if_pos (by decide +kernel)]
  rfl
/-- what a turn of the draws keeps -/
def DrI (c : Int) (n l : Int) (i : Nat) (δ : Dl) : Prop := ∃ (xs : List Int) (rest : Int) (o5 o6 : Option D), δ = [.val (.int c), .val (.int n), .val (.int l), .var false (xs.map .int), .val (.int rest), cO o5, cO o6] ∧ xs.length = i ∧ ∀ x ∈ xs, 0 ≤ x ∧ x < l
theorem draws_step {c n l : Int} {i : Nat} {δ : Dl} (h0 : 0 < l) (h1 : l < 1073741824) (I : DrI c n l i δ) (hi : i < 30) : ∃ δ1, setV 5 (.int i) δ = some δ1 ∧ ∃ δ2, b__law_draws_L1 δ1 = .ok .nx δ2 ∧ DrI c n l (i + 1) δ2 := by
  obtain ⟨xs, rest, o5, o6, rfl, hl, hr⟩ := I
  refine ⟨_, by walk_at "ev"; rfl, ?_⟩
  unfold b__law_draws_L1
  walk_at "ev"
  rw [pow18]
  walk_at "ev"
  have e1 : ∀ x : Int, dMod (.int x) (.int l) = some (.int (x % l)) := fun x => mod_s h0
  have e2 : ∀ x : Int, dDiv (.int x) (.int l) = some (.int (x / l)) := fun x => div_s h0 h1
  have e3 : ((xs.map PyData.int).length < 16777216) = True := by rw [List.length_map, hl]; exact eq_true (by omega)
  have hx : ∀ y : Int, ∀ x ∈ xs ++ [y % l], 0 ≤ x ∧ x < l := by
    intro y x hx
    rcases List.mem_append.mp hx with h | h
    · exact hr x h
    · rw [List.mem_singleton.mp h]
      exact ⟨Int.emod_nonneg _ (by omega), Int.emod_lt_of_pos _ h0⟩
  have em : ∀ y : Int, xs.map PyData.int ++ [.int y] = (xs ++ [y]).map .int := fun y => by rw [List.map_append]; rfl
  simp only [e1, e2]
  walk_at "ev"
  simp only [e3, if_true, e2]
  walk_at "ev"
  simp only [em, e2]
  walk_at "ev"
  generalize (if c < 0 then -c else c) = a
  split
  · split
    · exact ⟨_, rfl, _, _, some _, o6, rfl, by simp [hl], hx _⟩
    · exact ⟨_, rfl, _, _, some _, some _, rfl, by simp [hl], hx _⟩
  · exact ⟨_, rfl, _, _, some _, some _, rfl, by simp [hl], hx _⟩
theorem draws_eq (c : Int) {n : Nat} {l : Int} (hn : n ≤ 30) (h0 : 0 < l) (h1 : l < 1073741824) : ∃ xs : List Int, m__law_draws [.int c, .int n, .int l] = .ok (.list (xs.map .int)) [] ∧ xs.length = n ∧ ∀ x ∈ xs, 0 ≤ x ∧ x < l := by
  have A : DrI c n l 0 [.val (.int c), .val (.int n), .val (.int l), .var false [], .val (.int (if c < 0 then -c else c)), .non, .non] := ⟨[], _, none, none, rfl, rfl, by simp⟩
  obtain ⟨δ', e, xs, rest, o5, o6, rfl, hl, hx⟩ := mFor_inv (g := setV 5) (body := b__law_draws_L1) (items := rng 0 (n : Int)) (DrI c n l) (fun i x δ hx I => by
    obtain ⟨rfl, hi⟩ := rng_at hx
    rw [Int.zero_add]
    exact draws_step h0 h1 I (by omega)) A
  unfold m__law_draws b__law_draws
  walk_at "ev"
  rw [if_pos (big_of (by omega) (by omega))]
  walk_at "ev"
  rw [e]
  walk_at "ev"
  rw [rng_len] at hl
  exact ⟨xs, rfl, by omega, hx⟩
/-! ### values -/
inductive Kd where | n | t | s | l
/-- the signs of a text, in order -/
def AL : List Nat := [32, 48, 49, 50, 51, 52, 53, 54, 55, 56, 57, 97, 98, 99, 100, 101, 102, 103, 104, 105, 106, 107, 108, 109, 110, 111, 112, 113, 114, 115, 116, 117, 118, 119, 120, 121, 122]
def Rg (i : Int) : Prop := -1000000 ≤ i ∧ i ≤ 1000000
inductive Vk : Kd → D → Prop
  | n {i : Int} (h : Rg i) : Vk .n (.int i)
  | t (b : Bool) : Vk .t (.bool b)
  | s {l : List Nat} (h : l.length ≤ 30) (a : ∀ c ∈ l, c ∈ AL) : Vk .s (.str (S l))
  | l {ns : List Int} (h : ns.length ≤ 12) (a : ∀ i ∈ ns, Rg i) : Vk .l (.tuple (ns.map .int))
def letter : Kd → Str
  | .n => "n" | .t => "t" | .s => "s" | .l => "l"
theorem eq_lit {a b : Str} {r : Bool} (h : (SeqAt.shaped (.str a) && SeqAt.shaped (.str b)) = true) (e : (a == b) = r) : dEq (.str a) (.str b) = some (.bool r) := by
  unfold dEq
  rw [h]
  show some (PyData.bool (a == b)) = _
  rw [e]
theorem e_nn : dEq (.str "n") (.str "n") = some (.bool true) := eq_lit (by decide +kernel) (by decide +kernel)
theorem e_tn : dEq (.str "t") (.str "n") = some (.bool false) := eq_lit (by decide +kernel) (by decide +kernel)
theorem e_tt : dEq (.str "t") (.str "t") = some (.bool true) := eq_lit (by decide +kernel) (by decide +kernel)
theorem e_sn : dEq (.str "s") (.str "n") = some (.bool false) := eq_lit (by decide +kernel) (by decide +kernel)
theorem e_st : dEq (.str "s") (.str "t") = some (.bool false) := eq_lit (by decide +kernel) (by decide +kernel)
theorem e_ss : dEq (.str "s") (.str "s") = some (.bool true) := eq_lit (by decide +kernel) (by decide +kernel)
theorem e_ln : dEq (.str "l") (.str "n") = some (.bool false) := eq_lit (by decide +kernel) (by decide +kernel)
theorem e_lt : dEq (.str "l") (.str "t") = some (.bool false) := eq_lit (by decide +kernel) (by decide +kernel)
theorem e_ls : dEq (.str "l") (.str "s") = some (.bool false) := eq_lit (by decide +kernel) (by decide +kernel)
local macro_rules | `(tactic| walk_at "ev") => `(tactic| try simp -implicitDefEqProofs only [mDef, mSeq, mIf, mT, mTr, mOp, mUn, mVar, mC, mCall, mCons, mNil, mRet, mSkip, mAsg, mSl, mPart, mNoPart, mAndT, mOrT, mNotT, mAnd, mOr, mNot, mIfE, mChain, mIs, mIs2, mOf, mNew, mCallF, mM1, mM0, mIxM, mLenM, mApp, mSetM, mSetIx, mAug, mFrz, mForS, mRng1, mRng2, mItems, setV_zn, setV_zv, setV_zo, setV_succ, setM, frz, setT2, mBk, mCt, mNo, 
  DL.bind_ok, DL.bind_no, DL.bind_ite, lift_some, lift_none, List.map_cons, List.map_nil, List.length_cons, List.length_nil, List.replicate_succ, List.replicate_zero, List.cons_append, List.nil_append, List.append_nil, List.getElem?_cons_zero, List.getElem?_cons_succ, List.set_cons_zero, List.set_cons_succ, Nat.reduceAdd, Nat.reduceSub, Nat.zero_add, Nat.sub_self, decide_eq_true_eq,
  add_ii, sub_ii, neg_i, mul_r, mul_l, div_s, mod_s, eq_ii, ne_ii, eq_bb, ne_bb, lt_ii, gt_ii, le_ii, ge_ii, len_l, len_t, int_i, int_b, abs_i, max_ii, min_ii, tuple_l, ix_l, ix_t, tr_b, Nat.reduceLeDiff, if_true, if_false, Option.map_some, Option.bind_some, reduceIte, Int.reduceLT, Int.reduceNeg, Int.reduceMul, Nat.reduceLT, Nat.le_refl, LINE, Bool.false_eq_true, Bool.not_true, Bool.not_false, Bool.true_eq_false, e_nn, e_tn, e_tt, e_sn, e_st, e_ss, e_ln, e_lt, e_ls])
local macro_rules | `(tactic| walk_at "ev*") => `(tactic| try simp -implicitDefEqProofs only [mDef, mSeq, mIf, mT, mTr, mOp, mUn, mVar, mC, mCall, mCons, mNil, mRet, mSkip, mAsg, mSl, mPart, mNoPart, mAndT, mOrT, mNotT, mAnd, mOr, mNot, mIfE, mChain, mIs, mIs2, mOf, mNew, mCallF, mM1, mM0, mIxM, mLenM, mApp, mSetM, mSetIx, mAug, mFrz, mForS, mRng1, mRng2, mItems, setV_zn, setV_zv, setV_zo, setV_succ, setM, frz, setT2, mBk, mCt, mNo, 
  DL.bind_ok, DL.bind_no, DL.bind_ite, lift_some, lift_none, List.map_cons, List.map_nil, List.length_cons, List.length_nil, List.replicate_succ, List.replicate_zero, List.cons_append, List.nil_append, List.append_nil, List.getElem?_cons_zero, List.getElem?_cons_succ, List.set_cons_zero, List.set_cons_succ, Nat.reduceAdd, Nat.reduceSub, Nat.zero_add, Nat.sub_self, decide_eq_true_eq,
  add_ii, sub_ii, neg_i, mul_r, mul_l, div_s, mod_s, eq_ii, ne_ii, eq_bb, ne_bb, lt_ii, gt_ii, le_ii, ge_ii, len_l, len_t, int_i, int_b, abs_i, max_ii, min_ii, tuple_l, ix_l, ix_t, tr_b, Nat.reduceLeDiff, if_true, if_false, Option.map_some, Option.bind_some, reduceIte, Int.reduceLT, Int.reduceNeg, Int.reduceMul, Nat.reduceLT, Nat.le_refl, LINE, Bool.false_eq_true, Bool.not_true, Bool.not_false, Bool.true_eq_false, e_nn, e_tn, e_tt, e_sn, e_st, e_ss, e_ln, e_lt, e_ls, *])
theorem value_n {c : Int} (h : 0 ≤ c) : ∃ x, m__law_value [.str "n", .int c] = .ok x [] ∧ Vk .n x := by
  obtain ⟨v, e, h1, h2⟩ := number_eq c
  unfold m__law_value b__law_value
  walk_at "ev*"
  exact ⟨_, rfl, .n ⟨h1, h2⟩⟩
theorem value_t {c : Int} (h : 0 ≤ c) : ∃ x, m__law_value [.str "t", .int c] = .ok x [] ∧ Vk .t x := by
  unfold m__law_value b__law_value
  walk_at "ev"
  exact ⟨_, rfl, .t _⟩
theorem menu : ("a b0 9z1" : Str) = S [97, 32, 98, 48, 32, 57, 122, 49] := by decide +kernel
theorem empty_S : ("" : Str) = S [] := by decide +kernel
theorem nv_list {δ : Dl} (h : δ.all (fun c => !c.isVar) = true) : noVar δ = true := h
theorem map_pick {α β : Type} {g : α → β} {Q : α → Prop} : ∀ {ys : List β}, (∀ y ∈ ys, ∃ k, y = g k ∧ Q k) → ∃ ks : List α, ys = ks.map g ∧ ∀ k ∈ ks, Q k
  | [], _ => ⟨[], rfl, by simp⟩
  | y :: ys, h => by
    obtain ⟨k, rfl, hk⟩ := h y List.mem_cons_self
    obtain ⟨ks, e, hs⟩ := map_pick (ys := ys) fun z hz => h z (List.mem_cons_of_mem _ hz)
    exact ⟨k :: ks, by rw [e]; rfl, fun z hz => by
      rcases List.mem_cons.mp hz with rfl | hz
      · exact hk
      · exact hs z hz⟩
theorem joinL_ones : ∀ ks : List Nat, TL.joinL [] (ks.map fun k => [k]) = ks
  | [] => rfl
  | [k] => rfl
  | k :: k2 :: ks => by
    have ih := joinL_ones (k2 :: ks)
    show [k] ++ ([] ++ TL.joinL [] ((k2 :: ks).map fun k => [k])) = _
    rw [ih]
    rfl
theorem join_ones {ks : List Nat} (h : ks.length ≤ 30) : dJoin (.str "") [.list (ks.map fun k => .str (S [k]))] = some (.str (S ks)) := by
  have e := join_S' (a := []) (ls := ks.map fun k => [k]) (by
    have : (ks.map fun k => [k]).map (·.length) = ks.map fun _ => 1 := by rw [List.map_map]; rfl
    rw [this, List.length_map]
    have q : ∀ l : List Nat, (l.map fun _ => 1).sum = l.length := fun l => by induction l with
      | nil => rfl
      | cons a l ih => rw [List.map_cons, List.sum_cons, ih, List.length_cons]; omega
    rw [q]
    simp
    omega)
  rw [joinL_ones, List.map_map] at e
  rw [empty_S]
  exact e
theorem value_s {c : Int} (h : 0 ≤ c) : ∃ x, m__law_value [.str "s", .int c] = .ok x [] ∧ Vk .s x := by
  unfold m__law_value b__law_value
  walk_at "ev"
  obtain ⟨d, hd, e⟩ := at_ex [PyData.int 0, PyData.int 1, PyData.int 2, PyData.int 3, PyData.int 5, PyData.int 15, PyData.int 16, PyData.int 30] (i := c % 8) (by omega) (by show _ < (8 : Int); omega)
  rw [e]
  walk_at "ev"
  obtain ⟨n, rfl, hn⟩ : ∃ n : Nat, d = .int n ∧ n ≤ 30 := by
    simp only [List.mem_cons, List.not_mem_nil, or_false] at hd
    rcases hd with rfl | rfl | rfl | rfl | rfl | rfl | rfl | rfl <;> exact ⟨_, rfl, by decide⟩
  obtain ⟨xs, e2, hl, hx⟩ := draws_eq (c / 8) hn (l := 64) (by decide) (by decide)
  obtain ⟨f, e3, hf⟩ := lcS_ex (j := 3) (it := mItems (mCallF m__law_draws (mCons (mOp dDiv (mVar 1) (mC (.int 8))) (mCons (mVar 2) (mCons (mC (.int 64)) mNil))))) (e := b__law_value_E1) (δ := [.val (.str "s"), .val (.int c), .val (.int n), .non]) (δ' := [.val (.str "s"), .val (.int c), .val (.int n), .non]) (items := xs.map .int) (P := fun _ y => ∃ k, y = .str (S [k]) ∧ k ∈ AL) (by
    walk_at "ev"
    rw [e2]
    rfl) (by simp) rfl (by rw [List.length_map]; omega) (fun x hx' => by
    obtain ⟨i, hi, rfl⟩ := List.mem_map.mp hx'
    obtain ⟨k, hk⟩ : ∃ k : Nat, i % 8 = k := ⟨(i % 8).toNat, by omega⟩
    unfold b__law_value_E1
    walk_at "ev"
    rw [hk, menu, ix_S (by decide)]
    have hk8 : k < 8 := by omega
    have q : ∀ k < 8, ∃ m, [97, 32, 98, 48, 32, 57, 122, 49][k]? = some m ∧ m ∈ AL := by decide
    obtain ⟨m, e4, hm⟩ := q k hk8
    exact ⟨_, by rw [e4]; rfl, m, rfl, hm⟩)
  rw [e3]
  walk_at "ev"
  obtain ⟨ks, e4, hk⟩ := map_pick (ys := (xs.map PyData.int).map f) (g := fun k => PyData.str (S [k])) (Q := fun k => k ∈ AL) (fun y hy => by
    obtain ⟨x, hx', rfl⟩ := List.mem_map.mp hy
    exact hf x hx')
  have hl2 := congrArg List.length e4
  rw [List.length_map, List.length_map, List.length_map, hl] at hl2
  rw [e4, join_ones (by omega)]
  walk_at "ev"
  exact ⟨_, rfl, .s (by omega) hk⟩
theorem value_l {c : Int} (h : 0 ≤ c) : ∃ x, m__law_value [.str "l", .int c] = .ok x [] ∧ Vk .l x := by
  unfold m__law_value b__law_value
  walk_at "ev"
  obtain ⟨d, hd, e⟩ := at_ex [PyData.int 0, PyData.int 1, PyData.int 2, PyData.int 3, PyData.int 4, PyData.int 6, PyData.int 11, PyData.int 12] (i := c % 8) (by omega) (by show _ < (8 : Int); omega)
  rw [e]
  walk_at "ev"
  obtain ⟨n, rfl, hn⟩ : ∃ n : Nat, d = .int n ∧ n ≤ 12 := by
    simp only [List.mem_cons, List.not_mem_nil, or_false] at hd
    rcases hd with rfl | rfl | rfl | rfl | rfl | rfl | rfl | rfl <;> exact ⟨_, rfl, by decide⟩
  have A : ∀ (l : Int) (e : M D), 0 < l → l < 1073741824 → (∀ i : Int, 0 ≤ i → i < l → ∃ y, e [.val (.str "l"), .val (.int c), .val (.int n), .val (.int i)] = .ok y [.val (.str "l"), .val (.int c), .val (.int n), .val (.int i)] ∧ ∃ k, y = .int k ∧ Rg k) →
      ∃ ks : List Int, mLcS [3] (mItems (mCallF m__law_draws (mCons (mOp dDiv (mVar 1) (mC (.int 24))) (mCons (mVar 2) (mCons (mC (.int l)) mNil))))) (setV 3) mYes e [.val (.str "l"), .val (.int c), .val (.int n), .non] = .ok (ks.map .int) [.val (.str "l"), .val (.int c), .val (.int n), .non] ∧ ks.length ≤ 12 ∧ ∀ k ∈ ks, Rg k := by
    intro l e h0 h1 he
    obtain ⟨xs, e2, hl, hx⟩ := draws_eq (c / 24) (n := n) (l := l) (by omega) h0 h1
    obtain ⟨f, e3, hf⟩ := lcS_ex (j := 3) (it := mItems (mCallF m__law_draws (mCons (mOp dDiv (mVar 1) (mC (.int 24))) (mCons (mVar 2) (mCons (mC (.int l)) mNil))))) (e := e) (δ := [.val (.str "l"), .val (.int c), .val (.int n), .non]) (δ' := [.val (.str "l"), .val (.int c), .val (.int n), .non]) (items := xs.map .int) (P := fun _ y => ∃ k, y = .int k ∧ Rg k) (by
      walk_at "ev"
      rw [e2]
      rfl) (by simp) rfl (by rw [List.length_map]; omega) (fun x hx' => by
      obtain ⟨i, hi, rfl⟩ := List.mem_map.mp hx'
      exact he i (hx i hi).1 (hx i hi).2)
    obtain ⟨ks, e4, hk⟩ := map_pick (ys := (xs.map PyData.int).map f) (g := fun k => PyData.int k) (Q := Rg) (fun y hy => by
      obtain ⟨x, hx', rfl⟩ := List.mem_map.mp hy
      exact hf x hx')
    have hl2 := congrArg List.length e4
    rw [List.length_map, List.length_map, List.length_map, hl] at hl2
    rw [e4] at e3
    exact ⟨ks, e3, by omega, hk⟩
  obtain ⟨ks, e1, e2, e3⟩ := A 4000 b__law_value_E2 (by decide) (by decide) (fun i h1 h2 => by
    obtain ⟨v, ev, q⟩ := number_eq i
    unfold b__law_value_E2
    walk_at "ev*"
    exact ⟨_, rfl, v, rfl, q⟩)
  obtain ⟨ks', e1', e2', e3'⟩ := A 63 b__law_value_E3 (by decide) (by decide) (fun i h1 h2 => by
    unfold b__law_value_E3
    walk_at "ev"
    exact ⟨_, rfl, _, rfl, by constructor <;> omega⟩)
  clear A
  simp only [e1, e1']
  walk_at "ev"
  split
  · exact ⟨_, rfl, .l e2 e3⟩
  · exact ⟨_, rfl, .l e2' e3'⟩
theorem value_eq (k : Kd) {c : Int} (h : 0 ≤ c) : ∃ x, m__law_value [.str (letter k), .int c] = .ok x [] ∧ Vk k x := by
  cases k
  · exact value_n h
  · exact value_t h
  · exact value_s h
  · exact value_l h
theorem _root_.DL.R.bind_ex {α β : Type} {c : Nat} {d : D} {δ : Dl} {f : α → Dl → R β} : R.bind (.ex c d δ) f = .ex c d δ := rfl
theorem is_bool_n (i : Int) : isD "bool" (.int i) = false := by show isT "bool" "int" = _; decide
theorem is_bool_t (i : Bool) : isD "bool" (.bool i) = true := by show isT "bool" "bool" = _; decide
theorem is_bool_s (i : Str) : isD "bool" (.str i) = false := by show isT "bool" "str" = _; decide
theorem is_bool_l (i : List D) : isD "bool" (.tuple i) = false := by show isT "bool" "tuple" = _; decide
theorem is_int_n (i : Int) : isD "int" (.int i) = true := by show isT "int" "int" = _; decide
theorem is_int_t (i : Bool) : isD "int" (.bool i) = true := by show isT "int" "bool" = _; decide
theorem is_int_s (i : Str) : isD "int" (.str i) = false := by show isT "int" "str" = _; decide
theorem is_int_l (i : List D) : isD "int" (.tuple i) = false := by show isT "int" "tuple" = _; decide
theorem is_str_n (i : Int) : isD "str" (.int i) = false := by show isT "str" "int" = _; decide
theorem is_str_t (i : Bool) : isD "str" (.bool i) = false := by show isT "str" "bool" = _; decide
theorem is_str_s (i : Str) : isD "str" (.str i) = true := by show isT "str" "str" = _; decide
theorem is_str_l (i : List D) : isD "str" (.tuple i) = false := by show isT "str" "tuple" = _; decide
theorem is_tuple_n (i : Int) : isD "tuple" (.int i) = false := by show isT "tuple" "int" = _; decide
theorem is_tuple_t (i : Bool) : isD "tuple" (.bool i) = false := by show isT "tuple" "bool" = _; decide
theorem is_tuple_s (i : Str) : isD "tuple" (.str i) = false := by show isT "tuple" "str" = _; decide
theorem is_tuple_l (i : List D) : isD "tuple" (.tuple i) = true := by show isT "tuple" "tuple" = _; decide
theorem is_list_n (i : Int) : isD "list" (.int i) = false := by show isT "list" "int" = _; decide
theorem is_list_t (i : Bool) : isD "list" (.bool i) = false := by show isT "list" "bool" = _; decide
theorem is_list_s (i : Str) : isD "list" (.str i) = false := by show isT "list" "str" = _; decide
theorem is_list_l (i : List D) : isD "list" (.tuple i) = false := by show isT "list" "tuple" = _; decide
end K5
end Part_PA

section Part_PB
set_option Elab.async false
set_option linter.all false
set_option maxRecDepth 100000
set_option autoImplicit false
set_option maxHeartbeats 2000000
namespace K5
open PySem PySem.Spec PyProof.Rows L2 DL SX
def LIB : List (Str × Str × Str) := ("abs", "n", "n") :: ("add", "nn", "n") :: ("add_each", "ln", "l") :: ("append", "ln", "l") :: ("at", "ln", "n") :: ("both", "tt", "t") :: ("choose_list", "tll", "l") :: ("choose_number", "tnn", "n") :: ("choose_text", "tss", "s") :: ("concat", "ss", "s") :: ("contains", "ss", "t") :: ("count_of", "ln", "n") :: ("distinct", "l", "l") :: ("divide", "nn", "n") :: ("double", "n", "n") :: ("drop", "ln", "l") :: ("either", "tt", "t") :: ("equal", "nn", "t") :: ("first", "l", "n") :: ("greatest", "l", "n") :: ("half", "n", "n") :: ("is_empty", "l", "t") :: ("is_even", "n", "t") :: ("join", "ll", "l") :: ("keep_above", "ln", "l") :: ("keep_even", "l", "l") :: ("last", "l", "n") :: ("least", "l", "n") :: ("length", "s", "n") :: ("less", "nn", "t") :: ("max", "nn", "n") :: ("min", "nn", "n") :: ("mod", "nn", "n") :: ("mul", "nn", "n") :: ("neg", "n", "n") :: ("negate", "t", "t") :: ("number_text", "n", "s") :: ("prepend", "nl", "l") :: ("product", "l", "n") :: ("repeat", "sn", "s") :: ("rest", "l", "l") :: ("reverse", "l", "l") :: ("reverse_text", "s", "s") :: ("running", "l", "l") :: ("same_list", "ll", "t") :: ("same_text", "ss", "t") :: ("size", "l", "n") :: ("skip", "sn", "s") :: ("sort", "l", "l") :: ("start", "sn", "s") :: ("sub", "nn", "n") :: ("sum", "l", "n") :: ("take", "ln", "l") :: ("text_number", "s", "n") :: ("up_to", "n", "l") :: ("words", "s", "n") :: ("zip_add", "ll", "l") :: []
def rowD (r : Str × Str × Str) : D := .list [.str r.1, .str r.2.1, .str r.2.2]
theorem lib_eq : m__law_library [] = .ok (.list (LIB.map rowD)) [] := by kernel_rfl
end K5
end Part_PB

section Part_PC
set_option Elab.async false
set_option linter.all false
set_option maxRecDepth 100000
set_option autoImplicit false
set_option maxHeartbeats 2000000
namespace K5
open PySem PySem.Spec PyProof.Rows L2 DL SX
local macro_rules | `(tactic| walk_at "ev") => `(tactic| try simp -implicitDefEqProofs only [mDef, mSeq, mIf, mT, mTr, mOp, mUn, mVar, mC, mCall, mCons, mNil, mRet, mSkip, mAsg, mSl, mPart, mNoPart, mAndT, mOrT, mNotT, mAnd, mOr, mNot, mIfE, mChain, mIs, mIs2, mOf, mNew, mCallF, mM1, mM0, mIxM, mLenM, mApp, mSetM, mSetIx, mAug, mFrz, mForS, mRng1, mRng2, mItems, setV_zn, setV_zv, setV_zo, setV_succ, setM, frz, setT2, mBk, mCt, mNo, 
  DL.bind_ok, DL.bind_no, DL.bind_ite, lift_some, lift_none, List.map_cons, List.map_nil, List.length_cons, List.length_nil, List.replicate_succ, List.replicate_zero, List.cons_append, List.nil_append, List.append_nil, List.getElem?_cons_zero, List.getElem?_cons_succ, List.set_cons_zero, List.set_cons_succ, Nat.reduceAdd, Nat.reduceSub, Nat.zero_add, Nat.sub_self, decide_eq_true_eq,
  add_ii, sub_ii, neg_i, mul_r, mul_l, div_s, mod_s, eq_ii, ne_ii, eq_bb, ne_bb, lt_ii, gt_ii, le_ii, ge_ii, len_l, len_t, int_i, int_b, abs_i, max_ii, min_ii, tuple_l, ix_l, ix_t, tr_b, Nat.reduceLeDiff, if_true, if_false, Option.map_some, Option.bind_some, reduceIte, Int.reduceLT, Int.reduceNeg, Int.reduceMul, Nat.reduceLT, Nat.le_refl, LINE, Bool.false_eq_true, Bool.not_true, Bool.not_false, Bool.true_eq_false, mTryR, mRaise, mCallE, mDefE, R.bind_ex, e_ss, Int.reduceEq])
local macro_rules | `(tactic| walk_at "ev*") => `(tactic| try simp -implicitDefEqProofs only [mDef, mSeq, mIf, mT, mTr, mOp, mUn, mVar, mC, mCall, mCons, mNil, mRet, mSkip, mAsg, mSl, mPart, mNoPart, mAndT, mOrT, mNotT, mAnd, mOr, mNot, mIfE, mChain, mIs, mIs2, mOf, mNew, mCallF, mM1, mM0, mIxM, mLenM, mApp, mSetM, mSetIx, mAug, mFrz, mForS, mRng1, mRng2, mItems, setV_zn, setV_zv, setV_zo, setV_succ, setM, frz, setT2, mBk, mCt, mNo, 
  DL.bind_ok, DL.bind_no, DL.bind_ite, lift_some, lift_none, List.map_cons, List.map_nil, List.length_cons, List.length_nil, List.replicate_succ, List.replicate_zero, List.cons_append, List.nil_append, List.append_nil, List.getElem?_cons_zero, List.getElem?_cons_succ, List.set_cons_zero, List.set_cons_succ, Nat.reduceAdd, Nat.reduceSub, Nat.zero_add, Nat.sub_self, decide_eq_true_eq,
  add_ii, sub_ii, neg_i, mul_r, mul_l, div_s, mod_s, eq_ii, ne_ii, eq_bb, ne_bb, lt_ii, gt_ii, le_ii, ge_ii, len_l, len_t, int_i, int_b, abs_i, max_ii, min_ii, tuple_l, ix_l, ix_t, tr_b, Nat.reduceLeDiff, if_true, if_false, Option.map_some, Option.bind_some, reduceIte, Int.reduceLT, Int.reduceNeg, Int.reduceMul, Nat.reduceLT, Nat.le_refl, LINE, Bool.false_eq_true, Bool.not_true, Bool.not_false, Bool.true_eq_false, mTryR, mRaise, mCallE, mDefE, R.bind_ex, e_ss, Int.reduceEq, *])
/-- a name that no component has -/
structure Wn (w : Str) : Prop where
  no : getT d_SIGNATURES w = none
  len : w.length ≤ 1000000
  sh : SeqAt.shaped (.str w) = true
theorem comp_no {w : Str} (h : Wn w) : m_is_component [.str w] = .ok (.bool false) [] := by
  have e1 : isD "str" (.str w) = true := is_str_s w
  have e2 : dInK d_SIGNATURES (.str w) = some (.bool false) := by
    show some (PyData.bool (getT d_SIGNATURES w).isSome) = _
    rw [h.no]; rfl
  unfold m_is_component b_is_component
  iterate 3 ((try simp only [e1, e2, truthD]); walk_at "ev")
theorem t_w {w : Str} (h : Wn w) : t_NotFound (.str w) = true := decide_eq_true h.len
theorem kinds_no {w : Str} (h : Wn w) : ∃ δ, m_argument_kinds [.str w] = .ex 0 (.str w) δ := by
  have e1 := comp_no h
  have e2 := t_w h
  refine ⟨[.val (.str w)], ?_⟩
  unfold m_argument_kinds b_argument_kinds
  iterate 4 ((try simp only [e1, e2, truthD]); walk_at "ev")
theorem result_no {w : Str} (h : Wn w) : ∃ δ, m_result_kind [.str w] = .ex 0 (.str w) δ := by
  have e1 := comp_no h
  have e2 := t_w h
  refine ⟨[.val (.str w)], ?_⟩
  unfold m_result_kind b_result_kind
  iterate 4 ((try simp only [e1, e2, truthD]); walk_at "ev")
theorem comm_no {w : Str} (h : Wn w) : ∃ δ, m_is_commutative [.str w] = .ex 0 (.str w) δ := by
  have e1 := comp_no h
  have e2 := t_w h
  refine ⟨[.val (.str w)], ?_⟩
  unfold m_is_commutative b_is_commutative
  iterate 4 ((try simp only [e1, e2, truthD]); walk_at "ev")
theorem apply_no {w : Str} (h : Wn w) (d : D) : ∃ δ, m_apply [.str w, d] = .ex 0 (.str w) δ := by
  have e1 := comp_no h
  have e2 := t_w h
  refine ⟨[.val (.str w), .val d, .non], ?_⟩
  unfold m_apply b_apply
  iterate 4 ((try simp only [e1, e2, truthD]); walk_at "ev")
theorem asked_no {w : Str} (h : Wn w) {k : Int} (h0 : 0 ≤ k) (h1 : k < 4) : m__law_asked [.int k, .str w] = .ok (.tuple [.str "unknown", .str w, .bool true]) [] := by
  obtain ⟨δ1, e1⟩ := kinds_no h
  obtain ⟨δ2, e2⟩ := result_no h
  obtain ⟨δ3, e3⟩ := comm_no h
  obtain ⟨δ4, e4⟩ := apply_no h (.list [.none, .none])
  have hk : k = 0 ∨ k = 1 ∨ k = 2 ∨ k = 3 := by omega
  unfold m__law_asked b__law_asked b__law_asked_B1
  rcases hk with rfl | rfl | rfl | rfl <;>
  iterate 6 ((try simp only [e1, e2, e3, e4]); walk_at "ev")
end K5
end Part_PC

section Part_PD
set_option Elab.async false
set_option linter.all false
set_option maxRecDepth 100000
set_option autoImplicit false
set_option maxHeartbeats 2000000
namespace K5
open PySem PySem.Spec PyProof.Rows L2 DL SX
theorem e_number_number : dEq (.str "number") (.str "number") = some (.bool true) := eq_lit (by decide +kernel) (by decide +kernel)
theorem e_number_truth : dEq (.str "number") (.str "truth") = some (.bool false) := eq_lit (by decide +kernel) (by decide +kernel)
theorem e_number_text : dEq (.str "number") (.str "text") = some (.bool false) := eq_lit (by decide +kernel) (by decide +kernel)
theorem e_number_list : dEq (.str "number") (.str "list") = some (.bool false) := eq_lit (by decide +kernel) (by decide +kernel)
theorem e_truth_number : dEq (.str "truth") (.str "number") = some (.bool false) := eq_lit (by decide +kernel) (by decide +kernel)
theorem e_truth_truth : dEq (.str "truth") (.str "truth") = some (.bool true) := eq_lit (by decide +kernel) (by decide +kernel)
theorem e_truth_text : dEq (.str "truth") (.str "text") = some (.bool false) := eq_lit (by decide +kernel) (by decide +kernel)
theorem e_truth_list : dEq (.str "truth") (.str "list") = some (.bool false) := eq_lit (by decide +kernel) (by decide +kernel)
theorem e_text_number : dEq (.str "text") (.str "number") = some (.bool false) := eq_lit (by decide +kernel) (by decide +kernel)
theorem e_text_truth : dEq (.str "text") (.str "truth") = some (.bool false) := eq_lit (by decide +kernel) (by decide +kernel)
theorem e_text_text : dEq (.str "text") (.str "text") = some (.bool true) := eq_lit (by decide +kernel) (by decide +kernel)
theorem e_text_list : dEq (.str "text") (.str "list") = some (.bool false) := eq_lit (by decide +kernel) (by decide +kernel)
theorem e_list_number : dEq (.str "list") (.str "number") = some (.bool false) := eq_lit (by decide +kernel) (by decide +kernel)
theorem e_list_truth : dEq (.str "list") (.str "truth") = some (.bool false) := eq_lit (by decide +kernel) (by decide +kernel)
theorem e_list_text : dEq (.str "list") (.str "text") = some (.bool false) := eq_lit (by decide +kernel) (by decide +kernel)
theorem e_list_list : dEq (.str "list") (.str "list") = some (.bool true) := eq_lit (by decide +kernel) (by decide +kernel)
local macro_rules | `(tactic| walk_at "ev") => `(tactic| try simp -implicitDefEqProofs only [mDef, mSeq, mIf, mT, mTr, mOp, mUn, mVar, mC, mCall, mCons, mNil, mRet, mSkip, mAsg, mSl, mPart, mNoPart, mAndT, mOrT, mNotT, mAnd, mOr, mNot, mIfE, mChain, mIs, mIs2, mOf, mNew, mCallF, mM1, mM0, mIxM, mLenM, mApp, mSetM, mSetIx, mAug, mFrz, mForS, mRng1, mRng2, mItems, setV_zn, setV_zv, setV_zo, setV_succ, setM, frz, setT2, mBk, mCt, mNo, 
  DL.bind_ok, DL.bind_no, DL.bind_ite, lift_some, lift_none, List.map_cons, List.map_nil, List.length_cons, List.length_nil, List.replicate_succ, List.replicate_zero, List.cons_append, List.nil_append, List.append_nil, List.getElem?_cons_zero, List.getElem?_cons_succ, List.set_cons_zero, List.set_cons_succ, Nat.reduceAdd, Nat.reduceSub, Nat.zero_add, Nat.sub_self, decide_eq_true_eq,
  add_ii, sub_ii, neg_i, mul_r, mul_l, div_s, mod_s, eq_ii, ne_ii, eq_bb, ne_bb, lt_ii, gt_ii, le_ii, ge_ii, len_l, len_t, int_i, int_b, abs_i, max_ii, min_ii, tuple_l, ix_l, ix_t, tr_b, Nat.reduceLeDiff, if_true, if_false, Option.map_some, Option.bind_some, reduceIte, Int.reduceLT, Int.reduceNeg, Int.reduceMul, Nat.reduceLT, Nat.le_refl, LINE, Bool.false_eq_true, Bool.not_true, Bool.not_false, Bool.true_eq_false, mTryR, mRaise, mCallE, mDefE, R.bind_ex, Int.reduceEq, e_number_number, e_number_truth, e_number_text, e_number_list, e_truth_number, e_truth_truth, e_truth_text, e_truth_list, e_text_number, e_text_truth, e_text_text, e_text_list, e_list_number, e_list_truth, e_list_text, e_list_list, is_bool_n, is_bool_t, is_bool_s, is_bool_l, is_int_n, is_int_t, is_str_s, is_str_n, is_tuple_l])
local macro_rules | `(tactic| walk_at "ev*") => `(tactic| try simp -implicitDefEqProofs only [mDef, mSeq, mIf, mT, mTr, mOp, mUn, mVar, mC, mCall, mCons, mNil, mRet, mSkip, mAsg, mSl, mPart, mNoPart, mAndT, mOrT, mNotT, mAnd, mOr, mNot, mIfE, mChain, mIs, mIs2, mOf, mNew, mCallF, mM1, mM0, mIxM, mLenM, mApp, mSetM, mSetIx, mAug, mFrz, mForS, mRng1, mRng2, mItems, setV_zn, setV_zv, setV_zo, setV_succ, setM, frz, setT2, mBk, mCt, mNo, 
  DL.bind_ok, DL.bind_no, DL.bind_ite, lift_some, lift_none, List.map_cons, List.map_nil, List.length_cons, List.length_nil, List.replicate_succ, List.replicate_zero, List.cons_append, List.nil_append, List.append_nil, List.getElem?_cons_zero, List.getElem?_cons_succ, List.set_cons_zero, List.set_cons_succ, Nat.reduceAdd, Nat.reduceSub, Nat.zero_add, Nat.sub_self, decide_eq_true_eq,
  add_ii, sub_ii, neg_i, mul_r, mul_l, div_s, mod_s, eq_ii, ne_ii, eq_bb, ne_bb, lt_ii, gt_ii, le_ii, ge_ii, len_l, len_t, int_i, int_b, abs_i, max_ii, min_ii, tuple_l, ix_l, ix_t, tr_b, Nat.reduceLeDiff, if_true, if_false, Option.map_some, Option.bind_some, reduceIte, Int.reduceLT, Int.reduceNeg, Int.reduceMul, Nat.reduceLT, Nat.le_refl, LINE, Bool.false_eq_true, Bool.not_true, Bool.not_false, Bool.true_eq_false, mTryR, mRaise, mCallE, mDefE, R.bind_ex, Int.reduceEq, e_number_number, e_number_truth, e_number_text, e_number_list, e_truth_number, e_truth_truth, e_truth_text, e_truth_list, e_text_number, e_text_truth, e_text_text, e_text_list, e_list_number, e_list_truth, e_list_text, e_list_list, is_bool_n, is_bool_t, is_bool_s, is_bool_l, is_int_n, is_int_t, is_str_s, is_str_n, is_tuple_l, *])
theorem lay_of {k : Kd} {x : D} (h : Vk k x) : x.canLay0 = true ∧ x.depth ≤ 1 ∧ PyData.eqv x .none = false := by
  cases h with
  | n h => exact ⟨rfl, Nat.zero_le _, rfl⟩
  | t b => exact ⟨rfl, Nat.zero_le _, rfl⟩
  | s h a =>
    rename_i l
    refine ⟨SeqAt.canLay_of_shaped (sh_S fun c hc => ?_), by show 0 ≤ 1; decide, rfl⟩
    have := a c hc
    unfold AL at this
    simp only [List.mem_cons, List.not_mem_nil, or_false] at this
    omega
  | l h a =>
    rename_i ns
    have z := sh_ints ns
    have z : (PyData.canLay0 (.tuple (ns.map .int)) && decide ((PyData.tuple (ns.map .int)).depth ≤ 64)) = true := z
    rw [Bool.and_eq_true] at z
    refine ⟨z.1, ?_, rfl⟩
    have q : ∀ ns : List Int, PyData.depthAll (ns.map .int) = 0 := by
      intro ns
      induction ns with
      | nil => rfl
      | cons n ns ih => show max (PyData.depth (.int n)) (PyData.depthAll (ns.map .int)) = 0; rw [ih]; rfl
    show PyData.depthAll (ns.map .int) + 1 ≤ 1
    rw [q]
    decide
theorem noneIn {k : Kd} {x y : D} (h : Vk k x) (h' : Vk k y) : dInG .none (.list [x, y]) = some (.bool false) := by
  obtain ⟨a1, a2, a3⟩ := lay_of h
  obtain ⟨b1, b2, b3⟩ := lay_of h'
  have s : SeqAt.shaped (.list [x, y]) = true := by
    show ((x.canLay0 && (y.canLay0 && true)) && decide (max x.depth (max y.depth 0) + 1 ≤ 64)) = true
    rw [a1, b1]
    simp
    omega
  show (if (SeqAt.shaped .none && (SeqAt.shaped (.list [x, y]) && decide (PyData.depth .none ≤ 60))) = true then some (PyData.bool ([x, y].any fun z => PyData.eqv z .none)) else none) = _
  rw [s]
  simp [a3, b3, SeqAt.shaped, PyData.depth, PyData.canLay0]
theorem res_eq {nm : Str} {n : Nat} {mf : List D → R D} {xs : List D} {z : D} {δ : Dl} (h : ((getT d_NUMBER_ACTIONS nm).or ((getT d_TEXT_ACTIONS nm).or (getT d_LIST_ACTIONS nm))).bind (getT acts__result) = some (n, mf)) (hl : xs.length = n) (hm : mf xs = .ok z δ) : m__result [.str nm, .list xs] = .ok z [] := by
  have e : starD n mf (.list xs) = some z := by
    show (if xs.length = n then (match mf xs with | .ok z _ => some z | _ => none) else none) = _
    rw [if_pos hl, hm]
  have e0 : b__result [.val (.str nm), .val (.list xs), .non] = .ok (.rt z) [.val (.str nm), .val (.list xs), .non] := by
    unfold b__result mDispJ mDisp
    simp only [List.getElem?_cons_zero, List.getElem?_cons_succ, h, e]
  unfold m__result
  show R.bind (b__result [.val (.str nm), .val (.list xs), .non]) _ = _
  rw [e0]
  rfl
theorem app_eq {nm kd : Str} {ks x y z : D} {b : Bool} {δ' : Dl} (h1 : m_is_component [.str nm] = .ok (.bool true) []) (h2 : dIn (.str nm) c_CHOICES = some (.bool false)) (h3 : dInG .none (.list [x, y]) = some (.bool false)) (h4 : m__result [.str nm, .list [x, y]] = .ok z [])
    (h5 : dGetK d_SIGNATURES (.str nm) = some (.tuple [ks, .str kd])) (h6 : m_is_value [.str kd, z] = .ok (.bool b) δ') : m_apply [.str nm, .list [x, y]] = .ok (if b then z else .none) [] := by
  have e7 : atI [ks, PyData.str kd] 1 = some (.str kd) := rfl
  unfold m_apply b_apply
  iterate 8 ((try simp only [h1, h2, h3, h4, h5, h6, e7, truthD]); walk_at "ev")
  cases b <;> rfl
/-! ### is it a value -/
theorem limit_c : dNeg c_NUMBER_LIMIT = some (.int (-1000000)) := rfl
theorem isn (i : Int) : m_is_number [.int i] = .ok (.bool (decide (-1000000 ≤ i) && decide (i ≤ 1000000))) [] := by
  unfold m_is_number b_is_number
  iterate 4 ((try simp only [limit_c, truthD]); walk_at "ev")
  by_cases h : -1000000 ≤ i <;> simp [h] <;> rfl
theorem isv_n (i : Int) : m_is_value [.str "number", .int i] = .ok (.bool (decide (-1000000 ≤ i) && decide (i ≤ 1000000))) [] := by
  have e := isn i
  unfold m_is_value b_is_value
  iterate 3 ((try simp only [e]); walk_at "ev")
theorem isv_t (b : Bool) : m_is_value [.str "truth", .bool b] = .ok (.bool true) [] := by
  unfold m_is_value b_is_value
  iterate 3 walk_at "ev"
theorem isl {ns : List Int} (h : ns.length ≤ 12) : m_is_list [.tuple (ns.map .int)] = .ok (.bool ((ns.map fun i => decide (-1000000 ≤ i) && decide (i ≤ 1000000)).all id)) [] := by
  have e1 : ((12 : Int) < ((ns.map PyData.int).length : Int)) = False := eq_false (by rw [List.length_map]; omega)
  have e2 : mLcS [1] (mItems (mVar 0)) (setV 1) mYes b_is_list_E1 [.val (.tuple (ns.map .int)), .non] = .ok ((ns.map fun i => decide (-1000000 ≤ i) && decide (i ≤ 1000000)).map .bool) [.val (.tuple (ns.map .int)), .non] := by
    have z := lcS_map (j := 1) (it := mItems (mVar 0)) (e := b_is_list_E1) (δ := [.val (.tuple (ns.map .int)), .non]) (δ' := [.val (.tuple (ns.map .int)), .non]) (items := ns.map .int) (fun d => match d with | .int i => .bool (decide (-1000000 ≤ i) && decide (i ≤ 1000000)) | _ => .none) rfl (by simp) rfl (by rw [List.length_map]; omega) (fun x hx => by
      obtain ⟨i, hi, rfl⟩ := List.mem_map.mp hx
      have e := isn i
      unfold b_is_list_E1
      iterate 2 ((try simp only [e]); walk_at "ev"))
    rw [z, List.map_map, List.map_map]
    rfl
  have e3 := all_l (ns.map fun i => decide (-1000000 ≤ i) && decide (i ≤ 1000000))
  unfold m_is_list b_is_list
  iterate 6 ((try simp only [e1, e2, e3, truthD]); walk_at "ev")
theorem isv_l {ns : List Int} (h : ns.length ≤ 12) : ∃ b, m_is_value [.str "list", .tuple (ns.map .int)] = .ok (.bool b) [] := by
  have e := isl h
  refine ⟨(ns.map fun i => decide (-1000000 ≤ i) && decide (i ≤ 1000000)).all id, ?_⟩
  unfold m_is_value b_is_value
  iterate 6 ((try simp only [e, truthD]); walk_at "ev")
theorem AL_lt : ∀ c ∈ AL, c < 1000 := by decide
/-! ### the ten -/
theorem z_ni (i : Int) : dNe (.int i) (.int i) = some (.bool false) := by rw [ne_ii]; simp
theorem z_nb (b : Bool) : dNe (.bool b) (.bool b) = some (.bool false) := by cases b <;> rfl
theorem z_no : dNe .none .none = some (.bool false) := rfl
theorem z_nt (ns : List Int) : dNe (.tuple (ns.map .int)) (.tuple (ns.map .int)) = some (.bool false) := by rw [DL.ne_T]; simp
theorem z_if {b : Bool} {z : D} (h : dNe z z = some (.bool false)) : dNe (if b then z else .none) (if b then z else .none) = some (.bool false) := by
  cases b
  · exact z_no
  · exact h
theorem zip_lc (A B : D) : ∀ (ns ms : List Int) (o2 o3 : Option D), ∃ o2' o3', mLc [2, 3] (setT2 (setV 2) (setV 3)) mYes b__zip_add_E1 (zipD (ns.map .int) (ms.map .int)) [.val A, .val B, cO o2, cO o3] = .ok ((List.zipWith (· + ·) ns ms).map .int) [.val A, .val B, cO o2', cO o3']
  | [], ms, o2, o3 => ⟨o2, o3, by cases ms <;> rfl⟩
  | _ :: _, [], o2, o3 => ⟨o2, o3, rfl⟩
  | n :: ns, m :: ms, o2, o3 => by
    obtain ⟨p2, p3, ih⟩ := zip_lc A B ns ms (some (.int n)) (some (.int m))
    refine ⟨p2, p3, ?_⟩
    have e : zipD ((n :: ns).map .int) ((m :: ms).map .int) = .tuple [.int n, .int m] :: zipD (ns.map .int) (ms.map .int) := rfl
    have w : wipeD [.val A, .val B, cO o2, cO o3] [2, 3] = [.val A, .val B, .non, .non] := rfl
    have g : setT2 (setV 2) (setV 3) (.tuple [.int n, .int m]) [.val A, .val B, .non, .non] = some [.val A, .val B, .val (.int n), .val (.int m)] := rfl
    have f : b__zip_add_E1 [.val A, .val B, .val (.int n), .val (.int m)] = .ok (.int (n + m)) [.val A, .val B, .val (.int n), .val (.int m)] := rfl
    have v : noVar [.val A, .val B, .val (.int n), .val (.int m)] = true := rfl
    have ih : mLc [2, 3] (setT2 (setV 2) (setV 3)) mYes b__zip_add_E1 (zipD (ns.map .int) (ms.map .int)) [.val A, .val B, .val (.int n), .val (.int m)] = _ := ih
    rw [e, mLc, w, g]
    simp only [mYes, noex_ok, DL.bind_ok, if_true, f, v, ih]
    rfl
theorem zipW_comm : ∀ ns ms : List Int, List.zipWith (· + ·) ns ms = List.zipWith (· + ·) ms ns
  | [], ms => by cases ms <;> rfl
  | _ :: _, [] => rfl
  | n :: ns, m :: ms => by rw [List.zipWith_cons_cons, List.zipWith_cons_cons, zipW_comm ns ms, Int.add_comm]
theorem zip_act {ns ms : List Int} (h : ns.length ≤ 12) (h' : ms.length ≤ 12) : m__zip_add [.tuple (ns.map .int), .tuple (ms.map .int)] = .ok (.tuple ((List.zipWith (· + ·) ns ms).map .int)) [] := by
  obtain ⟨p2, p3, e⟩ := zip_lc (.tuple (ns.map .int)) (.tuple (ms.map .int)) ns ms none none
  have e : mLc [2, 3] (setT2 (setV 2) (setV 3)) mYes b__zip_add_E1 (zipD (ns.map .int) (ms.map .int)) [.val (.tuple (ns.map .int)), .val (.tuple (ms.map .int)), .non, .non] = _ := e
  have hl : (zipD (ns.map PyData.int) (ms.map .int)).length ≤ 16777216 := by rw [zip_len, List.length_map, List.length_map]; omega
  have e2 : mLcS [2, 3] (mZip (mVar 0) (mVar 1)) (setT2 (setV 2) (setV 3)) mYes b__zip_add_E1 [.val (.tuple (ns.map .int)), .val (.tuple (ms.map .int)), .non, .non] = .ok ((List.zipWith (· + ·) ns ms).map .int) [.val (.tuple (ns.map .int)), .val (.tuple (ms.map .int)), .non, .non] := by
    show (if (true && decide ((zipD (ns.map PyData.int) (ms.map .int)).length ≤ LINE)) = true then R.bind (mLc [2, 3] (setT2 (setV 2) (setV 3)) mYes b__zip_add_E1 (zipD (ns.map .int) (ms.map .int)) [.val (.tuple (ns.map .int)), .val (.tuple (ms.map .int)), .non, .non]) _ else .no) = _
    rw [if_pos (by rw [Bool.true_and]; exact decide_eq_true hl), e]
    rfl
  unfold m__zip_add b__zip_add
  iterate 4 ((try simp only [e2]); walk_at "ev")
def Cm (nm : Str) (k : Kd) : Prop := ∀ x y, Vk k x → Vk k y → ∃ z, m_apply [.str nm, .list [x, y]] = .ok z [] ∧ m_apply [.str nm, .list [y, x]] = .ok z [] ∧ dNe z z = some (.bool false)
theorem cm_of {nm kd : Str} {k : Kd} {ks : D} {mf : List D → R D} (h1 : m_is_component [.str nm] = .ok (.bool true) []) (h2 : dIn (.str nm) c_CHOICES = some (.bool false)) (h5 : dGetK d_SIGNATURES (.str nm) = some (.tuple [ks, .str kd]))
    (h : ((getT d_NUMBER_ACTIONS nm).or ((getT d_TEXT_ACTIONS nm).or (getT d_LIST_ACTIONS nm))).bind (getT acts__result) = some (2, mf))
    (hm : ∀ x y, Vk k x → Vk k y → ∃ z b, mf [x, y] = .ok z [] ∧ mf [y, x] = .ok z [] ∧ m_is_value [.str kd, z] = .ok (.bool b) [] ∧ dNe z z = some (.bool false)) : Cm nm k := by
  intro x y hx hy
  obtain ⟨z, b, m1, m2, m3, m4⟩ := hm x y hx hy
  exact ⟨_, app_eq h1 h2 (noneIn hx hy) (res_eq h rfl m1) h5 m3, app_eq h1 h2 (noneIn hy hx) (res_eq h rfl m2) h5 m3, z_if m4⟩
theorem cm_add : Cm "add" .n := cm_of (kd := "number") (ks := .tuple [.str "number", .str "number"]) (mf := m__add) (by kernel_rfl) (by kernel_rfl) (by kernel_rfl) (by kernel_rfl) fun x y hx hy => by
  cases hx
  cases hy
  rename_i i h j h'
  exact ⟨.int (i + j), _, rfl, by rw [Int.add_comm]; rfl, isv_n _, z_ni _⟩
theorem cm_both : Cm "both" .t := cm_of (kd := "truth") (ks := .tuple [.str "truth", .str "truth"]) (mf := m__both) (by kernel_rfl) (by kernel_rfl) (by kernel_rfl) (by kernel_rfl) fun x y hx hy => by
  cases hx
  cases hy
  rename_i a b
  cases a <;> cases b <;> exact ⟨.bool _, _, rfl, rfl, isv_t _, z_nb _⟩
theorem cm_either : Cm "either" .t := cm_of (kd := "truth") (ks := .tuple [.str "truth", .str "truth"]) (mf := m__either) (by kernel_rfl) (by kernel_rfl) (by kernel_rfl) (by kernel_rfl) fun x y hx hy => by
  cases hx
  cases hy
  rename_i a b
  cases a <;> cases b <;> exact ⟨.bool _, _, rfl, rfl, isv_t _, z_nb _⟩
theorem cm_equal : Cm "equal" .n := cm_of (kd := "truth") (ks := .tuple [.str "number", .str "number"]) (mf := m__equal) (by kernel_rfl) (by kernel_rfl) (by kernel_rfl) (by kernel_rfl) fun x y hx hy => by
  cases hx
  cases hy
  rename_i i h j h'
  refine ⟨.bool (i == j), _, rfl, ?_, isv_t _, z_nb _⟩
  show R.ok (PyData.bool (j == i)) [] = _
  congr 2
  exact BEq.comm
theorem cm_max : Cm "max" .n := cm_of (kd := "number") (ks := .tuple [.str "number", .str "number"]) (mf := m__max) (by kernel_rfl) (by kernel_rfl) (by kernel_rfl) (by kernel_rfl) fun x y hx hy => by
  cases hx
  cases hy
  rename_i i h j h'
  refine ⟨.int (if j > i then j else i), _, rfl, ?_, isv_n _, z_ni _⟩
  show R.ok (PyData.int (if i > j then i else j)) [] = _
  congr 2
  split <;> split <;> omega
theorem cm_min : Cm "min" .n := cm_of (kd := "number") (ks := .tuple [.str "number", .str "number"]) (mf := m__min) (by kernel_rfl) (by kernel_rfl) (by kernel_rfl) (by kernel_rfl) fun x y hx hy => by
  cases hx
  cases hy
  rename_i i h j h'
  refine ⟨.int (if j < i then j else i), _, rfl, ?_, isv_n _, z_ni _⟩
  show R.ok (PyData.int (if i < j then i else j)) [] = _
  congr 2
  split <;> split <;> omega
theorem cm_mul : Cm "mul" .n := cm_of (kd := "number") (ks := .tuple [.str "number", .str "number"]) (mf := m__mul) (by kernel_rfl) (by kernel_rfl) (by kernel_rfl) (by kernel_rfl) fun x y hx hy => by
  cases hx
  cases hy
  rename_i i h j h'
  have e1 : dMul (.int i) (.int j) = some (.int (i * j)) := mul_r (by have := h'.1; omega) (by have := h'.2; omega)
  have e2 : dMul (.int j) (.int i) = some (.int (j * i)) := mul_r (by have := h.1; omega) (by have := h.2; omega)
  refine ⟨.int (i * j), _, ?_, ?_, isv_n _, z_ni _⟩
  · unfold m__mul b__mul
    iterate 2 ((try simp only [e1]); walk_at "ev")
  · unfold m__mul b__mul
    rw [Int.mul_comm i j]
    iterate 2 ((try simp only [e2]); walk_at "ev")
theorem cm_same_list : Cm "same_list" .l := cm_of (kd := "truth") (ks := .tuple [.str "list", .str "list"]) (mf := m__same_list) (by kernel_rfl) (by kernel_rfl) (by kernel_rfl) (by kernel_rfl) fun x y hx hy => by
  cases hx
  cases hy
  rename_i l h a m h' b
  have e1 := eq_T l m
  have e2 := eq_T m l
  have e3 : decide (m = l) = decide (l = m) := by by_cases q : l = m <;> simp [q, Ne.symm, eq_comm]
  rw [e3] at e2
  refine ⟨.bool (decide (l = m)), _, ?_, ?_, isv_t _, z_nb _⟩
  · unfold m__same_list b__same_list
    iterate 2 ((try simp only [e1]); walk_at "ev")
  · unfold m__same_list b__same_list
    iterate 2 ((try simp only [e2]); walk_at "ev")
theorem cm_same_text : Cm "same_text" .s := cm_of (kd := "truth") (ks := .tuple [.str "text", .str "text"]) (mf := m__same_text) (by kernel_rfl) (by kernel_rfl) (by kernel_rfl) (by kernel_rfl) fun x y hx hy => by
  cases hx
  cases hy
  rename_i l h a m h' b
  have al : ∀ c ∈ l, c < 1000 := fun c hc => AL_lt c (a c hc)
  have bl : ∀ c ∈ m, c < 1000 := fun c hc => AL_lt c (b c hc)
  have e1 := eq_S al bl
  have e2 := eq_S bl al
  have e3 : decide (m = l) = decide (l = m) := by by_cases q : l = m <;> simp [q, Ne.symm, eq_comm]
  rw [e3] at e2
  refine ⟨.bool (decide (l = m)), _, ?_, ?_, isv_t _, z_nb _⟩
  · unfold m__same_text b__same_text
    iterate 2 ((try simp only [e1]); walk_at "ev")
  · unfold m__same_text b__same_text
    iterate 2 ((try simp only [e2]); walk_at "ev")
theorem cm_zip_add : Cm "zip_add" .l := cm_of (kd := "list") (ks := .tuple [.str "list", .str "list"]) (mf := m__zip_add) (by kernel_rfl) (by kernel_rfl) (by kernel_rfl) (by kernel_rfl) fun x y hx hy => by
  cases hx
  cases hy
  rename_i l h a m h' b
  obtain ⟨bb, hb⟩ := isv_l (ns := List.zipWith (· + ·) l m) (by rw [List.length_zipWith]; omega)
  exact ⟨_, bb, zip_act h h', by rw [zip_act h' h, zipW_comm], hb, z_nt _⟩
end K5
end Part_PD

section Part_PF
set_option Elab.async false
set_option linter.all false
set_option maxRecDepth 100000
set_option autoImplicit false
set_option maxHeartbeats 2000000
namespace K5
open PySem PySem.Spec PyProof.Rows L2 DL SX
local macro_rules | `(tactic| walk_at "ev") => `(tactic| try simp -implicitDefEqProofs only [mDef, mSeq, mIf, mT, mTr, mOp, mUn, mVar, mC, mCall, mCons, mNil, mRet, mSkip, mAsg, mSl, mPart, mNoPart, mAndT, mOrT, mNotT, mAnd, mOr, mNot, mIfE, mChain, mIs, mIs2, mOf, mNew, mCallF, mM1, mM0, mIxM, mLenM, mApp, mSetM, mSetIx, mAug, mFrz, mForS, mRng1, mRng2, mItems, setV_zn, setV_zv, setV_zo, setV_succ, setM, frz, setT2, mBk, mCt, mNo, 
  DL.bind_ok, DL.bind_no, DL.bind_ite, lift_some, lift_none, List.map_cons, List.map_nil, List.length_cons, List.length_nil, List.replicate_succ, List.replicate_zero, List.cons_append, List.nil_append, List.append_nil, List.getElem?_cons_zero, List.getElem?_cons_succ, List.set_cons_zero, List.set_cons_succ, Nat.reduceAdd, Nat.reduceSub, Nat.zero_add, Nat.sub_self, decide_eq_true_eq,
  add_ii, sub_ii, neg_i, mul_r, mul_l, div_s, mod_s, eq_ii, ne_ii, eq_bb, ne_bb, lt_ii, gt_ii, le_ii, ge_ii, len_l, len_t, int_i, int_b, abs_i, max_ii, min_ii, tuple_l, ix_l, ix_t, tr_b, Nat.reduceLeDiff, if_true, if_false, Option.map_some, Option.bind_some, reduceIte, Int.reduceLT, Int.reduceNeg, Int.reduceMul, Nat.reduceLT, Nat.le_refl, LINE, Bool.false_eq_true, Bool.not_true, Bool.not_false, Bool.true_eq_false, mTryR, mRaise, mCallE, mDefE, R.bind_ex, Int.reduceEq, is_bool_t])
local macro_rules | `(tactic| walk_at "ev*") => `(tactic| try simp -implicitDefEqProofs only [mDef, mSeq, mIf, mT, mTr, mOp, mUn, mVar, mC, mCall, mCons, mNil, mRet, mSkip, mAsg, mSl, mPart, mNoPart, mAndT, mOrT, mNotT, mAnd, mOr, mNot, mIfE, mChain, mIs, mIs2, mOf, mNew, mCallF, mM1, mM0, mIxM, mLenM, mApp, mSetM, mSetIx, mAug, mFrz, mForS, mRng1, mRng2, mItems, setV_zn, setV_zv, setV_zo, setV_succ, setM, frz, setT2, mBk, mCt, mNo, 
  DL.bind_ok, DL.bind_no, DL.bind_ite, lift_some, lift_none, List.map_cons, List.map_nil, List.length_cons, List.length_nil, List.replicate_succ, List.replicate_zero, List.cons_append, List.nil_append, List.append_nil, List.getElem?_cons_zero, List.getElem?_cons_succ, List.set_cons_zero, List.set_cons_succ, Nat.reduceAdd, Nat.reduceSub, Nat.zero_add, Nat.sub_self, decide_eq_true_eq,
  add_ii, sub_ii, neg_i, mul_r, mul_l, div_s, mod_s, eq_ii, ne_ii, eq_bb, ne_bb, lt_ii, gt_ii, le_ii, ge_ii, len_l, len_t, int_i, int_b, abs_i, max_ii, min_ii, tuple_l, ix_l, ix_t, tr_b, Nat.reduceLeDiff, if_true, if_false, Option.map_some, Option.bind_some, reduceIte, Int.reduceLT, Int.reduceNeg, Int.reduceMul, Nat.reduceLT, Nat.le_refl, LINE, Bool.false_eq_true, Bool.not_true, Bool.not_false, Bool.true_eq_false, mTryR, mRaise, mCallE, mDefE, R.bind_ex, Int.reduceEq, is_bool_t, *])
def CM : List Str := "add" :: "both" :: "either" :: "equal" :: "max" :: "min" :: "mul" :: "same_list" :: "same_text" :: "zip_add" :: []
def isC (z : Str) : Bool := CM.any (· == z)
theorem all_of {α β : Type} {f g : α → β} {l : List α} (h : l.map f = l.map g) : ∀ a ∈ l, f a = g a := List.map_inj_left.mp h
theorem f_comm : ∀ r ∈ LIB, m_is_commutative [.str r.1] = .ok (.bool (isC r.1)) [] := all_of (g := fun r : Str × Str × Str => R.ok (PyData.bool (isC r.1)) []) (by kernel_rfl)
theorem f_in : ∀ r ∈ LIB, dIn (.str r.1) (.list (CM.map .str)) = some (.bool (isC r.1)) := all_of (g := fun r : Str × Str × Str => some (PyData.bool (isC r.1))) (by kernel_rfl)
theorem f_len : ∀ r ∈ LIB, dLen [.str r.1] = some (.int r.1.length) := all_of (g := fun r : Str × Str × Str => some (PyData.int r.1.length)) (by kernel_rfl)
theorem f_pos : ∀ r ∈ LIB, 0 < r.1.length := by
  have : LIB.all (fun r => decide (0 < r.1.length)) = true := by kernel_rfl
  intro r hr
  exact of_decide_eq_true (List.all_eq_true.mp this r hr)
/-! ### the wrong names -/
def okw (w : Str) : Bool := decide (w.length ≤ 1000000) && SeqAt.shaped (.str w)
def okd : Option D → Bool
  | some (.str w) => okw w
  | _ => false
theorem okd_ok {o : Option D} (h : okd o = true) : ∃ w, o = some (.str w) ∧ okw w = true := by
  unfold okd at h
  split at h
  · exact ⟨_, rfl, h⟩
  · cases h
def okR (n : Str) (k : Nat) : Bool := match dSl (.str n) none (some (k : Int)), dSl (.str n) (some ((k : Int) + 1)) none, dIx (.str n) (.int k), dSl (.str n) (some (k : Int)) none with
  | some p, some q, some m, some s => okd (dAdd p q) && (okd ((dAdd p m).bind fun x => dAdd x s) && okd ((dAdd p (.str "A")).bind fun x => dAdd x q))
  | _, _, _, _ => false
theorem okR_all : LIB.all (fun r => (List.range r.1.length).all fun k => okR r.1 k) = true := by kernel_rfl
theorem cuts {r : Str × Str × Str} (hr : r ∈ LIB) {k : Nat} (hk : k < r.1.length) : ∃ (p q m s x y : D) (w0 w1 w2 : Str), dSl (.str r.1) none (some (k : Int)) = some p ∧ dSl (.str r.1) (some ((k : Int) + 1)) none = some q ∧ dIx (.str r.1) (.int k) = some m ∧ dSl (.str r.1) (some (k : Int)) none = some s ∧
    dAdd p q = some (.str w0) ∧ dAdd p m = some x ∧ dAdd x s = some (.str w1) ∧ dAdd p (.str "A") = some y ∧ dAdd y q = some (.str w2) ∧ okw w0 = true ∧ okw w1 = true ∧ okw w2 = true := by
  have h := List.all_eq_true.mp (List.all_eq_true.mp okR_all r hr) k (List.mem_range.mpr hk)
  unfold okR at h
  split at h
  · rename_i p q m s e1 e2 e3 e4
    rw [Bool.and_eq_true, Bool.and_eq_true] at h
    obtain ⟨w0, g0, o0⟩ := okd_ok h.1
    obtain ⟨w1, g1, o1⟩ := okd_ok h.2.1
    obtain ⟨w2, g2, o2⟩ := okd_ok h.2.2
    cases q1 : dAdd p m with
    | none => rw [q1] at g1; cases g1
    | some x =>
      cases q2 : dAdd p (.str "A") with
      | none => rw [q2] at g2; cases g2
      | some y =>
        rw [q1] at g1
        rw [q2] at g2
        exact ⟨p, q, m, s, x, y, w0, w1, w2, e1, e2, e3, e4, g0, q1, g1, q2, g2, o0, o1, o2⟩
  · cases h
def W3 : List Str := "input" :: "constant" :: "" :: "choose" :: " add" :: []
theorem w3_ok : ∀ w ∈ W3, okw w = true := by
  have : W3.all okw = true := by kernel_rfl
  exact List.all_eq_true.mp this
/-! ### behind the names -/
def NM : List D := LIB.map fun r => .str r.1
theorem names_eq : m_names [] = .ok (.list NM) [] := by kernel_rfl
theorem nm_eq : dEq (.list NM) (.list NM) = some (.bool true) := by kernel_rfl
theorem nm_in (w : Str) : dIn (.str w) (.list NM) = some (.bool (LIB.any fun r => r.1 == w)) := by kernel_rfl
theorem sig_keys : d_SIGNATURES.map (·.1) = LIB.map (·.1) := by kernel_rfl
theorem wn_of {w : Str} (hw : okw w = true) (h : LIB.any (fun r => r.1 == w) = false) : Wn w := by
  unfold okw at hw
  rw [Bool.and_eq_true] at hw
  refine ⟨?_, of_decide_eq_true hw.1, hw.2⟩
  unfold getT
  have : d_SIGNATURES.find? (fun p => p.1 == w) = none := by
    rw [List.find?_eq_none]
    intro p hp
    have m : p.1 ∈ LIB.map (·.1) := by rw [← sig_keys]; exact List.mem_map_of_mem hp
    obtain ⟨r, hr, e⟩ := List.mem_map.mp m
    have z := List.any_eq_false.mp h r hr
    rw [e] at z
    exact z
  rw [this]
  rfl
theorem ne_asked {w : Str} (h : SeqAt.shaped (.str w) = true) : dNe (.tuple [.str "unknown", .str w, .bool true]) (.tuple [.str "unknown", .str w, .bool true]) = some (.bool false) := by
  have c : PyData.canLay0 (.str w) = true := SeqAt.canLay_of_shaped h
  have s : SeqAt.shaped (.tuple [.str "unknown", .str w, .bool true]) = true := by
    show ((PyData.canLay0 (.str "unknown") && (PyData.canLay0 (.str w) && true)) && decide ((PyData.tuple [.str "unknown", .str w, .bool true]).depth ≤ 64)) = true
    rw [c, show PyData.canLay0 (.str "unknown") = true from by kernel_rfl]
    rfl
  have e : PyData.eqv (.tuple [.str "unknown", .str w, .bool true]) (.tuple [.str "unknown", .str w, .bool true]) = true := by
    show (("unknown" : Str) == "unknown" && ((w == w) && (true && true))) = true
    simp
  unfold dNe
  rw [s, e]
  rfl
theorem known_lc {e : M D} {δ : Dl} (he : e = mOp dIx (mVar 12) (mC (.int 0))) (h2 : δ[2]? = some (.val (.list (LIB.map rowD)))) (hl : δ.length = 13) (hn : noVar δ = true) : mLcS [12] (mItems (mVar 2)) (setV 12) mYes e δ = .ok NM δ := by
  subst he
  have z := lcS_map (j := 12) (it := mItems (mVar 2)) (e := mOp dIx (mVar 12) (mC (.int 0))) (δ := δ) (δ' := δ) (items := LIB.map rowD) (fun d => match d with | .list (x :: _) => x | _ => .none) (by
    unfold mItems mVar
    rw [h2]
    rfl) (by omega) hn (by rw [List.length_map]; decide) (fun x hx => by
    obtain ⟨r, hr, rfl⟩ := List.mem_map.mp hx
    unfold mOp mVar mC
    rw [List.getElem?_set_self (by omega)]
    rfl)
  rw [z, List.map_map]
  rfl
theorem tail_ok {sc f sw c3 c5 c6 c7 : D} {c9 c10 c11 : Cell} {w : Str} (hw : okw w = true) (h9 : c9.isVar = false) (h10 : c10.isVar = false) (h11 : c11.isVar = false) : ∃ δ', (mSeq (mIf (mT (mOp dIn (mVar 8) (mOf (mLcS [12] (mItems (mVar 2)) (setV 12) mYes b_law_E1))))
    (mRet (mC (.bool true)))
    mSkip)
    (mSeq (mForS (mRng1 (mC (.int 4))) (setV 9)
    b_law_L1)
    (mRet (mOp dEq (mCallF m_names mNil) (mOf (mLcS [12] (mItems (mVar 2)) (setV 12) mYes b_law_E2)))))) [.val sc, .val f, .val (.list (LIB.map rowD)), .val c3, .val sw, .val c5, .val c6, .val c7, .val (.str w), c9, c10, c11, .non] = .ok (.rt (.bool true)) δ' := by
  have nv : ∀ c9 : Cell, c9.isVar = false → noVar [.val sc, .val f, .val (.list (LIB.map rowD)), .val c3, .val sw, .val c5, .val c6, .val c7, .val (.str w), c9, c10, c11, .non] = true := fun c9 h9 => by
    simp [noVar, iv_val, iv_non, h9, h10, h11]
  have k1 := known_lc (e := b_law_E1) rfl (δ := [.val sc, .val f, .val (.list (LIB.map rowD)), .val c3, .val sw, .val c5, .val c6, .val c7, .val (.str w), c9, c10, c11, .non]) rfl rfl (nv c9 h9)
  have k2 := nm_in w
  cases hb : LIB.any (fun r => r.1 == w) with
  | true =>
    rw [hb] at k2
    iterate 3 ((try simp only [k1, k2]); walk_at "ev")
    exact ⟨_, rfl⟩
  | false =>
    rw [hb] at k2
    have hW := wn_of hw hb
    have e5 := ne_asked hW.sh
    have e6 : dTup [.str "unknown", .str w, .bool true] = some (.tuple [.str "unknown", .str w, .bool true]) := tup_ok (by show 3 ≤ 16777216; decide)
    obtain ⟨δ', e, c9', rfl, h9'⟩ := mFor_inv (g := setV 9) (body := b_law_L1) (items := rng 0 4) (fun _ δ => ∃ c9 : Cell, δ = [.val sc, .val f, .val (.list (LIB.map rowD)), .val c3, .val sw, .val c5, .val c6, .val c7, .val (.str w), c9, c10, c11, .non] ∧ c9.isVar = false) (fun i x δ hx I => by
      obtain ⟨rfl, hi⟩ := rng_at hx
      obtain ⟨c, rfl, hc⟩ := I
      have e4 := asked_no hW (k := 0 + (i : Int)) (by omega) hi
      refine ⟨[.val sc, .val f, .val (.list (LIB.map rowD)), .val c3, .val sw, .val c5, .val c6, .val c7, .val (.str w), .val (.int (0 + i)), c10, c11, .non], ?_, _, ?_, .val (.int (0 + i)), rfl, rfl⟩
      · exact setV_s (by show some c.isVar = _; rw [hc])
      · unfold b_law_L1
        iterate 5 ((try simp only [e4, e5, e6]); walk_at "ev")) ⟨c9, rfl, h9⟩
    have k3 := known_lc (e := b_law_E2) rfl (δ := [.val sc, .val f, .val (.list (LIB.map rowD)), .val c3, .val sw, .val c5, .val c6, .val c7, .val (.str w), c9', c10, c11, .non]) rfl rfl (nv c9' h9')
    have b4 : big 4 = true := by decide
    iterate 6 ((try simp only [k1, k2, k3, e, b4, names_eq, nm_eq]); walk_at "ev")
    exact ⟨_, rfl⟩
end K5
end Part_PF

section Part_PG
set_option Elab.async false
set_option linter.all false
set_option maxRecDepth 100000
set_option autoImplicit false
set_option maxHeartbeats 2000000
namespace K5
open PySem PySem.Spec PyProof.Rows L2 DL SX
noncomputable def b_tail : M Fl := (mSeq (mIf (mT (mOp dIn (mVar 8) (mOf (mLcS [12] (mItems (mVar 2)) (setV 12) mYes b_law_E1))))
    (mRet (mC (.bool true)))
    mSkip)
    (mSeq (mForS (mRng1 (mC (.int 4))) (setV 9)
    b_law_L1)
    (mRet (mOp dEq (mCallF m_names mNil) (mOf (mLcS [12] (mItems (mVar 2)) (setV 12) mYes b_law_E2))))))
noncomputable def b_mid : M Fl := (mSeq (mAsg (setV 6) (mOp dMod (mOp dDiv (mVar 1) (mC (.int 57))) (mCall dLen (mCons (mOp dIx (mVar 3) (mC (.int 0))) mNil))))
    (mSeq (mAsg (setV 7) (mOp dMod (mOp dDiv (mVar 1) (mC (.int 1000))) (mC (.int 4))))
    (mSeq (mAsg (setV 8) (mOp dAdd (mSl (mOp dIx (mVar 3) (mC (.int 0))) mNoPart (mPart (mVar 6))) (mSl (mOp dIx (mVar 3) (mC (.int 0))) (mPart (mOp dAdd (mVar 6) (mC (.int 1)))) mNoPart)))
    (mSeq (mIf (mT (mOp dEq (mVar 7) (mC (.int 1))))
    (mAsg (setV 8) (mOp dAdd (mOp dAdd (mSl (mOp dIx (mVar 3) (mC (.int 0))) mNoPart (mPart (mVar 6))) (mOp dIx (mOp dIx (mVar 3) (mC (.int 0))) (mVar 6))) (mSl (mOp dIx (mVar 3) (mC (.int 0))) (mPart (mVar 6)) mNoPart)))
    mSkip)
    (mSeq (mIf (mT (mOp dEq (mVar 7) (mC (.int 2))))
    (mAsg (setV 8) (mOp dAdd (mOp dAdd (mSl (mOp dIx (mVar 3) (mC (.int 0))) mNoPart (mPart (mVar 6))) (mC (.str "A"))) (mSl (mOp dIx (mVar 3) (mC (.int 0))) (mPart (mOp dAdd (mVar 6) (mC (.int 1)))) mNoPart)))
    mSkip)
    (mSeq (mIf (mT (mOp dEq (mVar 7) (mC (.int 3))))
    (mAsg (setV 8) (mOp dIx (mOf (mNew (mCons (mC (.str "input")) (mCons (mC (.str "constant")) (mCons (mC (.str "")) (mCons (mC (.str "choose")) (mCons (mC (.str " add")) mNil))))))) (mOp dMod (mOp dDiv (mVar 1) (mC (.int 4000))) (mC (.int 5)))))
    mSkip)
    b_tail))))))
theorem law_eq : b_law = (mSeq (mAsg (setV 1) (mCall dAbs (mCons (mCallF m__law_cell (mCons (mVar 0) (mCons (mC (.int 0)) mNil))) mNil)))
    (mSeq (mAsg (setV 2) (mCallF m__law_library mNil))
    (mSeq (mAsg (setV 3) (mOp dIx (mVar 2) (mOp dMod (mVar 1) (mC (.int 57)))))
    (mSeq (mAsg (setV 4) (mOf (mNew (mCons (mC (.str "add")) (mCons (mC (.str "both")) (mCons (mC (.str "either")) (mCons (mC (.str "equal")) (mCons (mC (.str "max")) (mCons (mC (.str "min")) (mCons (mC (.str "mul")) (mCons (mC (.str "same_list")) (mCons (mC (.str "same_text")) (mCons (mC (.str "zip_add")) mNil)))))))))))))
    (mSeq (mAsg (setV 5) (mCallE m_is_commutative (mCons (mOp dIx (mVar 3) (mC (.int 0))) mNil)))
    (mSeq (mIf (mOrT (mNotT (mTr (mIs "bool" (mVar 5)))) (mT (mOp dNe (mVar 5) (mOp dIn (mOp dIx (mVar 3) (mC (.int 0))) (mVar 4)))))
    (mRet (mC (.bool false)))
    mSkip)
    (mSeq (mIf (mT (mOp dIn (mOp dIx (mVar 3) (mC (.int 0))) (mVar 4)))
    (mSeq (mAsg (setV 10) (mCallF m__law_value (mCons (mOp dIx (mOp dIx (mVar 3) (mC (.int 1))) (mC (.int 0))) (mCons (mCall dAbs (mCons (mCallF m__law_cell (mCons (mVar 0) (mCons (mC (.int 1)) mNil))) mNil)) mNil))))
    (mSeq (mAsg (setV 11) (mCallF m__law_value (mCons (mOp dIx (mOp dIx (mVar 3) (mC (.int 1))) (mC (.int 1))) (mCons (mCall dAbs (mCons (mCallF m__law_cell (mCons (mVar 0) (mCons (mC (.int 2)) mNil))) mNil)) mNil))))
    (mIf (mT (mOp dNe (mCallE m_apply (mCons (mOp dIx (mVar 3) (mC (.int 0))) (mCons (mOf (mNew (mCons (mVar 10) (mCons (mVar 11) mNil)))) mNil))) (mCallE m_apply (mCons (mOp dIx (mVar 3) (mC (.int 0))) (mCons (mOf (mNew (mCons (mVar 11) (mCons (mVar 10) mNil)))) mNil)))))
    (mRet (mC (.bool false)))
    mSkip)))
    mSkip)
    b_mid))))))) := rfl
local macro_rules | `(tactic| walk_at "ev") => `(tactic| try simp -implicitDefEqProofs only [mDef, mSeq, mIf, mT, mTr, mOp, mUn, mVar, mC, mCall, mCons, mNil, mRet, mSkip, mAsg, mSl, mPart, mNoPart, mAndT, mOrT, mNotT, mAnd, mOr, mNot, mIfE, mChain, mIs, mIs2, mOf, mNew, mCallF, mM1, mM0, mIxM, mLenM, mApp, mSetM, mSetIx, mAug, mFrz, mForS, mRng1, mRng2, mItems, setV_zn, setV_zv, setV_zo, setV_succ, setM, frz, setT2, mBk, mCt, mNo, 
  DL.bind_ok, DL.bind_no, DL.bind_ite, lift_some, lift_none, List.map_cons, List.map_nil, List.length_cons, List.length_nil, List.replicate_succ, List.replicate_zero, List.cons_append, List.nil_append, List.append_nil, List.getElem?_cons_zero, List.getElem?_cons_succ, List.set_cons_zero, List.set_cons_succ, Nat.reduceAdd, Nat.reduceSub, Nat.zero_add, Nat.sub_self, decide_eq_true_eq,
  add_ii, sub_ii, neg_i, mul_r, mul_l, div_s, mod_s, eq_ii, ne_ii, eq_bb, ne_bb, lt_ii, gt_ii, le_ii, ge_ii, len_l, len_t, int_i, int_b, abs_i, max_ii, min_ii, tuple_l, ix_l, ix_t, tr_b, Nat.reduceLeDiff, if_true, if_false, Option.map_some, Option.bind_some, reduceIte, Int.reduceLT, Int.reduceNeg, Int.reduceMul, Nat.reduceLT, Nat.le_refl, LINE, Bool.false_eq_true, Bool.not_true, Bool.not_false, Bool.true_eq_false, mTryR, mRaise, mCallE, mDefE, R.bind_ex, Int.reduceEq, is_bool_t])
local macro_rules | `(tactic| walk_at "ev*") => `(tactic| try simp -implicitDefEqProofs only [mDef, mSeq, mIf, mT, mTr, mOp, mUn, mVar, mC, mCall, mCons, mNil, mRet, mSkip, mAsg, mSl, mPart, mNoPart, mAndT, mOrT, mNotT, mAnd, mOr, mNot, mIfE, mChain, mIs, mIs2, mOf, mNew, mCallF, mM1, mM0, mIxM, mLenM, mApp, mSetM, mSetIx, mAug, mFrz, mForS, mRng1, mRng2, mItems, setV_zn, setV_zv, setV_zo, setV_succ, setM, frz, setT2, mBk, mCt, mNo, 
  DL.bind_ok, DL.bind_no, DL.bind_ite, lift_some, lift_none, List.map_cons, List.map_nil, List.length_cons, List.length_nil, List.replicate_succ, List.replicate_zero, List.cons_append, List.nil_append, List.append_nil, List.getElem?_cons_zero, List.getElem?_cons_succ, List.set_cons_zero, List.set_cons_succ, Nat.reduceAdd, Nat.reduceSub, Nat.zero_add, Nat.sub_self, decide_eq_true_eq,
  add_ii, sub_ii, neg_i, mul_r, mul_l, div_s, mod_s, eq_ii, ne_ii, eq_bb, ne_bb, lt_ii, gt_ii, le_ii, ge_ii, len_l, len_t, int_i, int_b, abs_i, max_ii, min_ii, tuple_l, ix_l, ix_t, tr_b, Nat.reduceLeDiff, if_true, if_false, Option.map_some, Option.bind_some, reduceIte, Int.reduceLT, Int.reduceNeg, Int.reduceMul, Nat.reduceLT, Nat.le_refl, LINE, Bool.false_eq_true, Bool.not_true, Bool.not_false, Bool.true_eq_false, mTryR, mRaise, mCallE, mDefE, R.bind_ex, Int.reduceEq, is_bool_t, *])
theorem mid_ok {sc c3 c5 sw : D} {f : Int} {c10 c11 : Cell} {r : Str × Str × Str} (hf : 0 ≤ f) (hr : r ∈ LIB) (h3 : c3 = rowD r) (h10 : c10.isVar = false) (h11 : c11.isVar = false) : ∃ δ', b_mid [.val sc, .val (.int f), .val (.list (LIB.map rowD)), .val c3, .val sw, .val c5, .non, .non, .non, .non, c10, c11, .non] = .ok (.rt (.bool true)) δ' := by
  subst h3
  have hl := f_len r hr
  have hp := f_pos r hr
  have g0 : dIx (rowD r) (.int 0) = some (.str r.1) := rfl
  obtain ⟨k, hk, hkl⟩ : ∃ k : Nat, f / 57 % (r.1.length : Int) = k ∧ k < r.1.length := by
    have h1 := Int.emod_nonneg (f / 57) (b := (r.1.length : Int)) (by omega)
    have h2 := Int.emod_lt_of_pos (f / 57) (b := (r.1.length : Int)) (by omega)
    exact ⟨(f / 57 % (r.1.length : Int)).toNat, by omega, by omega⟩
  have hm : dMod (.int (f / 57)) (.int (r.1.length : Int)) = some (.int k) := by rw [mod_s (by omega), hk]
  obtain ⟨p, q, m, s, x, y, w0, w1, w2, e1, e2, e3, e4, e5, e6, e7, e8, e9, o0, o1, o2⟩ := cuts hr hkl
  obtain ⟨d, hd, e10⟩ := at_ex (W3.map PyData.str) (i := f / 4000 % 5) (by omega) (by show _ < (5 : Int); omega)
  have e10 : atI [PyData.str "input", .str "constant", .str "", .str "choose", .str " add"] (f / 4000 % 5) = some d := e10
  obtain ⟨w3, hw3, rfl⟩ := List.mem_map.mp hd
  have o3 := w3_ok w3 hw3
  have T : ∀ w, okw w = true → ∃ δ', b_tail [.val sc, .val (.int f), .val (.list (LIB.map rowD)), .val (rowD r), .val sw, .val c5, .val (.int k), .val (.int (f / 1000 % 4)), .val (.str w), .non, c10, c11, .non] = .ok (.rt (.bool true)) δ' := fun w hw => tail_ok hw rfl h10 h11
  unfold b_mid
  have hway : f / 1000 % 4 = 0 ∨ f / 1000 % 4 = 1 ∨ f / 1000 % 4 = 2 ∨ f / 1000 % 4 = 3 := by omega
  rcases hway with hw | hw | hw | hw <;> rw [hw] at T
  · obtain ⟨δ', e⟩ := T w0 o0
    iterate 30 ((try simp only [g0, hl, hm, hw, e1, e2, e3, e4, e5, e6, e7, e8, e9, e10, e]); walk_at "ev")
    exact ⟨_, rfl⟩
  · obtain ⟨δ', e⟩ := T w1 o1
    iterate 30 ((try simp only [g0, hl, hm, hw, e1, e2, e3, e4, e5, e6, e7, e8, e9, e10, e]); walk_at "ev")
    exact ⟨_, rfl⟩
  · obtain ⟨δ', e⟩ := T w2 o2
    iterate 30 ((try simp only [g0, hl, hm, hw, e1, e2, e3, e4, e5, e6, e7, e8, e9, e10, e]); walk_at "ev")
    exact ⟨_, rfl⟩
  · obtain ⟨δ', e⟩ := T w3 o3
    iterate 30 ((try simp only [g0, hl, hm, hw, e1, e2, e3, e4, e5, e6, e7, e8, e9, e10, e]); walk_at "ev")
    exact ⟨_, rfl⟩
def T10 : List (Str × Str × Str) := ("add", "nn", "n") :: ("both", "tt", "t") :: ("either", "tt", "t") :: ("equal", "nn", "t") :: ("max", "nn", "n") :: ("min", "nn", "n") :: ("mul", "nn", "n") :: ("same_list", "ll", "t") :: ("same_text", "ss", "t") :: ("zip_add", "ll", "l") :: []
theorem ten_of {r : Str × Str × Str} (hr : r ∈ LIB) (h : isC r.1 = true) : ∃ k, dIx (.str r.2.1) (.int 0) = some (.str (letter k)) ∧ dIx (.str r.2.1) (.int 1) = some (.str (letter k)) ∧ Cm r.1 k := by
  have e : LIB.filter (fun r => isC r.1) = T10 := by kernel_rfl
  have m : r ∈ LIB.filter (fun r => isC r.1) := List.mem_filter.mpr ⟨hr, h⟩
  rw [e] at m
  unfold T10 at m
  simp only [List.mem_cons, List.not_mem_nil, or_false] at m
  rcases m with rfl | rfl | rfl | rfl | rfl | rfl | rfl | rfl | rfl | rfl
  · exact ⟨.n, by kernel_rfl, by kernel_rfl, cm_add⟩
  · exact ⟨.t, by kernel_rfl, by kernel_rfl, cm_both⟩
  · exact ⟨.t, by kernel_rfl, by kernel_rfl, cm_either⟩
  · exact ⟨.n, by kernel_rfl, by kernel_rfl, cm_equal⟩
  · exact ⟨.n, by kernel_rfl, by kernel_rfl, cm_max⟩
  · exact ⟨.n, by kernel_rfl, by kernel_rfl, cm_min⟩
  · exact ⟨.n, by kernel_rfl, by kernel_rfl, cm_mul⟩
  · exact ⟨.l, by kernel_rfl, by kernel_rfl, cm_same_list⟩
  · exact ⟨.s, by kernel_rfl, by kernel_rfl, cm_same_text⟩
  · exact ⟨.l, by kernel_rfl, by kernel_rfl, cm_zip_add⟩
theorem law_holds : ∀ ns : List Int, ns.length ≤ 63 → ∃ δ, m_law [.list (ns.map .int)] = .ok (.bool true) δ := by
  intro ns hl
  have c0 := cell_eq ns 0
  have c1 := cell_eq ns 1
  have c2 := cell_eq ns 2
  have c0 : m__law_cell [.list (ns.map .int), .int 0] = _ := c0
  have c1 : m__law_cell [.list (ns.map .int), .int 1] = _ := c1
  have c2 : m__law_cell [.list (ns.map .int), .int 2] = _ := c2
  generalize hsc : PyData.list (ns.map .int) = sc at c0 c1 c2 ⊢
  generalize ns.getD 0 0 = v0 at c0
  generalize ns.getD 1 0 = v1 at c1
  generalize ns.getD 2 0 = v2 at c2
  have a0 : (if v0 < 0 then -v0 else v0) = (v0.natAbs : Int) := by split <;> omega
  have a1 : (if v1 < 0 then -v1 else v1) = (v1.natAbs : Int) := by split <;> omega
  have a2 : (if v2 < 0 then -v2 else v2) = (v2.natAbs : Int) := by split <;> omega
  obtain ⟨d, hd, hrow⟩ := at_ex (LIB.map rowD) (i := (v0.natAbs : Int) % 57) (by omega) (by show _ < (57 : Int); omega)
  obtain ⟨r, hr, rfl⟩ := List.mem_map.mp hd
  have g0 : dIx (rowD r) (.int 0) = some (.str r.1) := rfl
  have g1 : dIx (rowD r) (.int 1) = some (.str r.2.1) := rfl
  have fc := f_comm r hr
  have fi := f_in r hr
  have fi : dIn (.str r.1) (.list [.str "add", .str "both", .str "either", .str "equal", .str "max", .str "min", .str "mul", .str "same_list", .str "same_text", .str "zip_add"]) = _ := fi
  have le := lib_eq
  have nb : ∀ b : Bool, dNe (.bool b) (.bool b) = some (.bool false) := z_nb
  unfold m_law
  rw [law_eq]
  cases hC : isC r.1 with
  | false =>
    rw [hC] at fc fi
    obtain ⟨δ', e⟩ := mid_ok (sc := sc) (c5 := .bool false) (sw := .list [.str "add", .str "both", .str "either", .str "equal", .str "max", .str "min", .str "mul", .str "same_list", .str "same_text", .str "zip_add"]) (f := (v0.natAbs : Int)) (c10 := .non) (c11 := .non) (by omega) hr rfl rfl rfl
    iterate 18 ((try simp only [c0, a0, le, hrow, g0, g1, fc, fi, nb, truthD, e]); walk_at "ev")
    exact ⟨_, rfl⟩
  | true =>
    rw [hC] at fc fi
    obtain ⟨k, l0, l1, cm⟩ := ten_of hr hC
    obtain ⟨x, ex, hx⟩ := value_eq k (c := (v1.natAbs : Int)) (by omega)
    obtain ⟨y, ey, hy⟩ := value_eq k (c := (v2.natAbs : Int)) (by omega)
    obtain ⟨z, m1, m2, m3⟩ := cm x y hx hy
    obtain ⟨δ', e⟩ := mid_ok (sc := sc) (c5 := .bool true) (sw := .list [.str "add", .str "both", .str "either", .str "equal", .str "max", .str "min", .str "mul", .str "same_list", .str "same_text", .str "zip_add"]) (f := (v0.natAbs : Int)) (c10 := .val x) (c11 := .val y) (by omega) hr rfl rfl rfl
    iterate 24 ((try simp only [c0, c1, c2, a0, a1, a2, le, hrow, g0, g1, fc, fi, nb, truthD, l0, l1, ex, ey, m1, m2, m3, e]); walk_at "ev")
    exact ⟨_, rfl⟩
end K5
end Part_PG

section Part_K05f
set_option Elab.async false
set_option linter.all false
namespace K5
open PySem PySem.Spec PyProof.Rows L2 DL
end K5
open PySem PySem.W PyProof.Rows in
set_option maxRecDepth 100000 in
set_option maxHeartbeats 0 in
theorem PySem.Challenge.cw_leastfit_k05_unknown_and_commutative_com_holds : PySem.Challenge.rw_leastfit_k05_unknown_and_commutative_com.Holds := by
  w_on; o_law; k_head; (case hw => w_witness2)
  k_fill
  refine' DL.walk_law (l := PySem.Challenge.rw_leastfit_k05_unknown_and_commutative_com) (k := 5) (m := K5.b_law) (st := K5.s_law) (N := K5.N_law) (EC := K5.EC0 _) rfl rfl rfl ⟨rfl, by decide, by decide⟩ (fun w h Y => PySem.W.kIn_of Y) K5.sc_law ?F K5.law_holds
  case F =>
    intro w mg h KX G
    refine' K5.fin ?T
    case T =>
      constructor
      · refine' DL.funX_mk KX G ?a ?l ?c ?k (fun _ _ _ _ _ _ us hl => match us, hl with | [], _ => rfl)
        (case a => k_is); (case l => k_is); (case c => k_is); (case k => k_is)
      · refine' DL.funX_mk KX G ?a ?l ?c ?k (fun _ _ _ _ _ _ us hl => match us, hl with | [_], _ => rfl)
        (case a => k_is); (case l => k_is); (case c => k_is); (case k => k_is)
      · refine' DL.funX_mk KX G ?a ?l ?c ?k (fun _ _ _ _ _ _ us hl => match us, hl with | [_], _ => rfl)
        (case a => k_is); (case l => k_is); (case c => k_is); (case k => k_is)
      · refine' DL.funX_mk KX G ?a ?l ?c ?k (fun _ _ _ _ _ _ us hl => match us, hl with | [_, _], _ => rfl)
        (case a => k_is); (case l => k_is); (case c => k_is); (case k => k_is)
      · refine' DL.funX_mk KX G ?a ?l ?c ?k (fun _ _ _ _ _ _ us hl => match us, hl with | [_], _ => rfl)
        (case a => k_is); (case l => k_is); (case c => k_is); (case k => k_is)
      · refine' DL.funX_mk KX G ?a ?l ?c ?k (fun _ _ _ _ _ _ us hl => match us, hl with | [_, _, _], _ => rfl)
        (case a => k_is); (case l => k_is); (case c => k_is); (case k => k_is)
      · refine' DL.funX_mk KX G ?a ?l ?c ?k (fun _ _ _ _ _ _ us hl => match us, hl with | [_, _], _ => rfl)
        (case a => k_is); (case l => k_is); (case c => k_is); (case k => k_is)
      · refine' DL.funX_mk KX G ?a ?l ?c ?k (fun _ _ _ _ _ _ us hl => match us, hl with | [], _ => rfl)
        (case a => k_is); (case l => k_is); (case c => k_is); (case k => k_is)
      · refine' DL.funX_mk KX G ?a ?l ?c ?k (fun _ _ _ _ _ _ us hl => match us, hl with | [_], _ => rfl)
        (case a => k_is); (case l => k_is); (case c => k_is); (case k => k_is)
      · refine' DL.funX_mk KX G ?a ?l ?c ?k (fun _ _ _ _ _ _ us hl => match us, hl with | [_, _], _ => rfl)
        (case a => k_is); (case l => k_is); (case c => k_is); (case k => k_is)
      · refine' DL.funX_mk KX G ?a ?l ?c ?k (fun _ _ _ _ _ _ us hl => match us, hl with | [_, _], _ => rfl)
        (case a => k_is); (case l => k_is); (case c => k_is); (case k => k_is)
      · refine' DL.funX_mk KX G ?a ?l ?c ?k (fun _ _ _ _ _ _ us hl => match us, hl with | [_, _], _ => rfl)
        (case a => k_is); (case l => k_is); (case c => k_is); (case k => k_is)
      · refine' DL.funX_mk KX G ?a ?l ?c ?k (fun _ _ _ _ _ _ us hl => match us, hl with | [_], _ => rfl)
        (case a => k_is); (case l => k_is); (case c => k_is); (case k => k_is)
      · refine' DL.funX_mk KX G ?a ?l ?c ?k (fun _ _ _ _ _ _ us hl => match us, hl with | [_, _], _ => rfl)
        (case a => k_is); (case l => k_is); (case c => k_is); (case k => k_is)
      · refine' DL.funX_mk KX G ?a ?l ?c ?k (fun _ _ _ _ _ _ us hl => match us, hl with | [_, _], _ => rfl)
        (case a => k_is); (case l => k_is); (case c => k_is); (case k => k_is)
      · refine' DL.funX_mk KX G ?a ?l ?c ?k (fun _ _ _ _ _ _ us hl => match us, hl with | [_], _ => rfl)
        (case a => k_is); (case l => k_is); (case c => k_is); (case k => k_is)
      · refine' DL.funX_mk KX G ?a ?l ?c ?k (fun _ _ _ _ _ _ us hl => match us, hl with | [_], _ => rfl)
        (case a => k_is); (case l => k_is); (case c => k_is); (case k => k_is)
      · refine' DL.funX_mk KX G ?a ?l ?c ?k (fun _ _ _ _ _ _ us hl => match us, hl with | [_, _], _ => rfl)
        (case a => k_is); (case l => k_is); (case c => k_is); (case k => k_is)
      · refine' DL.funX_mk KX G ?a ?l ?c ?k (fun _ _ _ _ _ _ us hl => match us, hl with | [_, _], _ => rfl)
        (case a => k_is); (case l => k_is); (case c => k_is); (case k => k_is)
      · refine' DL.funX_mk KX G ?a ?l ?c ?k (fun _ _ _ _ _ _ us hl => match us, hl with | [_, _], _ => rfl)
        (case a => k_is); (case l => k_is); (case c => k_is); (case k => k_is)
      · refine' DL.funX_mk KX G ?a ?l ?c ?k (fun _ _ _ _ _ _ us hl => match us, hl with | [_, _], _ => rfl)
        (case a => k_is); (case l => k_is); (case c => k_is); (case k => k_is)
      · refine' DL.funX_mk KX G ?a ?l ?c ?k (fun _ _ _ _ _ _ us hl => match us, hl with | [_, _], _ => rfl)
        (case a => k_is); (case l => k_is); (case c => k_is); (case k => k_is)
      · refine' DL.funX_mk KX G ?a ?l ?c ?k (fun _ _ _ _ _ _ us hl => match us, hl with | [_], _ => rfl)
        (case a => k_is); (case l => k_is); (case c => k_is); (case k => k_is)
      · refine' DL.funX_mk KX G ?a ?l ?c ?k (fun _ _ _ _ _ _ us hl => match us, hl with | [_], _ => rfl)
        (case a => k_is); (case l => k_is); (case c => k_is); (case k => k_is)
      · refine' DL.funX_mk KX G ?a ?l ?c ?k (fun _ _ _ _ _ _ us hl => match us, hl with | [_, _], _ => rfl)
        (case a => k_is); (case l => k_is); (case c => k_is); (case k => k_is)
      · refine' DL.funX_mk KX G ?a ?l ?c ?k (fun _ _ _ _ _ _ us hl => match us, hl with | [_, _], _ => rfl)
        (case a => k_is); (case l => k_is); (case c => k_is); (case k => k_is)
      · refine' DL.funX_mk KX G ?a ?l ?c ?k (fun _ _ _ _ _ _ us hl => match us, hl with | [_, _], _ => rfl)
        (case a => k_is); (case l => k_is); (case c => k_is); (case k => k_is)
      · refine' DL.funX_mk KX G ?a ?l ?c ?k (fun _ _ _ _ _ _ us hl => match us, hl with | [_], _ => rfl)
        (case a => k_is); (case l => k_is); (case c => k_is); (case k => k_is)
      · refine' DL.funX_mk KX G ?a ?l ?c ?k (fun _ _ _ _ _ _ us hl => match us, hl with | [_], _ => rfl)
        (case a => k_is); (case l => k_is); (case c => k_is); (case k => k_is)
      · refine' DL.funX_mk KX G ?a ?l ?c ?k (fun _ _ _ _ _ _ us hl => match us, hl with | [_, _], _ => rfl)
        (case a => k_is); (case l => k_is); (case c => k_is); (case k => k_is)
      · refine' DL.funX_mk KX G ?a ?l ?c ?k (fun _ _ _ _ _ _ us hl => match us, hl with | [_], _ => rfl)
        (case a => k_is); (case l => k_is); (case c => k_is); (case k => k_is)
      · refine' DL.funX_mk KX G ?a ?l ?c ?k (fun _ _ _ _ _ _ us hl => match us, hl with | [_, _], _ => rfl)
        (case a => k_is); (case l => k_is); (case c => k_is); (case k => k_is)
      · refine' DL.funX_mk KX G ?a ?l ?c ?k (fun _ _ _ _ _ _ us hl => match us, hl with | [_, _], _ => rfl)
        (case a => k_is); (case l => k_is); (case c => k_is); (case k => k_is)
      · refine' DL.funX_mk KX G ?a ?l ?c ?k (fun _ _ _ _ _ _ us hl => match us, hl with | [_, _], _ => rfl)
        (case a => k_is); (case l => k_is); (case c => k_is); (case k => k_is)
      · refine' DL.funX_mk KX G ?a ?l ?c ?k (fun _ _ _ _ _ _ us hl => match us, hl with | [_], _ => rfl)
        (case a => k_is); (case l => k_is); (case c => k_is); (case k => k_is)
      · refine' DL.funX_mk KX G ?a ?l ?c ?k (fun _ _ _ _ _ _ us hl => match us, hl with | [_], _ => rfl)
        (case a => k_is); (case l => k_is); (case c => k_is); (case k => k_is)
      · refine' DL.funX_mk KX G ?a ?l ?c ?k (fun _ _ _ _ _ _ us hl => match us, hl with | [_, _], _ => rfl)
        (case a => k_is); (case l => k_is); (case c => k_is); (case k => k_is)
      · refine' DL.funX_mk KX G ?a ?l ?c ?k (fun _ _ _ _ _ _ us hl => match us, hl with | [_, _], _ => rfl)
        (case a => k_is); (case l => k_is); (case c => k_is); (case k => k_is)
      · refine' DL.funX_mk KX G ?a ?l ?c ?k (fun _ _ _ _ _ _ us hl => match us, hl with | [_, _], _ => rfl)
        (case a => k_is); (case l => k_is); (case c => k_is); (case k => k_is)
      · refine' DL.funX_mk KX G ?a ?l ?c ?k (fun _ _ _ _ _ _ us hl => match us, hl with | [_, _], _ => rfl)
        (case a => k_is); (case l => k_is); (case c => k_is); (case k => k_is)
      · refine' DL.funX_mk KX G ?a ?l ?c ?k (fun _ _ _ _ _ _ us hl => match us, hl with | [_], _ => rfl)
        (case a => k_is); (case l => k_is); (case c => k_is); (case k => k_is)
      · refine' DL.funX_mk KX G ?a ?l ?c ?k (fun _ _ _ _ _ _ us hl => match us, hl with | [_, _], _ => rfl)
        (case a => k_is); (case l => k_is); (case c => k_is); (case k => k_is)
      · refine' DL.funX_mk KX G ?a ?l ?c ?k (fun _ _ _ _ _ _ us hl => match us, hl with | [_], _ => rfl)
        (case a => k_is); (case l => k_is); (case c => k_is); (case k => k_is)
      · refine' DL.funX_mk KX G ?a ?l ?c ?k (fun _ _ _ _ _ _ us hl => match us, hl with | [_], _ => rfl)
        (case a => k_is); (case l => k_is); (case c => k_is); (case k => k_is)
      · refine' DL.funX_mk KX G ?a ?l ?c ?k (fun _ _ _ _ _ _ us hl => match us, hl with | [_], _ => rfl)
        (case a => k_is); (case l => k_is); (case c => k_is); (case k => k_is)
      · refine' DL.funX_mk KX G ?a ?l ?c ?k (fun _ _ _ _ _ _ us hl => match us, hl with | [_, _], _ => rfl)
        (case a => k_is); (case l => k_is); (case c => k_is); (case k => k_is)
      · refine' DL.funX_mk KX G ?a ?l ?c ?k (fun _ _ _ _ _ _ us hl => match us, hl with | [_, _], _ => rfl)
        (case a => k_is); (case l => k_is); (case c => k_is); (case k => k_is)
      · refine' DL.funX_mk KX G ?a ?l ?c ?k (fun _ _ _ _ _ _ us hl => match us, hl with | [_], _ => rfl)
        (case a => k_is); (case l => k_is); (case c => k_is); (case k => k_is)
      · refine' DL.funX_mk KX G ?a ?l ?c ?k (fun _ _ _ _ _ _ us hl => match us, hl with | [_], _ => rfl)
        (case a => k_is); (case l => k_is); (case c => k_is); (case k => k_is)
      · refine' DL.funX_mk KX G ?a ?l ?c ?k (fun _ _ _ _ _ _ us hl => match us, hl with | [_], _ => rfl)
        (case a => k_is); (case l => k_is); (case c => k_is); (case k => k_is)
      · refine' DL.funX_mk KX G ?a ?l ?c ?k (fun _ _ _ _ _ _ us hl => match us, hl with | [_, _], _ => rfl)
        (case a => k_is); (case l => k_is); (case c => k_is); (case k => k_is)
      · refine' DL.funX_mk KX G ?a ?l ?c ?k (fun _ _ _ _ _ _ us hl => match us, hl with | [_], _ => rfl)
        (case a => k_is); (case l => k_is); (case c => k_is); (case k => k_is)
      · refine' DL.funX_mk KX G ?a ?l ?c ?k (fun _ _ _ _ _ _ us hl => match us, hl with | [_], _ => rfl)
        (case a => k_is); (case l => k_is); (case c => k_is); (case k => k_is)
      · refine' DL.funX_mk KX G ?a ?l ?c ?k (fun _ _ _ _ _ _ us hl => match us, hl with | [_], _ => rfl)
        (case a => k_is); (case l => k_is); (case c => k_is); (case k => k_is)
      · refine' DL.funX_mk KX G ?a ?l ?c ?k (fun _ _ _ _ _ _ us hl => match us, hl with | [_], _ => rfl)
        (case a => k_is); (case l => k_is); (case c => k_is); (case k => k_is)
      · refine' DL.funX_mk KX G ?a ?l ?c ?k (fun _ _ _ _ _ _ us hl => match us, hl with | [_, _], _ => rfl)
        (case a => k_is); (case l => k_is); (case c => k_is); (case k => k_is)
      · refine' DL.funX_mk KX G ?a ?l ?c ?k (fun _ _ _ _ _ _ us hl => match us, hl with | [_], _ => rfl)
        (case a => k_is); (case l => k_is); (case c => k_is); (case k => k_is)
      · refine' DL.funX_mk KX G ?a ?l ?c ?k (fun _ _ _ _ _ _ us hl => match us, hl with | [_], _ => rfl)
        (case a => k_is); (case l => k_is); (case c => k_is); (case k => k_is)
      · refine' DL.funX_mk KX G ?a ?l ?c ?k (fun _ _ _ _ _ _ us hl => match us, hl with | [_], _ => rfl)
        (case a => k_is); (case l => k_is); (case c => k_is); (case k => k_is)
      · refine' DL.funX_mk KX G ?a ?l ?c ?k (fun _ _ _ _ _ _ us hl => match us, hl with | [_, _], _ => rfl)
        (case a => k_is); (case l => k_is); (case c => k_is); (case k => k_is)
      · refine' DL.funX_mk KX G ?a ?l ?c ?k (fun _ _ _ _ _ _ us hl => match us, hl with | [_], _ => rfl)
        (case a => k_is); (case l => k_is); (case c => k_is); (case k => k_is)
      · refine' DL.funX_mk KX G ?a ?l ?c ?k (fun _ _ _ _ _ _ us hl => match us, hl with | [_, _], _ => rfl)
        (case a => k_is); (case l => k_is); (case c => k_is); (case k => k_is)
      · refine' DL.funX_mk KX G ?a ?l ?c ?k (fun _ _ _ _ _ _ us hl => match us, hl with | [_, _], _ => rfl)
        (case a => k_is); (case l => k_is); (case c => k_is); (case k => k_is)
      · refine' DL.funX_mk KX G ?a ?l ?c ?k (fun _ _ _ _ _ _ us hl => match us, hl with | [_, _, _], _ => rfl)
        (case a => k_is); (case l => k_is); (case c => k_is); (case k => k_is)
      · refine' DL.funX_mk KX G ?a ?l ?c ?k (fun _ _ _ _ _ _ us hl => match us, hl with | [_], _ => rfl)
        (case a => k_is); (case l => k_is); (case c => k_is); (case k => k_is)
      · refine' DL.funX_mk KX G ?a ?l ?c ?k (fun _ _ _ _ _ _ us hl => match us, hl with | [_], _ => rfl)
        (case a => k_is); (case l => k_is); (case c => k_is); (case k => k_is)
      · refine' DL.funX_mk KX G ?a ?l ?c ?k (fun _ _ _ _ _ _ us hl => match us, hl with | [_], _ => rfl)
        (case a => k_is); (case l => k_is); (case c => k_is); (case k => k_is)
      · refine' DL.funX_mk KX G ?a ?l ?c ?k (fun _ _ _ _ _ _ us hl => match us, hl with | [_, _], _ => rfl)
        (case a => k_is); (case l => k_is); (case c => k_is); (case k => k_is)
      · refine' DL.funX_mk KX G ?a ?l ?c ?k (fun _ _ _ _ _ _ us hl => match us, hl with | [_, _], _ => rfl)
        (case a => k_is); (case l => k_is); (case c => k_is); (case k => k_is)
      · refine' DL.funX_mk KX G ?a ?l ?c ?k (fun _ _ _ _ _ _ us hl => match us, hl with | [_], _ => rfl)
        (case a => k_is); (case l => k_is); (case c => k_is); (case k => k_is)
      · refine' DL.funX_mk KX G ?a ?l ?c ?k (fun _ _ _ _ _ _ us hl => match us, hl with | [_], _ => rfl)
        (case a => k_is); (case l => k_is); (case c => k_is); (case k => k_is)
      · refine' DL.funX_mk KX G ?a ?l ?c ?k (fun _ _ _ _ _ _ us hl => match us, hl with | [_, _], _ => rfl)
        (case a => k_is); (case l => k_is); (case c => k_is); (case k => k_is)
      · refine' DL.funX_mk KX G ?a ?l ?c ?k (fun _ _ _ _ _ _ us hl => match us, hl with | [_], _ => rfl)
        (case a => k_is); (case l => k_is); (case c => k_is); (case k => k_is)
      · refine' DL.con_tup KX G ?a ?l ?d ?z
        (case a => k_is); (case l => k_is); (case d => rfl); (case z => decide)
      · refine' DL.con_tup KX G ?a ?l ?d ?z
        (case a => k_is); (case l => k_is); (case d => rfl); (case z => decide)
      · refine' DL.con_str KX G ?a
        (case a => k_is)
      · refine' DL.con_int KX G ?a
        (case a => k_is)
      · refine' DL.con_int KX G ?a
        (case a => k_is)
      · refine' DL.con_str KX G ?a
        (case a => k_is)
      · refine' DL.con_int KX G ?a
        (case a => k_is)
      · refine' DL.tab_funs (ks := K5.d_LIST_ACTIONS.map (·.1)) KX G ?g ?l ?lit ?low ?hd
        (case g => k_is); (case l => k_is); (case lit => first | kernel_rfl | rfl); (case low => decide); (case hd => first | kernel_rfl | rfl)
      · refine' DL.tab_funs (ks := K5.d_NUMBER_ACTIONS.map (·.1)) KX G ?g ?l ?lit ?low ?hd
        (case g => k_is); (case l => k_is); (case lit => first | kernel_rfl | rfl); (case low => decide); (case hd => first | kernel_rfl | rfl)
      · refine' DL.tab_data (ks := K5.d_SIGNATURES.map (·.1)) KX G ?g ?l ?lit ?low ?hd
        (case g => k_is); (case l => k_is); (case lit => first | kernel_rfl | rfl); (case low => decide); (case hd => first | kernel_rfl | rfl)
      · refine' DL.tab_funs (ks := K5.d_TEXT_ACTIONS.map (·.1)) KX G ?g ?l ?lit ?low ?hd
        (case g => k_is); (case l => k_is); (case lit => first | kernel_rfl | rfl); (case low => decide); (case hd => first | kernel_rfl | rfl)
      · refine' PySem.W.mg_none_of KX G ?a
        (case a => k_is)
      · refine' PySem.W.mg_none_of KX G ?a
        (case a => k_is)
      · refine' PySem.W.mg_none_of KX G ?a
        (case a => k_is)
      · refine' PySem.W.mg_none_of KX G ?a
        (case a => k_is)
      · refine' PySem.W.mg_none_of KX G ?a
        (case a => k_is)
      · refine' PySem.W.mg_none_of KX G ?a
        (case a => k_is)
      · refine' PySem.W.mg_none_of KX G ?a
        (case a => k_is)
      · refine' PySem.W.mg_none_of KX G ?a
        (case a => k_is)
      · refine' PySem.W.mg_none_of KX G ?a
        (case a => k_is)
      · refine' PySem.W.mg_none_of KX G ?a
        (case a => k_is)
      · refine' PySem.W.mg_none_of KX G ?a
        (case a => k_is)
      · refine' PySem.W.mg_none_of KX G ?a
        (case a => k_is)
      · refine' PySem.W.mg_none_of KX G ?a
        (case a => k_is)
      · refine' PySem.W.mg_none_of KX G ?a
        (case a => k_is)
      · refine' PySem.W.mg_none_of KX G ?a
        (case a => k_is)
      · refine' PySem.W.mg_of KX G ?a
        (case a => k_is)
      · refine' DL.clsF_mk ?l ?hbm ?sa ?exC ?tyC ?kC ?ga ?gg ?hd ?ha ?hn ?ht ?hm ?nof
        (case l => k_is); (case hbm => rfl); (case sa => k_is); (case exC => k_is); (case tyC => k_is); (case kC => k_is); (case ga => k_is); (case gg => k_is); (case hd => k_is); (case ha => k_is); (case hn => k_is); (case ht => k_is); (case hm => k_is); (case nof => k_is)
      · intro w2 base2
        refine' DL.errX_mk DL.TStr KX G ?F ?a ?b ?tI ?l ?ci ?S ?hsup ?hp ?har ?lc ?hvs ?hfile ?htop ?lcc ?hcls ?hmro ?hsg ?hst ?hsu ?hB ?hev ?hse ?pd1 ?pd2 ?hsw ?hb ?he ?hT
        (case F => (refine' DL.clsF_mk ?cl ?hbm ?sa ?exC ?tyC ?kC ?ga ?gg ?hd ?ha ?hn ?ht ?hm ?nof; (case cl => k_is); (case hbm => rfl); (case sa => k_is); (case exC => k_is); (case tyC => k_is); (case kC => k_is); (case ga => k_is); (case gg => k_is); (case hd => k_is); (case ha => k_is); (case hn => k_is); (case ht => k_is); (case hm => k_is); (case nof => k_is)))
        (case a => k_is); (case b => k_is); (case tI => k_is); (case l => k_is); (case ci => k_is)
        (case S => exact NdefX.nscope_by (by decide +kernel)); (case hsup => rfl); (case hp => rfl); (case har => rfl); (case lc => k_is); (case hvs => rfl)
        (case hfile => first | rfl | decide +kernel); (case htop => first | rfl | decide +kernel); (case lcc => k_is); (case hcls => k_is); (case hmro => k_is); (case hsg => k_is); (case hst => k_is)
        (case hsu => first | kernel_rfl | rfl); (case hB => k_is); (case hev => exact fun env => ⟨_, rfl⟩); (case hse => exact fun env => rfl); (case pd1 => decide); (case pd2 => decide); (case hsw => exact fun env => rfl)
        (case hb => exact fun us hl => match us, hl with | [_, _], _ => rfl)
        (case he => exact fun X _ _ _ hN hv => DL.fstr_heS (by decide) X hN hv (by decide) (by decide)); (case hT => exact DL.tStr_ok)
      · refine' PySem.W.exm_ref ?h1 ?hdct ?ht ?h4
        (case h1 => k_is); (case hdct => k_is); (case ht => k_is); (case h4 => k_is)
      · refine' ⟨_, PySem.W.mg_of KX G ?a, DL.kit_ref ?h1 ?h2 ?h3 ?hne⟩
        (case a => k_is); (case h1 => k_is); (case h2 => k_is); (case h3 => k_is); (case hne => first | rfl | decide +kernel)
end Part_K05f
