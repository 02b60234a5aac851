import PyProof.Rows.All
import Wide.All
import OpenK.AllK
import Wide.FinOn
import HandS.ForMost
import HandS.Walk
import HandS.Evl
import HandS.IsInst
import HandS.Flow
import HandS.Style
import HandS.Wide
import HandS.Exc
import HandS.ExcOwn
import HandS.TryOnly
import HandS.TryMany
import HandS.WordsExc
import HandS.TupAny
import HandS.TupLe
import HandS.StrMore
import HandS.Codes
import KE.KExcSuper
import HandS.Nested
import HandS.ExcInit
import KE.KExcIs
import HandS.ExcField
import HandS.ExcIs
import HandS.FStr
import HandS.Star
import HandS.More
import HandS.HeadHook3
import HandS.CallLocal
import HandS.Conv
import PyProof.Rows.InDataRows
import HandS.Zip
import HandS.Deep
import KE.KRevSl
import KE.DataMinMax
import PyProof.StrBlock2
import PyProof.SliceStr2
import HandS.TupMul
import KE.GoesMore
import KE.GoesZip
import PySem.Challenge.RW_leastfit_k07_tuples_that_are_no_programs
import KE.DataEq
section Part_DLa
set_option Elab.async false
set_option linter.all false
set_option maxRecDepth 100000
set_option autoImplicit false
set_option maxHeartbeats 2000000
/-! DL: a mirror of a def over data (PyData), and what a term of the layer's rules must hold for it -/
namespace DL
open PySem L2 Evl
abbrev D := PyData

mutual
/-- a value that stands for data; a list of the data is one that the heap tells whole -/
inductive Dq (K : PySem.W.Frag) (H : Hp) : V → D → Prop
  | non : Dq K H .non .none
  | bl (b : Bool) : Dq K H (.bl b) (.bool b)
  | int (i : Int) : Dq K H (.int i) (.int i)
  | str (x : Str) : Dq K H (.str x) (.str x)
  | lst {a : Addr} {xs : List V} {ds : List D} : SqL K H a xs → DqAll K H xs ds → Dq K H (.ref a) (.list ds)
  | tup {a : Addr} {xs : List V} {ds : List D} : SqT K H a xs → DqAll K H xs ds → Dq K H (.ref a) (.tuple ds)
inductive DqAll (K : PySem.W.Frag) (H : Hp) : List V → List D → Prop
  | nil : DqAll K H [] []
  | cons {v : V} {vs : List V} {d : D} {ds : List D} : Dq K H v d → DqAll K H vs ds → DqAll K H (v :: vs) (d :: ds)
end

/-! ### data that stands in a heap -/
section
variable {K : PySem.W.Frag} {H H' : Hp}
mutual
theorem dp_ex (e : Ex H H') : ∀ (d : D) (v : V), Dq K H v d → Dq K H' v d
  | .none, _, h => by cases h; exact .non
  | .bool b, _, h => by cases h; exact .bl b
  | .int i, _, h => by cases h; exact .int i
  | .str x, _, h => by cases h; exact .str x
  | .list ds, _, h => by
    cases h with
    | lst hs ha => exact .lst (ex_l e hs) (dpAll_ex e ds _ ha)
  | .tuple ds, _, h => by
    cases h with
    | tup hs ha => exact .tup (ex_t e hs) (dpAll_ex e ds _ ha)
  | .dict _, _, h => by cases h
theorem dpAll_ex (e : Ex H H') : ∀ (ds : List D) (vs : List V), DqAll K H vs ds → DqAll K H' vs ds
  | [], _, h => by cases h; exact .nil
  | d :: ds, _, h => by
    cases h with
    | cons h1 h2 => exact .cons (dp_ex e d _ h1) (dpAll_ex e ds _ h2)
end
mutual
theorem dq_dp : ∀ (d : D) (v : V), Dq K H v d → Dp K H v d
  | .none, _, h => by cases h; exact .non
  | .bool b, _, h => by cases h; exact .bl b
  | .int i, _, h => by cases h; exact .int i
  | .str x, _, h => by cases h; exact .str x
  | .list ds, _, h => by
    cases h with
    | lst hs ha => exact .lst hs (dqAll_dp ds _ ha)
  | .tuple ds, _, h => by
    cases h with
    | tup hs ha => exact .tup hs (dqAll_dp ds _ ha)
  | .dict _, _, h => by cases h
theorem dqAll_dp : ∀ (ds : List D) (vs : List V), DqAll K H vs ds → DpAll K H vs ds
  | [], _, h => by cases h; exact .nil
  | d :: ds, _, h => by
    cases h with
    | cons h1 h2 => exact .cons (dq_dp d _ h1) (dqAll_dp ds _ h2)
end
theorem dpa_len : ∀ {vs : List V} {ds : List D}, DqAll K H vs ds → vs.length = ds.length
  | _, _, .nil => rfl
  | _, _, .cons _ h => by simp [dpa_len h]
theorem dpa_get : ∀ {vs : List V} {ds : List D} {i : Nat} {d : D}, DqAll K H vs ds → ds[i]? = some d → ∃ v, vs[i]? = some v ∧ Dq K H v d
  | _, _, 0, d, .cons h _, e => by
    simp at e
    subst e
    exact ⟨_, rfl, h⟩
  | _, _, i + 1, d, .cons _ h, e => by
    obtain ⟨v, h1, h2⟩ := dpa_get (i := i) h (by simpa using e)
    exact ⟨v, by simpa using h1, h2⟩
  | _, _, _, _, .nil, e => by simp at e
theorem dpa_get' : ∀ {vs : List V} {ds : List D} {i : Nat} {v : V}, DqAll K H vs ds → vs[i]? = some v → ∃ d, ds[i]? = some d ∧ Dq K H v d
  | _, _, 0, d, .cons h _, e => by
    simp at e
    subst e
    exact ⟨_, rfl, h⟩
  | _, _, i + 1, d, .cons _ h, e => by
    obtain ⟨v, h1, h2⟩ := dpa_get' (i := i) h (by simpa using e)
    exact ⟨v, by simpa using h1, h2⟩
  | _, _, _, _, .nil, e => by simp at e
theorem dpa_of : ∀ {vs : List V} {ds : List D}, vs.length = ds.length → (∀ (i : Nat) v d, vs[i]? = some v → ds[i]? = some d → Dq K H v d) → DqAll K H vs ds
  | [], [], _, _ => .nil
  | [], _ :: _, e, _ => by simp at e
  | _ :: _, [], e, _ => by simp at e
  | v :: vs, d :: ds, e, h => .cons (h 0 v d rfl rfl) (dpa_of (by simpa using e) fun i v d h1 h2 => h (i + 1) v d (by simpa using h1) (by simpa using h2))
theorem dpa_app : ∀ {vs ws : List V} {ds es : List D}, DqAll K H vs ds → DqAll K H ws es → DqAll K H (vs ++ ws) (ds ++ es)
  | _, _, _, _, .nil, h => h
  | _, _, _, _, .cons h t, h2 => .cons h (dpa_app t h2)
theorem dpa_drop : ∀ {vs : List V} {ds : List D} (n : Nat), DqAll K H vs ds → DqAll K H (vs.drop n) (ds.drop n)
  | _, _, 0, h => h
  | _, _, _ + 1, .nil => .nil
  | _, _, n + 1, .cons _ t => dpa_drop n t
theorem dpa_take : ∀ {vs : List V} {ds : List D} (n : Nat), DqAll K H vs ds → DqAll K H (vs.take n) (ds.take n)
  | _, _, 0, _ => .nil
  | _, _, _ + 1, .nil => .nil
  | _, _, n + 1, .cons h t => .cons h (dpa_take n t)
theorem dpa_set {v : V} {d : D} (q : Dq K H v d) : ∀ {vs : List V} {ds : List D} (n : Nat), DqAll K H vs ds → DqAll K H (vs.set n v) (ds.set n d)
  | _, _, _, .nil => .nil
  | _, _, 0, .cons _ t => .cons q t
  | _, _, n + 1, .cons h t => .cons h (dpa_set q n t)
theorem dpa_rev : ∀ {vs : List V} {ds : List D}, DqAll K H vs ds → DqAll K H vs.reverse ds.reverse
  | _, _, .nil => .nil
  | _, _, .cons h t => by
    simp only [List.reverse_cons]
    exact dpa_app (dpa_rev t) (.cons h .nil)
theorem dpa_one {v : V} {d : D} (h : Dq K H v d) : DqAll K H [v] [d] := .cons h .nil
/-- ints, texts, truths -/
theorem dpa_ints : ∀ {vs : List V} {ns : List Int}, DqAll K H vs (ns.map PyData.int) → vs = ns.map V.int
  | _, [], h => by cases h; rfl
  | _, n :: ns, h => by
    cases h with
    | cons h1 h2 =>
      cases h1
      rw [dpa_ints h2]
      rfl
theorem dpa_strs : ∀ {vs : List V} {ns : List Str}, DqAll K H vs (ns.map PyData.str) → vs = ns.map V.str
  | _, [], h => by cases h; rfl
  | _, n :: ns, h => by
    cases h with
    | cons h1 h2 =>
      cases h1
      rw [dpa_strs h2]
      rfl
theorem dpa_bls : ∀ {vs : List V} {ns : List Bool}, DqAll K H vs (ns.map PyData.bool) → vs = ns.map V.bl
  | _, [], h => by cases h; rfl
  | _, n :: ns, h => by
    cases h with
    | cons h1 h2 =>
      cases h1
      rw [dpa_bls h2]
      rfl
theorem ints_dpa : ∀ {ns : List Int}, DqAll K H (ns.map V.int) (ns.map PyData.int)
  | [] => .nil
  | n :: ns => .cons (.int n) ints_dpa
theorem strs_dpa : ∀ {ns : List Str}, DqAll K H (ns.map V.str) (ns.map PyData.str)
  | [] => .nil
  | n :: ns => .cons (.str n) strs_dpa
end

/-! ### cells: what a mirror knows of a slot -/
inductive Cell where
  | non
  | val (d : D)
  /-- a list of one's own (b = false), of a caller (b = true): it may be changed -/
  | var (b : Bool) (ds : List D)
abbrev Dl := List Cell

structure SR (K : PySem.W.Frag) (C0 H0 : Hp) (B : List (Nat × Addr)) (C H : Hp) (σ : L2.St) (δ : Dl) : Prop where
  len : σ.length = δ.length
  c0 : Ex C0 C
  ch : Ex C H
  fr : ∀ a o, H0 a = some o → (∀ p ∈ B, p.2 ≠ a) → H a = some o
  nw : ∀ a, H0 a ≠ none → C0 a = none → C a = none
  val : ∀ (i : Nat) (d : D), δ[i]? = some (.val d) → ∃ v, σ[i]? = some (some v) ∧ Dq K C v d
  own : ∀ (i : Nat) (ds : List D), δ[i]? = some (.var false ds) → ∃ l xs, σ[i]? = some (some (.ref l)) ∧ H0 l = none ∧ C l = none ∧ H l = some (.lst xs) ∧ DqAll K C xs ds
  bor : ∀ p ∈ B, ∃ ds xs, δ[p.1]? = some (.var true ds) ∧ σ[p.1]? = some (some (.ref p.2)) ∧ C p.2 = none ∧ H p.2 = some (.lst xs) ∧ DqAll K C xs ds
  btr : ∀ (i : Nat) (ds : List D), δ[i]? = some (.var true ds) → ∃ l, (i, l) ∈ B
  bd1 : ∀ p ∈ B, ∀ q ∈ B, p.2 = q.2 → p.1 = q.1
  bd2 : ∀ p ∈ B, ∀ q ∈ B, p.1 = q.1 → p.2 = q.2
  bH0 : ∀ p ∈ B, H0 p.2 ≠ none
  odis : ∀ (i j : Nat) (ds ds' : List D), i ≠ j → δ[i]? = some (.var false ds) → δ[j]? = some (.var false ds') → ∀ l, σ[i]? = some (some (.ref l)) → σ[j]? ≠ some (some (.ref l))

section
variable {K : PySem.W.Frag} {C0 H0 C H C2 H2 : Hp} {B : List (Nat × Addr)} {σ : L2.St} {δ : Dl}
/-- nothing is changed, something may be new -/
theorem SR.step (S : SR K C0 H0 B C H σ δ) (e1 : Ex C C2) (e2 : Ex H H2) (e3 : Ex C2 H2) (n : ∀ a, H a ≠ none → C a = none → C2 a = none) : SR K C0 H0 B C2 H2 σ δ where
  len := S.len
  c0 := S.c0.trans e1
  ch := e3
  fr := fun a o h hb => e2 a o (S.fr a o h hb)
  nw := fun a h1 h2 => by
    refine n a ?_ (S.nw a h1 h2)
    by_cases hb : ∃ p ∈ B, p.2 = a
    · obtain ⟨p, hp, rfl⟩ := hb
      obtain ⟨_, _, _, _, _, h, _⟩ := S.bor p hp
      rw [h]
      exact fun z => nomatch z
    · cases q : H0 a with
      | none => exact absurd q h1
      | some o =>
        rw [S.fr a o q fun p hp e => hb ⟨p, hp, e⟩]
        exact fun z => nomatch z
  val := fun i d h => by
    obtain ⟨v, h1, h2⟩ := S.val i d h
    exact ⟨v, h1, dp_ex e1 d v h2⟩
  own := fun i ds h => by
    obtain ⟨l, xs, h1, h2, h3, h4, h5⟩ := S.own i ds h
    exact ⟨l, xs, h1, h2, n l (by rw [h4]; exact fun z => nomatch z) h3, e2 l _ h4, dpAll_ex e1 ds xs h5⟩
  bor := fun p hp => by
    obtain ⟨ds, xs, h1, h2, h3, h4, h5⟩ := S.bor p hp
    exact ⟨ds, xs, h1, h2, n _ (by rw [h4]; exact fun z => nomatch z) h3, e2 _ _ h4, dpAll_ex e1 ds xs h5⟩
  btr := S.btr
  bd1 := S.bd1
  bd2 := S.bd2
  bH0 := S.bH0
  odis := S.odis
theorem free_of {p : Addr} (e : Ex C H) (h : H p = none) : C p = none := fresh_back e h
theorem ex_upd {o : HO} {p : Addr} (e : Ex C H) : Ex (upd C p o) (upd H p o) := fun a u h => by
  by_cases q : a = p
  · subst q
    rw [upd_same] at h ⊢
    exact h
  · rw [upd_ne q] at h ⊢
    exact e a u h
/-- a new object, of the data -/
theorem SR.new (S : SR K C0 H0 B C H σ δ) {p : Addr} {o : HO} (h : H p = none) : SR K C0 H0 B (upd C p o) (upd H p o) σ δ :=
  S.step (Ex.new (free_of S.ch h)) (Ex.new h) (ex_upd S.ch) fun a h1 h2 => by
    rw [upd_ne fun z => h1 (by rw [z]; exact h)]
    exact h2
/-- a new object that is not of the data -/
theorem SR.newN (S : SR K C0 H0 B C H σ δ) {p : Addr} {o : HO} (h : H p = none) : SR K C0 H0 B C (upd H p o) σ δ :=
  S.step (Ex.refl C) (Ex.new h) (S.ch.trans (Ex.new h)) fun a _ h2 => h2
end

/-! ### what a mirror gives -/
inductive R (α : Type) where
  | ok (a : α) (δ : Dl)
  | ex (c : Nat) (d : D) (δ : Dl)
  | no
abbrev M (α : Type) := Dl → R α
def R.bind {α β : Type} (r : R α) (f : α → Dl → R β) : R β := match r with
  | .ok a δ => f a δ
  | .ex c d δ => .ex c d δ
  | .no => .no
def R.lift {α : Type} (o : Option α) (δ : Dl) : R α := match o with
  | some a => .ok a δ
  | none => .no
def RP {α : Type} (r : R α) (k : α → Dl → Prop) (x : Nat → D → Dl → Prop) : Prop := match r with
  | .ok a δ => k a δ
  | .ex c d δ => x c d δ
  | .no => False
theorem RP.imp {α : Type} {r : R α} {k k' : α → Dl → Prop} {x x' : Nat → D → Dl → Prop} (h : RP r k x) (hk : ∀ a δ, k a δ → k' a δ) (hx : ∀ c d δ, x c d δ → x' c d δ) : RP r k' x' := by
  cases r with
  | ok a δ => exact hk _ _ h
  | ex c d δ => exact hx _ _ _ h
  | no => exact h.elim
theorem RP.bind {α β : Type} {r : R α} {f : α → Dl → R β} {k : β → Dl → Prop} {x : Nat → D → Dl → Prop} (h : RP (r.bind f) k x) : RP r (fun a δ => RP (f a δ) k x) x := by
  cases r with
  | ok a δ => exact h
  | ex c d δ => exact h
  | no => exact h.elim
theorem RP.lift {α : Type} {o : Option α} {δ : Dl} {k : α → Dl → Prop} {x : Nat → D → Dl → Prop} (h : RP (R.lift o δ) k x) : ∃ a, o = some a ∧ k a δ := by
  cases o with
  | none => exact h.elim
  | some a => exact ⟨a, rfl, h⟩

/-! ### judgements -/
/-- the class of an error by its number: where it stands, the name of its one attribute -/
abbrev ECl := Nat → Addr × Str
section
variable (K : PySem.W.Frag) (EC : ECl) (W : WX) (C0 H0 : Hp) (B : List (Nat × Addr))
/-- what an expression that raises must reach -/
def PXe (C : Hp) (σ : L2.St) : Nat → D → Dl → Prop := fun c d δ => ∀ v dd C2 H2, Ex C C2 → SR K C0 H0 B C2 H2 σ δ → H2 dd = some (.xd [((EC c).2, v)]) → Dq K C2 v d → W (.ref (EC c).1) (some dd) σ H2
def PKe (C : Hp) (σ : L2.St) (Q : VK) : D → Dl → Prop := fun d δ => ∀ v C2 H2, Ex C C2 → SR K C0 H0 B C2 H2 σ δ → Dq K C2 v d → Q v H2
def PKt (C : Hp) (σ : L2.St) (Q : Bool → Hp → Prop) : Bool → Dl → Prop := fun b δ => ∀ C2 H2, Ex C C2 → SR K C0 H0 B C2 H2 σ δ → Q b H2
def PKa (C : Hp) (σ : L2.St) (Q : List V → Hp → Prop) : List D → Dl → Prop := fun ds δ => ∀ vs C2 H2, Ex C C2 → SR K C0 H0 B C2 H2 σ δ → DqAll K C2 vs ds → Q vs H2
/-- a new list that nothing else holds -/
def PKl (C : Hp) (σ : L2.St) (Q : VK) : List D → Dl → Prop := fun ds δ => ∀ p xs C2 H2, Ex C C2 → SR K C0 H0 B C2 H2 σ δ → C2 p = none → H2 p = some (.lst xs) → H0 p = none →
  (∀ (i : Nat) (b : Bool) (es : List D), δ[i]? = some (.var b es) → σ[i]? ≠ some (some (.ref p))) → DqAll K C2 xs ds → Q (.ref p) H2
end
section
variable {K : PySem.W.Frag} {EC : ECl} {W : WX} {C0 H0 C C' : Hp} {B : List (Nat × Addr)} {σ : L2.St}
theorem PXe.mono (e : Ex C C') : ∀ c d δ, PXe K EC W C0 H0 B C σ c d δ → PXe K EC W C0 H0 B C' σ c d δ := fun _ _ _ h v dd C2 H2 e2 => h v dd C2 H2 (e.trans e2)
theorem PKe.mono (e : Ex C C') {Q : VK} : ∀ d δ, PKe K C0 H0 B C σ Q d δ → PKe K C0 H0 B C' σ Q d δ := fun _ _ h v C2 H2 e2 => h v C2 H2 (e.trans e2)
theorem PKt.mono (e : Ex C C') {Q : Bool → Hp → Prop} : ∀ d δ, PKt K C0 H0 B C σ Q d δ → PKt K C0 H0 B C' σ Q d δ := fun _ _ h C2 H2 e2 => h C2 H2 (e.trans e2)
theorem PKa.mono (e : Ex C C') {Q : List V → Hp → Prop} : ∀ d δ, PKa K C0 H0 B C σ Q d δ → PKa K C0 H0 B C' σ Q d δ := fun _ _ h vs C2 H2 e2 => h vs C2 H2 (e.trans e2)
theorem PKl.mono (e : Ex C C') {Q : VK} : ∀ d δ, PKl K C0 H0 B C σ Q d δ → PKl K C0 H0 B C' σ Q d δ := fun _ _ h p xs C2 H2 e2 => h p xs C2 H2 (e.trans e2)
end

structure DE (X : Cx) (EC : ECl) (W : WX) (e : Expr) (m : M D) : Prop where
  ex : ∃ te, PE X e te ∧ ∀ C0 H0 B C H σ δ Q, SR X.K C0 H0 B C H σ δ → RP (m δ) (PKe X.K C0 H0 B C σ Q) (PXe X.K EC W C0 H0 B C σ) → te σ H Q
structure DT (X : Cx) (EC : ECl) (W : WX) (e : Expr) (m : M Bool) : Prop where
  ex : ∃ te, PT X e te ∧ ∀ C0 H0 B C H σ δ Q, SR X.K C0 H0 B C H σ δ → RP (m δ) (PKt X.K C0 H0 B C σ Q) (PXe X.K EC W C0 H0 B C σ) → te σ H Q
structure DA (X : Cx) (EC : ECl) (W : WX) (es : List Expr) (m : M (List D)) : Prop where
  len : ∀ δ ds δ', m δ = .ok ds δ' → ds.length = es.length
  ex : ∃ te, PA X es te ∧ ∀ C0 H0 B C H σ δ Q, SR X.K C0 H0 B C H σ δ → RP (m δ) (PKa X.K C0 H0 B C σ Q) (PXe X.K EC W C0 H0 B C σ) → te σ H Q
/-- an expression that gives a new list -/
structure DL' (X : Cx) (EC : ECl) (W : WX) (e : Expr) (m : M (List D)) : Prop where
  ex : ∃ te, PE X e te ∧ ∀ C0 H0 B C H σ δ Q, SR X.K C0 H0 B C H σ δ → RP (m δ) (PKl X.K C0 H0 B C σ Q) (PXe X.K EC W C0 H0 B C σ) → te σ H Q

/-! ### flows -/
inductive Fl where
  | nx
  | rt (d : D)
  | bk
  | ct
section
variable (K : PySem.W.Frag) (EC : ECl) (W : WX) (C0 H0 : Hp) (B : List (Nat × Addr)) (C : Hp)
def PXs : Nat → D → Dl → Prop := fun c d δ => ∀ σ v dd C2 H2, Ex C C2 → SR K C0 H0 B C2 H2 σ δ → H2 dd = some (.xd [((EC c).2, v)]) → Dq K C2 v d → W (.ref (EC c).1) (some dd) σ H2
def PKs (N : L2.Ends) : Fl → Dl → Prop := fun f δ => ∀ σ C2 H2, Ex C C2 → SR K C0 H0 B C2 H2 σ δ → match f with
  | .nx => N.nx σ H2
  | .rt d => ∀ v, Dq K C2 v d → N.rt v H2
  | .bk => N.bk σ H2
  | .ct => N.ct σ H2
end
structure DS (X : Cx) (EC : ECl) (W : WX) (st : Stmt) (m : M Fl) : Prop where
  ex : ∃ ts, PS X st ts ∧ ∀ C0 H0 B C H σ δ (N : L2.Ends), SR X.K C0 H0 B C H σ δ → RP (m δ) (PKs X.K C0 H0 B C N) (PXs X.K EC W C0 H0 B C) → ts N σ H
structure DSs (X : Cx) (EC : ECl) (W : WX) (st : List Stmt) (m : M Fl) : Prop where
  ex : ∃ ts, PSs X st ts ∧ ∀ C0 H0 B C H σ δ (N : L2.Ends), SR X.K C0 H0 B C H σ δ → RP (m δ) (PKs X.K C0 H0 B C N) (PXs X.K EC W C0 H0 B C) → ts N σ H
end DL
end Part_DLa

section Part_DLb
set_option Elab.async false
set_option linter.all false
set_option maxRecDepth 100000
set_option autoImplicit false
set_option maxHeartbeats 2000000
namespace DL
open PySem L2 Evl

/-! ### by values -/
def Rs (K : PySem.W.Frag) (C H : Hp) (z : D) (Q : VK) : Prop := (∀ u, Dq K C u z → Q u H) ∧ ∀ p o, H p = none → Dq K (upd C p o) (.ref p) z → Q (.ref p) (upd H p o)
theorem rs_of {K : PySem.W.Frag} {C0 H0 C H : Hp} {B : List (Nat × Addr)} {σ : L2.St} {δ : Dl} {Q : VK} {z : D} (S : SR K C0 H0 B C H σ δ) (h : PKe K C0 H0 B C σ Q z δ) : Rs K C H z Q :=
  ⟨fun u hu => h u C H (Ex.refl C) S hu, fun p o hp hd => h _ _ _ (Ex.new (free_of S.ch hp)) (S.new hp) hd⟩
def RO (K : PySem.W.Frag) (r : R2) (f : D → D → Option D) : Prop := ∀ x y z, f x y = some z → ∀ v w C H Q, Ex C H → Dq K C v x → Dq K C w y → Rs K C H z Q → r v w H Q
def RO1 (K : PySem.W.Frag) (r : V → Hp → VK → Prop) (f : D → Option D) : Prop := ∀ x z, f x = some z → ∀ v C H Q, Ex C H → Dq K C v x → Rs K C H z Q → r v H Q
def RCf (K : PySem.W.Frag) (r : List V → Hp → VK → Prop) (f : List D → Option D) : Prop := ∀ xs z, f xs = some z → ∀ vs C H Q, Ex C H → DqAll K C vs xs → Rs K C H z Q → r vs H Q
def RMt (K : PySem.W.Frag) (r : V → List V → Hp → VK → Prop) (f : D → List D → Option D) : Prop := ∀ x xs z, f x xs = some z → ∀ v vs C H Q, Ex C H → Dq K C v x → DqAll K C vs xs → Rs K C H z Q → r v vs H Q

/-! ### mirrors of expressions -/
def mVar (i : Nat) : M D := fun δ => match δ[i]? with
  | some (.val d) => .ok d δ
  | _ => .no
def mC (d : D) : M D := fun δ => .ok d δ
def mNo {α : Type} : M α := fun _ => .no
def mOp (f : D → D → Option D) (a b : M D) : M D := fun δ => (a δ).bind fun x δ => (b δ).bind fun y δ => R.lift (f x y) δ
def mUn (f : D → Option D) (a : M D) : M D := fun δ => (a δ).bind fun x δ => R.lift (f x) δ
def mNil : M (List D) := fun δ => .ok [] δ
def mCons (a : M D) (r : M (List D)) : M (List D) := fun δ => (a δ).bind fun x δ => (r δ).bind fun xs δ => .ok (x :: xs) δ
def mCall (f : List D → Option D) (a : M (List D)) : M D := fun δ => (a δ).bind fun xs δ => R.lift (f xs) δ
def mMt (f : D → List D → Option D) (o : M D) (a : M (List D)) : M D := fun δ => (o δ).bind fun x δ => (a δ).bind fun xs δ => R.lift (f x xs) δ
abbrev LINE : Nat := 16777216
theorem line_eq : sizeLine = LINE := sizeLine_eq
def dTup (xs : List D) : Option D := if xs.length ≤ LINE then some (.tuple xs) else none
def dLst (xs : List D) : Option D := if xs.length ≤ LINE then some (.list xs) else none
def truthD : D → Option Bool
  | .none => some false
  | .bool b => some b
  | .int i => some (i != 0)
  | .str s => if s.length ≤ LINE then some ((s.length : Int) != 0) else none
  | .list xs => some (!xs.isEmpty)
  | .tuple xs => some (!xs.isEmpty)
  | _ => none
def mT (a : M D) : M Bool := fun δ => (a δ).bind fun x δ => match x with
  | .bool b => .ok b δ
  | _ => .no
def mTr (a : M D) : M Bool := fun δ => (a δ).bind fun x δ => R.lift (truthD x) δ
def mAndT (a b : M Bool) : M Bool := fun δ => (a δ).bind fun c δ => if c then b δ else .ok false δ
def mOrT (a b : M Bool) : M Bool := fun δ => (a δ).bind fun c δ => if c then .ok true δ else b δ
def mNotT (a : M Bool) : M Bool := fun δ => (a δ).bind fun c δ => .ok (!c) δ
def mAnd (a b : M D) : M D := fun δ => (a δ).bind fun x δ => match truthD x with
  | some true => b δ
  | some false => .ok x δ
  | none => .no
def mOr (a b : M D) : M D := fun δ => (a δ).bind fun x δ => match truthD x with
  | some true => .ok x δ
  | some false => b δ
  | none => .no
def mNot (a : M D) : M D := mUn (fun x => (truthD x).map fun b => .bool (!b)) a
def mIfE (c : M Bool) (a b : M D) : M D := fun δ => (c δ).bind fun k δ => if k then a δ else b δ
def mChain (f g : D → D → Option D) (a b c : M D) : M D := fun δ => (a δ).bind fun x δ => (b δ).bind fun y δ => match f x y with
  | some (.bool true) => (c δ).bind fun z δ => R.lift (g y z) δ
  | some (.bool false) => .ok (.bool false) δ
  | _ => .no

/-! ### the rules -/
section
variable {X : Cx} {EC : ECl} {W : WX} {a b c e : Expr} {es : List Expr} {ma mb mc : M D} {mes : M (List D)} {pos p : Pos}

theorem de_var (i : Nat) {x : Str} (hN : X.N[i]? = some x := by rfl) (hv : Vis X.env.scope x := by first | exact Or.inl rfl | exact Or.inr (Or.inl rfl) | exact Or.inr (Or.inr rfl)) (hd : (x == ("__debug__" : Str)) = false := by decide)
    (hcd : (x == ("__classdict__" : Str)) = false := by decide) : DE X EC W (.Name x pos) (mVar i) := by
  refine ⟨_, pe_var hN hv hd hcd, fun C0 H0 B C H σ δ Q S h => ?_⟩
  unfold mVar at h
  split at h
  · rename_i d e
    obtain ⟨v, h1, h2⟩ := S.val i d e
    exact ⟨v, h1, h v C H (Ex.refl C) S h2⟩
  · exact h.elim
theorem de_con {v : V} {d : D} (h : PE X e (tC v)) (hd : ∀ C, Dq X.K C v d) : DE X EC W e (mC d) :=
  ⟨_, h, fun C0 H0 B C H σ δ Q S h => h v C H (Ex.refl C) S (hd C)⟩
theorem de_int {i : Int} {j} : DE X EC W (.Constant (.int i) j pos) (mC (.int i)) := de_con pe_int fun _ => .int i
theorem de_bl {i : Bool} {j} : DE X EC W (.Constant (.bool i) j pos) (mC (.bool i)) := de_con pe_bl fun _ => .bl i
theorem de_str {i : Str} {j} : DE X EC W (.Constant (.str i) j pos) (mC (.str i)) := de_con pe_str fun _ => .str i
theorem de_non {j} : DE X EC W (.Constant .none j pos) (mC .none) := de_con pe_non fun _ => .non
theorem de_op {op : Operator} {r : R2} {f : D → D → Option D} (ho : OpR X (binaryOp op) r) (hr : RO X.K r f) (ha : DE X EC W a ma) (hb : DE X EC W b mb) : DE X EC W (.BinOp a op b pos) (mOp f ma mb) := by
  obtain ⟨ta, pa, ra⟩ := ha.ex
  obtain ⟨tb, pb, rb⟩ := hb.ex
  refine ⟨_, pe_op ho pa pb, fun C0 H0 B C H σ δ Q S h => ra C0 H0 B C H σ δ _ S (RP.imp (RP.bind h) (fun x δ1 h1 v C1 H1 e1 S1 d1 => ?_) fun c d δ h => h)⟩
  refine rb C0 H0 B C1 H1 σ δ1 _ S1 (RP.imp (RP.bind h1) (fun y δ2 h2 w C2 H2 e2 S2 d2 => ?_) (PXe.mono e1))
  obtain ⟨z, hz, q⟩ := RP.lift h2
  exact hr x y z hz v w C2 H2 Q S2.ch (dp_ex e2 _ _ d1) d2 (rs_of S2 (PKe.mono (e1.trans e2) _ _ q))
theorem de_cmp {op : CmpOp} {r : R2} {f : D → D → Option D} (ho : OpR X (compareOp op) r) (hr : RO X.K r f) (ha : DE X EC W a ma) (hb : DE X EC W b mb) (hm : behindInMarks op b = false) : DE X EC W (.Compare a [op] [b] pos) (mOp f ma mb) := by
  obtain ⟨ta, pa, ra⟩ := ha.ex
  obtain ⟨tb, pb, rb⟩ := hb.ex
  refine ⟨_, pe_cmpR ho pa pb hm, fun C0 H0 B C H σ δ Q S h => ra C0 H0 B C H σ δ _ S (RP.imp (RP.bind h) (fun x δ1 h1 v C1 H1 e1 S1 d1 => ?_) fun c d δ h => h)⟩
  refine rb C0 H0 B C1 H1 σ δ1 _ S1 (RP.imp (RP.bind h1) (fun y δ2 h2 w C2 H2 e2 S2 d2 => ?_) (PXe.mono e1))
  obtain ⟨z, hz, q⟩ := RP.lift h2
  exact hr x y z hz v w C2 H2 Q S2.ch (dp_ex e2 _ _ d1) d2 (rs_of S2 (PKe.mono (e1.trans e2) _ _ q))
theorem de_un {op : UnaryOp} {r : V → Hp → VK → Prop} {f : D → Option D} (ho : UnR X (unaryOp op) r) (hr : RO1 X.K r f) (ha : DE X EC W a ma) : DE X EC W (.UnaryOp op a pos) (mUn f ma) := by
  obtain ⟨ta, pa, ra⟩ := ha.ex
  refine ⟨_, pe_un ho pa, fun C0 H0 B C H σ δ Q S h => ra C0 H0 B C H σ δ _ S (RP.imp (RP.bind h) (fun x δ1 h1 v C1 H1 e1 S1 d1 => ?_) fun c d δ h => h)⟩
  obtain ⟨z, hz, q⟩ := RP.lift h1
  exact hr x z hz v C1 H1 Q S1.ch d1 (rs_of S1 (PKe.mono e1 _ _ q))
theorem da_nil : DA X EC W [] mNil := ⟨fun δ ds δ' h => by cases h; rfl, _, pa_nil, fun C0 H0 B C H σ δ Q S h => h [] C H (Ex.refl C) S .nil⟩
theorem da_cons (ha : DE X EC W e ma) (hr : DA X EC W es mes) (hs : starEach (e :: es) X.env = (false, eval e X.env) :: starEach es X.env := by rfl) : DA X EC W (e :: es) (mCons ma mes) := by
  obtain ⟨ta, pa, ra⟩ := ha.ex
  obtain ⟨tb, pb, rb⟩ := hr.ex
  refine ⟨fun δ ds δ' h => ?_, _, pa_cons pa pb hs, fun C0 H0 B C H σ δ Q S h => ra C0 H0 B C H σ δ _ S (RP.imp (RP.bind h) (fun x δ1 h1 v C1 H1 e1 S1 d1 => ?_) fun c d δ h => h)⟩
  · have h : ((ma δ).bind fun x δ => (mes δ).bind fun xs δ => .ok (x :: xs) δ) = .ok ds δ' := h
    cases q : ma δ with
    | no => rw [q] at h; cases h
    | ex c d δ' => rw [q] at h; cases h
    | ok x δ1 =>
      rw [q] at h
      have h : ((mes δ1).bind fun xs δ => .ok (x :: xs) δ) = .ok ds δ' := h
      cases q2 : mes δ1 with
      | no => rw [q2] at h; cases h
      | ex c d δ' => rw [q2] at h; cases h
      | ok xs δ2 =>
        rw [q2] at h
        cases h
        rw [List.length_cons, List.length_cons, hr.len δ1 xs _ q2]
  refine rb C0 H0 B C1 H1 σ δ1 _ S1 (RP.imp (RP.bind h1) (fun y δ2 h2 ws C2 H2 e2 S2 d2 => ?_) (PXe.mono e1))
  exact h2 (v :: ws) C2 H2 (e1.trans e2) S2 (.cons (dp_ex e2 _ _ d1) d2)
/-- a built-in that is called -/
theorem de_callB {id : String} {r : List V → Hp → VK → Prop} {f : List D → Option D} {x : Str} (hc : CallR X (.builtin id) r) (hf : RCf X.K r f) (hg : Gl X x) (hm : X.mg x = none) (hv : bootBuiltins x = some (.builtin id)) (ha : DA X EC W (e :: es) mes)
    (hn : x ≠ "__name__" := by decide) (hdb : (x == ("__debug__" : Str)) = false := by decide) (he : starEach (e :: es) X.env = (false, eval e X.env) :: starEach es X.env := by rfl) (hpl : (backTo pos (starEach es X.env)).any (·.1) = false := by rfl) :
    DE X EC W (.Call (.Name x p) (e :: es) [] pos) (mCall f mes) := by
  obtain ⟨ta, pa, ra⟩ := ha.ex
  refine ⟨_, pe_callB hc hg hm hv pa hn hdb he hpl, fun C0 H0 B C H σ δ Q S h => ra C0 H0 B C H σ δ _ S (RP.imp (RP.bind h) (fun xs δ1 h1 vs C1 H1 e1 S1 d1 => ?_) fun c d δ h => h)⟩
  obtain ⟨z, hz, q⟩ := RP.lift h1
  exact hf xs z hz vs C1 H1 Q S1.ch d1 (rs_of S1 (PKe.mono e1 _ _ q))
theorem de_callTy {T : String} {r : List V → Hp → VK → Prop} {f : List D → Option D} {x : Str} (hc : CallR X (.type T) r) (hf : RCf X.K r f) (hg : Gl X x) (hm : X.mg x = none) (hv : bootBuiltins x = some (.type T)) (ha : DA X EC W (e :: es) mes)
    (hn : x ≠ "__name__" := by decide) (hdb : (x == ("__debug__" : Str)) = false := by decide) (he : starEach (e :: es) X.env = (false, eval e X.env) :: starEach es X.env := by rfl) (hpl : (backTo pos (starEach es X.env)).any (·.1) = false := by rfl) :
    DE X EC W (.Call (.Name x p) (e :: es) [] pos) (mCall f mes) := by
  obtain ⟨ta, pa, ra⟩ := ha.ex
  refine ⟨_, pe_callTy hc hg hm hv pa hn hdb he hpl, fun C0 H0 B C H σ δ Q S h => ra C0 H0 B C H σ δ _ S (RP.imp (RP.bind h) (fun xs δ1 h1 vs C1 H1 e1 S1 d1 => ?_) fun c d δ h => h)⟩
  obtain ⟨z, hz, q⟩ := RP.lift h1
  exact hf xs z hz vs C1 H1 Q S1.ch d1 (rs_of S1 (PKe.mono e1 _ _ q))
theorem de_tup {x1} (ha : DA X EC W es mes) : DE X EC W (.Tuple es x1 pos) (mCall dTup mes) := by
  obtain ⟨ta, pa, ra⟩ := ha.ex
  refine ⟨_, pe_tup pa, fun C0 H0 B C H σ δ Q S h => ra C0 H0 B C H σ δ _ S (RP.imp (RP.bind h) (fun xs δ1 h1 vs C1 H1 e1 S1 d1 => ?_) fun c d δ h => h)⟩
  obtain ⟨z, hz, q⟩ := RP.lift h1
  unfold dTup at hz
  split at hz
  · rename_i hl
    cases hz
    refine ⟨by rw [dpa_len d1, line_eq]; exact hl, fun p hp => ?_⟩
    refine (rs_of S1 (PKe.mono e1 _ _ q)).2 p _ hp (.tup (SqT.of upd_same) (dpAll_ex (Ex.new (free_of S1.ch hp)) _ _ d1))
  · cases hz
/-- a list that is displayed -/
def mNew (a : M (List D)) : M (List D) := fun δ => (a δ).bind fun xs δ => if xs.length ≤ LINE then .ok xs δ else .no
theorem dl_lst (ha : DA X EC W es mes) : DL' X EC W (.List es pos) (mNew mes) := by
  obtain ⟨ta, pa, ra⟩ := ha.ex
  refine ⟨_, pe_lst pa, fun C0 H0 B C H σ δ Q S h => ra C0 H0 B C H σ δ _ S (RP.imp (RP.bind h) (fun xs δ1 h1 vs C1 H1 e1 S1 d1 => ?_) fun c d δ h => h)⟩
  split at h1
  · rename_i hl
    refine ⟨by rw [dpa_len d1, line_eq]; exact hl, fun p hp => ?_⟩
    have nH0 : H0 p = none := by
      cases q : H0 p with
      | none => rfl
      | some o =>
        by_cases hb : ∃ k ∈ B, k.2 = p
        · obtain ⟨k, hk, rfl⟩ := hb
          obtain ⟨_, _, _, _, _, h4, _⟩ := S1.bor k hk
          rw [hp] at h4
          cases h4
        · have z := S1.fr p o q fun k hk e => hb ⟨k, hk, e⟩
          rw [hp] at z
          cases z
    refine h1 p vs C1 _ e1 (S1.newN hp) (free_of S1.ch hp) upd_same nH0 (fun i b ds hi hs => ?_) d1
    cases b with
    | false =>
      obtain ⟨l, ys, h2, _, _, h5, _⟩ := S1.own i ds hi
      rw [h2] at hs
      cases hs
      rw [hp] at h5
      cases h5
    | true =>
      obtain ⟨l, hl⟩ := S1.btr i ds hi
      obtain ⟨_, _, _, h3, _, h5, _⟩ := S1.bor _ hl
      rw [h3] at hs
      cases hs
      rw [hp] at h5
      cases h5
  · exact h1.elim
/-- a new list, as data -/
def mOf (a : M (List D)) : M D := fun δ => (a δ).bind fun xs δ => .ok (.list xs) δ
theorem de_of {mes : M (List D)} (h : DL' X EC W e mes) : DE X EC W e (mOf mes) := by
  obtain ⟨te, pe, re⟩ := h.ex
  refine ⟨te, pe, fun C0 H0 B C H σ δ Q S h => re C0 H0 B C H σ δ Q S (RP.imp (RP.bind h) (fun xs δ1 h1 p vs C1 H1 e1 S1 hC hH h0 nm d1 => ?_) fun c d δ h => h)⟩
  have e2 : Ex C1 (upd C1 p (.lst vs)) := Ex.new hC
  have e3 : Ex (upd C1 p (.lst vs)) H1 := fun a o q => by
    by_cases ha : a = p
    · subst ha
      rw [upd_same] at q
      rw [← q]
      exact hH
    · rw [upd_ne ha] at q
      exact S1.ch a o q
  refine h1 (.ref p) (upd C1 p (.lst vs)) H1 (e1.trans e2) ⟨S1.len, S1.c0.trans e2, e3, S1.fr, fun a h2 h3 => ?_, fun i d hi => ?_, fun i ds hi => ?_, fun k hk => ?_, S1.btr, S1.bd1, S1.bd2, S1.bH0, S1.odis⟩ (.lst (SqL.of upd_same) (dpAll_ex e2 _ _ d1))
  · rw [upd_ne fun z => h2 (by rw [z]; exact h0)]
    exact S1.nw a h2 h3
  · obtain ⟨v, h2, h3⟩ := S1.val i d hi
    exact ⟨v, h2, dp_ex e2 _ _ h3⟩
  · obtain ⟨l, ys, h2, h3, h4, h5, h6⟩ := S1.own i ds hi
    refine ⟨l, ys, h2, h3, ?_, h5, dpAll_ex e2 _ _ h6⟩
    rw [upd_ne fun z => nm i false ds hi (by rw [← z]; exact h2)]
    exact h4
  · obtain ⟨ds, ys, h2, h3, h4, h5, h6⟩ := S1.bor k hk
    refine ⟨ds, ys, h2, h3, ?_, h5, dpAll_ex e2 _ _ h6⟩
    rw [upd_ne fun z => nm k.1 true ds h2 (by rw [← z]; exact h3)]
    exact h4
theorem de_lst (ha : DA X EC W es mes) : DE X EC W (.List es pos) (mOf (mNew mes)) := de_of (dl_lst ha)

/-! ### tests -/
variable {ta tb : M Bool}
theorem dt_val (h : DE X EC W e ma) (he : ∀ whole, isTrue e X.env whole = (do let v ← whole; standAt e.pos; holding [v] (truthy v)) := by intro _; rfl) : DT X EC W e (mT ma) := by
  obtain ⟨te, pe, re⟩ := h.ex
  refine ⟨_, pt_val pe he, fun C0 H0 B C H σ δ Q S h => re C0 H0 B C H σ δ _ S (RP.imp (RP.bind h) (fun x δ1 h1 v C1 H1 e1 S1 d1 => ?_) fun c d δ h => h)⟩
  split at h1
  · rename_i k
    cases d1
    exact ⟨k, rfl, h1 C1 H1 e1 S1⟩
  · exact h1.elim
theorem dt_cmp {op : CmpOp} {r : R2} {f : D → D → Option D} (ho : OpR X (compareOp op) r) (hr : RO X.K r f) (ha : DE X EC W a ma) (hb : DE X EC W b mb) (hm : behindInMarks op b = false) : DT X EC W (.Compare a [op] [b] pos) (mT (mOp f ma mb)) := by
  obtain ⟨ta, pa, ra⟩ := ha.ex
  obtain ⟨tb, pb, rb⟩ := hb.ex
  refine ⟨_, pt_cmpR ho pa pb hm, fun C0 H0 B C H σ δ Q S h => ra C0 H0 B C H σ δ _ S (RP.imp (RP.bind (RP.bind h)) (fun x δ1 h1 v C1 H1 e1 S1 d1 => ?_) fun c d δ h => h)⟩
  refine rb C0 H0 B C1 H1 σ δ1 _ S1 (RP.imp (RP.bind h1) (fun y δ2 h2 w C2 H2 e2 S2 d2 => ?_) (PXe.mono e1))
  obtain ⟨z, hz, q⟩ := RP.lift h2
  refine hr x y z hz v w C2 H2 _ S2.ch (dp_ex e2 _ _ d1) d2 (rs_of (Q := fun x H' => ∃ k, x = .bl k ∧ Q k H') S2 fun u C3 H3 e3 S3 d3 => ?_)
  split at q
  · rename_i k
    cases d3
    exact ⟨k, rfl, q C3 H3 ((e1.trans e2).trans e3) S3⟩
  · exact q.elim
theorem tru_of {K : PySem.W.Frag} {C H : Hp} {v : V} {x : D} {k : Bool} (e : Ex C H) (h : Dq K C v x) (ht : truthD x = some k) : TruV K v H k := by
  have hl := line_eq
  cases h with
  | non => cases ht; rfl
  | bl b => cases ht; rfl
  | int i => cases ht; rfl
  | str s =>
    have ht : (if s.length ≤ LINE then some ((s.length : Int) != 0) else none) = some k := ht
    split at ht
    · rename_i hs
      cases ht
      exact ⟨by rw [hl]; exact hs, rfl⟩
    · cases ht
  | lst h1 h2 =>
    cases ht
    refine .inl ⟨_, ex_l e h1, ?_⟩
    have := dpa_len h2
    rename_i xs ds
    cases xs <;> cases ds <;> simp_all
  | tup h1 h2 =>
    cases ht
    refine .inr (.inl ⟨_, ex_t e h1, ?_⟩)
    have := dpa_len h2
    rename_i xs ds
    cases xs <;> cases ds <;> simp_all
theorem dt_truth (h : DE X EC W e ma) (he : ∀ whole, isTrue e X.env whole = (do let v ← whole; standAt e.pos; holding [v] (truthy v)) := by intro _; rfl) : DT X EC W e (mTr ma) := by
  obtain ⟨te, pe, re⟩ := h.ex
  refine ⟨_, pt_truth pe he, fun C0 H0 B C H σ δ Q S h => re C0 H0 B C H σ δ _ S (RP.imp (RP.bind h) (fun x δ1 h1 v C1 H1 e1 S1 d1 => ?_) fun c d δ h => h)⟩
  obtain ⟨k, hk, q⟩ := RP.lift h1
  exact ⟨k, tru_of S1.ch d1 hk, q C1 H1 e1 S1⟩
structure DW (X : Cx) (EC : ECl) (W : WX) (e : Expr) (m : M Bool) : Prop where
  ex : ∃ te, PW X e te ∧ ∀ C0 H0 B C H σ δ Q, SR X.K C0 H0 B C H σ δ → RP (m δ) (PKt X.K C0 H0 B C σ Q) (PXe X.K EC W C0 H0 B C σ) → te σ H Q
theorem DW.dt (h : DW X EC W e ta) : DT X EC W e ta := let ⟨t, p, r⟩ := h.ex; ⟨t, p.pt, r⟩
theorem dw_and1 (ha : DT X EC W a ta) : DW X EC W (.BoolOp .And [a] pos) ta := let ⟨t, p, r⟩ := ha.ex; ⟨t, pw_and1 p, r⟩
theorem dw_or1 (ha : DT X EC W a ta) : DW X EC W (.BoolOp .Or [a] pos) ta := let ⟨t, p, r⟩ := ha.ex; ⟨t, pw_or1 p, r⟩
theorem dw_and {rest : List Expr} (ha : DT X EC W a ta) (hb : DW X EC W (.BoolOp .And (b :: rest) pos) tb) : DW X EC W (.BoolOp .And (a :: b :: rest) pos) (mAndT ta tb) := by
  obtain ⟨t1, p1, r1⟩ := ha.ex
  obtain ⟨t2, p2, r2⟩ := hb.ex
  refine ⟨_, pw_and p1 p2, fun C0 H0 B C H σ δ Q S h => r1 C0 H0 B C H σ δ _ S (RP.imp (RP.bind h) (fun c δ1 h1 C1 H1 e1 S1 => ?_) fun c d δ h => h)⟩
  cases c with
  | true => exact r2 C0 H0 B C1 H1 σ δ1 Q S1 (RP.imp h1 (PKt.mono e1) (PXe.mono e1))
  | false => exact h1 C1 H1 e1 S1
theorem dw_or {rest : List Expr} (ha : DT X EC W a ta) (hb : DW X EC W (.BoolOp .Or (b :: rest) pos) tb) : DW X EC W (.BoolOp .Or (a :: b :: rest) pos) (mOrT ta tb) := by
  obtain ⟨t1, p1, r1⟩ := ha.ex
  obtain ⟨t2, p2, r2⟩ := hb.ex
  refine ⟨_, pw_or p1 p2, fun C0 H0 B C H σ δ Q S h => r1 C0 H0 B C H σ δ _ S (RP.imp (RP.bind h) (fun c δ1 h1 C1 H1 e1 S1 => ?_) fun c d δ h => h)⟩
  cases c with
  | true => exact h1 C1 H1 e1 S1
  | false => exact r2 C0 H0 B C1 H1 σ δ1 Q S1 (RP.imp h1 (PKt.mono e1) (PXe.mono e1))
theorem dt_not (ha : DT X EC W a ta) : DT X EC W (.UnaryOp .Not a pos) (mNotT ta) := by
  obtain ⟨t1, p1, r1⟩ := ha.ex
  refine ⟨_, pt_not p1, fun C0 H0 B C H σ δ Q S h => r1 C0 H0 B C H σ δ _ S (RP.imp (RP.bind h) (fun c δ1 h1 C1 H1 e1 S1 => ?_) fun c d δ h => h)⟩
  exact h1 C1 H1 e1 S1
/-! ### and, or, not, if as values -/
theorem de_one {op} (h : DE X EC W a ma) : DE X EC W (.BoolOp op [a] pos) ma := let ⟨t, p, r⟩ := h.ex; ⟨t, pe_one p, r⟩
theorem de_and {rest : List Expr} (ha : DE X EC W a ma) (hb : DE X EC W (.BoolOp .And (b :: rest) pos) mb) : DE X EC W (.BoolOp .And (a :: b :: rest) pos) (mAnd ma mb) := by
  obtain ⟨t1, p1, r1⟩ := ha.ex
  obtain ⟨t2, p2, r2⟩ := hb.ex
  refine ⟨_, pe_andT p1 p2, fun C0 H0 B C H σ δ Q S h => r1 C0 H0 B C H σ δ _ S (RP.imp (RP.bind h) (fun x δ1 h1 v C1 H1 e1 S1 d1 => ?_) fun c d δ h => h)⟩
  split at h1
  · rename_i hk
    exact ⟨true, tru_of S1.ch d1 hk, r2 C0 H0 B C1 H1 σ δ1 Q S1 (RP.imp h1 (PKe.mono e1) (PXe.mono e1))⟩
  · rename_i hk
    exact ⟨false, tru_of S1.ch d1 hk, h1 v C1 H1 e1 S1 d1⟩
  · exact h1.elim
theorem de_or {rest : List Expr} (ha : DE X EC W a ma) (hb : DE X EC W (.BoolOp .Or (b :: rest) pos) mb) : DE X EC W (.BoolOp .Or (a :: b :: rest) pos) (mOr ma mb) := by
  obtain ⟨t1, p1, r1⟩ := ha.ex
  obtain ⟨t2, p2, r2⟩ := hb.ex
  refine ⟨_, pe_orT p1 p2, fun C0 H0 B C H σ δ Q S h => r1 C0 H0 B C H σ δ _ S (RP.imp (RP.bind h) (fun x δ1 h1 v C1 H1 e1 S1 d1 => ?_) fun c d δ h => h)⟩
  split at h1
  · rename_i hk
    exact ⟨true, tru_of S1.ch d1 hk, h1 v C1 H1 e1 S1 d1⟩
  · rename_i hk
    exact ⟨false, tru_of S1.ch d1 hk, r2 C0 H0 B C1 H1 σ δ1 Q S1 (RP.imp h1 (PKe.mono e1) (PXe.mono e1))⟩
  · exact h1.elim
theorem de_not (ha : DE X EC W a ma) : DE X EC W (.UnaryOp .Not a pos) (mNot ma) := by
  obtain ⟨t1, p1, r1⟩ := ha.ex
  refine ⟨_, pe_notT p1, fun C0 H0 B C H σ δ Q S h => r1 C0 H0 B C H σ δ _ S (RP.imp (RP.bind h) (fun x δ1 h1 v C1 H1 e1 S1 d1 => ?_) fun c d δ h => h)⟩
  obtain ⟨z, hz, q⟩ := RP.lift h1
  have hz : (truthD x).map (fun b => PyData.bool (!b)) = some z := hz
  cases hk : truthD x with
  | none => rw [hk] at hz; cases hz
  | some k =>
    rw [hk] at hz
    cases hz
    exact ⟨k, tru_of S1.ch d1 hk, q _ C1 H1 e1 S1 (.bl _)⟩
theorem de_ifE (hc : DT X EC W c ta) (ha : DE X EC W a ma) (hb : DE X EC W b mb) : DE X EC W (.IfExp c a b pos) (mIfE ta ma mb) := by
  obtain ⟨t0, p0, r0⟩ := hc.ex
  obtain ⟨t1, p1, r1⟩ := ha.ex
  obtain ⟨t2, p2, r2⟩ := hb.ex
  refine ⟨_, pe_ifExp p0 p1 p2, fun C0 H0 B C H σ δ Q S h => r0 C0 H0 B C H σ δ _ S (RP.imp (RP.bind h) (fun k δ1 h1 C1 H1 e1 S1 => ?_) fun c d δ h => h)⟩
  cases k with
  | true => exact r1 C0 H0 B C1 H1 σ δ1 Q S1 (RP.imp h1 (PKe.mono e1) (PXe.mono e1))
  | false => exact r2 C0 H0 B C1 H1 σ δ1 Q S1 (RP.imp h1 (PKe.mono e1) (PXe.mono e1))
end
end DL
end Part_DLb

section Part_DLc
set_option Elab.async false
set_option linter.all false
set_option maxRecDepth 100000
set_option autoImplicit false
set_option maxHeartbeats 2000000
namespace DL
open PySem PySem.Spec PyProof.Rows L2 Evl

/-! ### operators by values -/
instance (i j : Int) : Decidable (CMul i j) := by unfold CMul; infer_instance
instance (i j : Int) : Decidable (CMulW i j) := by unfold CMulW; infer_instance
instance (i j : Int) : Decidable (CDivN i j) := by unfold CDivN; infer_instance
instance (i j : Int) : Decidable (CDivW i j) := by unfold CDivW; infer_instance
instance (i j : Int) : Decidable (CPow i j) := by unfold CPow; infer_instance

/-- list + list, either one that may only be read too -/
def rCatR (K : PySem.W.Frag) : R2 := fun x y H Q => ∃ l b xs zs, x = .ref l ∧ y = .ref b ∧ SqL K H l xs ∧ SqL K H b zs ∧ xs.length + zs.length ≤ sizeLine ∧ ∀ p, H p = none → Q (.ref p) (upd H p (.lst (xs ++ zs)))
theorem op_catR {X : Cx} : OpR X (binaryOp .Add) (rCatR X.K) := by
  intro pins s σ H x y v u Q I rx ry h
  obtain ⟨l, b, xs, zs, rfl, rfl, hH, hB, hz, q⟩ := h
  cases rx
  cases ry
  obtain ⟨its, r, p1, _⟩ := I.list hH
  obtain ⟨its2, r2, p2, _⟩ := I.list hB
  obtain ⟨⟨cls, dd, data, sl⟩, n, ho, hc, hdd, hd⟩ := p1
  obtain ⟨⟨cls2, dd2, data2, sl2⟩, n2, ho2, hc2, hdd2, hd2⟩ := p2
  simp only at hc hd hc2 hd2 hdd hdd2
  subst hc hd hc2 hd2 hdd hdd2
  have e : its.toArray ++ its2.toArray = (its ++ its2).toArray := by simp
  refine concat_meets ⟨_, ho, rfl⟩ ⟨_, ho2, rfl⟩ noFill_list_add seq_list_add PySem.F.slot_list_add PySem.F.entry_list_add (PySem.F.args_list_add_2 _ _) (list_addW l b its.toArray its2.toArray n n2 none none sl sl2 (by rw [List.size_toArray, List.size_toArray, ← r.length, ← r2.length]; exact hz)) ⟨ho, ho2, ?_⟩
  rw [e]
  exact ⟨.ref _, _, I.lnew (t' := s.toks) (r.append r2) (by rw [List.length_append]; omega), rfl, q _ I.fresh⟩

/-- some of it by name -/
def dInts : List D → Option (List Int)
  | [] => some []
  | .int i :: r => (dInts r).map (i :: ·)
  | _ => none
def dStrs : List D → Option (List Str)
  | [] => some []
  | .str i :: r => (dStrs r).map (i :: ·)
  | _ => none
def dBls : List D → Option (List Bool)
  | [] => some []
  | .bool i :: r => (dBls r).map (i :: ·)
  | _ => none
theorem dInts_map : ∀ ns : List Int, dInts (ns.map .int) = some ns
  | [] => rfl
  | n :: ns => by
    show (dInts (ns.map .int)).map (n :: ·) = _
    rw [dInts_map ns]
    rfl
theorem dStrs_map : ∀ ns : List Str, dStrs (ns.map .str) = some ns
  | [] => rfl
  | n :: ns => by
    show (dStrs (ns.map .str)).map (n :: ·) = _
    rw [dStrs_map ns]
    rfl
theorem dBls_map : ∀ ns : List Bool, dBls (ns.map .bool) = some ns
  | [] => rfl
  | n :: ns => by
    show (dBls (ns.map .bool)).map (n :: ·) = _
    rw [dBls_map ns]
    rfl
theorem dInts_eq : ∀ {ds : List D} {ns : List Int}, dInts ds = some ns → ds = ns.map .int
  | [], _, h => by cases h; rfl
  | .int i :: r, ns, h => by
    have h : (dInts r).map (i :: ·) = some ns := h
    cases q : dInts r with
    | none => rw [q] at h; cases h
    | some ms =>
      rw [q] at h
      cases h
      rw [dInts_eq q]
      rfl
  | .none :: _, _, h => by cases h
  | .bool _ :: _, _, h => by cases h
  | .str _ :: _, _, h => by cases h
  | .list _ :: _, _, h => by cases h
  | .tuple _ :: _, _, h => by cases h
  | .dict _ :: _, _, h => by cases h
theorem dStrs_eq : ∀ {ds : List D} {ns : List Str}, dStrs ds = some ns → ds = ns.map .str
  | [], _, h => by cases h; rfl
  | .str i :: r, ns, h => by
    have h : (dStrs r).map (i :: ·) = some ns := h
    cases q : dStrs r with
    | none => rw [q] at h; cases h
    | some ms =>
      rw [q] at h
      cases h
      rw [dStrs_eq q]
      rfl
  | .none :: _, _, h => by cases h
  | .bool _ :: _, _, h => by cases h
  | .int _ :: _, _, h => by cases h
  | .list _ :: _, _, h => by cases h
  | .tuple _ :: _, _, h => by cases h
  | .dict _ :: _, _, h => by cases h
theorem dBls_eq : ∀ {ds : List D} {ns : List Bool}, dBls ds = some ns → ds = ns.map .bool
  | [], _, h => by cases h; rfl
  | .bool i :: r, ns, h => by
    have h : (dBls r).map (i :: ·) = some ns := h
    cases q : dBls r with
    | none => rw [q] at h; cases h
    | some ms =>
      rw [q] at h
      cases h
      rw [dBls_eq q]
      rfl
  | .none :: _, _, h => by cases h
  | .str _ :: _, _, h => by cases h
  | .int _ :: _, _, h => by cases h
  | .list _ :: _, _, h => by cases h
  | .tuple _ :: _, _, h => by cases h
  | .dict _ :: _, _, h => by cases h

def dAdd : D → D → Option D
  | .int i, .int j => some (.int (i + j))
  | .str a, .str b => if a.length + b.length ≤ LINE then some (.str (a ++ b)) else none
  | .list a, .list b => if a.length + b.length ≤ LINE then some (.list (a ++ b)) else none
  | .tuple a, .tuple b => if a.length + b.length ≤ LINE then some (.tuple (a ++ b)) else none
  | _, _ => none
def rAddA (K : PySem.W.Frag) : R2 := fun x y H Q => (rI0 fun i j => .int (i + j)) x y H Q ∨ ((fun x y H Q => ∃ i j, x = V.str i ∧ y = V.str j ∧ i.length + j.length ≤ sizeLine ∧ Q (.str (i ++ j)) H) x y H Q ∨ (rCatR K x y H Q ∨ rCatA K x y H Q))
theorem op_addA {X : Cx} : OpR X (binaryOp .Add) (rAddA X.K) := op_add.or (op_add_str.or (op_catR.or op_catA))
theorem ro_add {K : PySem.W.Frag} : RO K (rAddA K) dAdd := by
  intro x y z hz v w C H Q e hv hw q
  have hl := line_eq
  unfold dAdd at hz
  split at hz
  · cases hz; cases hv; cases hw
    exact .inl ⟨_, _, rfl, rfl, q.1 _ (.int _)⟩
  · split at hz
    · rename_i hs
      cases hz; cases hv; cases hw
      exact .inr (.inl ⟨_, _, rfl, rfl, by rw [hl]; exact hs, q.1 _ (.str _)⟩)
    · cases hz
  · split at hz
    · rename_i hs
      cases hz
      cases hv with
      | lst h1 h2 =>
        cases hw with
        | lst h3 h4 =>
          have l1 := dpa_len h2
          have l2 := dpa_len h4
          refine .inr (.inr (.inl ⟨_, _, _, _, rfl, rfl, ex_l e h1, ex_l e h3, by rw [hl, l1, l2]; exact hs, fun p hp => ?_⟩))
          exact q.2 p _ hp (.lst (SqL.of upd_same) (dpAll_ex (Ex.new (free_of e hp)) _ _ (dpa_app h2 h4)))
    · cases hz
  · split at hz
    · rename_i hs
      cases hz
      cases hv with
      | tup h1 h2 =>
        cases hw with
        | tup h3 h4 =>
          have l1 := dpa_len h2
          have l2 := dpa_len h4
          refine .inr (.inr (.inr ⟨_, _, _, _, rfl, rfl, ex_t e h1, ex_t e h3, by rw [hl, l1, l2]; exact hs, fun n => ?_, fun _ n => ?_, fun _ _ p hp => ?_⟩))
          · subst n
            cases h2
            exact q.1 _ (.tup h3 h4)
          · subst n
            cases h4
            rw [List.append_nil] at q
            exact q.1 _ (.tup h1 h2)
          · exact q.2 p _ hp (.tup (SqT.of upd_same) (dpAll_ex (Ex.new (free_of e hp)) _ _ (dpa_app h2 h4)))
    · cases hz
  · cases hz
def dII (g : Int → Int → Option D) : D → D → Option D
  | .int i, .int j => g i j
  | _, _ => none
theorem ro_ii {K : PySem.W.Frag} {Cn : Int → Int → Prop} {g : Int → Int → V} {f : Int → Int → Option D} (h : ∀ i j z, f i j = some z → Cn i j ∧ ∀ C, Dq K C (g i j) z) : RO K (rI Cn g) (dII f) := by
  intro x y z hz v w C H Q e hv hw q
  unfold dII at hz
  split at hz
  · cases hv; cases hw
    obtain ⟨h1, h2⟩ := h _ _ _ hz
    exact ⟨_, _, rfl, rfl, h1, q.1 _ (h2 C)⟩
  · cases hz
theorem ro_i0 {K : PySem.W.Frag} {g : Int → Int → V} {f : Int → Int → Option D} (h : ∀ i j z, f i j = some z → ∀ C, Dq K C (g i j) z) : RO K (rI0 g) (dII f) := by
  intro x y z hz v w C H Q e hv hw q
  unfold dII at hz
  split at hz
  · cases hv; cases hw
    exact ⟨_, _, rfl, rfl, q.1 _ (h _ _ _ hz C)⟩
  · cases hz
def dSub := dII fun i j => some (.int (i - j))
theorem ro_sub {K : PySem.W.Frag} : RO K (rI0 fun i j => .int (i - j)) dSub := ro_i0 fun i j z h C => by cases h; exact .int _
def dMul := dII fun i j => if CMul i j ∨ CMulW i j then some (.int (i * j)) else none
def rMulA : R2 := fun x y H Q => rI CMul (fun i j => .int (i * j)) x y H Q ∨ rI CMulW (fun i j => .int (i * j)) x y H Q
theorem op_mulA {X : Cx} : OpR X (binaryOp .Mult) rMulA := op_mul.or op_mulW
theorem ro_mul {K : PySem.W.Frag} : RO K rMulA dMul := by
  intro x y z hz v w C H Q e hv hw q
  unfold dMul dII at hz
  split at hz
  · dsimp only at hz
    split at hz
    · rename_i h
      cases hz; cases hv; cases hw
      rcases h with h | h
      · exact .inl ⟨_, _, rfl, rfl, h, q.1 _ (.int _)⟩
      · exact .inr ⟨_, _, rfl, rfl, h, q.1 _ (.int _)⟩
    · cases hz
  · cases hz
/-- by a divisor that is not 0 and small, or positive -/
def dDiv := dII fun i j => if CDivN i j ∨ CDivW i j then some (.int (i.fdiv j)) else none
def rDivA : R2 := fun x y H Q => rI CDivN (fun i j => .int (i.fdiv j)) x y H Q ∨ rI CDivW (fun i j => .int (i / j)) x y H Q
theorem op_divA {X : Cx} : OpR X (binaryOp .FloorDiv) rDivA := op_fdivN.or op_fdivW
theorem ro_div {K : PySem.W.Frag} : RO K rDivA dDiv := by
  intro x y z hz v w C H Q e hv hw q
  unfold dDiv dII at hz
  split at hz
  · dsimp only at hz
    split at hz
    · rename_i h
      cases hz; cases hv; cases hw
      rcases h with h | h
      · exact .inl ⟨_, _, rfl, rfl, h, q.1 _ (.int _)⟩
      · refine .inr ⟨_, _, rfl, rfl, h, q.1 _ ?_⟩
        rw [Int.fdiv_eq_ediv_of_nonneg _ (Int.le_of_lt h.1)]
        exact .int _
    · cases hz
  · cases hz
def dMod := dII fun i j => if j ≠ 0 then some (.int (i.fmod j)) else none
theorem ro_mod {K : PySem.W.Frag} : RO K (rI (fun _ j => j ≠ 0) fun i j => .int (i.fmod j)) dMod := ro_ii fun i j z h => by
  split at h
  · cases h; exact ⟨by assumption, fun _ => .int _⟩
  · cases h
def dPow := dII fun i j => if CPow i j then some (.int (i ^ j.toNat)) else none
theorem ro_pow {K : PySem.W.Frag} : RO K (rI CPow fun i j => .int (i ^ j.toNat)) dPow := ro_ii fun i j z h => by
  split at h
  · cases h; exact ⟨by assumption, fun _ => .int _⟩
  · cases h
def dNeg : D → Option D
  | .int i => some (.int (-i))
  | _ => none
theorem ro_neg {K : PySem.W.Frag} : RO1 K (rU fun i => .int (-i)) dNeg := by
  intro x z hz v C H Q e hv q
  unfold dNeg at hz
  split at hz
  · cases hz; cases hv
    exact ⟨_, rfl, q.1 _ (.int _)⟩
  · cases hz
/-! comparisons -/
def dEq (x y : D) : Option D := if SeqAt.shaped x && SeqAt.shaped y then some (.bool (PyData.eqv x y)) else none
def dNe (x y : D) : Option D := if SeqAt.shaped x && SeqAt.shaped y then some (.bool (!PyData.eqv x y)) else none
theorem ro_eq {K : PySem.W.Frag} : RO K (rEqD K) dEq := by
  intro x y z hz v w C H Q e hv hw q
  unfold dEq at hz
  split at hz
  · rename_i h
    rw [Bool.and_eq_true] at h
    cases hz
    exact ⟨x, y, dq_dp _ _ (dp_ex e _ _ hv), dq_dp _ _ (dp_ex e _ _ hw), h.1, h.2, q.1 _ (.bl _)⟩
  · cases hz
theorem ro_ne {K : PySem.W.Frag} : RO K (rNeD K) dNe := by
  intro x y z hz v w C H Q e hv hw q
  unfold dNe at hz
  split at hz
  · rename_i h
    rw [Bool.and_eq_true] at h
    cases hz
    exact ⟨x, y, dq_dp _ _ (dp_ex e _ _ hv), dq_dp _ _ (dp_ex e _ _ hw), h.1, h.2, q.1 _ (.bl _)⟩
  · cases hz
def dIsN : D → D → Option D
  | x, .none => some (.bool (match x with | .none => true | _ => false))
  | _, _ => none
def dNotN : D → D → Option D
  | x, .none => some (.bool (match x with | .none => false | _ => true))
  | _, _ => none
theorem ro_isN {K : PySem.W.Frag} : RO K (fun x y H Q => y = V.non ∧ Q (.bl (decide (x = .non))) H) dIsN := by
  intro x y z hz v w C H Q e hv hw q
  unfold dIsN at hz
  split at hz
  · cases hz; cases hw
    refine ⟨rfl, q.1 _ ?_⟩
    cases hv <;> exact .bl _
  · cases hz
theorem ro_notN {K : PySem.W.Frag} : RO K (fun x y H Q => y = V.non ∧ Q (.bl (!decide (x = .non))) H) dNotN := by
  intro x y z hz v w C H Q e hv hw q
  unfold dNotN at hz
  split at hz
  · cases hz; cases hw
    refine ⟨rfl, q.1 _ ?_⟩
    cases hv <;> exact .bl _
  · cases hz
def b2 (b : Bool) : Int := if b = true then 1 else 0
def dLt : D → D → Option D
  | .int i, .int j => some (.bool (decide (i < j)))
  | .bool i, .bool j => some (.bool (decide (b2 i < b2 j)))
  | .str i, .str j => some (.bool (decide (i.cps.toList < j.cps.toList)))
  | .tuple xs, .tuple ys => match dInts xs, dInts ys with
    | some ns, some ms => some (.bool (HT.lexLt ns ms))
    | _, _ => none
  | _, _ => none
def rB2 (g : Bool → Bool → Bool) : R2 := fun x y H Q => ∃ i j, x = .bl i ∧ y = .bl j ∧ Q (.bl (g i j)) H
theorem op_ltB {X : Cx} : OpR X (compareOp .Lt) (rB2 fun i j => decide (b2 i < b2 j)) := by
  intro pins s σ H x y v u Q I rx ry h
  obtain ⟨i, j, rfl, rfl, q⟩ := h
  cases rx; cases ry
  exact PyProof.Rows.lt_bool ⟨.bl _, H, I, rfl, q⟩
theorem op_gtB {X : Cx} : OpR X (compareOp .Gt) (rB2 fun i j => decide (b2 j < b2 i)) := by
  intro pins s σ H x y v u Q I rx ry h
  obtain ⟨i, j, rfl, rfl, q⟩ := h
  cases rx; cases ry
  exact PyProof.Rows.gt_bool ⟨.bl _, H, I, rfl, q⟩
theorem lex_at (ns ms : List Int) : ∀ (k i : Nat), k = min ns.length ms.length - i → i ≤ min ns.length ms.length →
    Ob.lexAt (fun j => decide (ns.getD j 0 = ms.getD j 0)) (fun j => decide (ms.getD j 0 < ns.getD j 0)) (decide (ns.length > ms.length)) i k = HT.lexLt (ms.drop i) (ns.drop i)
  | 0, i, hk, hi => by
    rw [Ob.lexAt_zero]
    by_cases h : ms.length ≤ ns.length
    · have e : i = ms.length := by omega
      subst e
      rw [List.drop_length]
      cases q : ns.drop ms.length with
      | nil =>
        have := congrArg List.length q
        rw [List.length_drop, List.length_nil] at this
        rw [HT.lexLt_nil_nil]
        exact decide_eq_false (by omega)
      | cons a r =>
        have := congrArg List.length q
        rw [List.length_drop, List.length_cons] at this
        rw [HT.lexLt_nil_cons]
        exact decide_eq_true (by omega)
    · have e : i = ns.length := by omega
      subst e
      rw [List.drop_length]
      cases q : ms.drop ns.length with
      | nil =>
        rw [HT.lexLt_nil_nil]
        exact decide_eq_false (by omega)
      | cons a r =>
        rw [HT.lexLt_cons_nil]
        exact decide_eq_false (by omega)
  | k + 1, i, hk, hi => by
    have h1 : i < ns.length := by omega
    have h2 : i < ms.length := by omega
    rw [Ob.lexAt_succ, lex_at ns ms k (i + 1) (by omega) (by omega)]
    have d1 : ns.drop i = ns[i] :: ns.drop (i + 1) := List.drop_eq_getElem_cons h1
    have d2 : ms.drop i = ms[i] :: ms.drop (i + 1) := List.drop_eq_getElem_cons h2
    have g1 : ns.getD i 0 = ns[i] := by simp [List.getD, h1]
    have g2 : ms.getD i 0 = ms[i] := by simp [List.getD, h2]
    rw [d1, d2, HT.lexLt_cons]
    simp only [g1, g2, decide_eq_true_eq]
    by_cases h : ns[i] = ms[i]
    · rw [if_pos h, if_pos h.symm]
    · rw [if_neg h, if_neg (fun z => h z.symm)]
def rGtT (K : PySem.W.Frag) : R2 := fun x y H Q => ∃ (a b : Addr) (ns ms : List Int), x = .ref a ∧ y = .ref b ∧ SqT K H a (ns.map V.int) ∧ SqT K H b (ms.map V.int) ∧ Q (.bl (HT.lexLt ms ns)) H
theorem op_gtT {X : Cx} (hu : X.A.units < cLine) : OpR X (compareOp .Gt) (rGtT X.K) := by
  intro pins s σ H x y v u Q I rx ry h
  obtain ⟨a, b, ns, ms, rfl, rfl, ha, hb, q⟩ := h
  cases rx
  cases ry
  obtain ⟨its, r1, p1, _⟩ := I.tuple ha
  obtain ⟨its2, r2, p2, _⟩ := I.tuple hb
  have i1 : IntsAre its ns := Vals.ints r1
  have i2 : IntsAre its2 ms := Vals.ints r2
  have e1 : its.toArray.size = ns.length := by rw [List.size_toArray]; exact i1.length
  have e2 : its2.toArray.size = ms.length := by rw [List.size_toArray]; exact i2.length
  have at1 : ∀ j (h1 : j < its.toArray.size), ∃ t, its.toArray[j] = .int (ns.getD j 0) t := fun j h1 => PyProof.Rows.IntsAre.int_at i1 _ _ (by simp at h1; simp [h1])
  have at2 : ∀ j (h1 : j < its2.toArray.size), ∃ t, its2.toArray[j] = .int (ms.getD j 0) t := fun j h1 => PyProof.Rows.IntsAre.int_at i2 _ _ (by simp at h1; simp [h1])
  have R := Ob.RcOp.tuples_gt (A := X.A) (s := s) (e := fun j => decide (ns.getD j 0 = ms.getD j 0)) (r := fun j => decide (ms.getD j 0 < ns.getD j 0)) p1 p2 hu (fun j h1 h2 => by
    obtain ⟨t, et⟩ := at1 j h1
    obtain ⟨t', et'⟩ := at2 j h2
    rw [et, et']
    have z : (ns.getD j 0 == ms.getD j 0) = decide (ns.getD j 0 = ms.getD j 0) := by
      by_cases q : ns.getD j 0 = ms.getD j 0
      · rw [decide_eq_true q]; exact beq_iff_eq.mpr q
      · rw [decide_eq_false q]; exact beq_eq_false_iff_ne.mpr q
    rw [← z]
    exact SeqAt.EqAt.int_int _ _ _ _) (fun j h1 h2 _ => by
    obtain ⟨t, et⟩ := at1 j h1
    obtain ⟨t', et'⟩ := at2 j h2
    rw [et, et']
    exact Ob.RcOp.gt_int _ _ _ _)
  rw [e1, e2, lex_at ns ms _ 0 (by omega) (by omega)] at R
  have z : wpAny (model X.prog X.w) X.A (compareOp .Gt (.ref a) (.ref b)) (EP X pins σ Q) X.xe s := R X.prog X.w X.xe (EP X pins σ Q) ⟨.bl _, H, I, rfl, q⟩
  exact z
def rLtA (K : PySem.W.Frag) : R2 := fun x y H Q => (rI0 fun i j => .bl (decide (i < j))) x y H Q ∨ (rB2 (fun i j => decide (b2 i < b2 j)) x y H Q ∨ ((fun x y H Q => ∃ i j, x = V.str i ∧ y = V.str j ∧ Q (.bl (decide (i.cps.toList < j.cps.toList))) H) x y H Q ∨ rLtT K x y H Q))
theorem op_ltA {X : Cx} (hu : X.A.units < cLine) : OpR X (compareOp .Lt) (rLtA X.K) := op_lt.or (op_ltB.or (op_lt_str.or (op_ltT hu)))
theorem ro_lt {K : PySem.W.Frag} : RO K (rLtA K) dLt := by
  intro x y z hz v w C H Q e hv hw q
  unfold dLt at hz
  split at hz
  · cases hz; cases hv; cases hw
    exact .inl ⟨_, _, rfl, rfl, q.1 _ (.bl _)⟩
  · cases hz; cases hv; cases hw
    exact .inr (.inl ⟨_, _, rfl, rfl, q.1 _ (.bl _)⟩)
  · cases hz; cases hv; cases hw
    exact .inr (.inr (.inl ⟨_, _, rfl, rfl, q.1 _ (.bl _)⟩))
  · split at hz
    · rename_i h1 h2
      cases hz
      have e1 := dInts_eq h1
      have e2 := dInts_eq h2
      subst e1 e2
      cases hv with
      | tup a1 a2 =>
        cases hw with
        | tup b1 b2 =>
          have f1 := dpa_ints a2
          have f2 := dpa_ints b2
          subst f1 f2
          exact .inr (.inr (.inr ⟨_, _, _, _, rfl, rfl, ex_t e a1, ex_t e b1, q.1 _ (.bl _)⟩))
    · cases hz
  · cases hz
def dGt : D → D → Option D
  | .int i, .int j => some (.bool (decide (j < i)))
  | .bool i, .bool j => some (.bool (decide (b2 j < b2 i)))
  | .str i, .str j => some (.bool (decide (j.cps.toList < i.cps.toList)))
  | .tuple xs, .tuple ys => match dInts xs, dInts ys with
    | some ns, some ms => some (.bool (HT.lexLt ms ns))
    | _, _ => none
  | _, _ => none
def rGtA (K : PySem.W.Frag) : R2 := fun x y H Q => (rI0 fun i j => .bl (decide (j < i))) x y H Q ∨ (rB2 (fun i j => decide (b2 j < b2 i)) x y H Q ∨ ((fun x y H Q => ∃ i j, x = V.str i ∧ y = V.str j ∧ Q (.bl (decide (j.cps.toList < i.cps.toList))) H) x y H Q ∨ rGtT K x y H Q))
theorem op_gtA {X : Cx} (hu : X.A.units < cLine) : OpR X (compareOp .Gt) (rGtA X.K) := op_gt.or (op_gtB.or (op_gt_str.or (op_gtT hu)))
theorem ro_gt {K : PySem.W.Frag} : RO K (rGtA K) dGt := by
  intro x y z hz v w C H Q e hv hw q
  unfold dGt at hz
  split at hz
  · cases hz; cases hv; cases hw
    exact .inl ⟨_, _, rfl, rfl, q.1 _ (.bl _)⟩
  · cases hz; cases hv; cases hw
    exact .inr (.inl ⟨_, _, rfl, rfl, q.1 _ (.bl _)⟩)
  · cases hz; cases hv; cases hw
    exact .inr (.inr (.inl ⟨_, _, rfl, rfl, q.1 _ (.bl _)⟩))
  · split at hz
    · rename_i h1 h2
      cases hz
      have e1 := dInts_eq h1
      have e2 := dInts_eq h2
      subst e1 e2
      cases hv with
      | tup a1 a2 =>
        cases hw with
        | tup b1 b2 =>
          have f1 := dpa_ints a2
          have f2 := dpa_ints b2
          subst f1 f2
          exact .inr (.inr (.inr ⟨_, _, _, _, rfl, rfl, ex_t e a1, ex_t e b1, q.1 _ (.bl _)⟩))
    · cases hz
  · cases hz
def dLe := dII fun i j => some (.bool (decide (i ≤ j)))
def dGe := dII fun i j => some (.bool (decide (j ≤ i)))
theorem ro_le {K : PySem.W.Frag} : RO K (rI0 fun i j => .bl (decide (i ≤ j))) dLe := ro_i0 fun i j z h C => by cases h; exact .bl _
theorem ro_ge {K : PySem.W.Frag} : RO K (rI0 fun i j => .bl (decide (j ≤ i))) dGe := ro_i0 fun i j z h C => by cases h; exact .bl _
/-! in -/
def flatD : D → Bool
  | .none => true
  | .bool _ => true
  | .int _ => true
  | .str _ => true
  | _ => false
def inD (x : D) (ds : List D) : Bool := ds.any fun y => PyData.eqv y x
theorem flat_of {K : PySem.W.Frag} {C : Hp} {v : V} {x : D} (h : Dq K C v x) (f : flatD x = true) : flatV v = true := by
  cases h <;> first | rfl | cases f
theorem flats_of {K : PySem.W.Frag} {C : Hp} : ∀ {vs : List V} {xs : List D}, DqAll K C vs xs → xs.all flatD = true → vs.all flatV = true
  | _, _, .nil, _ => rfl
  | _, _, .cons h t, f => by
    rw [List.all_cons, Bool.and_eq_true] at f ⊢
    exact ⟨flat_of h f.1, flats_of t f.2⟩
theorem eqV_of {K : PySem.W.Frag} {C : Hp} {v w : V} {x y : D} (h : Dq K C v x) (h' : Dq K C w y) (f : flatD x = true) (f' : flatD y = true) : eqV v w = PyData.eqv x y := by
  cases h <;> cases h' <;> first | rfl | cases f | cases f'
theorem inV_of {K : PySem.W.Frag} {C : Hp} {v : V} {x : D} (h : Dq K C v x) (f : flatD x = true) : ∀ {vs : List V} {xs : List D}, DqAll K C vs xs → xs.all flatD = true → inV v vs = inD x xs
  | _, _, .nil, _ => rfl
  | _, _, .cons a t, g => by
    rw [List.all_cons, Bool.and_eq_true] at g
    unfold inV inD
    rw [List.any_cons, List.any_cons, eqV_of a h g.1 f]
    exact congrArg _ (inV_of h f t g.2)
def inStr (a b : Str) : Bool := match a.cps.toList with
  | [c] => decide (c ∈ b.cps.toList)
  | _ => !(Builtin.Str.occurrences b a 0 b.length 1).isEmpty
def dIn : D → D → Option D
  | .str a, .str b => some (.bool (inStr a b))
  | x, .list ys => if flatD x && ys.all flatD then some (.bool (inD x ys)) else none
  | x, .tuple ys => if flatD x && ys.all flatD then some (.bool (inD x ys)) else none
  | _, _ => none
def rInA (K : PySem.W.Frag) : R2 := fun x y H Q => ((fun x y H Q => ∃ (c : Nat) (z : Str), x = V.str ⟨#[c]⟩ ∧ y = V.str z ∧ Q (.bl (decide (c ∈ z.cps.toList))) H) x y H Q) ∨ (((fun x y H Q => ∃ i j, x = V.str i ∧ y = V.str j ∧ Q (.bl (!(Builtin.Str.occurrences j i 0 j.length 1).isEmpty)) H) x y H Q) ∨ rIn K false x y H Q)
theorem op_inA {X : Cx} : OpR X (compareOp .In) (rInA X.K) := op_in_sign.or (op_in_str.or op_in_seq)
theorem one_sign {a : Str} {c : Nat} (h : a.cps.toList = [c]) : a = ⟨#[c]⟩ := Str.ext' (Array.toList_inj.mp h)
theorem ro_in {K : PySem.W.Frag} : RO K (rInA K) dIn := by
  intro x y z hz v w C H Q e hv hw q
  unfold dIn at hz
  split at hz
  · cases hz; cases hv; cases hw
    rename_i a b
    unfold inStr at q
    split at q
    · rename_i c hc
      rw [one_sign hc]
      exact .inl ⟨c, b, rfl, rfl, q.1 _ (.bl _)⟩
    · exact .inr (.inl ⟨_, _, rfl, rfl, q.1 _ (.bl _)⟩)
  · split at hz
    · rename_i h
      rw [Bool.and_eq_true] at h
      cases hz
      cases hw with
      | lst h1 h2 =>
        refine .inr (.inr ⟨_, _, rfl, .inl (ex_l e h1), flat_of hv h.1, flats_of h2 h.2, ?_⟩)
        have i := inV_of hv h.1 h2 h.2
        show Q (.bl (inV v _)) H
        rw [i]
        exact q.1 _ (.bl _)
    · cases hz
  · split at hz
    · rename_i h
      rw [Bool.and_eq_true] at h
      cases hz
      cases hw with
      | tup h1 h2 =>
        refine .inr (.inr ⟨_, _, rfl, .inr (ex_t e h1), flat_of hv h.1, flats_of h2 h.2, ?_⟩)
        have i := inV_of hv h.1 h2 h.2
        show Q (.bl (inV v _)) H
        rw [i]
        exact q.1 _ (.bl _)
    · cases hz
  · cases hz
def dNotIn (x y : D) : Option D := match dIn x y with
  | some (.bool b) => some (.bool (!b))
  | _ => none
def rNiA (K : PySem.W.Frag) : R2 := fun x y H Q => ((fun x y H Q => ∃ (c : Nat) (z : Str), x = V.str ⟨#[c]⟩ ∧ y = V.str z ∧ Q (.bl (!decide (c ∈ z.cps.toList))) H) x y H Q) ∨ (((fun x y H Q => ∃ i j, x = V.str i ∧ y = V.str j ∧ Q (.bl (!(!(Builtin.Str.occurrences j i 0 j.length 1).isEmpty))) H) x y H Q) ∨ rIn K true x y H Q)
theorem op_niA {X : Cx} : OpR X (compareOp .NotIn) (rNiA X.K) := op_notIn_sign.or (op_notin_str.or op_notIn_seq)
theorem ro_ni {K : PySem.W.Frag} : RO K (rNiA K) dNotIn := by
  intro x y z hz v w C H Q e hv hw q
  unfold dNotIn at hz
  split at hz
  · rename_i b hb
    cases hz
    unfold dIn at hb
    split at hb
    · cases hb; cases hv; cases hw
      rename_i a b
      unfold inStr at q
      split at q
      · rename_i c hc
        rw [one_sign hc]
        exact .inl ⟨c, b, rfl, rfl, q.1 _ (.bl _)⟩
      · exact .inr (.inl ⟨_, _, rfl, rfl, q.1 _ (.bl _)⟩)
    · split at hb
      · rename_i h
        rw [Bool.and_eq_true] at h
        cases hb
        cases hw with
        | lst h1 h2 =>
          refine .inr (.inr ⟨_, _, rfl, .inl (ex_l e h1), flat_of hv h.1, flats_of h2 h.2, ?_⟩)
          have i := inV_of hv h.1 h2 h.2
          show Q (.bl (!inV v _)) H
          rw [i]
          exact q.1 _ (.bl _)
      · cases hb
    · split at hb
      · rename_i h
        rw [Bool.and_eq_true] at h
        cases hb
        cases hw with
        | tup h1 h2 =>
          refine .inr (.inr ⟨_, _, rfl, .inr (ex_t e h1), flat_of hv h.1, flats_of h2 h.2, ?_⟩)
          have i := inV_of hv h.1 h2 h.2
          show Q (.bl (!inV v _)) H
          rw [i]
          exact q.1 _ (.bl _)
      · cases hb
    · cases hb
  · cases hz
end DL
end Part_DLc

section Part_DLd
set_option Elab.async false
set_option linter.all false
set_option maxRecDepth 100000
set_option autoImplicit false
set_option maxHeartbeats 2000000
namespace DL
open PySem PySem.Spec PyProof.Rows L2 Evl

/-! ### a op b op' c -/
section
variable {X : Cx} {EC : ECl} {W : WX} {a b c e : Expr} {es : List Expr} {ma mb mc : M D} {mes : M (List D)} {pos p p2 : Pos}
theorem de_chain {op op' : CmpOp} {r r' : R2} {f g : D → D → Option D} (ho : OpR X (compareOp op) r) (hr : RO X.K r f) (ho' : OpR X (compareOp op') r') (hr' : RO X.K r' g) (ha : DE X EC W a ma) (hb : DE X EC W b mb) (hc : DE X EC W c mc)
    (hm : lastMarks [op, op'] [b, c] = false := by with_unfolding_all rfl) : DE X EC W (.Compare a [op, op'] [b, c] pos) (mChain f g ma mb mc) := by
  obtain ⟨ta, pa, ra⟩ := ha.ex
  obtain ⟨tb, pb, rb⟩ := hb.ex
  obtain ⟨tc, pc, rc⟩ := hc.ex
  refine ⟨_, pe_chain ho ho' pa pb pc hm, fun C0 H0 B C H σ δ Q S h => ra C0 H0 B C H σ δ _ S (RP.imp (RP.bind h) (fun x δ1 h1 v C1 H1 e1 S1 d1 => ?_) fun c d δ h => h)⟩
  refine rb C0 H0 B C1 H1 σ δ1 _ S1 (RP.imp (RP.bind h1) (fun y δ2 h2 w C2 H2 e2 S2 d2 => ?_) (PXe.mono e1))
  split at h2
  · rename_i hz
    refine hr x y _ hz v w C2 H2 _ S2.ch (dp_ex e2 _ _ d1) d2 (rs_of (C0 := C0) (H0 := H0) (B := B) (σ := σ) (δ := δ2) S2 fun u C3 H3 e3 S3 d3 => ?_)
    cases d3
    refine ⟨true, rfl, ?_⟩
    rw [if_pos rfl]
    refine rc C0 H0 B C3 H3 σ δ2 _ S3 (RP.imp (RP.bind h2) (fun z δ4 h4 w4 C4 H4 e4 S4 d4 => ?_) (PXe.mono ((e1.trans e2).trans e3)))
    obtain ⟨z', hz', q⟩ := RP.lift h4
    exact hr' y z z' hz' w w4 C4 H4 Q S4.ch (dp_ex (e3.trans e4) _ _ d2) d4 (rs_of S4 (PKe.mono (((e1.trans e2).trans e3).trans e4) _ _ q))
  · rename_i hz
    refine hr x y _ hz v w C2 H2 _ S2.ch (dp_ex e2 _ _ d1) d2 (rs_of (C0 := C0) (H0 := H0) (B := B) (σ := σ) (δ := δ2) S2 fun u C3 H3 e3 S3 d3 => ?_)
    cases d3
    refine ⟨false, rfl, ?_⟩
    rw [if_neg Bool.false_ne_true]
    exact h2 (.bl false) C3 H3 ((e1.trans e2).trans e3) S3 (.bl false)
  · exact h2.elim
theorem dt_chain {op op' : CmpOp} {r r' : R2} {f g : D → D → Option D} (ho : OpR X (compareOp op) r) (hr : RO X.K r f) (ho' : OpR X (compareOp op') r') (hr' : RO X.K r' g) (ha : DE X EC W a ma) (hb : DE X EC W b mb) (hc : DE X EC W c mc)
    (hm : lastMarks [op, op'] [b, c] = false := by with_unfolding_all rfl) : DT X EC W (.Compare a [op, op'] [b, c] pos) (mT (mChain f g ma mb mc)) := by
  obtain ⟨ta, pa, ra⟩ := ha.ex
  obtain ⟨tb, pb, rb⟩ := hb.ex
  obtain ⟨tc, pc, rc⟩ := hc.ex
  refine ⟨_, pt_chain ho ho' pa pb pc hm, fun C0 H0 B C H σ δ Q S h => ra C0 H0 B C H σ δ _ S (RP.imp (RP.bind (RP.bind h)) (fun x δ1 h1 v C1 H1 e1 S1 d1 => ?_) fun c d δ h => h)⟩
  refine rb C0 H0 B C1 H1 σ δ1 _ S1 (RP.imp (RP.bind h1) (fun y δ2 h2 w C2 H2 e2 S2 d2 => ?_) (PXe.mono e1))
  split at h2
  · rename_i hz
    refine hr x y _ hz v w C2 H2 _ S2.ch (dp_ex e2 _ _ d1) d2 (rs_of (C0 := C0) (H0 := H0) (B := B) (σ := σ) (δ := δ2) S2 fun u C3 H3 e3 S3 d3 => ?_)
    cases d3
    refine ⟨true, rfl, ?_⟩
    rw [if_pos rfl]
    refine rc C0 H0 B C3 H3 σ δ2 _ S3 (RP.imp (RP.bind h2) (fun z δ4 h4 w4 C4 H4 e4 S4 d4 => ?_) (PXe.mono ((e1.trans e2).trans e3)))
    obtain ⟨z', hz', q⟩ := RP.lift h4
    refine hr' y z z' hz' w w4 C4 H4 _ S4.ch (dp_ex (e3.trans e4) _ _ d2) d4 (rs_of (C0 := C0) (H0 := H0) (B := B) (σ := σ) (δ := δ4) S4 fun u C5 H5 e5 S5 d5 => ?_)
    split at q
    · rename_i k
      cases d5
      exact ⟨k, rfl, q C5 H5 ((((e1.trans e2).trans e3).trans e4).trans e5) S5⟩
    · exact q.elim
  · rename_i hz
    refine hr x y _ hz v w C2 H2 _ S2.ch (dp_ex e2 _ _ d1) d2 (rs_of (C0 := C0) (H0 := H0) (B := B) (σ := σ) (δ := δ2) S2 fun u C3 H3 e3 S3 d3 => ?_)
    cases d3
    refine ⟨false, rfl, ?_⟩
    rw [if_neg Bool.false_ne_true]
    exact ⟨false, rfl, h2 C3 H3 ((e1.trans e2).trans e3) S3⟩
  · exact h2.elim

/-! ### xs[i], xs[a:b] -/
def dIx : D → D → Option D
  | .list xs, .int i => atI xs i
  | .tuple xs, .int i => atI xs i
  | .str s, .int i => if s.length ≤ LINE then (atI s.cps.toList i).map fun c => .str ⟨#[c]⟩ else none
  | _, _ => none
theorem dpa_atI {K : PySem.W.Frag} {C : Hp} {vs : List V} {ds : List D} {i : Int} {d : D} (h : DqAll K C vs ds) (e : atI ds i = some d) : ∃ v, atI vs i = some v ∧ Dq K C v d := by
  unfold atI at e ⊢
  rw [dpa_len h]
  cases q : ixN ds.length i with
  | none => rw [q] at e; cases e
  | some j =>
    rw [q] at e
    exact dpa_get h e
theorem ro_ix {K : PySem.W.Frag} : RO K (rIx K) dIx := by
  intro x y z hz v w C H Q e hv hw q
  unfold dIx at hz
  split at hz
  · cases hw
    cases hv with
    | lst h1 h2 =>
      obtain ⟨u, hu, d⟩ := dpa_atI h2 hz
      exact .inl ⟨_, _, _, u, rfl, rfl, ex_l e h1, hu, q.1 _ d⟩
  · cases hw
    cases hv with
    | tup h1 h2 =>
      obtain ⟨u, hu, d⟩ := dpa_atI h2 hz
      exact .inr (.inl ⟨_, _, _, u, rfl, rfl, ex_t e h1, hu, q.1 _ d⟩)
  · split at hz
    · rename_i s i hs
      cases hw
      cases hv
      cases k : atI s.cps.toList i with
      | none => rw [k] at hz; cases hz
      | some c =>
        rw [k] at hz
        cases hz
        exact .inr (.inr ⟨_, _, c, rfl, rfl, by rw [line_eq]; exact hs, k, q.1 _ (.str _)⟩)
    · cases hz
  · cases hz
theorem de_ix (ha : DE X EC W a ma) (hb : DE X EC W b mb) (hs : PlainIx b := by exact fun _ _ => rfl) : DE X EC W (.Subscript a b pos) (mOp dIx ma mb) := by
  obtain ⟨ta, pa, ra⟩ := ha.ex
  obtain ⟨tb, pb, rb⟩ := hb.ex
  refine ⟨_, pe_ix ix_seq pa pb hs, fun C0 H0 B C H σ δ Q S h => ra C0 H0 B C H σ δ _ S (RP.imp (RP.bind h) (fun x δ1 h1 v C1 H1 e1 S1 d1 => ?_) fun c d δ h => h)⟩
  refine rb C0 H0 B C1 H1 σ δ1 _ S1 (RP.imp (RP.bind h1) (fun y δ2 h2 w C2 H2 e2 S2 d2 => ?_) (PXe.mono e1))
  obtain ⟨z, hz, q⟩ := RP.lift h2
  exact ro_ix x y z hz v w C2 H2 Q S2.ch (dp_ex e2 _ _ d1) d2 (rs_of S2 (PKe.mono (e1.trans e2) _ _ q))
structure DO (X : Cx) (EC : ECl) (W : WX) (e : Option Expr) (m : M (Option Int)) : Prop where
  ex : ∃ te, PO X e te ∧ ∀ C0 H0 B C H σ δ Q, SR X.K C0 H0 B C H σ δ → RP (m δ) (fun o δ => ∀ C2 H2, Ex C C2 → SR X.K C0 H0 B C2 H2 σ δ → Q o H2) (PXe X.K EC W C0 H0 B C σ) → te σ H Q
def mNoPart : M (Option Int) := fun δ => .ok none δ
def mPart (a : M D) : M (Option Int) := fun δ => (a δ).bind fun x δ => match x with
  | .int i => .ok (some i) δ
  | _ => .no
theorem do_none : DO X EC W none mNoPart := ⟨_, po_none, fun C0 H0 B C H σ δ Q S h => h C H (Ex.refl C) S⟩
theorem do_some (h : DE X EC W e ma) : DO X EC W (some e) (mPart ma) := by
  obtain ⟨te, pe, re⟩ := h.ex
  refine ⟨_, po_some pe, fun C0 H0 B C H σ δ Q S h => re C0 H0 B C H σ δ _ S (RP.imp (RP.bind h) (fun x δ1 h1 v C1 H1 e1 S1 d1 => ?_) fun c d δ h => h)⟩
  split at h1
  · rename_i i
    cases d1
    exact ⟨i, rfl, h1 C1 H1 e1 S1⟩
  · exact h1.elim
def cutL {α : Type} (xs : List α) (lo hi : Option Int) : List α := (xs.drop (HT.sIx xs.length 0 lo)).take (HT.sIx xs.length xs.length hi - HT.sIx xs.length 0 lo)
def dSl (x : D) (lo hi : Option Int) : Option D := match x with
  | .list xs => some (.list (cutL xs lo hi))
  | .tuple xs => some (.tuple (cutL xs lo hi))
  | .str s => if s.length ≤ LINE then some (.str (cutS s lo hi)) else none
  | _ => none
def mSl (a : M D) (lo hi : M (Option Int)) : M D := fun δ => (a δ).bind fun x δ => (lo δ).bind fun l δ => (hi δ).bind fun u δ => R.lift (dSl x l u) δ
def rSlA3 (K : PySem.W.Frag) : V → Option Int → Option Int → Hp → VK → Prop := fun x lo hi H Q => rSlL K x lo hi H Q ∨ (rSlA K x lo hi H Q ∨ rSlS x lo hi H Q)
theorem sl_A {X : Cx} : SlR X (rSlA3 X.K) := sl_list.or (sl_tupA.or sl_str)
theorem dpa_cut {K : PySem.W.Frag} {C : Hp} {vs : List V} {ds : List D} (lo hi : Option Int) (h : DqAll K C vs ds) : DqAll K C (cutV vs lo hi) (cutL ds lo hi) := by
  unfold cutV cutL
  rw [dpa_len h]
  exact dpa_take _ (dpa_drop _ h)
theorem rs_sl {K : PySem.W.Frag} {x z : D} {lo hi : Option Int} (hz : dSl x lo hi = some z) {v : V} {C H : Hp} {Q : VK} (e : Ex C H) (hv : Dq K C v x) (q : Rs K C H z Q) : rSlA3 K v lo hi H Q := by
  unfold dSl at hz
  split at hz
  · cases hz
    cases hv with
    | lst h1 h2 =>
      exact .inl ⟨_, _, rfl, ex_l e h1, fun p hp => q.2 p _ hp (.lst (SqL.of upd_same) (dpAll_ex (Ex.new (free_of e hp)) _ _ (dpa_cut lo hi h2)))⟩
  · cases hz
    cases hv with
    | tup h1 h2 =>
      refine .inr (.inl ⟨_, _, rfl, ex_t e h1, fun hw => ?_, fun _ p hp => q.2 p _ hp (.tup (SqT.of upd_same) (dpAll_ex (Ex.new (free_of e hp)) _ _ (dpa_cut lo hi h2)))⟩)
      have l := dpa_len h2
      rename_i xs a ys
      have e1 : cutL xs lo hi = xs := by
        unfold cutL
        rw [← l, hw.1, hw.2, List.drop_zero, Nat.sub_zero, l, List.take_length]
      rw [e1] at q
      exact q.1 _ (.tup h1 h2)
  · split at hz
    · rename_i hs
      cases hz
      cases hv
      exact .inr (.inr ⟨_, rfl, by rw [line_eq]; exact hs, q.1 _ (.str _)⟩)
    · cases hz
  · cases hz
theorem de_sl {lo hi : Option Expr} {ml mh : M (Option Int)} (ha : DE X EC W a ma) (hl : DO X EC W lo ml) (hh : DO X EC W hi mh) : DE X EC W (.Subscript a (.Slice lo hi none p2) pos) (mSl ma ml mh) := by
  obtain ⟨ta, pa, ra⟩ := ha.ex
  obtain ⟨tb, pb, rb⟩ := hl.ex
  obtain ⟨tc, pc, rc⟩ := hh.ex
  refine ⟨_, pe_slice sl_A pa pb pc, fun C0 H0 B C H σ δ Q S h => ra C0 H0 B C H σ δ _ S (RP.imp (RP.bind h) (fun x δ1 h1 v C1 H1 e1 S1 d1 => ?_) fun c d δ h => h)⟩
  refine rb C0 H0 B C1 H1 σ δ1 _ S1 (RP.imp (RP.bind h1) (fun l δ2 h2 C2 H2 e2 S2 => ?_) (PXe.mono e1))
  refine rc C0 H0 B C2 H2 σ δ2 _ S2 (RP.imp (RP.bind h2) (fun u δ3 h3 C3 H3 e3 S3 => ?_) (PXe.mono (e1.trans e2)))
  obtain ⟨z, hz, q⟩ := RP.lift h3
  exact rs_sl hz S3.ch (dp_ex (e2.trans e3) _ _ d1) (rs_of S3 (PKe.mono ((e1.trans e2).trans e3) _ _ q))

/-! ### constants of the module -/
theorem de_glob {x : Str} {v : V} {u : Value} {d : D} (hg : Gl X x) (hm : X.mg x = some u) (r : RelV v u) (hd : ∀ C, Dq X.K C v d) (hdb : (x == ("__debug__" : Str)) = false := by decide) : DE X EC W (.Name x pos) (mC d) := de_con (pe_glob hg hm r hdb) hd
/-- a tuple of the module -/
def KTup (K : PySem.W.Frag) (a : Addr) (ds : List D) : Prop := ∃ (o : Obj) (its : Array Value) (n : Nat) (xs : List V), K.lookup a = some o ∧ o.cls = .type "tuple" ∧ o.data = .seq its n ∧ its.size ≤ sizeLine ∧ Vals xs its.toList ∧ ∀ C, DqAll K C xs ds
theorem KTup.dq {K : PySem.W.Frag} {a : Addr} {ds : List D} (h : KTup K a ds) (C : Hp) : Dq K C (.ref a) (.tuple ds) := by
  obtain ⟨o, its, n, xs, h1, h2, h3, h4, h5, h6⟩ := h
  exact .tup (.inr ⟨o, its, n, h1, h2, h3, h4, h5⟩) (h6 C)

/-! ### isinstance -/
def tyD (x : D) : String := match x with | .none => "NoneType" | .bool _ => "bool" | .int _ => "int" | .str _ => "str" | .list _ => "list" | .tuple _ => "tuple" | .dict _ => "dict"
theorem ty_of {K : PySem.W.Frag} {C H : Hp} {v : V} {x : D} (e : Ex C H) (h : Dq K C v x) : TyX K H v (.type (tyD x)) := by
  cases h with
  | non => exact .base .non
  | bl b => exact .base (.bl b)
  | int i => exact .base (.int i)
  | str s => exact .base (.str s)
  | lst h1 h2 =>
    rcases ex_l e h1 with (h | ⟨o, h⟩) | ⟨o, its, n, h1, h2, _⟩
    · exact .base (.lst h)
    · exact .base (.frz h)
    · exact .kList h1 h2
  | tup h1 h2 =>
    rcases ex_t e h1 with (h | ⟨o, h⟩) | ⟨o, its, n, h1, h2, _⟩
    · exact .base (.tup h)
    · exact .fTuple h
    · exact .kTuple h1 h2
/-- a value of the built-in types is one of T: bool is int -/
def isT (T t : String) : Bool := t == T || (T == "int" && t == "bool")
def isD (T : String) (x : D) : Bool := isT T (tyD x)
/-- T one of the types that are asked for -/
def TyKnown (T : String) : Prop := T = "int" ∨ T = "bool" ∨ T = "str" ∨ T = "list" ∨ T = "tuple"
theorem kitT_of {T t : String} (h : TyKnown T) (ht : t = "NoneType" ∨ TyKnown t) : kitB t T = some (isT T t) := by
  rcases h with rfl | rfl | rfl | rfl | rfl <;> rcases ht with rfl | rfl | rfl | rfl | rfl | rfl <;> decide +kernel
theorem kitB_of {T : String} (h : TyKnown T) (x : D) (hd : ∀ k, x ≠ .dict k) : kitB (tyD x) T = some (isD T x) := by
  refine kitT_of h ?_
  cases x with
  | none => exact .inl rfl
  | bool b => exact .inr (.inr (.inl rfl))
  | int i => exact .inr (.inl rfl)
  | str s => exact .inr (.inr (.inr (.inl rfl)))
  | list xs => exact .inr (.inr (.inr (.inr (.inl rfl))))
  | tuple xs => exact .inr (.inr (.inr (.inr (.inr rfl))))
  | dict k => exact absurd rfl (hd k)
theorem dq_ndict {K : PySem.W.Frag} {C : Hp} {v : V} {x : D} (h : Dq K C v x) : ∀ k, x ≠ .dict k := fun k z => by subst z; cases h
def mIs (T : String) (a : M D) : M D := fun δ => (a δ).bind fun x δ => .ok (.bool (isD T x)) δ
theorem de_isi {T : String} {x : Str} (hT : TyKnown T) (ha : DE X EC W a ma) (hg : Gl X "isinstance") (hm : X.mg "isinstance" = none) (hgT : Gl X x) (hmT : X.mg x = none) (hbT : bootBuiltins x = some (.type T)) (hnx : x ≠ "__name__" := by decide) (hdx : (x == ("__debug__" : Str)) = false := by decide)
    {pT : Pos} (he : starEach (a :: [.Name x pT]) X.env = (false, eval a X.env) :: starEach [.Name x pT] X.env := by rfl)
    (he2 : starEach (.Name x pT :: []) X.env = (false, eval (.Name x pT) X.env) :: starEach [] X.env := by rfl) (hpl : (backTo pos (starEach [Expr.Name x pT] X.env)).any (·.1) = false := by rfl) :
    DE X EC W (.Call (.Name "isinstance" p) [a, .Name x pT] [] pos) (mIs T ma) := by
  obtain ⟨ta, pa, ra⟩ := ha.ex
  refine ⟨_, pe_callB call_isi hg hm (by decide +kernel) (pa_cons pa (pa_cons (pe_bltn (v := .ty T) hgT hmT hbT rfl hnx hdx) pa_nil he2) he) (by decide) (by decide) he hpl, fun C0 H0 B C H σ δ Q S h => ra C0 H0 B C H σ δ _ S (RP.imp (RP.bind h) (fun x δ1 h1 v C1 H1 e1 S1 d1 => ?_) fun c d δ h => h)⟩
  have k := kitB_of hT x (dq_ndict d1)
  exact ⟨v, .ty T, .type (tyD x), .type T, isD T x, rfl, .ty T, ty_of S1.ch d1, kit_ty k, h1 _ C1 H1 e1 S1 (.bl _)⟩
def mIs2 (T U : String) (a : M D) : M D := fun δ => (a δ).bind fun x δ => .ok (.bool (isD T x || isD U x)) δ
theorem de_isi2 {T U : String} {x y : Str} (hT : TyKnown T) (hU : TyKnown U) (ha : DE X EC W a ma) (hg : Gl X "isinstance") (hm : X.mg "isinstance" = none) (hgT : Gl X x) (hmT : X.mg x = none) (hbT : bootBuiltins x = some (.type T)) (hgU : Gl X y) (hmU : X.mg y = none) (hbU : bootBuiltins y = some (.type U))
    (hnx : x ≠ "__name__" := by decide) (hdx : (x == ("__debug__" : Str)) = false := by decide) (hny : y ≠ "__name__" := by decide) (hdy : (y == ("__debug__" : Str)) = false := by decide)
    {pT pU pt : Pos} {k1} (he : starEach (a :: [.Tuple [.Name x pT, .Name y pU] k1 pt]) X.env = (false, eval a X.env) :: starEach [.Tuple [.Name x pT, .Name y pU] k1 pt] X.env := by rfl)
    (he2 : starEach (.Tuple [.Name x pT, .Name y pU] k1 pt :: []) X.env = (false, eval (.Tuple [.Name x pT, .Name y pU] k1 pt) X.env) :: starEach [] X.env := by rfl)
    (he3 : starEach (.Name x pT :: [.Name y pU]) X.env = (false, eval (.Name x pT) X.env) :: starEach [.Name y pU] X.env := by rfl)
    (he4 : starEach (.Name y pU :: []) X.env = (false, eval (.Name y pU) X.env) :: starEach [] X.env := by rfl)
    (hpl : (backTo pos (starEach [Expr.Tuple [.Name x pT, .Name y pU] k1 pt] X.env)).any (·.1) = false := by rfl) :
    DE X EC W (.Call (.Name "isinstance" p) [a, .Tuple [.Name x pT, .Name y pU] k1 pt] [] pos) (mIs2 T U ma) := by
  obtain ⟨ta, pa, ra⟩ := ha.ex
  refine ⟨_, pe_callB call_isiT hg hm (by decide +kernel) (pa_cons pa (pa_cons (pe_tup (pa_cons (pe_bltn (v := .ty T) hgT hmT hbT rfl hnx hdx) (pa_cons (pe_bltn (v := .ty U) hgU hmU hbU rfl hny hdy) pa_nil he4) he3)) pa_nil he2) he) (by decide) (by decide) he hpl, fun C0 H0 B C H σ δ Q S h => ra C0 H0 B C H σ δ _ S (RP.imp (RP.bind h) (fun x δ1 h1 v C1 H1 e1 S1 d1 => ?_) fun c d δ h => h)⟩
  have k := kitB_of hT x (dq_ndict d1)
  have k' := kitB_of hU x (dq_ndict d1)
  refine ⟨by show 2 ≤ sizeLine; decide, fun tp htp => ?_⟩
  have S2 := S1.new (o := .tup [.ty T, .ty U]) htp
  refine ⟨v, tp, [.ty T, .ty U], .type (tyD x), [.type T, .type U], isD T x || isD U x, rfl, upd_same, .cons (.ty T) (.cons (.ty U) .nil), ty_of (S1.ch.trans (Ex.new htp)) d1, ?_, h1 _ _ _ (e1.trans (Ex.new (free_of S1.ch htp))) S2 (.bl _)⟩
  refine kitAny_cons (kit_ty k) (fun hb => ?_) (fun hb => by rw [hb]; rfl)
  rw [hb, Bool.false_or]
  exact kitAny_cons (kit_ty k') (fun hb' => by rw [hb']; exact kitAny_nil) fun hb' => hb'
end

/-! ### built-ins -/
section
variable {K : PySem.W.Frag}
def rLenA (K : PySem.W.Frag) : List V → Hp → VK → Prop := fun xs H Q => ∃ x n, xs = [x] ∧ LenV K x H n ∧ Q (.int n) H
def dLen : List D → Option D
  | [.str s] => if s.length ≤ LINE then some (.int s.length) else none
  | [.list xs] => some (.int xs.length)
  | [.tuple xs] => some (.int xs.length)
  | _ => none
theorem rc_len : RCf K (rLenA K) dLen := by
  intro xs z hz vs C H Q e hv q
  unfold dLen at hz
  split at hz
  · split at hz
    · rename_i hs
      cases hz
      cases hv with
      | cons h t =>
        cases t
        cases h
        exact ⟨_, _, rfl, ⟨by rw [line_eq]; exact hs, rfl⟩, q.1 _ (.int _)⟩
    · cases hz
  · cases hz
    cases hv with
    | cons h t =>
      cases t
      cases h with
      | lst h1 h2 =>
        refine ⟨_, _, rfl, .inl ⟨_, ex_l e h1, rfl⟩, ?_⟩
        rw [dpa_len h2]
        exact q.1 _ (.int _)
  · cases hz
    cases hv with
    | cons h t =>
      cases t
      cases h with
      | tup h1 h2 =>
        refine ⟨_, _, rfl, .inr ⟨_, ex_t e h1, rfl⟩, ?_⟩
        rw [dpa_len h2]
        exact q.1 _ (.int _)
  · cases hz
def rAbsA : List V → Hp → VK → Prop := fun xs H Q => ∃ i, xs = [.int i] ∧ Q (.int (if i < 0 then -i else i)) H
def dAbs : List D → Option D
  | [.int i] => some (.int (if i < 0 then -i else i))
  | _ => none
theorem rc_abs : RCf K rAbsA dAbs := by
  intro xs z hz vs C H Q e hv q
  unfold dAbs at hz
  split at hz
  · cases hz
    cases hv with
    | cons h t =>
      cases t
      cases h
      exact ⟨_, rfl, q.1 _ (.int _)⟩
  · cases hz
def rIntA : List V → Hp → VK → Prop := fun xs H Q => ((∃ i, xs = [.int i] ∧ Q (.int i) H) ∨ ∃ k, xs = [.bl k] ∧ Q (.int (if k then 1 else 0)) H) ∨ ∃ a n, xs = [.str a] ∧ PySem.intText? a = some n ∧ a.length ≤ 640 ∧ Q (.int n) H
theorem call_intA {X : Cx} : CallR X (.type "int") rIntA := call_int1.or call_int_str
def dInt : List D → Option D
  | [.int i] => some (.int i)
  | [.bool k] => some (.int (if k then 1 else 0))
  | [.str a] => if a.length ≤ 640 then (PySem.intText? a).map .int else none
  | _ => none
theorem rc_int : RCf K rIntA dInt := by
  intro xs z hz vs C H Q e hv q
  unfold dInt at hz
  split at hz
  · cases hz
    cases hv with
    | cons h t =>
      cases t
      cases h
      exact .inl (.inl ⟨_, rfl, q.1 _ (.int _)⟩)
  · cases hz
    cases hv with
    | cons h t =>
      cases t
      cases h
      exact .inl (.inr ⟨_, rfl, q.1 _ (.int _)⟩)
  · split at hz
    · rename_i a hl
      cases hv with
      | cons h t =>
        cases t
        cases h
        cases k : PySem.intText? a with
        | none => rw [k] at hz; cases hz
        | some n =>
          rw [k] at hz
          cases hz
          exact .inr ⟨_, n, rfl, k, hl, q.1 _ (.int _)⟩
    · cases hz
  · cases hz
def rStrA : List V → Hp → VK → Prop := fun xs H Q => ∃ i, xs = [.int i] ∧ i.natAbs.log2 < 1920 ∧ Q (.str (toString i)) H
def dStr : List D → Option D
  | [.int i] => if i.natAbs.log2 < 1920 then some (.str (toString i)) else none
  | _ => none
theorem rc_str : RCf K rStrA dStr := by
  intro xs z hz vs C H Q e hv q
  unfold dStr at hz
  split at hz
  · split at hz
    · rename_i hl
      cases hz
      cases hv with
      | cons h t =>
        cases t
        cases h
        exact ⟨_, rfl, hl, q.1 _ (.str _)⟩
    · cases hz
  · cases hz
def rM2 (g : Int → Int → Int) : List V → Hp → VK → Prop := fun xs H Q => ∃ i j, xs = [.int i, .int j] ∧ Q (.int (g i j)) H
def dM2 (g : Int → Int → Int) : List D → Option D
  | [.int i, .int j] => some (.int (g i j))
  | _ => none
theorem rc_m2 {g : Int → Int → Int} : RCf K (rM2 g) (dM2 g) := by
  intro xs z hz vs C H Q e hv q
  unfold dM2 at hz
  split at hz
  · cases hz
    cases hv with
    | cons h t =>
      cases h
      cases t with
      | cons h t =>
        cases t
        cases h
        exact ⟨_, _, rfl, q.1 _ (.int _)⟩
  · cases hz
theorem call_maxA {X : Cx} (hc : X.calm = true) : CallR X (.builtin "max") (rM2 fun i j => if j > i then j else i) := call_max2 hc
theorem call_minA {X : Cx} (hc : X.calm = true) : CallR X (.builtin "min") (rM2 fun i j => if j < i then j else i) := call_min2 hc
def dMax := dM2 fun i j => if j > i then j else i
def dMin := dM2 fun i j => if j < i then j else i
def dAll : List D → Option D
  | [.list xs] => (dBls xs).map fun bs => .bool (bs.all id)
  | _ => none
def dAny : List D → Option D
  | [.list xs] => (dBls xs).map fun bs => .bool (bs.any id)
  | _ => none
theorem rc_all : RCf K (rAll K) dAll := by
  intro xs z hz vs C H Q e hv q
  unfold dAll at hz
  split at hz
  · rename_i ys
    cases k : dBls ys with
    | none => rw [k] at hz; cases hz
    | some bs =>
      rw [k] at hz
      cases hz
      have e1 := dBls_eq k
      subst e1
      cases hv with
      | cons h t =>
        cases t
        cases h with
        | lst h1 h2 =>
          have e2 := dpa_bls h2
          subst e2
          exact ⟨_, bs, rfl, ex_l e h1, q.1 _ (.bl _)⟩
  · cases hz
theorem rc_any : RCf K (rAny K) dAny := by
  intro xs z hz vs C H Q e hv q
  unfold dAny at hz
  split at hz
  · rename_i ys
    cases k : dBls ys with
    | none => rw [k] at hz; cases hz
    | some bs =>
      rw [k] at hz
      cases hz
      have e1 := dBls_eq k
      subst e1
      cases hv with
      | cons h t =>
        cases t
        cases h with
        | lst h1 h2 =>
          have e2 := dpa_bls h2
          subst e2
          exact ⟨_, bs, rfl, ex_l e h1, q.1 _ (.bl _)⟩
  · cases hz
def dSum : List D → Option D
  | [.list xs] => (dInts xs).map fun ns => .int ns.sum
  | _ => none
theorem rc_sum : RCf K (rSum K) dSum := by
  intro xs z hz vs C H Q e hv q
  unfold dSum at hz
  split at hz
  · rename_i ys
    cases k : dInts ys with
    | none => rw [k] at hz; cases hz
    | some bs =>
      rw [k] at hz
      cases hz
      have e1 := dInts_eq k
      subst e1
      cases hv with
      | cons h t =>
        cases t
        cases h with
        | lst h1 h2 =>
          have e2 := dpa_ints h2
          subst e2
          exact ⟨_, bs, rfl, ex_l e h1, q.1 _ (.int _)⟩
  · cases hz
def rTupA (K : PySem.W.Frag) : List V → Hp → VK → Prop := fun xs H Q => ∃ p ys, xs = [.ref p] ∧ ((SqL K H p ys ∧ ∀ l, H l = none → Q (.ref l) (upd H l (.tup ys))) ∨ (SqT K H p ys ∧ Q (.ref p) H))
def dTuple : List D → Option D
  | [.list xs] => some (.tuple xs)
  | [.tuple xs] => some (.tuple xs)
  | _ => none
theorem rc_tuple : RCf K (rTupA K) dTuple := by
  intro xs z hz vs C H Q e hv q
  unfold dTuple at hz
  split at hz
  · cases hz
    cases hv with
    | cons h t =>
      cases t
      cases h with
      | lst h1 h2 => exact ⟨_, _, rfl, .inl ⟨ex_l e h1, fun p hp => q.2 p _ hp (.tup (SqT.of upd_same) (dpAll_ex (Ex.new (free_of e hp)) _ _ h2))⟩⟩
  · cases hz
    cases hv with
    | cons h t =>
      cases t
      cases h with
      | tup h1 h2 => exact ⟨_, _, rfl, .inr ⟨ex_t e h1, q.1 _ (.tup h1 h2)⟩⟩
  · cases hz
def rListA (K : PySem.W.Frag) : List V → Hp → VK → Prop := fun xs H Q => ∃ p ys, xs = [.ref p] ∧ (SqL K H p ys ∨ SqT K H p ys) ∧ ∀ l, H l = none → Q (.ref l) (upd H l (.lst ys))
def dList : List D → Option D
  | [.list xs] => some (.list xs)
  | [.tuple xs] => some (.list xs)
  | _ => none
theorem rc_list : RCf K (rListA K) dList := by
  intro xs z hz vs C H Q e hv q
  unfold dList at hz
  split at hz
  · cases hz
    cases hv with
    | cons h t =>
      cases t
      cases h with
      | lst h1 h2 => exact ⟨_, _, rfl, .inl (ex_l e h1), fun p hp => q.2 p _ hp (.lst (SqL.of upd_same) (dpAll_ex (Ex.new (free_of e hp)) _ _ h2))⟩
  · cases hz
    cases hv with
    | cons h t =>
      cases t
      cases h with
      | tup h1 h2 => exact ⟨_, _, rfl, .inr (ex_t e h1), fun p hp => q.2 p _ hp (.lst (SqL.of upd_same) (dpAll_ex (Ex.new (free_of e hp)) _ _ h2))⟩
  · cases hz

/-! ### methods of texts -/
def rJoinA (K : PySem.W.Frag) : V → List V → Hp → VK → Prop := fun x xs H Q => ∃ a p, ∃ ys : List Str, x = .str a ∧ xs = [.ref p] ∧ (SqL K H p (ys.map V.str) ∨ SqT K H p (ys.map V.str)) ∧ (ys.map (·.length)).sum + ys.length * a.length ≤ 16777216 ∧ Q (.str (Txt.join a ys)) H
def joinOk (a : Str) (ys : List Str) : Option D := if (ys.map (·.length)).sum + ys.length * a.length ≤ 16777216 then some (.str (Txt.join a ys)) else none
def dJoin : D → List D → Option D
  | .str a, [.list xs] => (dStrs xs).bind (joinOk a)
  | .str a, [.tuple xs] => (dStrs xs).bind (joinOk a)
  | _, _ => none
theorem rm_join : RMt K (rJoinA K) dJoin := by
  intro x xs z hz v vs C H Q e hv hvs q
  unfold dJoin at hz
  split at hz
  · rename_i a ys
    cases k : dStrs ys with
    | none => rw [k] at hz; cases hz
    | some bs =>
      rw [k] at hz
      have hz : joinOk a bs = some z := hz
      unfold joinOk at hz
      split at hz
      · rename_i hl
        cases hz
        have e1 := dStrs_eq k
        subst e1
        cases hv
        cases hvs with
        | cons h t =>
          cases t
          cases h with
          | lst h1 h2 =>
            have e2 := dpa_strs h2
            subst e2
            exact ⟨a, _, bs, rfl, rfl, .inl (ex_l e h1), hl, q.1 _ (.str _)⟩
      · cases hz
  · rename_i a ys
    cases k : dStrs ys with
    | none => rw [k] at hz; cases hz
    | some bs =>
      rw [k] at hz
      have hz : joinOk a bs = some z := hz
      unfold joinOk at hz
      split at hz
      · rename_i hl
        cases hz
        have e1 := dStrs_eq k
        subst e1
        cases hv
        cases hvs with
        | cons h t =>
          cases t
          cases h with
          | tup h1 h2 =>
            have e2 := dpa_strs h2
            subst e2
            exact ⟨a, _, bs, rfl, rfl, .inr (ex_t e h1), hl, q.1 _ (.str _)⟩
      · cases hz
  · cases hz
def rSplitA : V → List V → Hp → VK → Prop := fun x xs H Q => ∃ a b, x = .str a ∧ xs = [.str b] ∧ (b.length == 0) = false ∧ a.length + 2 ≤ sizeLine ∧ rNewStrs (Txt.split a b) H Q
def dSplit : D → List D → Option D
  | .str a, [.str b] => if (b.length == 0) = false ∧ a.length + 2 ≤ LINE then some (.list ((Txt.split a b).map .str)) else none
  | _, _ => none
theorem rm_split : RMt K rSplitA dSplit := by
  intro x xs z hz v vs C H Q e hv hvs q
  unfold dSplit at hz
  split at hz
  · split at hz
    · rename_i hl
      cases hz
      cases hv
      cases hvs with
      | cons h t =>
        cases t
        cases h
        exact ⟨_, _, rfl, rfl, hl.1, by rw [line_eq]; exact hl.2, fun p hp => q.2 p _ hp (.lst (SqL.of upd_same) strs_dpa)⟩
    · cases hz
  · cases hz
def rWordsA : V → List V → Hp → VK → Prop := fun x xs H Q => ∃ a, x = .str a ∧ xs = [] ∧ a.length + 2 ≤ sizeLine ∧ rNewStrs (Txt.words a) H Q
def dWords : D → List D → Option D
  | .str a, [] => if a.length + 2 ≤ LINE then some (.list ((Txt.words a).map .str)) else none
  | _, _ => none
theorem rm_words : RMt K rWordsA dWords := by
  intro x xs z hz v vs C H Q e hv hvs q
  unfold dWords at hz
  split at hz
  · split at hz
    · rename_i hl
      cases hz
      cases hv
      cases hvs
      exact ⟨_, rfl, rfl, by rw [line_eq]; exact hl, fun p hp => q.2 p _ hp (.lst (SqL.of upd_same) strs_dpa)⟩
    · cases hz
  · cases hz
/-- s.index(t), t there -/
def rIndexS : V → List V → Hp → VK → Prop := fun x xs H Q => ∃ (a b : Str) (k : Nat), x = .str a ∧ xs = [.str b] ∧ Txt.index0 a b = some k ∧ Q (.int (k : Nat)) H
theorem mt_indexS {X : Cx} : MtR X "str.index" rIndexS := by
  intro pins s σ H x xs v us Q I rx rs h
  obtain ⟨a, b, k, rfl, rfl, hk, w⟩ := h
  obtain ⟨t, rfl⟩ := rx
  cases rs with
  | cons r1 rs =>
    cases rs
    obtain ⟨u, rfl⟩ := r1
    cases q : Builtin.Str.occurrences a b 0 a.length 1 with
    | nil =>
      unfold Txt.index0 at hk
      rw [q] at hk
      cases hk
    | cons k' rest =>
      unfold Txt.index0 at hk
      rw [q] at hk
      cases hk
      exact PySem.SC.index q ⟨.int (k : Nat), H, I.tok _, ⟨_, rfl⟩, w⟩
def dIndexS : D → List D → Option D
  | .str a, [.str b] => (Txt.index0 a b).map fun k => .int (k : Nat)
  | _, _ => none
theorem rm_indexS : RMt K rIndexS dIndexS := by
  intro x xs z hz v vs C H Q e hv hvs q
  unfold dIndexS at hz
  split at hz
  · rename_i a b
    cases k : Txt.index0 a b with
    | none => rw [k] at hz; cases hz
    | some n =>
      rw [k] at hz
      cases hz
      cases hv
      cases hvs with
      | cons h t =>
        cases t
        cases h
        exact ⟨_, _, n, rfl, rfl, k, q.1 _ (.int _)⟩
  · cases hz
def rStartsA : V → List V → Hp → VK → Prop := fun x xs H Q => ∃ a b, x = .str a ∧ xs = [.str b] ∧ Q (.bl (Txt.startswith a b)) H
def dStarts : D → List D → Option D
  | .str a, [.str b] => some (.bool (Txt.startswith a b))
  | _, _ => none
theorem rm_starts : RMt K rStartsA dStarts := by
  intro x xs z hz v vs C H Q e hv hvs q
  unfold dStarts at hz
  split at hz
  · cases hz
    cases hv
    cases hvs with
    | cons h t =>
      cases t
      cases h
      exact ⟨_, _, rfl, rfl, q.1 _ (.bl _)⟩
  · cases hz
end
section
variable {X : Cx} {EC : ECl} {W : WX} {a b c e o : Expr} {es : List Expr} {ma mb mc mo : M D} {mes : M (List D)} {pos p p2 apos : Pos}
theorem mMt_str {f : D → List D → Option D} (hf : ∀ x xs z, f x xs = some z → ∃ s, x = .str s) (x : D) (δ : Dl) (xs : List D) {k : D → Dl → Prop} {xx : Nat → D → Dl → Prop} (h : RP (R.lift (f x xs) δ) k xx) : ∃ s, x = .str s := by
  obtain ⟨z, hz, _⟩ := RP.lift h
  exact hf x xs z hz
/-- a text's method of one argument; the text is looked at first -/
def mM1 (f : D → List D → Option D) (o a : M D) : M D := fun δ => (o δ).bind fun x δ => match x with
  | .str s => (a δ).bind fun y δ => R.lift (f (.str s) [y]) δ
  | _ => .no
def mM0 (f : D → List D → Option D) (o : M D) : M D := fun δ => (o δ).bind fun x δ => match x with
  | .str s => R.lift (f (.str s) []) δ
  | _ => .no
theorem de_m1 {id : String} {name : Str} {r : V → List V → Hp → VK → Prop} {f : D → List D → Option D} (slot : Slot "str" name id) (ty : typeOf (.builtin id) = pure (.type "method_descriptor")) (rule : MtR X id r) (hf : RMt X.K r f) (ho : DE X EC W o mo) (he : DE X EC W e ma)
    (hs : starEach [e] X.env = [(false, eval e X.env)] := by rfl) (hbase : attributeBase o name X.env (eval o X.env) = eval o X.env := by rfl) (hline : (apos.endLine == pos.line) = true := by rfl) :
    DE X EC W (.Call (.Attribute o name apos) [e] [] pos) (mM1 f mo ma) := by
  obtain ⟨ta, pa, ra⟩ := ho.ex
  obtain ⟨tb, pb, rb⟩ := he.ex
  refine ⟨_, pe_m1 slot ty rule pa pb hs hbase hline, fun C0 H0 B C H σ δ Q S h => ra C0 H0 B C H σ δ _ S (RP.imp (RP.bind h) (fun x δ1 h1 v C1 H1 e1 S1 d1 => ?_) fun c d δ h => h)⟩
  split at h1
  · rename_i s
    cases d1
    refine ⟨⟨s, rfl⟩, rb C0 H0 B C1 H1 σ δ1 _ S1 (RP.imp (RP.bind h1) (fun y δ2 h2 w C2 H2 e2 S2 d2 => ?_) (PXe.mono e1))⟩
    obtain ⟨z, hz, q⟩ := RP.lift h2
    exact hf _ _ z hz _ _ C2 H2 Q S2.ch (.str s) (dpa_one d2) (rs_of S2 (PKe.mono (e1.trans e2) _ _ q))
  · exact h1.elim
theorem de_m0 {id : String} {name : Str} {r : V → List V → Hp → VK → Prop} {f : D → List D → Option D} (slot : Slot "str" name id) (ty : typeOf (.builtin id) = pure (.type "method_descriptor")) (rule : MtR X id r) (hf : RMt X.K r f) (ho : DE X EC W o mo)
    (hbase : attributeBase o name X.env (eval o X.env) = eval o X.env := by rfl) (hline : (apos.endLine == pos.line) = true := by rfl) :
    DE X EC W (.Call (.Attribute o name apos) [] [] pos) (mM0 f mo) := by
  obtain ⟨ta, pa, ra⟩ := ho.ex
  refine ⟨_, pe_m0 slot ty rule pa hbase hline, fun C0 H0 B C H σ δ Q S h => ra C0 H0 B C H σ δ _ S (RP.imp (RP.bind h) (fun x δ1 h1 v C1 H1 e1 S1 d1 => ?_) fun c d δ h => h)⟩
  split at h1
  · rename_i s
    cases d1
    refine ⟨⟨s, rfl⟩, ?_⟩
    obtain ⟨z, hz, q⟩ := RP.lift h1
    exact hf _ _ z hz _ _ C1 H1 Q S1.ch (.str s) .nil (rs_of S1 (PKe.mono e1 _ _ q))
  · exact h1.elim
end
end DL
end Part_DLd

section Part_DLe
set_option Elab.async false
set_option linter.all false
set_option maxRecDepth 100000
set_option autoImplicit false
set_option maxHeartbeats 2000000
namespace DL
open PySem PySem.Spec PyProof.Rows L2 Evl

/-! ### slots that are set -/
def setV (j : Nat) (d : D) (δ : Dl) : Option Dl := match δ[j]? with
  | some (.var true _) => none
  | some _ => some (δ.set j (.val d))
  | none => none
section
variable {K : PySem.W.Frag} {C0 H0 C H C2 H2 : Hp} {B : List (Nat × Addr)} {σ : L2.St} {δ δ' : Dl}
theorem setV_some {j : Nat} {d : D} (h : setV j d δ = some δ') : j < δ.length ∧ (∀ ds, δ[j]? ≠ some (.var true ds)) ∧ δ' = δ.set j (.val d) := by
  unfold setV at h
  cases q : δ[j]? with
  | none => rw [q] at h; cases h
  | some c =>
    have hj : j < δ.length := (List.getElem?_eq_some_iff.mp q).1
    rw [q] at h
    cases c with
    | non => cases h; exact ⟨hj, fun ds z => by (cases z), rfl⟩
    | val d => cases h; exact ⟨hj, fun ds z => by (cases z), rfl⟩
    | var b ds =>
      cases b with
      | true => cases h
      | false => cases h; exact ⟨hj, fun ds z => by (cases z), rfl⟩
theorem SR.setC (S : SR K C0 H0 B C H σ δ) {j : Nat} {v : V} {c : Cell} (hj : j < δ.length) (hn : ∀ ds, δ[j]? ≠ some (.var true ds)) (hc : ∀ d, c = .val d → Dq K C v d) (hm : ∀ b ds, c = .var b ds → b = false ∧ ∃ l xs, v = .ref l ∧ H0 l = none ∧ C l = none ∧ H l = some (.lst xs) ∧ DqAll K C xs ds ∧ ∀ (i : Nat) (b : Bool) (es : List D), δ[i]? = some (.var b es) → σ[i]? ≠ some (some (.ref l))) :
    SR K C0 H0 B C H (σ.set j (some v)) (δ.set j c) := by
  have hjσ : j < σ.length := by rw [S.len]; exact hj
  have nb : ∀ p ∈ B, p.1 ≠ j := fun p hp z => by
    obtain ⟨ds, _, h1, _⟩ := S.bor p hp
    rw [z] at h1
    exact hn ds h1
  refine ⟨by rw [List.length_set, List.length_set]; exact S.len, S.c0, S.ch, S.fr, S.nw, fun i d h => ?_, fun i ds h => ?_, fun p hp => ?_, fun i ds h => ?_, S.bd1, S.bd2, S.bH0, fun i k ds es hik h1 h2 l hl hl2 => ?_⟩
  · by_cases q : j = i
    · subst q
      rw [List.getElem?_set_self hj] at h
      exact ⟨v, List.getElem?_set_self hjσ, hc d (Option.some.inj h)⟩
    · rw [List.getElem?_set_ne q] at h ⊢
      exact S.val i d h
  · by_cases q : j = i
    · subst q
      rw [List.getElem?_set_self hj] at h
      obtain ⟨_, l, xs, h1, h2, h3, h4, h5, _⟩ := hm false ds (Option.some.inj h)
      exact ⟨l, xs, by rw [List.getElem?_set_self hjσ, h1], h2, h3, h4, h5⟩
    · rw [List.getElem?_set_ne q] at h ⊢
      exact S.own i ds h
  · obtain ⟨ds, xs, h1, h2, h3⟩ := S.bor p hp
    refine ⟨ds, xs, ?_, ?_, h3⟩
    · rw [List.getElem?_set_ne (nb p hp).symm]; exact h1
    · rw [List.getElem?_set_ne (nb p hp).symm]; exact h2
  · by_cases q : j = i
    · subst q
      rw [List.getElem?_set_self hj] at h
      have z := (hm true ds (Option.some.inj h)).1
      cases z
    · rw [List.getElem?_set_ne q] at h
      exact S.btr i ds h
  · by_cases q : j = i
    · subst q
      rw [List.getElem?_set_self hj] at h1
      rw [List.getElem?_set_self hjσ] at hl
      rw [List.getElem?_set_ne hik] at h2 hl2
      obtain ⟨_, l', xs, e1, _, _, _, _, e2⟩ := hm false ds (Option.some.inj h1)
      subst e1
      cases hl
      exact e2 k false es h2 hl2
    · by_cases q' : j = k
      · subst q'
        rw [List.getElem?_set_self hj] at h2
        rw [List.getElem?_set_self hjσ] at hl2
        rw [List.getElem?_set_ne q] at h1 hl
        obtain ⟨_, l', xs, e1, _, _, _, _, e2⟩ := hm false es (Option.some.inj h2)
        subst e1
        cases hl2
        exact e2 i false ds h1 hl
      · rw [List.getElem?_set_ne q] at h1 hl
        rw [List.getElem?_set_ne q'] at h2 hl2
        exact S.odis i k ds es hik h1 h2 l hl hl2
theorem SR.set (S : SR K C0 H0 B C H σ δ) {j : Nat} {v : V} {d : D} (h : setV j d δ = some δ') (hd : Dq K C v d) : SR K C0 H0 B C H (σ.set j (some v)) δ' := by
  obtain ⟨h1, h2, rfl⟩ := setV_some h
  exact S.setC h1 h2 (fun d' z => by cases z; exact hd) fun b ds z => by cases z
/-- a new list is given to a name that may change it -/
def setM (j : Nat) (ds : List D) (δ : Dl) : Option Dl := match δ[j]? with
  | some (.var true _) => none
  | some _ => some (δ.set j (.var false ds))
  | none => none
theorem setM_some {j : Nat} {d : List D} (h : setM j d δ = some δ') : j < δ.length ∧ (∀ ds, δ[j]? ≠ some (.var true ds)) ∧ δ' = δ.set j (.var false d) := by
  unfold setM at h
  cases q : δ[j]? with
  | none => rw [q] at h; cases h
  | some c =>
    have hj : j < δ.length := (List.getElem?_eq_some_iff.mp q).1
    rw [q] at h
    cases c with
    | non => cases h; exact ⟨hj, fun ds z => by (cases z), rfl⟩
    | val d => cases h; exact ⟨hj, fun ds z => by (cases z), rfl⟩
    | var b ds =>
      cases b with
      | true => cases h
      | false => cases h; exact ⟨hj, fun ds z => by (cases z), rfl⟩
/-- what a list of one's own holds is taken as data: it is not changed any more -/
def frz (j : Nat) (δ : Dl) : Option Dl := match δ[j]? with
  | some (.var false ds) => some (δ.set j (.val (.list ds)))
  | some (.val d) => some δ
  | _ => none
theorem SR.frz (S : SR K C0 H0 B C H σ δ) {j : Nat} (h : frz j δ = some δ') : ∃ C2, Ex C C2 ∧ SR K C0 H0 B C2 H σ δ' := by
  unfold DL.frz at h
  split at h
  · rename_i ds q
    cases h
    have hj : j < δ.length := (List.getElem?_eq_some_iff.mp q).1
    obtain ⟨l, xs, h1, h2, h3, h4, h5⟩ := S.own j ds q
    have e2 : Ex C (upd C l (.lst xs)) := Ex.new h3
    refine ⟨upd C l (.lst xs), e2, ⟨by rw [List.length_set]; exact S.len, S.c0.trans e2, fun a o z => ?_, S.fr, fun a z1 z2 => ?_, fun i d z => ?_, fun i es z => ?_, fun p hp => ?_, fun i es z => ?_, S.bd1, S.bd2, S.bH0, fun i k es fs hik z1 z2 => ?_⟩⟩
    · by_cases q : a = l
      · subst q
        rw [upd_same] at z
        rw [← z]
        exact h4
      · rw [upd_ne q] at z
        exact S.ch a o z
    · rw [upd_ne fun q => z1 (by rw [q]; exact h2)]
      exact S.nw a z1 z2
    · by_cases q' : j = i
      · subst q'
        rw [List.getElem?_set_self hj] at z
        cases z
        exact ⟨.ref l, h1, .lst (SqL.of upd_same) (dpAll_ex e2 _ _ h5)⟩
      · rw [List.getElem?_set_ne q'] at z
        obtain ⟨v, w1, w2⟩ := S.val i d z
        exact ⟨v, w1, dp_ex e2 _ _ w2⟩
    · by_cases q' : j = i
      · subst q'
        rw [List.getElem?_set_self hj] at z
        cases z
      · rw [List.getElem?_set_ne q'] at z
        obtain ⟨l', ys, w1, w2, w3, w4, w5⟩ := S.own i es z
        refine ⟨l', ys, w1, w2, ?_, w4, dpAll_ex e2 _ _ w5⟩
        rw [upd_ne fun y => S.odis j i ds es q' q z l h1 (by rw [← y]; exact w1)]
        exact w3
    · obtain ⟨es, ys, w1, w2, w3, w4, w5⟩ := S.bor p hp
      have q' : j ≠ p.1 := fun y => by
        rw [y, w1] at q
        cases q
      refine ⟨es, ys, by rw [List.getElem?_set_ne q']; exact w1, w2, ?_, w4, dpAll_ex e2 _ _ w5⟩
      rw [upd_ne fun y => S.bH0 p hp (by rw [y]; exact h2)]
      exact w3
    · by_cases q' : j = i
      · subst q'
        rw [List.getElem?_set_self hj] at z
        cases z
      · rw [List.getElem?_set_ne q'] at z
        exact S.btr i es z
    · have n1 : j ≠ i := fun y => by
        subst y
        rw [List.getElem?_set_self hj] at z1
        cases z1
      have n2 : j ≠ k := fun y => by
        subst y
        rw [List.getElem?_set_self hj] at z2
        cases z2
      rw [List.getElem?_set_ne n1] at z1
      rw [List.getElem?_set_ne n2] at z2
      exact S.odis i k es fs hik z1 z2
  · cases h
    exact ⟨C, Ex.refl C, S⟩
  · cases h
end

/-! ### targets -/
structure DG (X : Cx) (tg : Expr) (ts : List Nat) (g : D → Dl → Option Dl) : Prop where
  ex : ∃ t, PG X tg t ∧ ∀ C0 H0 B C H σ δ δ' v d (Q : L2.St → Hp → Prop), SR X.K C0 H0 B C H σ δ → Dq X.K C v d → g d δ = some δ' →
    (∀ σ', SR X.K C0 H0 B C H σ' δ' → (∀ vs : List Nat, (∀ k ∈ ts, k ∈ vs) → wipe σ' vs = wipe σ vs) → Q σ' H) → t v σ H Q
theorem wipe_set {σ : L2.St} {j : Nat} {x : Option V} : ∀ {vs : List Nat}, j ∈ vs → wipe (σ.set j x) vs = wipe σ vs
  | [], h => by cases h
  | v :: vs, h => by
    unfold wipe
    by_cases q : j ∈ vs
    · rw [wipe_set q]
    · have e : j = v := by
        rcases List.mem_cons.mp h with e | e
        · exact e
        · exact absurd e q
      subst e
      have out : ∀ ws : List Nat, j ∉ ws → (wipe (σ.set j x) ws).set j none = (wipe σ ws).set j none := by
        intro ws
        induction ws with
        | nil => intro _; show (σ.set j x).set j none = σ.set j none; rw [List.set_set]
        | cons w ws ih =>
          intro hw
          have n1 : j ≠ w := fun z => hw (by rw [z]; exact List.mem_cons_self)
          have n2 : j ∉ ws := fun z => hw (List.mem_cons_of_mem _ z)
          show ((wipe (σ.set j x) ws).set w none).set j none = ((wipe σ ws).set w none).set j none
          rw [List.set_comm _ _ n1.symm, ih n2, List.set_comm _ _ n1.symm]
      exact out vs q
section
variable {X : Cx} {EC : ECl} {W : WX} {a b c e o : Expr} {es : List Expr} {ma mb mc mo : M D} {mes : M (List D)} {pos p p2 apos : Pos} {tg iter : Expr} {ts us : List Nat} {g g2 : D → Dl → Option Dl}
theorem dg_name {j : Nat} {x : Str} (hN : X.N.Nodup) (hi : X.N[j]? = some x) (hx : Loc X.env.scope x) (hf : X.fn x = true ∨ X.env.scope.names.lookup x = some .local := by first | exact .inl rfl | exact .inr rfl | assumption) : DG X (.Name x pos) [j] (setV j) :=
  ⟨_, pg_name hN hi hx hf, fun C0 H0 B C H σ δ δ' v d Q S hd h k => k _ (S.set h hd) fun vs hv => wipe_set (hv j (by simp))⟩
/-- (a, b): a pair -/
def setT2 (g g2 : D → Dl → Option Dl) : D → Dl → Option Dl := fun d δ => match d with
  | .tuple [x, y] => (g x δ).bind (g2 y)
  | _ => none
theorem dg_tup2 {k : Nat} (hc : X.calm = true) (h1 : DG X a ts g) (h2 : DG X b us g2) (hs1 : (assignEach (a :: [b]) X.env).map (·.2) = assign a X.env :: (assignEach [b] X.env).map (·.2) := by rfl) (hs2 : (assignEach (b :: []) X.env).map (·.2) = assign b X.env :: (assignEach [] X.env).map (·.2) := by rfl)
    (hn : (assignEach [a, b] X.env).length = 2 := by rfl) (hst : (assignEach [a, b] X.env).findIdx? (·.1) = none := by rfl) : DG X (.Tuple [a, b] k pos) (ts ++ us) (setT2 g g2) := by
  obtain ⟨t1, p1, r1⟩ := h1.ex
  obtain ⟨t2, p2, r2⟩ := h2.ex
  refine ⟨_, pg_tup hc (pgs_cons p1 (pgs_cons p2 pgs_nil hs2) hs1) hn hst, fun C0 H0 B C H σ δ δ' v d Q S hd h k => ?_⟩
  unfold setT2 at h
  split at h
  · rename_i x y
    cases q : g x δ with
    | none => rw [q] at h; cases h
    | some δ1 =>
      rw [q] at h
      cases hd with
      | tup s t =>
        cases t with
        | cons d1 t =>
          cases t with
          | cons d2 t =>
            cases t
            rename_i a v1 v2
            refine ⟨a, _, rfl, ex_t S.ch s, rfl, v1, _, rfl, r1 C0 H0 B C H σ δ δ1 v1 x _ S d1 q fun σ1 S1 w1 => ⟨v2, _, rfl, r2 C0 H0 B C H σ1 δ1 δ' v2 y _ S1 d2 h fun σ2 S2 w2 => ⟨rfl, k σ2 S2 fun vs hv => ?_⟩⟩⟩
            rw [w2 vs fun k hk => hv k (List.mem_append_right _ hk), w1 vs fun k hk => hv k (List.mem_append_left _ hk)]
  · cases h

/-! ### what is walked -/
structure ItOk (K : PySem.W.Frag) (C1 : Hp) (J : It) (items : List D) : Prop where
  ex : ∃ G Y, Walk J items.length G Y ∧ (∀ H, Ex C1 H → G H) ∧ ∀ i d, items[i]? = some d → ∀ C H x H' (Q : VK), Ex C1 C → Ex C H → Y i H x H' → Rs K C H d Q → Q x H'
structure DI (X : Cx) (EC : ECl) (W : WX) (tg iter : Expr) (m : M (List D)) : Prop where
  ex : ∃ wi, PI X tg iter wi ∧ ∀ C0 H0 B C H σ δ (R : It → Hp → Prop), SR X.K C0 H0 B C H σ δ →
    RP (m δ) (fun items δ => ∀ J C1 H1, Ex C C1 → SR X.K C0 H0 B C1 H1 σ δ → ItOk X.K C1 J items → R J H1) (PXe X.K EC W C0 H0 B C σ) → wi σ H R
/-- a list, a tuple or a text -/
def iSeq (K : PySem.W.Frag) (te : TE) : TI := fun σ H R => te σ H fun x H1 => (∃ a, x = .ref a ∧ (∃ xs, SqL K H1 a xs) ∧ R (Itl K a) H1) ∨ ((∃ a, x = .ref a ∧ (∃ xs, SqT K H1 a xs) ∧ R (Itt K a) H1) ∨ ∃ z, x = .str z ∧ R (Its z) H1)
theorem pi_seq {te : TE} (hl : PE X e te) : PI X tg e (iSeq X.K te) := by
  refine ⟨fun pins s σ H R I h => ?_⟩
  refine thn (hl.run pins s σ H _ I h) fun v s1 ⟨x, H1, I1, r1, q1⟩ => ?_
  rcases q1 with ⟨a, e, ⟨xs, hq⟩, q⟩ | ⟨a, e, ⟨xs, hq⟩, q⟩ | ⟨z, e, q⟩
  · subst e
    cases r1
    obtain ⟨its, rv, p, hz⟩ := I1.list hq
    refine wpAny_pyIter_list p.isList ?_
    refine ⟨s1.heap.objs.size, [s1.heap.objs.size], _, _, H1, rfl, I1.kept (t' := s1.toks) fun b o e => Heap.get?_push_of_some _ e, turn_list a _, ⟨_, Heap.get?_push_size _ rfl, rfl, rfl⟩, fun b hb => ?_, q⟩
    have e : b = s1.heap.objs.size := by simpa using hb
    subst e
    exact I1.fpOk (Nat.le_refl _) (I1.hok.fresh (Nat.le_refl _))
  · subst e
    cases r1
    obtain ⟨its, rv, p, hz⟩ := I1.tuple hq
    refine wpAny_pyIter_tuple (show s1.heap.IsTuple a its.toArray from p) ?_
    refine ⟨s1.heap.objs.size, [s1.heap.objs.size], _, _, H1, rfl, I1.kept (t' := s1.toks) fun b o e => Heap.get?_push_of_some _ e, turn_tuple a _, ⟨_, Heap.get?_push_size _ rfl, rfl, rfl⟩, fun b hb => ?_, q⟩
    have e : b = s1.heap.objs.size := by simpa using hb
    subst e
    exact I1.fpOk (Nat.le_refl _) (I1.hok.fresh (Nat.le_refl _))
  · subst e
    obtain ⟨t, rfl⟩ := r1
    cases ha : z.cps.all (· < 128)
    · exact wpAny_pyIter_wide ha (pi_one (tk := s1.toks) I1 _ (turn_str _ z t "str_iterator" (.inr rfl)) ⟨_, Heap.get?_push_size _ rfl, rfl, rfl⟩ q)
    · exact wpAny_pyIter_ascii ha (pi_one (tk := s1.toks) I1 _ (turn_str _ z t "str_ascii_iterator" (.inl rfl)) ⟨_, Heap.get?_push_size _ rfl, rfl, rfl⟩ q)
def dItems : D → Option (List D)
  | .list xs => some xs
  | .tuple xs => some xs
  | .str s => some (s.cps.toList.map fun c => .str ⟨#[c]⟩)
  | _ => none
def mItems (a : M D) : M (List D) := fun δ => (a δ).bind fun x δ => R.lift (dItems x) δ
theorem it_seq {K : PySem.W.Frag} {C : Hp} {a : Addr} {xs : List V} {ds : List D} (hx : SqL K C a xs) (hd : DqAll K C xs ds) : ItOk K C (Itl K a) ds := by
  refine ⟨fun H => SqL K H a xs, YAt xs, by rw [← dpa_len hd]; exact walk_list, fun H e => ex_l e hx, fun i d hi C2 H x H' Q e1 e2 y q => ?_⟩
  obtain ⟨e, hx⟩ := y
  subst e
  obtain ⟨d', h1, h2⟩ := dpa_get' hd hx
  rw [hi] at h1
  cases h1
  exact q.1 x (dp_ex e1 _ _ h2)
theorem it_tup {K : PySem.W.Frag} {C : Hp} {a : Addr} {xs : List V} {ds : List D} (hx : SqT K C a xs) (hd : DqAll K C xs ds) : ItOk K C (Itt K a) ds := by
  refine ⟨fun H => SqT K H a xs, YAt xs, by rw [← dpa_len hd]; exact walk_tup, fun H e => ex_t e hx, fun i d hi C2 H x H' Q e1 e2 y q => ?_⟩
  obtain ⟨e, hx⟩ := y
  subst e
  obtain ⟨d', h1, h2⟩ := dpa_get' hd hx
  rw [hi] at h1
  cases h1
  exact q.1 x (dp_ex e1 _ _ h2)
theorem it_str {K : PySem.W.Frag} {C : Hp} {z : Str} : ItOk K C (Its z) (z.cps.toList.map fun c => .str ⟨#[c]⟩) := by
  refine ⟨fun _ => True, fun i H v H' => H' = H ∧ ∃ c, z.cps[i]? = some c ∧ v = .str ⟨#[c]⟩, ?_, fun _ _ => trivial, fun i d hi C2 H x H' Q e1 e2 y q => ?_⟩
  · rw [List.length_map, Array.length_toList]
    exact walk_str
  · obtain ⟨e, c, hc, hx⟩ := y
    subst e hx
    rw [List.getElem?_map, Array.getElem?_toList, hc] at hi
    cases hi
    exact q.1 _ (.str _)
theorem di_seq (h : DE X EC W iter ma) : DI X EC W tg iter (mItems ma) := by
  obtain ⟨te, pe, re⟩ := h.ex
  refine ⟨_, pi_seq pe, fun C0 H0 B C H σ δ R S h => re C0 H0 B C H σ δ _ S (RP.imp (RP.bind h) (fun x δ1 h1 v C1 H1 e1 S1 d1 => ?_) fun c d δ h => h)⟩
  obtain ⟨items, hi, q⟩ := RP.lift h1
  unfold dItems at hi
  split at hi
  · cases hi
    cases d1 with
    | lst a b => exact .inl ⟨_, rfl, ⟨_, ex_l S1.ch a⟩, q _ C1 H1 e1 S1 (it_seq a b)⟩
  · cases hi
    cases d1 with
    | tup a b => exact .inr (.inl ⟨_, rfl, ⟨_, ex_t S1.ch a⟩, q _ C1 H1 e1 S1 (it_tup a b)⟩)
  · cases hi
    cases d1
    exact .inr (.inr ⟨_, rfl, q _ C1 H1 e1 S1 it_str⟩)
  · cases hi
def rng (lo hi : Int) : List D := (List.range (hi - lo).toNat).map fun k => .int (lo + (k : Nat))
theorem it_rng {K : PySem.W.Frag} {C : Hp} {lo hi : Int} : ItOk K C (Itr lo (hi - lo).toNat) (rng lo hi) := by
  refine ⟨fun _ => True, YFn fun i => .int (lo + i), ?_, fun _ _ => trivial, fun i d hi C2 H x H' Q e1 e2 y q => ?_⟩
  · unfold rng
    rw [List.length_map, List.length_range]
    exact walk_range
  · obtain ⟨e, hx⟩ := y
    subst e hx
    unfold rng at hi
    rw [List.getElem?_map] at hi
    cases k : (List.range (_ - lo).toNat)[i]? with
    | none => rw [k] at hi; cases hi
    | some n =>
      rw [k] at hi
      cases hi
      have : n = i := by
        rw [List.getElem?_range] at k
        · exact (Option.some.inj k).symm
        · exact (List.getElem?_eq_some_iff.mp k).1 |> fun h => by simpa using h
      subst this
      exact q.1 _ (.int _)
def big (i : Int) : Bool := decide (-(2 ^ 62) ≤ i ∧ i < 2 ^ 62)
def mRng1 (a : M D) : M (List D) := fun δ => (a δ).bind fun x δ => match x with
  | .int i => if big i then .ok (rng 0 i) δ else .no
  | _ => .no
def mRng2 (a b : M D) : M (List D) := fun δ => (a δ).bind fun x δ => (b δ).bind fun y δ => match x, y with
  | .int i, .int j => if big i && big j then .ok (rng i j) δ else .no
  | _, _ => .no
theorem di_rng1 (hg : Gl X "range") (hm : X.mg "range" = none) (h : DE X EC W a ma) (hs : starEach [a] X.env = [(false, eval a X.env)] := by rfl) (hs' : starEach (a :: []) X.env = (false, eval a X.env) :: starEach [] X.env := by rfl) : DI X EC W tg (.Call (.Name "range" p) [a] [] pos) (mRng1 ma) := by
  obtain ⟨te, pe, re⟩ := h.ex
  refine ⟨_, pi_range1 hg hm (pa_cons pe pa_nil hs') hs, fun C0 H0 B C H σ δ R S h => re C0 H0 B C H σ δ _ S (RP.imp (RP.bind h) (fun x δ1 h1 v C1 H1 e1 S1 d1 => ?_) fun c d δ h => h)⟩
  split at h1
  · split at h1
    · rename_i i hb
      cases d1
      have hb := of_decide_eq_true hb
      refine ⟨i, rfl, hb.1, hb.2, h1 _ C1 H1 e1 S1 ?_⟩
      have z := it_rng (K := X.K) (C := C1) (lo := 0) (hi := i)
      rw [Int.sub_zero] at z
      exact z
    · exact h1.elim
  · exact h1.elim
theorem di_rng2 (hg : Gl X "range") (hm : X.mg "range" = none) (h : DE X EC W a ma) (h2 : DE X EC W b mb) (hs : starEach [a, b] X.env = [(false, eval a X.env), (false, eval b X.env)] := by rfl) (hs2 : starEach [b] X.env = [(false, eval b X.env)] := by rfl)
    (hs' : starEach (a :: [b]) X.env = (false, eval a X.env) :: starEach [b] X.env := by rfl) (hs3 : starEach (b :: []) X.env = (false, eval b X.env) :: starEach [] X.env := by rfl) : DI X EC W tg (.Call (.Name "range" p) [a, b] [] pos) (mRng2 ma mb) := by
  obtain ⟨te, pe, re⟩ := h.ex
  obtain ⟨tb, pb, rb⟩ := h2.ex
  refine ⟨_, pi_range2 hg hm (pa_cons pe (pa_cons pb pa_nil hs3) hs') hs hs2, fun C0 H0 B C H σ δ R S h => re C0 H0 B C H σ δ _ S (RP.imp (RP.bind h) (fun x δ1 h1 v C1 H1 e1 S1 d1 => ?_) fun c d δ h => h)⟩
  refine rb C0 H0 B C1 H1 σ δ1 _ S1 (RP.imp (RP.bind h1) (fun y δ2 h2 w C2 H2 e2 S2 d2 => ?_) (PXe.mono e1))
  split at h2
  · split at h2
    · rename_i i j hb
      cases d1
      cases d2
      rw [Bool.and_eq_true] at hb
      have hb1 := of_decide_eq_true hb.1
      have hb2 := of_decide_eq_true hb.2
      exact ⟨i, j, rfl, ⟨hb1.1, hb1.2, hb2.1, hb2.2⟩, h2 _ C2 H2 (e1.trans e2) S2 it_rng⟩
    · exact h2.elim
  · exact h2.elim

/-! ### comprehensions -/
/-- the cells of a block's own names, unset -/
def wipeD (δ : Dl) : List Nat → Dl
  | [] => δ
  | v :: vs => (wipeD δ vs).set v .non
/-- .. as they were -/
def backD (δ δ' : Dl) : List Nat → Dl
  | [] => δ'
  | v :: vs => (backD δ δ' vs).set v (δ.getD v .non)
def noMut (δ : Dl) (vs : List Nat) : Bool := vs.all fun v => match δ[v]? with
  | some (.var _ _) => false
  | _ => true
def Cell.isVar : Cell → Bool
  | .var _ _ => true
  | _ => false
def noVar (δ : Dl) : Bool := δ.all fun c => !c.isVar
def R.noex {α : Type} : R α → R α
  | .ok a δ => .ok a δ
  | _ => .no
def mLc (vs : List Nat) (g : D → Dl → Option Dl) (t : M Bool) (e : M D) : List D → M (List D)
  | [], δ => .ok [] δ
  | x :: xs, δ => match g x (wipeD δ vs) with
    | none => .no
    | some δ1 => (t δ1).noex.bind fun b δ2 => if b then (e δ2).noex.bind fun y δ3 => if noVar δ3 then (mLc vs g t e xs δ3).bind fun ys δ4 => .ok (y :: ys) δ4 else .no
      else if noVar δ2 then mLc vs g t e xs δ2 else .no
def mLcS (vs : List Nat) (it : M (List D)) (g : D → Dl → Option Dl) (t : M Bool) (e : M D) : M (List D) := fun δ => (it δ).bind fun xs δ1 => if noVar δ1 && decide (xs.length ≤ LINE) then (mLc vs g t e xs δ1).bind fun ys δ2 => .ok ys (backD δ1 δ2 vs) else .no
end
end DL
end Part_DLe

section Part_DLf
set_option Elab.async false
set_option linter.all false
set_option maxRecDepth 100000
set_option autoImplicit false
set_option maxHeartbeats 2000000
namespace DL
open PySem PySem.Spec PyProof.Rows L2 Evl

/-! ### the readings by the mirrors -/
section
variable (K : PySem.W.Frag) (EC : ECl) (W : WX)
def tE (m : M D) : TE := fun σ H Q => ∃ C0 H0 B C δ, SR K C0 H0 B C H σ δ ∧ RP (m δ) (PKe K C0 H0 B C σ Q) (PXe K EC W C0 H0 B C σ)
def tTd (m : M Bool) : TT := fun σ H Q => ∃ C0 H0 B C δ, SR K C0 H0 B C H σ δ ∧ RP (m δ) (PKt K C0 H0 B C σ Q) (PXe K EC W C0 H0 B C σ)
def tGd (ts : List Nat) (g : D → Dl → Option Dl) : TG := fun v σ H Q => ∃ C0 H0 B C δ δ' d, SR K C0 H0 B C H σ δ ∧ Dq K C v d ∧ g d δ = some δ' ∧ ∀ σ', SR K C0 H0 B C H σ' δ' → (∀ vs : List Nat, (∀ k ∈ ts, k ∈ vs) → wipe σ' vs = wipe σ vs) → Q σ' H
end
section
variable {X : Cx} {EC : ECl} {W : WX} {e tg : Expr}
theorem DE.pe {m : M D} (h : DE X EC W e m) : PE X e (tE X.K EC W m) := by
  obtain ⟨te, pe, re⟩ := h.ex
  exact ⟨fun pins s σ H Q I ⟨C0, H0, B, C, δ, S, q⟩ => pe.run pins s σ H Q I (re C0 H0 B C H σ δ Q S q)⟩
theorem DT.pt {m : M Bool} (h : DT X EC W e m) : PT X e (tTd X.K EC W m) := by
  obtain ⟨te, pe, re⟩ := h.ex
  exact ⟨fun pins s σ H Q I ⟨C0, H0, B, C, δ, S, q⟩ => pe.run pins s σ H Q I (re C0 H0 B C H σ δ Q S q)⟩
theorem DG.pg {ts : List Nat} {g : D → Dl → Option Dl} (h : DG X tg ts g) : PG X tg (tGd X.K ts g) := by
  obtain ⟨t, p, r⟩ := h.ex
  exact ⟨fun pins s σ H v u Q I rv ⟨C0, H0, B, C, δ, δ', d, S, hd, hg, k⟩ => p.run pins s σ H v u Q I rv (r C0 H0 B C H σ δ δ' v d Q S hd hg k)⟩
end
/-- the tests of a block -/
structure DTs (X : Cx) (EC : ECl) (W : WX) (ifs : List Expr) (m : M Bool) : Prop where
  ex : PTs X ifs (tTd X.K EC W m)
def mYes : M Bool := fun δ => .ok true δ
section
variable {X : Cx} {EC : ECl} {W : WX} {e tg : Expr}
theorem dts_nil : DTs X EC W [] mYes := ⟨⟨fun pins s σ H Q I ⟨C0, H0, B, C, δ, S, q⟩ => (pts_nil (X := X)).run pins s σ H Q I (q C H (Ex.refl C) S)⟩⟩
theorem dts_one {m : M Bool} (h : DT X EC W e m) : DTs X EC W [e] m := ⟨pts_one h.pt⟩
end

/-! ### wiped and put back -/
theorem wipe_out' {σ : L2.St} {i : Nat} {vs : List Nat} (h : i ∉ vs) : (wipe σ vs)[i]? = σ[i]? := wipe_out h
theorem wipeD_length (δ : Dl) : ∀ vs : List Nat, (wipeD δ vs).length = δ.length
  | [] => rfl
  | v :: vs => by unfold wipeD; rw [List.length_set, wipeD_length δ vs]
theorem wipeD_out {δ : Dl} {i : Nat} : ∀ {vs : List Nat}, i ∉ vs → (wipeD δ vs)[i]? = δ[i]?
  | [], _ => rfl
  | v :: vs, h => by
    have h1 : v ≠ i := fun e => h (by rw [e]; exact List.mem_cons_self)
    have h2 : i ∉ vs := fun e => h (List.mem_cons_of_mem _ e)
    unfold wipeD
    rw [List.getElem?_set_ne h1]
    exact wipeD_out h2
theorem wipeD_in {δ : Dl} {i : Nat} {c : Cell} : ∀ {vs : List Nat}, i ∈ vs → (wipeD δ vs)[i]? = some c → c = .non
  | [], h, _ => by cases h
  | v :: vs, h, e => by
    unfold wipeD at e
    by_cases q : v = i
    · subst q
      have hl : v < (wipeD δ vs).length := by
        have := (List.getElem?_eq_some_iff.mp e).1
        rwa [List.length_set] at this
      rw [List.getElem?_set_self hl] at e
      exact (Option.some.inj e).symm
    · rw [List.getElem?_set_ne q] at e
      rcases List.mem_cons.mp h with z | z
      · exact absurd z.symm q
      · exact wipeD_in z e
theorem backD_length (δ δ' : Dl) : ∀ vs : List Nat, (backD δ δ' vs).length = δ'.length
  | [] => rfl
  | v :: vs => by unfold backD; rw [List.length_set, backD_length δ δ' vs]
theorem backD_out {δ δ' : Dl} {i : Nat} : ∀ {vs : List Nat}, i ∉ vs → (backD δ δ' vs)[i]? = δ'[i]?
  | [], _ => rfl
  | v :: vs, h => by
    have h1 : v ≠ i := fun e => h (by rw [e]; exact List.mem_cons_self)
    have h2 : i ∉ vs := fun e => h (List.mem_cons_of_mem _ e)
    unfold backD
    rw [List.getElem?_set_ne h1]
    exact backD_out h2
theorem backD_in {δ δ' : Dl} {i : Nat} {c : Cell} : ∀ {vs : List Nat}, i ∈ vs → (backD δ δ' vs)[i]? = some c → c = δ.getD i .non
  | [], h, _ => by cases h
  | v :: vs, h, e => by
    unfold backD at e
    by_cases q : v = i
    · subst q
      have hl : v < (backD δ δ' vs).length := by
        have := (List.getElem?_eq_some_iff.mp e).1
        rwa [List.length_set] at this
      rw [List.getElem?_set_self hl] at e
      exact (Option.some.inj e).symm
    · rw [List.getElem?_set_ne q] at e
      rcases List.mem_cons.mp h with z | z
      · exact absurd z.symm q
      · exact backD_in z e
theorem noMut_at {δ : Dl} {vs : List Nat} (h : noMut δ vs = true) {i : Nat} (hi : i ∈ vs) : ∀ b ds, δ[i]? ≠ some (.var b ds) := fun b ds e => by
  have z := List.all_eq_true.mp h i hi
  rw [e] at z
  cases z
section
variable {K : PySem.W.Frag} {C0 H0 C H C2 H2 : Hp} {B : List (Nat × Addr)} {σ : L2.St} {δ δ2 : Dl} {vs : List Nat}
theorem SR.wipe (S : SR K C0 H0 B C H σ δ) (hB : ∀ p ∈ B, p.1 ∉ vs) : SR K C0 H0 B C H (wipe σ vs) (wipeD δ vs) where
  len := by rw [wipe_length, wipeD_length]; exact S.len
  c0 := S.c0
  ch := S.ch
  fr := S.fr
  nw := S.nw
  val := fun i d h => by
    by_cases q : i ∈ vs
    · cases wipeD_in q h
    · rw [wipeD_out q] at h
      rw [wipe_out' q]
      exact S.val i d h
  own := fun i d h => by
    by_cases q : i ∈ vs
    · cases wipeD_in q h
    · rw [wipeD_out q] at h
      rw [wipe_out' q]
      exact S.own i d h
  bor := fun p hp => by
    rw [wipeD_out (hB p hp), wipe_out' (hB p hp)]
    exact S.bor p hp
  btr := fun i d h => by
    by_cases q : i ∈ vs
    · cases wipeD_in q h
    · rw [wipeD_out q] at h
      exact S.btr i d h
  bd1 := S.bd1
  bd2 := S.bd2
  bH0 := S.bH0
  odis := fun i j ds es hij h1 h2 => by
    have q1 : i ∉ vs := fun q => by cases wipeD_in q h1
    have q2 : j ∉ vs := fun q => by cases wipeD_in q h2
    rw [wipeD_out q1] at h1
    rw [wipeD_out q2] at h2
    rw [wipe_out' q1, wipe_out' q2]
    exact S.odis i j ds es hij h1 h2
theorem SR.back (S : SR K C0 H0 B C H σ δ) (hn : noMut δ vs = true) (e : Ex C C2) (S2 : SR K C0 H0 B C2 H2 (L2.wipe σ vs) (wipeD δ2 vs)) : SR K C0 H0 B C2 H2 σ (backD δ δ2 vs) := by
  have hB : ∀ p ∈ B, p.1 ∉ vs := fun p hp q => by
    obtain ⟨ds, _, h1, _⟩ := S.bor p hp
    exact noMut_at hn q _ _ h1
  have out : ∀ {i : Nat} {b ds}, (backD δ δ2 vs)[i]? = some (.var b ds) → i ∉ vs := fun {i b ds} h q => by
    have z := backD_in q h
    have hi : i < δ.length := by
      cases k : δ[i]? with
      | none =>
        have : δ.getD i .non = .non := by unfold List.getD; rw [k]; rfl
        rw [this] at z
        cases z
      | some c => exact (List.getElem?_eq_some_iff.mp k).1
    refine noMut_at hn q b ds ?_
    unfold List.getD at z
    cases k : δ[i]? with
    | none => rw [k] at z; cases z
    | some c => rw [k] at z; exact congrArg some z.symm
  refine ⟨?_, S2.c0, S2.ch, S2.fr, S2.nw, fun i d h => ?_, fun i d h => ?_, fun p hp => ?_, fun i d h => ?_, S2.bd1, S2.bd2, S2.bH0, fun i j ds es hij h1 h2 => ?_⟩
  · have := S2.len
    rw [wipe_length, wipeD_length] at this
    rw [backD_length]
    exact this
  · by_cases q : i ∈ vs
    · have z := backD_in q h
      cases k : δ[i]? with
      | none =>
        unfold List.getD at z
        rw [k] at z
        cases z
      | some c =>
        unfold List.getD at z
        rw [k] at z
        have z : Cell.val d = c := z
        subst z
        obtain ⟨v, h1, h2⟩ := S.val i d k
        exact ⟨v, h1, dp_ex e _ _ h2⟩
    · rw [backD_out q, ← wipeD_out (δ := δ2) q] at h
      have := S2.val i d h
      rw [wipe_out' q] at this
      exact this
  · have q := out h
    rw [backD_out q, ← wipeD_out (δ := δ2) q] at h
    have := S2.own i d h
    rw [wipe_out' q] at this
    exact this
  · have := S2.bor p hp
    rw [wipe_out' (hB p hp), wipeD_out (hB p hp)] at this
    rw [backD_out (hB p hp)]
    exact this
  · have q := out h
    rw [backD_out q, ← wipeD_out (δ := δ2) q] at h
    exact S2.btr i d h
  · have q1 := out h1
    have q2 := out h2
    rw [backD_out q1, ← wipeD_out (δ := δ2) q1] at h1
    rw [backD_out q2, ← wipeD_out (δ := δ2) q2] at h2
    have := S2.odis i j ds es hij h1 h2
    rw [wipe_out' q1, wipe_out' q2] at this
    exact this
/-- an object that is not of the data and that no cell holds is changed -/
theorem SR.mutN (S : SR K C0 H0 B C H σ δ) {l : Addr} {o : HO} (h0 : H0 l = none) (hC : C l = none) (hn : ∀ (i : Nat) (b : Bool) (es : List D), δ[i]? = some (.var b es) → σ[i]? ≠ some (some (.ref l))) : SR K C0 H0 B C (upd H l o) σ δ where
  len := S.len
  c0 := S.c0
  ch := fun a u h => by
    rw [upd_ne (ne_of_none h hC)]
    exact S.ch a u h
  fr := fun a u h hb => by
    rw [upd_ne (ne_of_none h h0)]
    exact S.fr a u h hb
  nw := S.nw
  val := S.val
  own := fun i ds h => by
    obtain ⟨k, xs, h1, h2, h3, h4, h5⟩ := S.own i ds h
    refine ⟨k, xs, h1, h2, h3, ?_, h5⟩
    rw [upd_ne fun z => hn i false ds h (by rw [← z]; exact h1)]
    exact h4
  bor := fun p hp => by
    obtain ⟨ds, xs, h1, h2, h3, h4, h5⟩ := S.bor p hp
    refine ⟨ds, xs, h1, h2, h3, ?_, h5⟩
    rw [upd_ne fun z => hn p.1 true ds h1 (by rw [← z]; exact h2)]
    exact h4
  btr := S.btr
  bd1 := S.bd1
  bd2 := S.bd2
  bH0 := S.bH0
  odis := S.odis
theorem noVar_at {δ : Dl} (h : noVar δ = true) {i : Nat} {b : Bool} {ds : List D} : δ[i]? ≠ some (.var b ds) := fun e => by
  have z := List.all_eq_true.mp h _ (List.mem_of_getElem? e)
  cases z
theorem noVar_wipe {δ : Dl} (h : noVar δ = true) : ∀ vs : List Nat, noVar (wipeD δ vs) = true
  | [] => h
  | v :: vs => by
    refine List.all_eq_true.mpr fun c hc => ?_
    obtain ⟨i, hi⟩ := List.getElem?_of_mem hc
    cases c with
    | var b ds =>
      by_cases q : i ∈ v :: vs
      · cases wipeD_in q hi
      · rw [wipeD_out q] at hi
        exact absurd hi (noVar_at h)
    | non => rfl
    | val d => rfl
theorem SR.noB (S : SR K C0 H0 B C H σ δ) (h : noVar δ = true) : B = [] := by
  cases B with
  | nil => rfl
  | cons p r =>
    obtain ⟨ds, _, z, _⟩ := S.bor p List.mem_cons_self
    exact absurd z (noVar_at h)
theorem SR.rebase (S : SR K C0 H0 B C H σ δ) (h : noVar δ = true) : SR K C H [] C H σ δ where
  len := S.len
  c0 := Ex.refl C
  ch := S.ch
  fr := fun a o z _ => z
  nw := fun a _ z => z
  val := S.val
  own := fun i ds z => absurd z (noVar_at h)
  bor := fun p hp => by cases hp
  btr := fun i ds z => absurd z (noVar_at h)
  bd1 := fun p hp => by cases hp
  bd2 := fun p hp => by cases hp
  bH0 := fun p hp => by cases hp
  odis := fun i j ds es _ z => absurd z (noVar_at h)
theorem SR.unbase {σ2 : L2.St} {δ' : Dl} (S : SR K C0 H0 [] C H σ δ) (T : SR K C H [] C2 H2 σ2 δ') : SR K C0 H0 [] C2 H2 σ2 δ' where
  len := T.len
  c0 := S.c0.trans T.c0
  ch := T.ch
  fr := fun a o z _ => T.fr a o (S.fr a o z fun p hp => by cases hp) fun p hp => by cases hp
  nw := fun a z1 z2 => by
    refine T.nw a ?_ (S.nw a z1 z2)
    cases q : H0 a with
    | none => exact absurd q z1
    | some o =>
      rw [S.fr a o q fun p hp => by cases hp]
      exact fun z => nomatch z
  val := T.val
  own := fun i ds z => by
    obtain ⟨l, xs, h1, h2, h3, h4, h5⟩ := T.own i ds z
    refine ⟨l, xs, h1, ?_, h3, h4, h5⟩
    cases q : H0 l with
    | none => rfl
    | some o =>
      have := S.fr l o q fun p hp => by cases hp
      rw [h2] at this
      cases this
  bor := T.bor
  btr := T.btr
  bd1 := T.bd1
  bd2 := T.bd2
  bH0 := fun p hp => by cases hp
  odis := T.odis
/-- what H does not know, no list of one's own is -/
theorem SR.nm (S : SR K C0 H0 B C H σ δ) {p : Addr} (hp : H p = none) : H0 p = none ∧ ∀ (i : Nat) (b : Bool) (es : List D), δ[i]? = some (.var b es) → σ[i]? ≠ some (some (.ref p)) := by
  refine ⟨?_, fun i b ds hi hs => ?_⟩
  · cases q : H0 p with
    | none => rfl
    | some o =>
      by_cases hb : ∃ k ∈ B, k.2 = p
      · obtain ⟨k, hk, rfl⟩ := hb
        obtain ⟨_, _, _, _, _, h4, _⟩ := S.bor k hk
        rw [hp] at h4
        cases h4
      · have z := S.fr p o q fun k hk e => hb ⟨k, hk, e⟩
        rw [hp] at z
        cases z
  · cases b with
    | false =>
      obtain ⟨l, ys, h2, _, _, h5, _⟩ := S.own i ds hi
      rw [h2] at hs
      cases hs
      rw [hp] at h5
      cases h5
    | true =>
      obtain ⟨l, hl⟩ := S.btr i ds hi
      obtain ⟨_, _, _, h3, _, h5, _⟩ := S.bor _ hl
      rw [h3] at hs
      cases hs
      rw [hp] at h5
      cases h5
end
theorem RP.noex {α : Type} {r : R α} {k : α → Dl → Prop} {x x' : Nat → D → Dl → Prop} (h : RP r.noex k x) : RP r k x' := by
  cases r with
  | ok a δ => exact h
  | ex c d δ => exact h.elim
  | no => exact h.elim
theorem wipeD_wipeD (δ : Dl) (vs : List Nat) : ∀ i : Nat, (wipeD (wipeD δ vs) vs)[i]? = (wipeD δ vs)[i]? := fun i => by
  by_cases q : i ∈ vs
  · cases k1 : (wipeD (wipeD δ vs) vs)[i]? with
    | none =>
      have := List.getElem?_eq_none_iff.mp k1
      rw [wipeD_length] at this
      exact (List.getElem?_eq_none_iff.mpr this).symm
    | some c =>
      have hl := (List.getElem?_eq_some_iff.mp k1).1
      rw [wipeD_length] at hl
      cases k2 : (wipeD δ vs)[i]? with
      | none =>
        have := List.getElem?_eq_none_iff.mp k2
        omega
      | some c' => rw [wipeD_in q k1, wipeD_in q k2]
  · rw [wipeD_out q]
section
variable {X : Cx} {EC : ECl} {W : WX}
theorem lc_read {K : PySem.W.Frag} {wi : TI} {mi : M (List D)} {ts ws : List Nat} {g : D → Dl → Option Dl} {mt : M Bool} {me : M D} {W0 : WX} (hts : ∀ k ∈ ts, k ∈ ws)
    (ri : ∀ C0 H0 B C H σ δ (R : It → Hp → Prop), SR K C0 H0 B C H σ δ → RP (mi δ) (fun items δ => ∀ J C1 H1, Ex C C1 → SR K C0 H0 B C1 H1 σ δ → ItOk K C1 J items → R J H1) (PXe K EC W C0 H0 B C σ) → wi σ H R) :
    ∀ C0 H0 B C H σ δ Q, SR K C0 H0 B C H σ δ → RP (mLcS ws mi g mt me δ) (PKl K C0 H0 B C σ Q) (PXe K EC W C0 H0 B C σ) → tLc wi (tGd K ts g) (tTd K EC W0 mt) (tE K EC W0 me) ws σ H Q := by
  intro C0 H0 B C H σ δ Q S h
  refine ri C0 H0 B C H σ δ _ S (RP.imp (RP.bind h) (fun items δ1 h1 J C1 H1 e1 S1 it => ?_) fun c d δ h => h)
  intro Dl hD
  obtain ⟨G, Y, wk, hG, hY⟩ := it.ex
  split at h1
  case isFalse => exact h1.elim
  rename_i hcond
  rw [Bool.and_eq_true] at hcond
  obtain ⟨hnv, hlen⟩ := hcond
  have hlen := of_decide_eq_true hlen
  have hBe := S1.noB hnv
  subst hBe
  have hB : ∀ p ∈ ([] : List (Nat × Addr)), p.1 ∉ ws := fun p hp => by cases hp
  have hnm : noMut δ1 ws = true := by
    refine List.all_eq_true.mpr fun v _ => ?_
    cases q : δ1[v]? with
    | none => rfl
    | some c =>
      cases c with
      | var b ds => exact absurd q (noVar_at hnv)
      | non => rfl
      | val d => rfl
  obtain ⟨h0D, nmD⟩ := S1.nm hD
  have hfin := RP.bind h1
  refine lc_it wk (fun i H' => ∃ C' δ' acc vs, Ex C1 C' ∧ SR K C0 H0 [] C' H' (wipe σ ws) (wipeD δ' ws) ∧ H' Dl = some (.lst vs) ∧ C' Dl = none ∧ noVar δ' = true ∧ acc.length ≤ i ∧ DqAll K C' vs acc ∧
    RP (mLc ws g mt me (items.drop i) δ') (fun ys δ2 => PKl K C0 H0 [] C1 σ Q (acc ++ ys) (backD δ1 δ2 ws)) (PXe K EC W C0 H0 [] C1 σ)) ⟨C1, δ1, [], [], Ex.refl _, (S1.newN hD).wipe hB, upd_same, free_of S1.ch hD, hnv, Nat.le_refl _, .nil, RP.imp hfin (fun ys δ2 z => PKl.mono e1 _ _ (show PKl K C0 H0 [] C σ Q ys (backD δ1 δ2 ws) from z)) (PXe.mono e1)⟩
    (fun i H' _ ⟨C', δ', acc, vs, e2, S2, _⟩ => hG H' (e2.trans S2.ch)) ?_ ?_
  · rintro i x H2 H3 hi ⟨C', δ', acc, vs, e2, S2, hDl, hCD, hv, hacc, dacc, q⟩ y
    have hdrop : items.drop i = items[i] :: items.drop (i + 1) := List.drop_eq_getElem_cons hi
    have hget : items[i]? = some items[i] := List.getElem?_eq_getElem hi
    rw [hdrop] at q
    unfold mLc at q
    have nw := noVar_wipe hv ws
    have T2 := S2.rebase nw
    have hlong : vs.length ≤ i := by rw [dpa_len dacc]; exact hacc
    refine hY i _ hget C' H2 x H3 (fun x H3 => tGd K ts g x (wipe σ ws) H3 _) e2 S2.ch y (rs_of (C0 := C') (H0 := H2) (B := []) (σ := wipe σ ws) (δ := wipeD δ' ws) T2 fun v C3 H3 e3 T3 d3 => ?_)
    cases hg1 : g items[i] (wipeD δ' ws) with
    | none => rw [hg1] at q; exact q.elim
    | some δ1' =>
      rw [hg1] at q
      refine ⟨C', H2, [], C3, wipeD δ' ws, δ1', items[i], T3, d3, hg1, fun σ4 T4 w4 => ?_⟩
      have w4' : wipe σ4 ws = wipe σ ws := by
        have := w4 ws hts
        have z : ∀ (us : List Nat), wipe (wipe σ us) us = wipe σ us := by
          intro us
          apply List.ext_getElem?
          intro k
          by_cases hk : k ∈ us
          · cases k1 : (wipe (wipe σ us) us)[k]? with
            | none =>
              have := List.getElem?_eq_none_iff.mp k1
              rw [wipe_length] at this
              exact (List.getElem?_eq_none_iff.mpr this).symm
            | some c =>
              have hl := (List.getElem?_eq_some_iff.mp k1).1
              rw [wipe_length] at hl
              cases c with
              | some v => exact absurd hk (wipe_some k1).2
              | none =>
                cases k2 : (wipe σ us)[k]? with
                | none =>
                  have := List.getElem?_eq_none_iff.mp k2
                  omega
                | some c2 =>
                  cases c2 with
                  | none => rfl
                  | some v => exact absurd hk (wipe_some k2).2
          · rw [wipe_out' hk]
        rw [this, z]
      refine ⟨w4', C', H2, [], C3, δ1', T4, RP.imp (RP.noex (RP.bind q)) (fun b δ5 h5 C5 H5 e5 T5 => ?_) fun _ _ _ z => z⟩
      have hD5 : H5 Dl = some (.lst vs) := T5.fr Dl _ hDl fun p hp => by cases hp
      have hC5 : C5 Dl = none := T5.nw Dl (by rw [hDl]; exact fun z => nomatch z) hCD
      dsimp only
      cases b with
      | false =>
        rw [if_neg Bool.false_ne_true] at h5 ⊢
        split at h5
        case isFalse => exact h5.elim
        rename_i hv5
        have S5 := (S2.unbase T5).wipe (vs := ws) hB
        rw [w4'] at S5
        exact ⟨C5, δ5, acc, vs, e2.trans (e3.trans e5), S5, hD5, hC5, hv5, Nat.le_succ_of_le hacc, dpAll_ex (e3.trans e5) _ _ dacc, h5⟩
      | true =>
        rw [if_pos rfl] at h5 ⊢
        refine ⟨C', H2, [], C5, δ5, T5, RP.imp (RP.noex (RP.bind h5)) (fun yd δ6 h6 yv C6 H6 e6 T6 d6 => ?_) fun _ _ _ z => z⟩
        have hD6 : H6 Dl = some (.lst vs) := T6.fr Dl _ hDl fun p hp => by cases hp
        have hC6 : C6 Dl = none := T6.nw Dl (by rw [hDl]; exact fun z => nomatch z) hCD
        split at h6
        case isFalse => exact h6.elim
        rename_i hv6
        have S6 := (S2.unbase T6).wipe (vs := ws) hB
        rw [w4'] at S6
        have nv6 := noVar_wipe hv6 ws
        have hszz : vs.length < sizeLine := by rw [line_eq]; omega
        have e36 := e3.trans (e5.trans e6)
        refine ⟨vs, hD6, hszz, C6, δ6, acc ++ [yd], vs ++ [yv], e2.trans e36, S6.mutN h0D hC6 (fun i b es z => absurd z (noVar_at nv6)), upd_same, hC6, hv6, by rw [List.length_append]; exact Nat.succ_le_succ hacc, dpa_app (dpAll_ex e36 _ _ dacc) (dpa_one d6), ?_⟩
        refine RP.imp (RP.bind h6) (fun ys δ7 h7 => ?_) fun _ _ _ z => z
        rw [List.append_assoc]
        exact h7
  · rintro H' ⟨C', δ', acc, vs, e2, S2, hDl, hCD, hv, hacc, dacc, q⟩
    rw [List.drop_length] at q
    have q : PKl K C0 H0 [] C1 σ Q (acc ++ []) (backD δ1 δ' ws) := q
    rw [List.append_nil] at q
    have S3 := S1.back hnm e2 S2
    refine q Dl vs C' H' e2 S3 hCD hDl h0D (fun i b es z => ?_) dacc
    by_cases hk : i ∈ ws
    · have z1 := backD_in hk z
      unfold List.getD at z1
      cases k : δ1[i]? with
      | none => rw [k] at z1; cases z1
      | some c =>
        rw [k] at z1
        have z1 : Cell.var b es = c := z1
        rw [← z1] at k
        exact absurd k (noVar_at hnv)
    · rw [backD_out hk] at z
      exact absurd z (noVar_at hv)
theorem dl_lc {elt tg iter : Expr} {ifs : List Expr} {scope : Scope} {own : List (Str × Nat)} {pos : Pos} {mi : M (List D)} {ts : List Nat} {g : D → Dl → Option Dl} {mt : M Bool} {me : M D} {W0 : WX} (hc : X.calm = true) (hN : X.N.Nodup) (hi : DI X EC W tg iter mi) (ok : BlkOk X.N X.env.scope scope own)
    (hg : ∀ (s : Shared) (H : Hp) (C : Addr) (cl : List (Str × Addr)) (fp : List Addr), DG (X.blk s H scope (compEnvC scope cl C X.env) fp) tg ts g) (hts : ∀ k ∈ ts, k ∈ own.map (·.2))
    (ht : ∀ (s : Shared) (H : Hp) (C : Addr) (cl : List (Str × Addr)) (fp : List Addr), DTs (X.blk s H scope (compEnvC scope cl C X.env) fp) EC W0 ifs mt)
    (he : ∀ (s : Shared) (H : Hp) (C : Addr) (cl : List (Str × Addr)) (fp : List Addr), DE (X.blk s H scope (compEnvC scope cl C X.env) fp) EC W0 elt me) (hs : ∀ x, foldedSetIterable iter X.env x = pure x := by intro _; rfl) :
    DL' X EC W (.ListComp elt [⟨tg, iter, ifs, 0⟩] scope pos) (mLcS (own.map (·.2)) mi g mt me) := by
  obtain ⟨wi, pi, ri⟩ := hi.ex
  exact ⟨_, pe_lc (g := tGd X.K ts g) (tt := tTd X.K EC W0 mt) (te := tE X.K EC W0 me) hc hN pi ok (fun s H C cl fp => (hg s H C cl fp).pg) (fun s H C cl fp => (ht s H C cl fp).ex) (fun s H C cl fp => (he s H C cl fp).pe) hs, lc_read hts ri⟩
/-- name = [..], as data | to be changed -/
def mSetL (i : Nat) (m : M (List D)) : M Fl := fun δ => (m δ).bind fun ds δ => match setV i (.list ds) δ with
  | some δ' => .ok .nx δ'
  | none => .no
def mSetM (i : Nat) (m : M (List D)) : M Fl := fun δ => (m δ).bind fun ds δ => match setM i ds δ with
  | some δ' => .ok .nx δ'
  | none => .no
theorem set_readL {K : PySem.W.Frag} {i : Nat} {te : TE} {m : M (List D)} (re : ∀ C0 H0 B C H σ δ Q, SR K C0 H0 B C H σ δ → RP (m δ) (PKl K C0 H0 B C σ Q) (PXe K EC W C0 H0 B C σ) → te σ H Q) :
    ∀ C0 H0 B C H σ δ (N : L2.Ends), SR K C0 H0 B C H σ δ → RP (mSetL i m δ) (PKs K C0 H0 B C N) (PXs K EC W C0 H0 B C) → tAsg te (gName i) N σ H := by
  intro C0 H0 B C H σ δ N S h
  refine re C0 H0 B C H σ δ _ S (RP.imp (RP.bind h) (fun ds δ1 h1 p xs C1 H1 e1 S1 hC hH h0 nm d1 => ?_) fun c d δ h v dd C2 H2 e2 S2 z1 z2 => h σ v dd C2 H2 e2 S2 z1 z2)
  have e2 : Ex C1 (upd C1 p (.lst xs)) := Ex.new hC
  split at h1
  case h_2 => exact h1.elim
  rename_i δ' hv
  -- the new list becomes data
  obtain ⟨a1, a2, rfl⟩ := setV_some hv
  have S2 : SR K C0 H0 B (upd C1 p (.lst xs)) H1 σ δ1 := ⟨S1.len, S1.c0.trans e2, fun a o q => by
      by_cases ha : a = p
      · subst ha
        rw [upd_same] at q
        rw [← q]
        exact hH
      · rw [upd_ne ha] at q
        exact S1.ch a o q, S1.fr, fun a h2 h3 => by
      rw [upd_ne fun z => h2 (by rw [z]; exact h0)]
      exact S1.nw a h2 h3, fun i d hi => by
      obtain ⟨v, h2, h3⟩ := S1.val i d hi
      exact ⟨v, h2, dp_ex e2 _ _ h3⟩, fun i ds hi => by
      obtain ⟨l, ys, h2, h3, h4, h5, h6⟩ := S1.own i ds hi
      refine ⟨l, ys, h2, h3, ?_, h5, dpAll_ex e2 _ _ h6⟩
      rw [upd_ne fun z => nm i false ds hi (by rw [← z]; exact h2)]
      exact h4, fun k hk => by
      obtain ⟨ds, ys, h2, h3, h4, h5, h6⟩ := S1.bor k hk
      refine ⟨ds, ys, h2, h3, ?_, h5, dpAll_ex e2 _ _ h6⟩
      rw [upd_ne fun z => nm k.1 true ds h2 (by rw [← z]; exact h3)]
      exact h4, S1.btr, S1.bd1, S1.bd2, S1.bH0, S1.odis⟩
  exact h1 (σ.set i (some (.ref p))) _ H1 (e1.trans e2) (S2.setC a1 a2 (fun d z => by cases z; exact .lst (SqL.of upd_same) (dpAll_ex e2 _ _ d1)) fun b ds z => by cases z)
theorem set_readM {K : PySem.W.Frag} {i : Nat} {te : TE} {m : M (List D)} (re : ∀ C0 H0 B C H σ δ Q, SR K C0 H0 B C H σ δ → RP (m δ) (PKl K C0 H0 B C σ Q) (PXe K EC W C0 H0 B C σ) → te σ H Q) :
    ∀ C0 H0 B C H σ δ (N : L2.Ends), SR K C0 H0 B C H σ δ → RP (mSetM i m δ) (PKs K C0 H0 B C N) (PXs K EC W C0 H0 B C) → tAsg te (gName i) N σ H := by
  intro C0 H0 B C H σ δ N S h
  refine re C0 H0 B C H σ δ _ S (RP.imp (RP.bind h) (fun ds δ1 h1 p xs C1 H1 e1 S1 hC hH h0 nm d1 => ?_) fun c d δ h v dd C2 H2 e2 S2 z1 z2 => h σ v dd C2 H2 e2 S2 z1 z2)
  split at h1
  case h_2 => exact h1.elim
  rename_i δ' hv
  obtain ⟨a1, a2, rfl⟩ := setM_some hv
  refine h1 (σ.set i (some (.ref p))) C1 H1 e1 (S1.setC a1 a2 (fun d z => by cases z) fun b es z => ?_)
  cases z
  exact ⟨rfl, p, xs, rfl, h0, hC, hH, d1, nm⟩
end
end DL
end Part_DLf

section Part_DLg
set_option Elab.async false
set_option linter.all false
set_option maxRecDepth 100000
set_option autoImplicit false
set_option maxHeartbeats 2000000
namespace DL
open PySem PySem.Spec PyProof.Rows L2 Evl

section
variable {X : Cx} {EC : ECl} {W : WX} {a b c e o : Expr} {es : List Expr} {ma mb mc mo : M D} {mes : M (List D)} {pos p p2 apos : Pos} {tg iter : Expr} {ts us : List Nat} {g g2 : D → Dl → Option Dl} {st : Stmt} {rest sa sb : List Stmt} {m1 m2 m3 : M Fl} {mt : M Bool}
theorem PXs.of {K : PySem.W.Frag} {C0 H0 : Hp} {B : List (Nat × Addr)} {C : Hp} {σ : L2.St} : ∀ c d δ, PXs K EC W C0 H0 B C c d δ → PXe K EC W C0 H0 B C σ c d δ := fun c d δ h v dd C2 H2 e2 S2 z1 z2 => h σ v dd C2 H2 e2 S2 z1 z2
theorem PXs.mono {K : PySem.W.Frag} {C0 H0 : Hp} {B : List (Nat × Addr)} {C C' : Hp} (e : Ex C C') : ∀ c d δ, PXs K EC W C0 H0 B C c d δ → PXs K EC W C0 H0 B C' c d δ := fun c d δ h σ v dd C2 H2 e2 => h σ v dd C2 H2 (e.trans e2)
theorem PKs.mono {K : PySem.W.Frag} {C0 H0 : Hp} {B : List (Nat × Addr)} {C C' : Hp} (e : Ex C C') {N : L2.Ends} : ∀ f δ, PKs K C0 H0 B C N f δ → PKs K C0 H0 B C' N f δ := fun f δ h σ C2 H2 e2 => h σ C2 H2 (e.trans e2)

/-! ### blocks -/
def mSkip : M Fl := fun δ => .ok .nx δ
def mSeq (m m' : M Fl) : M Fl := fun δ => (m δ).bind fun f δ => match f with
  | .nx => m' δ
  | f => .ok f δ
theorem dss_nil : DSs X EC W [] mSkip := ⟨_, pss_nil, fun C0 H0 B C H σ δ N S h => h σ C H (Ex.refl C) S⟩
theorem dss_cons (h1 : DS X EC W st m1) (h2 : DSs X EC W rest m2) : DSs X EC W (st :: rest) (mSeq m1 m2) := by
  obtain ⟨t1, p1, r1⟩ := h1.ex
  obtain ⟨t2, p2, r2⟩ := h2.ex
  refine ⟨_, pss_cons p1 p2, fun C0 H0 B C H σ δ N S h => r1 C0 H0 B C H σ δ _ S (RP.imp (RP.bind h) (fun f δ1 h1 σ1 C1 H1 e1 S1 => ?_) fun c d δ h => h)⟩
  cases f with
  | nx => exact r2 C0 H0 B C1 H1 σ1 δ1 N S1 (RP.imp h1 (PKs.mono e1) (PXs.mono e1))
  | rt d => exact h1 σ1 C1 H1 e1 S1
  | bk => exact h1 σ1 C1 H1 e1 S1
  | ct => exact h1 σ1 C1 H1 e1 S1
theorem dss_one (h1 : DS X EC W st m1) : DSs X EC W [st] m1 := let ⟨t, p, r⟩ := h1.ex; ⟨t, pss_one p, r⟩
/-- the list of a slot is not changed any more -/
def mFrz (i : Nat) (m : M Fl) : M Fl := fun δ => match frz i δ with
  | some δ' => m δ'
  | none => .no
theorem dss_frz {sts : List Stmt} (i : Nat) (h : DSs X EC W sts m1) : DSs X EC W sts (mFrz i m1) := by
  obtain ⟨t, p, r⟩ := h.ex
  refine ⟨t, p, fun C0 H0 B C H σ δ N S h => ?_⟩
  unfold mFrz at h
  split at h
  · rename_i δ' q
    obtain ⟨C2, e2, S2⟩ := S.frz q
    exact r C0 H0 B C2 H σ δ' N S2 (RP.imp h (PKs.mono e2) (PXs.mono e2))
  · exact h.elim
theorem dss_no {sts : List Stmt} : DSs X EC W sts mNo := ⟨_, pss_never, fun C0 H0 B C H σ δ N S h => h⟩
theorem ds_no : DS X EC W st mNo := ⟨_, ps_never, fun C0 H0 B C H σ δ N S h => h⟩
theorem ds_pass : DS X EC W (.Pass pos) mSkip := ⟨_, ps_pass, fun C0 H0 B C H σ δ N S h => h σ C H (Ex.refl C) S⟩
def mBk : M Fl := fun δ => .ok .bk δ
def mCt : M Fl := fun δ => .ok .ct δ
theorem ds_break : DS X EC W (.Break pos) mBk := ⟨_, ps_break, fun C0 H0 B C H σ δ N S h => h σ C H (Ex.refl C) S⟩
theorem ds_cont : DS X EC W (.Continue pos) mCt := ⟨_, ps_continue, fun C0 H0 B C H σ δ N S h => h σ C H (Ex.refl C) S⟩
def mRet (a : M D) : M Fl := fun δ => (a δ).bind fun d δ => .ok (.rt d) δ
theorem ds_ret (h : DE X EC W e ma) : DS X EC W (.Return (some e) pos) (mRet ma) := by
  obtain ⟨t, p, r⟩ := h.ex
  exact ⟨_, ps_ret p, fun C0 H0 B C H σ δ N S h => r C0 H0 B C H σ δ _ S (RP.imp (RP.bind h) (fun d δ1 h1 v C1 H1 e1 S1 d1 => h1 σ C1 H1 e1 S1 v d1) PXs.of)⟩
def mIf (t : M Bool) (m m' : M Fl) : M Fl := fun δ => (t δ).bind fun b δ => if b then m δ else m' δ
theorem ds_if (hc : DT X EC W c mt) (h1 : DSs X EC W sa m1) (h2 : DSs X EC W sb m2) : DS X EC W (.If c sa sb pos) (mIf mt m1 m2) := by
  obtain ⟨t0, p0, r0⟩ := hc.ex
  obtain ⟨t1, p1, r1⟩ := h1.ex
  obtain ⟨t2, p2, r2⟩ := h2.ex
  refine ⟨_, ps_if p0 p1 p2, fun C0 H0 B C H σ δ N S h => r0 C0 H0 B C H σ δ _ S (RP.imp (RP.bind h) (fun k δ1 h1 C1 H1 e1 S1 => ?_) PXs.of)⟩
  cases k with
  | true => exact r1 C0 H0 B C1 H1 σ δ1 N S1 (RP.imp h1 (PKs.mono e1) (PXs.mono e1))
  | false => exact r2 C0 H0 B C1 H1 σ δ1 N S1 (RP.imp h1 (PKs.mono e1) (PXs.mono e1))
def mAsg (g : D → Dl → Option Dl) (a : M D) : M Fl := fun δ => (a δ).bind fun d δ => match g d δ with
  | some δ' => .ok .nx δ'
  | none => .no
theorem ds_asg (h : DE X EC W e ma) (hg : DG X tg ts g) (hs : swapsWithSole [tg] e pos.line X.env = pure false := by rfl) (hw : swappedStores [tg] e X.env = pure none := by rfl)
    (h1 : (assignEach [tg] X.env).map (·.2) = [assign tg X.env] := by rfl) : DS X EC W (.Assign [tg] e pos) (mAsg g ma) := by
  obtain ⟨t, p, r⟩ := h.ex
  obtain ⟨t2, p2, r2⟩ := hg.ex
  refine ⟨_, ps_asg p p2 hs hw h1, fun C0 H0 B C H σ δ N S h => r C0 H0 B C H σ δ _ S (RP.imp (RP.bind h) (fun d δ1 h1 v C1 H1 e1 S1 d1 => ?_) PXs.of)⟩
  split at h1
  · rename_i δ' q
    exact r2 C0 H0 B C1 H1 σ δ1 δ' v d _ S1 d1 q fun σ' S2 _ => h1 σ' C1 H1 e1 S2
  · exact h1.elim
theorem ds_set (i : Nat) {x : Str} {pos' : Pos} (hN : X.N.Nodup) (h : DE X EC W e ma) (hi : X.N[i]? = some x := by rfl) (hx : Loc X.env.scope x := by first | exact Or.inl rfl | exact Or.inr rfl) (hs : swapsWith e (some (.Name x pos')) pos.line X.env = pure false := by rfl)
    (hf : X.fn x = true ∨ X.env.scope.names.lookup x = some .local := by first | exact .inl rfl | exact .inr rfl) : DS X EC W (.Assign [.Name x pos'] e pos) (mAsg (setV i) ma) := by
  obtain ⟨t, p, r⟩ := h.ex
  refine ⟨_, ps_set hN hi hx p hs hf, fun C0 H0 B C H σ δ N S h => r C0 H0 B C H σ δ _ S (RP.imp (RP.bind h) (fun d δ1 h1 v C1 H1 e1 S1 d1 => ?_) PXs.of)⟩
  split at h1
  · rename_i δ' q
    exact h1 _ C1 H1 e1 (S1.set q d1)
  · exact h1.elim
theorem ds_setM (i : Nat) {x : Str} {pos' : Pos} {ml : M (List D)} (hN : X.N.Nodup) (h : DL' X EC W e ml) (hi : X.N[i]? = some x := by rfl) (hx : Loc X.env.scope x := by first | exact Or.inl rfl | exact Or.inr rfl) (hs : swapsWith e (some (.Name x pos')) pos.line X.env = pure false := by rfl)
    (hf : X.fn x = true ∨ X.env.scope.names.lookup x = some .local := by first | exact .inl rfl | exact .inr rfl) : DS X EC W (.Assign [.Name x pos'] e pos) (mSetM i ml) := by
  obtain ⟨t, p, r⟩ := h.ex
  exact ⟨_, ps_set hN hi hx p hs hf, set_readM r⟩
/-- name = [.. for ..] on one line -/
theorem ds_setLc (i : Nat) {y : Str} {py : Pos} {elt tg iter : Expr} {ifs : List Expr} {scope : Scope} {own : List (Str × Nat)} {pos spos : Pos} {mi : M (List D)} {ts : List Nat} {g : D → Dl → Option Dl} {mt : M Bool} {me : M D} {W0 : WX} (hc : X.calm = true) (hN : X.N.Nodup) (hy : X.N[i]? = some y) (hyl : X.env.scope.names.lookup y = some .local)
    (hsw : swapsWith (.ListComp elt [⟨tg, iter, ifs, 0⟩] scope pos) (some (.Name y py)) spos.line X.env = pure true) (hi : DI X EC W tg iter mi) (ok : BlkOk X.N X.env.scope scope own)
    (hg : ∀ (s : Shared) (H : Hp) (C : Addr) (cl : List (Str × Addr)) (fp : List Addr), DG (X.blk s H scope (compEnvC scope cl C X.env) fp) tg ts g) (hts : ∀ k ∈ ts, k ∈ own.map (·.2))
    (ht : ∀ (s : Shared) (H : Hp) (C : Addr) (cl : List (Str × Addr)) (fp : List Addr), DTs (X.blk s H scope (compEnvC scope cl C X.env) fp) EC W0 ifs mt)
    (he : ∀ (s : Shared) (H : Hp) (C : Addr) (cl : List (Str × Addr)) (fp : List Addr), DE (X.blk s H scope (compEnvC scope cl C X.env) fp) EC W0 elt me) (hs : ∀ x, foldedSetIterable iter X.env x = pure x := by intro _; rfl) :
    DS X EC W (.Assign [.Name y py] (.ListComp elt [⟨tg, iter, ifs, 0⟩] scope pos) spos) (mSetL i (mLcS (own.map (·.2)) mi g mt me)) := by
  obtain ⟨wi, pi, ri⟩ := hi.ex
  exact ⟨_, ps_setLc (g := tGd X.K ts g) (tt := tTd X.K EC W0 mt) (te := tE X.K EC W0 me) hc hN hy hyl hsw pi ok (fun s H C cl fp => (hg s H C cl fp).pg) (fun s H C cl fp => (ht s H C cl fp).ex) (fun s H C cl fp => (he s H C cl fp).pe) hs, set_readL (lc_read hts ri)⟩
theorem ds_setLcM (i : Nat) {y : Str} {py : Pos} {elt tg iter : Expr} {ifs : List Expr} {scope : Scope} {own : List (Str × Nat)} {pos spos : Pos} {mi : M (List D)} {ts : List Nat} {g : D → Dl → Option Dl} {mt : M Bool} {me : M D} {W0 : WX} (hc : X.calm = true) (hN : X.N.Nodup) (hy : X.N[i]? = some y) (hyl : X.env.scope.names.lookup y = some .local)
    (hsw : swapsWith (.ListComp elt [⟨tg, iter, ifs, 0⟩] scope pos) (some (.Name y py)) spos.line X.env = pure true) (hi : DI X EC W tg iter mi) (ok : BlkOk X.N X.env.scope scope own)
    (hg : ∀ (s : Shared) (H : Hp) (C : Addr) (cl : List (Str × Addr)) (fp : List Addr), DG (X.blk s H scope (compEnvC scope cl C X.env) fp) tg ts g) (hts : ∀ k ∈ ts, k ∈ own.map (·.2))
    (ht : ∀ (s : Shared) (H : Hp) (C : Addr) (cl : List (Str × Addr)) (fp : List Addr), DTs (X.blk s H scope (compEnvC scope cl C X.env) fp) EC W0 ifs mt)
    (he : ∀ (s : Shared) (H : Hp) (C : Addr) (cl : List (Str × Addr)) (fp : List Addr), DE (X.blk s H scope (compEnvC scope cl C X.env) fp) EC W0 elt me) (hs : ∀ x, foldedSetIterable iter X.env x = pure x := by intro _; rfl) :
    DS X EC W (.Assign [.Name y py] (.ListComp elt [⟨tg, iter, ifs, 0⟩] scope pos) spos) (mSetM i (mLcS (own.map (·.2)) mi g mt me)) := by
  obtain ⟨wi, pi, ri⟩ := hi.ex
  exact ⟨_, ps_setLc (g := tGd X.K ts g) (tt := tTd X.K EC W0 mt) (te := tE X.K EC W0 me) hc hN hy hyl hsw pi ok (fun s H C cl fp => (hg s H C cl fp).pg) (fun s H C cl fp => (ht s H C cl fp).ex) (fun s H C cl fp => (he s H C cl fp).pe) hs, set_readM (lc_read hts ri)⟩
def mAug (i : Nat) (f : Int → Int → Int) (a : M D) : M Fl := fun δ => match δ[i]? with
  | some (.val (.int x)) => (a δ).bind fun d δ => match d with
    | .int y => match setV i (.int (f x y)) δ with
      | some δ' => .ok .nx δ'
      | none => .no
    | _ => .no
  | _ => .no
theorem ds_aug (i : Nat) {x : Str} {pos' : Pos} {op : Operator} {f : Int → Int → Int} (hN : X.N.Nodup) (h : DE X EC W e ma) (ho : PIp X op (ipI f)) (hi : X.N[i]? = some x := by rfl) (hx : Loc X.env.scope x := by first | exact Or.inl rfl | exact Or.inr rfl)
    (hf : X.fn x = true ∨ X.env.scope.names.lookup x = some .local := by first | exact .inl rfl | exact .inr rfl) : DS X EC W (.AugAssign (.Name x pos') op e pos) (mAug i f ma) := by
  obtain ⟨t, p, r⟩ := h.ex
  refine ⟨_, ps_aug hN hi hx p ho hf, fun C0 H0 B C H σ δ N S h => ?_⟩
  unfold mAug at h
  split at h
  · rename_i y q
    obtain ⟨v, h1, h2⟩ := S.val i _ q
    cases h2
    refine ⟨_, h1, r C0 H0 B C H σ δ _ S (RP.imp (RP.bind h) (fun d δ1 h1 v C1 H1 e1 S1 d1 => ?_) PXs.of)⟩
    split at h1
    · split at h1
      · rename_i δ' q'
        cases d1
        exact ⟨_, _, rfl, rfl, h1 _ C1 H1 e1 (S1.set q' (.int _))⟩
      · exact h1.elim
    · exact h1.elim
  · exact h.elim

/-! ### a list that is changed -/
theorem SR.chg {K : PySem.W.Frag} {C0 H0 C H : Hp} {B : List (Nat × Addr)} {σ : L2.St} {δ : Dl} (S : SR K C0 H0 B C H σ δ) {i : Nat} {b : Bool} {ds : List D} (h : δ[i]? = some (.var b ds)) :
    ∃ l xs, σ[i]? = some (some (.ref l)) ∧ H l = some (.lst xs) ∧ DqAll K C xs ds ∧ C l = none ∧ ∀ ys es, DqAll K C ys es → SR K C0 H0 B C (upd H l (.lst ys)) σ (δ.set i (.var b es)) := by
  have hi : i < δ.length := (List.getElem?_eq_some_iff.mp h).1
  have fin : ∀ l xs, σ[i]? = some (some (.ref l)) → H l = some (.lst xs) → C l = none → (b = false → H0 l = none) → (b = true → (i, l) ∈ B) → ∀ ys es, DqAll K C ys es → SR K C0 H0 B C (upd H l (.lst ys)) σ (δ.set i (.var b es)) := by
    intro l xs h1 h2 h3 h4 h5 ys es hd
    have other : ∀ (k : Nat) (b' : Bool) (fs : List D), k ≠ i → δ[k]? = some (.var b' fs) → ∀ l', σ[k]? = some (some (.ref l')) → l' ≠ l := fun k b' fs hk z l' z' e => by
      subst e
      cases b with
      | false =>
        cases b' with
        | false => exact S.odis k i fs ds hk z h l' z' h1
        | true =>
          obtain ⟨m, hm⟩ := S.btr k fs z
          obtain ⟨_, _, _, w2, _⟩ := S.bor _ hm
          rw [z'] at w2
          cases w2
          exact S.bH0 _ hm (h4 rfl)
      | true =>
        have hb := h5 rfl
        cases b' with
        | false =>
          obtain ⟨m, _, w1, w2, _⟩ := S.own k fs z
          rw [z'] at w1
          cases w1
          exact S.bH0 _ hb w2
        | true =>
          obtain ⟨m, hm⟩ := S.btr k fs z
          obtain ⟨_, _, _, w2, _⟩ := S.bor _ hm
          rw [z'] at w2
          cases w2
          exact hk (S.bd1 _ hm _ hb rfl)
    refine ⟨by rw [List.length_set]; exact S.len, S.c0, fun a u z => ?_, fun a u z hb => ?_, S.nw, fun k d z => ?_, fun k fs z => ?_, fun p hp => ?_, fun k fs z => ?_, S.bd1, S.bd2, S.bH0, fun k j fs gs hkj z1 z2 => ?_⟩
    · rw [upd_ne (ne_of_none z h3)]
      exact S.ch a u z
    · have hn : a ≠ l := fun e => by
        subst e
        cases b with
        | false => rw [h4 rfl] at z; cases z
        | true => exact hb _ (h5 rfl) rfl
      rw [upd_ne hn]
      exact S.fr a u z hb
    · have hn : i ≠ k := fun e => by
        subst e
        rw [List.getElem?_set_self hi] at z
        cases z
      rw [List.getElem?_set_ne hn] at z
      exact S.val k d z
    · by_cases q : i = k
      · subst q
        rw [List.getElem?_set_self hi] at z
        cases z
        exact ⟨l, ys, h1, h4 rfl, h3, upd_same, hd⟩
      · rw [List.getElem?_set_ne q] at z
        obtain ⟨l', xs', w1, w2, w3, w4, w5⟩ := S.own k fs z
        refine ⟨l', xs', w1, w2, w3, ?_, w5⟩
        rw [upd_ne (other k false fs (fun e => q e.symm) z l' w1)]
        exact w4
    · obtain ⟨fs, xs', w1, w2, w3, w4, w5⟩ := S.bor p hp
      by_cases q : i = p.1
      · have e1 : (.var b ds : Cell) = .var true fs := by
          rw [q, w1] at h
          exact (Option.some.inj h).symm
        cases e1
        have e2 : p.2 = l := by
          rw [← q, h1] at w2
          exact (V.ref.inj (Option.some.inj (Option.some.inj w2))).symm
        refine ⟨es, ys, ?_, w2, w3, ?_, hd⟩
        · rw [← q, List.getElem?_set_self hi]
        · rw [e2]
          exact upd_same
      · refine ⟨fs, xs', ?_, w2, w3, ?_, w5⟩
        · rw [List.getElem?_set_ne q]
          exact w1
        · rw [upd_ne (other p.1 true fs (fun e => q e.symm) w1 p.2 w2)]
          exact w4
    · by_cases q : i = k
      · subst q
        rw [List.getElem?_set_self hi] at z
        cases z
        exact ⟨l, h5 rfl⟩
      · rw [List.getElem?_set_ne q] at z
        exact S.btr k fs z
    · by_cases q : i = k
      · subst q
        rw [List.getElem?_set_self hi] at z1
        cases z1
        rw [List.getElem?_set_ne hkj] at z2
        exact S.odis i j ds gs hkj h z2
      · rw [List.getElem?_set_ne q] at z1
        by_cases q' : i = j
        · subst q'
          rw [List.getElem?_set_self hi] at z2
          cases z2
          exact S.odis k i fs ds hkj z1 h
        · rw [List.getElem?_set_ne q'] at z2
          exact S.odis k j fs gs hkj z1 z2
  cases b with
  | false =>
    obtain ⟨l, xs, h1, h2, h3, h4, h5⟩ := S.own i ds h
    exact ⟨l, xs, h1, h4, h5, h3, fin l xs h1 h4 h3 (fun _ => h2) fun z => nomatch z⟩
  | true =>
    obtain ⟨l, hl⟩ := S.btr i ds h
    obtain ⟨ds', xs, h1, h2, h3, h4, h5⟩ := S.bor _ hl
    have h1' : δ[i]? = some (.var true ds') := h1
    rw [h] at h1'
    cases h1'
    exact ⟨l, xs, h2, h4, h5, h3, fin l xs h2 h4 h3 (fun z => nomatch z) fun _ => hl⟩
/-- xs.append(e), xs a list that may be changed -/
def mApp (i : Nat) (a : M D) : M Fl := fun δ => match δ[i]? with
  | some (.var _ _) => (a δ).bind fun d δ => match δ[i]? with
    | some (.var b ds) => if ds.length < LINE then .ok .nx (δ.set i (.var b (ds ++ [d]))) else .no
    | _ => .no
  | _ => .no
theorem ds_app (i : Nat) {x : Str} {px : Pos} (h : DE X EC W e ma) (hN : X.N[i]? = some x := by rfl) (hv : Vis X.env.scope x := by first | exact Or.inl rfl | exact Or.inr (Or.inl rfl) | exact Or.inr (Or.inr rfl)) (hd : (x == ("__debug__" : Str)) = false := by decide) (hcd : (x == ("__classdict__" : Str)) = false := by decide)
    (hbase : attributeBase (.Name x px) "append" X.env (eval (.Name x px) X.env) = eval (.Name x px) X.env := by rfl)
    (hfew : ((backTo pos (starEach (e :: []) X.env)).all (fun x => !x.1) && (backToKw pos (keywordEach [] X.env)).all (fun x => x.1.isSome)
      && decide ((e :: []).length + ([] : List Keyword).length + (if ([] : List Keyword).isEmpty then 0 else 1) < 30)) = true := by rfl)
    (hline : (apos.endLine == pos.line) = true := by rfl) (hs : starEach (e :: []) X.env = (false, eval e X.env) :: starEach [] X.env := by rfl) (hplain : (backTo pos (starEach [] X.env)).any (·.1) = false := by rfl)
    (hsw : swapsWith (.Call (.Attribute (.Name x px) "append" apos) [e] [] pos) none p2.line X.env = pure false := by rfl) :
    DS X EC W (.Expr (.Call (.Attribute (.Name x px) "append" apos) [e] [] pos) p2) (mApp i ma) := by
  obtain ⟨t, p, r⟩ := h.ex
  refine ⟨_, ps_expr (pe_bm PySem.F.plainAttrs_list PySem.F.slot_list_append PySem.F.type_list_append mt_append (pe_var hN hv hd hcd) (pa_cons p pa_nil hs) hbase hfew hline hs hplain) hsw, fun C0 H0 B C H σ δ N S h => ?_⟩
  unfold mApp at h
  split at h
  case h_2 => exact h.elim
  rename_i b0 ds0 hq
  obtain ⟨l0, xs0, k1, k2, k3, k4, _⟩ := S.chg hq
  refine ⟨.ref l0, k1, .inl ⟨rfl, xs0, SqL.of k2⟩, r C0 H0 B C H σ δ _ S (RP.imp (RP.bind h) (fun d δ1 h1 v C1 H1 e1 S1 d1 => ?_) PXs.of)⟩
  split at h1
  case h_2 => exact h1.elim
  rename_i b ds hq1
  split at h1
  case isFalse => exact h1.elim
  rename_i hlen
  obtain ⟨l, xs, w1, w2, w3, w4, w5⟩ := S1.chg hq1
  rw [k1] at w1
  cases w1
  exact ⟨_, xs, v, rfl, rfl, w2, by rw [line_eq, dpa_len w3]; exact hlen, h1 σ C1 _ e1 (w5 _ _ (dpa_app w3 (dpa_one d1)))⟩
/-- xs[i], len(xs), xs a list that may be changed -/
def mIxM (i : Nat) (a : M D) : M D := fun δ => match δ[i]? with
  | some (.var _ _) => (a δ).bind fun d δ => match δ[i]?, d with
    | some (.var _ ds), .int k => R.lift (atI ds k) δ
    | _, _ => .no
  | _ => .no
theorem de_ixM (i : Nat) {x : Str} {px : Pos} (h : DE X EC W e ma) (hN : X.N[i]? = some x := by rfl) (hv : Vis X.env.scope x := by first | exact Or.inl rfl | exact Or.inr (Or.inl rfl) | exact Or.inr (Or.inr rfl)) (hd : (x == ("__debug__" : Str)) = false := by decide) (hcd : (x == ("__classdict__" : Str)) = false := by decide)
    (hs : PlainIx e := by exact fun _ _ => rfl) : DE X EC W (.Subscript (.Name x px) e pos) (mIxM i ma) := by
  obtain ⟨t, p, r⟩ := h.ex
  refine ⟨_, pe_ix ix_list (pe_var hN hv hd hcd) p hs, fun C0 H0 B C H σ δ Q S h => ?_⟩
  unfold mIxM at h
  split at h
  case h_2 => exact h.elim
  rename_i b0 ds0 hq
  obtain ⟨l0, xs0, k1, k2, k3, k4, _⟩ := S.chg hq
  refine ⟨.ref l0, k1, r C0 H0 B C H σ δ _ S (RP.imp (RP.bind h) (fun d δ1 h1 v C1 H1 e1 S1 d1 => ?_) fun _ _ _ z => z)⟩
  split at h1
  case h_2 => exact h1.elim
  rename_i b ds k hq1
  obtain ⟨z, hz, q⟩ := RP.lift h1
  obtain ⟨l, xs, w1, w2, w3, w4, w5⟩ := S1.chg hq1
  rw [k1] at w1
  cases w1
  cases d1
  obtain ⟨u, hu, du⟩ := dpa_atI w3 hz
  exact ⟨_, xs, _, u, rfl, rfl, SqL.of w2, hu, q u C1 H1 e1 S1 du⟩
def mLenM (i : Nat) : M D := fun δ => match δ[i]? with
  | some (.var _ ds) => .ok (.int ds.length) δ
  | _ => .no
theorem de_lenM (i : Nat) {x : Str} {px : Pos} (hg : Gl X "len") (hm : X.mg "len" = none) (hN : X.N[i]? = some x := by rfl) (hv : Vis X.env.scope x := by first | exact Or.inl rfl | exact Or.inr (Or.inl rfl) | exact Or.inr (Or.inr rfl)) (hd : (x == ("__debug__" : Str)) = false := by decide) (hcd : (x == ("__classdict__" : Str)) = false := by decide)
    (he : starEach (Expr.Name x px :: []) X.env = (false, eval (Expr.Name x px) X.env) :: starEach [] X.env := by rfl) (hpl : (backTo pos (starEach [] X.env)).any (·.1) = false := by rfl) : DE X EC W (.Call (.Name "len" p) [.Name x px] [] pos) (mLenM i) := by
  refine ⟨_, pe_callB call_len_seq hg hm PySem.boot_len (pa_cons (pe_var hN hv hd hcd) pa_nil he) (by decide) (by decide) he hpl, fun C0 H0 B C H σ δ Q S h => ?_⟩
  unfold mLenM at h
  split at h
  case h_2 => exact h.elim
  rename_i b0 ds0 hq
  obtain ⟨l0, xs0, k1, k2, k3, k4, _⟩ := S.chg hq
  refine ⟨.ref l0, k1, l0, xs0, rfl, .inl (SqL.of k2), ?_⟩
  rw [dpa_len k3]
  exact h _ C H (Ex.refl C) S (.int _)
/-- xs[i] = e -/
def mSetIx (i : Nat) (a b : M D) : M Fl := fun δ => (a δ).bind fun d δ => match δ[i]? with
  | some (.var _ _) => (b δ).bind fun y δ => match δ[i]?, y with
    | some (.var c ds), .int k => match ixN ds.length k with
      | some j => .ok .nx (δ.set i (.var c (ds.set j d)))
      | none => .no
    | _, _ => .no
  | _ => .no
theorem ds_setIx (i : Nat) {x : Str} {px pt : Pos} (h : DE X EC W e ma) (hb : DE X EC W b mb) (hN : X.N[i]? = some x := by rfl) (hv : Vis X.env.scope x := by first | exact Or.inl rfl | exact Or.inr (Or.inl rfl) | exact Or.inr (Or.inr rfl)) (hd : (x == ("__debug__" : Str)) = false := by decide) (hcd : (x == ("__classdict__" : Str)) = false := by decide)
    (hs1 : ∀ v, assign (.Subscript (.Name x px) b pt) X.env v = (do
      let ov ← holding [v] (eval (.Name x px) X.env)
      let iv ← holding [v, ov] (eval b X.env)
      standAt pt
      holding [v, ov, iv] (setItem ov iv v)
      release [v, ov, iv] []) := by intro _; rfl)
    (hs : swapsWithSole [.Subscript (.Name x px) b pt] e pos.line X.env = pure false := by rfl) (hw : swappedStores [.Subscript (.Name x px) b pt] e X.env = pure none := by rfl)
    (h1 : (assignEach [.Subscript (.Name x px) b pt] X.env).map (·.2) = [assign (.Subscript (.Name x px) b pt) X.env] := by rfl) : DS X EC W (.Assign [.Subscript (.Name x px) b pt] e pos) (mSetIx i ma mb) := by
  obtain ⟨t, p, r⟩ := h.ex
  obtain ⟨t2, p2, r2⟩ := hb.ex
  refine ⟨_, ps_asg p (pg_sub (pe_var hN hv hd hcd) p2 set_list hs1) hs hw h1, fun C0 H0 B C H σ δ N S h => r C0 H0 B C H σ δ _ S (RP.imp (RP.bind h) (fun d δ1 h1 v C1 H1 e1 S1 d1 => ?_) PXs.of)⟩
  split at h1
  case h_2 => exact h1.elim
  rename_i b0 ds0 hq
  obtain ⟨l0, xs0, k1, k2, k3, k4, _⟩ := S1.chg hq
  refine ⟨.ref l0, k1, r2 C0 H0 B C1 H1 σ δ1 _ S1 (RP.imp (RP.bind h1) (fun y δ2 h2 w C2 H2 e2 S2 d2 => ?_) fun c d δ z => PXe.mono e1 _ _ _ (PXs.of c d δ z))⟩
  split at h2
  case h_2 => exact h2.elim
  rename_i b ds k hq1
  split at h2
  case h_2 => exact h2.elim
  rename_i j hj
  obtain ⟨l, xs, w1, w2, w3, w4, w5⟩ := S2.chg hq1
  rw [k1] at w1
  cases w1
  cases d2
  exact ⟨_, xs, k, j, rfl, rfl, w2, by rw [dpa_len w3]; exact hj, h2 σ C2 _ (e1.trans e2) (w5 _ _ (dpa_set (dp_ex e2 _ _ d1) j w3))⟩

/-! ### loops -/
def mFor (g : D → Dl → Option Dl) (body : M Fl) : List D → M Fl
  | [], δ => .ok .nx δ
  | x :: xs, δ => match g x δ with
    | none => .no
    | some δ1 => (body δ1).bind fun f δ2 => match f with
      | .nx => mFor g body xs δ2
      | .ct => mFor g body xs δ2
      | .bk => .ok .nx δ2
      | .rt d => .ok (.rt d) δ2
def mForS (it : M (List D)) (g : D → Dl → Option Dl) (body : M Fl) : M Fl := fun δ => (it δ).bind fun xs δ => mFor g body xs δ
theorem ds_for (hp : PassesOwn (model X.prog X.w) X.A X.env X.xe) (hc : X.calm = true) {mi : M (List D)} (hi : DI X EC W tg iter mi) (hg : DG X tg ts g) (hb : DSs X EC W sa m1) (hs : ∀ x, foldedSetIterable iter X.env x = pure x := by intro _; rfl) :
    DS X EC W (.For tg iter sa [] pos) (mForS mi g m1) := by
  obtain ⟨wi, pi, ri⟩ := hi.ex
  obtain ⟨tg', pg, rg⟩ := hg.ex
  obtain ⟨tb, pb, rb⟩ := hb.ex
  refine ⟨_, ps_for hp hc pi pg pb hs, fun C0 H0 B C H σ δ N S h => ri C0 H0 B C H σ δ _ S (RP.imp (RP.bind h) (fun items δ1 h1 J C1 H1 e1 S1 it => ?_) PXs.of)⟩
  obtain ⟨G, Y, wk, hG, hY⟩ := it.ex
  refine for_it wk (fun i σ' H' => ∃ C' δ', Ex C1 C' ∧ SR X.K C0 H0 B C' H' σ' δ' ∧ RP (mFor g m1 (items.drop i) δ') (PKs X.K C0 H0 B C1 N) (PXs X.K EC W C0 H0 B C1)) ⟨C1, δ1, Ex.refl _, S1, RP.imp h1 (PKs.mono e1) (PXs.mono e1)⟩ (fun i σ' H' _ ⟨C', δ', e2, S2, _⟩ => hG H' (e2.trans S2.ch)) ?_ ?_
  · rintro i x σ2 H2 H3 hi ⟨C', δ', e2, S2, q⟩ y
    have hdrop : items.drop i = items[i] :: items.drop (i + 1) := List.drop_eq_getElem_cons hi
    have hget : items[i]? = some items[i] := List.getElem?_eq_getElem hi
    rw [hdrop] at q
    unfold mFor at q
    refine hY i _ hget C' H2 x H3 (fun x H3 => tg' x σ2 H3 _) e2 S2.ch y (rs_of (C0 := C0) (H0 := H0) (B := B) (σ := σ2) (δ := δ') S2 fun v C3 H3 e3 S3 d3 => ?_)
    cases hg1 : g items[i] δ' with
    | none => rw [hg1] at q; exact q.elim
    | some δ4 =>
      rw [hg1] at q
      refine rg C0 H0 B C3 H3 σ2 δ' δ4 v _ _ S3 d3 hg1 fun σ4 S4 _ => rb C0 H0 B C3 H3 σ4 δ4 _ S4 (RP.imp (RP.bind q) (fun f δ5 h5 σ5 C5 H5 e5 S5 => ?_) (PXs.mono (e2.trans e3)))
      cases f with
      | nx => exact ⟨C5, δ5, (e2.trans e3).trans e5, S5, h5⟩
      | ct => exact ⟨C5, δ5, (e2.trans e3).trans e5, S5, h5⟩
      | bk => exact h5 σ5 C5 H5 ((e2.trans e3).trans e5) S5
      | rt d => exact h5 σ5 C5 H5 ((e2.trans e3).trans e5) S5
  · rintro σ2 H2 ⟨C', δ', e2, S2, q⟩
    rw [List.drop_length] at q
    exact q σ2 C' H2 e2 S2
def mWhile (t : M Bool) (body : M Fl) : Nat → M Fl
  | 0, _ => .no
  | n + 1, δ => (t δ).bind fun b δ1 => if b then (body δ1).bind fun f δ2 => match f with
      | .nx => mWhile t body n δ2
      | .ct => mWhile t body n δ2
      | .bk => .ok .nx δ2
      | .rt d => .ok (.rt d) δ2
    else .ok .nx δ1
open Classical in
noncomputable def mWhileS (t : M Bool) (body : M Fl) : M Fl := fun δ => if h : ∃ n, mWhile t body n δ ≠ .no then mWhile t body h.choose δ else .no
theorem bind_ne {α β : Type} {r : R α} {f : α → Dl → R β} (h : r.bind f ≠ .no) : r ≠ .no := fun e => h (by rw [e]; rfl)
theorem mWhile_succ (t : M Bool) (body : M Fl) : ∀ n δ, mWhile t body n δ ≠ .no → mWhile t body (n + 1) δ = mWhile t body n δ
  | 0, δ, h => absurd rfl h
  | n + 1, δ, h => by
    unfold mWhile at h ⊢
    cases q : t δ with
    | no => rfl
    | ex c d δ' => rfl
    | ok b δ1 =>
      rw [q] at h
      cases b with
      | false => rfl
      | true =>
        simp only [R.bind, if_true] at h ⊢
        cases q2 : body δ1 with
        | no => rfl
        | ex c d δ' => rfl
        | ok f δ2 =>
          rw [q2] at h
          cases f with
          | nx => exact mWhile_succ t body n δ2 h
          | ct => exact mWhile_succ t body n δ2 h
          | bk => rfl
          | rt d => rfl
theorem mWhile_add (t : M Bool) (body : M Fl) (n : Nat) (δ : Dl) (h : mWhile t body n δ ≠ .no) : ∀ k, mWhile t body (n + k) δ = mWhile t body n δ
  | 0 => rfl
  | k + 1 => by
    have ih := mWhile_add t body n δ h k
    show mWhile t body ((n + k) + 1) δ = _
    rw [mWhile_succ t body (n + k) δ (by rw [ih]; exact h), ih]
theorem mWhileS_eq {t : M Bool} {body : M Fl} {n : Nat} {δ : Dl} (h : mWhile t body n δ ≠ .no) : mWhileS t body δ = mWhile t body n δ := by
  have hx : ∃ n, mWhile t body n δ ≠ .no := ⟨n, h⟩
  unfold mWhileS
  rw [dif_pos hx]
  have hc := hx.choose_spec
  rcases Nat.le_total n hx.choose with l | l
  · obtain ⟨k, e⟩ := Nat.le.dest l
    rw [← e]
    exact mWhile_add t body n δ h k
  · obtain ⟨k, e⟩ := Nat.le.dest l
    rw [← e]
    exact (mWhile_add t body _ δ hc k).symm
theorem ds_while (hp : PassesOwn (model X.prog X.w) X.A X.env X.xe) (hc : DT X EC W c mt) (hb : DSs X EC W sa m1) : DS X EC W (.While c sa [] pos) (mWhileS mt m1) := by
  obtain ⟨tc, pc, rc⟩ := hc.ex
  obtain ⟨tb, pb, rb⟩ := hb.ex
  refine ⟨_, ps_while hp pc pb, fun C0 H0 B C H σ δ N S h => ?_⟩
  unfold mWhileS at h
  split at h
  case isFalse => exact h.elim
  rename_i hx
  refine ⟨fun n σ' H' => ∃ C' δ', Ex C C' ∧ SR X.K C0 H0 B C' H' σ' δ' ∧ RP (mWhile mt m1 n δ') (PKs X.K C0 H0 B C N) (PXs X.K EC W C0 H0 B C), ⟨_, C, δ, Ex.refl C, S, h⟩, ?_⟩
  rintro n σ2 H2 ⟨C', δ', e2, S2, q⟩
  cases n with
  | zero => exact q.elim
  | succ n =>
    unfold mWhile at q
    refine rc C0 H0 B C' H2 σ2 δ' _ S2 (RP.imp (RP.bind q) (fun b δ3 h3 C3 H3 e3 S3 => ?_) fun c d δ z => PXs.of c d δ (PXs.mono e2 c d δ z))
    cases b with
    | false => exact h3 σ2 C3 H3 (e2.trans e3) S3
    | true =>
      refine ⟨fun σ' H' => ∃ C' δ', Ex C C' ∧ SR X.K C0 H0 B C' H' σ' δ' ∧ RP (mWhile mt m1 n δ') (PKs X.K C0 H0 B C N) (PXs X.K EC W C0 H0 B C), fun σ' H' z => ⟨n, Nat.lt_succ_self n, z⟩, ?_⟩
      refine rb C0 H0 B C3 H3 σ2 δ3 _ S3 (RP.imp (RP.bind h3) (fun f δ4 h4 σ4 C4 H4 e4 S4 => ?_) (PXs.mono (e2.trans e3)))
      cases f with
      | nx => exact ⟨C4, δ4, (e2.trans e3).trans e4, S4, h4⟩
      | ct => exact ⟨C4, δ4, (e2.trans e3).trans e4, S4, h4⟩
      | bk => exact h4 σ4 C4 H4 ((e2.trans e3).trans e4) S4
      | rt d => exact h4 σ4 C4 H4 ((e2.trans e3).trans e4) S4

/-! ### defs -/
/-- what a def gives of data; n: how many slots it has -/
def mDef (n : Nat) (body : M Fl) (ds : List D) : R D := (body (ds.map .val ++ List.replicate (n - ds.length) .non)).bind fun f _ => match f with
  | .rt d => .ok d []
  | .nx => .ok .none []
  | _ => .no
def SpP (K : PySem.W.Frag) (n : Nat) (mf : List D → R D) : Sp := fun vs H Q _ => ∃ C ds, Ex C H ∧ DqAll K C vs ds ∧ vs.length = n ∧
  RP (mf ds) (fun d _ => ∀ v C2 H2, Ex C C2 → Ex H H2 → Ex C2 H2 → (∀ a, H a ≠ none → C a = none → C2 a = none) → Dq K C2 v d → Q v H2) fun _ _ _ => False
end
theorem start_sr {K : PySem.W.Frag} {C H : Hp} {N : List Str} {vs : List V} {ds : List D} (e : Ex C H) (h : DqAll K C vs ds) : SR K C H [] C H (L2.start N vs) (ds.map .val ++ List.replicate (N.length - ds.length) .non) := by
  have hl := dpa_len h
  have nov : ∀ {i : Nat} {b : Bool} {es : List D}, (ds.map Cell.val ++ List.replicate (N.length - ds.length) .non)[i]? ≠ some (.var b es) := fun {i b es} z => by
    have m := List.mem_of_getElem? z
    rcases List.mem_append.mp m with m | m
    · obtain ⟨d, _, q⟩ := List.mem_map.mp m
      cases q
    · have := List.eq_of_mem_replicate m
      cases this
  refine ⟨?_, Ex.refl C, e, fun a o z _ => z, fun a _ z => z, fun i d z => ?_, fun i es z => absurd z nov, fun p hp => (by cases hp), fun i es z => absurd z nov, fun p hp => (by cases hp), fun p hp => (by cases hp), fun p hp => (by cases hp), fun i j es fs _ z => absurd z nov⟩
  · unfold L2.start
    simp [hl]
  · have hi : i < ds.length := by
      rcases Nat.lt_or_ge i ds.length with h | h
      · exact h
      · rw [List.getElem?_append_right (by simpa using h)] at z
        have := List.eq_of_mem_replicate (List.mem_of_getElem? z)
        cases this
    rw [List.getElem?_append_left (by simpa using hi), List.getElem?_map] at z
    cases q : ds[i]? with
    | none => rw [q] at z; cases z
    | some d' =>
      rw [q] at z
      cases z
      obtain ⟨v, h1, h2⟩ := dpa_get h q
      refine ⟨v, ?_, h2⟩
      unfold L2.start
      rw [List.getElem?_append_left (by simpa [hl] using hi), List.getElem?_map, h1]
      rfl
section
variable {P : Program} {w : World} {K : PySem.W.Frag} {mg : Str → Option Value} {base : Heap}
/-- THE RULE of a def that no exception leaves -/
theorem def_ok {x qual : Str} {st : Stmt} {f : Addr} {fd : FuncData} {N ps : List Str} {k : Nat} {EC : ECl} {m : M Fl} (F : Fun K x qual st f fd) (S : FnScope N ps (defScope st))
    (hb : ∀ (cdv : Value) (A : Around) (outer : List Env) (s : Shared) (H : Hp) (E : XK), Room k (A.deeper (envOfC qual (defScope st) s.heap.objs.size f cdv)) →
      DSs (cxOf CX0 P w K mg base N qual (defScope st) f cdv A outer s H E).nox EC (fun _ _ _ _ => False) (defBody st) m) : FnOk P w K mg base CX0 (k + 1) f fd ps (SpP K ps.length (mDef N.length m)) := by
  refine F.ok S (fun vs H Q E h => ?_) (fun cdv A outer s H vs Q E hr h => ?_)
  · obtain ⟨C, ds, _, _, hl, _⟩ := h
    exact hl
  · obtain ⟨C, ds, e, hd, hl, q⟩ := h
    obtain ⟨t, p, r⟩ := (hb cdv A outer s H E hr).ex
    refine ⟨t, p, r C H [] C H (L2.start N vs) _ _ (start_sr e hd) (RP.imp (RP.bind q) (fun f δ h1 σ C2 H2 e2 S2 => ?_) fun c d δ z => z.elim)⟩
    have n2 : ∀ a, H a ≠ none → C a = none → C2 a = none := S2.nw
    have eH : Ex H H2 := fun a o z => S2.fr a o z fun p hp => by cases hp
    cases f with
    | nx => exact h1 .non C2 H2 e2 eH S2.ch n2 .non
    | rt d => exact fun v hv => h1 v C2 H2 e2 eH S2.ch n2 hv
    | bk => exact h1.elim
    | ct => exact h1.elim
end
section
variable {X : Cx} {EC : ECl} {W : WX} {e : Expr} {es : List Expr} {mes : M (List D)} {pos p : Pos} {k : Nat} {f : Addr} {fd : FuncData} {ps : List Str} {n : Nat} {mf : List D → R D} {x : Str}
def mCallF (mf : List D → R D) (a : M (List D)) : M D := fun δ => (a δ).bind fun ds δ => match mf ds with
  | .ok d _ => .ok d δ
  | _ => .no
theorem de_call (F : FnOk X.prog X.w X.K X.mg X.base CX0 k f fd ps (SpP X.K n mf)) (hr : Room k X.A) (hn : es.length + 1 = n) (hm : X.mg x = some (.ref f)) (hk : PySem.W.keepIn X.K (.ref f) = true) (hb : Binds X.K fd ps []) (ha : DA X EC W (e :: es) mes) (hg : Gl X x := by rfl)
    (hdb : (x == ("__debug__" : Str)) = false := by decide) (he : starEach (e :: es) X.env = (false, eval e X.env) :: starEach es X.env := by rfl) (hpl : (backTo pos (starEach es X.env)).any (·.1) = false := by rfl) : DE X EC W (.Call (.Name x p) (e :: es) [] pos) (mCallF mf mes) := by
  obtain ⟨t, pa, ra⟩ := ha.ex
  refine ⟨_, pe_call (dvs := []) (ds := []) F hr hg hm hk hb .nil pass0 pa hdb he hpl, fun C0 H0 B C H σ δ Q S h => ?_⟩
  have hb := RP.bind h
  refine ra C0 H0 B C H σ δ _ S ?_
  cases q : mes δ with
  | no => rw [q] at hb; exact hb.elim
  | ex c d δ' => rw [q] at hb; exact hb
  | ok ds δ1 =>
    rw [q] at hb
    have hl := ha.len δ ds δ1 q
    intro vs C1 H1 e1 S1 d1
    refine ⟨C1, ds, S1.ch, by rw [List.append_nil]; exact d1, by rw [List.append_nil, dpa_len d1, hl]; exact hn, ?_⟩
    have hb : RP (match mf ds with | .ok d _ => R.ok d δ1 | _ => .no) (PKe X.K C0 H0 B C σ Q) (PXe X.K EC W C0 H0 B C σ) := hb
    cases q2 : mf ds with
    | no => rw [q2] at hb; exact hb.elim
    | ex c d δ' => rw [q2] at hb; exact hb.elim
    | ok d δ2 =>
      rw [q2] at hb
      intro v C2 H2 e2 e3 e4 n2 dv
      exact hb v C2 H2 (e1.trans e2) (S1.step e2 e3 e4 n2) dv
end
end DL
end Part_DLg

section Part_DLh
set_option Elab.async false
set_option linter.all false
set_option maxRecDepth 100000
set_option autoImplicit false
set_option maxHeartbeats 2000000
namespace DL
open PySem PySem.Spec PyProof.Rows L2 Evl

/-! ### defs by name -/
/-- the def st stands at the name x -/
structure FunX (K : PySem.W.Frag) (mg : Str → Option Value) (x : Str) (st : Stmt) (ps : List Str) : Prop where
  ex : ∃ f fd, Fun K x x st f fd ∧ mg x = some (.ref f) ∧ ∀ (s : Shared) (us : List Value), us.length = ps.length → BindsTo s fd ⟨us, []⟩ (ps.zip us)
theorem binds_of {K : PySem.W.Frag} {fd : FuncData} {ps : List Str} (h : ∀ (s : Shared) (us : List Value), us.length = ps.length → BindsTo s fd ⟨us, []⟩ (ps.zip us)) : Binds K fd ps [] := fun s us _ hl => by
  rw [List.append_nil] at hl ⊢
  exact h s us hl
/-- .. and does what the mirror mf says -/
structure FnX (P : Program) (w : World) (K : PySem.W.Frag) (mg : Str → Option Value) (base : Heap) (k : Nat) (x : Str) (n : Nat) (mf : List D → R D) : Prop where
  ex : ∃ f fd ps, FnOk P w K mg base CX0 k f fd ps (SpP K n mf) ∧ mg x = some (.ref f) ∧ PySem.W.keepIn K (.ref f) = true ∧ Binds K fd ps []
section
variable {P : Program} {w : World} {K : PySem.W.Frag} {mg : Str → Option Value} {base : Heap}
theorem def_okX {x : Str} {st : Stmt} {N ps : List Str} {k : Nat} {EC : ECl} {m : M Fl} (F : FunX K mg x st ps) (S : FnScope N ps (defScope st))
    (hb : ∀ (f : Addr) (cdv : Value) (A : Around) (outer : List Env) (s : Shared) (H : Hp) (E : XK), Room k (A.deeper (envOfC x (defScope st) s.heap.objs.size f cdv)) →
      DSs (cxOf CX0 P w K mg base N x (defScope st) f cdv A outer s H E).nox EC (fun _ _ _ _ => False) (defBody st) m) : FnX P w K mg base (k + 1) x ps.length (mDef N.length m) := by
  obtain ⟨f, fd, F, hg, hbi⟩ := F.ex
  exact ⟨f, fd, ps, def_ok F S fun cdv A outer s H E hr => hb f cdv A outer s H E hr, hg, F.kp, binds_of hbi⟩
theorem funX_mk {h : Heap} {x : Str} {st : Stmt} {ps : List Str} {f : Addr} {oc : Value} {od an : Option Addr} {osl : Array (Option Value)} {kV doc pm cdv ct : Value} (X : K.In h) (G : h.Ns mainGlobals mg) (a : PySem.W.nsIn K mainGlobals x = some (some (.ref f)))
    (l : K.lookup f = some ⟨oc, od, .func (PySem.W.fnOf x x (defArgs st) (defBody st) (defScope st) .none kV doc pm an cdv ct), osl⟩) (c : PySem.W.codeIn K cdv x = true) (k : PySem.W.keepIn K (.ref f) = true)
    (hb : ∀ (kV doc pm : Value) (an : Option Addr) (cdv ct : Value) (us : List Value), us.length = ps.length → bindArgs (PySem.W.fnOf x x (defArgs st) (defBody st) (defScope st) .none kV doc pm an cdv ct) ⟨us, []⟩ = pure (ps.zip us)) : FunX K mg x st ps := by
  have F := fun_mk (st := st) l c k
  exact ⟨f, _, F, PySem.W.mg_of X G a, fun s us hl => .of_eq (hb _ _ _ _ _ _ us hl)⟩
/-- a constant of the module -/
structure ConX (K : PySem.W.Frag) (mg : Str → Option Value) (x : Str) (d : D) : Prop where
  ex : ∃ v u, mg x = some u ∧ RelV v u ∧ ∀ C, Dq K C v d
theorem con_int {h : Heap} {x : Str} {i : Int} {t : Tok} (X : K.In h) (G : h.Ns mainGlobals mg) (a : PySem.W.nsIn K mainGlobals x = some (some (.int i t))) : ConX K mg x (.int i) := ⟨.int i, _, PySem.W.mg_of X G a, ⟨t, rfl⟩, fun _ => .int i⟩
theorem con_str {h : Heap} {x z : Str} {t : Tok} (X : K.In h) (G : h.Ns mainGlobals mg) (a : PySem.W.nsIn K mainGlobals x = some (some (.str z t))) : ConX K mg x (.str z) := ⟨.str z, _, PySem.W.mg_of X G a, ⟨t, rfl⟩, fun _ => .str z⟩
/-- values that are data by themselves -/
def flatU : Value → Option D
  | .none => some .none
  | .bool b => some (.bool b)
  | .int i _ => some (.int i)
  | .str s _ => some (.str s)
  | _ => none
theorem flatU_ok {u : Value} {d : D} (h : flatU u = some d) : ∃ v, RelV v u ∧ ∀ (K : PySem.W.Frag) C, Dq K C v d := by
  cases u <;> first | (cases h; done) | skip
  · cases h; exact ⟨.non, rfl, fun _ _ => .non⟩
  · rename_i b; cases h; exact ⟨.bl b, rfl, fun _ _ => .bl b⟩
  · rename_i i t; cases h; exact ⟨.int i, ⟨t, rfl⟩, fun _ _ => .int i⟩
  · rename_i s t; cases h; exact ⟨.str s, ⟨t, rfl⟩, fun _ _ => .str s⟩
def flatsU : List Value → Option (List D)
  | [] => some []
  | u :: us => match flatU u, flatsU us with
    | some d, some ds => some (d :: ds)
    | _, _ => none
theorem flatsU_ok : ∀ {us : List Value} {ds : List D}, flatsU us = some ds → ∃ vs, Vals vs us ∧ ∀ (K : PySem.W.Frag) C, DqAll K C vs ds
  | [], _, h => by cases h; exact ⟨[], .nil, fun _ _ => .nil⟩
  | u :: us, ds, h => by
    unfold flatsU at h
    split at h
    · rename_i d ds' h1 h2
      cases h
      obtain ⟨v, r, q⟩ := flatU_ok h1
      obtain ⟨vs, rs, qs⟩ := flatsU_ok h2
      exact ⟨v :: vs, .cons r rs, fun K C => .cons (q K C) (qs K C)⟩
    · cases h
theorem con_tup {h : Heap} {x : Str} {a : Addr} {dd : Option Addr} {us : List Value} {n : Nat} {sl : Array (Option Value)} {ds : List D} (X : K.In h) (G : h.Ns mainGlobals mg) (e : PySem.W.nsIn K mainGlobals x = some (some (.ref a)))
    (l : K.lookup a = some ⟨.type "tuple", dd, .seq us.toArray n, sl⟩) (hd : flatsU us = some ds) (hz : us.length ≤ 100000 := by decide) : ConX K mg x (.tuple ds) := by
  obtain ⟨vs, r, q⟩ := flatsU_ok hd
  exact ⟨.ref a, _, PySem.W.mg_of X G e, rfl, fun C => .tup (.inr ⟨_, us.toArray, n, l, rfl, rfl, sz_of (by simpa using hz), by simpa using r⟩) (q K C)⟩
end
section
variable {X : Cx} {EC : ECl} {W : WX} {e : Expr} {es : List Expr} {mes : M (List D)} {pos p : Pos} {k n : Nat} {mf : List D → R D} {x : Str} {d : D}
theorem de_callX (F : FnX X.prog X.w X.K X.mg X.base k x n mf) (hr : Room k X.A) (ha : DA X EC W (e :: es) mes) (hn : es.length + 1 = n := by rfl) (hg : Gl X x := by rfl)
    (hdb : (x == ("__debug__" : Str)) = false := by decide) (he : starEach (e :: es) X.env = (false, eval e X.env) :: starEach es X.env := by rfl) (hpl : (backTo pos (starEach es X.env)).any (·.1) = false := by rfl) :
    DE X EC W (.Call (.Name x p) (e :: es) [] pos) (mCallF mf mes) := by
  obtain ⟨f, fd, ps, F, hm, hk, hb⟩ := F.ex
  exact de_call F hr hn hm hk hb ha hg hdb he hpl
theorem de_callX0 (F : FnX X.prog X.w X.K X.mg X.base k x 0 mf) (hr : Room k X.A) (hg : Gl X x := by rfl)
    (hdb : (x == ("__debug__" : Str)) = false := by decide) : DE X EC W (.Call (.Name x p) [] [] pos) (mCallF mf mNil) := by
  obtain ⟨f, fd, ps, F, hm, hk, hb⟩ := F.ex
  refine ⟨_, pe_call0 (dvs := []) (ds := []) F hr hg hm hk hb .nil pass0 hdb, fun C0 H0 B C H σ δ Q S h => ?_⟩
  refine ⟨C, [], S.ch, .nil, rfl, ?_⟩
  have h : RP (match mf [] with | .ok d _ => R.ok d δ | _ => .no) (PKe X.K C0 H0 B C σ Q) (PXe X.K EC W C0 H0 B C σ) := h
  cases q2 : mf [] with
  | no => rw [q2] at h; exact h.elim
  | ex c d δ' => rw [q2] at h; exact h.elim
  | ok d δ2 =>
    rw [q2] at h
    intro v C2 H2 e2 e3 e4 n2 dv
    exact h v C2 H2 e2 (S.step e2 e3 e4 n2) dv
theorem de_conX (h : ConX X.K X.mg x d) (hg : Gl X x := by rfl) (hdb : (x == ("__debug__" : Str)) = false := by decide) : DE X EC W (.Name x pos) (mC d) := by
  obtain ⟨v, u, hm, r, hd⟩ := h.ex
  exact de_glob hg hm r hd hdb
end
/-! ### the end -/
theorem walk_law {l : PySem.W.OpenLaw} {k : Nat} {q : Program} {loose : List Str} {XP : (Str → Option Value) → Heap → Prop} {YP : World → Heap → Prop} {d : DefRec} {K : Params → PySem.W.Frag} {m : M Fl} {st : Stmt} {N : List Str} {EC : ECl} (hn : l.most = some 63) (hdf : d.params.defaults = []) (hname : d.name = "law")
    (hr : Room (k + 1) callerA) (hY : ∀ (w : World) (h : Heap), YP w h → (K w.params).In h) (S : FnScope N ["script"] (defScope st))
    (F : ∀ (w : World) (mg : Str → Option Value) (h : Heap), (K w.params).In h → h.Ns mainGlobals mg →
      FunX (K w.params) mg "law" st ["script"] ∧ ∀ (base : Heap) (f : Addr) (cdv : Value) (A : Around) (outer : List Env) (s : Shared) (H : Hp) (E : XK), Room k (A.deeper (envOfC "law" (defScope st) s.heap.objs.size f cdv)) →
      DSs (cxOf CX0 l.prog w (K w.params) mg base N "law" (defScope st) f cdv A outer s H E).nox EC (fun _ _ _ _ => False) (defBody st) m)
    (hsp : ∀ ns : List Int, ns.length ≤ 63 → ∃ δ, mDef N.length m [.list (ns.map .int)] = .ok (.bool true) δ) :
    PySem.W.WalkO q loose XP YP l.row.toRowW d [] (fun f vs => PySem.call f vs) := by
  refine L2.walk_of (n := 63) (k := k + 1) (x := "script") (CX := fun _ => CX0) (sp := fun w => SpP (K w.params) 1 (mDef N.length m)) hn (by decide) hdf hr hY (fun w mg fa h KX G hmg => ?_) (fun w H a ns hl _ hS => ?_) fun _ _ _ _ _ z => z
  · obtain ⟨F1, F2⟩ := F w mg h KX G
    obtain ⟨f, fd, F0, hg, hb⟩ := F1.ex
    rw [hname, hg] at hmg
    cases hmg
    exact ⟨fd, fun s u => hb s [u] rfl, fun base Kb Gb => def_ok F0 S fun cdv A outer s H E hr => F2 base _ cdv A outer s H E hr⟩
  · obtain ⟨δ, e⟩ := hsp ns hl
    refine ⟨H, [.list (ns.map .int)], Ex.refl H, .cons (.lst hS ints_dpa) .nil, rfl, ?_⟩
    rw [e]
    intro v C2 H2 e1 e2 e3 n2 dv
    cases dv
    rfl
end DL
end Part_DLh

section Part_DLi
set_option Elab.async false
set_option linter.all false
set_option maxRecDepth 100000
set_option autoImplicit false
set_option maxHeartbeats 2000000
namespace DL
open PySem PySem.Spec PyProof.Rows L2 Evl
/-! ### mirrors, evaluated -/
section
variable {α β : Type} {δ : Dl}
theorem bind_ok {a : α} {f : α → Dl → R β} : R.bind (.ok a δ) f = f a δ := rfl
theorem bind_no {f : α → Dl → R β} : R.bind .no f = .no := rfl
theorem bind_ite {c : Prop} [Decidable c] {x y : R α} {f : α → Dl → R β} : R.bind (if c then x else y) f = if c then R.bind x f else R.bind y f := by split <;> rfl
theorem lift_some {a : α} : R.lift (some a) δ = .ok a δ := rfl
theorem lift_none : R.lift (none : Option α) δ = .no := rfl
theorem noex_ok {a : α} : R.noex (.ok a δ) = .ok a δ := rfl
end
theorem sh_int (i : Int) : SeqAt.shaped (.int i) = true := rfl
theorem sh_bool (i : Bool) : SeqAt.shaped (.bool i) = true := rfl
theorem sh_none : SeqAt.shaped .none = true := rfl
theorem add_ii (i j : Int) : dAdd (.int i) (.int j) = some (.int (i + j)) := rfl
theorem sub_ii (i j : Int) : dSub (.int i) (.int j) = some (.int (i - j)) := rfl
theorem neg_i (i : Int) : dNeg (.int i) = some (.int (-i)) := rfl
theorem mul_r {i j : Int} (h1 : -18446744073709551616 < j) (h2 : j < 18446744073709551616) : dMul (.int i) (.int j) = some (.int (i * j)) := by
  show (if CMul i j ∨ CMulW i j then some (PyData.int (i * j)) else none) = _
  rw [if_pos (.inl (.inr ⟨by omega, by omega⟩))]
theorem mul_l {i j : Int} (h1 : -18446744073709551616 < i) (h2 : i < 18446744073709551616) : dMul (.int i) (.int j) = some (.int (i * j)) := by
  show (if CMul i j ∨ CMulW i j then some (PyData.int (i * j)) else none) = _
  rw [if_pos (.inl (.inl ⟨by omega, by omega⟩))]
theorem div_s {i j : Int} (h1 : 0 < j) (h2 : j < 1073741824) : dDiv (.int i) (.int j) = some (.int (i / j)) := by
  show (if CDivN i j ∨ CDivW i j then some (PyData.int (i.fdiv j)) else none) = _
  rw [if_pos (.inl ⟨by omega, by omega⟩), Int.fdiv_eq_ediv_of_nonneg i (by omega)]
theorem mod_s {i j : Int} (h1 : 0 < j) : dMod (.int i) (.int j) = some (.int (i % j)) := by
  show (if j ≠ 0 then some (PyData.int (i.fmod j)) else none) = _
  rw [if_pos (by omega), Int.fmod_eq_emod_of_nonneg i (by omega)]
theorem eq_ii (i j : Int) : dEq (.int i) (.int j) = some (.bool (decide (i = j))) := by
  show some (PyData.bool (i == j)) = _
  rw [Bool.beq_eq_decide_eq]
theorem ne_ii (i j : Int) : dNe (.int i) (.int j) = some (.bool (!decide (i = j))) := by
  show some (PyData.bool (!(i == j))) = _
  rw [Bool.beq_eq_decide_eq]
theorem eq_bb (i j : Bool) : dEq (.bool i) (.bool j) = some (.bool (i == j)) := rfl
theorem ne_bb (i j : Bool) : dNe (.bool i) (.bool j) = some (.bool (!(i == j))) := rfl
theorem lt_ii (i j : Int) : dLt (.int i) (.int j) = some (.bool (decide (i < j))) := rfl
theorem gt_ii (i j : Int) : dGt (.int i) (.int j) = some (.bool (decide (j < i))) := rfl
theorem le_ii (i j : Int) : dLe (.int i) (.int j) = some (.bool (decide (i ≤ j))) := rfl
theorem ge_ii (i j : Int) : dGe (.int i) (.int j) = some (.bool (decide (j ≤ i))) := rfl
theorem len_l (xs : List D) : dLen [.list xs] = some (.int xs.length) := rfl
theorem len_t (xs : List D) : dLen [.tuple xs] = some (.int xs.length) := rfl
theorem len_s {s : Str} (h : s.length ≤ 16777216) : dLen [.str s] = some (.int s.length) := by
  show (if s.length ≤ LINE then some (PyData.int s.length) else none) = _
  rw [if_pos h]
theorem int_i (i : Int) : dInt [.int i] = some (.int i) := rfl
theorem int_b (b : Bool) : dInt [.bool b] = some (.int (if b then 1 else 0)) := rfl
theorem abs_i (i : Int) : dAbs [.int i] = some (.int (if i < 0 then -i else i)) := rfl
theorem max_ii (i j : Int) : dMax [.int i, .int j] = some (.int (if j > i then j else i)) := rfl
theorem min_ii (i j : Int) : dMin [.int i, .int j] = some (.int (if j < i then j else i)) := rfl
theorem tuple_l (xs : List D) : dTuple [.list xs] = some (.tuple xs) := rfl
theorem all_l (bs : List Bool) : dAll [.list (bs.map .bool)] = some (.bool (bs.all id)) := by
  show (dBls (bs.map .bool)).map _ = _
  rw [dBls_map]
  rfl
theorem ix_l (xs : List D) (i : Int) : dIx (.list xs) (.int i) = atI xs i := rfl
theorem ix_t (xs : List D) (i : Int) : dIx (.tuple xs) (.int i) = atI xs i := rfl
theorem at_nat {α : Type} (xs : List α) (k : Nat) : atI xs (k : Int) = xs[k]? := by
  unfold atI ixN
  rw [if_pos (by omega)]
  by_cases h : k < xs.length
  · rw [if_pos (by omega)]
    simp
  · rw [if_neg (by omega)]
    simp [Nat.le_of_not_lt h]
theorem at_pos {α : Type} (xs : List α) {i : Int} (h0 : 0 ≤ i) : atI xs i = xs[i.toNat]? := by
  have := at_nat xs i.toNat
  rwa [Int.toNat_of_nonneg h0] at this
theorem tr_b (b : Bool) : truthD (.bool b) = some b := rfl
theorem tup_ok {xs : List D} (h : xs.length ≤ 16777216) : dTup xs = some (.tuple xs) := by unfold dTup; rw [if_pos h]
theorem new_ok {ma : M (List D)} {δ δ' : Dl} {xs : List D} (h : ma δ = .ok xs δ') (hl : xs.length ≤ 16777216) : mNew ma δ = .ok xs δ' := by
  unfold mNew
  rw [h]
  show (if xs.length ≤ LINE then R.ok xs δ' else .no) = _
  rw [if_pos hl]
theorem set_set' {α : Type} : ∀ (l : List α) (i : Nat) (a b : α), (l.set i a).set i b = l.set i b := fun l i a b => List.set_set a
/-! ### comprehensions of a pure element -/
theorem noVar_set {δ : Dl} {j : Nat} {d : D} (h : noVar δ = true) : noVar (δ.set j (.val d)) = true := by
  refine List.all_eq_true.mpr fun c hc => ?_
  rcases List.mem_or_eq_of_mem_set hc with h1 | h1
  · exact List.all_eq_true.mp h c h1
  · subst h1; rfl
theorem setV_ok {δ : Dl} {j : Nat} {d : D} (hj : j < δ.length) (h : noVar δ = true) : setV j d δ = some (δ.set j (.val d)) := by
  unfold setV
  rw [List.getElem?_eq_getElem hj]
  cases q : δ[j] with
  | var b ds => exact absurd (by rw [List.getElem?_eq_getElem hj, q]) (noVar_at (b := b) (ds := ds) h (i := j))
  | non => rfl
  | val d => rfl
theorem mLc_pure {j : Nat} {t : M Bool} {e : M D} {δ : Dl} (hj : j < δ.length) (hn : noVar δ = true) (p : D → Bool) (f : D → D) : ∀ (items : List D), (∀ x ∈ items, t (δ.set j (.val x)) = .ok (p x) (δ.set j (.val x)) ∧ (p x = true → e (δ.set j (.val x)) = .ok (f x) (δ.set j (.val x)))) →
    ∀ δ0 : Dl, noVar δ0 = true → δ0.set j .non = δ.set j .non → ∃ δ1 : Dl, mLc [j] (setV j) t e items δ0 = .ok ((items.filter p).map f) δ1 ∧ δ1.set j .non = δ.set j .non
  | [], _, δ0, h0, h1 => ⟨δ0, rfl, h1⟩
  | x :: xs, he, δ0, h0, h1 => by
    obtain ⟨ht, hx⟩ := he x List.mem_cons_self
    have hs : wipeD δ0 [j] = δ.set j .non := h1
    have hn' : noVar (δ.set j .non) = true := by
      have := noVar_wipe hn [j]
      exact this
    have e1 : setV j x (wipeD δ0 [j]) = some (δ.set j (.val x)) := by
      rw [hs, setV_ok (by rw [List.length_set]; exact hj) hn', List.set_set]
    have e2 : (δ.set j (.val x)).set j .non = δ.set j .non := List.set_set _
    have nx : noVar (δ.set j (.val x)) = true := noVar_set hn
    obtain ⟨δ1, ih1, ih2⟩ := mLc_pure hj hn p f xs (fun y hy => he y (List.mem_cons_of_mem _ hy)) _ nx e2
    refine ⟨δ1, ?_, ih2⟩
    unfold mLc
    rw [e1]
    simp only [ht, noex_ok, bind_ok]
    cases hp : p x with
    | true =>
      rw [if_pos rfl]
      simp only [hx hp, noex_ok, bind_ok, nx, if_true, ih1]
      rw [List.filter_cons_of_pos hp, List.map_cons]
    | false =>
      rw [if_neg Bool.false_ne_true, if_pos nx, ih1, List.filter_cons_of_neg (by rw [hp]; exact Bool.false_ne_true)]
theorem lcS_pure {j : Nat} {it : M (List D)} {t : M Bool} {e : M D} {δ δ' : Dl} {items : List D} (p : D → Bool) (f : D → D) (hit : it δ = .ok items δ') (hj : j < δ'.length) (hn : noVar δ' = true) (hl : items.length ≤ 16777216)
    (he : ∀ x ∈ items, t (δ'.set j (.val x)) = .ok (p x) (δ'.set j (.val x)) ∧ (p x = true → e (δ'.set j (.val x)) = .ok (f x) (δ'.set j (.val x)))) :
    mLcS [j] it (setV j) t e δ = .ok ((items.filter p).map f) δ' := by
  obtain ⟨δ1, h1, h2⟩ := mLc_pure hj hn p f items he δ' hn rfl
  unfold mLcS
  rw [hit, bind_ok, hn, Bool.true_and, if_pos (decide_eq_true hl), h1, bind_ok]
  have : backD δ' δ1 [j] = δ' := by
    show δ1.set j (δ'.getD j .non) = δ'
    have e0 : δ1.set j (δ'.getD j .non) = (δ1.set j .non).set j (δ'.getD j .non) := (List.set_set _).symm
    rw [e0, h2, List.set_set]
    apply List.ext_getElem?
    intro i
    by_cases q : j = i
    · subst q
      rw [List.getElem?_set_self hj, List.getElem?_eq_getElem hj]
      simp [List.getD, hj]
    · rw [List.getElem?_set_ne q]
  rw [this]
theorem filter_true {α : Type} (l : List α) : l.filter (fun _ => true) = l := List.filter_eq_self.mpr fun _ _ => rfl
/-- [e for x in ..] -/
theorem lcS_map {j : Nat} {it : M (List D)} {e : M D} {δ δ' : Dl} {items : List D} (f : D → D) (hit : it δ = .ok items δ') (hj : j < δ'.length) (hn : noVar δ' = true) (hl : items.length ≤ 16777216)
    (he : ∀ x ∈ items, e (δ'.set j (.val x)) = .ok (f x) (δ'.set j (.val x))) : mLcS [j] it (setV j) mYes e δ = .ok (items.map f) δ' := by
  have h := lcS_pure (t := mYes) (fun _ => true) f hit hj hn hl fun x hx => ⟨rfl, fun _ => he x hx⟩
  rw [filter_true] at h
  exact h
theorem map_of {α : Type} {P : α → D → Prop} [Inhabited D] : ∀ (items : List α), (∀ x ∈ items, ∃ y, P x y) → ∃ f : α → D, ∀ x ∈ items, P x (f x) := fun items h => by
  classical
  refine ⟨fun x => if hx : ∃ y, P x y then hx.choose else default, fun x hx => ?_⟩
  have z := h x hx
  simp only [dif_pos z]
  exact z.choose_spec
instance : Inhabited D := ⟨.none⟩
/-- .. where it is only known that it gives something with P -/
theorem lcS_ex {j : Nat} {it : M (List D)} {e : M D} {δ δ' : Dl} {items : List D} {P : D → D → Prop} (hit : it δ = .ok items δ') (hj : j < δ'.length) (hn : noVar δ' = true) (hl : items.length ≤ 16777216)
    (he : ∀ x ∈ items, ∃ y, e (δ'.set j (.val x)) = .ok y (δ'.set j (.val x)) ∧ P x y) : ∃ f : D → D, mLcS [j] it (setV j) mYes e δ = .ok (items.map f) δ' ∧ ∀ x ∈ items, P x (f x) := by
  obtain ⟨f, hf⟩ := map_of items he
  exact ⟨f, lcS_map f hit hj hn hl fun x hx => (hf x hx).1, fun x hx => (hf x hx).2⟩
theorem at_ex {α : Type} (xs : List α) {i : Int} (h0 : 0 ≤ i) (h1 : i < xs.length) : ∃ d, d ∈ xs ∧ atI xs i = some d := by
  have h : i.toNat < xs.length := by omega
  exact ⟨xs[i.toNat], List.getElem_mem h, by rw [at_pos xs h0, List.getElem?_eq_getElem h]⟩
theorem rng_len (lo hi : Int) : (rng lo hi).length = (hi - lo).toNat := by unfold rng; rw [List.length_map, List.length_range]
theorem rng_int {lo hi : Int} {d : D} (h : d ∈ rng lo hi) : ∃ i : Int, d = .int i ∧ lo ≤ i ∧ i < hi := by
  unfold rng at h
  obtain ⟨k, hk, e⟩ := List.mem_map.mp h
  have := List.mem_range.mp hk
  exact ⟨lo + (k : Nat), e.symm, by omega, by omega⟩
/-- an int that may stand in a range -/
theorem big_of {i : Int} (h : -1000000000 ≤ i) (h2 : i ≤ 1000000000) : big i = true := decide_eq_true ⟨by omega, by omega⟩
end DL
end Part_DLi

section Part_DX
set_option Elab.async false
set_option linter.all false
set_option maxRecDepth 100000
set_option autoImplicit false
set_option maxHeartbeats 2000000
namespace DL
open PySem PySem.Spec PyProof.Rows L2 Evl
open PySem.W (kxs_mw)
/-! ### an __init__ that says super().__init__(text), then self.f = par -/
section
variable {prog : Program} {w : World} {A : Around} {E : Value → Shared → Prop} {h : Heap} {g : Array GenState} {d : Drawn} {t : Nat} {os : OsState}
variable {nm q : Str} {C N : Addr} {bs bm : List Value} {hdct : Bool} {sn : List Str} {sub : List Value} {ab : Bool} {col : Option Bool} {dd : Option Addr} {k0 k1 k2 k3 k5 : Option Value}
theorem call_mw {u e t0 : Addr} {rest : List Value} {Q : Value → Shared → Prop}
    (hC : h.get? C = some (excClassObj nm q C N bs bm hdct sn sub ab col dd k0 k1 k2 k3 k5 "ValueError.__new__")) (he : h.get? e = some (PySem.W.excObj C t0 none .none)) (hu : h.get? u = some (kxs_mw "ValueError.__init__" e)) (hrest : rest.length ≤ sizeLine)
    (hq : ∀ h' t1, (∀ b o, b ≠ e → h.get? b = some o → h'.get? b = some o) → h'.get? e = some (PySem.W.excObj C t1 none .none) → Q .none ⟨h', g, d, t, os⟩) :
    wpAny (model prog w) A (call (.ref u) rest) Q E ⟨h, g, d, t, os⟩ := by
  refine wpAny_call (codeAny_of_tree ?_)
  show wpAny _ A.in1 (callAny (.ref u) ⟨rest, []⟩) _ _ _
  simp only [callAny]
  refine wpAny_bind (wpAny_load hu ?_)
  simp only [kxs_mw, show (Value.type "method-wrapper" == Value.type "method" || Value.type "method-wrapper" == Value.type "builtin_function_or_method" || Value.type "method-wrapper" == Value.type "method-wrapper") = true by decide, if_true]
  refine PySem.W.KFB.if_so (by decide) ?_
  refine wpAny_bind (PySem.W.check_bound_init F.excBase_ValueError.toExcCallFacts hC he rfl ?_)
  refine wpAny_bind (wpAny_pure (wpAny_pure ?_))
  refine ⟨plainId_quiet F.excBase_ValueError.init.plain _, codeAny_builtin F.excBase_ValueError.initEntry ?_⟩
  exact PySem.W.exc_init_tree (cls := .ref C) (t0 := t0) (dv := none) (c2 := .none) (c3 := .none) (b4 := .bool false) he hrest fun h' k e' _ => hq h' _ k e'
end

/-- an own error class over ValueError: C, its __init__ at f, the one attribute fld, told by the argument par -/
structure InitF (P : Program) (K : PySem.W.Frag) (mg : Str → Option Value) (C f : Addr) (fd : FuncData) (qual par fld : Str) (e : Expr) : Prop where
  ex : ∃ (oc : Value) (od : Option Addr) (osl : Array (Option Value)) (kV doc pm : Value) (an : Option Addr) (c cc : Addr) (ct : Value) (params : Arguments) (body : List Stmt) (scope : Scope) (p0 p1 p2 p3 p4 p5 p6 p7 p8 : Pos) (ar : Arg) (ar2 : List Arg) (ccl cl : Value) (cdd cld : Option Addr) (ccs csl : Array (Option Value)) (vs : Array Value) (file : Str) (tf : Tok) (cd : ClassData) (n : Nat),
    fd = PySem.W.fnX "__init__" qual params body scope [("__class__", cc)] .none kV doc pm an (.ref c) ct ∧ K.lookup f = some ⟨oc, od, .func fd, osl⟩ ∧ PySem.W.codeIn K (.ref c) qual = true ∧
    body = [.Expr (.Call (.Attribute (.Call (.Name "super" p0) [] [] p1) "__init__" p2) [e] [] p3) p4, .Assign [.Attribute (.Name "self" p5) fld p6] (.Name par p7) p8] ∧
    NdefX.NScope [("self" : Str), par, "__class__"] [("self" : Str), par] ["__class__"] scope ∧ scope.names.lookup ("super" : Str) = some .globalImplicit ∧
    (params.posonlyargs ++ params.args) = ar :: ar2 ∧ ar.arg = "self" ∧
    K.lookup c = some ⟨ccl, cdd, .fields vs, ccs⟩ ∧ vs[2]? = some (.str file tf) ∧ ((P.main.file : Str) == file) = true ∧ (P.main.scope.names.lookup ("super" : Str)).isSome = false ∧
    K.lookup cc = some ⟨cl, cld, .cell (some (.ref C)), csl⟩ ∧ PySem.W.clsIn K C = some cd ∧ PySem.W.mroIn K C (.ref C) = some true ∧ mg "super" = none ∧ PySem.W.nsIn K cStatics "thirdparty.any" = some none ∧
    PySem.W.ks_superIn K C C "__init__" = some (some (.builtin "ValueError.__init__")) ∧ PySem.W.subIn K (.ref C) (.type "ValueError") = some true ∧
    PySem.W.findIn K (.ref C) fld = some none ∧ n = 0 ∧
    (∀ env : Env, ∃ pl : Sem Bool, eval (.Call (.Attribute (.Call (.Name "super" p0) [] [] p1) "__init__" p2) [e] [] p3) env = (do
      let ov ← attributeBase (.Call (.Name "super" p0) [] [] p1) "__init__" env (eval (.Call (.Name "super" p0) [] [] p1) env)
      standAt p2.atName
      let (f, first) ← holding [ov] (getMethod ov "__init__" pl)
      callWith p3 f first (backTo p3 (starEach [e] env)) [])) ∧ (∀ env : Env, starEach [e] env = (false, eval e env) :: starEach [] env) ∧ (par == ("__debug__" : Str)) = false ∧ (par == ("__classdict__" : Str)) = false ∧ (∀ env : Env, swapsWith (.Name par p7) (some (.Attribute (.Name "self" p5) fld p6)) p8.line env = pure false)
  oex : OexC K C
section
variable {P : Program} {w : World} {K : PySem.W.Frag} {mg : Str → Option Value} {base : Heap}
/-- what such an __init__ does -/
def SpI (T : V → Prop) (C : Addr) (fld : Str) : Sp := fun vs H Q _ => ∃ a y, vs = [.ref a, y] ∧ T y ∧ H a = some (exo a C none) ∧ ∀ dx, H dx = none → dx ≠ a → Q .non (upd (upd H dx (exd dx [(fld, y)])) a (exo a C (some dx)))
theorem init_ok {T : V → Prop} {C f : Addr} {fd : FuncData} {qual par fld : Str} {e : Expr} {k : Nat} (F : InitF P K mg C f fd qual par fld e) {CX : CXT}
    (he : ∀ (X : Cx), X.prog = P → X.K = K → X.mg = mg → X.N = [("self" : Str), par, "__class__"] → Vis X.env.scope par → ∃ te, PE X e te ∧ ∀ (a : Addr) (y : V) H Q, T y → (∀ v, Q v H) → te [some (.ref a), some y, none] H Q) : FnOk P w K mg base CX (k + 1) f fd [("self" : Str), par] (SpI T C fld) := by
  obtain ⟨oc, od, osl, kV, doc, pm, an, c, cc, ct, params, body, scope, p0, p1, p2, p3, p4, p5, p6, p7, p8, ar, ar2, ccl, cl, cdd, cld, ccs, csl, vs', file, tf, cd, n, rfl, lk, hcd, rfl, S, hsup, hp, har, lc, hvs, hfile, htop, lcell, hcls, hmro, hmg, hst, hsu, hB, hno, _, hev, hst1, pd1, pd2, hsw⟩ := F.ex
  refine ⟨fun vs H Q E h => ?_, fun A outer s H args us vs Q E hr e0 hb r hsp => ?_⟩
  · obtain ⟨a, y, rfl, _⟩ := h
    rfl
  obtain ⟨a, y, rfl, hT, ha, hq⟩ := hsp
  have KX : K.In s.heap := e0.mod.kin.keeps fun b o e => (e0.bs b o e).1
  have lim : s.heap.NoLimit := e0.mod.nolimit.keeps fun b o e => (e0.bs b o e).1
  have r0 := r
  cases r with
  | @cons _ u0 _ ur ra rw' =>
    obtain rfl : u0 = Value.ref a := ra
    cases rw' with
    | @cons _ u1 _ ur2 ry rn =>
      cases rn
      refine ks_codeAny_call_defAt hr.depth (KX _ _ lk) rfl lim (PySem.W.codeRec_of KX hcd) rfl hb S.nocell (fun ⟨n, v⟩ hy => S.par n (List.of_mem_zip hy).1) (fun h₁ hns kp => ?_) S.co S.gen S.kind
      have C0 : NdefX.CellsAt [("__class__", cc)] [("__class__" : Str)] [none] s.heap H := by
        have key : ∀ (y : Str) (c' : Addr), List.lookup y [(("__class__" : Str), cc)] = some c' → y = "__class__" ∧ c' = cc := fun y c' e => by
          have m := PySem.mem_of_lookup e
          rw [List.mem_singleton] at m
          cases m
          exact ⟨rfl, rfl⟩
        refine ⟨rfl, fun y c' e => ?_, fun x y c' e1 e2 => ?_, fun i y e => ?_⟩
        · obtain ⟨_, rfl⟩ := key y c' e
          exact ⟨(e0.bs _ _ (e0.mod.kin _ _ lcell)).2, _, _, KX _ _ lcell, rfl⟩
        · exact (key x c' e1).1.trans (key y c' e2).1.symm
        · cases i with
          | zero =>
            cases e
            exact ⟨cc, rfl, fun v z => nomatch z⟩
          | succ i => cases e
      have ndP : [("self" : Str), par].Nodup := by
        have q := S.nd.sublist (List.take_sublist ([("self" : Str), par].length + [("__class__" : Str)].length) _)
        rw [S.pre] at q
        exact (List.nodup_append.mp q).1
      have I := NdefX.inv_startN (CX := CX) (P := P) (w := w) (base := base) (E := E) (F := ⟨"__init__", qual, params, [], scope, [("__class__", cc)], c⟩) (f := f) (tk := s.toks + ([("self" : Str), par].zip [Value.ref a, u1]).length) S hr.hd e0 rfl r0 C0 hns kp
      obtain ⟨pl, hev⟩ := hev (callEnv (PySem.W.fnX "__init__" qual params [.Expr (.Call (.Attribute (.Call (.Name "super" p0) [] [] p1) "__init__" p2) [e] [] p3) p4, .Assign [.Attribute (.Name "self" p5) fld p6] (.Name par p7) p8] scope [("__class__", cc)] .none kV doc pm an (.ref c) ct) s.heap.objs.size f)
      have qt : interactive (callEnv (PySem.W.fnX "__init__" qual params [.Expr (.Call (.Attribute (.Call (.Name "super" p0) [] [] p1) "__init__" p2) [e] [] p3) p4, .Assign [.Attribute (.Name "self" p5) fld p6] (.Name par p7) p8] scope [("__class__", cc)] .none kV doc pm an (.ref c) ct) s.heap.objs.size f) = false := I.quiet
      refine ks_wpAt_execs_cons (ks_wpAt_Expr_any (hi := qt) (ks_wpAt_MethodCall (he := hev) (ks_wpAt_super_base (ar := ar) hsup (S.frk _ (by simp)) rfl rfl (kp _ _ (KX _ _ lk)) rfl (by show (params.posonlyargs ++ params.args).head? = some ar; rw [hp]; rfl) rfl (kp _ _ (KX _ _ lc)) rfl hvs hfile htop ?_)))
      obtain ⟨mb, hb1, hb2⟩ := I.mod.blt
      refine PySem.W.ks_loadName_global S.kind hsup (Calls.loadGlobal_builtin (I.mod.glob.keeps I.bk) hmg (hb1.keeps I.bk) ((hb2 "super" (by decide)).trans (by decide +kernel)) ⟨rfl, ?_⟩)
      refine wpAny_loadName_free S.kind (S.frk _ (by simp)) rfl ⟨_, kp _ _ (KX _ _ lcell), rfl⟩ ?_
      rw [har]
      refine wpAny_loadName_local S.kind (S.par _ (by simp)) hns (v := Value.ref a) (NdefX.zip_look (i := 0) ndP rfl rfl) ?_
      obtain ⟨oD, hD1, hD2⟩ : ∃ oD, h₁.get? C = some oD ∧ oD.data = .cls cd := by
        have hD := hcls
        unfold PySem.W.clsIn at hD
        split at hD
        · rename_i c' d' cd' sl ho
          cases hD
          exact ⟨_, I.kIn _ _ ho, rfl⟩
        · cases hD
      obtain ⟨t1, hx⟩ := exo_at I.hok ha
      refine ks_wpAny_isType_cls hD1 hD2 ⟨rfl, ?_⟩
      refine ks_wpAny_call_super hD1 hD2 hx rfl (fun c e => nomatch e) (PySem.W.looks_mroIn I.kIn hmro) (fun h2 so k2 => ?_)
      have I2 := I.kept (t' := s.toks + ([("self" : Str), par].zip [Value.ref a, u1]).length) k2
      have hx2 := k2 _ _ hx
      have Ia : PySem.W.InstAt h2 a _ C none := ⟨hx2, rfl, rfl, trivial⟩
      refine PySem.W.kxs_getMethod PySem.W.kxs_ValueError so (PySem.W.looks_opaque I2.kIn hst) (l₀ := cd.mro) ?_ rfl I2.kIn ?_ (Ia.type.andThen (PySem.W.looks_subIn I2.kIn hB)) (PySem.W.ks_ne I2.kIn Ia hcls) rfl ?_
      · exact fun A Q E s k q => wpAny_bind ((PySem.W.looks_clsIn I2.kIn hcls) A _ E s k (wpAny_pure q))
      · have := hsu
        unfold PySem.W.ks_superIn at this
        rw [hcls] at this
        exact this
      have gk : ∀ b o, h2.get? b = some o → (h2.push (kxs_mw "ValueError.__init__" a)).get? b = some o := fun b o e => Heap.get?_push_of_some _ e
      have I3 := (I2.kept (t' := s.toks + ([("self" : Str), par].zip [Value.ref a, u1]).length + 1) gk).pins_of (pins' := [(h2.objs.size, kxs_mw "ValueError.__init__" a)]) (fun p hp => by
        rw [List.mem_singleton.mp hp]
        exact ⟨Heap.get?_push_at rfl rfl, I2.hok.fresh (Nat.le_refl _), Ne.symm (Nat.ne_of_lt I2.lt), I2.nofs (Nat.le_refl _), fun v e => nomatch e⟩)
      obtain ⟨te, pe, hte⟩ := he (NdefX.ncx CX P w K mg base [("self" : Str), par, "__class__"] ⟨"__init__", qual, params, [], scope, [("__class__", cc)], c⟩ f A outer s H E) rfl rfl rfl rfl (Or.inl (S.par _ (by simp)))
      have gl := hst1 (NdefX.ncx CX P w K mg base [("self" : Str), par, "__class__"] ⟨"__init__", qual, params, [], scope, [("__class__", cc)], c⟩ f A outer s H E).env
      have pa := pa_cons pe pa_nil gl
      have rn := pa.run p3 _ _ _ _ (fun vs H2 => (∃ v, vs = [v]) ∧ H2 = H) I3 (hte a y H _ hT fun v => ⟨⟨v, rfl⟩, rfl⟩)
      show wpAny _ _ (callWith p3 (.ref h2.objs.size) [] (backTo p3 (starEach [e] _)) []) _ _ _
      refine PySem.W.kxs_callWith (i := "ValueError.__init__") (x := a) (by rw [hst1]; rfl) ?_
      have rn2 := rn
      rw [hst1] at rn2 ⊢
      refine Calls.evalArgs_plain (wpAny_mono rn2 (fun us4 s4 hs4 => ?_) fun _ _ x => x)
      obtain ⟨vs4, H4, I4, rv4, ⟨v4, ev4⟩, eH4⟩ := hs4
      subst ev4
      rw [eH4] at I4
      have p4 := I4.pin (h2.objs.size, kxs_mw "ValueError.__init__" a) (by simp)
      refine ⟨p4.1, ?_⟩
      obtain ⟨nm, q', N', bs, bm, sn, sub, ab, col, dd, k0, k1, k2', k3, k5, hC, hbm⟩ := F.oex.cls
      obtain ⟨t4, hx4⟩ := exo_at I4.hok ha
      have hl4 : us4.length ≤ sizeLine := by
        rw [← Paired.length rv4, sizeLine_eq]
        show 1 ≤ 16777216
        decide
      obtain ⟨hp4, g4, d4, tk4, os4⟩ := s4
      refine call_mw (I4.kIn _ _ hC) hx4 p4.1 hl4 (fun h5 t5 k5' e5 => ?_)
      have I5 := I4.write (t' := tk4) (x := a) (e := a) (o := exo a C none) (by rw [ha]; exact True.intro) (.inl rfl) k5' ⟨_, e5⟩ (exo_ok e5)
      have eu : upd H a (exo a C none) = H := by
        funext b
        by_cases hb : b = a
        · rw [hb, upd_same, ha]
        · rw [upd_ne hb]
      rw [eu] at I5
      have I6 := I5.pins_of (pins' := []) (fun p hp => by cases hp)
      show PySem.wpAt _ _ _ (execs [.Assign [.Attribute (.Name "self" p5) fld p6] (.Name par p7) p8] _) _ _ _
      refine wpAt_of_wpAny ?_
      have ps := pss_one (ps_ost (pe_var (X := NdefX.ncx CX P w K mg base [("self" : Str), par, "__class__"] ⟨"__init__", qual, params, [], scope, [("__class__", cc)], c⟩ f A outer s H E) (i := 0) (x := "self") (pos := p5) rfl (Or.inl (S.par _ (by simp)))) (pe_var (i := 1) (x := par) (pos := p7) rfl (Or.inl (S.par _ (by simp))) pd1 pd2) (f := fld) (p' := p6) (pos := p8) (hsw _))
      refine wpAny_mono (ps.run [] _ _ H { nx := fun _ H' => Q .non H', rt := Q } I6 ⟨y, rfl, .ref a, rfl, a, C, rfl, F.oex, hno, .inl ⟨ha, fun dx n ne => hq dx n ne⟩⟩) (fun fl s' hs => ?_) fun e s' hs => hs
      have fin : ∀ {σ' : L2.St} {H' : Hp} {v : V} {u : Value}, Inv (NdefX.ncx CX P w K mg base [("self" : Str), par, "__class__"] ⟨"__init__", qual, params, [], scope, [("__class__", cc)], c⟩ f A outer s H E) [] σ' H' s' → L2.RelV v u → Q v H' → CE outer P w H s Q u s' :=
        fun {σ' H' v u} J rv q => ⟨v, H', J.os, J.bare, J.base, J.hok, rv, q⟩
      cases fl with
      | ret u =>
        obtain ⟨v, σ', H', J, rv, q⟩ := hs
        exact fin J rv q
      | next =>
        obtain ⟨σ', H', J, q⟩ := hs
        exact fin (v := V.non) (u := Value.none) J rfl q
      | brk =>
        obtain ⟨_, _, _, q⟩ := hs
        exact False.elim q
      | cont =>
        obtain ⟨_, _, _, q⟩ := hs
        exact False.elim q
end
end DL
end Part_DX

section Part_DY
set_option Elab.async false
set_option linter.all false
set_option maxRecDepth 100000
set_option autoImplicit false
set_option maxHeartbeats 2000000
namespace DL
open PySem PySem.Spec PyProof.Rows L2 Evl
/-! ### raise X(e) -/
def mRaise (c : Nat) (t : D → Bool) (a : M D) : M Fl := fun δ => (a δ).bind fun d δ => if t d then .ex c d δ else .no
/-- the error class x, number c: (where, its attribute) = p, t: what may be told -/
structure ErrX (P : Program) (w : World) (K : PySem.W.Frag) (mg : Str → Option Value) (base : Heap) (k : Nat) (x : Str) (p : Addr × Str) (t : D → Bool) : Prop where
  ex : ∃ fI fd ps T, OexC K p.1 ∧ PySem.W.findIn K (.ref p.1) "__init__" = some (some (.ref fI)) ∧ PySem.W.typeIn K (.ref fI) = some (.type "function") ∧ FnOk P w K mg base CX0 k fI fd ps (SpI T p.1 p.2) ∧ Binds K fd ps [] ∧ mg x = some (.ref p.1) ∧
    ∀ C v d, Dq K C v d → t d = true → T v
section
variable {X : Cx} {EC : ECl} {W : WX} {e : Expr} {ma : M D} {x : Str} {p pos pos' : Pos} {c k : Nat} {t : D → Bool}
theorem ds_raise (hc : X.calm = true) (tk : Takes X W) (F : ErrX X.prog X.w X.K X.mg X.base k x (EC c) t) (hr : Room (k + 1) X.A) (ha : DE X EC W e ma) (hg : Gl X x := by rfl) (hdb : (x == ("__debug__" : Str)) = false := by decide)
    (he : starEach (e :: []) X.env = (false, eval e X.env) :: starEach [] X.env := by rfl) (hpl : (backTo pos (starEach [] X.env)).any (·.1) = false := by rfl) :
    DS X EC W (.Raise (some (.Call (.Name x p) [e] [] pos)) none pos') (mRaise c t ma) := by
  obtain ⟨fI, fd, ps, T, O, iC, tI, F1, hb, hm, hT⟩ := F.ex
  obtain ⟨te, pe, re⟩ := ha.ex
  refine ⟨_, ps_raise hc tk (pmk_oex (dvs := []) (ds := []) O iC tI F1 hr hb .nil pass0 hg hm (pa_cons pe pa_nil he) hdb he hpl), fun C0 H0 B C H σ δ N S h => re C0 H0 B C H σ δ _ S (RP.imp (RP.bind h) (fun d δ1 h1 y C1 H1 e1 S1 d1 => ?_) fun c d δ z => ?_)⟩
  · refine ⟨by show 1 ≤ 1000; decide, fun a hn => ?_⟩
    cases q : t d with
    | false => rw [q] at h1; exact h1.elim
    | true =>
      rw [q] at h1
      refine ⟨a, y, rfl, hT C1 y d d1 q, upd_same, fun dx hdx ne => ⟨rfl, dx, [((EC c).2, y)], upd_same, by rw [upd_ne ne, upd_same], ?_, ?_⟩⟩
      · rwa [upd_ne ne] at hdx
      · have hdx' : H1 dx = none := by rwa [upd_ne ne] at hdx
        have e2 : upd (del (upd (upd (upd H1 a (exo a (EC c).1 none)) dx (exd dx [((EC c).2, y)])) a (exo a (EC c).1 (some dx))) a) dx (.xd [((EC c).2, y)]) = upd H1 dx (.xd [((EC c).2, y)]) := by
          funext b
          by_cases hb1 : b = dx
          · rw [hb1, upd_same, upd_same]
          · rw [upd_ne hb1, upd_ne hb1]
            by_cases hb2 : b = a
            · rw [hb2, del_same, hn]
            · rw [del_ne hb2, upd_ne hb2, upd_ne hb1, upd_ne hb2]
        rw [e2]
        exact h1 σ y dx C1 _ e1 (S1.newN hdx') upd_same d1
  · exact z σ
end

/-! ### defs that may raise -/
/-- what a def gives of data, an error too -/
def mDefE (n : Nat) (body : M Fl) (ds : List D) : R D := (body (ds.map .val ++ List.replicate (n - ds.length) .non)).bind fun f _ => match f with
  | .rt d => .ok d []
  | .nx => .ok .none []
  | _ => .no
def SpE (K : PySem.W.Frag) (EC : ECl) (n : Nat) (mf : List D → R D) : Sp := fun vs H Q E => ∃ C ds, Ex C H ∧ DqAll K C vs ds ∧ vs.length = n ∧
  RP (mf ds) (fun d _ => ∀ v C2 H2, Ex C C2 → Ex H H2 → Ex C2 H2 → (∀ a, H a ≠ none → C a = none → C2 a = none) → Dq K C2 v d → Q v H2)
    fun c d _ => ∀ v dd C2 H2, Ex C C2 → Ex H H2 → Ex C2 H2 → (∀ a, H a ≠ none → C a = none → C2 a = none) → H2 dd = some (.xd [((EC c).2, v)]) → Dq K C2 v d → E (.ref (EC c).1) (some dd) H2
/-- the def at the name x may raise, and does what mf says -/
structure FnE (P : Program) (w : World) (K : PySem.W.Frag) (mg : Str → Option Value) (base : Heap) (EC : ECl) (k : Nat) (x : Str) (n : Nat) (mf : List D → R D) : Prop where
  ex : ∃ f fd ps, FnOk P w K mg base (L2.CX P w) k f fd ps (SpE K EC n mf) ∧ mg x = some (.ref f) ∧ PySem.W.keepIn K (.ref f) = true ∧ Binds K fd ps []
section
variable {P : Program} {w : World} {K : PySem.W.Frag} {mg : Str → Option Value} {base : Heap}
theorem def_okE {x : Str} {st : Stmt} {N ps : List Str} {k : Nat} {EC : ECl} {m : M Fl} (F : FunX K mg x st ps) (S : FnScope N ps (defScope st))
    (hb : ∀ (f : Addr) (cdv : Value) (A : Around) (outer : List Env) (s : Shared) (H : Hp) (E : XK), Room k (A.deeper (envOfC x (defScope st) s.heap.objs.size f cdv)) →
      Takes (cxOf (L2.CX P w) P w K mg base N x (defScope st) f cdv A outer s H E) (fun cls d _ H' => E cls d H') →
      PassesOwn (model P w) (cxOf (L2.CX P w) P w K mg base N x (defScope st) f cdv A outer s H E).A (cxOf (L2.CX P w) P w K mg base N x (defScope st) f cdv A outer s H E).env (cxOf (L2.CX P w) P w K mg base N x (defScope st) f cdv A outer s H E).xe →
      DSs (cxOf (L2.CX P w) P w K mg base N x (defScope st) f cdv A outer s H E) EC (fun cls d _ H' => E cls d H') (defBody st) m) : FnE P w K mg base EC (k + 1) x ps.length (mDefE N.length m) := by
  obtain ⟨f, fd, F, hg, hbi⟩ := F.ex
  refine ⟨f, fd, ps, F.okX S (fun vs H Q E h => ?_) (fun cdv A outer s H vs Q E hr h => ?_), hg, F.kp, binds_of hbi⟩
  · obtain ⟨C, ds, _, _, hl, _⟩ := h
    exact hl
  · obtain ⟨C, ds, e, hd, hl, q⟩ := h
    obtain ⟨t, p, r⟩ := (hb f cdv A outer s H E hr (takes_of rfl rfl rfl rfl) (passes_of rfl)).ex
    refine ⟨t, p, r C H [] C H (L2.start N vs) _ _ (start_sr e hd) (RP.imp (RP.bind q) (fun f δ h1 σ C2 H2 e2 S2 => ?_) fun c d δ z σ v dd C2 H2 e2 S2 z1 z2 => ?_)⟩
    · have n2 : ∀ a, H a ≠ none → C a = none → C2 a = none := S2.nw
      have eH : Ex H H2 := fun a o z => S2.fr a o z fun p hp => by cases hp
      cases f with
      | nx => exact h1 .non C2 H2 e2 eH S2.ch n2 .non
      | rt d => exact fun v hv => h1 v C2 H2 e2 eH S2.ch n2 hv
      | bk => exact h1.elim
      | ct => exact h1.elim
    · exact z v dd C2 H2 e2 (fun a o z => S2.fr a o z fun p hp => by cases hp) S2.ch S2.nw z1 z2
end
section
variable {X : Cx} {EC : ECl} {W : WX} {e : Expr} {es : List Expr} {mes : M (List D)} {pos p : Pos} {k n : Nat} {mf : List D → R D} {x : Str}
def mCallE (mf : List D → R D) (a : M (List D)) : M D := fun δ => (a δ).bind fun ds δ => match mf ds with
  | .ok d _ => .ok d δ
  | .ex c d _ => .ex c d δ
  | .no => .no
theorem de_callE (tk : Takes X W) (F : FnE X.prog X.w X.K X.mg X.base EC k x n mf) (hr : Room k X.A) (ha : DA X EC W (e :: es) mes) (hn : es.length + 1 = n := by rfl) (hg : Gl X x := by rfl)
    (hdb : (x == ("__debug__" : Str)) = false := by decide) (he : starEach (e :: es) X.env = (false, eval e X.env) :: starEach es X.env := by rfl) (hpl : (backTo pos (starEach es X.env)).any (·.1) = false := by rfl) :
    DE X EC W (.Call (.Name x p) (e :: es) [] pos) (mCallE mf mes) := by
  obtain ⟨f, fd, ps, F, hm, hk, hb⟩ := F.ex
  obtain ⟨t, pa, ra⟩ := ha.ex
  refine ⟨_, pe_callS F hr hg hm hk hb (fun σ => passAt tk σ) pa hdb he hpl, fun C0 H0 B C H σ δ Q S h => ?_⟩
  have hb := RP.bind h
  refine ra C0 H0 B C H σ δ _ S ?_
  cases q : mes δ with
  | no => rw [q] at hb; exact hb.elim
  | ex c d δ' => rw [q] at hb; exact hb
  | ok ds δ1 =>
    rw [q] at hb
    have hl := ha.len δ ds δ1 q
    intro vs C1 H1 e1 S1 d1
    refine ⟨C1, ds, S1.ch, d1, by rw [dpa_len d1, hl]; exact hn, ?_⟩
    have hb : RP (match mf ds with | .ok d _ => R.ok d δ1 | .ex c d _ => R.ex c d δ1 | .no => .no) (PKe X.K C0 H0 B C σ Q) (PXe X.K EC W C0 H0 B C σ) := hb
    cases q2 : mf ds with
    | no => rw [q2] at hb; exact hb.elim
    | ex c d δ' =>
      rw [q2] at hb
      intro v dd C2 H2 e2 e3 e4 n2 z1 z2
      exact hb v dd C2 H2 (e1.trans e2) (S1.step e2 e3 e4 n2) z1 z2
    | ok d δ2 =>
      rw [q2] at hb
      intro v C2 H2 e2 e3 e4 n2 dv
      exact hb v C2 H2 (e1.trans e2) (S1.step e2 e3 e4 n2) dv
end

/-! ### try: body / except x as n: return (..) -/
def mTryR (i : Nat) (ok : Nat → Bool) (mb : M Fl) (mh : Nat → D → List D) : M Fl := fun δ => match mb δ with
  | .ok f δ' => .ok f δ'
  | .ex c d δ' => if ok c then (match δ'[i]? with
      | some (.var _ _) => .no
      | some _ => .ok (.rt (.tuple (mh c d))) (δ'.set i .non)
      | none => .no) else .ex c d δ'
  | .no => .no
theorem SR.setN {K : PySem.W.Frag} {C0 H0 : Hp} {B : List (Nat × Addr)} {C H : Hp} {σ : L2.St} {δ : Dl} (S : SR K C0 H0 B C H σ δ) {i : Nat} {o : Option V} (h : ∀ b ds, δ[i]? ≠ some (.var b ds)) : SR K C0 H0 B C H (σ.set i o) (δ.set i .non) := by
  have hl := S.len
  have back : ∀ {j : Nat} {c : Cell}, (δ.set i .non)[j]? = some c → c ≠ .non → δ[j]? = some c ∧ j ≠ i := fun {j c} e ne => by
    by_cases q : i = j
    · subst q
      rw [List.getElem?_set] at e
      split at e
      · split at e
        · cases e; exact absurd rfl ne
        · cases e
      · exact absurd rfl (by assumption)
    · rw [List.getElem?_set_ne q] at e
      exact ⟨e, Ne.symm q⟩
  have fw : ∀ {j : Nat}, j ≠ i → (σ.set i o)[j]? = σ[j]? := fun {j} q => List.getElem?_set_ne (Ne.symm q)
  have fd : ∀ {j : Nat}, j ≠ i → (δ.set i .non)[j]? = δ[j]? := fun {j} q => List.getElem?_set_ne (Ne.symm q)
  refine ⟨by rw [List.length_set, List.length_set, hl], S.c0, S.ch, S.fr, S.nw, fun j d e => ?_, fun j ds e => ?_, fun p hp => ?_, fun j ds e => ?_, S.bd1, S.bd2, S.bH0, fun j k ds ds' ne e1 e2 l h1 => ?_⟩
  · obtain ⟨e1, q⟩ := back e (fun z => nomatch z)
    rw [fw q]
    exact S.val j d e1
  · obtain ⟨e1, q⟩ := back e (fun z => nomatch z)
    rw [fw q]
    exact S.own j ds e1
  · obtain ⟨ds, xs, h1, h2, h3⟩ := S.bor p hp
    have q : p.1 ≠ i := fun z => h _ _ (by rw [← z]; exact h1)
    exact ⟨ds, xs, by rw [fd q]; exact h1, by rw [fw q]; exact h2, h3⟩
  · obtain ⟨e1, q⟩ := back e (fun z => nomatch z)
    exact S.btr j ds e1
  · obtain ⟨f1, q1⟩ := back e1 (fun z => nomatch z)
    obtain ⟨f2, q2⟩ := back e2 (fun z => nomatch z)
    rw [fw q1] at h1
    rw [fw q2]
    exact S.odis j k ds ds' ne f1 f2 l h1
/-- elements of such a tuple: nothing is made or changed -/
structure SA (X : Cx) (EC : ECl) (i : Nat) (a : Addr) (c : Nat) (d : Option Addr) (es : List Expr) (mh : D → List D) : Prop where
  ex : ∃ ta, PA X es ta ∧ ∀ (dd : Addr) (v : V) (pay : D) (C H : Hp) (σ : L2.St) (Q : List V → Hp → Prop), Ex C H → d = some dd → σ[i]? = some (some (.ref a)) → H dd = some (.xd [((EC c).2, v)]) → Dq X.K C v pay →
    (∀ vs, DqAll X.K C vs (mh pay) → vs.length ≤ 16777216 → Q vs H) → ta σ H Q
section
variable {X : Cx} {EC : ECl} {W : WX} {i : Nat} {x n : Str} {cv : Value} {ok : Nat → Bool} {body : List Stmt} {es : List Expr} {mb : M Fl} {mh : Nat → D → List D} {np pos pos' rp tp : Pos}
def tbD (K : PySem.W.Frag) (EC : ECl) (mb : M Fl) (W : WX) : TS := fun N σ H => ∃ C0 H0 B C δ, SR K C0 H0 B C H σ δ ∧ RP (mb δ) (PKs K C0 H0 B C N) (PXs K EC W C0 H0 B C)
def thD (K : PySem.W.Frag) (EC : ECl) (i : Nat) (ok : Nat → Bool) (mh : Nat → D → List D) (a : Addr) (cls : Value) (d : Option Addr) : TS := fun N σ H => ∃ c dd v pay C0 H0 B C δ, ok c = true ∧ cls = .ref (EC c).1 ∧ d = some dd ∧ H dd = some (.xd [((EC c).2, v)]) ∧ Dq K C v pay ∧ SR K C0 H0 B C H σ δ ∧ σ[i]? = some (some (.ref a)) ∧
  PKs K C0 H0 B C N (.rt (.tuple (mh c pay))) δ
theorem ds_tryR {kc} (hs : X.stack = X.env :: X.outer) (hf : X.env.frame = some X.env.locals) (hN : X.N.Nodup) (hi : X.N[i]? = some n) (hln : X.env.kindOf n = some .local) (hc : Names X x cv) (tk : Takes X W)
    (hm : ∀ c, PySem.W.exmOne X.K (.ref (EC c).1) cv = some (ok c))
    (hb : ∀ (W' : WX) (pn : List (Addr × Obj)) (xe : Value → Shared → Prop), Takes (X.tr pn xe) W' → PassesOwn (model X.prog X.w) X.A X.env xe → DSs (X.tr pn xe) EC W' body mb)
    (hsu : ∀ (a : Addr) (oe : Obj) (c : Nat) (d : Option Addr) (pn : List (Addr × Obj)), ok c = true → Zc (.ref (EC c).1) d oe → (∃ vs, oe.data = .fields vs) → SA (X.suite a ((a, oe) :: pn)) EC i a c d es (mh c)) :
    DS X EC W (.Try body [.ExceptHandler (some (.Name x np)) (some n) [.Return (some (.Tuple es kc tp)) rp] pos'] [] [] pos) (mTryR i ok mb mh) := by
  have p := ps_try_as (body := body) (pos := pos) (pos' := pos') (np := np) (tb := tbD X.K EC mb) (ts := thD X.K EC i ok mh) (b₀ := .Return (some (.Tuple es kc tp)) rp) (suite := []) hs hf hN hi hln hc tk (fun W' pn xe tk' ho => ⟨fun pins s σ H N I h => ?_⟩) (fun a oe cls d pn hz hfl => ⟨fun pins s σ H N I h => ?_⟩)
  · refine ⟨_, p, fun C0 H0 B C H σ δ N S h => ?_⟩
    refine ⟨C0, H0, B, C, δ, S, ?_⟩
    unfold mTryR at h
    cases q : mb δ with
    | no => rw [q] at h; exact h.elim
    | ok f δ' => rw [q] at h; exact h
    | ex c d δ' =>
      rw [q] at h
      intro σ2 v dd C2 H2 e2 S2 z1 z2
      refine ⟨ok c, hm c, fun hk a na => ?_, fun hk => ?_⟩
      · have h : RP (if ok c = true then (match δ'[i]? with | some (.var _ _) => R.no | some _ => .ok (.rt (.tuple (mh c d))) (δ'.set i .non) | none => .no) else .ex c d δ') (PKs X.K C0 H0 B C N) (PXs X.K EC W C0 H0 B C) := h
        rw [if_pos hk] at h
        have nv : ∀ b ds, δ'[i]? ≠ some (.var b ds) := fun b ds z => by rw [z] at h; exact h.elim
        have hlen : i < δ'.length := by
          rcases Nat.lt_or_ge i δ'.length with q | q
          · exact q
          · rw [List.getElem?_eq_none q] at h; exact h.elim
        have h2 : PKs X.K C0 H0 B C N (.rt (.tuple (mh c d))) (δ'.set i .non) := by
          cases q : δ'[i]? with
          | none => rw [q] at h; exact h.elim
          | some cl =>
            rw [q] at h
            cases cl with
            | var b ds => exact h.elim
            | non => exact h
            | val d => exact h
        refine ⟨c, dd, v, d, C0, H0, B, C2, δ'.set i .non, hk, rfl, rfl, z1, z2, S2.setN nv, ?_, fun σ3 C3 H3 e3 S3 => ?_⟩
        · rw [List.getElem?_set_self (by rw [S2.len]; exact hlen)]
        · exact h2 σ3 C3 H3 (e2.trans e3) S3
      · have h : RP (if ok c = true then (match δ'[i]? with | some (.var _ _) => R.no | some _ => .ok (.rt (.tuple (mh c d))) (δ'.set i .non) | none => .no) else .ex c d δ') (PKs X.K C0 H0 B C N) (PXs X.K EC W C0 H0 B C) := h
        rw [if_neg (by rw [hk]; exact Bool.false_ne_true)] at h
        exact h σ2 v dd C2 H2 e2 S2 z1 z2
  · obtain ⟨C0, H0, B, C, δ, S, r⟩ := h
    obtain ⟨t, pt, rt⟩ := (hb W' pn xe tk' ho).ex
    exact pt.run pins s σ H N I (rt C0 H0 B C H σ δ N S r)
  · obtain ⟨c, dd, v, pay, C0, H0, B, C, δ, hk, rfl, rfl, z1, z2, S, hσ, r⟩ := h
    obtain ⟨ta, pa, ra⟩ := (hsu a oe c (some dd) pn hk hz hfl).ex
    refine (pss_one (ps_ret (pe_tup pa))).run pins s σ H N I (ra dd v pay C H σ _ S.ch rfl hσ z1 z2 fun vs hvs hl => ⟨hl, fun p hp => ?_⟩)
    exact r σ _ _ (Ex.new (free_of S.ch hp)) (S.new hp) (.ref p) (.tup (SqT.of upd_same) (dpAll_ex (Ex.new (free_of S.ch hp)) _ _ hvs))
end

/-! ### what stands in such a tuple -/
structure SEl (X : Cx) (EC : ECl) (i : Nat) (a : Addr) (c : Nat) (d : Option Addr) (e : Expr) (m : D → D) : Prop where
  ex : ∃ te, PE X e te ∧ ∀ (dd : Addr) (v : V) (pay : D) (C H : Hp) (σ : L2.St) (Q : VK), Ex C H → d = some dd → σ[i]? = some (some (.ref a)) → H dd = some (.xd [((EC c).2, v)]) → Dq X.K C v pay → (∀ y, Dq X.K C y (m pay) → Q y H) → te σ H Q
section
variable {X : Cx} {EC : ECl} {i c : Nat} {a : Addr} {d : Option Addr} {e : Expr} {es : List Expr} {m : D → D} {ms : D → List D} {oe : Obj} {pn : List (Addr × Obj)} {n : Str} {p p2 p3 pos : Pos}
theorem sa_nil : SA X EC i a c d [] fun _ => [] := ⟨_, pa_nil, fun dd v pay C H σ Q e1 h1 h2 h3 h4 q => q [] .nil (by simp)⟩
theorem sa_cons (h : SEl X EC i a c d e m) (hs : SA X EC i a c d es ms) (hl : es.length < 1000 := by decide) (hm : ∀ pay, (ms pay).length = es.length := by intro _; rfl) (he : starEach (e :: es) X.env = (false, eval e X.env) :: starEach es X.env := by rfl) : SA X EC i a c d (e :: es) fun pay => m pay :: ms pay := by
  obtain ⟨te, pe, re⟩ := h.ex
  obtain ⟨ta, pa, ra⟩ := hs.ex
  refine ⟨_, pa_cons pe pa he, fun dd v pay C H σ Q e1 h1 h2 h3 h4 q => re dd v pay C H σ _ e1 h1 h2 h3 h4 fun y hy => ra dd v pay C H σ _ e1 h1 h2 h3 h4 fun ys hys _ => q (y :: ys) (.cons hy hys) ?_⟩
  rw [List.length_cons, dpa_len hys, hm]
  omega
theorem sel_str {z : Str} {j : Nat} : SEl X EC i a c d (.Constant (.str z) j pos) fun _ => .str z := ⟨_, pe_str, fun dd v pay C H σ Q e1 h1 h2 h3 h4 q => q _ (.str z)⟩
theorem sel_fld (T : XfC X.K (EC c).1) (hno : PySem.W.findIn X.K (.ref (EC c).1) (EC c).2 = some none) (hz : Zc (.ref (EC c).1) d oe) (hf : ∃ vs, oe.data = .fields vs) (hN : X.N[i]? = some n) (hv : Vis X.env.scope n) (hd : (n == ("__debug__" : Str)) = false := by decide)
    (hcd : (n == ("__classdict__" : Str)) = false := by decide) {fl : Str} (hfl : fl = (EC c).2) (hb : attributeBase (.Name n p) fl X.env (eval (.Name n p) X.env) = eval (.Name n p) X.env := by rfl) : SEl (X.suite a ((a, oe) :: pn)) EC i a c d (.Attribute (.Name n p) fl pos) fun pay => pay := by
  subst hfl
  refine ⟨_, pe_xf T hno hz hf (pe_var (X := X.suite a ((a, oe) :: pn)) hN hv hd hcd) hb, fun dd v pay C H σ Q e1 h1 h2 h3 h4 q => ⟨_, h2, rfl, rfl, dd, _, v, h1, h3, ?_, q v h4⟩⟩
  rw [lookup_put, if_pos rfl]
/-- isinstance(e, c), e the exception that the suite holds, its dict there -/
def rIsD (K : PySem.W.Frag) (D a : Addr) (d : Option Addr) : List V → Hp → VK → Prop := fun xs H Q => ∃ (c : V) (cv : Value) (b : Bool) (dd : Addr) (fs : List (Str × V)), xs = [.ref a, c] ∧ (∀ u, RelV c u → u = cv) ∧ PySem.W.kitOne K (.ref D) cv = some b ∧ d = some dd ∧ H dd = some (.xd fs) ∧ Q (.bl b) H
theorem call_isD {D : Addr} (C : ExcC X.K D) (hz : Zc (.ref D) d oe) (hf : ∃ vs, oe.data = .fields vs) : CallR (X.suite a ((a, oe) :: pn)) (.builtin "isinstance") (rIsD X.K D a d) := by
  intro pins s σ H xs us Q I r h
  obtain ⟨c, cv, b, dd, fs, rfl, hcv, e, rfl, ea, q⟩ := h
  cases r with
  | cons rx rr =>
    cases rr with
    | cons rt rr =>
      cases rr
      cases rx
      have ec := hcv _ rt
      subst ec
      obtain ⟨hget, _⟩ := I.pin (a, oe) (List.mem_append.mpr (.inl List.mem_cons_self))
      obtain ⟨vs, hv⟩ := hf
      have hx : ObjOk X.prog X.w H s.heap dd (.xd fs) := I.hok dd _ ea
      obtain ⟨mA, hns, hr⟩ := hx
      obtain ⟨od, ho, hl⟩ := lookIn_ns hns
      have J : PySem.W.InstAt s.heap a oe D (some od) := ⟨hget, hz.1, by unfold PySem.W.notCls; rw [hv] <;> rfl, by rw [hz.2]; exact ho⟩
      exact PySem.W.kia_one (PySem.W.kitx_exc (by obtain ⟨cd, h, _⟩ := PySem.W.any_some C.hd; rw [h]; rfl) C.hg C.hk C.hs C.ha C.hn C.ht C.hm) I.kIn J e (fun z => nomatch z) fun tk => ⟨.bl b, H, I.kept (t' := tk) fun _ _ z => z, rfl, q⟩
theorem sel_is {x : Str} {cc : V} {cv : Value} {b : Bool} (C : ExcC X.K (EC c).1) (hz : Zc (.ref (EC c).1) d oe) (hf : ∃ vs, oe.data = .fields vs) (hN : X.N[i]? = some n) (hv : Vis X.env.scope n) (hk : PySem.W.kitOne X.K (.ref (EC c).1) cv = some b)
    (hx : PE (X.suite a ((a, oe) :: pn)) (.Name x p3) (tC cc)) (hcv : ∀ u, RelV cc u → u = cv) (hg : Gl X "isinstance") (hm : X.mg "isinstance" = none) (hd : (n == ("__debug__" : Str)) = false := by decide) (hcd : (n == ("__classdict__" : Str)) = false := by decide)
    (he : starEach [.Name n p2, .Name x p3] X.env = (false, eval (.Name n p2) X.env) :: starEach [.Name x p3] X.env := by rfl) (he2 : starEach [.Name x p3] X.env = (false, eval (.Name x p3) X.env) :: starEach [] X.env := by rfl) (hpl : (backTo pos (starEach [Expr.Name x p3] X.env)).any (·.1) = false := by rfl) :
    SEl (X.suite a ((a, oe) :: pn)) EC i a c d (.Call (.Name "isinstance" p) [.Name n p2, .Name x p3] [] pos) fun _ => .bool b := by
  refine ⟨_, pe_callB (X := X.suite a ((a, oe) :: pn)) (call_isD C hz hf) hg hm (by decide +kernel) (pa_cons (pe_var (X := X.suite a ((a, oe) :: pn)) hN hv hd hcd) (pa_cons hx pa_nil he2) he) (by decide) (by decide) he hpl, fun dd v pay C H σ Q e1 h1 h2 h3 h4 q => ⟨_, h2, cc, cv, b, dd, _, rfl, hcv, hk, h1, h3, q _ (.bl b)⟩⟩
end
end DL
end Part_DY

section Part_DZ
set_option Elab.async false
set_option linter.all false
set_option maxRecDepth 100000
set_option autoImplicit false
set_option maxHeartbeats 2000000
namespace DL
open PySem PySem.Spec PyProof.Rows L2 Evl
section
variable {P : Program} {w : World} {K : PySem.W.Frag} {mg : Str → Option Value} {base : Heap}
/-- what is asked of the class of an own error -/
structure ClsF (K : PySem.W.Frag) (C : Addr) (fld : Str) : Prop where
  oex : OexC K C
  xfc : XfC K C
  exc : ExcC K C
  nof : PySem.W.findIn K (.ref C) fld = some none
theorem clsF_mk {C : Addr} {fld : Str} {nm q : Str} {N : Addr} {bs bm : List Value} {sn : List Str} {sub : List Value} {ab : Bool} {col : Option Bool} {dd : Option Addr} {k0 k1 k2 k3 k5 : Option Value}
    (l : K.lookup C = some (excClassObj nm q C N bs bm true sn sub ab col dd k0 k1 k2 k3 k5 "ValueError.__new__")) (hbm : PySem.HandSPX.refsVE bm = true) (sa : PySem.W.findIn K (.ref C) "__setattr__" = some (some (.builtin "object.__setattr__")))
    (exC : PySem.W.subIn K (.ref C) (.type "BaseException") = some true) (tyC : PySem.W.typeIn K (.ref C) = some (.type "type")) (kC : PySem.W.keepIn K (.ref C) = true)
    (ga : PySem.W.findIn K (.ref C) "__getattribute__" = some (some (.builtin "BaseException.__getattribute__"))) (gg : PySem.W.findIn K (.ref C) "__getattr__" = some none) (hd : PySem.W.hasDictIn K C = true)
    (ha : PySem.W.findIn K (.ref C) "__class__" = some (some (.builtin "object.__class__"))) (hn : PySem.W.specialIn K (.builtin "object.__class__") "__get__" = some (some (.builtin "getset_descriptor.__get__"))) (ht : PySem.W.takesIn K (.builtin "object.__class__") = some true)
    (hm : PySem.W.mroIn K C (.type "object") = some true) (nof : PySem.W.findIn K (.ref C) fld = some none) : ClsF K C fld :=
  ⟨⟨⟨nm, q, N, bs, bm, sn, sub, ab, col, dd, k0, k1, k2, k3, k5, l, hbm⟩, sa, exC, tyC, kC⟩, ⟨ga, gg, exC, hd⟩, ⟨ga, gg, exC, hd, ha, hn, ht, hm⟩, nof⟩
theorem errX_mk {h : Heap} {x par fld qual : Str} {C fI c cc : Addr} {oc ccl cl doc pm kV ct : Value} {od an cdd cld : Option Addr} {osl ccs csl : Array (Option Value)} {params : Arguments} {scope : Scope} {e : Expr} {p0 p1 p2 p3 p4 p5 p6 p7 p8 : Pos} {ar : Arg} {ar2 : List Arg} {vs : Array Value} {file : Str} {tf : Tok} {cd : ClassData} {t : D → Bool}
    (T : V → Prop) (X : K.In h) (G : h.Ns mainGlobals mg) (F : ClsF K C fld) (a : PySem.W.nsIn K mainGlobals x = some (some (.ref C))) (b : PySem.W.findIn K (.ref C) "__init__" = some (some (.ref fI))) (tI : PySem.W.typeIn K (.ref fI) = some (.type "function"))
    (l : K.lookup fI = some ⟨oc, od, .func (PySem.W.fnX "__init__" qual params [.Expr (.Call (.Attribute (.Call (.Name "super" p0) [] [] p1) "__init__" p2) [e] [] p3) p4, .Assign [.Attribute (.Name "self" p5) fld p6] (.Name par p7) p8] scope [("__class__", cc)] .none kV doc pm an (.ref c) ct), osl⟩)
    (ci : PySem.W.codeIn K (.ref c) qual = true) (S : NdefX.NScope [("self" : Str), par, "__class__"] [("self" : Str), par] ["__class__"] scope) (hsup : scope.names.lookup ("super" : Str) = some .globalImplicit)
    (hp : (params.posonlyargs ++ params.args) = ar :: ar2) (har : ar.arg = "self") (lc : K.lookup c = some ⟨ccl, cdd, .fields vs, ccs⟩) (hvs : vs[2]? = some (.str file tf)) (hfile : ((P.main.file : Str) == file) = true) (htop : (P.main.scope.names.lookup ("super" : Str)).isSome = false)
    (lcc : K.lookup cc = some ⟨cl, cld, .cell (some (.ref C)), csl⟩) (hcls : PySem.W.clsIn K C = some cd) (hmro : PySem.W.mroIn K C (.ref C) = some true) (hsg : PySem.W.nsIn K mainGlobals "super" = some none) (hst : PySem.W.nsIn K cStatics "thirdparty.any" = some none)
    (hsu : PySem.W.alongIn K "__init__" ((cd.mro.dropWhile (· != .ref C)).drop 1) = some (some (.builtin "ValueError.__init__"))) (hB : PySem.W.subIn K (.ref C) (.type "ValueError") = some true)
    (hev : ∀ env : Env, ∃ pl : Sem Bool, eval (.Call (.Attribute (.Call (.Name "super" p0) [] [] p1) "__init__" p2) [e] [] p3) env = (do
      let ov ← attributeBase (.Call (.Name "super" p0) [] [] p1) "__init__" env (eval (.Call (.Name "super" p0) [] [] p1) env)
      standAt p2.atName
      let (f, first) ← holding [ov] (getMethod ov "__init__" pl)
      callWith p3 f first (backTo p3 (starEach [e] env)) [])) (hse : ∀ env : Env, starEach [e] env = (false, eval e env) :: starEach [] env) (pd1 : (par == ("__debug__" : Str)) = false) (pd2 : (par == ("__classdict__" : Str)) = false)
    (hsw : ∀ env : Env, swapsWith (.Name par p7) (some (.Attribute (.Name "self" p5) fld p6)) p8.line env = pure false)
    (hb : ∀ (us : List Value), us.length = 2 → bindArgs (PySem.W.fnX "__init__" qual params [.Expr (.Call (.Attribute (.Call (.Name "super" p0) [] [] p1) "__init__" p2) [e] [] p3) p4, .Assign [.Attribute (.Name "self" p5) fld p6] (.Name par p7) p8] scope [("__class__", cc)] .none kV doc pm an (.ref c) ct) ⟨us, []⟩ = pure ([("self" : Str), par].zip us))
    (he : ∀ (X : Cx), X.prog = P → X.K = K → X.mg = mg → X.N = [("self" : Str), par, "__class__"] → Vis X.env.scope par → ∃ te, PE X e te ∧ ∀ (a : Addr) (y : V) H Q, T y → (∀ v, Q v H) → te [some (.ref a), some y, none] H Q)
    (hT : ∀ C v d, Dq K C v d → t d = true → T v) : ErrX P w K mg base 1 x (C, fld) t := by
  refine ⟨fI, _, [("self" : Str), par], T, F.oex, b, tI, init_ok (k := 0) (CX := CX0) (e := e) (par := par) ⟨⟨oc, od, osl, kV, doc, pm, an, c, cc, ct, params, _, scope, p0, p1, p2, p3, p4, p5, p6, p7, p8, ar, ar2, ccl, cl, cdd, cld, ccs, csl, vs, file, tf, cd, 0, rfl, l, ci, rfl, S, hsup, hp, har, lc, hvs, hfile, htop, lcc, hcls, hmro, PySem.W.mg_none_of X G hsg, hst, ?_, hB, F.nof, rfl, hev, hse, pd1, pd2, hsw⟩, F.oex⟩ he, ?_, PySem.W.mg_of X G a, hT⟩
  · unfold PySem.W.ks_superIn
    rw [hcls]
    exact hsu
  · exact binds_of fun s us hl => .of_eq (hb us hl)
theorem kit_ref {t : Value} {A : Addr} {cd : ClassData} {b : Bool} (h1 : PySem.W.clsIn K A = some cd) (h2 : PySem.W.typeIn K (.ref A) = some (.type "type")) (h3 : PySem.W.subIn K t (.ref A) = some b) (hne : (t == .ref A) = false) : PySem.W.kitOne K t (.ref A) = some b := by
  unfold PySem.W.kitOne
  rw [hne, if_neg Bool.false_ne_true]
  show (if ((PySem.W.clsIn K A).isSome && PySem.W.typeIn K (.ref A) == some (.type "type")) = true then PySem.W.subIn K t (.ref A) else none) = _
  rw [h1, h2, if_pos (by rfl)]
  exact h3
theorem kit_typ {A : Addr} {T : String} {b : Bool} (h1 : PySem.W.kitMeta T = true) (h3 : PySem.W.subIn K (.ref A) (.type T) = some b) : PySem.W.kitOne K (.ref A) (.type T) = some b := by
  unfold PySem.W.kitOne
  rw [if_neg (by simp)]
  show (if PySem.W.kitMeta T = true then PySem.W.subIn K (.ref A) (.type T) else none) = _
  rw [if_pos h1]
  exact h3
end

/-- f'text{par}', par a small int -/
def TInt : V → Prop := fun v => ∃ i : Int, v = .int i ∧ 0 ≤ i ∧ i < 1000000000
def tInt : D → Bool
  | .int i => decide (0 ≤ i) && decide (i < 1000000000)
  | _ => false
theorem tInt_ok {K : PySem.W.Frag} : ∀ C v d, Dq K C v d → tInt d = true → TInt v := by
  intro C v d h q
  cases h <;> first | (cases q; done) | skip
  rename_i i
  obtain ⟨h1, h2⟩ := Bool.and_eq_true_iff.mp q
  exact ⟨i, rfl, of_decide_eq_true h1, of_decide_eq_true h2⟩
theorem num_log {n : Nat} (h : n < 1000000000) : n.log2 < 1920 := by
  by_cases q : n = 0
  · rw [q]; decide
  · exact (Nat.log2_lt q).mpr (Nat.lt_of_lt_of_le h (by decide +kernel))
theorem fstr_he {m par : Str} {j : Nat} {p q r s : Pos} (hm : m.length ≤ 1000) (X : Cx) (hN : X.N = [("self" : Str), par, "__class__"]) (hv : Vis X.env.scope par) (pd1 : (par == ("__debug__" : Str)) = false) (pd2 : (par == ("__classdict__" : Str)) = false) :
    ∃ te, PE X (.JoinedStr [.Constant (.str m) j p, .FormattedValue (.Name par q) (-1) none r] s) te ∧ ∀ (a : Addr) (y : V) H Q, TInt y → (∀ v, Q v H) → te [some (.ref a), some y, none] H Q := by
  refine ⟨_, pe_joined (.cons pe_str (.cons (pe_fmt (pe_var (i := 1) (by rw [hN] <;> rfl) hv pd1 pd2)) .nil)), fun a y H Q hy h => ?_⟩
  obtain ⟨i, rfl, h0, h1⟩ := hy
  obtain ⟨n, rfl⟩ := Int.eq_ofNat_of_zero_le h0
  have hl : (Str.ofString (toString ((n : Nat) : Int))).length ≤ 10 := by
    rw [SX.num_S, SX.S_len]
    exact Nat.le_trans (TL.numL_len (k := 9) (by decide) (by omega)) (by decide)
  have ln : ∀ a b : Str, (a ++ b).length = a.length + b.length := fun a b => by
    show (a.cps ++ b.cps).size = _
    rw [Array.size_append]
    rfl
  refine ⟨m, rfl, ?_, .int n, rfl, .inr ⟨n, rfl, num_log (n := n) (by omega), _, rfl, ?_, h _⟩⟩
  · rw [ln, sizeLine_eq]
    show 0 + _ ≤ _
    omega
  · rw [ln, ln, sizeLine_eq]
    show 0 + _ + _ ≤ _
    have : (Str.ofString (toString ((n : Nat) : Int))).length ≤ 10 := hl
    omega
end DL
end Part_DZ

section Part_DV
set_option Elab.async false
set_option linter.all false
set_option maxRecDepth 100000
set_option autoImplicit false
set_option maxHeartbeats 2000000
namespace DL
open PySem PySem.Spec PyProof.Rows L2 Evl
/-! ### written values as data -/
def listIn (f : Value → Option D) : List Value → Option (List D)
  | [] => some []
  | u :: us => match f u, listIn f us with
    | some d, some ds => some (d :: ds)
    | _, _ => none
def dataIn (K : PySem.W.Frag) : Nat → Value → Option D
  | 0, u => flatU u
  | n + 1, u => match u with
    | .ref a => (match K.lookup a with
      | some ⟨.type c, _, .seq us _, _⟩ => if c = "tuple" ∧ us.size ≤ 100000 then (listIn (dataIn K n) us.toList).map .tuple else none
      | _ => none)
    | u => flatU u
def Says (K : PySem.W.Frag) (u : Value) (d : D) : Prop := ∃ v, RelV v u ∧ ∀ C, Dq K C v d
theorem says_flat {K : PySem.W.Frag} {u : Value} {d : D} (h : flatU u = some d) : Says K u d := let ⟨v, r, q⟩ := flatU_ok h; ⟨v, r, fun C => q K C⟩
theorem listIn_ok {K : PySem.W.Frag} {f : Value → Option D} (hf : ∀ u d, f u = some d → Says K u d) : ∀ {us : List Value} {ds : List D}, listIn f us = some ds → ∃ vs, Vals vs us ∧ ∀ C, DqAll K C vs ds
  | [], _, h => by cases h; exact ⟨[], .nil, fun _ => .nil⟩
  | u :: us, ds, h => by
    unfold listIn at h
    split at h
    · rename_i d ds' h1 h2
      cases h
      obtain ⟨v, r, q⟩ := hf u d h1
      obtain ⟨vs, rs, qs⟩ := listIn_ok hf h2
      exact ⟨v :: vs, .cons r rs, fun C => .cons (q C) (qs C)⟩
    · cases h
theorem dataIn_ok {K : PySem.W.Frag} : ∀ (n : Nat) (u : Value) (d : D), dataIn K n u = some d → Says K u d
  | 0, u, d, h => says_flat h
  | n + 1, u, d, h => by
    unfold dataIn at h
    split at h
    · rename_i a
      split at h
      · rename_i c dd us m sl hl
        split at h
        · rename_i hc
          obtain ⟨hc, hz⟩ := hc
          subst hc
          cases q : listIn (dataIn K n) us.toList with
          | none => rw [q] at h; cases h
          | some ds =>
            rw [q] at h
            cases h
            obtain ⟨vs, rs, qs⟩ := listIn_ok (dataIn_ok n) q
            exact ⟨.ref a, rfl, fun C => .tup (.inr ⟨_, us, m, hl, rfl, rfl, by rw [sizeLine_eq]; omega, rs⟩) (qs C)⟩
        · cases h
      · cases h
    · exact says_flat h

/-! ### written dicts with text keys -/
def getT {α : Type} (t : List (Str × α)) (z : Str) : Option α := (t.find? fun p => p.1 == z).map (·.2)
/-- the entries of a written dict, as a table: each value by R -/
inductive TabR {α : Type} (R : Value → α → Prop) : List DictEntry → List (Str × α) → Prop
  | nil : TabR R [] []
  | cons {e : DictEntry} {p : Str × α} {es : List DictEntry} {ps : List (Str × α)} {t : Tok} : e.key = .str p.1 t → R e.val p.2 → TabR R es ps → TabR R (e :: es) (p :: ps)
theorem TabR.get {α : Type} {R : Value → α → Prop} {es : List DictEntry} {ps : List (Str × α)} (h : TabR R es ps) (z : Str) :
    (∃ e d, es.find? (·.key.isStr z) = some e ∧ getT ps z = some d ∧ R e.val d) ∨ (es.find? (·.key.isStr z) = none ∧ getT ps z = none ∧ es.any (·.refKey) = false) := by
  induction h with
  | nil => exact .inr ⟨rfl, rfl, rfl⟩
  | @cons e p es ps t h1 h2 h3 ih =>
    by_cases q : (p.1 == z) = true
    · refine .inl ⟨e, p.2, ?_, ?_, h2⟩
      · rw [List.find?_cons, h1]
        show (match (p.1 == z) with | true => some e | false => _) = _
        rw [q]
      · unfold getT
        rw [List.find?_cons, q]
        rfl
    · have q' : (p.1 == z) = false := by simpa using q
      have e1 : (e :: es).find? (·.key.isStr z) = es.find? (·.key.isStr z) := by
        rw [List.find?_cons, h1]
        show (match (p.1 == z) with | true => some e | false => _) = _
        rw [q']
      have e2 : getT (p :: ps) z = getT ps z := by
        unfold getT
        rw [List.find?_cons, q']
      have e3 : (e :: es).any (·.refKey) = es.any (·.refKey) := by
        rw [List.any_cons]
        have : e.refKey = false := by
          unfold DictEntry.refKey
          rw [h1]
        rw [this, Bool.false_or]
      rw [e1, e2, e3]
      exact ih
structure TabX (K : PySem.W.Frag) (w : World) (mg : Str → Option Value) (x : Str) {α : Type} (R : Value → α → Prop) (t : List (Str × α)) : Prop where
  ex : ∃ a es n, mg x = some (.ref a) ∧ KDict K w a es n ∧ TabR R es.toList t
theorem tab_ns {K : PySem.W.Frag} {w : World} {α : Type} {R : Value → α → Prop} {t : List (Str × α)} {a : Addr} {es : Array DictEntry} {n : Nat} (D : KDict K w a es n) (T : TabR R es.toList t) (z : Str) :
    (∃ u d, PySem.W.nsIn K a z = some (some u) ∧ getT t z = some d ∧ R u d) ∨ (PySem.W.nsIn K a z = some none ∧ getT t z = none) := by
  unfold PySem.W.nsIn
  rw [D.at_]
  dsimp only
  rcases T.get z with ⟨e, d, h1, h2, h3⟩ | ⟨h1, h2, h3⟩
  · refine .inl ⟨e.val, d, ?_, h2, h3⟩
    rw [h1]
  · refine .inr ⟨?_, h2⟩
    rw [h1, h3]
    rfl
/-- from what is written: data -/
def dataB (f : Value → Option D) : List DictEntry → Option (List (Str × D))
  | [] => some []
  | e :: r => match e.key, f e.val, dataB f r with
    | .str x _, some d, some t => some ((x, d) :: t)
    | _, _, _ => none
theorem dataB_ok {K : PySem.W.Frag} {n : Nat} : ∀ {es : List DictEntry} {t : List (Str × D)}, dataB (dataIn K n) es = some t → TabR (Says K) es t
  | [], _, h => by cases h; exact .nil
  | e :: es, t, h => by
    unfold dataB at h
    split at h
    · rename_i x tk d t' h1 h2 h3
      cases h
      exact .cons (t := tk) h1 (dataIn_ok n _ _ h2) (dataB_ok h3)
    · cases h
/-- .. defs, by their names -/
def funsB (K : PySem.W.Frag) : List DictEntry → List (Str × Str) → Bool
  | [], [] => true
  | e :: r, p :: ps => (match e.key with | .str x _ => decide (x = p.1) | _ => false) && (match PySem.W.nsIn K mainGlobals p.2, e.val with | some (some (.ref a)), .ref b => decide (a = b) | _, _ => false) && funsB K r ps
  | _, _ => false
theorem funsB_ok {K : PySem.W.Frag} {h : Heap} {mg : Str → Option Value} (X : K.In h) (G : h.Ns mainGlobals mg) : ∀ {es : List DictEntry} {t : List (Str × Str)}, funsB K es t = true → TabR (fun u py => mg py = some u) es t
  | [], [], _ => .nil
  | e :: es, p :: ps, h => by
    unfold funsB at h
    rw [Bool.and_eq_true, Bool.and_eq_true] at h
    obtain ⟨⟨h1, h2⟩, h3⟩ := h
    split at h1
    · rename_i x tk hk
      have hx := of_decide_eq_true h1
      subst hx
      refine .cons (t := tk) hk ?_ (funsB_ok X G h3)
      split at h2
      · rename_i a b e1 e2
        have := of_decide_eq_true h2
        subst this
        rw [e2]
        exact PySem.W.mg_of X G e1
      · cases h2
    · cases h1
  | [], _ :: _, h => by cases h
  | _ :: _, [], h => by cases h
theorem tab_data {K : PySem.W.Frag} {w : World} {mg : Str → Option Value} {h : Heap} {x : Str} {a : Addr} {es : Array DictEntry} {n : Nat} {t : List (Str × D)} {ks : List Str} (X : K.In h) (G : h.Ns mainGlobals mg) (g : PySem.W.nsIn K mainGlobals x = some (some (.ref a)))
    (l : K.lookup a = some ⟨.type "dict", none, .dict es n, #[]⟩) (lit : es.toList.map He.keyOf = He.keysIn w.params ks) (low : (a == sysModules) = false) (hd : dataB (dataIn K 3) es.toList = some t) : TabX K w mg x (Says K) t :=
  ⟨a, es, n, PySem.W.mg_of X G g, ⟨l, He.keysLit_of lit, low⟩, dataB_ok hd⟩
theorem tab_funs {K : PySem.W.Frag} {w : World} {mg : Str → Option Value} {h : Heap} {x : Str} {a : Addr} {es : Array DictEntry} {n : Nat} {t : List (Str × Str)} {ks : List Str} (X : K.In h) (G : h.Ns mainGlobals mg) (g : PySem.W.nsIn K mainGlobals x = some (some (.ref a)))
    (l : K.lookup a = some ⟨.type "dict", none, .dict es n, #[]⟩) (lit : es.toList.map He.keyOf = He.keysIn w.params ks) (low : (a == sysModules) = false) (hd : funsB K es.toList t = true) : TabX K w mg x (fun u py => mg py = some u) t :=
  ⟨a, es, n, PySem.W.mg_of X G g, ⟨l, He.keysLit_of lit, low⟩, funsB_ok X G hd⟩

section
variable {X : Cx} {EC : ECl} {W : WX} {a b c e : Expr} {es : List Expr} {ma mb mc : M D} {mes : M (List D)} {pos p p2 : Pos} {x : Str} {α : Type} {R : Value → α → Prop} {t : List (Str × α)} {td : List (Str × D)}
def dInK {α : Type} (t : List (Str × α)) : D → Option D
  | .str z => some (.bool (getT t z).isSome)
  | _ => none
def dGetK (t : List (Str × D)) : D → Option D
  | .str z => getT t z
  | _ => none
theorem inK_read (T : TabX X.K X.w X.mg x R t) : ∃ a es n, X.mg x = some (.ref a) ∧ KDict X.K X.w a es n ∧ ∀ (d z : D) (v : V) (C H : Hp) (Q : VK), Ex C H → Dq X.K C v d → dInK t d = some z → Rs X.K C H z Q →
    ∃ (z : Str) (r : Option Value), v = .str z ∧ V.ref a = .ref a ∧ PySem.W.nsIn X.K a z = some r ∧ Q (.bl r.isSome) H := by
  obtain ⟨a, es, n, hm, D, TT⟩ := T.ex
  refine ⟨a, es, n, hm, D, fun d z v C H Q e hv hz q => ?_⟩
  unfold dInK at hz
  split at hz
  · rename_i s
    cases hz
    cases hv
    rcases tab_ns D TT s with ⟨u, d, h1, h2, h3⟩ | ⟨h1, h2⟩
    · rw [h2] at q
      exact ⟨s, _, rfl, rfl, h1, q.1 _ (.bl _)⟩
    · rw [h2] at q
      exact ⟨s, _, rfl, rfl, h1, q.1 _ (.bl _)⟩
  · cases hz
theorem de_inK (T : TabX X.K X.w X.mg x R t) (ha : DE X EC W a ma) (hg : Gl X x := by rfl) (hdb : (x == ("__debug__" : Str)) = false := by decide) : DE X EC W (.Compare a [.In] [.Name x p] pos) (mUn (dInK t) ma) := by
  obtain ⟨ta, pa, ra⟩ := ha.ex
  obtain ⟨ad, es, n, hm, D, rd⟩ := inK_read T
  refine ⟨_, pe_cmpR (op_in_kd D) pa (pe_glob (v := .ref ad) hg hm rfl hdb) rfl, fun C0 H0 B C H σ δ Q S h => ra C0 H0 B C H σ δ _ S (RP.imp (RP.bind h) (fun x δ1 h1 v C1 H1 e1 S1 d1 => ?_) fun c d δ h => h)⟩
  obtain ⟨z, hz, q⟩ := RP.lift h1
  exact rd x z v C1 H1 Q S1.ch d1 hz (rs_of S1 (PKe.mono e1 _ _ q))
theorem dt_inK (T : TabX X.K X.w X.mg x R t) (ha : DE X EC W a ma) (hg : Gl X x := by rfl) (hdb : (x == ("__debug__" : Str)) = false := by decide) : DT X EC W (.Compare a [.In] [.Name x p] pos) (mT (mUn (dInK t) ma)) := by
  obtain ⟨ta, pa, ra⟩ := ha.ex
  obtain ⟨ad, es, n, hm, D, rd⟩ := inK_read T
  refine ⟨_, pt_cmpR (op_in_kd D) pa (pe_glob (v := .ref ad) hg hm rfl hdb) rfl, fun C0 H0 B C H σ δ Q S h => ra C0 H0 B C H σ δ _ S (RP.imp (RP.bind (RP.bind h)) (fun x δ1 h1 v C1 H1 e1 S1 d1 => ?_) fun c d δ h => h)⟩
  obtain ⟨z, hz, q⟩ := RP.lift h1
  refine rd x z v C1 H1 (fun x H' => ∃ k, x = .bl k ∧ Q k H') S1.ch d1 hz (rs_of (Q := fun x H' => ∃ k, x = .bl k ∧ Q k H') S1 fun u C3 H3 e3 S3 d3 => ?_)
  split at q
  · rename_i k
    cases d3
    exact ⟨k, rfl, q C3 H3 (e1.trans e3) S3⟩
  · exact q.elim
theorem de_getK (T : TabX X.K X.w X.mg x (Says X.K) td) (hb : DE X EC W b mb) (hs : PlainIx b := by intro _ _; rfl) (hg : Gl X x := by rfl) (hdb : (x == ("__debug__" : Str)) = false := by decide) : DE X EC W (.Subscript (.Name x p) b pos) (mUn (dGetK td) mb) := by
  obtain ⟨tb, pb, rb⟩ := hb.ex
  obtain ⟨ad, es, n, hm, Dd, TT⟩ := T.ex
  refine ⟨_, pe_ix ix_kdict (pe_glob (v := .ref ad) hg hm rfl hdb) pb hs, fun C0 H0 B C H σ δ Q S h => rb C0 H0 B C H σ δ _ S (RP.imp (RP.bind h) (fun y δ1 h1 v C1 H1 e1 S1 d1 => ?_) fun c d δ h => h)⟩
  obtain ⟨z, hz, q⟩ := RP.lift h1
  unfold dGetK at hz
  split at hz
  · rename_i s
    cases d1
    rcases tab_ns Dd TT s with ⟨u, d, g1, g2, v', r', g3⟩ | ⟨g1, g2⟩
    · rw [g2] at hz
      cases hz
      exact ⟨ad, s, v', rfl, rfl, ⟨es, n, u, Dd.at_, Dd.lit, g1, r'⟩, (rs_of S1 (PKe.mono e1 _ _ q)).1 v' (g3 C1)⟩
    · rw [g2] at hz
      cases hz
  · cases hz

/-! ### sorted(d) of a written dict -/
theorem lt_irr {a b : Str} (h1 : ltCps a.cps.toList b.cps.toList = false) (h2 : ltCps b.cps.toList a.cps.toList = false) : a = b := by
  have key : ∀ (x y : List Nat), ltCps x y = false → ltCps y x = false → x = y := by
    intro x
    induction x with
    | nil => intro y h1 h2; cases y with | nil => rfl | cons b y => exact absurd h1 (by simp [ltCps])
    | cons a x ih =>
      intro y h1 h2
      cases y with
      | nil => exact absurd h2 (by simp [ltCps])
      | cons b y =>
        by_cases q : a = b
        · subst q
          simp [ltCps] at h1 h2
          rw [ih y h1 h2]
        · exfalso
          simp [ltCps, q, Ne.symm q] at h1 h2
          omega
  have := key _ _ h1 h2
  cases a; cases b
  simp only [Str.mk.injEq]
  exact Array.toList_inj.mp this
end
end DL
end Part_DV

section Part_DW
set_option Elab.async false
set_option linter.all false
set_option maxRecDepth 100000
set_option autoImplicit false
set_option maxHeartbeats 2000000
namespace DL
open PySem PySem.Spec PyProof.Rows L2 Evl
/-! ### sorted(d) of a written dict -/
theorem rising_pw : ∀ (l : List Str) (p : Str), risingS p l = true → (∀ z : List Nat, True) → (p :: l).Pairwise (fun a b => ltCps b.cps.toList a.cps.toList = false) := by
  have tr : ∀ (a b c : List Nat), ltCps b a = false → ltCps c b = false → ltCps c a = false := by
    intro a
    induction a with
    | nil => intro b c h1 h2; cases b with
      | nil => exact h2
      | cons y b => cases c with
        | nil => exact absurd h2 (by simp [ltCps])
        | cons z c => simp [ltCps]
    | cons x a ih =>
      intro b c h1 h2
      cases b with
      | nil => exact absurd h1 (by simp [ltCps])
      | cons y b =>
        cases c with
        | nil => exact absurd h2 (by simp [ltCps])
        | cons z c =>
          simp only [ltCps, Bool.or_eq_false_iff, Bool.and_eq_false_iff, decide_eq_false_iff_not, beq_eq_false_iff_ne] at h1 h2 ⊢
          refine ⟨by omega, ?_⟩
          by_cases q : z = x
          · right
            subst q
            have e : y = z := by omega
            subst e
            refine ih b c ?_ ?_
            · rcases h1.2 with h | h
              · exact absurd rfl h
              · exact h
            · rcases h2.2 with h | h
              · exact absurd rfl h
              · exact h
          · exact .inl q
  intro l
  induction l with
  | nil => intro p _ _; simp
  | cons x r ih =>
    intro p h _
    have h : (!ltCps x.cps.toList p.cps.toList && risingS x r) = true := h
    rw [Bool.and_eq_true, Bool.not_eq_true'] at h
    have h2 := ih x h.2 fun _ => trivial
    refine List.pairwise_cons.mpr ⟨fun y hy => ?_, h2⟩
    rcases List.mem_cons.mp hy with e | hy
    · rw [e]; exact h.1
    · exact tr _ _ _ h.1 ((List.pairwise_cons.mp h2).1 y hy)
theorem sorted_pw {l : List Str} (h : sortedS l = true) : l.Pairwise (fun a b => ltCps b.cps.toList a.cps.toList = false) := by
  cases l with
  | nil => simp
  | cons x r => exact rising_pw r x h fun _ => trivial
theorem pw_uniq : ∀ {l m : List Str}, l.Perm m → l.Pairwise (fun a b => ltCps b.cps.toList a.cps.toList = false) → m.Pairwise (fun a b => ltCps b.cps.toList a.cps.toList = false) → l = m := by
  intro l m p h1 h2
  induction l generalizing m with
  | nil => exact (List.nil_perm.mp p).symm
  | cons x r ih =>
    cases m with
    | nil => exact absurd p.symm.length_eq (by simp)
    | cons y t =>
      have hx : x = y := by
        have a1 : x ∈ y :: t := p.subset List.mem_cons_self
        have a2 : y ∈ x :: r := p.symm.subset List.mem_cons_self
        rcases List.mem_cons.mp a1 with e | a1
        · exact e
        rcases List.mem_cons.mp a2 with e | a2
        · exact e.symm
        exact lt_irr ((List.pairwise_cons.mp h2).1 x a1) ((List.pairwise_cons.mp h1).1 y a2)
      subst hx
      rw [ih (List.Perm.cons_inv p) (List.pairwise_cons.mp h1).2 (List.pairwise_cons.mp h2).2]
theorem sorted_uniq {l m : List Str} (p : l.Perm m) (h1 : sortedS l = true) (h2 : sortedS m = true) : l = m := pw_uniq p (sorted_pw h1) (sorted_pw h2)
theorem TabR.at_ {α : Type} {RR : Value → α → Prop} {es : List DictEntry} {ps : List (Str × α)} (h : TabR RR es ps) : es.length = ps.length ∧ ∀ (j : Nat) (e : DictEntry), es[j]? = some e → ∃ (x : Str) (t : Tok), (ps.map (·.1))[j]? = some x ∧ e.key = .str x t := by
  induction h with
  | nil => exact ⟨rfl, fun j e h => by simp at h⟩
  | @cons e p es ps t h1 h2 h3 ih =>
    refine ⟨by simp [ih.1], fun j e' h => ?_⟩
    cases j with
    | zero =>
      simp at h
      subst h
      exact ⟨p.1, t, by simp, h1⟩
    | succ j => simpa using ih.2 j e' (by simpa using h)
section
variable {X : Cx} {α : Type} {RR : Value → α → Prop} {t : List (Str × α)}
theorem call_sortedK {a : Addr} {es : Array DictEntry} {n : Nat} (hcalm : X.calm = true) (Dd : KDict X.K X.w a es n) (T : TabR RR es.toList t) (h64 : t.length < 64) : CallR X (.builtin "sorted") (fun xs H Q => xs = [.ref a] ∧
    ∀ ys p, ys.Perm (t.map (·.1)) → sortedS ys = true → H p = none → Q (.ref p) (upd H p (.lst (ys.map V.str)))) := by
  intro pins s σ H xs us Q I r q
  obtain ⟨ex, q⟩ := q
  subst ex
  obtain ⟨u, eu, rx⟩ := vals1 r
  subst eu
  cases rx
  have hat := I.kIn _ _ Dd.at_
  have hl : es.size = t.length := by rw [← Array.length_toList]; exact T.at_.1
  have h16 : es.size ≤ sizeLine := by rw [hl, sizeLine_eq]; omega
  refine Calls.call_function_entry PyProof.Rows.kind_sorted PyProof.Rows.plain_sorted PyProof.Rows.entry_sorted (PyProof.Rows.args_sorted1 _) ?_
  unfold Builtin.«sorted»
  refine wpAny_bind (m := checkCount "sorted" 1 1 _) (wpAny_pure ?_)
  refine wpAny_bind (PySem.W.kdu_collect (A := X.A.in1) (kdl_raw (d := a) Dd.low ⟨rfl, rfl, rfl⟩ rfl) (I.ok.hd hcalm) hat h16 fun h' tk acc hk hacc => ?_)
  have hal : acc.toList.length = (t.map (·.1)).length := by rw [Array.length_toList, hacc.1, hl, List.length_map]
  have hS : StrsAre acc.toList (t.map (·.1)) := strs_at hal fun j v e => by
    obtain ⟨en, e1, e2⟩ := hacc.2 j v (by rw [← Array.getElem?_toList]; exact e)
    obtain ⟨x, tk', g1, g2⟩ := T.at_.2 j en (by rw [Array.getElem?_toList]; exact e1)
    exact ⟨x, tk', g1, by rw [e2, g2]⟩
  have h64 : acc.toList.length < 64 := by rw [hal, List.length_map]; exact h64
  have I1 : Inv X pins σ H { s with heap := h', toks := tk } := I.kept hk
  refine wpAny_bind (wpAny_newList ?_ (by rw [sizeLine_eq]; omega))
  have hoL : (h'.push (seqObj "list" acc.toList.toArray 0)).get? h'.objs.size = some (seqObj "list" acc.toList.toArray 0) := Heap.get?_push_size _ rfl
  show wpAny _ _ _ _ _ { s with heap := h'.push (seqObj "list" acc.toList.toArray 0), toks := tk }
  refine wpAny_bind (wpAny_holding (wpAny_call_entry PyProof.Rows.slot_list_sort ⟨_, hoL, rfl⟩ PyProof.Rows.entry_list_sort
    (list_sort_treeK strKind_oneLt (s := { s with heap := h'.push (seqObj "list" acc.toList.toArray 0), toks := tk }) hoL hS.keysOf (fun v₁ v₂ rest e => keyKind_strs (by rw [← e]; exact hS)) h64 fun st' hp hs => ⟨_, rfl, ?_⟩)
    (PyProof.Rows.args_list_sort _)))
  obtain ⟨ys, g1, g2, g3⟩ := sorted_out_str hS hp hs
  obtain ⟨e', he'⟩ := PyProof.Rows.sortedHeap_at (vs := acc.toList) (out := (arrOf st').map (·.2)) hoL
  have hlen : (ys.map V.str).length ≤ sizeLine := by
    rw [List.length_map, g2.length_eq, ← hal]
    exact Nat.le_trans (Nat.le_of_lt h64) (by decide)
  refine wpAny_pure ⟨_, rfl, .ref h'.objs.size, upd H h'.objs.size (.lst (ys.map V.str)), I1.laid (t' := tk) (fun b u e => ?_) (Nat.le_refl _)
    (show ObjOk X.prog X.w _ _ _ (.lst (ys.map V.str)) from ⟨hlen, ((arrOf st').map (·.2)).toList, e', vals_of_strs g1, by rw [Array.toArray_toList]; exact he'⟩), rfl, q ys _ g2 g3 (I1.hok.fresh (Nat.le_refl _))⟩
  have hb : b < h'.objs.size := Heap.lt_size e
  rw [PyProof.Rows.sortedHeap_old (Nat.ne_of_lt hb) (by rw [size_push']; exact Nat.lt_succ_of_lt hb)]
  exact Heap.get?_push_of_some _ e
end
section
variable {X : Cx} {EC : ECl} {W : WX} {a b c e : Expr} {es : List Expr} {ma mb mc : M D} {mes : M (List D)} {pos p p2 sp_ : Pos} {x y : Str} {α : Type} {RR : Value → α → Prop} {t : List (Str × α)} {td : List (Str × D)}
theorem de_sortK (T : TabX X.K X.w X.mg x RR t) (hc : X.calm = true) (h64 : t.length < 64) (hs : sortedS (t.map (·.1)) = true) (hm : X.mg "sorted" = none) (hg1 : Gl X "sorted" := by rfl) (hg : Gl X x := by rfl) (hdb : (x == ("__debug__" : Str)) = false := by decide)
    (he : starEach [.Name x p2] X.env = (false, eval (.Name x p2) X.env) :: starEach [] X.env := by rfl) :
    DE X EC W (.Call (.Name "sorted" p) [.Name x p2] [] pos) (mC (.list (t.map fun q => .str q.1))) := by
  obtain ⟨ad, es, n, hmx, Dd, TT⟩ := T.ex
  refine ⟨_, pe_callB (call_sortedK hc Dd TT h64) hg1 hm (by decide +kernel) (pa_cons (pe_glob (v := .ref ad) hg hmx rfl hdb) pa_nil he) (by decide) (by decide) he (by rfl), fun C0 H0 B C H σ δ Q S h => ⟨rfl, fun ys p' g1 g2 g3 => ?_⟩⟩
  have e1 := sorted_uniq g1 g2 hs
  subst e1
  refine h (.ref p') _ _ (Ex.new (free_of S.ch g3)) (S.new g3) (.lst (SqL.of upd_same) ?_)
  have : ∀ l : List (Str × α), DqAll X.K (upd C p' (.lst ((t.map (·.1)).map V.str))) ((l.map (·.1)).map V.str) (l.map fun q => .str q.1) := fun l => by
    induction l with
    | nil => exact .nil
    | cons q r ih => exact .cons (.str _) ih
  exact this t

/-! ### calls with a star -/
theorem pe_starCall {f : Addr} {fd : FuncData} {ps : List Str} {k : Nat} {sp : Sp} {te : TE} {s : Shared} {pins : List (Addr × Obj)} {σ : L2.St} {H : Hp} {Q : VK} (F : FnOk X.prog X.w X.K X.mg X.base CX0 k f fd ps sp) (hr : Room k X.A) (hk : PySem.W.keepIn X.K (.ref f) = true) (hb : Binds X.K fd ps []) (he : PE X e te) (I : Inv X pins σ H s)
    (ht : te σ H fun y H1 => ∃ a xs, y = V.ref a ∧ (SqT X.K H1 a xs ∨ SqL X.K H1 a xs) ∧ sp xs H1 Q (fun _ _ _ => False)) (hst : starEach [.Starred e sp_] X.env = [(true, eval e X.env)]) :
    wpAny (model X.prog X.w) X.A (callWith pos (.ref f) [] (backTo pos (starEach [.Starred e sp_] X.env)) []) (EP X pins σ Q) X.xe s := by
  refine PySem.W.callWith_S (h₀ := X.base) I.ok.mod.kin hk (thn (he.run pins s σ _ _ I ht) fun v s2 ⟨y, H1, I2, ry, a, xs, ey, hxs, q⟩ => ?_) hst
  subst ey
  obtain rfl : v = Value.ref a := ry
  refine StX.star_any I2 hxs fun us s3 I3 rv => ⟨I3.kIn, ?_⟩
  have z := run_fn (dvs := []) (ds := []) (E := fun _ _ _ => False) F hr hb .nil pass0 I3 rv (by rw [List.append_nil]; exact q)
  exact z
/-- the mirror of a call of mf with all of a list's or a tuple's items -/
def starD (n : Nat) (mf : List D → R D) : D → Option D := fun d =>
  match (match d with | .list xs => some xs | .tuple xs => some xs | _ => none) with
  | some xs => if xs.length = n then (match mf xs with | .ok z _ => some z | _ => none) else none
  | none => none
theorem star_read {K : PySem.W.Frag} {n : Nat} {mf : List D → R D} {C0 H0 C H : Hp} {B : List (Nat × Addr)} {σ : L2.St} {δ : Dl} {Q : VK} {v : V} {d z : D} (S : SR K C0 H0 B C H σ δ) (hd : Dq K C v d) (hz : starD n mf d = some z) (q : PKe K C0 H0 B C σ Q z δ) :
    ∃ a xs, v = V.ref a ∧ (SqT K H a xs ∨ SqL K H a xs) ∧ SpP K n mf xs H Q (fun _ _ _ => False) := by
  have fin : ∀ {vs : List V} {ds : List D}, DqAll K C vs ds → (if ds.length = n then (match mf ds with | .ok z _ => some z | _ => none) else none) = some z → SpP K n mf vs H Q (fun _ _ _ => False) := by
    intro vs ds ha hz
    split at hz
    · rename_i hl
      refine ⟨C, ds, S.ch, ha, by rw [dpa_len ha]; exact hl, ?_⟩
      split at hz
      · rename_i z' δ' hm
        cases hz
        rw [hm]
        intro v C2 H2 e2 e3 e4 n2 dv
        exact q v C2 H2 e2 (S.step e2 e3 e4 n2) dv
      · cases hz
    · cases hz
  unfold starD at hz
  cases hd with
  | lst h1 h2 => exact ⟨_, _, rfl, .inr (ex_l S.ch h1), fin h2 hz⟩
  | tup h1 h2 => exact ⟨_, _, rfl, .inl (ex_t S.ch h1), fin h2 hz⟩
  | _ => cases hz
/-- x(*e), x a def of the module -/
theorem de_callSt {k n : Nat} {mf : List D → R D} (F : FnX X.prog X.w X.K X.mg X.base k x n mf) (hr : Room k X.A) (ha : DE X EC W a ma) (hg : Gl X x := by rfl) (hdb : (x == ("__debug__" : Str)) = false := by decide)
    (hst : starEach [.Starred a sp_] X.env = [(true, eval a X.env)] := by rfl) : DE X EC W (.Call (.Name x p) [.Starred a sp_] [] pos) (mUn (starD n mf) ma) := by
  obtain ⟨f, fd, ps, F, hm, hk, hb⟩ := F.ex
  obtain ⟨ta, pa, ra⟩ := ha.ex
  refine ⟨fun σ H Q => ta σ H fun y H1 => ∃ a xs, y = V.ref a ∧ (SqT X.K H1 a xs ∨ SqL X.K H1 a xs) ∧ SpP X.K n mf xs H1 Q (fun _ _ _ => False), ⟨fun pins s σ H Q I h => wpAny_Call_Name_kw (ld_glob I hg hm (pe_starCall F hr hk hb pa I h hst) hdb)⟩,
    fun C0 H0 B C H σ δ Q S h => ra C0 H0 B C H σ δ _ S (RP.imp (RP.bind h) (fun x δ1 h1 v C1 H1 e1 S1 d1 => ?_) fun c d δ h => h)⟩
  obtain ⟨z, hz, q⟩ := RP.lift h1
  exact star_read S1 d1 hz (PKe.mono e1 _ _ q)

/-! ### a def out of one of three written dicts, called -/
/-- act: by the def's name in the module -/
def mDisp {α : Type} (get : Str → Option α) (act : α → Option (Nat × (List D → R D))) (i v : Nat) : M Fl := fun δ => match δ[i]?, δ[v]? with
  | some (.val (.str z)), some (.val d) => (match (get z).bind act with
    | some (n, mf) => (match starD n mf d with
      | some r => .ok (.rt r) δ
      | none => .no)
    | none => .no)
  | _, _ => .no
def mDispJ {α : Type} (get : Str → Option α) (act : α → Option (Nat × (List D → R D))) (i v j : Nat) : M Fl := fun δ => match δ[j]? with
  | some .non => mDisp get act i v δ
  | _ => .no
abbrev NmR (mg : Str → Option Value) : Value → Str → Prop := fun u py => mg py = some u
theorem SR.free {K : PySem.W.Frag} {C0 H0 C H : Hp} {B : List (Nat × Addr)} {σ : L2.St} {δ : Dl} {j : Nat} {v : V} (S : SR K C0 H0 B C H σ δ) (hj : δ[j]? = some .non) : SR K C0 H0 B C H (σ.set j (some v)) δ := by
  have hl : j < δ.length := (List.getElem?_eq_some_iff.mp hj).1
  have z := S.setC (c := .non) (v := v) hl (fun ds q => by rw [hj] at q; cases q) (fun d q => by cases q) (fun b ds q => by cases q)
  have e : δ.set j .non = δ := by
    apply List.ext_getElem?
    intro i
    by_cases q : j = i
    · subst q; rw [List.getElem?_set_self hl, hj]
    · rw [List.getElem?_set_ne q]
  rw [e] at z
  exact z
theorem pe_callLS {k j : Nat} {te : TE} (hr : Room k X.A) (hN : X.N[j]? = some x) (hv : Vis X.env.scope x) (he : PE X e te) (hdb : (x == ("__debug__" : Str)) = false := by decide) (hcd : (x == ("__classdict__" : Str)) = false := by decide)
    (hst : starEach [.Starred e sp_] X.env = [(true, eval e X.env)] := by rfl) :
    PE X (.Call (.Name x p) [.Starred e sp_] [] pos) (fun σ H Q => ∃ f sp, σ[j]? = some (some (.ref f)) ∧ Held X.prog X.w X.K X.mg X.base k f sp ∧ te σ H fun y H1 => ∃ a xs, y = V.ref a ∧ (SqT X.K H1 a xs ∨ SqL X.K H1 a xs) ∧ sp xs H1 Q (fun _ _ _ => False)) := by
  refine ⟨fun pins s σ H Q I h => ?_⟩
  obtain ⟨f, sp, hs, hH, ht⟩ := h
  obtain ⟨fd, ps, F, hk, hb⟩ := hH.ex
  refine wpAny_Call_Name_kw (thn ((pe_var (pos := p) hN hv hdb hcd).run pins s σ H (fun v H1 => v = .ref f ∧ H1 = H) I ⟨.ref f, hs, rfl, rfl⟩) fun u s1 ⟨v, H1, I1, r1, q1⟩ => ?_)
  obtain ⟨rfl, rfl⟩ := q1
  cases r1
  exact pe_starCall F hr hk hb he I1 ht hst
/-- if z in D1: act = D1[z] elif z in D2: act = D2[z] else: act = D3[z]; return act(*vs) -/
theorem dss_disp {i v j k : Nat} {z vs act d1 d2 d3 : Str} {t1 t2 t3 : List (Str × Str)} {act' : Str → Option (Nat × (List D → R D))} {q1 q2 q3 q4 q5 q6 q7 q8 q9 q10 q11 q12 q13 q14 q15 q16 q17 q18 q19 q20 q21 q22 q23 q24 q25 : Pos}
    (T1 : TabX X.K X.w X.mg d1 (NmR X.mg) t1) (T2 : TabX X.K X.w X.mg d2 (NmR X.mg) t2) (T3 : TabX X.K X.w X.mg d3 (NmR X.mg) t3)
    (hA : ∀ py n mf, act' py = some (n, mf) → FnX X.prog X.w X.K X.mg X.base k py n mf) (hr : Room k X.A) (hnd : X.N.Nodup)
    (hi : X.N[i]? = some z := by rfl) (hv : X.N[v]? = some vs := by rfl) (hj : X.N[j]? = some act := by rfl)
    (vz : Vis X.env.scope z := by exact Or.inl rfl) (vv : Vis X.env.scope vs := by exact Or.inl rfl) (va : Vis X.env.scope act := by exact Or.inl rfl) (la : Loc X.env.scope act := by exact Or.inl rfl)
    (g1 : Gl X d1 := by rfl) (g2 : Gl X d2 := by rfl) (g3 : Gl X d3 := by rfl)
    (b1 : (d1 == ("__debug__" : Str)) = false := by decide) (b2 : (d2 == ("__debug__" : Str)) = false := by decide) (b3 : (d3 == ("__debug__" : Str)) = false := by decide) (b4 : (z == ("__debug__" : Str)) = false := by decide) (b5 : (z == ("__classdict__" : Str)) = false := by decide)
    (b6 : (vs == ("__debug__" : Str)) = false := by decide) (b7 : (vs == ("__classdict__" : Str)) = false := by decide) (b8 : (act == ("__debug__" : Str)) = false := by decide) (b9 : (act == ("__classdict__" : Str)) = false := by decide)
    (hf : X.fn act = true ∨ X.env.scope.names.lookup act = some .local := by first | exact .inl rfl | exact .inr rfl)
    (s1 : swapsWith (.Subscript (.Name d1 q3) (.Name z q4) q5) (some (.Name act q6)) q7.line X.env = pure false := by rfl)
    (s2 : swapsWith (.Subscript (.Name d2 q11) (.Name z q12) q13) (some (.Name act q14)) q15.line X.env = pure false := by rfl)
    (s3 : swapsWith (.Subscript (.Name d3 q16) (.Name z q17) q18) (some (.Name act q19)) q20.line X.env = pure false := by rfl)
    (hst : starEach [.Starred (.Name vs q22) q23] X.env = [(true, eval (.Name vs q22) X.env)] := by rfl) :
    DSs X EC W [.If (.Compare (.Name z q1) [.In] [.Name d1 q2] p) [.Assign [.Name act q6] (.Subscript (.Name d1 q3) (.Name z q4) q5) q7]
        [.If (.Compare (.Name z q8) [.In] [.Name d2 q9] q10) [.Assign [.Name act q14] (.Subscript (.Name d2 q11) (.Name z q12) q13) q15] [.Assign [.Name act q19] (.Subscript (.Name d3 q16) (.Name z q17) q18) q20] q24] pos,
      .Return (some (.Call (.Name act q21) [.Starred (.Name vs q22) q23] [] q25)) p2] (mDispJ (fun z => (getT t1 z).or ((getT t2 z).or (getT t3 z))) act' i v j) := by
  obtain ⟨a1, e1, n1, m1, D1, R1⟩ := T1.ex
  obtain ⟨a2, e2, n2, m2, D2, R2⟩ := T2.ex
  obtain ⟨a3, e3, n3, m3, D3, R3⟩ := T3.ex
  have pz : ∀ q : Pos, PE X (.Name z q) (tVar i) := fun q => pe_var hi vz b4 b5
  have pv : ∀ q : Pos, PE X (.Name vs q) (tVar v) := fun q => pe_var hv vv b6 b7
  have G1 : ∀ q : Pos, PE X (.Name d1 q) (tC (.ref a1)) := fun q => pe_glob g1 m1 rfl b1
  have G2 : ∀ q : Pos, PE X (.Name d2 q) (tC (.ref a2)) := fun q => pe_glob g2 m2 rfl b2
  have G3 : ∀ q : Pos, PE X (.Name d3 q) (tC (.ref a3)) := fun q => pe_glob g3 m3 rfl b3
  refine ⟨_, pss_cons (ps_if (pt_cmpR (op_in_kd D1) (pz q1) (G1 q2) rfl) (pss_one (ps_set hnd hj la (pe_ix ix_kdict (G1 q3) (pz q4) (by intro _ _; rfl)) s1 hf))
    (pss_one (ps_if (pt_cmpR (op_in_kd D2) (pz q8) (G2 q9) rfl) (pss_one (ps_set hnd hj la (pe_ix ix_kdict (G2 q11) (pz q12) (by intro _ _; rfl)) s2 hf))
      (pss_one (ps_set hnd hj la (pe_ix ix_kdict (G3 q16) (pz q17) (by intro _ _; rfl)) s3 hf)))))
    (pss_one (ps_ret (pe_callLS (p := q21) (pos := q25) (sp_ := q23) hr hj va (pv q22) b8 b9 hst))), fun C0 H0 B C H σ δ N S h => ?_⟩
  have h0 : δ[j]? = some .non ∧ RP (mDisp (fun z => (getT t1 z).or ((getT t2 z).or (getT t3 z))) act' i v δ) (PKs X.K C0 H0 B C N) (PXs X.K EC W C0 H0 B C) := by
    unfold mDispJ at h
    split at h
    · rename_i hq
      exact ⟨hq, h⟩
    · exact h.elim
  obtain ⟨hjn, h⟩ := h0
  unfold mDisp at h
  split at h
  case h_2 => exact h.elim
  rename_i zz dd hz hd
  split at h
  case h_2 => exact h.elim
  rename_i n mf hget
  split at h
  case h_2 => exact h.elim
  rename_i r hr'
  obtain ⟨vz', hz1, hz2⟩ := S.val i _ hz
  cases hz2
  obtain ⟨vd, hd1, hd2⟩ := S.val v _ hd
  have hij : i ≠ j := fun q => by rw [q, hjn] at hz; cases hz
  have hvj : v ≠ j := fun q => by rw [q, hjn] at hd; cases hd
  have hlj : j < σ.length := by rw [S.len]; exact (List.getElem?_eq_some_iff.mp hjn).1
  -- behind the choice
  have tail : ∀ (f : Addr) (py : Str), X.mg py = some (.ref f) → act' py = some (n, mf) →
      ∃ (f' : Addr) (sp : Sp), (σ.set j (some (.ref f)))[j]? = some (some (.ref f')) ∧ Held X.prog X.w X.K X.mg X.base k f' sp ∧ tVar v (σ.set j (some (.ref f))) H fun y H1 => ∃ a xs, y = V.ref a ∧ (SqT X.K H1 a xs ∨ SqL X.K H1 a xs) ∧ sp xs H1 (fun v H => N.rt v H) (fun _ _ _ => False) := by
    intro f py hm hp
    obtain ⟨f', fd, ps, F, hm', hk, hb⟩ := (hA py n mf hp).ex
    rw [hm] at hm'
    cases hm'
    refine ⟨f, SpP X.K n mf, List.getElem?_set_self hlj, ⟨fd, ps, F, hk, hb⟩, vd, by rw [List.getElem?_set_ne (Ne.symm hvj)]; exact hd1, ?_⟩
    exact star_read (S.free (v := .ref f) hjn) hd2 hr' fun u C2 H2 e2 S2 du => h _ C2 H2 e2 S2 u du
  have fin : ∀ {a : Addr} {e : Array DictEntry} {m : Nat} {t : List (Str × Str)} (D : KDict X.K X.w a e m) (T : TabR (NmR X.mg) e.toList t) (py : Str), getT t zz = some py → act' py = some (n, mf) →
      ∃ (f : Addr), (∃ u, PySem.W.nsIn X.K a zz = some (some u) ∧ RelV (.ref f) u) ∧ X.mg py = some (.ref f) := by
    intro a e m t D T py hg hp
    obtain ⟨f', fd, ps, F, hm', hk, hb⟩ := (hA py n mf hp).ex
    rcases tab_ns D T zz with ⟨u, d, g1, g2, g3⟩ | ⟨g1, g2⟩
    · rw [hg] at g2
      cases g2
      have g3 : X.mg py = some u := g3
      rw [hm'] at g3
      cases g3
      exact ⟨f', ⟨_, g1, rfl⟩, hm'⟩
    · rw [hg] at g2
      cases g2
  have no : ∀ {a : Addr} {e : Array DictEntry} {m : Nat} {t : List (Str × Str)} (D : KDict X.K X.w a e m) (T : TabR (NmR X.mg) e.toList t), getT t zz = none → PySem.W.nsIn X.K a zz = some none := by
    intro a e m t D T hg
    rcases tab_ns D T zz with ⟨u, d, g1, g2, g3⟩ | ⟨g1, g2⟩
    · rw [hg] at g2; cases g2
    · exact g1
  have hget : ((getT t1 zz).or ((getT t2 zz).or (getT t3 zz))).bind act' = some (n, mf) := hget
  cases hg1 : getT t1 zz with
  | some py =>
    rw [hg1] at hget
    have hp : act' py = some (n, mf) := hget
    obtain ⟨f, ⟨u, u1, u2⟩, hm⟩ := fin D1 R1 py hg1 hp
    exact ⟨.str zz, hz1, zz, some u, rfl, rfl, u1, true, rfl, ⟨.str zz, hz1, a1, zz, .ref f, rfl, rfl, ⟨e1, n1, u, D1.at_, D1.lit, u1, u2⟩, tail f py hm hp⟩⟩
  | none =>
    rw [hg1] at hget
    refine ⟨.str zz, hz1, zz, none, rfl, rfl, no D1 R1 hg1, false, rfl, ?_⟩
    cases hg2 : getT t2 zz with
    | some py =>
      rw [hg2] at hget
      have hp : act' py = some (n, mf) := hget
      obtain ⟨f, ⟨u, u1, u2⟩, hm⟩ := fin D2 R2 py hg2 hp
      exact ⟨.str zz, hz1, zz, some u, rfl, rfl, u1, true, rfl, ⟨.str zz, hz1, a2, zz, .ref f, rfl, rfl, ⟨e2, n2, u, D2.at_, D2.lit, u1, u2⟩, tail f py hm hp⟩⟩
    | none =>
      rw [hg2] at hget
      refine ⟨.str zz, hz1, zz, none, rfl, rfl, no D2 R2 hg2, false, rfl, ?_⟩
      cases hg3 : getT t3 zz with
      | some py =>
        rw [hg3] at hget
        have hp : act' py = some (n, mf) := hget
        obtain ⟨f, ⟨u, u1, u2⟩, hm⟩ := fin D3 R3 py hg3 hp
        exact ⟨.str zz, hz1, a3, zz, .ref f, rfl, rfl, ⟨e3, n3, u, D3.at_, D3.lit, u1, u2⟩, tail f py hm hp⟩
      | none =>
        rw [hg3] at hget
        cases hget

/-! ### x in xs, items of any depth -/
def dInG : D → D → Option D
  | x, .list ds => if SeqAt.shaped x && (SeqAt.shaped (.list ds) && decide (x.depth ≤ 60)) then some (.bool (ds.any fun z => PyData.eqv z x)) else none
  | x, .tuple ds => if SeqAt.shaped x && (SeqAt.shaped (.tuple ds) && decide (x.depth ≤ 60)) then some (.bool (ds.any fun z => PyData.eqv z x)) else none
  | _, _ => none
def rInG (K : PySem.W.Frag) (neg : Bool) : R2 := fun x y H Q => ∃ d ds, Dp K H x d ∧ (Dp K H y (.list ds) ∨ Dp K H y (.tuple ds)) ∧ SeqAt.shaped d = true ∧ (SeqAt.shaped (.list ds) = true ∨ SeqAt.shaped (.tuple ds) = true) ∧ d.depth ≤ 60 ∧ Q (.bl (if neg then !ds.any fun z => PyData.eqv z d else ds.any fun z => PyData.eqv z d)) H
theorem shaped_all {ds : List D} (h : SeqAt.shaped (.list ds) = true ∨ SeqAt.shaped (.tuple ds) = true) : PyData.canLayAll0 ds = true := by
  rcases h with h | h
  · exact SeqAt.canLay_of_shaped h
  · exact SeqAt.canLay_of_shaped h
theorem op_inG (hu : X.A.units + 64 < cLine) : OpR X (compareOp .In) (rInG X.K false) := by
  intro pins s σ H x y v u Q I rx ry h
  obtain ⟨d, ds, hd, he, sd, se, hdp, q⟩ := h
  obtain ⟨as, r1⟩ := Dp.reads I d x v hd rx
  have hroom : X.A.units + 1 + min (PyData.depthAll ds) d.depth < cLine := by
    have := Nat.min_le_right (PyData.depthAll ds) d.depth
    omega
  rcases he with he | he
  · obtain ⟨bs, r2⟩ := Dp.reads I (.list ds) y u he ry
    exact SeqAt.in_list_reads r2 r1 (shaped_all se) (SeqAt.canLay_of_shaped sd) hroom ⟨.bl _, H, I, rfl, q⟩
  · obtain ⟨bs, r2⟩ := Dp.reads I (.tuple ds) y u he ry
    exact SeqAt.in_tuple_reads r2 r1 (shaped_all se) (SeqAt.canLay_of_shaped sd) hroom ⟨.bl _, H, I, rfl, q⟩
theorem ro_inG {K : PySem.W.Frag} : RO K (rInG K false) dInG := by
  intro x y z hz v w C H Q e hv hw q
  unfold dInG at hz
  split at hz
  · split at hz
    · rename_i hc
      rw [Bool.and_eq_true, Bool.and_eq_true] at hc
      cases hz
      exact ⟨x, _, dq_dp _ _ (dp_ex e _ _ hv), .inl (dq_dp _ _ (dp_ex e _ _ hw)), hc.1, .inl hc.2.1, of_decide_eq_true hc.2.2, q.1 _ (.bl _)⟩
    · cases hz
  · split at hz
    · rename_i hc
      rw [Bool.and_eq_true, Bool.and_eq_true] at hc
      cases hz
      exact ⟨x, _, dq_dp _ _ (dp_ex e _ _ hv), .inr (dq_dp _ _ (dp_ex e _ _ hw)), hc.1, .inr hc.2.1, of_decide_eq_true hc.2.2, q.1 _ (.bl _)⟩
    · cases hz
  · cases hz

/-! ### zip of two lists, of two tuples -/
theorem walk_zipTt {K : PySem.W.Frag} {a b : Addr} {xs ys : List V} {n : Nat} (hn : n = min xs.length ys.length) : Walk (RZ.ItzT K a b) n (fun H => SqT K H a xs ∧ SqT K H b ys) (YPair (fun i => xs[i]?) (fun i => ys[i]?)) := by
  subst hn
  refine ⟨fun i _ hi q => ?_, fun _ q => ⟨xs, ys, q.1, q.2, by omega⟩, fun i H v H' _ q y => ?_⟩
  · have h1 : i < xs.length := by omega
    have h2 : i < ys.length := by omega
    exact ⟨xs, ys, xs[i], ys[i], q.1, q.2, by simp [h1], by simp [h2]⟩
  · obtain ⟨T, x, z, h1, h2, h3, h4, h5⟩ := y
    exact ⟨T, x, z, h1, h2, h3, h4 xs q.1, h5 ys q.2⟩
def zipD (xs ys : List D) : List D := (xs.zip ys).map fun q => .tuple [q.1, q.2]
theorem zip_at {xs ys : List D} {i : Nat} {d : D} (h : (zipD xs ys)[i]? = some d) : ∃ x y, xs[i]? = some x ∧ ys[i]? = some y ∧ d = .tuple [x, y] := by
  unfold zipD at h
  rw [List.getElem?_map] at h
  cases q : (xs.zip ys)[i]? with
  | none => rw [q] at h; cases h
  | some z =>
    rw [q] at h
    cases h
    obtain ⟨h1, h2⟩ := List.getElem?_zip_eq_some.mp q
    exact ⟨z.1, z.2, h1, h2, rfl⟩
theorem zip_len {xs ys : List D} : (zipD xs ys).length = min xs.length ys.length := by
  unfold zipD
  rw [List.length_map, List.length_zip]
theorem it_pair {K : PySem.W.Frag} {C : Hp} {J : It} {n : Nat} {G : Hp → Prop} {xs ys : List V} {ds es : List D} (w : Walk J n G (YPair (fun i => xs[i]?) (fun i => ys[i]?))) (hn : n = (zipD ds es).length) (hG : ∀ H, Ex C H → G H) (h1 : DqAll K C xs ds) (h2 : DqAll K C ys es) : ItOk K C J (zipD ds es) := by
  subst hn
  refine ⟨G, _, w, hG, fun i d hi C2 H x H' Q e1 e2 y q => ?_⟩
  obtain ⟨T, a, b, hx, hT, hH, ha, hb⟩ := y
  subst hx hH
  obtain ⟨u, v, hu, hv, rfl⟩ := zip_at hi
  obtain ⟨u', hu', du⟩ := dpa_get' h1 ha
  obtain ⟨v', hv', dv⟩ := dpa_get' h2 hb
  rw [hu] at hu'
  rw [hv] at hv'
  cases hu'
  cases hv'
  have hC : C2 T = none := free_of e2 hT
  refine q.2 T _ hT (.tup (SqT.of upd_same) ?_)
  have e3 : Ex C (upd C2 T (.tup [a, b])) := e1.trans (Ex.new hC)
  exact .cons (dp_ex e3 _ _ du) (.cons (dp_ex e3 _ _ dv) .nil)
def dZip : List D → Option (List D)
  | [.list xs, .list ys] => some (zipD xs ys)
  | [.tuple xs, .tuple ys] => some (zipD xs ys)
  | _ => none
def mZip (a b : M D) : M (List D) := fun δ => (a δ).bind fun x δ => (b δ).bind fun y δ => R.lift (dZip [x, y]) δ
theorem di_zip {elts : List Expr} {kk : Nat} {tpos : Pos} (hg : Gl X "zip") (hm : X.mg "zip" = none) (h : DE X EC W a ma) (h2 : DE X EC W b mb) (hs' : starEach (a :: [b]) X.env = (false, eval a X.env) :: starEach [b] X.env := by rfl) (hs3 : starEach (b :: []) X.env = (false, eval b X.env) :: starEach [] X.env := by rfl) (hpl : (backTo pos (starEach [b] X.env)).any (·.1) = false := by rfl) :
    DI X EC W (.Tuple elts kk tpos) (.Call (.Name "zip" p) [a, b] [] pos) (mZip ma mb) := by
  obtain ⟨te, pe, re⟩ := h.ex
  obtain ⟨tb, pb, rb⟩ := h2.ex
  refine ⟨_, RZ.pi_zipA hg hm (pa_cons pe (pa_cons pb pa_nil hs3) hs') hs' hpl, fun C0 H0 B C H σ δ RR S h => re C0 H0 B C H σ δ _ S (RP.imp (RP.bind h) (fun x δ1 h1 v C1 H1 e1 S1 d1 => ?_) fun c d δ h => h)⟩
  refine rb C0 H0 B C1 H1 σ δ1 _ S1 (RP.imp (RP.bind h1) (fun y δ2 h2 w C2 H2 e2 S2 d2 => ?_) (PXe.mono e1))
  obtain ⟨items, hi, q⟩ := RP.lift h2
  have d1 := dp_ex e2 _ _ d1
  unfold dZip at hi
  split at hi
  · rename_i hq
    cases hq
    cases hi
    cases d1 with
    | lst l1 a1 =>
      cases d2 with
      | lst l2 a2 =>
        refine ⟨_, _, _, _, rfl, .inl ⟨ex_l S2.ch l1, ex_l S2.ch l2, q _ C2 H2 (e1.trans e2) S2 (it_pair (walk_zip rfl) ?_ (fun H e => ⟨ex_l e l1, ex_l e l2⟩) a1 a2)⟩⟩
        rw [zip_len, dpa_len a1, dpa_len a2]
  · rename_i hq
    cases hq
    cases hi
    cases d1 with
    | tup l1 a1 =>
      cases d2 with
      | tup l2 a2 =>
        refine ⟨_, _, _, _, rfl, .inr ⟨ex_t S2.ch l1, ex_t S2.ch l2, q _ C2 H2 (e1.trans e2) S2 (it_pair (walk_zipTt rfl) ?_ (fun H e => ⟨ex_t e l1, ex_t e l2⟩) a1 a2)⟩⟩
        rw [zip_len, dpa_len a1, dpa_len a2]
  · cases hi
end

/-! ### f'text{par}', par a text -/
def TStr : V → Prop := fun v => ∃ z : Str, v = .str z ∧ z.length ≤ 1000000
def tStr : D → Bool
  | .str z => decide (z.length ≤ 1000000)
  | _ => false
theorem tStr_ok {K : PySem.W.Frag} : ∀ C v d, Dq K C v d → tStr d = true → TStr v := by
  intro C v d h q
  cases h <;> first | (cases q; done) | skip
  rename_i z
  exact ⟨z, rfl, of_decide_eq_true q⟩
theorem fstr_heS {m par : Str} {j : Nat} {p q r s : Pos} (hm : m.length ≤ 1000) (X : Cx) (hN : X.N = [("self" : Str), par, "__class__"]) (hv : Vis X.env.scope par) (pd1 : (par == ("__debug__" : Str)) = false) (pd2 : (par == ("__classdict__" : Str)) = false) :
    ∃ te, PE X (.JoinedStr [.Constant (.str m) j p, .FormattedValue (.Name par q) (-1) none r] s) te ∧ ∀ (a : Addr) (y : V) H Q, TStr y → (∀ v, Q v H) → te [some (.ref a), some y, none] H Q := by
  refine ⟨_, pe_joined (.cons pe_str (.cons (pe_fmt (pe_var (i := 1) (by rw [hN] <;> rfl) hv pd1 pd2)) .nil)), fun a y H Q hy h => ?_⟩
  obtain ⟨z, rfl, hz⟩ := hy
  have ln : ∀ a b : Str, (a ++ b).length = a.length + b.length := fun a b => by
    show (a.cps ++ b.cps).size = _
    rw [Array.size_append]
    rfl
  refine ⟨m, rfl, ?_, .str z, rfl, .inl ⟨z, rfl, by rw [sizeLine_eq]; omega, _, rfl, ?_, h _⟩⟩
  · rw [ln, sizeLine_eq]
    show 0 + _ ≤ _
    omega
  · rw [ln, ln, sizeLine_eq]
    show 0 + _ + _ ≤ _
    omega
end DL
namespace DL
open PySem PySem.Spec PyProof.Rows L2 Evl
def AllFn (P : Program) (w : World) (K : PySem.W.Frag) (mg : Str → Option Value) (base : Heap) (k : Nat) : List (Str × (Nat × (List D → R D))) → Prop
  | [] => True
  | e :: r => FnX P w K mg base k e.1 e.2.1 e.2.2 ∧ AllFn P w K mg base k r
theorem acts_ok {P : Program} {w : World} {K : PySem.W.Frag} {mg : Str → Option Value} {base : Heap} {k : Nat} : ∀ {acts : List (Str × (Nat × (List D → R D)))}, AllFn P w K mg base k acts → ∀ py n mf, getT acts py = some (n, mf) → FnX P w K mg base k py n mf
  | [], _, py, n, mf, h => by cases h
  | e :: r, h, py, n, mf, hg => by
    by_cases q : (e.1 == py) = true
    · have hg : ((e :: r).find? fun p => p.1 == py).map (·.2) = some (n, mf) := hg
      rw [List.find?_cons, q] at hg
      have h2 : e.2 = (n, mf) := by simpa using hg
      have h1 := h.1
      rw [h2] at h1
      rw [← eq_of_beq q]
      exact h1
    · refine acts_ok h.2 py n mf ?_
      have hg : ((e :: r).find? fun p => p.1 == py).map (·.2) = some (n, mf) := hg
      rw [List.find?_cons] at hg
      have q' : (e.1 == py) = false := by simpa using q
      rw [q'] at hg
      exact hg
end DL
end Part_DW

section Part_DU
set_option Elab.async false
set_option linter.all false
set_option maxRecDepth 100000
set_option autoImplicit false
set_option maxHeartbeats 2000000
namespace DL
open PySem PySem.Spec PyProof.Rows L2 Evl
/-! ### [::-1] -/
section
variable {prog : Program} {w : World} {A : Around} {E : Value → Shared → Prop} {s : Shared}
theorem rev_places (n : Nat) : Builtin.Slice.slicePlaces ((n : Int) - 1) (-1) (-1) = n := by
  unfold Builtin.Slice.slicePlaces
  have h1 : ¬ ((-1 : Int) > 0) := by decide
  have h2 : (- -1 : Int) = 1 := rfl
  simp only [h1, if_false, h2, Int.ediv_one]
  split <;> omega
theorem rev_adjust (n : Nat) : Builtin.Slice.sliceAdjust none none (-1) (n : Int) = ((n : Int) - 1, -1) := by
  unfold Builtin.Slice.sliceAdjust
  have h1 : ((-1 : Int) < 0) := by decide
  simp only [h1, if_true]
theorem rev_applied {sl : Addr} {vs : Value} {n : Nat} {Q : Int × Int × Nat → Shared → Prop} (hs : s.heap.IsSliceOf sl .none .none vs) (ps : IsPart vs (some (-1))) (h : Q ((n : Int) - 1, -1, n) s) : wpAny (model prog w) A (Builtin.Slice.sliceApplied (.ref sl) (pure (n : Int))) Q E s := by
  obtain ⟨os, hos, hcs, hds⟩ := id hs
  cases ps with
  | int _ t =>
  unfold Builtin.Slice.sliceApplied Builtin.Slice.sliceFields
  refine wpAny_bind (wpAny_bind (wpAny_field hos hds (x := .none) rfl (wpAny_bind (wpAny_field hos hds (x := .none) rfl (wpAny_bind (wpAny_field hos hds (x := .int (-1) t) rfl (wpAny_pure ?_)))))))
  refine wpAny_bind (slicePart_int ?_)
  show wpAny _ _ (if ((-1 : Int) == 0) = true then _ else _) _ _ s
  rw [if_neg (by decide)]
  refine wpAny_bind (slicePart_none (wpAny_bind (slicePart_none (wpAny_bind (wpAny_pure ?_)))))
  show wpAny _ _ (match Builtin.Slice.sliceAdjust none none (-1) (n : Int) with | (lo, hi) => pure (lo, (-1 : Int), Builtin.Slice.slicePlaces lo hi (-1))) _ _ s
  rw [rev_adjust n]
  show wpAny _ _ (pure ((n : Int) - 1, (-1 : Int), Builtin.Slice.slicePlaces ((n : Int) - 1) (-1) (-1))) _ _ s
  rw [rev_places]
  exact wpAny_pure h
theorem rev_pick (xs : Array Value) : ((List.range xs.size).filterMap fun (m : Nat) => xs[(((xs.size : Int) - 1) + (m : Int) * (-1)).toNat]?).toArray = xs.toList.reverse.toArray := by
  have e : (fun (m : Nat) => xs[(((xs.size : Int) - 1) + (m : Int) * (-1)).toNat]?) = (fun x => xs[x]?) ∘ fun m => xs.size - 1 - m := by
    funext m
    have h1 : (((xs.size : Int) - 1) + (m : Int) * (-1)).toNat = xs.size - 1 - m := by omega
    rw [h1]
    rfl
  rw [e, ← List.filterMap_map, PySem.W.krv_range, List.filterMap_reverse, PySem.W.krv_all]
theorem getItem_tuple_rev {t sl : Addr} {items : Array Value} {vs : Value} {Q : Value → Shared → Prop} (ht : IsTup s.heap t items) (hs : s.heap.IsSliceOf sl .none .none vs) (ps : IsPart vs (some (-1)))
    (h : Q (.ref s.heap.objs.size) { s with heap := s.heap.push { cls := .type "tuple", data := .seq items.toList.reverse.toArray } }) (hsz : items.size ≤ sizeLine) : wpAny (model prog w) A (getItem (.ref t) (.ref sl)) Q E s := by
  have htake : sizeOk (.seq items.toList.reverse.toArray) := by
    show items.toList.reverse.toArray.size ≤ sizeLine
    rw [List.size_toArray, List.length_reverse, Array.length_toList]
    exact hsz
  obtain ⟨os, hos, hcs, hds⟩ := id hs
  have hTs : s.TypeIs (.ref sl) "slice" := ⟨os, hos, hcs⟩
  unfold getItem
  try with_reducible refine wpAny_holding ?_
  first | refine wpAny_bind (wpAny_pure ?_) | skip
  refine wpAny_bind (wpAny_sequenceKey ht.typeIs (by decide) ?_)
  refine wpAny_bind (wpAny_callSpecial?_slot (name := Str.ofString "__getitem__") ht.typeIs PyProof.Rows.slot_tuple_getitem
    (wpAny_call_entry PyProof.Rows.slot_tuple_getitem ht.typeIs entry_tuple_getitem ?_ (args_tuple_getitem _ _)))
  show wpAny _ _ (Builtin.Tuple.tupleItemsOf (.ref t) >>= _) _ _ s
  refine wpAny_bind (tupleItemsOf_ ht ?_)
  refine wpAny_bind (wpAny_typeOf hTs ?_)
  rw [if_pos (by decide)]
  refine wpAny_bind (rev_applied (n := items.size) hs ps ?_)
  have hno : ¬ ((((items.size : Int) - 1) == 0 && (-1 : Int) == 1 && items.size == items.size) = true) := by
    intro q
    rw [Bool.and_eq_true, Bool.and_eq_true] at q
    exact absurd q.1.2 (by decide)
  show wpAny _ _ (if (((items.size : Int) - 1) == 0 && (-1 : Int) == 1 && items.size == items.size) = true then _ else _) _ _ s
  rw [if_neg hno, rev_pick]
  first
    | exact wpAny_bind (m := Builtin.Tuple.tupleExact _) (wpAny_newObj_type (wpAny_pure ⟨_, rfl, wpAny_pure h⟩) htake)
    | exact wpAny_bind (m := Builtin.Tuple.tupleExact _) (wpAny_newObj_type (wpAny_bind (wpAny_pure (wpAny_pure ⟨_, rfl, wpAny_pure h⟩))) htake)
    | exact wpAny_bind (wpAny_bind (m := Builtin.Tuple.tupleExact _) (wpAny_newObj_type (wpAny_pure (wpAny_pure ⟨_, rfl, wpAny_pure h⟩)) htake))
    | exact wpAny_bind (wpAny_bind (m := Builtin.Tuple.tupleExact _) (wpAny_newObj_type (wpAny_pure ⟨_, rfl, wpAny_pure h⟩) htake))
end
def revS (z : Str) : Str := ⟨z.cps.toList.reverse.toArray⟩
theorem rev_made (x : Str) (t : Tok) (u : Tok) : sliceMade x t none none (some (-1, u)) = .str (revS x) := by
  unfold sliceMade
  have h0 : ((((some ((-1 : Int), u)).map (·.1)).getD 1 == 1) && (slicePicked x none none (some (-1, u))).length == x.length) = false := by
    rfl
  rw [h0, if_neg Bool.false_ne_true]
  have e : slicePicked x none none (some (-1, u)) = (List.range x.cps.size).map fun k => x.cps.size - 1 - k := PySem.W.krv_sliceRange x.cps.size
  rw [e, PySem.W.krv_range, List.filterMap_reverse, PySem.W.krv_all]
  rfl
theorem revS_len (z : Str) : (revS z).length = z.length := by
  show (z.cps.toList.reverse.toArray).size = z.cps.size
  rw [List.size_toArray, List.length_reverse, Array.length_toList]
def dRev : D → Option D
  | .str z => if z.length ≤ LINE then some (.str (revS z)) else none
  | .tuple xs => some (.tuple xs.reverse)
  | .list xs => some (.list xs.reverse)
  | _ => none
section
variable {X : Cx} {EC : ECl} {W : WX} {a b c e : Expr} {es : List Expr} {ma mb mc : M D} {mes : M (List D)} {pos p p1 p2 p3 p4 sp_ : Pos} {x y : Str}
def tRevA (K : PySem.W.Frag) (te : TE) : TE := fun σ H Q => te σ H fun x H1 => (∃ a xs, x = .ref a ∧ SqL K H1 a xs ∧ ∀ p, H1 p = none → Q (.ref p) (upd H1 p (.lst xs.reverse))) ∨
  ((∃ a xs, x = .ref a ∧ SqT K H1 a xs ∧ ∀ p, H1 p = none → Q (.ref p) (upd H1 p (.tup xs.reverse))) ∨ ∃ z, x = .str z ∧ z.length ≤ sizeLine ∧ Q (.str (revS z)) H1)
theorem pe_revA {te : TE} {k : Nat} (he : PE X e te) : PE X (.Subscript e (.Slice none none (some (.UnaryOp .USub (.Constant (.int 1) k p1) p2)) p3) pos) (tRevA X.K te) := by
  refine ⟨fun pins s σ H Q I h => ?_⟩
  refine Subscript_ (thn (he.run pins s σ H _ I h) fun v s1 ⟨x, H1, I1, r1, q1⟩ => ?_)
  have hst : PO X (some (.UnaryOp .USub (.Constant (.int 1) k p1) p2)) (tPart (tUn (rU fun i => .int (-i)) (tC (.int 1)))) := po_some (pe_un un_neg pe_int)
  refine wpAny_Slice (thn (po_none.run pins s1 σ H1 (fun o H2 => o = none ∧ H2 = H1) I1 ⟨rfl, rfl⟩) fun vl s2 ⟨l, H2, I2, pl, el, e2⟩ => ?_)
  subst el e2
  refine thn (po_none.run pins s2 σ H2 (fun o H3 => o = none ∧ H3 = H2) I2 ⟨rfl, rfl⟩) fun vu s3 ⟨u, H3, I3, pu, eu, e3⟩ => ?_
  subst eu e3
  refine thn (hst.run pins s3 σ H3 (fun o H4 => o = some (-1) ∧ H4 = H3) I3 ⟨1, rfl, -1, rfl, rfl, rfl⟩) fun vs s4 ⟨o, H4, I4, ps, eo, e4⟩ => ?_
  subst eo e4
  have I5 : Inv X pins σ H4 { s4 with heap := s4.heap.push { cls := .type "slice", data := .fields #[vl, vu, vs] } } := I4.kept (t' := s4.toks) fun b ob q => Heap.get?_push_of_some _ q
  show wpAny (model X.prog X.w) X.A (subscriptTail e (.Slice none none (some (.UnaryOp .USub (.Constant (.int 1) k p1) p2)) p3) v (.ref s4.heap.objs.size)) (EP X pins σ Q) X.xe { s4 with heap := s4.heap.push { cls := .type "slice", data := .fields #[vl, vu, vs] } }
  rcases q1 with ⟨a, xs, ex, hx, q⟩ | ⟨a, xs, ex, hx, q⟩ | ⟨z, ex, hz, q⟩
  · subst ex
    cases r1
    obtain ⟨its, r, ht, hz⟩ := I5.list hx
    have hlen := r.length
    refine tail_any (ops := [.ref a, .ref s4.heap.objs.size]) ht.isList.typeIs (PySem.slot_list_getitem.lookup) ?_ (by with_unfolding_all rfl)
    refine wpAny_getItem_list_slice ht.isList (Heap.IsSliceOf.new _ vl vu vs) pl pu ps (by decide) ?_ (by rw [List.size_toArray]; omega)
    rw [PySem.W.krv_pick]
    refine ⟨.ref _, _, I5.laid (t' := s4.toks) (o := .lst xs.reverse) (fun b ob q => Heap.get?_push_of_some _ q) (Nat.le_refl _) ?_, rfl, q _ (I5.hok.fresh (Nat.le_refl _))⟩
    exact ⟨by rw [List.length_reverse]; exact hz, _, 0, r.reverse, Heap.get?_push_size _ rfl⟩
  · subst ex
    cases r1
    cases pl
    cases pu
    obtain ⟨its, r, ht, hz⟩ := I5.tuple hx
    have hlen := r.length
    refine tail_any (ops := [.ref a, .ref s4.heap.objs.size]) ht.typeIs PyProof.Rows.slot_tuple_getitem.lookup ?_ (by with_unfolding_all rfl)
    refine getItem_tuple_rev ht (Heap.IsSliceOf.new _ .none .none vs) ps ?_ (by rw [List.size_toArray]; omega)
    refine ⟨.ref _, _, I5.laid (t' := s4.toks) (o := .tup xs.reverse) (fun b ob q => Heap.get?_push_of_some _ q) (Nat.le_refl _) ?_, rfl, q _ (I5.hok.fresh (Nat.le_refl _))⟩
    exact ⟨by rw [List.length_reverse]; exact hz, _, r.reverse, IsTup.new _ _⟩
  · subst ex
    obtain ⟨t, rfl⟩ := r1
    cases pl
    cases pu
    cases ps with
    | int _ tk =>
    refine tail_any (ops := [.str z t, .ref s4.heap.objs.size]) (typeIs_str _ _ _) F.slot_str_getitem.lookup ?_ (by with_unfolding_all rfl)
    refine wpAny_getItem_str_slice (l := none) (u := none) (st := some (-1, tk)) ⟨_, Heap.get?_push_size _ rfl, rfl, rfl⟩ rfl ?_
    rw [rev_made]
    exact ⟨by rw [revS_len]; exact hz, .str _, H4, I5.tok _, ⟨_, rfl⟩, q⟩
theorem de_rev {k : Nat} (ha : DE X EC W a ma) : DE X EC W (.Subscript a (.Slice none none (some (.UnaryOp .USub (.Constant (.int 1) k p1) p2)) p3) pos) (mUn dRev ma) := by
  obtain ⟨ta, pa, ra⟩ := ha.ex
  refine ⟨_, pe_revA pa, fun C0 H0 B C H σ δ Q S h => ra C0 H0 B C H σ δ _ S (RP.imp (RP.bind h) (fun x δ1 h1 v C1 H1 e1 S1 d1 => ?_) fun c d δ h => h)⟩
  obtain ⟨z, hz, q⟩ := RP.lift h1
  have q := rs_of S1 (PKe.mono e1 _ _ q)
  unfold dRev at hz
  split at hz
  · split at hz
    · rename_i hl
      cases hz
      cases d1
      exact .inr (.inr ⟨_, rfl, by rw [line_eq]; exact hl, q.1 _ (.str _)⟩)
    · cases hz
  · cases hz
    cases d1 with
    | tup h1 h2 => exact .inr (.inl ⟨_, _, rfl, ex_t S1.ch h1, fun p hp => q.2 p _ hp (.tup (SqT.of upd_same) (dpAll_ex (Ex.new (free_of S1.ch hp)) _ _ (dpa_rev h2)))⟩)
  · cases hz
    cases d1 with
    | lst h1 h2 => exact .inl ⟨_, _, rfl, ex_l S1.ch h1, fun p hp => q.2 p _ hp (.lst (SqL.of upd_same) (dpAll_ex (Ex.new (free_of S1.ch hp)) _ _ (dpa_rev h2)))⟩
  · cases hz

/-! ### sorted of a tuple or a list of ints -/
def ins (n : Int) : List Int → List Int
  | [] => [n]
  | m :: r => if n ≤ m then n :: m :: r else m :: ins n r
def isort : List Int → List Int
  | [] => []
  | n :: r => ins n (isort r)
theorem ins_perm (n : Int) : ∀ l : List Int, (ins n l).Perm (n :: l)
  | [] => List.Perm.refl _
  | m :: r => by
    unfold ins
    split
    · exact List.Perm.refl _
    · exact ((ins_perm n r).cons m).trans (List.Perm.swap n m r)
theorem isort_perm : ∀ l : List Int, (isort l).Perm l
  | [] => List.Perm.refl _
  | n :: r => (ins_perm n (isort r)).trans ((isort_perm r).cons n)
theorem ins_pw (n : Int) : ∀ l : List Int, l.Pairwise (· ≤ ·) → (ins n l).Pairwise (· ≤ ·)
  | [], _ => by simp [ins]
  | m :: r, h => by
    unfold ins
    obtain ⟨h1, h2⟩ := List.pairwise_cons.mp h
    split
    · rename_i hn
      refine List.pairwise_cons.mpr ⟨fun y hy => ?_, h⟩
      rcases List.mem_cons.mp hy with e | hy
      · omega
      · have := h1 y hy; omega
    · rename_i hn
      refine List.pairwise_cons.mpr ⟨fun y hy => ?_, ins_pw n r h2⟩
      have := (ins_perm n r).subset hy
      rcases List.mem_cons.mp this with e | hy
      · omega
      · exact h1 y hy
theorem isort_pw : ∀ l : List Int, (isort l).Pairwise (· ≤ ·)
  | [] => List.Pairwise.nil
  | n :: r => ins_pw n _ (isort_pw r)
theorem pwi_uniq : ∀ {l m : List Int}, l.Perm m → l.Pairwise (· ≤ ·) → m.Pairwise (· ≤ ·) → l = m := by
  intro l m p h1 h2
  induction l generalizing m with
  | nil => exact (List.nil_perm.mp p).symm
  | cons x r ih =>
    cases m with
    | nil => exact absurd p.symm.length_eq (by simp)
    | cons y t =>
      have hx : x = y := by
        have a1 : x ∈ y :: t := p.subset List.mem_cons_self
        have a2 : y ∈ x :: r := p.symm.subset List.mem_cons_self
        rcases List.mem_cons.mp a1 with e | a1
        · exact e
        rcases List.mem_cons.mp a2 with e | a2
        · exact e.symm
        have := (List.pairwise_cons.mp h2).1 x a1
        have := (List.pairwise_cons.mp h1).1 y a2
        omega
      subst hx
      rw [ih (List.Perm.cons_inv p) (List.pairwise_cons.mp h1).2 (List.pairwise_cons.mp h2).2]
theorem call_sortedTp : CallR X (.builtin "sorted") (fun xs H Q => ∃ (a : Addr) (ns : List Int), xs = [.ref a] ∧ SqT X.K H a (ns.map V.int) ∧ ns.length < 64 ∧ ∀ p, H p = none → Q (.ref p) (upd H p (.lst ((isort ns).map V.int)))) := by
  intro pins s σ H xs us Q I r q
  obtain ⟨a, ns, ex, hx, h64, q⟩ := q
  subst ex
  obtain ⟨u, eu, rx⟩ := vals1 r
  subst eu
  cases rx
  obtain ⟨its, rv, ⟨o, ho, hc, n, hd⟩, hz⟩ := I.tuple hx
  have hi := rv.ints
  have hil : its.length < 64 := by rw [hi.length]; exact h64
  refine Calls.call_function_entry PyProof.Rows.kind_sorted PyProof.Rows.plain_sorted PyProof.Rows.entry_sorted (PyProof.Rows.args_sorted1 _) ?_
  unfold Builtin.«sorted»
  refine wpAny_bind (m := checkCount "sorted" 1 1 _) (wpAny_pure ?_)
  refine wpAny_bind (wpAny_collect_seq a (.inr rfl) ho hc hd (fun h' hk => ?_) (by rw [List.size_toArray, sizeLine_eq]; omega))
  have e0 : its.toArray.toList = its := by simp
  rw [e0]
  have I1 : Inv X pins σ H { s with heap := h' } := I.kept (t' := s.toks) hk
  refine wpAny_bind (wpAny_newList ?_ (by rw [sizeLine_eq]; omega))
  have hoL : (h'.push (seqObj "list" its.toArray 0)).get? h'.objs.size = some (seqObj "list" its.toArray 0) := Heap.get?_push_size _ rfl
  show wpAny _ _ _ _ _ { s with heap := h'.push (seqObj "list" its.toArray 0) }
  refine wpAny_bind (wpAny_holding (wpAny_call_entry PyProof.Rows.slot_list_sort ⟨_, hoL, rfl⟩ PyProof.Rows.entry_list_sort
    (PyProof.Rows.list_sort_tree (s := { s with heap := h'.push (seqObj "list" its.toArray 0) }) hoL hi hil fun out ns' h1 h2 h3 => ⟨_, rfl, ?_⟩)
    (PyProof.Rows.args_list_sort _)))
  have en : ns' = isort ns := pwi_uniq (h2.trans (isort_perm ns).symm) h3 (isort_pw ns)
  subst en
  obtain ⟨e', he'⟩ := PyProof.Rows.sortedHeap_at (vs := its) (out := out) hoL
  have hlen : ((isort ns).map V.int).length ≤ sizeLine := by
    rw [List.length_map, (isort_perm ns).length_eq]
    exact Nat.le_trans (Nat.le_of_lt h64) (by decide)
  refine wpAny_pure ⟨_, rfl, .ref h'.objs.size, upd H h'.objs.size (.lst ((isort ns).map V.int)), I1.laid (t' := s.toks) (fun b u e => ?_) (Nat.le_refl _)
    (show ObjOk X.prog X.w _ _ _ (.lst ((isort ns).map V.int)) from ⟨hlen, out.toList, e', vals_of_ints h1, he'⟩), rfl, q _ (I1.hok.fresh (Nat.le_refl _))⟩
  have hb : b < h'.objs.size := Heap.lt_size e
  rw [PyProof.Rows.sortedHeap_old (Nat.ne_of_lt hb) (by rw [size_push']; exact Nat.lt_succ_of_lt hb)]
  exact Heap.get?_push_of_some _ e
def dSortT : List D → Option D
  | [.tuple xs] => match dInts xs with
    | some ns => if ns.length < 64 then some (.list ((isort ns).map .int)) else none
    | none => none
  | _ => none
theorem rc_sortT : RCf X.K (fun xs H Q => ∃ (a : Addr) (ns : List Int), xs = [.ref a] ∧ SqT X.K H a (ns.map V.int) ∧ ns.length < 64 ∧ ∀ p, H p = none → Q (.ref p) (upd H p (.lst ((isort ns).map V.int)))) dSortT := by
  intro xs z hz vs C H Q e hv q
  unfold dSortT at hz
  split at hz
  · rename_i ys
    split at hz
    · rename_i ns hn
      split at hz
      · rename_i hl
        cases hz
        cases hv with
        | cons h t =>
          cases t
          cases h with
          | tup h1 h2 =>
            have e1 := dInts_eq hn
            subst e1
            have e2 := dpa_ints h2
            subst e2
            exact ⟨_, ns, rfl, ex_t e h1, hl, fun p hp => q.2 p _ hp (.lst (SqL.of upd_same) ints_dpa)⟩
      · cases hz
    · cases hz
  · cases hz

/-! ### max, min of a tuple of ints -/
theorem alike_ints (ns : List Int) : PySem.W.AlikeAll (ns.map PyData.int) := by
  refine ⟨fun x hx y hy => ?_, fun x hx => ?_⟩
  · obtain ⟨i, _, rfl⟩ := List.mem_map.mp hx
    obtain ⟨j, _, rfl⟩ := List.mem_map.mp hy
    rfl
  · obtain ⟨i, _, rfl⟩ := List.mem_map.mp hx
    exact fun z => nomatch z
theorem depth_ints : ∀ ns : List Int, PyData.depthAll (ns.map .int) = 0
  | [] => rfl
  | n :: ns => by show max (PyData.depth (.int n)) (PyData.depthAll (ns.map .int)) = 0; rw [depth_ints ns]; rfl

theorem reads_int {h : Heap} {v : Value} {i : Int} {bs : List Addr} (r : Reads h v (.int i) bs) : ∃ t, v = .int i t := by
  cases r
  exact ⟨_, rfl⟩
theorem dp_ints {K : PySem.W.Frag} {H : Hp} : ∀ ns : List Int, DpAll K H (ns.map V.int) (ns.map .int)
  | [] => .nil
  | n :: ns => .cons (.int n) (dp_ints ns)
def rMaxT (K : PySem.W.Frag) (f : Int → Int → Int) : List V → Hp → VK → Prop := fun xs H Q => ∃ (a : Addr) (n : Int) (ns : List Int), xs = [.ref a] ∧ SqT K H a ((n :: ns).map V.int) ∧ Q (.int (ns.foldl f n)) H
theorem call_maxT (hc : X.calm = true) (hu : X.A.units + 64 < cLine) : CallR X (.builtin "max") (rMaxT X.K max) := by
  intro pins s σ H xs us Q I r h
  obtain ⟨a, n, ns, ex, hx, q⟩ := h
  subst ex
  obtain ⟨u, eu, rx⟩ := vals1 r
  subst eu
  cases rx
  obtain ⟨its, rv, ht, hz⟩ := I.tuple hx
  obtain ⟨as, hr⟩ := Dp.readsAll I ((n :: ns).map .int) ((n :: ns).map V.int) its (dp_ints _) rv
  refine PySem.W.max_tuple_data (x := .int n) (xs := ns.map .int) (as := as) (I.ok.hd hc) ht (by simpa using hr) (alike_ints (n :: ns)) (by have := depth_ints (n :: ns); show X.A.units + 1 + PyData.depthAll ((n :: ns).map .int) < cLine; rw [this]; omega) fun i v h' tk bs hi hv hk => ?_
  rw [PySem.W.maxD_ints] at hv
  obtain ⟨t, rfl⟩ := reads_int hv
  exact ⟨.int _, H, I.kept hk, ⟨t, rfl⟩, q⟩
theorem call_minT (hc : X.calm = true) (hu : X.A.units + 64 < cLine) : CallR X (.builtin "min") (rMaxT X.K min) := by
  intro pins s σ H xs us Q I r h
  obtain ⟨a, n, ns, ex, hx, q⟩ := h
  subst ex
  obtain ⟨u, eu, rx⟩ := vals1 r
  subst eu
  cases rx
  obtain ⟨its, rv, ht, hz⟩ := I.tuple hx
  obtain ⟨as, hr⟩ := Dp.readsAll I ((n :: ns).map .int) ((n :: ns).map V.int) its (dp_ints _) rv
  refine PySem.W.min_tuple_data (x := .int n) (xs := ns.map .int) (as := as) (I.ok.hd hc) ht (by simpa using hr) (alike_ints (n :: ns)) (by have := depth_ints (n :: ns); show X.A.units + 1 + PyData.depthAll ((n :: ns).map .int) < cLine; rw [this]; omega) fun i v h' tk bs hi hv hk => ?_
  rw [PySem.W.minD_ints] at hv
  obtain ⟨t, rfl⟩ := reads_int hv
  exact ⟨.int _, H, I.kept hk, ⟨t, rfl⟩, q⟩
def dMaxT (f : Int → Int → Int) : List D → Option D
  | [.tuple xs] => match dInts xs with
    | some (n :: ns) => some (.int (ns.foldl f n))
    | _ => none
  | _ => none
theorem rc_maxT {f : Int → Int → Int} : RCf X.K (rMaxT X.K f) (dMaxT f) := by
  intro xs z hz vs C H Q e hv q
  unfold dMaxT at hz
  split at hz
  · split at hz
    · rename_i n ns hn
      cases hz
      cases hv with
      | cons h t =>
        cases t
        cases h with
        | tup h1 h2 =>
          have e1 := dInts_eq hn
          subst e1
          have e2 := dpa_ints h2
          subst e2
          exact ⟨_, n, ns, rfl, ex_t e h1, q.1 _ (.int _)⟩
    · cases hz
  · cases hz
/-! ### t.count(n) -/
def rCntT (K : PySem.W.Frag) : V → List V → Hp → VK → Prop := fun x xs H Q => ∃ (a : Addr) (ns : List Int) (k : Int), x = .ref a ∧ xs = [.int k] ∧ SqT K H a (ns.map V.int) ∧ Q (.int (ns.count k : Nat)) H
theorem cnt_flat (k : Int) : ∀ ns : List Int, (ns.map V.int).countP (fun y => eqV y (.int k)) = ns.count k
  | [] => rfl
  | n :: ns => by
    rw [List.map_cons, List.countP_cons, List.count_cons, cnt_flat k ns]
    rfl
theorem cntU (k : Int) : ∀ {xs : List V} {us : List Value}, Vals xs us → xs.all flatV = true → us.countP (eqU (.int k)) = xs.countP fun y => eqV y (.int k)
  | _, _, .nil, _ => rfl
  | y :: xs, u :: us, .cons r t, f => by
    rw [List.all_cons, Bool.and_eq_true] at f
    rw [List.countP_cons, List.countP_cons, eqU_of r f.1, cntU k t f.2]
theorem mt_tcount : MtR X "tuple.count" (rCntT X.K) := by
  intro pins s σ H x xs v us Q I rx rxs h
  obtain ⟨a, ns, k, rfl, rfl, hs, q⟩ := h
  cases rx
  cases rxs with
  | cons ry rt =>
    rename_i uy ut
    cases rt
    obtain ⟨its, rv, ⟨⟨cls, dd, data, sl⟩, ho, hc, n, hd⟩, hlen⟩ := I.tuple hs
    simp only at hc hd
    subst hc hd
    have fl : (ns.map V.int).all flatV = true := by
      rw [List.all_eq_true]
      intro z hz
      obtain ⟨i, _, rfl⟩ := List.mem_map.mp hz
      rfl
    refine call_meets PySem.F.slot_tuple_count ⟨_, ho, rfl⟩ PySem.F.entry_tuple_count (PySem.F.args_tuple_count_2 _ _)
      (SeqAt.tuple_countAt a its.toArray n dd sl uy (eqU (.int k))) ⟨ho, fun u' hu' => mem_eqAt ry rfl rv fl u' (by simpa using hu'), ?_⟩
    refine ⟨.int _, H, I.tok _, ⟨_, rfl⟩, ?_⟩
    have e : its.toArray.toList.countP (eqU (.int k)) = ns.count k := by
      rw [show its.toArray.toList = its by simp, cntU k rv fl, cnt_flat]
    rw [e]
    exact q
def dCountT : D → List D → Option D
  | .tuple xs, [.int k] => (dInts xs).map fun ns => .int (ns.count k : Nat)
  | _, _ => none
theorem rm_countT : RMt X.K (rCntT X.K) dCountT := by
  intro x xs z hz v vs C H Q e hv hvs q
  unfold dCountT at hz
  split at hz
  · rename_i ys k
    cases hn : dInts ys with
    | none => rw [hn] at hz; cases hz
    | some ns =>
      rw [hn] at hz
      cases hz
      have e1 := dInts_eq hn
      subst e1
      cases hv with
      | tup h1 h2 =>
        have e2 := dpa_ints h2
        subst e2
        cases hvs with
        | cons h t =>
          cases t
          cases h
          exact ⟨_, ns, k, rfl, rfl, ex_t e h1, q.1 _ (.int _)⟩
  · cases hz
end
end DL
end Part_DU

section Part_DM
set_option Elab.async false
set_option linter.all false
set_option maxRecDepth 100000
set_option autoImplicit false
set_option maxHeartbeats 2000000
namespace DL
open PySem PySem.Spec PyProof.Rows L2 Evl
/-! ### lists that are changed: truth, pop, extend -/
section
variable {X : Cx} {EC : ECl} {W : WX} {a b c e : Expr} {es : List Expr} {ma mb mc : M D} {mes : M (List D)} {pos p p2 px apos : Pos} {x y : Str}
def mTrM (i : Nat) : M Bool := fun δ => match δ[i]? with
  | some (.var _ ds) => .ok (!ds.isEmpty) δ
  | _ => .no
theorem dt_trM (i : Nat) (hN : X.N[i]? = some x := by rfl) (hv : Vis X.env.scope x := by first | exact Or.inl rfl | exact Or.inr (Or.inl rfl) | exact Or.inr (Or.inr rfl)) (hd : (x == ("__debug__" : Str)) = false := by decide) (hcd : (x == ("__classdict__" : Str)) = false := by decide)
    (he : ∀ whole, isTrue (.Name x pos) X.env whole = (do let v ← whole; standAt (Expr.Name x pos).pos; holding [v] (truthy v)) := by intro _; rfl) : DT X EC W (.Name x pos) (mTrM i) := by
  refine ⟨_, pt_truth (pe_var hN hv hd hcd) he, fun C0 H0 B C H σ δ Q S h => ?_⟩
  unfold mTrM at h
  split at h
  case h_2 => exact h.elim
  rename_i b ds q
  obtain ⟨l, xs, k1, k2, k3, k4, _⟩ := S.chg q
  refine ⟨.ref l, k1, !xs.isEmpty, .inl ⟨xs, SqL.of k2, rfl⟩, ?_⟩
  have e : (!xs.isEmpty) = !ds.isEmpty := by
    have := dpa_len k3
    cases xs <;> cases ds <;> simp_all
  rw [e]
  exact h C H (Ex.refl C) S
def mPop (i : Nat) : M D := fun δ => match δ[i]? with
  | some (.var b ds) => (match ds[ds.length - 1]? with
    | some d => .ok d (δ.set i (.var b ds.dropLast))
    | none => .no)
  | _ => .no
theorem dpa_dropLast {K : PySem.W.Frag} {H : Hp} {vs : List V} {ds : List D} (h : DqAll K H vs ds) : DqAll K H vs.dropLast ds.dropLast := by
  rw [List.dropLast_eq_take, List.dropLast_eq_take, dpa_len h]
  exact dpa_take _ h
theorem de_pop (i : Nat) (hN : X.N[i]? = some x := by rfl) (hv : Vis X.env.scope x := by first | exact Or.inl rfl | exact Or.inr (Or.inl rfl) | exact Or.inr (Or.inr rfl)) (hd : (x == ("__debug__" : Str)) = false := by decide) (hcd : (x == ("__classdict__" : Str)) = false := by decide)
    (hbase : attributeBase (.Name x px) "pop" X.env (eval (.Name x px) X.env) = eval (.Name x px) X.env := by rfl) (hline : (apos.endLine == pos.line) = true := by rfl) :
    DE X EC W (.Call (.Attribute (.Name x px) "pop" apos) [] [] pos) (mPop i) := by
  refine ⟨_, pe_bm0 PySem.F.plainAttrs_list PySem.F.slot_list_pop PySem.F.type_list_pop mt_pop (pe_var hN hv hd hcd) hbase hline, fun C0 H0 B C H σ δ Q S h => ?_⟩
  unfold mPop at h
  split at h
  case h_2 => exact h.elim
  rename_i b ds q
  split at h
  case h_2 => exact h.elim
  rename_i d hq
  obtain ⟨l, xs, k1, k2, k3, k4, k5⟩ := S.chg q
  obtain ⟨v, hv1, hv2⟩ := dpa_get k3 hq
  refine ⟨.ref l, k1, .inl ⟨rfl, xs, SqL.of k2⟩, l, xs, v, rfl, rfl, k2, by rw [dpa_len k3]; exact hv1, ?_⟩
  exact h v C _ (Ex.refl C) (k5 _ _ (dpa_dropLast k3)) hv2
end
section
open PySem.AutoSeq1
set_option maxRecDepth 8000 in
theorem ext_tuple (l : Addr) (items : Array Value) (n : Nat) (b : Addr) (items2 : Array Value) (n2 : Nat) (dd : Option Addr) (sl : Array (Option Value)) (hs0 : ¬(!items.isEmpty && Builtin.List.listTooLong (items.size + items2.size)) = true) (hs1 : items.size ≤ sizeLine) (hs2 : items.size + items2.size ≤ sizeLine + 1) :
    Meets (Builtin.«list.extend» ⟨[.ref l, .ref b], []⟩) (fun _ RR s => s.heap.get? l = some { cls := .type "list", dict := none, data := .seq items n, slots := #[] } ∧ s.heap.get? b = some { cls := .type "tuple", dict := dd, data := .seq items2 n2, slots := sl } ∧
      RR (.ok (.ret Value.none)) { s with heap := s.heap.update l (Obj.mapSeq fun x => x ++ items2), toks := s.toks }) :=
  .of_wp fun prog w A RR s h => by
    obtain ⟨hp, g, d, tk, os⟩ := s
    obtain ⟨hl, hb, h⟩ := h
    have k1 := AutoSeq1.idx_int
    have k2 := AutoSeq1.sub_tuple_tuple
    have k3 := AutoSeq1.sub_list_list
    have k4 := AutoSeq1.sub_tuple_list
    have k5 := AutoSeq1.sub_list_tuple
    have hz' : (items ++ items2).size ≤ sizeLine + 1 := by rw [Array.size_append]; exact hs2
    wp_walk using (wpAny_updateSeq hl rfl (hz := hs1) (_hz' := hz')), wpAny_loadPart' hl, wpAny_loadPart' hb
    exact ⟨_, rfl, h⟩
set_option maxRecDepth 8000 in
theorem ext_list (l : Addr) (items : Array Value) (n : Nat) (b : Addr) (items2 : Array Value) (n2 : Nat) (dd : Option Addr) (sl : Array (Option Value)) (hs0 : ¬(!items.isEmpty && Builtin.List.listTooLong (items.size + items2.size)) = true) (hs1 : items.size ≤ sizeLine) (hs2 : items.size + items2.size ≤ sizeLine + 1) :
    Meets (Builtin.«list.extend» ⟨[.ref l, .ref b], []⟩) (fun _ RR s => s.heap.get? l = some { cls := .type "list", dict := none, data := .seq items n, slots := #[] } ∧ s.heap.get? b = some { cls := .type "list", dict := dd, data := .seq items2 n2, slots := sl } ∧
      RR (.ok (.ret Value.none)) { s with heap := s.heap.update l (Obj.mapSeq fun x => x ++ items2), toks := s.toks }) :=
  .of_wp fun prog w A RR s h => by
    obtain ⟨hp, g, d, tk, os⟩ := s
    obtain ⟨hl, hb, h⟩ := h
    have k1 := AutoSeq1.idx_int
    have k2 := AutoSeq1.sub_tuple_tuple
    have k3 := AutoSeq1.sub_list_list
    have k4 := AutoSeq1.sub_tuple_list
    have k5 := AutoSeq1.sub_list_tuple
    have hz' : (items ++ items2).size ≤ sizeLine + 1 := by rw [Array.size_append]; exact hs2
    wp_walk using (wpAny_updateSeq hl rfl (hz := hs1) (_hz' := hz')), wpAny_loadPart' hl, wpAny_loadPart' hb
    exact ⟨_, rfl, h⟩
end
def rExtA (K : PySem.W.Frag) : V → List V → Hp → VK → Prop := fun x vs H Q => ∃ l b xs zs, x = .ref l ∧ vs = [.ref b] ∧ H l = some (.lst xs) ∧ (SqL K H b zs ∨ SqT K H b zs) ∧ xs.length + zs.length ≤ sizeLine ∧ Q .non (upd H l (.lst (xs ++ zs)))
theorem mt_extA {X : Cx} : MtM X "list.extend" (rExtA X.K) := by
  intro pins s σ H x vs v us Q I rx rv h
  obtain ⟨l, b, xs, zs, rfl, rfl, hH, hB, hz, q⟩ := h
  cases rx
  obtain ⟨u, rfl, ru⟩ := rv.one
  cases ru
  obtain ⟨z, its, n, r, hl, e⟩ := I.lstM hH
  have hlong : ∀ its2 : List Value, its2.length = zs.length → ¬ (!its.toArray.isEmpty && Builtin.List.listTooLong (its.toArray.size + its2.toArray.size)) = true := fun its2 h2 => by
    rw [notLongL (by rw [List.size_toArray, List.size_toArray]; omega), Bool.and_false]
    exact Bool.false_ne_true
  have fin : ∀ its2 : List Value, Vals zs its2 → EP X pins σ Q .none { s with heap := s.heap.update l (Obj.mapSeq fun x => x ++ its2.toArray), toks := s.toks } := fun its2 r2 => by
    refine ⟨.non, _, I.lset (its' := its ++ its2) (t' := s.toks) hH e (by simp) (r.append r2) ?_, rfl, q⟩
    rw [List.length_append]
    have := r2.length
    omega
  rcases hB with hB | hB
  · obtain ⟨its2, r2, ⟨⟨cls, dd, data, sl⟩, n2, ho, hc, hdn, hd⟩, hlen⟩ := I.list hB
    simp only at hc hd
    subst hc hd
    have hl2 := r2.length
    exact call_meets PySem.F.slot_list_extend ⟨_, e, rfl⟩ PySem.F.entry_list_extend (PySem.F.args_list_extend_2 _ _)
      (ext_list l its.toArray n b its2.toArray n2 dd sl (hlong its2 hl2.symm) (by rw [List.size_toArray]; omega) (by rw [List.size_toArray, List.size_toArray]; omega)) ⟨e, ho, fin its2 r2⟩
  · obtain ⟨its2, r2, ⟨⟨cls, dd, data, sl⟩, ho, hc, n2, hd⟩, hlen⟩ := I.tuple hB
    simp only at hc hd
    subst hc hd
    have hl2 := r2.length
    exact call_meets PySem.F.slot_list_extend ⟨_, e, rfl⟩ PySem.F.entry_list_extend (PySem.F.args_list_extend_2 _ _)
      (ext_tuple l its.toArray n b its2.toArray n2 dd sl (hlong its2 hl2.symm) (by rw [List.size_toArray]; omega) (by rw [List.size_toArray, List.size_toArray]; omega)) ⟨e, ho, fin its2 r2⟩
section
variable {X : Cx} {EC : ECl} {W : WX} {a b c e : Expr} {es : List Expr} {ma mb mc : M D} {mes : M (List D)} {pos p p2 px apos : Pos} {x y : Str}
def seqD : D → Option (List D)
  | .list xs => some xs
  | .tuple xs => some xs
  | _ => none
def mExt (i : Nat) (a : M D) : M Fl := fun δ => match δ[i]? with
  | some (.var _ _) => (a δ).bind fun d δ => match δ[i]?, seqD d with
    | some (.var b ds), some zs => if ds.length + zs.length ≤ LINE then .ok .nx (δ.set i (.var b (ds ++ zs))) else .no
    | _, _ => .no
  | _ => .no
theorem ds_ext (i : Nat) (h : DE X EC W e ma) (hN : X.N[i]? = some x := by rfl) (hv : Vis X.env.scope x := by first | exact Or.inl rfl | exact Or.inr (Or.inl rfl) | exact Or.inr (Or.inr rfl)) (hd : (x == ("__debug__" : Str)) = false := by decide) (hcd : (x == ("__classdict__" : Str)) = false := by decide)
    (hbase : attributeBase (.Name x px) "extend" X.env (eval (.Name x px) X.env) = eval (.Name x px) X.env := by rfl)
    (hfew : ((backTo pos (starEach (e :: []) X.env)).all (fun x => !x.1) && (backToKw pos (keywordEach [] X.env)).all (fun x => x.1.isSome)
      && decide ((e :: []).length + ([] : List Keyword).length + (if ([] : List Keyword).isEmpty then 0 else 1) < 30)) = true := by rfl)
    (hline : (apos.endLine == pos.line) = true := by rfl) (hs : starEach (e :: []) X.env = (false, eval e X.env) :: starEach [] X.env := by rfl) (hplain : (backTo pos (starEach [] X.env)).any (·.1) = false := by rfl)
    (hsw : swapsWith (.Call (.Attribute (.Name x px) "extend" apos) [e] [] pos) none p2.line X.env = pure false := by rfl) :
    DS X EC W (.Expr (.Call (.Attribute (.Name x px) "extend" apos) [e] [] pos) p2) (mExt i ma) := by
  obtain ⟨t, p, r⟩ := h.ex
  refine ⟨_, ps_expr (pe_bm PySem.F.plainAttrs_list PySem.F.slot_list_extend PySem.F.type_list_extend mt_extA (pe_var hN hv hd hcd) (pa_cons p pa_nil hs) hbase hfew hline hs hplain) hsw, fun C0 H0 B C H σ δ N S h => ?_⟩
  unfold mExt at h
  split at h
  case h_2 => exact h.elim
  rename_i b0 ds0 hq
  obtain ⟨l0, xs0, k1, k2, k3, k4, _⟩ := S.chg hq
  refine ⟨.ref l0, k1, .inl ⟨rfl, xs0, SqL.of k2⟩, r C0 H0 B C H σ δ _ S (RP.imp (RP.bind h) (fun d δ1 h1 v C1 H1 e1 S1 d1 => ?_) PXs.of)⟩
  split at h1
  case h_2 => exact h1.elim
  rename_i b ds zs hq1 hz
  split at h1
  case isFalse => exact h1.elim
  rename_i hlen
  obtain ⟨l, xs, w1, w2, w3, w4, w5⟩ := S1.chg hq1
  rw [k1] at w1
  cases w1
  unfold seqD at hz
  split at hz
  · cases hz
    cases d1 with
    | lst g1 g2 => exact ⟨_, _, xs, _, rfl, rfl, w2, .inl (ex_l S1.ch g1), by rw [line_eq, dpa_len w3, dpa_len g2]; exact hlen, h1 σ C1 _ e1 (w5 _ _ (dpa_app w3 g2))⟩
  · cases hz
    cases d1 with
    | tup g1 g2 => exact ⟨_, _, xs, _, rfl, rfl, w2, .inr (ex_t S1.ch g1), by rw [line_eq, dpa_len w3, dpa_len g2]; exact hlen, h1 σ C1 _ e1 (w5 _ _ (dpa_app w3 g2))⟩
  · cases hz

/-! ### (a, b, c) = .. -/
def setT3 (g g2 g3 : D → Dl → Option Dl) : D → Dl → Option Dl := fun d δ => match d with
  | .tuple [x, y, z] => (g x δ).bind fun δ => (g2 y δ).bind (g3 z)
  | _ => none
theorem dg_tup3 {k : Nat} {ts us ws : List Nat} {g g2 g3 : D → Dl → Option Dl} (hc : X.calm = true) (h1 : DG X a ts g) (h2 : DG X b us g2) (h3 : DG X c ws g3) (hs1 : (assignEach (a :: [b, c]) X.env).map (·.2) = assign a X.env :: (assignEach [b, c] X.env).map (·.2) := by rfl)
    (hs2 : (assignEach (b :: [c]) X.env).map (·.2) = assign b X.env :: (assignEach [c] X.env).map (·.2) := by rfl) (hs3 : (assignEach (c :: []) X.env).map (·.2) = assign c X.env :: (assignEach [] X.env).map (·.2) := by rfl)
    (hn : (assignEach [a, b, c] X.env).length = 3 := by rfl) (hst : (assignEach [a, b, c] X.env).findIdx? (·.1) = none := by rfl) : DG X (.Tuple [a, b, c] k pos) (ts ++ (us ++ ws)) (setT3 g g2 g3) := by
  obtain ⟨t1, p1, r1⟩ := h1.ex
  obtain ⟨t2, p2, r2⟩ := h2.ex
  obtain ⟨t3, p3, r3⟩ := h3.ex
  refine ⟨_, pg_tup hc (pgs_cons p1 (pgs_cons p2 (pgs_cons p3 pgs_nil hs3) hs2) hs1) hn hst, fun C0 H0 B C H σ δ δ' v d Q S hd h k => ?_⟩
  unfold setT3 at h
  split at h
  · rename_i x y z
    cases q : g x δ with
    | none => rw [q] at h; cases h
    | some δ1 =>
      rw [q] at h
      have h : ((g2 y δ1).bind (g3 z)) = some δ' := h
      cases q2 : g2 y δ1 with
      | none => rw [q2] at h; cases h
      | some δ2 =>
        rw [q2] at h
        cases hd with
        | tup s t =>
          cases t with
          | cons d1 t =>
            cases t with
            | cons d2 t =>
              cases t with
              | cons d3 t =>
                cases t
                rename_i a v1 v2 v3
                refine ⟨a, _, rfl, ex_t S.ch s, rfl, v1, _, rfl, r1 C0 H0 B C H σ δ δ1 v1 x _ S d1 q fun σ1 S1 w1 => ⟨v2, _, rfl, r2 C0 H0 B C H σ1 δ1 δ2 v2 y _ S1 d2 q2 fun σ2 S2 w2 => ⟨v3, _, rfl, r3 C0 H0 B C H σ2 δ2 δ' v3 z _ S2 d3 h fun σ3 S3 w3 => ⟨rfl, k σ3 S3 fun vs hv => ?_⟩⟩⟩⟩
                rw [w3 vs fun k hk => hv k (List.mem_append_right _ (List.mem_append_right _ hk)), w2 vs fun k hk => hv k (List.mem_append_right _ (List.mem_append_left _ hk)), w1 vs fun k hk => hv k (List.mem_append_left _ hk)]
  · cases h
end

/-! ### a list that is lent to a def: its first argument -/
def mDefB (n : Nat) (body : M Fl) : List D → R D
  | .list es :: ds => (body (.var true es :: (ds.map .val ++ List.replicate (n - 1 - ds.length) .non))).bind fun (f : Fl) (δ : Dl) => match f, (List.head? δ : Option Cell) with
    | .rt d, some (.var true es') => R.ok d [.var true es']
    | .nx, some (.var true es') => R.ok .none [.var true es']
    | _, _ => R.no
  | _ => .no
def PKb (K : PySem.W.Frag) (C H : Hp) (l : Addr) (Q : VK) : D → Dl → Prop := fun d δ => ∀ es', δ = [.var true es'] → ∀ v C2 H2 xs', Ex C C2 → Ex C2 H2 → (∀ a o, H a = some o → a ≠ l → H2 a = some o) → (∀ a, H a ≠ none → C a = none → C2 a = none) → C2 l = none → H2 l = some (.lst xs') → DqAll K C2 xs' es' → Dq K C2 v d → Q v H2
def SpB (K : PySem.W.Frag) (n : Nat) (mf : List D → R D) : Sp := fun vs H Q _ => ∃ C l xs es vs' ds, vs = .ref l :: vs' ∧ Ex C H ∧ C l = none ∧ H l = some (.lst xs) ∧ DqAll K C xs es ∧ DqAll K C vs' ds ∧ vs.length = n ∧ RP (mf (.list es :: ds)) (PKb K C H l Q) (fun _ _ _ => False)
structure FnB (P : Program) (w : World) (K : PySem.W.Frag) (mg : Str → Option Value) (base : Heap) (k : Nat) (x : Str) (n : Nat) (mf : List D → R D) : Prop where
  ex : ∃ f fd ps, FnOk P w K mg base CX0 k f fd ps (SpB K n mf) ∧ mg x = some (.ref f) ∧ PySem.W.keepIn K (.ref f) = true ∧ Binds K fd ps []
theorem start_srB {K : PySem.W.Frag} {C H : Hp} {N : List Str} {l : Addr} {xs : List V} {es : List D} {vs : List V} {ds : List D} (e : Ex C H) (hC : C l = none) (hH : H l = some (.lst xs)) (hx : DqAll K C xs es) (h : DqAll K C vs ds) : SR K C H [(0, l)] C H (L2.start N (.ref l :: vs)) (.var true es :: (ds.map .val ++ List.replicate (N.length - 1 - ds.length) .non)) := by
  have hl := dpa_len h
  have nov : ∀ {i : Nat} {b : Bool} {fs : List D}, (ds.map Cell.val ++ List.replicate (N.length - 1 - ds.length) .non)[i]? ≠ some (.var b fs) := fun {i b fs} z => by
    have m := List.mem_of_getElem? z
    rcases List.mem_append.mp m with m | m
    · obtain ⟨d, _, q⟩ := List.mem_map.mp m
      cases q
    · have := List.eq_of_mem_replicate m
      cases this
  have only : ∀ {i : Nat} {b : Bool} {fs : List D}, (Cell.var true es :: (ds.map Cell.val ++ List.replicate (N.length - 1 - ds.length) .non))[i]? = some (.var b fs) → i = 0 ∧ b = true ∧ fs = es := fun {i b fs} z => by
    cases i with
    | zero => cases z; exact ⟨rfl, rfl, rfl⟩
    | succ i => exact absurd (by simpa using z) nov
  refine ⟨?_, Ex.refl C, e, fun a o z _ => z, fun a _ z => z, fun i d z => ?_, fun i fs z => ?_, fun p hp => ?_, fun i fs z => ?_, fun p hp q hq _ => ?_, fun p hp q hq _ => ?_, fun p hp => ?_, fun i j fs gs _ z _ => ?_⟩
  · unfold L2.start
    simp only [List.length_append, List.length_map, List.length_replicate, List.length_cons, hl]
    omega
  · cases i with
    | zero => cases z
    | succ i =>
      have z : (ds.map Cell.val ++ List.replicate (N.length - 1 - ds.length) .non)[i]? = some (.val d) := by simpa using z
      have hi : i < ds.length := by
        rcases Nat.lt_or_ge i ds.length with h | h
        · exact h
        · rw [List.getElem?_append_right (by simpa using h)] at z
          have := List.eq_of_mem_replicate (List.mem_of_getElem? z)
          cases this
      rw [List.getElem?_append_left (by simpa using hi), List.getElem?_map] at z
      cases q : ds[i]? with
      | none => rw [q] at z; cases z
      | some d' =>
        rw [q] at z
        cases z
        obtain ⟨v, h1, h2⟩ := dpa_get h q
        refine ⟨v, ?_, h2⟩
        unfold L2.start
        rw [List.map_cons, List.cons_append, List.getElem?_cons_succ, List.getElem?_append_left (by simpa [hl] using hi), List.getElem?_map, h1]
        rfl
  · obtain ⟨_, hb, _⟩ := only z
    cases hb
  · rw [List.mem_singleton.mp hp]
    exact ⟨es, xs, rfl, rfl, hC, hH, hx⟩
  · obtain ⟨h0, _, _⟩ := only z
    subst h0
    exact ⟨l, List.mem_singleton.mpr rfl⟩
  · rw [List.mem_singleton.mp hp, List.mem_singleton.mp hq]
  · rw [List.mem_singleton.mp hp, List.mem_singleton.mp hq]
  · rw [List.mem_singleton.mp hp]
    show H l ≠ none
    rw [hH]
    exact fun z => nomatch z
  · obtain ⟨_, hb, _⟩ := only z
    cases hb
section
variable {P : Program} {w : World} {K : PySem.W.Frag} {mg : Str → Option Value} {base : Heap}
theorem def_okB0 {x qual : Str} {st : Stmt} {f : Addr} {fd : FuncData} {N ps : List Str} {k : Nat} {EC : ECl} {m : M Fl} (F : Fun K x qual st f fd) (S : FnScope N ps (defScope st))
    (hb : ∀ (cdv : Value) (A : Around) (outer : List Env) (s : Shared) (H : Hp) (E : XK), Room k (A.deeper (envOfC qual (defScope st) s.heap.objs.size f cdv)) →
      DSs (cxOf CX0 P w K mg base N qual (defScope st) f cdv A outer s H E).nox EC (fun _ _ _ _ => False) (defBody st) m) : FnOk P w K mg base CX0 (k + 1) f fd ps (SpB K ps.length (mDefB N.length m)) := by
  refine F.ok S (fun vs H Q E h => ?_) (fun cdv A outer s H vs Q E hr h => ?_)
  · obtain ⟨C, l, xs, es, vs', ds, _, _, _, _, _, _, hl, _⟩ := h
    exact hl
  · obtain ⟨C, l, xs, es, vs', ds, ev, e, hC, hH, hx, hd, hl, q⟩ := h
    subst ev
    obtain ⟨t, p, r⟩ := (hb cdv A outer s H E hr).ex
    refine ⟨t, p, r C H [(0, l)] C H (L2.start N (.ref l :: vs')) _ _ (start_srB e hC hH hx hd) (RP.imp (RP.bind q) (fun f δ h1 σ C2 H2 e2 S2 => ?_) fun c d δ z => z.elim)⟩
    obtain ⟨es2, xs2, g1, g2, g3, g4, g5⟩ := S2.bor (0, l) (List.mem_singleton.mpr rfl)
    have g1 : List.head? δ = some (.var true es2) := by rw [List.head?_eq_getElem?]; exact g1
    have fr : ∀ a o, H a = some o → a ≠ l → H2 a = some o := fun a o z ne => S2.fr a o z fun p hp => by
      rw [List.mem_singleton.mp hp]
      exact fun q => ne q.symm
    cases f with
    | nx =>
      simp only [g1] at h1
      exact h1 es2 rfl .non C2 H2 xs2 e2 S2.ch fr S2.nw g3 g4 g5 .non
    | rt d =>
      simp only [g1] at h1
      exact fun v hv => h1 es2 rfl v C2 H2 xs2 e2 S2.ch fr S2.nw g3 g4 g5 hv
    | bk =>
      exact h1.elim
    | ct =>
      exact h1.elim
theorem def_okB {x : Str} {st : Stmt} {N ps : List Str} {k : Nat} {EC : ECl} {m : M Fl} (F : FunX K mg x st ps) (S : FnScope N ps (defScope st))
    (hb : ∀ (f : Addr) (cdv : Value) (A : Around) (outer : List Env) (s : Shared) (H : Hp) (E : XK), Room k (A.deeper (envOfC x (defScope st) s.heap.objs.size f cdv)) →
      DSs (cxOf CX0 P w K mg base N x (defScope st) f cdv A outer s H E).nox EC (fun _ _ _ _ => False) (defBody st) m) : FnB P w K mg base (k + 1) x ps.length (mDefB N.length m) := by
  obtain ⟨f, fd, F, hg, hbi⟩ := F.ex
  exact ⟨f, fd, ps, def_okB0 F S fun cdv A outer s H E hr => hb f cdv A outer s H E hr, hg, F.kp, binds_of hbi⟩
end
section
variable {X : Cx} {EC : ECl} {W : WX} {e : Expr} {es : List Expr} {mes : M (List D)} {pos p px : Pos} {k n : Nat} {mf : List D → R D} {x y : Str}
def mCallB (i : Nat) (mf : List D → R D) (mes : M (List D)) : M D := fun δ => match δ[i]? with
  | some (.var _ _) => (mes δ).bind fun ds δ1 => match δ1[i]? with
    | some (.var b es) => (match mf (.list es :: ds) with
      | .ok d [.var true es'] => .ok d (δ1.set i (.var b es'))
      | _ => .no)
    | _ => .no
  | _ => .no
theorem de_lend (i : Nat) (F : FnB X.prog X.w X.K X.mg X.base k x n mf) (hr : Room k X.A) (ha : DA X EC W es mes) (hn : es.length + 1 = n := by rfl) (hN : X.N[i]? = some y := by rfl) (hv : Vis X.env.scope y := by first | exact Or.inl rfl | exact Or.inr (Or.inl rfl) | exact Or.inr (Or.inr rfl)) (hd : (y == ("__debug__" : Str)) = false := by decide) (hcd : (y == ("__classdict__" : Str)) = false := by decide) (hg : Gl X x := by rfl)
    (hdb : (x == ("__debug__" : Str)) = false := by decide) (he : starEach (.Name y px :: es) X.env = (false, eval (.Name y px) X.env) :: starEach es X.env := by rfl) (hpl : (backTo pos (starEach es X.env)).any (·.1) = false := by rfl) :
    DE X EC W (.Call (.Name x p) (.Name y px :: es) [] pos) (mCallB i mf mes) := by
  obtain ⟨f, fd, ps, F, hm, hk, hb⟩ := F.ex
  obtain ⟨t, pa, ra⟩ := ha.ex
  refine ⟨_, pe_call (dvs := []) (ds := []) F hr hg hm hk hb .nil pass0 (pa_cons (pe_var hN hv hd hcd) pa he) hdb he hpl, fun C0 H0 B C H σ δ Q S h => ?_⟩
  unfold mCallB at h
  split at h
  case h_2 => exact h.elim
  rename_i b0 es0 q0
  obtain ⟨l, xs0, k1, k2, k3, k4, _⟩ := S.chg q0
  refine ⟨.ref l, k1, ?_⟩
  have hb := RP.bind h
  refine ra C0 H0 B C H σ δ _ S ?_
  cases q : mes δ with
  | no => rw [q] at hb; exact hb.elim
  | ex c d δ' => rw [q] at hb; exact hb
  | ok ds δ1 =>
    rw [q] at hb
    have hl := ha.len δ ds δ1 q
    intro vs C1 H1 e1 S1 d1
    have hb : RP (match δ1[i]? with
      | some (.var b es) => (match mf (.list es :: ds) with
        | .ok d [.var true es'] => .ok d (δ1.set i (.var b es'))
        | _ => .no)
      | _ => .no) (PKe X.K C0 H0 B C σ Q) (PXe X.K EC W C0 H0 B C σ) := hb
    split at hb
    case h_2 => exact hb.elim
    rename_i b es q1
    obtain ⟨l', xs, w1, w2, w3, w4, _⟩ := S1.chg q1
    rw [k1] at w1
    cases w1
    refine ⟨C1, l, xs, es, vs ++ [], ds, by rw [List.append_nil, List.append_nil], S1.ch, w4, w2, w3, by rw [List.append_nil]; exact d1, by rw [List.append_nil, List.length_cons, dpa_len d1, hl]; exact hn, ?_⟩
    split at hb
    case h_2 => exact hb.elim
    rename_i d es' q2
    rw [q2]
    intro es2 e0 v C2 H2 xs' e2 c2 fr nw c2l h2 a2 dv
    cases e0
    refine hb v C2 H2 (e1.trans e2) ?_ dv
    have hne : ∀ a o, H1 a = some o → a ≠ l → H2 a = some o := fr
    have S3 : SR X.K C0 H0 B C2 (upd H2 l (.lst xs)) σ δ1 := S1.step e2 (fun a o z => by
        by_cases q : a = l
        · subst q
          rw [upd_same, ← z, w2]
        · rw [upd_ne q]
          exact fr a o z q) (fun a o z => by
        have : a ≠ l := fun q => by rw [q, c2l] at z; cases z
        rw [upd_ne this]
        exact c2 a o z) nw
    obtain ⟨l2, xs2, u1, u2, u3, u4, u5⟩ := S3.chg q1
    rw [k1] at u1
    cases u1
    have S4 := u5 xs' es' a2
    have eH : upd (upd H2 l (.lst xs)) l (.lst xs') = H2 := by
      funext a
      by_cases q : a = l
      · subst q
        rw [upd_same, h2]
      · rw [upd_ne q, upd_ne q]
    rw [eH] at S4
    exact S4
end
end DL
end Part_DM

section Part_DN
set_option Elab.async false
set_option linter.all false
set_option maxRecDepth 100000
set_option autoImplicit false
set_option maxHeartbeats 2000000
namespace DL
open PySem PySem.Spec PyProof.Rows L2 Evl
/-! ### comprehensions while a lent list is changed -/
def Cell.isOwn : Cell → Bool
  | .var false _ => true
  | _ => false
def noOwn (δ : Dl) : Bool := δ.all fun c => !c.isOwn
theorem noOwn_at {δ : Dl} (h : noOwn δ = true) {i : Nat} {ds : List D} : δ[i]? ≠ some (.var false ds) := fun e => by
  have z := List.all_eq_true.mp h _ (List.mem_of_getElem? e)
  cases z
theorem noOwn_wipe {δ : Dl} (h : noOwn δ = true) (vs : List Nat) : noOwn (wipeD δ vs) = true := by
  refine List.all_eq_true.mpr fun c hc => ?_
  obtain ⟨i, hi⟩ := List.getElem?_of_mem hc
  cases c with
  | var b ds =>
    cases b with
    | true => rfl
    | false =>
      by_cases q : i ∈ vs
      · cases wipeD_in q hi
      · rw [wipeD_out q] at hi
        exact absurd hi (noOwn_at h)
  | non => rfl
  | val d => rfl
section
variable {K : PySem.W.Frag} {C0 H0 C H C2 H2 : Hp} {B : List (Nat × Addr)} {σ : L2.St} {δ : Dl}
theorem SR.hB (S : SR K C0 H0 B C H σ δ) {a : Addr} (ha : ∀ p ∈ B, p.2 ≠ a) {o : HO} (h : H0 a = some o) : H a = some o := S.fr a o h ha
theorem SR.there (S : SR K C0 H0 B C H σ δ) {a : Addr} (h : H0 a ≠ none) : H a ≠ none := by
  by_cases hb : ∃ p ∈ B, p.2 = a
  · obtain ⟨p, hp, rfl⟩ := hb
    obtain ⟨_, _, _, _, _, h, _⟩ := S.bor p hp
    rw [h]
    exact fun z => nomatch z
  · cases q : H0 a with
    | none => exact absurd q h
    | some o =>
      rw [S.fr a o q fun p hp e => hb ⟨p, hp, e⟩]
      exact fun z => nomatch z
theorem SR.rebaseB (S : SR K C0 H0 B C H σ δ) (h : noOwn δ = true) : SR K C H B C H σ δ where
  len := S.len
  c0 := Ex.refl C
  ch := S.ch
  fr := fun a o z _ => z
  nw := fun a _ z => z
  val := S.val
  own := fun i ds z => absurd z (noOwn_at h)
  bor := S.bor
  btr := S.btr
  bd1 := S.bd1
  bd2 := S.bd2
  bH0 := fun p hp => by
    obtain ⟨_, _, _, _, _, h, _⟩ := S.bor p hp
    rw [h]
    exact fun z => nomatch z
  odis := fun i j ds es _ z => absurd z (noOwn_at h)
theorem SR.unbaseB {σ2 : L2.St} {δ' : Dl} (S : SR K C0 H0 B C H σ δ) (T : SR K C H B C2 H2 σ2 δ') : SR K C0 H0 B C2 H2 σ2 δ' where
  len := T.len
  c0 := S.c0.trans T.c0
  ch := T.ch
  fr := fun a o z hb => T.fr a o (S.fr a o z hb) hb
  nw := fun a z1 z2 => T.nw a (S.there z1) (S.nw a z1 z2)
  val := T.val
  own := fun i ds z => by
    obtain ⟨l, xs, h1, h2, h3, h4, h5⟩ := T.own i ds z
    refine ⟨l, xs, h1, ?_, h3, h4, h5⟩
    cases q : H0 l with
    | none => rfl
    | some o => exact absurd h2 (S.there (by rw [q]; exact fun z => nomatch z))
  bor := T.bor
  btr := T.btr
  bd1 := T.bd1
  bd2 := T.bd2
  bH0 := S.bH0
  odis := T.odis
end
def mLcB (vs : List Nat) (g : D → Dl → Option Dl) (t : M Bool) (e : M D) : List D → M (List D)
  | [], δ => .ok [] δ
  | x :: xs, δ => match g x (wipeD δ vs) with
    | none => .no
    | some δ1 => (t δ1).noex.bind fun b δ2 => if b then (e δ2).noex.bind fun y δ3 => if noOwn δ3 then (mLcB vs g t e xs δ3).bind fun ys δ4 => .ok (y :: ys) δ4 else .no
      else if noOwn δ2 then mLcB vs g t e xs δ2 else .no
def mLcSB (vs : List Nat) (it : M (List D)) (g : D → Dl → Option Dl) (t : M Bool) (e : M D) : M (List D) := fun δ => (it δ).bind fun xs δ1 => if noOwn δ1 && (noMut δ1 vs && decide (xs.length ≤ LINE)) then (mLcB vs g t e xs δ1).bind fun ys δ2 => .ok ys (backD δ1 δ2 vs) else .no
section
variable {X : Cx} {EC : ECl} {W : WX}
theorem lc_readB {K : PySem.W.Frag} {wi : TI} {mi : M (List D)} {ts ws : List Nat} {g : D → Dl → Option Dl} {mt : M Bool} {me : M D} {W0 : WX} (hts : ∀ k ∈ ts, k ∈ ws)
    (ri : ∀ C0 H0 B C H σ δ (R : It → Hp → Prop), SR K C0 H0 B C H σ δ → RP (mi δ) (fun items δ => ∀ J C1 H1, Ex C C1 → SR K C0 H0 B C1 H1 σ δ → ItOk K C1 J items → R J H1) (PXe K EC W C0 H0 B C σ) → wi σ H R) :
    ∀ C0 H0 B C H σ δ Q, SR K C0 H0 B C H σ δ → RP (mLcSB ws mi g mt me δ) (PKl K C0 H0 B C σ Q) (PXe K EC W C0 H0 B C σ) → tLc wi (tGd K ts g) (tTd K EC W0 mt) (tE K EC W0 me) ws σ H Q := by
  intro C0 H0 B C H σ δ Q S h
  refine ri C0 H0 B C H σ δ _ S (RP.imp (RP.bind h) (fun items δ1 h1 J C1 H1 e1 S1 it => ?_) fun c d δ h => h)
  intro Dl hD
  obtain ⟨G, Y, wk, hG, hY⟩ := it.ex
  split at h1
  case isFalse => exact h1.elim
  rename_i hcond
  rw [Bool.and_eq_true, Bool.and_eq_true] at hcond
  obtain ⟨hnv, hnm, hlen⟩ := hcond
  have hlen := of_decide_eq_true hlen
  have hB : ∀ p ∈ B, p.1 ∉ ws := fun p hp q => by
    obtain ⟨ds, _, h1, _⟩ := S1.bor p hp
    exact noMut_at hnm q _ _ h1
  obtain ⟨h0D, nmD⟩ := S1.nm hD
  have hBD : ∀ p ∈ B, p.2 ≠ Dl := fun p hp e => S1.bH0 p hp (by rw [e]; exact h0D)
  have hvD : ∀ {C5 H5 : Hp} {σ5 : L2.St} {δ5 : List Cell}, SR K C0 H0 B C5 H5 σ5 δ5 → noOwn δ5 = true → ∀ (i : Nat) (b : Bool) (es : List D), δ5[i]? = some (.var b es) → σ5[i]? ≠ some (some (.ref Dl)) := fun {C5 H5 σ5 δ5} S5 hn i b es z hs => by
    cases b with
    | false => exact noOwn_at hn z
    | true =>
      obtain ⟨l, hl⟩ := S5.btr i es z
      obtain ⟨_, _, _, w2, _⟩ := S5.bor _ hl
      rw [hs] at w2
      cases w2
      exact hBD _ hl rfl
  have hfin := RP.bind h1
  refine lc_it wk (fun i H' => ∃ C' δ' acc vs, Ex C1 C' ∧ SR K C0 H0 B C' H' (wipe σ ws) (wipeD δ' ws) ∧ H' Dl = some (.lst vs) ∧ C' Dl = none ∧ noOwn δ' = true ∧ acc.length ≤ i ∧ DqAll K C' vs acc ∧
    RP (mLcB ws g mt me (items.drop i) δ') (fun ys δ2 => PKl K C0 H0 B C1 σ Q (acc ++ ys) (backD δ1 δ2 ws)) (PXe K EC W C0 H0 B C1 σ)) ⟨C1, δ1, [], [], Ex.refl _, (S1.newN hD).wipe hB, upd_same, free_of S1.ch hD, hnv, Nat.le_refl _, .nil, RP.imp hfin (fun ys δ2 z => PKl.mono e1 _ _ (show PKl K C0 H0 B C σ Q ys (backD δ1 δ2 ws) from z)) (PXe.mono e1)⟩
    (fun i H' _ ⟨C', δ', acc, vs, e2, S2, _⟩ => hG H' (e2.trans S2.ch)) ?_ ?_
  · rintro i x H2 H3 hi ⟨C', δ', acc, vs, e2, S2, hDl, hCD, hv, hacc, dacc, q⟩ y
    have hdrop : items.drop i = items[i] :: items.drop (i + 1) := List.drop_eq_getElem_cons hi
    have hget : items[i]? = some items[i] := List.getElem?_eq_getElem hi
    rw [hdrop] at q
    unfold mLcB at q
    have nw := noOwn_wipe hv ws
    have T2 := S2.rebaseB nw
    have hlong : vs.length ≤ i := by rw [dpa_len dacc]; exact hacc
    refine hY i _ hget C' H2 x H3 (fun x H3 => tGd K ts g x (wipe σ ws) H3 _) e2 S2.ch y (rs_of (C0 := C') (H0 := H2) (B := B) (σ := wipe σ ws) (δ := wipeD δ' ws) T2 fun v C3 H3 e3 T3 d3 => ?_)
    cases hg1 : g items[i] (wipeD δ' ws) with
    | none => rw [hg1] at q; exact q.elim
    | some δ1' =>
      rw [hg1] at q
      refine ⟨C', H2, B, C3, wipeD δ' ws, δ1', items[i], T3, d3, hg1, fun σ4 T4 w4 => ?_⟩
      have w4' : wipe σ4 ws = wipe σ ws := by
        have := w4 ws hts
        have z : ∀ (us : List Nat), wipe (wipe σ us) us = wipe σ us := by
          intro us
          apply List.ext_getElem?
          intro k
          by_cases hk : k ∈ us
          · cases k1 : (wipe (wipe σ us) us)[k]? with
            | none =>
              have := List.getElem?_eq_none_iff.mp k1
              rw [wipe_length] at this
              exact (List.getElem?_eq_none_iff.mpr this).symm
            | some c =>
              have hl := (List.getElem?_eq_some_iff.mp k1).1
              rw [wipe_length] at hl
              cases c with
              | some v => exact absurd hk (wipe_some k1).2
              | none =>
                cases k2 : (wipe σ us)[k]? with
                | none =>
                  have := List.getElem?_eq_none_iff.mp k2
                  omega
                | some c2 =>
                  cases c2 with
                  | none => rfl
                  | some v => exact absurd hk (wipe_some k2).2
          · rw [wipe_out' hk]
        rw [this, z]
      refine ⟨w4', C', H2, B, C3, δ1', T4, RP.imp (RP.noex (RP.bind q)) (fun b δ5 h5 C5 H5 e5 T5 => ?_) fun _ _ _ z => z⟩
      have hD5 : H5 Dl = some (.lst vs) := T5.fr Dl _ hDl hBD
      have hC5 : C5 Dl = none := T5.nw Dl (by rw [hDl]; exact fun z => nomatch z) hCD
      dsimp only
      cases b with
      | false =>
        rw [if_neg Bool.false_ne_true] at h5 ⊢
        split at h5
        case isFalse => exact h5.elim
        rename_i hv5
        have S5 := (S2.unbaseB T5).wipe (vs := ws) hB
        rw [w4'] at S5
        exact ⟨C5, δ5, acc, vs, e2.trans (e3.trans e5), S5, hD5, hC5, hv5, Nat.le_succ_of_le hacc, dpAll_ex (e3.trans e5) _ _ dacc, h5⟩
      | true =>
        rw [if_pos rfl] at h5 ⊢
        refine ⟨C', H2, B, C5, δ5, T5, RP.imp (RP.noex (RP.bind h5)) (fun yd δ6 h6 yv C6 H6 e6 T6 d6 => ?_) fun _ _ _ z => z⟩
        have hD6 : H6 Dl = some (.lst vs) := T6.fr Dl _ hDl hBD
        have hC6 : C6 Dl = none := T6.nw Dl (by rw [hDl]; exact fun z => nomatch z) hCD
        split at h6
        case isFalse => exact h6.elim
        rename_i hv6
        have S6 := (S2.unbaseB T6).wipe (vs := ws) hB
        rw [w4'] at S6
        have nv6 := noOwn_wipe hv6 ws
        have hszz : vs.length < sizeLine := by rw [line_eq]; omega
        have e36 := e3.trans (e5.trans e6)
        refine ⟨vs, hD6, hszz, C6, δ6, acc ++ [yd], vs ++ [yv], e2.trans e36, S6.mutN h0D hC6 (hvD S6 nv6), upd_same, hC6, hv6, by rw [List.length_append]; exact Nat.succ_le_succ hacc, dpa_app (dpAll_ex e36 _ _ dacc) (dpa_one d6), ?_⟩
        refine RP.imp (RP.bind h6) (fun ys δ7 h7 => ?_) fun _ _ _ z => z
        rw [List.append_assoc]
        exact h7
  · rintro H' ⟨C', δ', acc, vs, e2, S2, hDl, hCD, hv, hacc, dacc, q⟩
    rw [List.drop_length] at q
    have q : PKl K C0 H0 B C1 σ Q (acc ++ []) (backD δ1 δ' ws) := q
    rw [List.append_nil] at q
    have S3 := S1.back hnm e2 S2
    have hn3 : noOwn (backD δ1 δ' ws) = true := by
      refine List.all_eq_true.mpr fun c hc => ?_
      obtain ⟨i, hi⟩ := List.getElem?_of_mem hc
      cases c with
      | non => rfl
      | val d => rfl
      | var b es =>
        cases b with
        | true => rfl
        | false =>
          exfalso
          by_cases hk : i ∈ ws
          · have z1 := backD_in hk hi
            unfold List.getD at z1
            cases k : δ1[i]? with
            | none => rw [k] at z1; cases z1
            | some c =>
              rw [k] at z1
              have z1 : Cell.var false es = c := z1
              rw [← z1] at k
              exact noOwn_at hnv k
          · rw [backD_out hk] at hi
            exact noOwn_at hv hi
    exact q Dl vs C' H' e2 S3 hCD hDl h0D (hvD S3 hn3) dacc
theorem dl_lcB {elt tg iter : Expr} {ifs : List Expr} {scope : Scope} {own : List (Str × Nat)} {pos : Pos} {mi : M (List D)} {ts : List Nat} {g : D → Dl → Option Dl} {mt : M Bool} {me : M D} {W0 : WX} (hc : X.calm = true) (hN : X.N.Nodup) (hi : DI X EC W tg iter mi) (ok : BlkOk X.N X.env.scope scope own)
    (hg : ∀ (s : Shared) (H : Hp) (C : Addr) (cl : List (Str × Addr)) (fp : List Addr), DG (X.blk s H scope (compEnvC scope cl C X.env) fp) tg ts g) (hts : ∀ k ∈ ts, k ∈ own.map (·.2))
    (ht : ∀ (s : Shared) (H : Hp) (C : Addr) (cl : List (Str × Addr)) (fp : List Addr), DTs (X.blk s H scope (compEnvC scope cl C X.env) fp) EC W0 ifs mt)
    (he : ∀ (s : Shared) (H : Hp) (C : Addr) (cl : List (Str × Addr)) (fp : List Addr), DE (X.blk s H scope (compEnvC scope cl C X.env) fp) EC W0 elt me) (hs : ∀ x, foldedSetIterable iter X.env x = pure x := by intro _; rfl) :
    DL' X EC W (.ListComp elt [⟨tg, iter, ifs, 0⟩] scope pos) (mLcSB (own.map (·.2)) mi g mt me) := by
  obtain ⟨wi, pi, ri⟩ := hi.ex
  exact ⟨_, pe_lc (g := tGd X.K ts g) (tt := tTd X.K EC W0 mt) (te := tE X.K EC W0 me) hc hN pi ok (fun s H C cl fp => (hg s H C cl fp).pg) (fun s H C cl fp => (ht s H C cl fp).ex) (fun s H C cl fp => (he s H C cl fp).pe) hs, lc_readB hts ri⟩
end
end DL
end Part_DN

section Part_DOa
set_option Elab.async false
set_option linter.all false
set_option maxRecDepth 100000
set_option autoImplicit false
set_option maxHeartbeats 2000000
namespace DL
open PySem PySem.Spec PyProof.Rows L2 Evl
/-! ### zip of a tuple and a list -/
def ItzM (K : PySem.W.Frag) (a b : Addr) : It :=
  ⟨fun i H => ∃ (xs ys : List V) (x y : V), SqT K H a xs ∧ SqL K H b ys ∧ xs[i]? = some x ∧ ys[i]? = some y,
    fun i H v H' => ∃ T x y, v = .ref T ∧ H T = none ∧ H' = upd H T (.tup [x, y]) ∧ (∀ xs, SqT K H a xs → xs[i]? = some x) ∧ ∀ ys, SqL K H b ys → ys[i]? = some y,
    fun i H => ∃ xs ys : List V, SqT K H a xs ∧ SqL K H b ys ∧ i ≤ xs.length ∧ i ≤ ys.length ∧ (i = xs.length ∨ i = ys.length)⟩
theorem sep2_of {z TI TO i1 i2 a b : Addr} (D : ZipApart z TI TO i1 i2 a b) : ZipSep2 z TI TO i1 i2 [i1, a] [i2, b] where
  TIz := D.TIz
  TOz := D.TOz
  TITO := D.TITO
  TIi1 := D.TIi1
  mem1 := by simp
  zf1 := by simp only [List.mem_cons, List.not_mem_nil, or_false, not_or]; exact ⟨D.i1z.symm, D.l1z.symm⟩
  Tf1 := by simp only [List.mem_cons, List.not_mem_nil, or_false, not_or]; exact ⟨D.TOi1, D.l1TO.symm⟩
  TIi2 := D.TIi2
  mem2 := by simp
  zf2 := by simp only [List.mem_cons, List.not_mem_nil, or_false, not_or]; exact ⟨D.i2z.symm, D.l2z.symm⟩
  Tf2 := by simp only [List.mem_cons, List.not_mem_nil, or_false, not_or]; exact ⟨D.TOi2, D.l2TO.symm⟩
  sep1_2 := by simp only [List.mem_cons, List.not_mem_nil, or_false, not_or]; exact ⟨D.i12, D.l2i1.symm⟩
  sep2_1 := by simp only [List.mem_cons, List.not_mem_nil, or_false, not_or]; exact ⟨D.i12.symm, D.l1i2.symm⟩
theorem turn_zipM {P : Program} {w : World} {K : PySem.W.Frag} {elts : List Expr} {kk : Nat} {tpos : Pos} {a b z TI TO i1 i2 : Addr} (D : ZipApart z TI TO i1 i2 a b) :
    Turn P w K (.Tuple elts kk tpos) (ItzM K a b) [z, TI, TO, i1, i2] z (fun i h => IsZip h z TI TO .none ∧ IsPair h TI (.ref i1) (.ref i2) ∧ (∃ x y, IsPair h TO x y) ∧ h.IsTupleIter i1 a i ∧ h.IsListIter i2 b i) where
  mem := by simp
  obj := fun i h st c hc => by
    obtain ⟨hz, hTI, ⟨x, y, hTO⟩, ⟨o1, e1, _, d1⟩, ⟨o2, e2, _, d2⟩⟩ := st
    have e' : c = z ∨ c = TI ∨ c = TO ∨ c = i1 ∨ c = i2 := by simpa using hc
    rcases e' with q | q | q | q | q
    · rw [q]; exact ⟨_, hz, fun v q => nomatch q⟩
    · rw [q]; exact ⟨_, hTI, fun v q => nomatch q⟩
    · rw [q]; exact ⟨_, hTO, fun v q => nomatch q⟩
    · rw [q]; exact ⟨o1, e1, fun v q => by rw [d1] at q; cases q⟩
    · rw [q]; exact ⟨o2, e2, fun v q => by rw [d2] at q; cases q⟩
  keep := fun i h h' st k => by
    obtain ⟨hz, hTI, ⟨x, y, hTO⟩, h1, h2⟩ := st
    exact ⟨k z (by simp) _ hz, k TI (by simp) _ hTI, ⟨x, y, k TO (by simp) _ hTO⟩, h1.at fun o q => k i1 (by simp) o q, h2.at fun o q => k i2 (by simp) o q⟩
  item := by
    intro X hP hw hK hc i pins s σ H E I hf st hg
    subst hP hw hK
    obtain ⟨hz, hTI, ⟨x0, y0, hTO⟩, h1, h2⟩ := st
    obtain ⟨xs, ys, x, y, hqx, hqy, hx, hy⟩ := hg
    obtain ⟨its, rv, p, _⟩ := I.tuple hqx
    obtain ⟨its2, rv2, p2, _⟩ := I.list hqy
    obtain ⟨u, hu, ru⟩ := rv.get hx
    obtain ⟨u2, hu2, ru2⟩ := rv2.get hy
    have hzl : z < s.heap.objs.size := Heap.lt_size hz
    have hu' : its.toArray[i]? = some u := by simpa using hu
    have hu2' : its2.toArray[i]? = some u2 := by simpa using hu2
    have hA : X.A.in1.handled = none := I.ok.hd hc
    refine wpAny_pyNext_zipD2_item (i := i) (sep2_of D) (Draws.tuple hA i1 a D.l1i1 its.toArray) (Draws.list hA i2 b D.l2i2 its2.toArray) hz hTI hTO ⟨h1, p⟩ ⟨h2, p2.isList⟩ (by
      rcases Nat.lt_or_ge i its.toArray.size with q | q
      · exact q
      · rw [Array.getElem?_eq_none q] at hu'; cases hu') (by
      rcases Nat.lt_or_ge i its2.toArray.size with q | q
      · exact q
      · rw [Array.getElem?_eq_none q] at hu2'; cases hu2') fun x1 x2 h' tk y1 y2 z' TO' d1 d2 hT hsz hk => ?_
    rw [hu'] at y1
    rw [hu2'] at y2
    cases y1
    cases y2
    obtain ⟨h1', _⟩ := d1
    obtain ⟨h2', _⟩ := d2
    refine ⟨_, rfl, wpAny_letOwnedTupleGo_zip (s := { s with heap := h', toks := tk }) z' fun h'' z'' sb => ?_⟩
    have hT2 : h''.get? s.heap.objs.size = some { cls := .type "tuple", data := .seq #[u, u2] } := (sb.2 _ (Nat.ne_of_gt hzl)).trans hT
    have new : ObjOk X.prog X.w (upd H s.heap.objs.size (.tup [x, y])) h'' s.heap.objs.size (.tup [x, y]) :=
      ⟨by show 2 ≤ sizeLine; decide, [u, u2], .cons ru (.cons ru2 .nil), ⟨_, hT2, rfl, _, rfl⟩⟩
    have I1 : Inv X pins σ (upd H s.heap.objs.size (.tup [x, y])) { s with heap := h'', toks := tk } :=
      I.turnedNew (t' := tk) (ch := [z, TI, TO, i1, i2]) (fun c o hb q => (sb.2 c (fun q' => hb (by simp [q']))).trans (hk c o (fun q' => hb (by simp [q'])) (fun q' => hb (by simp [q'])) (fun q' => hb (by simp [q'])) (fun q' => hb (by simp [q'])) q)) hf (Nat.le_refl _) new
    refine ⟨.ref s.heap.objs.size, _, I1, rfl, ⟨_, x, y, rfl, I.hok.fresh (Nat.le_refl _), rfl, fun l hl => by rw [I.tuple_inj hl hqx]; exact hx, fun l hl => by rw [I.list_inj hl hqy]; exact hy⟩, ⟨z'', ?_, ⟨u, u2, ?_⟩, ?_, ?_⟩, fun c hcm => ?_⟩
    · exact (sb.2 _ D.TIz).trans (hk _ _ D.TIz D.TITO D.TIi1 D.TIi2 hTI)
    · exact (sb.2 _ D.TOz).trans TO'
    · exact h1'.at fun o q => (sb.2 _ D.i1z).trans q
    · exact h2'.at fun o q => (sb.2 _ D.i2z).trans q
    · have hlt : c < s.heap.objs.size := by
        have e' : c = z ∨ c = TI ∨ c = TO ∨ c = i1 ∨ c = i2 := by simpa using hcm
        rcases e' with q | q | q | q | q
        · rw [q]; exact hzl
        · rw [q]; exact Heap.lt_size hTI
        · rw [q]; exact Heap.lt_size hTO
        · rw [q]; obtain ⟨_, e1, _⟩ := h1; exact Heap.lt_size e1
        · rw [q]; obtain ⟨_, e2, _⟩ := h2; exact Heap.lt_size e2
      rw [upd_ne (Nat.ne_of_lt hlt)]
      exact (hf c hcm).1
  done := by
    intro X hP hw hK hc i pins s σ H E I hf st hg
    subst hP hw hK
    obtain ⟨hz, hTI, ⟨x0, y0, hTO⟩, h1, h2⟩ := st
    obtain ⟨xs, ys, hqx, hqy, hi1, hi2, hend⟩ := hg
    obtain ⟨its, rv, p, _⟩ := I.tuple hqx
    obtain ⟨its2, rv2, p2, _⟩ := I.list hqy
    have l1 := rv.length
    have l2 := rv2.length
    have hA : X.A.in1.handled = none := I.ok.hd hc
    exact wpAny_pyNext_zipD2_end (i := i) (sep2_of D) (Draws.tuple hA i1 a D.l1i1 its.toArray) (Draws.list hA i2 b D.l2i2 its2.toArray) hz hTI hTO ⟨h1, p⟩ ⟨h2, p2.isList⟩ (by simp; omega) (by simp; omega) (by simp; omega) fun h' tk hk => ⟨rfl, I.turnedL (t' := tk) (ch := [z, TI, TO, i1, i2]) (fun c o hb q =>
      hk c o (fun q' => hb (by simp [q'])) (fun q' => hb (by simp [q'])) (fun q' => hb (by simp [q'])) (fun q' => hb (by simp [q'])) q) hf⟩
  self := fun A i s Q E st h => wpAny_pyIter_zip st.1 h
def iZipM (K : PySem.W.Frag) (ta : TA) : TI := fun σ H R => ta σ H fun vs H1 => ∃ a b xs ys, vs = [.ref a, .ref b] ∧ SqT K H1 a xs ∧ SqL K H1 b ys ∧ R (ItzM K a b) H1
theorem pi_zipM {X : Cx} {e e2 : Expr} {ta : TA} {p pos tpos : Pos} {elts : List Expr} {kk : Nat} (hg : Gl X "zip") (hm : X.mg "zip" = none) (ha : PA X [e, e2] ta)
    (hs : starEach [e, e2] X.env = (false, eval e X.env) :: starEach [e2] X.env := by rfl) (hpl : (backTo pos (starEach [e2] X.env)).any (·.1) = false := by rfl) :
    PI X (.Tuple elts kk tpos) (.Call (.Name "zip" p) [e, e2] [] pos) (iZipM X.K ta) := by
  refine ⟨fun pins s σ H R I h => ?_⟩
  refine Call_ (ld_blt I hg hm PyProof.Rows.boot_zip (PyProof.Rows.callWith_type1 (thn (ha.run pos pins s σ H _ I h) fun us s1 ⟨vs, H1, I1, r1, q1⟩ => ?_) hs hpl))
  obtain ⟨a, b, xs, ys, ex, hqx, hqy, q⟩ := q1
  subst ex
  cases r1 with
  | cons r rr =>
    cases rr with
    | cons r' rr =>
      cases rr
      cases r
      cases r'
      have fresh5 : ∀ c, c ∈ [s1.heap.objs.size + 4, s1.heap.objs.size + 2, s1.heap.objs.size + 3, s1.heap.objs.size, s1.heap.objs.size + 1] → FpOk X pins H1 c := fun c hcm => by
        have e' : c = s1.heap.objs.size + 4 ∨ c = s1.heap.objs.size + 2 ∨ c = s1.heap.objs.size + 3 ∨ c = s1.heap.objs.size ∨ c = s1.heap.objs.size + 1 := by simpa using hcm
        have hle : s1.heap.objs.size ≤ c := by
          rcases e' with z | z | z | z | z
          · rw [z]; exact Nat.le_add_right _ _
          · rw [z]; exact Nat.le_add_right _ _
          · rw [z]; exact Nat.le_add_right _ _
          · rw [z]; exact Nat.le_refl _
          · rw [z]; exact Nat.le_add_right _ _
        exact I1.fpOk hle (I1.hok.fresh hle)
      obtain ⟨its, rv, p1, _⟩ := I1.tuple hqx
      obtain ⟨its2, rv2, p2, _⟩ := I1.list hqy
      obtain ⟨o1, ho1, _⟩ := id p1
      refine zip_begins2 (begins_tuple a its.toArray) (begins_list b its2.toArray) p1 p2.isList fun h' hz hTI hTO h1 h2 hsz hk => wpAny_pyIter_zip hz ?_
      have I2 : Inv X pins σ H1 { s1 with heap := h' } := I1.kept (t' := s1.toks) hk
      exact ⟨s1.heap.objs.size + 4, [s1.heap.objs.size + 4, s1.heap.objs.size + 2, s1.heap.objs.size + 3, s1.heap.objs.size, s1.heap.objs.size + 1], _, _, H1, rfl, I2, turn_zipM (PySem.W.ktu_apart s1.heap.objs.size a b (Heap.lt_size ho1) p2.lt), ⟨hz, hTI, ⟨_, _, hTO⟩, ⟨_, h1, rfl, rfl⟩, ⟨_, h2, rfl, rfl⟩⟩, fresh5, q⟩
theorem walk_zipM {K : PySem.W.Frag} {a b : Addr} {xs ys : List V} {n : Nat} (hn : n = min xs.length ys.length) : Walk (ItzM K a b) n (fun H => SqT K H a xs ∧ SqL K H b ys) (YPair (fun i => xs[i]?) (fun i => ys[i]?)) := by
  subst hn
  refine ⟨fun i _ hi q => ?_, fun _ q => ⟨xs, ys, q.1, q.2, by omega, by omega, by omega⟩, fun i H v H' _ q y => ?_⟩
  · have h1 : i < xs.length := by omega
    have h2 : i < ys.length := by omega
    exact ⟨xs, ys, xs[i], ys[i], q.1, q.2, by simp [h1], by simp [h2]⟩
  · obtain ⟨T, x, z, h1, h2, h3, h4, h5⟩ := y
    exact ⟨T, x, z, h1, h2, h3, h4 xs q.1, h5 ys q.2⟩
section
variable {X : Cx} {EC : ECl} {W : WX} {a b c e : Expr} {es : List Expr} {ma mb mc : M D} {mes : M (List D)} {pos p p2 px apos : Pos} {x y : Str}
def dZipM : List D → Option (List D)
  | [.tuple xs, .list ys] => some (zipD xs ys)
  | _ => none
def mZipM (a b : M D) : M (List D) := fun δ => (a δ).bind fun x δ => (b δ).bind fun y δ => R.lift (dZipM [x, y]) δ
theorem di_zipM {elts : List Expr} {kk : Nat} {tpos : Pos} (hg : Gl X "zip") (hm : X.mg "zip" = none) (h : DE X EC W a ma) (h2 : DE X EC W b mb) (hs' : starEach (a :: [b]) X.env = (false, eval a X.env) :: starEach [b] X.env := by rfl) (hs3 : starEach (b :: []) X.env = (false, eval b X.env) :: starEach [] X.env := by rfl) (hpl : (backTo pos (starEach [b] X.env)).any (·.1) = false := by rfl) :
    DI X EC W (.Tuple elts kk tpos) (.Call (.Name "zip" p) [a, b] [] pos) (mZipM ma mb) := by
  obtain ⟨te, pe, re⟩ := h.ex
  obtain ⟨tb, pb, rb⟩ := h2.ex
  refine ⟨_, pi_zipM hg hm (pa_cons pe (pa_cons pb pa_nil hs3) hs') hs' hpl, fun C0 H0 B C H σ δ RR S h => re C0 H0 B C H σ δ _ S (RP.imp (RP.bind h) (fun x δ1 h1 v C1 H1 e1 S1 d1 => ?_) fun c d δ h => h)⟩
  refine rb C0 H0 B C1 H1 σ δ1 _ S1 (RP.imp (RP.bind h1) (fun y δ2 h2 w C2 H2 e2 S2 d2 => ?_) (PXe.mono e1))
  obtain ⟨items, hi, q⟩ := RP.lift h2
  have d1 := dp_ex e2 _ _ d1
  unfold dZipM at hi
  split at hi
  · rename_i hq
    cases hq
    cases hi
    cases d1 with
    | tup l1 a1 =>
      cases d2 with
      | lst l2 a2 =>
        refine ⟨_, _, _, _, rfl, ex_t S2.ch l1, ex_l S2.ch l2, q _ C2 H2 (e1.trans e2) S2 (it_pair (walk_zipM rfl) ?_ (fun H e => ⟨ex_t e l1, ex_l e l2⟩) a1 a2)⟩
        rw [zip_len, dpa_len a1, dpa_len a2]
  · cases hi
end
end DL
end Part_DOa

section Part_DOb
set_option Elab.async false
set_option linter.all false
set_option maxRecDepth 100000
set_option autoImplicit false
set_option maxHeartbeats 2000000
namespace DL
open PySem PySem.Spec PyProof.Rows L2 Evl
/-! ### own lists count as lent while an expression is walked -/
def Cell.lend : Cell → Cell
  | .var _ ds => .var true ds
  | c => c
def lendD (δ : Dl) : Dl := δ.map Cell.lend
def unl : Cell → Cell → Cell
  | .var false _, .var true ds => .var false ds
  | _, c => c
def unlendD : Dl → Dl → Dl
  | c :: cs, c' :: cs' => unl c c' :: unlendD cs cs'
  | [], δ => δ
  | _ :: _, [] => []
theorem lendD_at {δ : Dl} {i : Nat} : (lendD δ)[i]? = (δ[i]?).map Cell.lend := List.getElem?_map ..
theorem unlendD_at : ∀ (δ δ' : Dl) (i : Nat), (unlendD δ δ')[i]? = match δ[i]? with
    | some c => (δ'[i]?).map (unl c)
    | none => δ'[i]?
  | [], δ', i => by unfold unlendD; simp
  | c :: cs, [], i => by
    unfold unlendD
    cases h : (c :: cs)[i]? <;> simp
  | c :: cs, c' :: cs', 0 => by unfold unlendD; simp
  | c :: cs, c' :: cs', i + 1 => by
    unfold unlendD
    simp only [List.getElem?_cons_succ]
    exact unlendD_at cs cs' i
theorem unl_non {c c' : Cell} : unl c c' = .non → c' = .non := by
  intro h
  unfold unl at h
  split at h
  · cases h
  · exact h
theorem unl_val {c c' : Cell} {d : D} : unl c c' = .val d → c' = .val d := by
  intro h
  unfold unl at h
  split at h
  · cases h
  · exact h
theorem unl_true {c c' : Cell} {ds : List D} : unl c c' = .var true ds → c' = .var true ds ∧ ∀ es, c ≠ .var false es := by
  intro h
  unfold unl at h
  split at h
  · cases h
  · rename_i hn
    subst h
    exact ⟨rfl, fun es e => hn es ds e rfl⟩
theorem unl_false {c c' : Cell} {ds : List D} : unl c c' = .var false ds → (c' = .var false ds) ∨ (c' = .var true ds ∧ ∃ es, c = .var false es) := by
  intro h
  unfold unl at h
  split at h
  · cases h
    exact .inr ⟨rfl, _, rfl⟩
  · exact .inl h
/-- the own lists' places -/
def Owns (σ : L2.St) (δ : Dl) (B2 : List (Nat × Addr)) : Prop := (∀ p ∈ B2, ∃ ds, δ[p.1]? = some (.var false ds) ∧ σ[p.1]? = some (some (.ref p.2))) ∧ ∀ i ds l, δ[i]? = some (.var false ds) → σ[i]? = some (some (.ref l)) → (i, l) ∈ B2
theorem owns_ex (σ : L2.St) (δ : Dl) : ∃ B2, Owns σ δ B2 := by
  refine ⟨(List.range δ.length).filterMap fun i => match (δ[i]? : Option Cell), (σ[i]? : Option (Option V)) with
    | some (Cell.var false _), some (some (V.ref l)) => some (i, l)
    | _, _ => none, fun p hp => ?_, fun i ds l h1 h2 => ?_⟩
  · obtain ⟨i, _, h⟩ := List.mem_filterMap.mp hp
    split at h
    · rename_i q1 q2
      cases h
      exact ⟨_, q1, q2⟩
    · cases h
  · refine List.mem_filterMap.mpr ⟨i, List.mem_range.mpr (List.getElem?_eq_some_iff.mp h1).1, ?_⟩
    rw [h1, h2]
section
variable {K : PySem.W.Frag} {C0 H0 C H C2 H2 : Hp} {B B2 : List (Nat × Addr)} {σ σ2 : L2.St} {δ δ' : Dl}
theorem SR.ownB (S : SR K C0 H0 B C H σ δ) (O : Owns σ δ B2) {p : Nat × Addr} (hp : p ∈ B2) : ∃ ds xs, δ[p.1]? = some (.var false ds) ∧ σ[p.1]? = some (some (.ref p.2)) ∧ H0 p.2 = none ∧ C p.2 = none ∧ H p.2 = some (.lst xs) ∧ DqAll K C xs ds := by
  obtain ⟨ds, h1, h2⟩ := O.1 p hp
  obtain ⟨l, xs, g1, g2, g3, g4, g5⟩ := S.own _ ds h1
  rw [h2] at g1
  cases g1
  exact ⟨ds, xs, h1, h2, g2, g3, g4, g5⟩
theorem SR.lend (S : SR K C0 H0 B C H σ δ) (O : Owns σ δ B2) : SR K C H (B ++ B2) C H σ (lendD δ) where
  len := by unfold lendD; rw [List.length_map]; exact S.len
  c0 := Ex.refl C
  ch := S.ch
  fr := fun a o z _ => z
  nw := fun a _ z => z
  val := fun i d h => by
    rw [lendD_at] at h
    cases q : δ[i]? with
    | none => rw [q] at h; cases h
    | some c =>
      rw [q] at h
      cases c with
      | val d' => cases h; exact S.val i d q
      | non => cases h
      | var b ds => cases h
  own := fun i ds h => by
    rw [lendD_at] at h
    cases q : δ[i]? with
    | none => rw [q] at h; cases h
    | some c => rw [q] at h; cases c <;> cases h
  bor := fun p hp => by
    rcases List.mem_append.mp hp with hp | hp
    · obtain ⟨ds, xs, h1, h2, h3, h4, h5⟩ := S.bor p hp
      exact ⟨ds, xs, by rw [lendD_at, h1]; rfl, h2, h3, h4, h5⟩
    · obtain ⟨ds, xs, h1, h2, _, h3, h4, h5⟩ := S.ownB O hp
      exact ⟨ds, xs, by rw [lendD_at, h1]; rfl, h2, h3, h4, h5⟩
  btr := fun i ds h => by
    rw [lendD_at] at h
    cases q : δ[i]? with
    | none => rw [q] at h; cases h
    | some c =>
      rw [q] at h
      cases c with
      | val d' => cases h
      | non => cases h
      | var b es =>
        cases b with
        | true =>
          obtain ⟨l, hl⟩ := S.btr i es q
          exact ⟨l, List.mem_append_left _ hl⟩
        | false =>
          obtain ⟨l, xs, g1, _⟩ := S.own i es q
          exact ⟨l, List.mem_append_right _ (O.2 i es l q g1)⟩
  bd1 := fun p hp q hq e => by
    rcases List.mem_append.mp hp with hp | hp <;> rcases List.mem_append.mp hq with hq | hq
    · exact S.bd1 p hp q hq e
    · obtain ⟨_, _, _, _, h3, _⟩ := S.ownB O hq
      exact absurd (e ▸ h3) (S.bH0 p hp)
    · obtain ⟨_, _, _, _, h3, _⟩ := S.ownB O hp
      exact absurd (e ▸ h3) (S.bH0 q hq)
    · obtain ⟨d1, _, h1, h2, _⟩ := S.ownB O hp
      obtain ⟨d2, _, g1, g2, _⟩ := S.ownB O hq
      by_cases h : p.1 = q.1
      · exact h
      · exact absurd (by rw [g2, ← e]) (S.odis _ _ d1 d2 h h1 g1 p.2 h2)
  bd2 := fun p hp q hq e => by
    rcases List.mem_append.mp hp with hp | hp <;> rcases List.mem_append.mp hq with hq | hq
    · exact S.bd2 p hp q hq e
    · obtain ⟨_, _, h1, _⟩ := S.bor p hp
      obtain ⟨_, _, g1, _⟩ := S.ownB O hq
      rw [e, g1] at h1
      cases h1
    · obtain ⟨_, _, h1, _⟩ := S.ownB O hp
      obtain ⟨_, _, g1, _⟩ := S.bor q hq
      rw [e, g1] at h1
      cases h1
    · obtain ⟨_, _, _, h2, _⟩ := S.ownB O hp
      obtain ⟨_, _, _, g2, _⟩ := S.ownB O hq
      rw [e, g2] at h2
      injection h2 with h2
      injection h2 with h2
      injection h2 with h2
      exact h2.symm
  bH0 := fun p hp => by
    rcases List.mem_append.mp hp with hp | hp
    · obtain ⟨_, _, _, _, _, h, _⟩ := S.bor p hp
      rw [h]
      exact fun z => nomatch z
    · obtain ⟨_, _, _, _, _, _, h, _⟩ := S.ownB O hp
      rw [h]
      exact fun z => nomatch z
  odis := fun i j ds es _ h => by
    rw [lendD_at] at h
    cases q : δ[i]? with
    | none => rw [q] at h; cases h
    | some c => rw [q] at h; cases c <;> cases h
theorem unlend_some {i : Nat} {c : Cell} (h : (unlendD δ δ')[i]? = some c) : ∃ c', δ'[i]? = some c' ∧ ((δ[i]? = none ∧ c = c') ∨ ∃ c0, δ[i]? = some c0 ∧ c = unl c0 c') := by
  rw [unlendD_at] at h
  cases q : δ[i]? with
  | none => rw [q] at h; exact ⟨c, h, .inl ⟨rfl, rfl⟩⟩
  | some c0 =>
    rw [q] at h
    cases q2 : δ'[i]? with
    | none => rw [q2] at h; cases h
    | some c' =>
      rw [q2] at h
      cases h
      exact ⟨c', rfl, .inr ⟨c0, rfl, rfl⟩⟩
theorem unlend_var {i : Nat} {b : Bool} {ds : List D} (h : (unlendD δ δ')[i]? = some (.var b ds)) : ∃ b', δ'[i]? = some (.var b' ds) := by
  obtain ⟨c', h1, h2⟩ := unlend_some h
  rcases h2 with ⟨_, rfl⟩ | ⟨c0, _, h2⟩
  · exact ⟨b, h1⟩
  · cases b with
    | true => exact ⟨true, by rw [h1, (unl_true h2.symm).1]⟩
    | false =>
      rcases unl_false h2.symm with q | ⟨q, _⟩
      · exact ⟨false, by rw [h1, q]⟩
      · exact ⟨true, by rw [h1, q]⟩
theorem SR.unlend (S : SR K C0 H0 B C H σ δ) (O : Owns σ δ B2) (T : SR K C H (B ++ B2) C2 H2 σ2 δ') : SR K C0 H0 B C2 H2 σ2 (unlendD δ δ') := by
  have ow : ∀ {i : Nat} {ds : List D}, (unlendD δ δ')[i]? = some (.var false ds) → (∃ l xs, (i, l) ∈ B2 ∧ δ'[i]? = some (.var true ds) ∧ σ2[i]? = some (some (.ref l)) ∧ H0 l = none ∧ C2 l = none ∧ H2 l = some (.lst xs) ∧ DqAll K C2 xs ds) ∨ (δ'[i]? = some (.var false ds) ∧ ∃ l xs, σ2[i]? = some (some (.ref l)) ∧ H l = none ∧ H0 l = none ∧ C2 l = none ∧ H2 l = some (.lst xs) ∧ DqAll K C2 xs ds) := fun {i ds} h => by
    have two : ∀ z : δ'[i]? = some (.var false ds), (δ'[i]? = some (.var false ds) ∧ ∃ l xs, σ2[i]? = some (some (.ref l)) ∧ H l = none ∧ H0 l = none ∧ C2 l = none ∧ H2 l = some (.lst xs) ∧ DqAll K C2 xs ds) := fun z => by
      obtain ⟨l, xs, g1, g2, g3, g4, g5⟩ := T.own i ds z
      refine ⟨z, l, xs, g1, g2, ?_, g3, g4, g5⟩
      cases q : H0 l with
      | none => rfl
      | some o => exact absurd g2 (S.there (by rw [q]; exact fun z => nomatch z))
    obtain ⟨c', h1, h2⟩ := unlend_some h
    rcases h2 with ⟨_, rfl⟩ | ⟨c0, hc, h2⟩
    · exact .inr (two h1)
    · rcases unl_false h2.symm with q | ⟨q, es, q2⟩
      · subst q
        exact .inr (two h1)
      · subst q q2
        obtain ⟨l, hl⟩ := T.btr i ds h1
        obtain ⟨ds', xs, g1, g2, g3, g4, g5⟩ := T.bor _ hl
        rw [h1] at g1
        cases g1
        rcases List.mem_append.mp hl with hl | hl
        · obtain ⟨_, _, k1, _⟩ := S.bor _ hl
          rw [hc] at k1
          cases k1
        · obtain ⟨_, _, _, _, k3, _⟩ := S.ownB O hl
          exact .inl ⟨l, xs, hl, h1, g2, k3, g3, g4, g5⟩
  refine ⟨?_, S.c0.trans T.c0, T.ch, fun a o z hb => ?_, fun a z1 z2 => T.nw a (S.there z1) (S.nw a z1 z2), fun i d h => ?_, fun i ds h => ?_, fun p hp => ?_, fun i ds h => ?_, S.bd1, S.bd2, S.bH0, fun i j ds es ne hi hj l hl hs => ?_⟩
  · have hh : ∀ (a b : Dl), (unlendD a b).length = b.length := by
      intro a
      induction a with
      | nil => intro b; unfold unlendD; rfl
      | cons x xs ih =>
        intro b
        cases b with
        | nil => unfold unlendD; rfl
        | cons y ys => unfold unlendD; rw [List.length_cons, List.length_cons, ih]
    rw [hh]
    exact T.len
  · refine T.fr a o (S.fr a o z hb) fun p hp => ?_
    rcases List.mem_append.mp hp with hp | hp
    · exact hb p hp
    · obtain ⟨_, _, _, _, k3, _⟩ := S.ownB O hp
      intro e
      rw [e, z] at k3
      cases k3
  · obtain ⟨c', h1, h2⟩ := unlend_some h
    rcases h2 with ⟨_, rfl⟩ | ⟨c0, _, h2⟩
    · exact T.val i d h1
    · rw [unl_val h2.symm] at h1
      exact T.val i d h1
  · rcases ow h with ⟨l, xs, _, _, g1, g2, g3, g4, g5⟩ | ⟨_, l, xs, g1, _, g2, g3, g4, g5⟩
    · exact ⟨l, xs, g1, g2, g3, g4, g5⟩
    · exact ⟨l, xs, g1, g2, g3, g4, g5⟩
  · obtain ⟨ds, xs, g1, g2, g3, g4, g5⟩ := T.bor p (List.mem_append_left _ hp)
    obtain ⟨_, _, k1, _⟩ := S.bor p hp
    refine ⟨ds, xs, ?_, g2, g3, g4, g5⟩
    rw [unlendD_at, k1, g1]
    rfl
  · obtain ⟨c', h1, h2⟩ := unlend_some h
    have key : δ'[i]? = some (.var true ds) ∧ ∀ es, δ[i]? ≠ some (.var false es) := by
      rcases h2 with ⟨hn, rfl⟩ | ⟨c0, hc, h2⟩
      · exact ⟨h1, fun es e => by rw [hn] at e; cases e⟩
      · obtain ⟨q1, q2⟩ := unl_true h2.symm
        exact ⟨by rw [h1, q1], fun es e => by rw [hc] at e; cases e; exact q2 es rfl⟩
    obtain ⟨l, hl⟩ := T.btr i ds key.1
    rcases List.mem_append.mp hl with hl | hl
    · exact ⟨l, hl⟩
    · obtain ⟨es, _, k1, _⟩ := S.ownB O hl
      exact absurd k1 (key.2 es)
  · rcases ow hi with ⟨l1, xs1, m1, z1, g1, _⟩ | ⟨z1, l1, xs1, g1, n1, _⟩ <;> rcases ow hj with ⟨l2, xs2, m2, z2, g2, _⟩ | ⟨z2, l2, xs2, g2, n2, _⟩
    · rw [g1] at hl
      rw [g2] at hs
      cases hl
      cases hs
      exact ne (S.lend O |>.bd1 (i, l) (List.mem_append_right _ m1) (j, l) (List.mem_append_right _ m2) rfl)
    · rw [g1] at hl
      rw [g2] at hs
      cases hl
      cases hs
      obtain ⟨_, _, _, _, _, _, k, _⟩ := S.ownB O m1
      rw [n2] at k
      cases k
    · rw [g1] at hl
      rw [g2] at hs
      cases hl
      cases hs
      obtain ⟨_, _, _, _, _, _, k, _⟩ := S.ownB O m2
      rw [n1] at k
      cases k
    · exact T.odis i j ds es ne z1 z2 l hl hs
end
section
variable {X : Cx} {EC : ECl} {W : WX} {a b e : Expr} {m : M (List D)} {ma mb : M D} {pos : Pos}
def mLend {α : Type} (m : M α) : M α := fun δ => match m (lendD δ) with
  | .ok xs δ' => .ok xs (unlendD δ δ')
  | _ => .no
theorem dl_own (h : DL' X EC W e m) : DL' X EC W e (mLend m) := by
  obtain ⟨te, p, r⟩ := h.ex
  refine ⟨te, p, fun C0 H0 B C H σ δ Q S h => ?_⟩
  obtain ⟨B2, O⟩ := owns_ex σ δ
  refine r C H (B ++ B2) C H σ (lendD δ) Q (S.lend O) ?_
  unfold mLend at h
  cases q : m (lendD δ) with
  | no => rw [q] at h; exact h.elim
  | ex c d δ' => rw [q] at h; exact h.elim
  | ok ds δ' =>
    rw [q] at h
    intro p xs C2 H2 e2 S2 hC hH h0 hv hd
    refine h p xs C2 H2 e2 (S.unlend O S2) hC hH ?_ (fun i b es hi hs => ?_) hd
    · cases q : H0 p with
      | none => rfl
      | some o => exact absurd h0 (S.there (by rw [q]; exact fun z => nomatch z))
    · obtain ⟨b', hb⟩ := unlend_var hi
      exact hv i b' es hb hs
/-! ### a + b, a new list -/
def mCat (a b : M D) : M (List D) := fun δ => (a δ).bind fun x δ => (b δ).bind fun y δ => match x, y with
  | .list xs, .list ys => if xs.length + ys.length ≤ LINE then .ok (xs ++ ys) δ else .no
  | _, _ => .no
theorem dl_cat (ha : DE X EC W a ma) (hb : DE X EC W b mb) : DL' X EC W (.BinOp a .Add b pos) (mCat ma mb) := by
  obtain ⟨ta, pa, ra⟩ := ha.ex
  obtain ⟨tb, pb, rb⟩ := hb.ex
  refine ⟨_, pe_op op_catR pa pb, fun C0 H0 B C H σ δ Q S h => ra C0 H0 B C H σ δ _ S (RP.imp (RP.bind h) (fun x δ1 h1 v C1 H1 e1 S1 d1 => ?_) fun c d δ h => h)⟩
  refine rb C0 H0 B C1 H1 σ δ1 _ S1 (RP.imp (RP.bind h1) (fun y δ2 h2 w C2 H2 e2 S2 d2 => ?_) (PXe.mono e1))
  split at h2
  case h_2 => exact h2.elim
  rename_i xs ys
  split at h2
  case isFalse => exact h2.elim
  rename_i hl
  have d1 := dp_ex e2 _ _ d1
  cases d1 with
  | lst l1 a1 =>
    cases d2 with
    | lst l2 a2 =>
      refine ⟨_, _, _, _, rfl, rfl, ex_l S2.ch l1, ex_l S2.ch l2, by rw [line_eq, dpa_len a1, dpa_len a2]; exact hl, fun p hp => ?_⟩
      have nH0 : H0 p = none := by
        cases q : H0 p with
        | none => rfl
        | some o =>
          by_cases hb : ∃ k ∈ B, k.2 = p
          · obtain ⟨k, hk, rfl⟩ := hb
            obtain ⟨_, _, _, _, _, h4, _⟩ := S2.bor k hk
            rw [hp] at h4
            cases h4
          · have z := S2.fr p o q fun k hk e => hb ⟨k, hk, e⟩
            rw [hp] at z
            cases z
      refine h2 p _ C2 _ (e1.trans e2) (S2.newN hp) (free_of S2.ch hp) upd_same nH0 (fun i b ds hi hs => ?_) (dpa_app a1 a2)
      cases b with
      | false =>
        obtain ⟨l, ys, h2, _, _, h5, _⟩ := S2.own i ds hi
        rw [h2] at hs
        cases hs
        rw [hp] at h5
        cases h5
      | true =>
        obtain ⟨l, hl⟩ := S2.btr i ds hi
        obtain ⟨_, _, _, h3, _, h5, _⟩ := S2.bor _ hl
        rw [h3] at hs
        cases hs
        rw [hp] at h5
        cases h5
/-! ### max of a list of ints -/
def dMaxL : List D → Option D
  | [.list xs] => match dInts xs with
    | some (n :: ns) => some (.int (ns.foldl max n))
    | _ => none
  | _ => none
theorem foldl_max_le : ∀ (ns : List Int) (n : Int), n ≤ ns.foldl max n ∧ ∀ y ∈ ns, y ≤ ns.foldl max n
  | [], n => ⟨Int.le_refl _, fun y h => nomatch h⟩
  | z :: ns, n => by
    obtain ⟨h1, h2⟩ := foldl_max_le ns (max n z)
    refine ⟨by rw [List.foldl_cons]; omega, fun y hy => ?_⟩
    rw [List.foldl_cons]
    rcases List.mem_cons.mp hy with rfl | hy
    · omega
    · exact h2 y hy
theorem foldl_max_mem : ∀ (ns : List Int) (n : Int), ns.foldl max n = n ∨ ns.foldl max n ∈ ns
  | [], n => .inl rfl
  | z :: ns, n => by
    rw [List.foldl_cons]
    rcases foldl_max_mem ns (max n z) with h | h
    · rw [h]
      rcases Int.le_total n z with q | q
      · right
        rw [Int.max_eq_right q]
        exact List.mem_cons_self ..
      · left
        rw [Int.max_eq_left q]
    · exact .inr (List.mem_cons_of_mem _ h)
theorem rc_maxL : RCf X.K (rMax X.K) dMaxL := by
  intro xs z hz vs C H Q e hv q
  unfold dMaxL at hz
  split at hz
  · split at hz
    · rename_i n ns hn
      cases hz
      cases hv with
      | cons h t =>
        cases t
        cases h with
        | lst h1 h2 =>
          have e1 := dInts_eq hn
          subst e1
          have e2 := dpa_ints h2
          subst e2
          refine ⟨_, n :: ns, rfl, ex_l e h1, Nat.succ_pos _, fun m hm hle => ?_⟩
          have hm2 : ns.foldl max n = m := by
            have z1 := foldl_max_le ns n
            have z2 := foldl_max_mem ns n
            have z3 : m ≤ ns.foldl max n := by
              rcases List.mem_cons.mp hm with rfl | hm
              · exact z1.1
              · exact z1.2 m hm
            have z4 : ns.foldl max n ≤ m := by
              rcases z2 with h | h
              · rw [h]; exact hle _ (List.mem_cons_self ..)
              · exact hle _ (List.mem_cons_of_mem _ h)
            omega
          rw [← hm2]
          exact q.1 _ (.int _)
    · cases hz
  · cases hz
end
section
variable {X : Cx} {EC : ECl} {W : WX}
theorem ds_setLcB (i : Nat) {y : Str} {py : Pos} {elt tg iter : Expr} {ifs : List Expr} {scope : Scope} {own : List (Str × Nat)} {pos spos : Pos} {mi : M (List D)} {ts : List Nat} {g : D → Dl → Option Dl} {mt : M Bool} {me : M D} {W0 : WX} (hc : X.calm = true) (hN : X.N.Nodup) (hy : X.N[i]? = some y) (hyl : X.env.scope.names.lookup y = some .local)
    (hsw : swapsWith (.ListComp elt [⟨tg, iter, ifs, 0⟩] scope pos) (some (.Name y py)) spos.line X.env = pure true) (hi : DI X EC W tg iter mi) (ok : BlkOk X.N X.env.scope scope own)
    (hg : ∀ (s : Shared) (H : Hp) (C : Addr) (cl : List (Str × Addr)) (fp : List Addr), DG (X.blk s H scope (compEnvC scope cl C X.env) fp) tg ts g) (hts : ∀ k ∈ ts, k ∈ own.map (·.2))
    (ht : ∀ (s : Shared) (H : Hp) (C : Addr) (cl : List (Str × Addr)) (fp : List Addr), DTs (X.blk s H scope (compEnvC scope cl C X.env) fp) EC W0 ifs mt)
    (he : ∀ (s : Shared) (H : Hp) (C : Addr) (cl : List (Str × Addr)) (fp : List Addr), DE (X.blk s H scope (compEnvC scope cl C X.env) fp) EC W0 elt me) (hs : ∀ x, foldedSetIterable iter X.env x = pure x := by intro _; rfl) :
    DS X EC W (.Assign [.Name y py] (.ListComp elt [⟨tg, iter, ifs, 0⟩] scope pos) spos) (mSetL i (mLcSB (own.map (·.2)) mi g mt me)) := by
  obtain ⟨wi, pi, ri⟩ := hi.ex
  exact ⟨_, ps_setLc (g := tGd X.K ts g) (tt := tTd X.K EC W0 mt) (te := tE X.K EC W0 me) hc hN hy hyl hsw pi ok (fun s H C cl fp => (hg s H C cl fp).pg) (fun s H C cl fp => (ht s H C cl fp).ex) (fun s H C cl fp => (he s H C cl fp).pe) hs, set_readL (lc_readB hts ri)⟩
end
end DL
end Part_DOb

section Part_K07d
set_option Elab.async false
set_option linter.all false
set_option maxRecDepth 100000
set_option autoImplicit false
set_option maxHeartbeats 2000000
namespace K07
open PySem PySem.Spec PyProof.Rows L2 DL
def top (i : Nat) : Stmt := PySem.Challenge.pw_leastfit_k07_tuples_that_are_no_programs.main.body.getD i (.Pass ⟨0, 0, 0, 0⟩)
def W00 : WX := fun _ _ _ _ => False
abbrev EC0 (C : Addr) : ECl := fun _ => (C, "part")
def t_InvalidProgram : D → Bool := fun _ => true
abbrev s__law_number : Stmt := top 37
abbrev N__law_number : List Str := ["cell", "kind"]
theorem sc__law_number : FnScope N__law_number ["cell"] (defScope s__law_number) := ⟨rfl, rfl, rfl, by decide +kernel, rfl, by decide +kernel, by decide +kernel⟩
abbrev s__law_draws : Stmt := top 34
abbrev N__law_draws : List Str := ["cell", "many", "limit", "draws", "rest", "k", "mixed"]
theorem sc__law_draws : FnScope N__law_draws ["cell", "many", "limit"] (defScope s__law_draws) := ⟨rfl, rfl, rfl, by decide +kernel, rfl, by decide +kernel, by decide +kernel⟩
abbrev s__law_value : Stmt := top 38
abbrev N__law_value : List Str := ["letter", "cell", "size", "k"]
theorem sc__law_value : FnScope N__law_value ["letter", "cell"] (defScope s__law_value) := ⟨rfl, rfl, rfl, by decide +kernel, rfl, by decide +kernel, by decide +kernel⟩
abbrev s__law_take : Stmt := top 39
abbrev N__law_take : List Str := ["numbers", "limit"]
theorem sc__law_take : FnScope N__law_take ["numbers", "limit"] (defScope s__law_take) := ⟨rfl, rfl, rfl, by decide +kernel, rfl, by decide +kernel, by decide +kernel⟩
abbrev s__law_leaf : Stmt := top 40
abbrev N__law_leaf : List Str := ["numbers", "letter", "kinds", "inputs", "k"]
theorem sc__law_leaf : FnScope N__law_leaf ["numbers", "letter", "kinds"] (defScope s__law_leaf) := ⟨rfl, rfl, rfl, by decide +kernel, rfl, by decide +kernel, by decide +kernel⟩
abbrev s__law_program : Stmt := top 41
abbrev N__law_program : List Str := ["numbers", "letter", "kinds", "depth", "library", "rows", "row", "one"]
theorem sc__law_program : FnScope N__law_program ["numbers", "letter", "kinds", "depth", "library"] (defScope s__law_program) := ⟨rfl, rfl, rfl, by decide +kernel, rfl, by decide +kernel, by decide +kernel⟩
abbrev s__law_parts : Stmt := top 42
abbrev N__law_parts : List Str := ["program", "found", "k"]
theorem sc__law_parts : FnScope N__law_parts ["program"] (defScope s__law_parts) := ⟨rfl, rfl, rfl, by decide +kernel, rfl, by decide +kernel, by decide +kernel⟩
abbrev s__law_large : Stmt := top 47
abbrev N__law_large : List Str := ["first", "row", "k", "chain"]
theorem sc__law_large : FnScope N__law_large ["first"] (defScope s__law_large) := ⟨rfl, rfl, rfl, by decide +kernel, rfl, by decide +kernel, by decide +kernel⟩
abbrev s__law_cell : Stmt := top 33
abbrev N__law_cell : List Str := ["script", "k"]
theorem sc__law_cell : FnScope N__law_cell ["script", "k"] (defScope s__law_cell) := ⟨rfl, rfl, rfl, by decide +kernel, rfl, by decide +kernel, by decide +kernel⟩
abbrev s__law_kind : Stmt := top 36
abbrev N__law_kind : List Str := ["letter"]
theorem sc__law_kind : FnScope N__law_kind ["letter"] (defScope s__law_kind) := ⟨rfl, rfl, rfl, by decide +kernel, rfl, by decide +kernel, by decide +kernel⟩
abbrev s__law_library : Stmt := top 35
abbrev N__law_library : List Str := ["rows", "row"]
theorem sc__law_library : FnScope N__law_library [] (defScope s__law_library) := ⟨rfl, rfl, rfl, by decide +kernel, rfl, by decide +kernel, by decide +kernel⟩
abbrev s__law_wrong : Stmt := top 46
abbrev N__law_wrong : List Str := ["number", "letter", "count", "other", "rows"]
theorem sc__law_wrong : FnScope N__law_wrong ["number", "letter", "count"] (defScope s__law_wrong) := ⟨rfl, rfl, rfl, by decide +kernel, rfl, by decide +kernel, by decide +kernel⟩
abbrev s_is_component : Stmt := top 20
abbrev N_is_component : List Str := ["name"]
theorem sc_is_component : FnScope N_is_component ["name"] (defScope s_is_component) := ⟨rfl, rfl, rfl, by decide +kernel, rfl, by decide +kernel, by decide +kernel⟩
abbrev s_result_kind : Stmt := top 22
abbrev N_result_kind : List Str := ["name"]
theorem sc_result_kind : FnScope N_result_kind ["name"] (defScope s_result_kind) := ⟨rfl, rfl, rfl, by decide +kernel, rfl, by decide +kernel, by decide +kernel⟩
abbrev s_is_number : Stmt := top 12
abbrev N_is_number : List Str := ["value"]
theorem sc_is_number : FnScope N_is_number ["value"] (defScope s_is_number) := ⟨rfl, rfl, rfl, by decide +kernel, rfl, by decide +kernel, by decide +kernel⟩
abbrev s_is_text : Stmt := top 13
abbrev N_is_text : List Str := ["value", "sign"]
theorem sc_is_text : FnScope N_is_text ["value"] (defScope s_is_text) := ⟨rfl, rfl, rfl, by decide +kernel, rfl, by decide +kernel, by decide +kernel⟩
abbrev s_is_list : Stmt := top 14
abbrev N_is_list : List Str := ["value", "number"]
theorem sc_is_list : FnScope N_is_list ["value"] (defScope s_is_list) := ⟨rfl, rfl, rfl, by decide +kernel, rfl, by decide +kernel, by decide +kernel⟩
abbrev s_is_value : Stmt := top 15
abbrev N_is_value : List Str := ["kind", "value"]
theorem sc_is_value : FnScope N_is_value ["kind", "value"] (defScope s_is_value) := ⟨rfl, rfl, rfl, by decide +kernel, rfl, by decide +kernel, by decide +kernel⟩
abbrev s_kind_of_value : Stmt := top 17
abbrev N_kind_of_value : List Str := ["value", "kind"]
theorem sc_kind_of_value : FnScope N_kind_of_value ["value"] (defScope s_kind_of_value) := ⟨rfl, rfl, rfl, by decide +kernel, rfl, by decide +kernel, by decide +kernel⟩
abbrev s__part_kind : Stmt := top 30
abbrev N__part_kind : List Str := ["kinds", "part"]
theorem sc__part_kind : FnScope N__part_kind ["kinds", "part"] (defScope s__part_kind) := ⟨rfl, rfl, rfl, by decide +kernel, rfl, by decide +kernel, by decide +kernel⟩
abbrev s__is_index : Stmt := top 29
abbrev N__is_index : List Str := ["value", "many"]
theorem sc__is_index : FnScope N__is_index ["value", "many"] (defScope s__is_index) := ⟨rfl, rfl, rfl, by decide +kernel, rfl, by decide +kernel, by decide +kernel⟩
abbrev s_is_of_some_kind : Stmt := top 16
abbrev N_is_of_some_kind : List Str := ["value", "kind"]
theorem sc_is_of_some_kind : FnScope N_is_of_some_kind ["value"] (defScope s_is_of_some_kind) := ⟨rfl, rfl, rfl, by decide +kernel, rfl, by decide +kernel, by decide +kernel⟩
abbrev s_argument_kinds : Stmt := top 21
abbrev N_argument_kinds : List Str := ["name"]
theorem sc_argument_kinds : FnScope N_argument_kinds ["name"] (defScope s_argument_kinds) := ⟨rfl, rfl, rfl, by decide +kernel, rfl, by decide +kernel, by decide +kernel⟩
abbrev s__is_sound : Stmt := top 28
abbrev N__is_sound : List Str := ["kinds", "part", "wanted", "sound"]
theorem sc__is_sound : FnScope N__is_sound ["kinds", "part", "wanted"] (defScope s__is_sound) := ⟨rfl, rfl, rfl, by decide +kernel, rfl, by decide +kernel, by decide +kernel⟩
abbrev s_is_leaf : Stmt := top 27
abbrev N_is_leaf : List Str := ["part"]
theorem sc_is_leaf : FnScope N_is_leaf ["part"] (defScope s_is_leaf) := ⟨rfl, rfl, rfl, by decide +kernel, rfl, by decide +kernel, by decide +kernel⟩
abbrev s__wanted_arguments : Stmt := top 31
abbrev N__wanted_arguments : List Str := ["part", "level", "argument", "kind"]
theorem sc__wanted_arguments : FnScope N__wanted_arguments ["part", "level"] (defScope s__wanted_arguments) := ⟨rfl, rfl, rfl, by decide +kernel, rfl, by decide +kernel, by decide +kernel⟩
abbrev s_program_kind : Stmt := top 26
abbrev N_program_kind : List Str := ["kinds", "program", "waiting", "checked", "part", "wanted", "level"]
theorem sc_program_kind : FnScope N_program_kind ["kinds", "program"] (defScope s_program_kind) := ⟨rfl, rfl, rfl, by decide +kernel, rfl, by decide +kernel, by decide +kernel⟩
abbrev s__law_told : Stmt := top 45
abbrev N__law_told : List Str := ["kinds", "program", "e"]
theorem sc__law_told : FnScope N__law_told ["kinds", "program"] (defScope s__law_told) := ⟨rfl, rfl, rfl, by decide +kernel, rfl, by decide +kernel, by decide +kernel⟩
abbrev s__law_letter : Stmt := top 44
abbrev N__law_letter : List Str := ["part", "letters", "library", "row"]
theorem sc__law_letter : FnScope N__law_letter ["part", "letters", "library"] (defScope s__law_letter) := ⟨rfl, rfl, rfl, by decide +kernel, rfl, by decide +kernel, by decide +kernel⟩
abbrev s__law_replaced : Stmt := top 43
abbrev N__law_replaced : List Str := ["program", "at", "part", "before", "rows", "k", "count"]
theorem sc__law_replaced : FnScope N__law_replaced ["program", "at", "part"] (defScope s__law_replaced) := ⟨rfl, rfl, rfl, by decide +kernel, rfl, by decide +kernel, by decide +kernel⟩
abbrev s_law : Stmt := top 48
abbrev N_law : List Str := ["script", "first", "letters", "kinds", "numbers", "letter", "program", "due", "large", "found", "at", "choice", "wrong", "actual", "cell", "k"]
theorem sc_law : FnScope N_law ["script"] (defScope s_law) := ⟨rfl, rfl, rfl, by decide +kernel, rfl, by decide +kernel, by decide +kernel⟩
abbrev c_KINDS : D := (.tuple [(.str "number"), (.str "truth"), (.str "text"), (.str "list")])
abbrev c_LIST_LIMIT : D := (.int 12)
abbrev c_MOST_DEPTH : D := (.int 30)
abbrev c_MOST_PARTS : D := (.int 60)
abbrev c_NUMBER_LIMIT : D := (.int 1000000)
abbrev c_SIGNS : D := (.str " 0123456789abcdefghijklmnopqrstuvwxyz")
abbrev c_TEXT_LIMIT : D := (.int 30)
def d_SIGNATURES : List (Str × D) := ("abs", (PyData.tuple [(PyData.tuple [(PyData.str "number")]), (PyData.str "number")])) :: ("add", (PyData.tuple [(PyData.tuple [(PyData.str "number"), (PyData.str "number")]), (PyData.str "number")])) :: ("add_each", (PyData.tuple [(PyData.tuple [(PyData.str "list"), (PyData.str "number")]), (PyData.str "list")])) :: ("append", (PyData.tuple [(PyData.tuple [(PyData.str "list"), (PyData.str "number")]), (PyData.str "list")])) :: ("at", (PyData.tuple [(PyData.tuple [(PyData.str "list"), (PyData.str "number")]), (PyData.str "number")])) :: ("both", (PyData.tuple [(PyData.tuple [(PyData.str "truth"), (PyData.str "truth")]), (PyData.str "truth")])) :: ("choose_list", (PyData.tuple [(PyData.tuple [(PyData.str "truth"), (PyData.str "list"), (PyData.str "list")]), (PyData.str "list")])) :: ("choose_number", (PyData.tuple [(PyData.tuple [(PyData.str "truth"), (PyData.str "number"), (PyData.str "number")]), (PyData.str "number")])) :: ("choose_text", (PyData.tuple [(PyData.tuple [(PyData.str "truth"), (PyData.str "text"), (PyData.str "text")]), (PyData.str "text")])) :: ("concat", (PyData.tuple [(PyData.tuple [(PyData.str "text"), (PyData.str "text")]), (PyData.str "text")])) :: ("contains", (PyData.tuple [(PyData.tuple [(PyData.str "text"), (PyData.str "text")]), (PyData.str "truth")])) :: ("count_of", (PyData.tuple [(PyData.tuple [(PyData.str "list"), (PyData.str "number")]), (PyData.str "number")])) :: ("distinct", (PyData.tuple [(PyData.tuple [(PyData.str "list")]), (PyData.str "list")])) :: ("divide", (PyData.tuple [(PyData.tuple [(PyData.str "number"), (PyData.str "number")]), (PyData.str "number")])) :: ("double", (PyData.tuple [(PyData.tuple [(PyData.str "number")]), (PyData.str "number")])) :: ("drop", (PyData.tuple [(PyData.tuple [(PyData.str "list"), (PyData.str "number")]), (PyData.str "list")])) :: ("either", (PyData.tuple [(PyData.tuple [(PyData.str "truth"), (PyData.str "truth")]), (PyData.str "truth")])) :: ("equal", (PyData.tuple [(PyData.tuple [(PyData.str "number"), (PyData.str "number")]), (PyData.str "truth")])) :: ("first", (PyData.tuple [(PyData.tuple [(PyData.str "list")]), (PyData.str "number")])) :: ("greatest", (PyData.tuple [(PyData.tuple [(PyData.str "list")]), (PyData.str "number")])) :: ("half", (PyData.tuple [(PyData.tuple [(PyData.str "number")]), (PyData.str "number")])) :: ("is_empty", (PyData.tuple [(PyData.tuple [(PyData.str "list")]), (PyData.str "truth")])) :: ("is_even", (PyData.tuple [(PyData.tuple [(PyData.str "number")]), (PyData.str "truth")])) :: ("join", (PyData.tuple [(PyData.tuple [(PyData.str "list"), (PyData.str "list")]), (PyData.str "list")])) :: ("keep_above", (PyData.tuple [(PyData.tuple [(PyData.str "list"), (PyData.str "number")]), (PyData.str "list")])) :: ("keep_even", (PyData.tuple [(PyData.tuple [(PyData.str "list")]), (PyData.str "list")])) :: ("last", (PyData.tuple [(PyData.tuple [(PyData.str "list")]), (PyData.str "number")])) :: ("least", (PyData.tuple [(PyData.tuple [(PyData.str "list")]), (PyData.str "number")])) :: ("length", (PyData.tuple [(PyData.tuple [(PyData.str "text")]), (PyData.str "number")])) :: ("less", (PyData.tuple [(PyData.tuple [(PyData.str "number"), (PyData.str "number")]), (PyData.str "truth")])) :: ("max", (PyData.tuple [(PyData.tuple [(PyData.str "number"), (PyData.str "number")]), (PyData.str "number")])) :: ("min", (PyData.tuple [(PyData.tuple [(PyData.str "number"), (PyData.str "number")]), (PyData.str "number")])) :: ("mod", (PyData.tuple [(PyData.tuple [(PyData.str "number"), (PyData.str "number")]), (PyData.str "number")])) :: ("mul", (PyData.tuple [(PyData.tuple [(PyData.str "number"), (PyData.str "number")]), (PyData.str "number")])) :: ("neg", (PyData.tuple [(PyData.tuple [(PyData.str "number")]), (PyData.str "number")])) :: ("negate", (PyData.tuple [(PyData.tuple [(PyData.str "truth")]), (PyData.str "truth")])) :: ("number_text", (PyData.tuple [(PyData.tuple [(PyData.str "number")]), (PyData.str "text")])) :: ("prepend", (PyData.tuple [(PyData.tuple [(PyData.str "number"), (PyData.str "list")]), (PyData.str "list")])) :: ("product", (PyData.tuple [(PyData.tuple [(PyData.str "list")]), (PyData.str "number")])) :: ("repeat", (PyData.tuple [(PyData.tuple [(PyData.str "text"), (PyData.str "number")]), (PyData.str "text")])) :: ("rest", (PyData.tuple [(PyData.tuple [(PyData.str "list")]), (PyData.str "list")])) :: ("reverse", (PyData.tuple [(PyData.tuple [(PyData.str "list")]), (PyData.str "list")])) :: ("reverse_text", (PyData.tuple [(PyData.tuple [(PyData.str "text")]), (PyData.str "text")])) :: ("running", (PyData.tuple [(PyData.tuple [(PyData.str "list")]), (PyData.str "list")])) :: ("same_list", (PyData.tuple [(PyData.tuple [(PyData.str "list"), (PyData.str "list")]), (PyData.str "truth")])) :: ("same_text", (PyData.tuple [(PyData.tuple [(PyData.str "text"), (PyData.str "text")]), (PyData.str "truth")])) :: ("size", (PyData.tuple [(PyData.tuple [(PyData.str "list")]), (PyData.str "number")])) :: ("skip", (PyData.tuple [(PyData.tuple [(PyData.str "text"), (PyData.str "number")]), (PyData.str "text")])) :: ("sort", (PyData.tuple [(PyData.tuple [(PyData.str "list")]), (PyData.str "list")])) :: ("start", (PyData.tuple [(PyData.tuple [(PyData.str "text"), (PyData.str "number")]), (PyData.str "text")])) :: ("sub", (PyData.tuple [(PyData.tuple [(PyData.str "number"), (PyData.str "number")]), (PyData.str "number")])) :: ("sum", (PyData.tuple [(PyData.tuple [(PyData.str "list")]), (PyData.str "number")])) :: ("take", (PyData.tuple [(PyData.tuple [(PyData.str "list"), (PyData.str "number")]), (PyData.str "list")])) :: ("text_number", (PyData.tuple [(PyData.tuple [(PyData.str "text")]), (PyData.str "number")])) :: ("up_to", (PyData.tuple [(PyData.tuple [(PyData.str "number")]), (PyData.str "list")])) :: ("words", (PyData.tuple [(PyData.tuple [(PyData.str "text")]), (PyData.str "number")])) :: ("zip_add", (PyData.tuple [(PyData.tuple [(PyData.str "list"), (PyData.str "list")]), (PyData.str "list")])) :: []
noncomputable def b__law_number : M Fl := (mSeq (mAsg (setV 1) (mOp dMod (mVar 0) (mC (.int 4))))
    (mSeq (mIf (mT (mOp dEq (mVar 1) (mC (.int 0))))
    (mRet (mOp dSub (mOp dMod (mOp dDiv (mVar 0) (mC (.int 4))) (mC (.int 7))) (mC (.int 3))))
    mSkip)
    (mSeq (mIf (mT (mOp dEq (mVar 1) (mC (.int 1))))
    (mRet (mOp dSub (mOp dMod (mOp dDiv (mVar 0) (mC (.int 4))) (mC (.int 61))) (mC (.int 30))))
    mSkip)
    (mSeq (mIf (mT (mOp dEq (mVar 1) (mC (.int 2))))
    (mRet (mOp dIx (mOf (mNew (mCons (mC (.int 1000000)) (mCons (mUn dNeg (mC (.int 1000000))) (mCons (mC (.int 999999)) (mCons (mC (.int 500000)) (mCons (mC (.int 500001)) (mCons (mUn dNeg (mC (.int 500000))) (mCons (mC (.int 1000)) (mCons (mUn dNeg (mC (.int 1000))) mNil)))))))))) (mOp dMod (mOp dDiv (mVar 0) (mC (.int 4))) (mC (.int 8)))))
    mSkip)
    (mRet (mOp dSub (mOp dMod (mOp dDiv (mVar 0) (mC (.int 4))) (mC (.int 2000001))) (mC (.int 1000000))))))))
noncomputable def m__law_number : List D → R D := mDef 2 b__law_number
noncomputable def b__law_draws_L1 : M Fl := (mIf (mAndT (mT (mOp dGe (mCall dAbs (mCons (mVar 0) mNil)) (mOp dPow (mC (.int 10)) (mC (.int 18))))) (mT (mOp dGt (mVar 4) (mC (.int 0)))))
    (mSeq (mApp 3 (mOp dMod (mCall dInt (mCons (mVar 4) mNil)) (mVar 2)))
    (mAsg (setV 4) (mOp dDiv (mVar 4) (mVar 2))))
    (mSeq (mAsg (setV 6) (mOp dMod (mCall dInt (mCons (mOp dAdd (mOp dAdd (mOp dMul (mCall dAbs (mCons (mVar 0) mNil)) (mC (.int 48271))) (mOp dMul (mVar 5) (mC (.int 69621)))) (mC (.int 7))) mNil)) (mC (.int 2147483647))))
    (mSeq (mAsg (setV 6) (mOp dMod (mCall dInt (mCons (mOp dAdd (mOp dAdd (mOp dMul (mVar 6) (mC (.int 16807))) (mOp dDiv (mVar 6) (mC (.int 127)))) (mOp dMul (mVar 5) (mC (.int 31)))) mNil)) (mC (.int 2147483629))))
    (mApp 3 (mOp dMod (mOp dDiv (mVar 6) (mC (.int 3))) (mVar 2))))))
noncomputable def b__law_draws : M Fl := (mSeq (mSetM 3 (mNew mNil))
    (mSeq (mAsg (setV 4) (mCall dAbs (mCons (mVar 0) mNil)))
    (mSeq (mForS (mRng1 (mVar 1)) (setV 5)
    b__law_draws_L1)
    (mFrz 3 (mRet (mVar 3))))))
noncomputable def m__law_draws : List D → R D := mDef 7 b__law_draws
noncomputable def b__law_value_E1 : M D := (mOp dIx (mC (.str "a b0 9z1")) (mOp dMod (mVar 3) (mC (.int 8))))
noncomputable def b__law_value_E2 : M D := (mCallF m__law_number (mCons (mVar 3) mNil))
noncomputable def b__law_value_E3 : M D := (mOp dSub (mOp dMod (mVar 3) (mC (.int 9))) (mC (.int 4)))
noncomputable def b__law_value : M Fl := (mSeq (mIf (mT (mOp dEq (mVar 0) (mC (.str "n"))))
    (mRet (mCallF m__law_number (mCons (mVar 1) mNil)))
    mSkip)
    (mSeq (mIf (mT (mOp dEq (mVar 0) (mC (.str "t"))))
    (mRet (mOp dEq (mOp dMod (mVar 1) (mC (.int 2))) (mC (.int 1))))
    mSkip)
    (mSeq (mIf (mT (mOp dEq (mVar 0) (mC (.str "s"))))
    (mSeq (mAsg (setV 2) (mOp dIx (mOf (mNew (mCons (mC (.int 0)) (mCons (mC (.int 1)) (mCons (mC (.int 2)) (mCons (mC (.int 3)) (mCons (mC (.int 5)) (mCons (mC (.int 15)) (mCons (mC (.int 16)) (mCons (mC (.int 30)) mNil)))))))))) (mOp dMod (mVar 1) (mC (.int 8)))))
    (mRet (mM1 dJoin (mC (.str "")) (mOf (mLcS [3] (mItems (mCallF m__law_draws (mCons (mOp dDiv (mVar 1) (mC (.int 8))) (mCons (mVar 2) (mCons (mC (.int 64)) mNil))))) (setV 3) mYes b__law_value_E1)))))
    mSkip)
    (mSeq (mAsg (setV 2) (mOp dIx (mOf (mNew (mCons (mC (.int 0)) (mCons (mC (.int 1)) (mCons (mC (.int 2)) (mCons (mC (.int 3)) (mCons (mC (.int 4)) (mCons (mC (.int 6)) (mCons (mC (.int 11)) (mCons (mC (.int 12)) mNil)))))))))) (mOp dMod (mVar 1) (mC (.int 8)))))
    (mSeq (mIf (mT (mOp dEq (mOp dMod (mOp dDiv (mVar 1) (mC (.int 8))) (mC (.int 3))) (mC (.int 0))))
    (mRet (mCall dTuple (mCons (mOf (mLcS [3] (mItems (mCallF m__law_draws (mCons (mOp dDiv (mVar 1) (mC (.int 24))) (mCons (mVar 2) (mCons (mC (.int 4000)) mNil))))) (setV 3) mYes b__law_value_E2)) mNil)))
    mSkip)
    (mRet (mCall dTuple (mCons (mOf (mLcS [3] (mItems (mCallF m__law_draws (mCons (mOp dDiv (mVar 1) (mC (.int 24))) (mCons (mVar 2) (mCons (mC (.int 63)) mNil))))) (setV 3) mYes b__law_value_E3)) mNil))))))))
noncomputable def m__law_value : List D → R D := mDef 4 b__law_value
noncomputable def b__law_take : M Fl := (mSeq (mIf (mT (mOp dEq (mLenM 0) (mC (.int 0))))
    (mRet (mC (.int 0)))
    mSkip)
    (mRet (mOp dMod (mCall dInt (mCons (mPop 0) mNil)) (mVar 1))))
noncomputable def m__law_take : List D → R D := mDefB 2 b__law_take
noncomputable def b__law_leaf_E1 : M D := (mVar 4)
noncomputable def b__law_leaf_T1 : M Bool := (mT (mOp dEq (mOp dIx (mVar 2) (mVar 4)) (mVar 1)))
noncomputable def b__law_leaf : M Fl := (mSeq (mSetL 3 (mLcSB [4] (mRng1 (mCall dLen (mCons (mVar 2) mNil))) (setV 4) b__law_leaf_T1 b__law_leaf_E1))
    (mSeq (mIf (mAndT (mT (mOp dGt (mCall dLen (mCons (mVar 3) mNil)) (mC (.int 0)))) (mT (mOp dGt (mCallB 0 m__law_take (mCons (mC (.int 3)) mNil)) (mC (.int 0)))))
    (mRet (mCall dTup (mCons (mC (.str "input")) (mCons (mOp dIx (mVar 3) (mCallB 0 m__law_take (mCons (mCall dLen (mCons (mVar 3) mNil)) mNil))) mNil))))
    mSkip)
    (mRet (mCall dTup (mCons (mC (.str "constant")) (mCons (mCallF m__law_value (mCons (mVar 1) (mCons (mCallB 0 m__law_take (mCons (mC (.int 100000)) mNil)) mNil))) mNil))))))
noncomputable def m__law_leaf : List D → R D := mDefB 5 b__law_leaf
noncomputable def b__law_program_E1 (mf : List D → R D) : M D := (mVar 6)
noncomputable def b__law_program_T1 (mf : List D → R D) : M Bool := (mT (mOp dEq (mOp dIx (mVar 6) (mC (.int 2))) (mVar 1)))
noncomputable def b__law_program_E2 (mf : List D → R D) : M D := (mCallB 0 mf (mCons (mVar 7) (mCons (mVar 2) (mCons (mOp dSub (mVar 3) (mC (.int 1))) (mCons (mVar 4) mNil)))))
noncomputable def b__law_program (mf : List D → R D) : M Fl := (mSeq (mIf (mOrT (mT (mOp dLt (mVar 3) (mC (.int 2)))) (mT (mOp dEq (mCallB 0 m__law_take (mCons (mC (.int 5)) mNil)) (mC (.int 0)))))
    (mRet (mCallB 0 m__law_leaf (mCons (mVar 1) (mCons (mVar 2) mNil))))
    mSkip)
    (mSeq (mSetL 5 (mLcSB [6] (mItems (mVar 4)) (setV 6) (b__law_program_T1 mf) (b__law_program_E1 mf)))
    (mSeq (mAsg (setV 6) (mOp dIx (mVar 5) (mCallB 0 m__law_take (mCons (mCall dLen (mCons (mVar 5) mNil)) mNil))))
    (mRet (mOp dAdd (mCall dTup (mCons (mOp dIx (mVar 6) (mC (.int 0))) mNil)) (mCall dTuple (mCons (mOf (mLcSB [7] (mItems (mOp dIx (mVar 6) (mC (.int 1)))) (setV 7) mYes (b__law_program_E2 mf))) mNil)))))))
noncomputable def m__law_program_n : Nat → List D → R D
  | 0 => mDefB 8 mNo
  | n + 1 => mDefB 8 (b__law_program (m__law_program_n n))
noncomputable def m__law_program : List D → R D := m__law_program_n 50
noncomputable def b__law_parts_L1 (mf : List D → R D) : M Fl := (mAsg (setV 1) (mOp dAdd (mVar 1) (mCallF mf (mCons (mOp dIx (mVar 0) (mVar 2)) mNil))))
noncomputable def b__law_parts (mf : List D → R D) : M Fl := (mSeq (mIf (mT (mOp dIn (mOp dIx (mVar 0) (mC (.int 0))) (mOf (mNew (mCons (mC (.str "input")) (mCons (mC (.str "constant")) mNil))))))
    (mRet (mOf (mNew (mCons (mVar 0) mNil))))
    mSkip)
    (mSeq (mAsg (setV 1) (mOf (mNew (mCons (mVar 0) mNil))))
    (mSeq (mForS (mRng2 (mC (.int 1)) (mCall dLen (mCons (mVar 0) mNil))) (setV 2)
    (b__law_parts_L1 mf))
    (mRet (mVar 1)))))
noncomputable def m__law_parts_n : Nat → List D → R D
  | 0 => mDef 3 mNo
  | n + 1 => mDef 3 (b__law_parts (m__law_parts_n n))
noncomputable def m__law_parts : List D → R D := m__law_parts_n 50
noncomputable def b__law_large_L1 : M Fl := (mAsg (setV 3) (mCall dTup (mCons (mC (.str "neg")) (mCons (mVar 3) mNil))))
noncomputable def b__law_large_L2 : M Fl := (mSeq (mAsg (setV 1) (mCall dTup (mCons (mC (.str "choose_number")) (mCons (mCall dTup (mCons (mC (.str "constant")) (mCons (mC (.bool true)) mNil))) (mCons (mCall dTup (mCons (mC (.str "constant")) (mCons (mC (.int 7)) mNil))) (mCons (mVar 1) mNil))))))
    (mIf (mT (mOp dEq (mOp dMod (mVar 2) (mC (.int 2))) (mC (.int 1))))
    (mAsg (setV 1) (mCall dTup (mCons (mC (.str "add")) (mCons (mVar 1) (mCons (mCall dTup (mCons (mC (.str "neg")) (mCons (mCall dTup (mCons (mC (.str "constant")) (mCons (mVar 2) mNil))) mNil))) mNil)))))
    mSkip))
noncomputable def b__law_large : M Fl := (mSeq (mIf (mT (mOp dEq (mOp dMod (mVar 0) (mC (.int 2))) (mC (.int 0))))
    (mSeq (mAsg (setV 3) (mCall dTup (mCons (mC (.str "input")) (mCons (mC (.int 0)) mNil))))
    (mSeq (mForS (mRng1 (mOp dAdd (mC (.int 30)) (mOp dMod (mOp dDiv (mVar 0) (mC (.int 2))) (mC (.int 10))))) (setV 2)
    b__law_large_L1)
    (mRet (mCall dTup (mCons (mVar 3) (mCons (mC (.int 30)) mNil))))))
    mSkip)
    (mSeq (mAsg (setV 1) (mCall dTup (mCons (mC (.str "add")) (mCons (mCall dTup (mCons (mC (.str "constant")) (mCons (mC (.int 1)) mNil))) (mCons (mCall dTup (mCons (mC (.str "constant")) (mCons (mC (.int 2)) mNil))) mNil)))))
    (mSeq (mForS (mRng1 (mOp dAdd (mC (.int 29)) (mOp dMod (mOp dDiv (mVar 0) (mC (.int 2))) (mC (.int 3))))) (setV 2)
    b__law_large_L2)
    (mRet (mCall dTup (mCons (mVar 1) (mCons (mC (.int 60)) mNil)))))))
noncomputable def m__law_large : List D → R D := mDef 4 b__law_large
noncomputable def b__law_cell : M Fl := (mSeq (mIf (mT (mOp dLt (mVar 1) (mCall dLen (mCons (mVar 0) mNil))))
    (mRet (mCall dInt (mCons (mOp dIx (mVar 0) (mVar 1)) mNil)))
    mSkip)
    (mRet (mC (.int 0))))
noncomputable def m__law_cell : List D → R D := mDef 2 b__law_cell
noncomputable def b__law_kind : M Fl := (mRet (mOp dIx (mOf (mNew (mCons (mC (.str "number")) (mCons (mC (.str "truth")) (mCons (mC (.str "text")) (mCons (mC (.str "list")) mNil)))))) (mM1 dIndexS (mC (.str "ntsl")) (mVar 0))))
noncomputable def m__law_kind : List D → R D := mDef 1 b__law_kind
noncomputable def b__law_library_E1 : M D := (mM1 dSplit (mVar 1) (mC (.str " ")))
noncomputable def b__law_library : M Fl := (mSeq (mAsg (setV 0) (mOf (mNew (mCons (mC (.str "abs n n")) (mCons (mC (.str "add nn n")) (mCons (mC (.str "add_each ln l")) (mCons (mC (.str "append ln l")) (mCons (mC (.str "at ln n")) (mCons (mC (.str "both tt t")) (mCons (mC (.str "choose_list tll l")) (mCons (mC (.str "choose_number tnn n")) (mCons (mC (.str "choose_text tss s")) (mCons (mC (.str "concat ss s")) (mCons (mC (.str "contains ss t")) (mCons (mC (.str "count_of ln n")) (mCons (mC (.str "distinct l l")) (mCons (mC (.str "divide nn n")) (mCons (mC (.str "double n n")) (mCons (mC (.str "drop ln l")) (mCons (mC (.str "either tt t")) (mCons (mC (.str "equal nn t")) (mCons (mC (.str "first l n")) (mCons (mC (.str "greatest l n")) (mCons (mC (.str "half n n")) (mCons (mC (.str "is_empty l t")) (mCons (mC (.str "is_even n t")) (mCons (mC (.str "join ll l")) (mCons (mC (.str "keep_above ln l")) (mCons (mC (.str "keep_even l l")) (mCons (mC (.str "last l n")) (mCons (mC (.str "least l n")) (mCons (mC (.str "length s n")) (mCons (mC (.str "less nn t")) (mCons (mC (.str "max nn n")) (mCons (mC (.str "min nn n")) (mCons (mC (.str "mod nn n")) (mCons (mC (.str "mul nn n")) (mCons (mC (.str "neg n n")) (mCons (mC (.str "negate t t")) (mCons (mC (.str "number_text n s")) (mCons (mC (.str "prepend nl l")) (mCons (mC (.str "product l n")) (mCons (mC (.str "repeat sn s")) (mCons (mC (.str "rest l l")) (mCons (mC (.str "reverse l l")) (mCons (mC (.str "reverse_text s s")) (mCons (mC (.str "running l l")) (mCons (mC (.str "same_list ll t")) (mCons (mC (.str "same_text ss t")) (mCons (mC (.str "size l n")) (mCons (mC (.str "skip sn s")) (mCons (mC (.str "sort l l")) (mCons (mC (.str "start sn s")) (mCons (mC (.str "sub nn n")) (mCons (mC (.str "sum l n")) (mCons (mC (.str "take ln l")) (mCons (mC (.str "text_number s n")) (mCons (mC (.str "up_to n l")) (mCons (mC (.str "words s n")) (mCons (mC (.str "zip_add ll l")) mNil))))))))))))))))))))))))))))))))))))))))))))))))))))))))))))
    (mRet (mOf (mLcS [1] (mItems (mVar 0)) (setV 1) mYes b__law_library_E1))))
noncomputable def m__law_library : List D → R D := mDef 2 b__law_library
noncomputable def b__law_wrong : M Fl := (mSeq (mAsg (setV 3) (mOp dIx (mC (.str "ntsl")) (mOp dMod (mOp dAdd (mOp dAdd (mM1 dIndexS (mC (.str "ntsl")) (mVar 1)) (mC (.int 1))) (mOp dMod (mOp dDiv (mVar 0) (mC (.int 12))) (mC (.int 3)))) (mC (.int 4)))))
    (mSeq (mAsg (setV 4) (mOf (mNew (mCons (mCall dTup (mCons (mC (.str "constant")) (mCons (mOp dIx (mOf (mNew (mCons (mC (.int 1)) (mCons (mC (.bool true)) (mCons (mC (.str "a")) (mCons (mCall dTup mNil) mNil)))))) (mM1 dIndexS (mC (.str "ntsl")) (mVar 3))) mNil))) (mCons (mCall dTup (mCons (mC (.str "input")) (mCons (mVar 2) mNil))) (mCons (mCall dTup (mCons (mC (.str "input")) (mCons (mUn dNeg (mC (.int 1))) mNil))) (mCons (mCall dTup (mCons (mC (.str "input")) (mCons (mC (.bool true)) mNil))) (mCons (mCall dTup (mCons (mC (.str "constant")) (mCons (mC .none) mNil))) (mCons (mCall dTup (mCons (mC (.str "constant")) (mCons (mOf (mNew (mCons (mC (.int 1)) (mCons (mC (.int 2)) mNil)))) mNil))) (mCons (mCall dTup (mCons (mC (.str "constant")) (mCons (mC (.int 1000001)) mNil))) (mCons (mCall dTup (mCons (mC (.str "constant")) mNil)) (mCons (mCall dTup (mCons (mC (.str "input")) (mCons (mC (.int 0)) (mCons (mC (.int 0)) mNil)))) (mCons (mCall dTup (mCons (mC (.str "nothing")) (mCons (mCall dTup (mCons (mC (.str "constant")) (mCons (mC (.int 1)) mNil))) mNil))) (mCons (mOf (mNew (mCons (mC (.str "neg")) (mCons (mCall dTup (mCons (mC (.str "constant")) (mCons (mC (.int 1)) mNil))) mNil)))) (mCons (mCall dTup mNil) mNil)))))))))))))))
    (mRet (mOp dIx (mVar 4) (mOp dMod (mVar 0) (mC (.int 12)))))))
noncomputable def m__law_wrong : List D → R D := mDef 5 b__law_wrong
noncomputable def b_is_component : M Fl := (mRet (mAnd (mIs "str" (mVar 0)) (mUn (dInK d_SIGNATURES) (mVar 0))))
noncomputable def m_is_component : List D → R D := mDef 1 b_is_component
noncomputable def b_result_kind : M Fl := (mSeq (mIf (mNotT (mTr (mCallF m_is_component (mCons (mVar 0) mNil))))
    mNo
    mSkip)
    (mRet (mOp dIx (mUn (dGetK d_SIGNATURES) (mVar 0)) (mC (.int 1)))))
noncomputable def m_result_kind : List D → R D := mDef 1 b_result_kind
noncomputable def b_is_number : M Fl := (mSeq (mIf (mOrT (mNotT (mTr (mIs "int" (mVar 0)))) (mTr (mIs "bool" (mVar 0))))
    (mRet (mC (.bool false)))
    mSkip)
    (mRet (mChain dLe dLe (mUn dNeg (mC c_NUMBER_LIMIT)) (mVar 0) (mC c_NUMBER_LIMIT))))
noncomputable def m_is_number : List D → R D := mDef 1 b_is_number
noncomputable def b_is_text_E1 : M D := (mOp dIn (mVar 1) (mC c_SIGNS))
noncomputable def b_is_text : M Fl := (mSeq (mIf (mOrT (mNotT (mTr (mIs "str" (mVar 0)))) (mT (mOp dGt (mCall dLen (mCons (mVar 0) mNil)) (mC c_TEXT_LIMIT))))
    (mRet (mC (.bool false)))
    mSkip)
    (mRet (mCall dAll (mCons (mOf (mLcS [1] (mItems (mVar 0)) (setV 1) mYes b_is_text_E1)) mNil))))
noncomputable def m_is_text : List D → R D := mDef 2 b_is_text
noncomputable def b_is_list_E1 : M D := (mCallF m_is_number (mCons (mVar 1) mNil))
noncomputable def b_is_list : M Fl := (mSeq (mIf (mOrT (mNotT (mTr (mIs "tuple" (mVar 0)))) (mT (mOp dGt (mCall dLen (mCons (mVar 0) mNil)) (mC c_LIST_LIMIT))))
    (mRet (mC (.bool false)))
    mSkip)
    (mRet (mCall dAll (mCons (mOf (mLcS [1] (mItems (mVar 0)) (setV 1) mYes b_is_list_E1)) mNil))))
noncomputable def m_is_list : List D → R D := mDef 2 b_is_list
noncomputable def b_is_value : M Fl := (mSeq (mIf (mT (mOp dEq (mVar 0) (mC (.str "number"))))
    (mRet (mCallF m_is_number (mCons (mVar 1) mNil)))
    mSkip)
    (mSeq (mIf (mT (mOp dEq (mVar 0) (mC (.str "truth"))))
    (mRet (mIs "bool" (mVar 1)))
    mSkip)
    (mSeq (mIf (mT (mOp dEq (mVar 0) (mC (.str "text"))))
    (mRet (mCallF m_is_text (mCons (mVar 1) mNil)))
    mSkip)
    (mRet (mAnd (mOp dEq (mVar 0) (mC (.str "list"))) (mCallF m_is_list (mCons (mVar 1) mNil)))))))
noncomputable def m_is_value : List D → R D := mDef 2 b_is_value
noncomputable def b_kind_of_value_L1 : M Fl := (mIf (mTr (mCallF m_is_value (mCons (mVar 1) (mCons (mVar 0) mNil))))
    (mRet (mVar 1))
    mSkip)
noncomputable def b_kind_of_value : M Fl := (mSeq (mForS (mItems (mC c_KINDS)) (setV 1)
    b_kind_of_value_L1)
    mNo)
noncomputable def m_kind_of_value : List D → R D := mDef 2 b_kind_of_value
noncomputable def b__part_kind : M Fl := (mSeq (mIf (mT (mOp dEq (mOp dIx (mVar 1) (mC (.int 0))) (mC (.str "input"))))
    (mRet (mOp dIx (mVar 0) (mOp dIx (mVar 1) (mC (.int 1)))))
    mSkip)
    (mSeq (mIf (mT (mOp dEq (mOp dIx (mVar 1) (mC (.int 0))) (mC (.str "constant"))))
    (mRet (mCallF m_kind_of_value (mCons (mOp dIx (mVar 1) (mC (.int 1))) mNil)))
    mSkip)
    (mRet (mCallF m_result_kind (mCons (mOp dIx (mVar 1) (mC (.int 0))) mNil)))))
noncomputable def m__part_kind : List D → R D := mDef 2 b__part_kind
noncomputable def b__is_index : M Fl := (mRet (mAnd (mIs "int" (mVar 0)) (mAnd (mNot (mIs "bool" (mVar 0))) (mChain dLe dLt (mC (.int 0)) (mVar 0) (mVar 1)))))
noncomputable def m__is_index : List D → R D := mDef 2 b__is_index
noncomputable def b_is_of_some_kind_E1 : M D := (mCallF m_is_value (mCons (mVar 1) (mCons (mVar 0) mNil)))
noncomputable def b_is_of_some_kind : M Fl := (mRet (mCall dAny (mCons (mOf (mLcS [1] (mItems (mC c_KINDS)) (setV 1) mYes b_is_of_some_kind_E1)) mNil)))
noncomputable def m_is_of_some_kind : List D → R D := mDef 2 b_is_of_some_kind
noncomputable def b_argument_kinds : M Fl := (mSeq (mIf (mNotT (mTr (mCallF m_is_component (mCons (mVar 0) mNil))))
    mNo
    mSkip)
    (mRet (mCall dList (mCons (mOp dIx (mUn (dGetK d_SIGNATURES) (mVar 0)) (mC (.int 0))) mNil))))
noncomputable def m_argument_kinds : List D → R D := mDef 1 b_argument_kinds
noncomputable def b__is_sound : M Fl := (mSeq (mIf (mOrT (mNotT (mTr (mIs "tuple" (mVar 1)))) (mT (mOp dEq (mCall dLen (mCons (mVar 1) mNil)) (mC (.int 0)))))
    (mRet (mC (.bool false)))
    mSkip)
    (mSeq (mIf (mT (mOp dEq (mOp dIx (mVar 1) (mC (.int 0))) (mC (.str "input"))))
    (mAsg (setV 3) (mAnd (mOp dEq (mCall dLen (mCons (mVar 1) mNil)) (mC (.int 2))) (mCallF m__is_index (mCons (mOp dIx (mVar 1) (mC (.int 1))) (mCons (mCall dLen (mCons (mVar 0) mNil)) mNil)))))
    (mIf (mT (mOp dEq (mOp dIx (mVar 1) (mC (.int 0))) (mC (.str "constant"))))
    (mAsg (setV 3) (mAnd (mOp dEq (mCall dLen (mCons (mVar 1) mNil)) (mC (.int 2))) (mCallF m_is_of_some_kind (mCons (mOp dIx (mVar 1) (mC (.int 1))) mNil))))
    (mAsg (setV 3) (mAnd (mCallF m_is_component (mCons (mOp dIx (mVar 1) (mC (.int 0))) mNil)) (mOp dEq (mOp dSub (mCall dLen (mCons (mVar 1) mNil)) (mC (.int 1))) (mCall dLen (mCons (mCallF m_argument_kinds (mCons (mOp dIx (mVar 1) (mC (.int 0))) mNil)) mNil)))))))
    (mRet (mAnd (mVar 3) (mOr (mOp dIsN (mVar 2) (mC .none)) (mOp dEq (mCallF m__part_kind (mCons (mVar 0) (mCons (mVar 1) mNil))) (mVar 2)))))))
noncomputable def m__is_sound : List D → R D := mDef 4 b__is_sound
noncomputable def b_is_leaf : M Fl := (mRet (mOr (mOp dEq (mOp dIx (mVar 0) (mC (.int 0))) (mC (.str "input"))) (mOp dEq (mOp dIx (mVar 0) (mC (.int 0))) (mC (.str "constant")))))
noncomputable def m_is_leaf : List D → R D := mDef 1 b_is_leaf
noncomputable def b__wanted_arguments_E1 : M D := (mCall dTup (mCons (mVar 2) (mCons (mVar 3) (mCons (mVar 1) mNil))))
noncomputable def b__wanted_arguments : M Fl := (mSeq (mIf (mTr (mCallF m_is_leaf (mCons (mVar 0) mNil)))
    (mRet (mOf (mNew mNil)))
    mSkip)
    (mRet (mOf (mLcS [2, 3] (mZipM (mSl (mVar 0) (mPart (mC (.int 1))) mNoPart) (mCallF m_argument_kinds (mCons (mOp dIx (mVar 0) (mC (.int 0))) mNil))) (setT2 (setV 2) (setV 3)) mYes b__wanted_arguments_E1))))
noncomputable def m__wanted_arguments : List D → R D := mDef 4 b__wanted_arguments
noncomputable def b_program_kind_C1 : M Bool := (mTrM 2)
noncomputable def b_program_kind_L1 : M Fl := (mSeq (mAsg (setT3 (setV 4) (setV 5) (setV 6)) (mPop 2))
    (mSeq (mIf (mOrT (mT (mOp dEq (mVar 3) (mC c_MOST_PARTS))) (mOrT (mT (mOp dGt (mVar 6) (mC c_MOST_DEPTH))) (mNotT (mTr (mCallF m__is_sound (mCons (mVar 0) (mCons (mVar 4) (mCons (mVar 5) mNil))))))))
    (mRaise 0 t_InvalidProgram (mVar 4))
    mSkip)
    (mSeq (mAug 3 (fun i j => i + j) (mC (.int 1)))
    (mExt 2 (mUn dRev (mCallF m__wanted_arguments (mCons (mVar 4) (mCons (mOp dAdd (mVar 6) (mC (.int 1))) mNil))))))))
noncomputable def b_program_kind : M Fl := (mSeq (mSetM 2 (mNew (mCons (mCall dTup (mCons (mVar 1) (mCons (mC .none) (mCons (mC (.int 1)) mNil)))) mNil)))
    (mSeq (mAsg (setV 3) (mC (.int 0)))
    (mSeq (mWhileS b_program_kind_C1
    b_program_kind_L1)
    (mRet (mCallF m__part_kind (mCons (mVar 0) (mCons (mVar 1) mNil)))))))
noncomputable def m_program_kind : List D → R D := mDefE 7 b_program_kind
noncomputable def b__law_told_B1 : M Fl := (mRet (mCall dTup (mCons (mC (.str "kind")) (mCons (mCallE m_program_kind (mCons (mVar 0) (mCons (mVar 1) mNil))) mNil))))
noncomputable def b__law_told : M Fl := (mTryR 2 (fun _ => true) b__law_told_B1 (fun _ pay => [(.str "invalid"), pay, (.bool true), (.bool false)]))
noncomputable def m__law_told : List D → R D := mDefE 3 b__law_told
noncomputable def b__law_letter_E1 : M D := (mOp dIx (mVar 3) (mC (.int 2)))
noncomputable def b__law_letter_T1 : M Bool := (mT (mOp dEq (mOp dIx (mVar 3) (mC (.int 0))) (mOp dIx (mVar 0) (mC (.int 0)))))
noncomputable def b__law_letter : M Fl := (mSeq (mIf (mT (mOp dEq (mOp dIx (mVar 0) (mC (.int 0))) (mC (.str "input"))))
    (mRet (mOp dIx (mVar 1) (mOp dIx (mVar 0) (mC (.int 1)))))
    mSkip)
    (mSeq (mIf (mT (mOp dNe (mOp dIx (mVar 0) (mC (.int 0))) (mC (.str "constant"))))
    (mRet (mOp dIx (mOf (mLcS [3] (mItems (mVar 2)) (setV 3) b__law_letter_T1 b__law_letter_E1)) (mC (.int 0))))
    mSkip)
    (mSeq (mIf (mTr (mIs "bool" (mOp dIx (mVar 0) (mC (.int 1)))))
    (mRet (mC (.str "t")))
    mSkip)
    (mRet (mOp dIx (mC (.str "nsl")) (mOp dAdd (mCall dInt (mCons (mIs "str" (mOp dIx (mVar 0) (mC (.int 1)))) mNil)) (mOp dMul (mC (.int 2)) (mCall dInt (mCons (mIs "tuple" (mOp dIx (mVar 0) (mC (.int 1)))) mNil)))))))))
noncomputable def m__law_letter : List D → R D := mDef 4 b__law_letter
noncomputable def b__law_replaced_L1 (mf : List D → R D) : M Fl := (mSeq (mAsg (setV 6) (mCall dLen (mCons (mCallF m__law_parts (mCons (mOp dIx (mVar 0) (mVar 5)) mNil)) mNil)))
    (mSeq (mIf (mT (mChain dLe dLt (mVar 3) (mVar 1) (mOp dAdd (mVar 3) (mVar 6))))
    (mApp 4 (mCallF mf (mCons (mOp dIx (mVar 0) (mVar 5)) (mCons (mOp dSub (mVar 1) (mVar 3)) (mCons (mVar 2) mNil)))))
    (mApp 4 (mOp dIx (mVar 0) (mVar 5))))
    (mAsg (setV 3) (mOp dAdd (mVar 3) (mVar 6)))))
noncomputable def b__law_replaced (mf : List D → R D) : M Fl := (mSeq (mIf (mT (mOp dEq (mVar 1) (mC (.int 0))))
    (mRet (mVar 2))
    mSkip)
    (mSeq (mAsg (setV 3) (mC (.int 1)))
    (mSeq (mSetM 4 (mNew (mCons (mOp dIx (mVar 0) (mC (.int 0))) mNil)))
    (mSeq (mForS (mRng2 (mC (.int 1)) (mCall dLen (mCons (mVar 0) mNil))) (setV 5)
    (b__law_replaced_L1 mf))
    (mFrz 4 (mRet (mCall dTuple (mCons (mVar 4) mNil))))))))
noncomputable def m__law_replaced_n : Nat → List D → R D
  | 0 => mDef 7 mNo
  | n + 1 => mDef 7 (b__law_replaced (m__law_replaced_n n))
noncomputable def m__law_replaced : List D → R D := m__law_replaced_n 50
noncomputable def b_law_E1 : M D := (mOp dIx (mC (.str "ntsl")) (mOp dMod (mOp dDiv (mVar 1) (mOp dAdd (mC (.int 4)) (mOp dMul (mC (.int 3)) (mVar 15)))) (mC (.int 4))))
noncomputable def b_law_E2 : M D := (mCallF m__law_kind (mCons (mVar 5) mNil))
noncomputable def b_law_E3 : M D := (mOp dDiv (mCall dAbs (mCons (mCall dInt (mCons (mVar 14) mNil)) mNil)) (mC (.int 2)))
noncomputable def b_law : M Fl := (mSeq (mAsg (setV 1) (mCall dAbs (mCons (mCallF m__law_cell (mCons (mVar 0) (mCons (mC (.int 0)) mNil))) mNil)))
    (mSeq (mAsg (setV 2) (mOp dAdd (mC (.str "n")) (mM1 dJoin (mC (.str "")) (mOf (mLcS [15] (mRng1 (mOp dMod (mVar 1) (mC (.int 4)))) (setV 15) mYes b_law_E1)))))
    (mSeq (mSetL 3 (mLcS [5] (mItems (mVar 2)) (setV 5) mYes b_law_E2))
    (mSeq (mSetM 4 (mCat (mOf (mLcS [14] (mItems (mSl (mVar 0) (mPart (mC (.int 2))) (mPart (mC (.int 62))))) (setV 14) mYes b_law_E3)) (mCallF m__law_draws (mCons (mCallF m__law_cell (mCons (mVar 0) (mCons (mC (.int 1)) mNil))) (mCons (mC (.int 60)) (mCons (mC (.int 171000)) mNil))))))
    (mSeq (mAsg (setV 5) (mOp dIx (mC (.str "ntsl")) (mOp dMod (mCall dAbs (mCons (mCallF m__law_cell (mCons (mVar 0) (mCons (mC (.int 62)) mNil))) mNil)) (mC (.int 4)))))
    (mSeq (mAsg (setV 6) (mCallB 4 m__law_program (mCons (mVar 5) (mCons (mVar 2) (mCons (mOp dAdd (mC (.int 3)) (mOp dMod (mOp dDiv (mCall dAbs (mCons (mCallF m__law_cell (mCons (mVar 0) (mCons (mC (.int 62)) mNil))) mNil)) (mC (.int 4))) (mC (.int 2)))) (mCons (mCallF m__law_library mNil) mNil))))))
    (mSeq (mAsg (setV 7) (mCallF m__law_parts (mCons (mVar 6) mNil)))
    (mSeq (mIf (mT (mOp dLe (mCall dLen (mCons (mVar 7) mNil)) (mC (.int 60))))
    (mSeq (mAsg (setV 10) (mOp dMod (mOp dDiv (mVar 1) (mC (.int 20))) (mCall dLen (mCons (mVar 7) mNil))))
    (mSeq (mAsg (setV 11) (mCall dAbs (mCons (mCallF m__law_cell (mCons (mVar 0) (mCons (mC (.int 2)) mNil))) mNil)))
    (mSeq (mAsg (setV 12) (mCallF m__law_wrong (mCons (mVar 11) (mCons (mCallF m__law_letter (mCons (mOp dIx (mVar 7) (mVar 10)) (mCons (mVar 2) (mCons (mCallF m__law_library mNil) mNil)))) (mCons (mCall dLen (mCons (mVar 2) mNil)) mNil)))))
    (mSeq (mIf (mAndT (mT (mOp dEq (mVar 10) (mC (.int 0)))) (mT (mOp dEq (mOp dMod (mVar 11) (mC (.int 12))) (mC (.int 0)))))
    (mRet (mOp dEq (mOp dIx (mCallE m__law_told (mCons (mVar 3) (mCons (mVar 12) mNil))) (mC (.int 0))) (mC (.str "kind"))))
    mSkip)
    (mSeq (mAsg (setV 13) (mCallE m__law_told (mCons (mVar 3) (mCons (mCallF m__law_replaced (mCons (mVar 6) (mCons (mVar 10) (mCons (mVar 12) mNil)))) mNil))))
    (mIf (mT (mOp dNe (mVar 13) (mCall dTup (mCons (mC (.str "invalid")) (mCons (mVar 12) (mCons (mC (.bool true)) (mCons (mC (.bool false)) mNil)))))))
    (mRet (mC (.bool false)))
    mSkip))))))
    mSkip)
    (mSeq (mAsg (setV 8) (mCallF m__law_large (mCons (mOp dDiv (mVar 1) (mC (.int 3))) mNil)))
    (mSeq (mAsg (setV 9) (mCallF m__law_parts (mCons (mOp dIx (mVar 8) (mC (.int 0))) mNil)))
    (mSeq (mIf (mT (mOp dEq (mOp dIx (mVar 8) (mC (.int 1))) (mC (.int 30))))
    (mRet (mOp dEq (mCallE m__law_told (mCons (mVar 3) (mCons (mOp dIx (mVar 8) (mC (.int 0))) mNil))) (mCall dTup (mCons (mC (.str "invalid")) (mCons (mOp dIx (mVar 9) (mC (.int 30))) (mCons (mC (.bool true)) (mCons (mC (.bool false)) mNil)))))))
    mSkip)
    (mSeq (mIf (mT (mOp dLe (mCall dLen (mCons (mVar 9) mNil)) (mC (.int 60))))
    (mRet (mC (.bool true)))
    mSkip)
    (mRet (mOp dEq (mOp dIx (mCallE m__law_told (mCons (mVar 3) (mCons (mOp dIx (mVar 8) (mC (.int 0))) mNil))) (mC (.int 0))) (mC (.str "invalid"))))))))))))))))
noncomputable def m_law : List D → R D := mDef 16 b_law
end K07
end Part_K07d

section Part_K07o
set_option Elab.async false
set_option linter.all false
set_option maxRecDepth 100000
set_option autoImplicit false
set_option maxHeartbeats 2000000
namespace K07
open PySem PySem.Spec PyProof.Rows L2 DL
/-- what the top has written -/
structure Txt (P : Program) (w : World) (K : PySem.W.Frag) (mg : Str → Option Value) (C : Addr) : Prop where
  f__law_number : FunX K mg "_law_number" s__law_number ["cell"]
  f__law_draws : FunX K mg "_law_draws" s__law_draws ["cell", "many", "limit"]
  f__law_value : FunX K mg "_law_value" s__law_value ["letter", "cell"]
  f__law_take : FunX K mg "_law_take" s__law_take ["numbers", "limit"]
  f__law_leaf : FunX K mg "_law_leaf" s__law_leaf ["numbers", "letter", "kinds"]
  f__law_program : FunX K mg "_law_program" s__law_program ["numbers", "letter", "kinds", "depth", "library"]
  f__law_parts : FunX K mg "_law_parts" s__law_parts ["program"]
  f__law_large : FunX K mg "_law_large" s__law_large ["first"]
  f__law_cell : FunX K mg "_law_cell" s__law_cell ["script", "k"]
  f__law_kind : FunX K mg "_law_kind" s__law_kind ["letter"]
  f__law_library : FunX K mg "_law_library" s__law_library []
  f__law_wrong : FunX K mg "_law_wrong" s__law_wrong ["number", "letter", "count"]
  f_is_component : FunX K mg "is_component" s_is_component ["name"]
  f_result_kind : FunX K mg "result_kind" s_result_kind ["name"]
  f_is_number : FunX K mg "is_number" s_is_number ["value"]
  f_is_text : FunX K mg "is_text" s_is_text ["value"]
  f_is_list : FunX K mg "is_list" s_is_list ["value"]
  f_is_value : FunX K mg "is_value" s_is_value ["kind", "value"]
  f_kind_of_value : FunX K mg "kind_of_value" s_kind_of_value ["value"]
  f__part_kind : FunX K mg "_part_kind" s__part_kind ["kinds", "part"]
  f__is_index : FunX K mg "_is_index" s__is_index ["value", "many"]
  f_is_of_some_kind : FunX K mg "is_of_some_kind" s_is_of_some_kind ["value"]
  f_argument_kinds : FunX K mg "argument_kinds" s_argument_kinds ["name"]
  f__is_sound : FunX K mg "_is_sound" s__is_sound ["kinds", "part", "wanted"]
  f_is_leaf : FunX K mg "is_leaf" s_is_leaf ["part"]
  f__wanted_arguments : FunX K mg "_wanted_arguments" s__wanted_arguments ["part", "level"]
  f_program_kind : FunX K mg "program_kind" s_program_kind ["kinds", "program"]
  f__law_told : FunX K mg "_law_told" s__law_told ["kinds", "program"]
  f__law_letter : FunX K mg "_law_letter" s__law_letter ["part", "letters", "library"]
  f__law_replaced : FunX K mg "_law_replaced" s__law_replaced ["program", "at", "part"]
  f_law : FunX K mg "law" s_law ["script"]
  c_KINDS : ConX K mg "KINDS" c_KINDS
  c_LIST_LIMIT : ConX K mg "LIST_LIMIT" c_LIST_LIMIT
  c_MOST_DEPTH : ConX K mg "MOST_DEPTH" c_MOST_DEPTH
  c_MOST_PARTS : ConX K mg "MOST_PARTS" c_MOST_PARTS
  c_NUMBER_LIMIT : ConX K mg "NUMBER_LIMIT" c_NUMBER_LIMIT
  c_SIGNS : ConX K mg "SIGNS" c_SIGNS
  c_TEXT_LIMIT : ConX K mg "TEXT_LIMIT" c_TEXT_LIMIT
  d_SIGNATURES : TabX K w mg "SIGNATURES" (Says K) d_SIGNATURES
  z_abs : mg "abs" = none
  z_all : mg "all" = none
  z_any : mg "any" = none
  z_bool : mg "bool" = none
  z_int : mg "int" = none
  z_isinstance : mg "isinstance" = none
  z_len : mg "len" = none
  z_list : mg "list" = none
  z_range : mg "range" = none
  z_str : mg "str" = none
  z_tuple : mg "tuple" = none
  z_zip : mg "zip" = none
  g_InvalidProgram : mg "InvalidProgram" = some (.ref C)
  cf : ClsF K C "part"
  x_InvalidProgram : ∀ (w : World) (base : Heap), ErrX P w K mg base 1 "InvalidProgram" (C, "part") t_InvalidProgram
  m_InvalidProgram : PySem.W.exmOne K (.ref C) (.ref C) = some true
  k_InvalidTask : ∃ a, mg "InvalidTask" = some (.ref a) ∧ PySem.W.kitOne K (.ref C) (.ref a) = some false
  k_LeastError : ∃ a, mg "LeastError" = some (.ref a) ∧ PySem.W.kitOne K (.ref C) (.ref a) = some true
section
variable {P : Program} {w : World} {K : PySem.W.Frag} {mg : Str → Option Value} {base : Heap} {C : Addr}
theorem ok__law_number (T : Txt P w K mg C) : FnX P w K mg base 1 "_law_number" 1 m__law_number :=
  def_okX (k := 0) (EC := EC0 C) T.f__law_number sc__law_number fun f cdv A outer s H E hr => (show DSs _ _ _ _ b__law_number from
  (dss_cons (ds_set 1 sc__law_number.nd (de_op op_modN ro_mod (de_var 0) de_int))
    (dss_cons (ds_if (dt_cmp (op_eqD hr.units) ro_eq (de_var 1) de_int (nomark _))
    (dss_one (ds_ret (de_op op_sub ro_sub (de_op op_modN ro_mod (de_op op_divA ro_div (de_var 0) de_int) de_int) de_int)))
    dss_nil)
    (dss_cons (ds_if (dt_cmp (op_eqD hr.units) ro_eq (de_var 1) de_int (nomark _))
    (dss_one (ds_ret (de_op op_sub ro_sub (de_op op_modN ro_mod (de_op op_divA ro_div (de_var 0) de_int) de_int) de_int)))
    dss_nil)
    (dss_cons (ds_if (dt_cmp (op_eqD hr.units) ro_eq (de_var 1) de_int (nomark _))
    (dss_one (ds_ret (de_ix (de_lst (da_cons de_int (da_cons (de_un un_neg ro_neg de_int) (da_cons de_int (da_cons de_int (da_cons de_int (da_cons (de_un un_neg ro_neg de_int) (da_cons de_int (da_cons (de_un un_neg ro_neg de_int) da_nil))))))))) (de_op op_modN ro_mod (de_op op_divA ro_div (de_var 0) de_int) de_int))))
    dss_nil)
    (dss_one (ds_ret (de_op op_sub ro_sub (de_op op_modN ro_mod (de_op op_divA ro_div (de_var 0) de_int) de_int) de_int))))))))
theorem ok__law_draws (T : Txt P w K mg C) : FnX P w K mg base 1 "_law_draws" 3 m__law_draws :=
  def_okX (k := 0) (EC := EC0 C) T.f__law_draws sc__law_draws fun f cdv A outer s H E hr => (show DSs _ _ _ _ b__law_draws from
  (dss_cons (ds_setM 3 sc__law_draws.nd (dl_lst da_nil))
    (dss_cons (ds_set 4 sc__law_draws.nd (de_callB call_abs rc_abs (by rfl) T.z_abs (by decide +kernel) (da_cons (de_var 0) da_nil)))
    (dss_cons (ds_for PassesOwn.never rfl (di_rng1 (by rfl) T.z_range (de_var 1)) (dg_name (j := 5) sc__law_draws.nd rfl (by first | exact Or.inl rfl | exact Or.inr rfl))
    (dss_one (ds_if (dw_and (dt_cmp op_ge ro_ge (de_callB call_abs rc_abs (by rfl) T.z_abs (by decide +kernel) (da_cons (de_var 0) da_nil)) (de_op op_pow ro_pow de_int de_int) (nomark _)) (dw_and1 (dt_cmp (op_gtA hr.units0) ro_gt (de_var 4) de_int (nomark _)))).dt
    (dss_cons (ds_app 3 (de_op op_modN ro_mod (de_callTy call_intA rc_int (by rfl) T.z_int (by decide +kernel) (da_cons (de_var 4) da_nil)) (de_var 2)))
    (dss_one (ds_set 4 sc__law_draws.nd (de_op op_divA ro_div (de_var 4) (de_var 2)))))
    (dss_cons (ds_set 6 sc__law_draws.nd (de_op op_modN ro_mod (de_callTy call_intA rc_int (by rfl) T.z_int (by decide +kernel) (da_cons (de_op op_addA ro_add (de_op op_addA ro_add (de_op op_mulA ro_mul (de_callB call_abs rc_abs (by rfl) T.z_abs (by decide +kernel) (da_cons (de_var 0) da_nil)) de_int) (de_op op_mulA ro_mul (de_var 5) de_int)) de_int) da_nil)) de_int))
    (dss_cons (ds_set 6 sc__law_draws.nd (de_op op_modN ro_mod (de_callTy call_intA rc_int (by rfl) T.z_int (by decide +kernel) (da_cons (de_op op_addA ro_add (de_op op_addA ro_add (de_op op_mulA ro_mul (de_var 6) de_int) (de_op op_divA ro_div (de_var 6) de_int)) (de_op op_mulA ro_mul (de_var 5) de_int)) da_nil)) de_int))
    (dss_one (ds_app 3 (de_op op_modN ro_mod (de_op op_divA ro_div (de_var 6) de_int) (de_var 2)))))))))
    (dss_frz 3 (dss_one (ds_ret (de_var 3))))))))
theorem ok__law_value (T : Txt P w K mg C) : FnX P w K mg base 2 "_law_value" 2 m__law_value :=
  def_okX (k := 1) (EC := EC0 C) T.f__law_value sc__law_value fun f cdv A outer s H E hr => (show DSs _ _ _ _ b__law_value from
  (dss_cons (ds_if (dt_cmp (op_eqD hr.units) ro_eq (de_var 0) de_str (nomark _))
    (dss_one (ds_ret (de_callX (ok__law_number T) (hr.mono (by decide)) (da_cons (de_var 1) da_nil))))
    dss_nil)
    (dss_cons (ds_if (dt_cmp (op_eqD hr.units) ro_eq (de_var 0) de_str (nomark _))
    (dss_one (ds_ret (de_cmp (op_eqD hr.units) ro_eq (de_op op_modN ro_mod (de_var 1) de_int) de_int (nomark _))))
    dss_nil)
    (dss_cons (ds_if (dt_cmp (op_eqD hr.units) ro_eq (de_var 0) de_str (nomark _))
    (dss_cons (ds_set 2 sc__law_value.nd (de_ix (de_lst (da_cons de_int (da_cons de_int (da_cons de_int (da_cons de_int (da_cons de_int (da_cons de_int (da_cons de_int (da_cons de_int da_nil))))))))) (de_op op_modN ro_mod (de_var 1) de_int)))
    (dss_one (ds_ret (de_m1 PySem.F.slot_str_join PySem.F.type_str_join mt_join rm_join de_str (de_of (dl_lc (own := [(("k" : Str), 3)]) (W0 := W00) rfl sc__law_value.nd (di_seq (de_callX (ok__law_draws T) (hr.mono (by decide)) (da_cons (de_op op_divA ro_div (de_var 1) de_int) (da_cons (de_var 2) (da_cons de_int da_nil))))) (blkOk_by (N := N__law_value) (sc := defScope s__law_value) (by decide +kernel)) (fun _ _ _ _ _ => (dg_name (j := 3) sc__law_value.nd rfl (by first | exact Or.inl rfl | exact Or.inr rfl))) (by simp) (fun _ _ _ _ _ => dts_nil) (fun _ _ _ _ _ => (de_ix de_str (de_op op_modN ro_mod (de_var 3) de_int)))))))))
    dss_nil)
    (dss_cons (ds_set 2 sc__law_value.nd (de_ix (de_lst (da_cons de_int (da_cons de_int (da_cons de_int (da_cons de_int (da_cons de_int (da_cons de_int (da_cons de_int (da_cons de_int da_nil))))))))) (de_op op_modN ro_mod (de_var 1) de_int)))
    (dss_cons (ds_if (dt_cmp (op_eqD hr.units) ro_eq (de_op op_modN ro_mod (de_op op_divA ro_div (de_var 1) de_int) de_int) de_int (nomark _))
    (dss_one (ds_ret (de_callTy call_tuple_of rc_tuple (by rfl) T.z_tuple (by decide +kernel) (da_cons (de_of (dl_lc (own := [(("k" : Str), 3)]) (W0 := W00) rfl sc__law_value.nd (di_seq (de_callX (ok__law_draws T) (hr.mono (by decide)) (da_cons (de_op op_divA ro_div (de_var 1) de_int) (da_cons (de_var 2) (da_cons de_int da_nil))))) (blkOk_by (N := N__law_value) (sc := defScope s__law_value) (by decide +kernel)) (fun _ _ _ _ _ => (dg_name (j := 3) sc__law_value.nd rfl (by first | exact Or.inl rfl | exact Or.inr rfl))) (by simp) (fun _ _ _ _ _ => dts_nil) (fun _ _ _ _ _ => (de_callX (ok__law_number T) (hr.mono (by decide)) (da_cons (de_var 3) da_nil))))) da_nil))))
    dss_nil)
    (dss_one (ds_ret (de_callTy call_tuple_of rc_tuple (by rfl) T.z_tuple (by decide +kernel) (da_cons (de_of (dl_lc (own := [(("k" : Str), 3)]) (W0 := W00) rfl sc__law_value.nd (di_seq (de_callX (ok__law_draws T) (hr.mono (by decide)) (da_cons (de_op op_divA ro_div (de_var 1) de_int) (da_cons (de_var 2) (da_cons de_int da_nil))))) (blkOk_by (N := N__law_value) (sc := defScope s__law_value) (by decide +kernel)) (fun _ _ _ _ _ => (dg_name (j := 3) sc__law_value.nd rfl (by first | exact Or.inl rfl | exact Or.inr rfl))) (by simp) (fun _ _ _ _ _ => dts_nil) (fun _ _ _ _ _ => (de_op op_sub ro_sub (de_op op_modN ro_mod (de_var 3) de_int) de_int)))) da_nil))))))))))
theorem ok__law_take (T : Txt P w K mg C) : FnB P w K mg base 1 "_law_take" 2 m__law_take :=
  def_okB (k := 0) (EC := EC0 C) T.f__law_take sc__law_take fun f cdv A outer s H E hr => (show DSs _ _ _ _ b__law_take from
  (dss_cons (ds_if (dt_cmp (op_eqD hr.units) ro_eq (de_lenM 0 (by rfl) T.z_len) de_int (nomark _))
    (dss_one (ds_ret de_int))
    dss_nil)
    (dss_one (ds_ret (de_op op_modN ro_mod (de_callTy call_intA rc_int (by rfl) T.z_int (by decide +kernel) (da_cons (de_pop 0) da_nil)) (de_var 1))))))
theorem ok__law_leaf (T : Txt P w K mg C) : FnB P w K mg base 3 "_law_leaf" 3 m__law_leaf :=
  def_okB (k := 2) (EC := EC0 C) T.f__law_leaf sc__law_leaf fun f cdv A outer s H E hr => (show DSs _ _ _ _ b__law_leaf from
  (dss_cons (ds_setLcB 3 (own := [(("k" : Str), 4)]) (W0 := W00) rfl sc__law_leaf.nd rfl rfl (sw_true rfl rfl rfl (by decide +kernel)) (di_rng1 (by rfl) T.z_range (de_callB call_len rc_len (by rfl) T.z_len (by decide +kernel) (da_cons (de_var 2) da_nil))) (blkOk_by (N := N__law_leaf) (sc := defScope s__law_leaf) (by decide +kernel)) (fun _ _ _ _ _ => (dg_name (j := 4) sc__law_leaf.nd rfl (by first | exact Or.inl rfl | exact Or.inr rfl))) (by simp) (fun _ _ _ _ _ => (dts_one (dt_cmp (op_eqD hr.units) ro_eq (de_ix (de_var 2) (de_var 4)) (de_var 1) (nomark _)))) (fun _ _ _ _ _ => (de_var 4)))
    (dss_cons (ds_if (dw_and (dt_cmp (op_gtA hr.units0) ro_gt (de_callB call_len rc_len (by rfl) T.z_len (by decide +kernel) (da_cons (de_var 3) da_nil)) de_int (nomark _)) (dw_and1 (dt_cmp (op_gtA hr.units0) ro_gt (de_lend 0 (ok__law_take T) (hr.mono (by decide)) (da_cons de_int da_nil)) de_int (nomark _)))).dt
    (dss_one (ds_ret (de_tup (da_cons de_str (da_cons (de_ix (de_var 3) (de_lend 0 (ok__law_take T) (hr.mono (by decide)) (da_cons (de_callB call_len rc_len (by rfl) T.z_len (by decide +kernel) (da_cons (de_var 3) da_nil)) da_nil))) da_nil)))))
    dss_nil)
    (dss_one (ds_ret (de_tup (da_cons de_str (da_cons (de_callX (ok__law_value T) (hr.mono (by decide)) (da_cons (de_var 1) (da_cons (de_lend 0 (ok__law_take T) (hr.mono (by decide)) (da_cons de_int da_nil)) da_nil))) da_nil))))))))
theorem ok__law_program_n (T : Txt P w K mg C) : ∀ n : Nat, FnB P w K mg base (4 + n) "_law_program" 5 (m__law_program_n n)
  | 0 => def_okB (k := 3) (EC := EC0 C) T.f__law_program sc__law_program fun f cdv A outer s H E hr => dss_no
  | n + 1 =>
    have ih := ok__law_program_n T n
    def_okB (k := 4 + n) (EC := EC0 C) T.f__law_program sc__law_program fun f cdv A outer s H E hr => (show DSs _ _ _ _ (b__law_program (m__law_program_n n)) from
  (dss_cons (ds_if (dw_or (dt_cmp (op_ltA hr.units0) ro_lt (de_var 3) de_int (nomark _)) (dw_or1 (dt_cmp (op_eqD hr.units) ro_eq (de_lend 0 (ok__law_take T) (hr.mono (by omega)) (da_cons de_int da_nil)) de_int (nomark _)))).dt
    (dss_one (ds_ret (de_lend 0 (ok__law_leaf T) (hr.mono (by omega)) (da_cons (de_var 1) (da_cons (de_var 2) da_nil)))))
    dss_nil)
    (dss_cons (ds_setLcB 5 (own := [(("row" : Str), 6)]) (W0 := W00) rfl sc__law_program.nd rfl rfl (sw_true rfl rfl rfl (by decide +kernel)) (di_seq (de_var 4)) (blkOk_by (N := N__law_program) (sc := defScope s__law_program) (by decide +kernel)) (fun _ _ _ _ _ => (dg_name (j := 6) sc__law_program.nd rfl (by first | exact Or.inl rfl | exact Or.inr rfl))) (by simp) (fun _ _ _ _ _ => (dts_one (dt_cmp (op_eqD hr.units) ro_eq (de_ix (de_var 6) de_int) (de_var 1) (nomark _)))) (fun _ _ _ _ _ => (de_var 6)))
    (dss_cons (ds_set 6 sc__law_program.nd (de_ix (de_var 5) (de_lend 0 (ok__law_take T) (hr.mono (by omega)) (da_cons (de_callB call_len rc_len (by rfl) T.z_len (by decide +kernel) (da_cons (de_var 5) da_nil)) da_nil))))
    (dss_one (ds_ret (de_op op_addA ro_add (de_tup (da_cons (de_ix (de_var 6) de_int) da_nil)) (de_callTy call_tuple_of rc_tuple (by rfl) T.z_tuple (by decide +kernel) (da_cons (de_of (dl_lcB (own := [(("one" : Str), 7)]) (W0 := W00) rfl sc__law_program.nd (di_seq (de_ix (de_var 6) de_int)) (blkOk_by (N := N__law_program) (sc := defScope s__law_program) (by decide +kernel)) (fun _ _ _ _ _ => (dg_name (j := 7) sc__law_program.nd rfl (by first | exact Or.inl rfl | exact Or.inr rfl))) (by simp) (fun _ _ _ _ _ => dts_nil) (fun _ _ _ _ _ => (de_lend 0 ih (hr.mono (by omega)) (da_cons (de_var 7) (da_cons (de_var 2) (da_cons (de_op op_sub ro_sub (de_var 3) de_int) (da_cons (de_var 4) da_nil)))))))) da_nil)))))))))
theorem ok__law_program (T : Txt P w K mg C) : FnB P w K mg base 54 "_law_program" 5 m__law_program := ok__law_program_n T 50
theorem ok__law_parts_n (T : Txt P w K mg C) : ∀ n : Nat, FnX P w K mg base (1 + n) "_law_parts" 1 (m__law_parts_n n)
  | 0 => def_okX (k := 0) (EC := EC0 C) T.f__law_parts sc__law_parts fun f cdv A outer s H E hr => dss_no
  | n + 1 =>
    have ih := ok__law_parts_n T n
    def_okX (k := 1 + n) (EC := EC0 C) T.f__law_parts sc__law_parts fun f cdv A outer s H E hr => (show DSs _ _ _ _ (b__law_parts (m__law_parts_n n)) from
  (dss_cons (ds_if (dt_cmp op_inA ro_in (de_ix (de_var 0) de_int) (de_lst (da_cons de_str (da_cons de_str da_nil))) rfl)
    (dss_one (ds_ret (de_lst (da_cons (de_var 0) da_nil))))
    dss_nil)
    (dss_cons (ds_set 1 sc__law_parts.nd (de_lst (da_cons (de_var 0) da_nil)))
    (dss_cons (ds_for PassesOwn.never rfl (di_rng2 (by rfl) T.z_range de_int (de_callB call_len rc_len (by rfl) T.z_len (by decide +kernel) (da_cons (de_var 0) da_nil))) (dg_name (j := 2) sc__law_parts.nd rfl (by first | exact Or.inl rfl | exact Or.inr rfl))
    (dss_one (ds_set 1 sc__law_parts.nd (de_op op_addA ro_add (de_var 1) (de_callX ih (hr.mono (by omega)) (da_cons (de_ix (de_var 0) (de_var 2)) da_nil))))))
    (dss_one (ds_ret (de_var 1)))))))
theorem ok__law_parts (T : Txt P w K mg C) : FnX P w K mg base 51 "_law_parts" 1 m__law_parts := ok__law_parts_n T 50
theorem ok__law_large (T : Txt P w K mg C) : FnX P w K mg base 1 "_law_large" 1 m__law_large :=
  def_okX (k := 0) (EC := EC0 C) T.f__law_large sc__law_large fun f cdv A outer s H E hr => (show DSs _ _ _ _ b__law_large from
  (dss_cons (ds_if (dt_cmp (op_eqD hr.units) ro_eq (de_op op_modN ro_mod (de_var 0) de_int) de_int (nomark _))
    (dss_cons (ds_set 3 sc__law_large.nd (de_tup (da_cons de_str (da_cons de_int da_nil))))
    (dss_cons (ds_for PassesOwn.never rfl (di_rng1 (by rfl) T.z_range (de_op op_addA ro_add de_int (de_op op_modN ro_mod (de_op op_divA ro_div (de_var 0) de_int) de_int))) (dg_name (j := 2) sc__law_large.nd rfl (by first | exact Or.inl rfl | exact Or.inr rfl))
    (dss_one (ds_set 3 sc__law_large.nd (de_tup (da_cons de_str (da_cons (de_var 3) da_nil))))))
    (dss_one (ds_ret (de_tup (da_cons (de_var 3) (da_cons de_int da_nil)))))))
    dss_nil)
    (dss_cons (ds_set 1 sc__law_large.nd (de_tup (da_cons de_str (da_cons (de_tup (da_cons de_str (da_cons de_int da_nil))) (da_cons (de_tup (da_cons de_str (da_cons de_int da_nil))) da_nil)))))
    (dss_cons (ds_for PassesOwn.never rfl (di_rng1 (by rfl) T.z_range (de_op op_addA ro_add de_int (de_op op_modN ro_mod (de_op op_divA ro_div (de_var 0) de_int) de_int))) (dg_name (j := 2) sc__law_large.nd rfl (by first | exact Or.inl rfl | exact Or.inr rfl))
    (dss_cons (ds_set 1 sc__law_large.nd (de_tup (da_cons de_str (da_cons (de_tup (da_cons de_str (da_cons de_bl da_nil))) (da_cons (de_tup (da_cons de_str (da_cons de_int da_nil))) (da_cons (de_var 1) da_nil))))))
    (dss_one (ds_if (dt_cmp (op_eqD hr.units) ro_eq (de_op op_modN ro_mod (de_var 2) de_int) de_int (nomark _))
    (dss_one (ds_set 1 sc__law_large.nd (de_tup (da_cons de_str (da_cons (de_var 1) (da_cons (de_tup (da_cons de_str (da_cons (de_tup (da_cons de_str (da_cons (de_var 2) da_nil))) da_nil))) da_nil))))))
    dss_nil))))
    (dss_one (ds_ret (de_tup (da_cons (de_var 1) (da_cons de_int da_nil)))))))))
theorem ok__law_cell (T : Txt P w K mg C) : FnX P w K mg base 1 "_law_cell" 2 m__law_cell :=
  def_okX (k := 0) (EC := EC0 C) T.f__law_cell sc__law_cell fun f cdv A outer s H E hr => (show DSs _ _ _ _ b__law_cell from
  (dss_cons (ds_if (dt_cmp (op_ltA hr.units0) ro_lt (de_var 1) (de_callB call_len rc_len (by rfl) T.z_len (by decide +kernel) (da_cons (de_var 0) da_nil)) (nomark _))
    (dss_one (ds_ret (de_callTy call_intA rc_int (by rfl) T.z_int (by decide +kernel) (da_cons (de_ix (de_var 0) (de_var 1)) da_nil))))
    dss_nil)
    (dss_one (ds_ret de_int))))
theorem ok__law_kind (T : Txt P w K mg C) : FnX P w K mg base 1 "_law_kind" 1 m__law_kind :=
  def_okX (k := 0) (EC := EC0 C) T.f__law_kind sc__law_kind fun f cdv A outer s H E hr => (show DSs _ _ _ _ b__law_kind from
  (dss_one (ds_ret (de_ix (de_lst (da_cons de_str (da_cons de_str (da_cons de_str (da_cons de_str da_nil))))) (de_m1 PySem.F.slot_str_index PySem.F.type_str_index mt_indexS rm_indexS de_str (de_var 0))))))
theorem ok__law_library (T : Txt P w K mg C) : FnX P w K mg base 1 "_law_library" 0 m__law_library :=
  def_okX (k := 0) (EC := EC0 C) T.f__law_library sc__law_library fun f cdv A outer s H E hr => (show DSs _ _ _ _ b__law_library from
  (dss_cons (ds_set 0 sc__law_library.nd (de_lst (da_cons de_str (da_cons de_str (da_cons de_str (da_cons de_str (da_cons de_str (da_cons de_str (da_cons de_str (da_cons de_str (da_cons de_str (da_cons de_str (da_cons de_str (da_cons de_str (da_cons de_str (da_cons de_str (da_cons de_str (da_cons de_str (da_cons de_str (da_cons de_str (da_cons de_str (da_cons de_str (da_cons de_str (da_cons de_str (da_cons de_str (da_cons de_str (da_cons de_str (da_cons de_str (da_cons de_str (da_cons de_str (da_cons de_str (da_cons de_str (da_cons de_str (da_cons de_str (da_cons de_str (da_cons de_str (da_cons de_str (da_cons de_str (da_cons de_str (da_cons de_str (da_cons de_str (da_cons de_str (da_cons de_str (da_cons de_str (da_cons de_str (da_cons de_str (da_cons de_str (da_cons de_str (da_cons de_str (da_cons de_str (da_cons de_str (da_cons de_str (da_cons de_str (da_cons de_str (da_cons de_str (da_cons de_str (da_cons de_str (da_cons de_str (da_cons de_str da_nil)))))))))))))))))))))))))))))))))))))))))))))))))))))))))))
    (dss_one (ds_ret (de_of (dl_lc (own := [(("row" : Str), 1)]) (W0 := W00) rfl sc__law_library.nd (di_seq (de_var 0)) (blkOk_by (N := N__law_library) (sc := defScope s__law_library) (by decide +kernel)) (fun _ _ _ _ _ => (dg_name (j := 1) sc__law_library.nd rfl (by first | exact Or.inl rfl | exact Or.inr rfl))) (by simp) (fun _ _ _ _ _ => dts_nil) (fun _ _ _ _ _ => (de_m1 PySem.F.slot_str_split PySem.F.type_str_split mt_split rm_split (de_var 1) de_str))))))))
theorem ok__law_wrong (T : Txt P w K mg C) : FnX P w K mg base 1 "_law_wrong" 3 m__law_wrong :=
  def_okX (k := 0) (EC := EC0 C) T.f__law_wrong sc__law_wrong fun f cdv A outer s H E hr => (show DSs _ _ _ _ b__law_wrong from
  (dss_cons (ds_set 3 sc__law_wrong.nd (de_ix de_str (de_op op_modN ro_mod (de_op op_addA ro_add (de_op op_addA ro_add (de_m1 PySem.F.slot_str_index PySem.F.type_str_index mt_indexS rm_indexS de_str (de_var 1)) de_int) (de_op op_modN ro_mod (de_op op_divA ro_div (de_var 0) de_int) de_int)) de_int)))
    (dss_cons (ds_set 4 sc__law_wrong.nd (de_lst (da_cons (de_tup (da_cons de_str (da_cons (de_ix (de_lst (da_cons de_int (da_cons de_bl (da_cons de_str (da_cons (de_tup da_nil) da_nil))))) (de_m1 PySem.F.slot_str_index PySem.F.type_str_index mt_indexS rm_indexS de_str (de_var 3))) da_nil))) (da_cons (de_tup (da_cons de_str (da_cons (de_var 2) da_nil))) (da_cons (de_tup (da_cons de_str (da_cons (de_un un_neg ro_neg de_int) da_nil))) (da_cons (de_tup (da_cons de_str (da_cons de_bl da_nil))) (da_cons (de_tup (da_cons de_str (da_cons de_non da_nil))) (da_cons (de_tup (da_cons de_str (da_cons (de_lst (da_cons de_int (da_cons de_int da_nil))) da_nil))) (da_cons (de_tup (da_cons de_str (da_cons de_int da_nil))) (da_cons (de_tup (da_cons de_str da_nil)) (da_cons (de_tup (da_cons de_str (da_cons de_int (da_cons de_int da_nil)))) (da_cons (de_tup (da_cons de_str (da_cons (de_tup (da_cons de_str (da_cons de_int da_nil))) da_nil))) (da_cons (de_lst (da_cons de_str (da_cons (de_tup (da_cons de_str (da_cons de_int da_nil))) da_nil))) (da_cons (de_tup da_nil) da_nil))))))))))))))
    (dss_one (ds_ret (de_ix (de_var 4) (de_op op_modN ro_mod (de_var 0) de_int)))))))
theorem ok_is_component (T : Txt P w K mg C) : FnX P w K mg base 1 "is_component" 1 m_is_component :=
  def_okX (k := 0) (EC := EC0 C) T.f_is_component sc_is_component fun f cdv A outer s H E hr => (show DSs _ _ _ _ b_is_component from
  (dss_one (ds_ret (de_and (de_isi (T := "str") (by unfold TyKnown; decide) (de_var 0) (by rfl) T.z_isinstance (by rfl) T.z_str (by decide +kernel)) (de_one (de_inK T.d_SIGNATURES (de_var 0)))))))
theorem ok_result_kind (T : Txt P w K mg C) : FnX P w K mg base 2 "result_kind" 1 m_result_kind :=
  def_okX (k := 1) (EC := EC0 C) T.f_result_kind sc_result_kind fun f cdv A outer s H E hr => (show DSs _ _ _ _ b_result_kind from
  (dss_cons (ds_if (dt_not (dt_truth (de_callX (ok_is_component T) (hr.mono (by decide)) (da_cons (de_var 0) da_nil))))
    (dss_one ds_no)
    dss_nil)
    (dss_one (ds_ret (de_ix (de_getK T.d_SIGNATURES (de_var 0)) de_int)))))
theorem ok_is_number (T : Txt P w K mg C) : FnX P w K mg base 1 "is_number" 1 m_is_number :=
  def_okX (k := 0) (EC := EC0 C) T.f_is_number sc_is_number fun f cdv A outer s H E hr => (show DSs _ _ _ _ b_is_number from
  (dss_cons (ds_if (dw_or (dt_not (dt_truth (de_isi (T := "int") (by unfold TyKnown; decide) (de_var 0) (by rfl) T.z_isinstance (by rfl) T.z_int (by decide +kernel)))) (dw_or1 (dt_truth (de_isi (T := "bool") (by unfold TyKnown; decide) (de_var 0) (by rfl) T.z_isinstance (by rfl) T.z_bool (by decide +kernel))))).dt
    (dss_one (ds_ret de_bl))
    dss_nil)
    (dss_one (ds_ret (de_chain op_le ro_le op_le ro_le (de_un un_neg ro_neg (de_conX T.c_NUMBER_LIMIT)) (de_var 0) (de_conX T.c_NUMBER_LIMIT))))))
theorem ok_is_text (T : Txt P w K mg C) : FnX P w K mg base 1 "is_text" 1 m_is_text :=
  def_okX (k := 0) (EC := EC0 C) T.f_is_text sc_is_text fun f cdv A outer s H E hr => (show DSs _ _ _ _ b_is_text from
  (dss_cons (ds_if (dw_or (dt_not (dt_truth (de_isi (T := "str") (by unfold TyKnown; decide) (de_var 0) (by rfl) T.z_isinstance (by rfl) T.z_str (by decide +kernel)))) (dw_or1 (dt_cmp (op_gtA hr.units0) ro_gt (de_callB call_len rc_len (by rfl) T.z_len (by decide +kernel) (da_cons (de_var 0) da_nil)) (de_conX T.c_TEXT_LIMIT) (nomark _)))).dt
    (dss_one (ds_ret de_bl))
    dss_nil)
    (dss_one (ds_ret (de_callB (cr_all (by rfl)) rc_all (by rfl) T.z_all (by decide +kernel) (da_cons (de_of (dl_lc (own := [(("sign" : Str), 1)]) (W0 := W00) rfl sc_is_text.nd (di_seq (de_var 0)) (blkOk_by (N := N_is_text) (sc := defScope s_is_text) (by decide +kernel)) (fun _ _ _ _ _ => (dg_name (j := 1) sc_is_text.nd rfl (by first | exact Or.inl rfl | exact Or.inr rfl))) (by simp) (fun _ _ _ _ _ => dts_nil) (fun _ _ _ _ _ => (de_cmp op_inA ro_in (de_var 1) (de_conX T.c_SIGNS) rfl)))) da_nil))))))
theorem ok_is_list (T : Txt P w K mg C) : FnX P w K mg base 2 "is_list" 1 m_is_list :=
  def_okX (k := 1) (EC := EC0 C) T.f_is_list sc_is_list fun f cdv A outer s H E hr => (show DSs _ _ _ _ b_is_list from
  (dss_cons (ds_if (dw_or (dt_not (dt_truth (de_isi (T := "tuple") (by unfold TyKnown; decide) (de_var 0) (by rfl) T.z_isinstance (by rfl) T.z_tuple (by decide +kernel)))) (dw_or1 (dt_cmp (op_gtA hr.units0) ro_gt (de_callB call_len rc_len (by rfl) T.z_len (by decide +kernel) (da_cons (de_var 0) da_nil)) (de_conX T.c_LIST_LIMIT) (nomark _)))).dt
    (dss_one (ds_ret de_bl))
    dss_nil)
    (dss_one (ds_ret (de_callB (cr_all (by rfl)) rc_all (by rfl) T.z_all (by decide +kernel) (da_cons (de_of (dl_lc (own := [(("number" : Str), 1)]) (W0 := W00) rfl sc_is_list.nd (di_seq (de_var 0)) (blkOk_by (N := N_is_list) (sc := defScope s_is_list) (by decide +kernel)) (fun _ _ _ _ _ => (dg_name (j := 1) sc_is_list.nd rfl (by first | exact Or.inl rfl | exact Or.inr rfl))) (by simp) (fun _ _ _ _ _ => dts_nil) (fun _ _ _ _ _ => (de_callX (ok_is_number T) (hr.mono (by decide)) (da_cons (de_var 1) da_nil))))) da_nil))))))
theorem ok_is_value (T : Txt P w K mg C) : FnX P w K mg base 3 "is_value" 2 m_is_value :=
  def_okX (k := 2) (EC := EC0 C) T.f_is_value sc_is_value fun f cdv A outer s H E hr => (show DSs _ _ _ _ b_is_value from
  (dss_cons (ds_if (dt_cmp (op_eqD hr.units) ro_eq (de_var 0) de_str (nomark _))
    (dss_one (ds_ret (de_callX (ok_is_number T) (hr.mono (by decide)) (da_cons (de_var 1) da_nil))))
    dss_nil)
    (dss_cons (ds_if (dt_cmp (op_eqD hr.units) ro_eq (de_var 0) de_str (nomark _))
    (dss_one (ds_ret (de_isi (T := "bool") (by unfold TyKnown; decide) (de_var 1) (by rfl) T.z_isinstance (by rfl) T.z_bool (by decide +kernel))))
    dss_nil)
    (dss_cons (ds_if (dt_cmp (op_eqD hr.units) ro_eq (de_var 0) de_str (nomark _))
    (dss_one (ds_ret (de_callX (ok_is_text T) (hr.mono (by decide)) (da_cons (de_var 1) da_nil))))
    dss_nil)
    (dss_one (ds_ret (de_and (de_cmp (op_eqD hr.units) ro_eq (de_var 0) de_str (nomark _)) (de_one (de_callX (ok_is_list T) (hr.mono (by decide)) (da_cons (de_var 1) da_nil))))))))))
theorem ok_kind_of_value (T : Txt P w K mg C) : FnX P w K mg base 4 "kind_of_value" 1 m_kind_of_value :=
  def_okX (k := 3) (EC := EC0 C) T.f_kind_of_value sc_kind_of_value fun f cdv A outer s H E hr => (show DSs _ _ _ _ b_kind_of_value from
  (dss_cons (ds_for PassesOwn.never rfl (di_seq (de_conX T.c_KINDS)) (dg_name (j := 1) sc_kind_of_value.nd rfl (by first | exact Or.inl rfl | exact Or.inr rfl))
    (dss_one (ds_if (dt_truth (de_callX (ok_is_value T) (hr.mono (by decide)) (da_cons (de_var 1) (da_cons (de_var 0) da_nil))))
    (dss_one (ds_ret (de_var 1)))
    dss_nil)))
    (dss_one ds_no)))
theorem ok__part_kind (T : Txt P w K mg C) : FnX P w K mg base 5 "_part_kind" 2 m__part_kind :=
  def_okX (k := 4) (EC := EC0 C) T.f__part_kind sc__part_kind fun f cdv A outer s H E hr => (show DSs _ _ _ _ b__part_kind from
  (dss_cons (ds_if (dt_cmp (op_eqD hr.units) ro_eq (de_ix (de_var 1) de_int) de_str (nomark _))
    (dss_one (ds_ret (de_ix (de_var 0) (de_ix (de_var 1) de_int))))
    dss_nil)
    (dss_cons (ds_if (dt_cmp (op_eqD hr.units) ro_eq (de_ix (de_var 1) de_int) de_str (nomark _))
    (dss_one (ds_ret (de_callX (ok_kind_of_value T) (hr.mono (by decide)) (da_cons (de_ix (de_var 1) de_int) da_nil))))
    dss_nil)
    (dss_one (ds_ret (de_callX (ok_result_kind T) (hr.mono (by decide)) (da_cons (de_ix (de_var 1) de_int) da_nil)))))))
theorem ok__is_index (T : Txt P w K mg C) : FnX P w K mg base 1 "_is_index" 2 m__is_index :=
  def_okX (k := 0) (EC := EC0 C) T.f__is_index sc__is_index fun f cdv A outer s H E hr => (show DSs _ _ _ _ b__is_index from
  (dss_one (ds_ret (de_and (de_isi (T := "int") (by unfold TyKnown; decide) (de_var 0) (by rfl) T.z_isinstance (by rfl) T.z_int (by decide +kernel)) (de_and (de_not (de_isi (T := "bool") (by unfold TyKnown; decide) (de_var 0) (by rfl) T.z_isinstance (by rfl) T.z_bool (by decide +kernel))) (de_one (de_chain op_le ro_le (op_ltA hr.units0) ro_lt de_int (de_var 0) (de_var 1))))))))
theorem ok_is_of_some_kind (T : Txt P w K mg C) : FnX P w K mg base 4 "is_of_some_kind" 1 m_is_of_some_kind :=
  def_okX (k := 3) (EC := EC0 C) T.f_is_of_some_kind sc_is_of_some_kind fun f cdv A outer s H E hr => (show DSs _ _ _ _ b_is_of_some_kind from
  (dss_one (ds_ret (de_callB (cr_any (by rfl)) rc_any (by rfl) T.z_any (by decide +kernel) (da_cons (de_of (dl_lc (own := [(("kind" : Str), 1)]) (W0 := W00) rfl sc_is_of_some_kind.nd (di_seq (de_conX T.c_KINDS)) (blkOk_by (N := N_is_of_some_kind) (sc := defScope s_is_of_some_kind) (by decide +kernel)) (fun _ _ _ _ _ => (dg_name (j := 1) sc_is_of_some_kind.nd rfl (by first | exact Or.inl rfl | exact Or.inr rfl))) (by simp) (fun _ _ _ _ _ => dts_nil) (fun _ _ _ _ _ => (de_callX (ok_is_value T) (hr.mono (by decide)) (da_cons (de_var 1) (da_cons (de_var 0) da_nil)))))) da_nil)))))
theorem ok_argument_kinds (T : Txt P w K mg C) : FnX P w K mg base 2 "argument_kinds" 1 m_argument_kinds :=
  def_okX (k := 1) (EC := EC0 C) T.f_argument_kinds sc_argument_kinds fun f cdv A outer s H E hr => (show DSs _ _ _ _ b_argument_kinds from
  (dss_cons (ds_if (dt_not (dt_truth (de_callX (ok_is_component T) (hr.mono (by decide)) (da_cons (de_var 0) da_nil))))
    (dss_one ds_no)
    dss_nil)
    (dss_one (ds_ret (de_callTy call_list_of rc_list (by rfl) T.z_list (by decide +kernel) (da_cons (de_ix (de_getK T.d_SIGNATURES (de_var 0)) de_int) da_nil))))))
theorem ok__is_sound (T : Txt P w K mg C) : FnX P w K mg base 6 "_is_sound" 3 m__is_sound :=
  def_okX (k := 5) (EC := EC0 C) T.f__is_sound sc__is_sound fun f cdv A outer s H E hr => (show DSs _ _ _ _ b__is_sound from
  (dss_cons (ds_if (dw_or (dt_not (dt_truth (de_isi (T := "tuple") (by unfold TyKnown; decide) (de_var 1) (by rfl) T.z_isinstance (by rfl) T.z_tuple (by decide +kernel)))) (dw_or1 (dt_cmp (op_eqD hr.units) ro_eq (de_callB call_len rc_len (by rfl) T.z_len (by decide +kernel) (da_cons (de_var 1) da_nil)) de_int (nomark _)))).dt
    (dss_one (ds_ret de_bl))
    dss_nil)
    (dss_cons (ds_if (dt_cmp (op_eqD hr.units) ro_eq (de_ix (de_var 1) de_int) de_str (nomark _))
    (dss_one (ds_set 3 sc__is_sound.nd (de_and (de_cmp (op_eqD hr.units) ro_eq (de_callB call_len rc_len (by rfl) T.z_len (by decide +kernel) (da_cons (de_var 1) da_nil)) de_int (nomark _)) (de_one (de_callX (ok__is_index T) (hr.mono (by decide)) (da_cons (de_ix (de_var 1) de_int) (da_cons (de_callB call_len rc_len (by rfl) T.z_len (by decide +kernel) (da_cons (de_var 0) da_nil)) da_nil)))))))
    (dss_one (ds_if (dt_cmp (op_eqD hr.units) ro_eq (de_ix (de_var 1) de_int) de_str (nomark _))
    (dss_one (ds_set 3 sc__is_sound.nd (de_and (de_cmp (op_eqD hr.units) ro_eq (de_callB call_len rc_len (by rfl) T.z_len (by decide +kernel) (da_cons (de_var 1) da_nil)) de_int (nomark _)) (de_one (de_callX (ok_is_of_some_kind T) (hr.mono (by decide)) (da_cons (de_ix (de_var 1) de_int) da_nil))))))
    (dss_one (ds_set 3 sc__is_sound.nd (de_and (de_callX (ok_is_component T) (hr.mono (by decide)) (da_cons (de_ix (de_var 1) de_int) da_nil)) (de_one (de_cmp (op_eqD hr.units) ro_eq (de_op op_sub ro_sub (de_callB call_len rc_len (by rfl) T.z_len (by decide +kernel) (da_cons (de_var 1) da_nil)) de_int) (de_callB call_len rc_len (by rfl) T.z_len (by decide +kernel) (da_cons (de_callX (ok_argument_kinds T) (hr.mono (by decide)) (da_cons (de_ix (de_var 1) de_int) da_nil)) da_nil)) (nomark _)))))))))
    (dss_one (ds_ret (de_and (de_var 3) (de_one (de_or (de_cmp op_isN ro_isN (de_var 2) de_non (nomark _)) (de_one (de_cmp (op_eqD hr.units) ro_eq (de_callX (ok__part_kind T) (hr.mono (by decide)) (da_cons (de_var 0) (da_cons (de_var 1) da_nil))) (de_var 2) (nomark _)))))))))))
theorem ok_is_leaf (T : Txt P w K mg C) : FnX P w K mg base 1 "is_leaf" 1 m_is_leaf :=
  def_okX (k := 0) (EC := EC0 C) T.f_is_leaf sc_is_leaf fun f cdv A outer s H E hr => (show DSs _ _ _ _ b_is_leaf from
  (dss_one (ds_ret (de_or (de_cmp (op_eqD hr.units) ro_eq (de_ix (de_var 0) de_int) de_str (nomark _)) (de_one (de_cmp (op_eqD hr.units) ro_eq (de_ix (de_var 0) de_int) de_str (nomark _)))))))
theorem ok__wanted_arguments (T : Txt P w K mg C) : FnX P w K mg base 3 "_wanted_arguments" 2 m__wanted_arguments :=
  def_okX (k := 2) (EC := EC0 C) T.f__wanted_arguments sc__wanted_arguments fun f cdv A outer s H E hr => (show DSs _ _ _ _ b__wanted_arguments from
  (dss_cons (ds_if (dt_truth (de_callX (ok_is_leaf T) (hr.mono (by decide)) (da_cons (de_var 0) da_nil)))
    (dss_one (ds_ret (de_lst da_nil)))
    dss_nil)
    (dss_one (ds_ret (de_of (dl_lc (own := [(("argument" : Str), 2), (("kind" : Str), 3)]) (W0 := W00) rfl sc__wanted_arguments.nd (di_zipM (by rfl) T.z_zip (de_sl (de_var 0) (do_some de_int) do_none) (de_callX (ok_argument_kinds T) (hr.mono (by decide)) (da_cons (de_ix (de_var 0) de_int) da_nil))) (blkOk_by (N := N__wanted_arguments) (sc := defScope s__wanted_arguments) (by decide +kernel)) (fun _ _ _ _ _ => (dg_tup2 rfl (dg_name (j := 2) sc__wanted_arguments.nd rfl (by first | exact Or.inl rfl | exact Or.inr rfl)) (dg_name (j := 3) sc__wanted_arguments.nd rfl (by first | exact Or.inl rfl | exact Or.inr rfl)))) (by simp) (fun _ _ _ _ _ => dts_nil) (fun _ _ _ _ _ => (de_tup (da_cons (de_var 2) (da_cons (de_var 3) (da_cons (de_var 1) da_nil)))))))))))
theorem ok_program_kind (T : Txt P w K mg C) : FnE P w K mg base (EC0 C) 7 "program_kind" 2 m_program_kind :=
  def_okE (k := 6) (EC := EC0 C) T.f_program_kind sc_program_kind fun f cdv A outer s H E hr tk po => (show DSs _ _ _ _ b_program_kind from
  (dss_cons (ds_setM 2 sc_program_kind.nd (dl_lst (da_cons (de_tup (da_cons (de_var 1) (da_cons de_non (da_cons de_int da_nil)))) da_nil)))
    (dss_cons (ds_set 3 sc_program_kind.nd de_int)
    (dss_cons (ds_while po (dt_trM 2)
    (dss_cons (ds_asg (de_pop 2) (dg_tup3 rfl (dg_name (j := 4) sc_program_kind.nd rfl (by first | exact Or.inl rfl | exact Or.inr rfl)) (dg_name (j := 5) sc_program_kind.nd rfl (by first | exact Or.inl rfl | exact Or.inr rfl)) (dg_name (j := 6) sc_program_kind.nd rfl (by first | exact Or.inl rfl | exact Or.inr rfl))))
    (dss_cons (ds_if (dw_or (dt_cmp (op_eqD hr.units) ro_eq (de_var 3) (de_conX T.c_MOST_PARTS) (nomark _)) (dw_or (dt_cmp (op_gtA hr.units0) ro_gt (de_var 6) (de_conX T.c_MOST_DEPTH) (nomark _)) (dw_or1 (dt_not (dt_truth (de_callX (ok__is_sound T) (hr.mono (by decide)) (da_cons (de_var 0) (da_cons (de_var 4) (da_cons (de_var 5) da_nil))))))))).dt
    (dss_one (ds_raise rfl tk (T.x_InvalidProgram _ _) (hr.mono (by decide)) (de_var 4)))
    dss_nil)
    (dss_cons (ds_aug 3 sc_program_kind.nd de_int ip_add)
    (dss_one (ds_ext 2 (de_rev (de_callX (ok__wanted_arguments T) (hr.mono (by decide)) (da_cons (de_var 4) (da_cons (de_op op_addA ro_add (de_var 6) de_int) da_nil))))))))))
    (dss_one (ds_ret (de_callX (ok__part_kind T) (hr.mono (by decide)) (da_cons (de_var 0) (da_cons (de_var 1) da_nil)))))))))
theorem ok__law_told (T : Txt P w K mg C) : FnE P w K mg base (EC0 C) 8 "_law_told" 2 m__law_told :=
  def_okE (k := 7) (EC := EC0 C) T.f__law_told sc__law_told fun f cdv A outer s H E hr tk po => (show DSs _ _ _ _ b__law_told from
  (dss_one (ds_tryR (i := 2) rfl rfl sc__law_told.nd rfl (by rfl) ⟨by rfl, by decide, .inl T.g_InvalidProgram⟩ tk (fun _ => T.m_InvalidProgram) (fun W' pn xe tk po => (dss_one (ds_ret (de_tup (da_cons de_str (da_cons (de_callE tk (ok_program_kind T) (hr.mono (by decide)) (da_cons (de_var 0) (da_cons (de_var 1) da_nil))) da_nil))))))
    (fun a oe c d pn hk hz hf => (sa_cons sel_str (sa_cons (sel_fld T.cf.xfc T.cf.nof hz hf (by rfl) (Or.inl rfl) (by decide) (by decide) rfl) (sa_cons (let ⟨a', ha, hk'⟩ := T.k_LeastError; sel_is T.cf.exc hz hf (by rfl) (Or.inl rfl) hk' (pe_glob (v := .ref a') (by rfl) ha rfl) (fun _ h => h) (by rfl) T.z_isinstance) (sa_cons (let ⟨a', ha, hk'⟩ := T.k_InvalidTask; sel_is T.cf.exc hz hf (by rfl) (Or.inl rfl) hk' (pe_glob (v := .ref a') (by rfl) ha rfl) (fun _ h => h) (by rfl) T.z_isinstance) sa_nil))))))))
theorem ok__law_letter (T : Txt P w K mg C) : FnX P w K mg base 1 "_law_letter" 3 m__law_letter :=
  def_okX (k := 0) (EC := EC0 C) T.f__law_letter sc__law_letter fun f cdv A outer s H E hr => (show DSs _ _ _ _ b__law_letter from
  (dss_cons (ds_if (dt_cmp (op_eqD hr.units) ro_eq (de_ix (de_var 0) de_int) de_str (nomark _))
    (dss_one (ds_ret (de_ix (de_var 1) (de_ix (de_var 0) de_int))))
    dss_nil)
    (dss_cons (ds_if (dt_cmp (op_neD hr.units) ro_ne (de_ix (de_var 0) de_int) de_str (nomark _))
    (dss_one (ds_ret (de_ix (de_of (dl_lc (own := [(("row" : Str), 3)]) (W0 := W00) rfl sc__law_letter.nd (di_seq (de_var 2)) (blkOk_by (N := N__law_letter) (sc := defScope s__law_letter) (by decide +kernel)) (fun _ _ _ _ _ => (dg_name (j := 3) sc__law_letter.nd rfl (by first | exact Or.inl rfl | exact Or.inr rfl))) (by simp) (fun _ _ _ _ _ => (dts_one (dt_cmp (op_eqD hr.units) ro_eq (de_ix (de_var 3) de_int) (de_ix (de_var 0) de_int) (nomark _)))) (fun _ _ _ _ _ => (de_ix (de_var 3) de_int)))) de_int)))
    dss_nil)
    (dss_cons (ds_if (dt_truth (de_isi (T := "bool") (by unfold TyKnown; decide) (de_ix (de_var 0) de_int) (by rfl) T.z_isinstance (by rfl) T.z_bool (by decide +kernel)))
    (dss_one (ds_ret de_str))
    dss_nil)
    (dss_one (ds_ret (de_ix de_str (de_op op_addA ro_add (de_callTy call_intA rc_int (by rfl) T.z_int (by decide +kernel) (da_cons (de_isi (T := "str") (by unfold TyKnown; decide) (de_ix (de_var 0) de_int) (by rfl) T.z_isinstance (by rfl) T.z_str (by decide +kernel)) da_nil)) (de_op op_mulA ro_mul de_int (de_callTy call_intA rc_int (by rfl) T.z_int (by decide +kernel) (da_cons (de_isi (T := "tuple") (by unfold TyKnown; decide) (de_ix (de_var 0) de_int) (by rfl) T.z_isinstance (by rfl) T.z_tuple (by decide +kernel)) da_nil)))))))))))
theorem ok__law_replaced_n (T : Txt P w K mg C) : ∀ n : Nat, FnX P w K mg base (52 + n) "_law_replaced" 3 (m__law_replaced_n n)
  | 0 => def_okX (k := 51) (EC := EC0 C) T.f__law_replaced sc__law_replaced fun f cdv A outer s H E hr => dss_no
  | n + 1 =>
    have ih := ok__law_replaced_n T n
    def_okX (k := 52 + n) (EC := EC0 C) T.f__law_replaced sc__law_replaced fun f cdv A outer s H E hr => (show DSs _ _ _ _ (b__law_replaced (m__law_replaced_n n)) from
  (dss_cons (ds_if (dt_cmp (op_eqD hr.units) ro_eq (de_var 1) de_int (nomark _))
    (dss_one (ds_ret (de_var 2)))
    dss_nil)
    (dss_cons (ds_set 3 sc__law_replaced.nd de_int)
    (dss_cons (ds_setM 4 sc__law_replaced.nd (dl_lst (da_cons (de_ix (de_var 0) de_int) da_nil)))
    (dss_cons (ds_for PassesOwn.never rfl (di_rng2 (by rfl) T.z_range de_int (de_callB call_len rc_len (by rfl) T.z_len (by decide +kernel) (da_cons (de_var 0) da_nil))) (dg_name (j := 5) sc__law_replaced.nd rfl (by first | exact Or.inl rfl | exact Or.inr rfl))
    (dss_cons (ds_set 6 sc__law_replaced.nd (de_callB call_len rc_len (by rfl) T.z_len (by decide +kernel) (da_cons (de_callX (ok__law_parts T) (hr.mono (by omega)) (da_cons (de_ix (de_var 0) (de_var 5)) da_nil)) da_nil)))
    (dss_cons (ds_if (dt_chain op_le ro_le (op_ltA hr.units0) ro_lt (de_var 3) (de_var 1) (de_op op_addA ro_add (de_var 3) (de_var 6)))
    (dss_one (ds_app 4 (de_callX ih (hr.mono (by omega)) (da_cons (de_ix (de_var 0) (de_var 5)) (da_cons (de_op op_sub ro_sub (de_var 1) (de_var 3)) (da_cons (de_var 2) da_nil))))))
    (dss_one (ds_app 4 (de_ix (de_var 0) (de_var 5)))))
    (dss_one (ds_set 3 sc__law_replaced.nd (de_op op_addA ro_add (de_var 3) (de_var 6)))))))
    (dss_frz 4 (dss_one (ds_ret (de_callTy call_tuple_of rc_tuple (by rfl) T.z_tuple (by decide +kernel) (da_cons (de_var 4) da_nil))))))))))
theorem ok__law_replaced (T : Txt P w K mg C) : FnX P w K mg base 102 "_law_replaced" 3 m__law_replaced := ok__law_replaced_n T 50
theorem body_law (T : Txt P w K mg C) {f : Addr} {cdv : Value} {A : Around} {outer : List Env} {s : Shared} {H : Hp} {E : XK} (hr : Room 102 (A.deeper (envOfC "law" (defScope s_law) s.heap.objs.size f cdv))) :
    DSs (cxOf CX0 P w K mg base N_law "law" (defScope s_law) f cdv A outer s H E).nox (EC0 C) (fun _ _ _ _ => False) (defBody s_law) b_law :=
  (dss_cons (ds_set 1 sc_law.nd (de_callB call_abs rc_abs (by rfl) T.z_abs (by decide +kernel) (da_cons (de_callX (ok__law_cell T) (hr.mono (by decide)) (da_cons (de_var 0) (da_cons de_int da_nil))) da_nil)))
    (dss_cons (ds_set 2 sc_law.nd (de_op op_addA ro_add de_str (de_m1 PySem.F.slot_str_join PySem.F.type_str_join mt_join rm_join de_str (de_of (dl_lc (own := [(("k" : Str), 15)]) (W0 := W00) rfl sc_law.nd (di_rng1 (by rfl) T.z_range (de_op op_modN ro_mod (de_var 1) de_int)) (blkOk_by (N := N_law) (sc := defScope s_law) (by decide +kernel)) (fun _ _ _ _ _ => (dg_name (j := 15) sc_law.nd rfl (by first | exact Or.inl rfl | exact Or.inr rfl))) (by simp) (fun _ _ _ _ _ => dts_nil) (fun _ _ _ _ _ => (de_ix de_str (de_op op_modN ro_mod (de_op op_divA ro_div (de_var 1) (de_op op_addA ro_add de_int (de_op op_mulA ro_mul de_int (de_var 15)))) de_int))))))))
    (dss_cons (ds_setLc 3 (own := [(("letter" : Str), 5)]) (W0 := W00) rfl sc_law.nd rfl rfl (sw_true rfl rfl rfl (by decide +kernel)) (di_seq (de_var 2)) (blkOk_by (N := N_law) (sc := defScope s_law) (by decide +kernel)) (fun _ _ _ _ _ => (dg_name (j := 5) sc_law.nd rfl (by first | exact Or.inl rfl | exact Or.inr rfl))) (by simp) (fun _ _ _ _ _ => dts_nil) (fun _ _ _ _ _ => (de_callX (ok__law_kind T) (hr.mono (by decide)) (da_cons (de_var 5) da_nil))))
    (dss_cons (ds_setM 4 sc_law.nd (dl_cat (de_of (dl_lc (own := [(("cell" : Str), 14)]) (W0 := W00) rfl sc_law.nd (di_seq (de_sl (de_var 0) (do_some de_int) (do_some de_int))) (blkOk_by (N := N_law) (sc := defScope s_law) (by decide +kernel)) (fun _ _ _ _ _ => (dg_name (j := 14) sc_law.nd rfl (by first | exact Or.inl rfl | exact Or.inr rfl))) (by simp) (fun _ _ _ _ _ => dts_nil) (fun _ _ _ _ _ => (de_op op_divA ro_div (de_callB call_abs rc_abs (by rfl) T.z_abs (by decide +kernel) (da_cons (de_callTy call_intA rc_int (by rfl) T.z_int (by decide +kernel) (da_cons (de_var 14) da_nil)) da_nil)) de_int)))) (de_callX (ok__law_draws T) (hr.mono (by decide)) (da_cons (de_callX (ok__law_cell T) (hr.mono (by decide)) (da_cons (de_var 0) (da_cons de_int da_nil))) (da_cons de_int (da_cons de_int da_nil))))))
    (dss_cons (ds_set 5 sc_law.nd (de_ix de_str (de_op op_modN ro_mod (de_callB call_abs rc_abs (by rfl) T.z_abs (by decide +kernel) (da_cons (de_callX (ok__law_cell T) (hr.mono (by decide)) (da_cons (de_var 0) (da_cons de_int da_nil))) da_nil)) de_int)))
    (dss_cons (ds_set 6 sc_law.nd (de_lend 4 (ok__law_program T) (hr.mono (by decide)) (da_cons (de_var 5) (da_cons (de_var 2) (da_cons (de_op op_addA ro_add de_int (de_op op_modN ro_mod (de_op op_divA ro_div (de_callB call_abs rc_abs (by rfl) T.z_abs (by decide +kernel) (da_cons (de_callX (ok__law_cell T) (hr.mono (by decide)) (da_cons (de_var 0) (da_cons de_int da_nil))) da_nil)) de_int) de_int)) (da_cons (de_callX0 (ok__law_library T) (hr.mono (by decide))) da_nil))))))
    (dss_cons (ds_set 7 sc_law.nd (de_callX (ok__law_parts T) (hr.mono (by decide)) (da_cons (de_var 6) da_nil)))
    (dss_cons (ds_if (dt_cmp op_le ro_le (de_callB call_len rc_len (by rfl) T.z_len (by decide +kernel) (da_cons (de_var 7) da_nil)) de_int (nomark _))
    (dss_cons (ds_set 10 sc_law.nd (de_op op_modN ro_mod (de_op op_divA ro_div (de_var 1) de_int) (de_callB call_len rc_len (by rfl) T.z_len (by decide +kernel) (da_cons (de_var 7) da_nil))))
    (dss_cons (ds_set 11 sc_law.nd (de_callB call_abs rc_abs (by rfl) T.z_abs (by decide +kernel) (da_cons (de_callX (ok__law_cell T) (hr.mono (by decide)) (da_cons (de_var 0) (da_cons de_int da_nil))) da_nil)))
    (dss_cons (ds_set 12 sc_law.nd (de_callX (ok__law_wrong T) (hr.mono (by decide)) (da_cons (de_var 11) (da_cons (de_callX (ok__law_letter T) (hr.mono (by decide)) (da_cons (de_ix (de_var 7) (de_var 10)) (da_cons (de_var 2) (da_cons (de_callX0 (ok__law_library T) (hr.mono (by decide))) da_nil)))) (da_cons (de_callB call_len rc_len (by rfl) T.z_len (by decide +kernel) (da_cons (de_var 2) da_nil)) da_nil)))))
    (dss_cons (ds_if (dw_and (dt_cmp (op_eqD hr.units) ro_eq (de_var 10) de_int (nomark _)) (dw_and1 (dt_cmp (op_eqD hr.units) ro_eq (de_op op_modN ro_mod (de_var 11) de_int) de_int (nomark _)))).dt
    (dss_one (ds_ret (de_cmp (op_eqD hr.units) ro_eq (de_ix (de_callE takes0 (ok__law_told T) (hr.mono (by decide)) (da_cons (de_var 3) (da_cons (de_var 12) da_nil))) de_int) de_str (nomark _))))
    dss_nil)
    (dss_cons (ds_set 13 sc_law.nd (de_callE takes0 (ok__law_told T) (hr.mono (by decide)) (da_cons (de_var 3) (da_cons (de_callX (ok__law_replaced T) (hr.mono (by decide)) (da_cons (de_var 6) (da_cons (de_var 10) (da_cons (de_var 12) da_nil)))) da_nil))))
    (dss_one (ds_if (dt_cmp (op_neD hr.units) ro_ne (de_var 13) (de_tup (da_cons de_str (da_cons (de_var 12) (da_cons de_bl (da_cons de_bl da_nil))))) (nomark _))
    (dss_one (ds_ret de_bl))
    dss_nil)))))))
    dss_nil)
    (dss_cons (ds_set 8 sc_law.nd (de_callX (ok__law_large T) (hr.mono (by decide)) (da_cons (de_op op_divA ro_div (de_var 1) de_int) da_nil)))
    (dss_cons (ds_set 9 sc_law.nd (de_callX (ok__law_parts T) (hr.mono (by decide)) (da_cons (de_ix (de_var 8) de_int) da_nil)))
    (dss_cons (ds_if (dt_cmp (op_eqD hr.units) ro_eq (de_ix (de_var 8) de_int) de_int (nomark _))
    (dss_one (ds_ret (de_cmp (op_eqD hr.units) ro_eq (de_callE takes0 (ok__law_told T) (hr.mono (by decide)) (da_cons (de_var 3) (da_cons (de_ix (de_var 8) de_int) da_nil))) (de_tup (da_cons de_str (da_cons (de_ix (de_var 9) de_int) (da_cons de_bl (da_cons de_bl da_nil))))) (nomark _))))
    dss_nil)
    (dss_cons (ds_if (dt_cmp op_le ro_le (de_callB call_len rc_len (by rfl) T.z_len (by decide +kernel) (da_cons (de_var 9) da_nil)) de_int (nomark _))
    (dss_one (ds_ret de_bl))
    dss_nil)
    (dss_one (ds_ret (de_cmp (op_eqD hr.units) ro_eq (de_ix (de_callE takes0 (ok__law_told T) (hr.mono (by decide)) (da_cons (de_var 3) (da_cons (de_ix (de_var 8) de_int) da_nil))) de_int) de_str (nomark _))))))))))))))))
theorem fin (T : Txt P w K mg C) : FunX K mg "law" s_law ["script"] ∧ ∀ (base : Heap) (f : Addr) (cdv : Value) (A : Around) (outer : List Env) (s : Shared) (H : Hp) (E : XK), Room 102 (A.deeper (envOfC "law" (defScope s_law) s.heap.objs.size f cdv)) →
    DSs (cxOf CX0 P w K mg base N_law "law" (defScope s_law) f cdv A outer s H E).nox (EC0 C) (fun _ _ _ _ => False) (defBody s_law) b_law := ⟨T.f_law, fun base f cdv A outer s H E hr => body_law T hr⟩
end
end K07
end Part_K07o

section Part_MA
set_option Elab.async false
set_option linter.all false
set_option maxRecDepth 100000
set_option autoImplicit false
set_option maxHeartbeats 2000000
namespace DL
open PySem PySem.Spec PyProof.Rows L2 Evl SX
/-! ### texts as lists of code points -/
theorem sh_S {l : List Nat} (h : ∀ c ∈ l, c < 1000) : SeqAt.shaped (.str (S l)) = true := by
  show (PyData.strOk (S l) && decide ((PyData.str (S l)).depth ≤ 64)) = true
  rw [Bool.and_eq_true]
  refine ⟨?_, by rfl⟩
  show (S l).cps.all (· < 0x110000) = true
  rw [← Array.all_toList, List.all_eq_true]
  intro c hc
  have := h c hc
  exact decide_eq_true (by omega)
theorem sh_ints (ns : List Int) : SeqAt.shaped (.tuple (ns.map .int)) = true := by
  have h : ∀ ns : List Int, PyData.canLayAll0 (ns.map .int) = true ∧ PyData.depthAll (ns.map .int) = 0 := by
    intro ns
    induction ns with
    | nil => exact ⟨rfl, rfl⟩
    | cons n ns ih =>
      refine ⟨?_, ?_⟩
      · show (PyData.canLay0 (.int n) && PyData.canLayAll0 (ns.map .int)) = true
        rw [ih.1]; rfl
      · show max (PyData.depth (.int n)) (PyData.depthAll (ns.map .int)) = 0
        rw [ih.2]; rfl
  show (PyData.canLayAll0 (ns.map .int) && decide (PyData.depthAll (ns.map .int) + 1 ≤ 64)) = true
  rw [(h ns).1, (h ns).2]
  rfl
theorem len_S {l : List Nat} (h : l.length ≤ 16777216) : dLen [.str (S l)] = some (.int l.length) := by
  rw [len_s (by rw [S_len]; exact h), S_len]
theorem cat_S {l m : List Nat} (h : l.length + m.length ≤ 16777216) : dAdd (.str (S l)) (.str (S m)) = some (.str (S (l ++ m))) := by
  show (if (S l).length + (S m).length ≤ LINE then some (PyData.str (S l ++ S m)) else none) = _
  rw [S_len, S_len, if_pos h, S_cat]
theorem ix_S {l : List Nat} {k : Nat} (h : l.length ≤ 16777216) : dIx (.str (S l)) (.int k) = (l[k]?).map fun c => .str (S [c]) := by
  show (if (S l).length ≤ LINE then (atI l k).map fun c => PyData.str ⟨#[c]⟩ else none) = _
  rw [S_len, if_pos h, at_nat]
theorem sl_S {l : List Nat} {a b : Nat} (h : l.length ≤ 16777216) : dSl (.str (S l)) (some a) (some b) = some (.str (S ((l.drop a).take (b - a)))) := by
  show (if (S l).length ≤ LINE then some (PyData.str (cutS (S l) (some a) (some b))) else none) = _
  rw [S_len, if_pos h]
  unfold cutS
  rw [S_len, HT.sIx_nat, HT.sIx_nat]
  show some (PyData.str (S ((l.drop _).take _))) = _
  congr 3
  rcases Nat.le_total a l.length with q | q
  · rw [Nat.min_eq_left q]
    rcases Nat.le_total b l.length with q2 | q2
    · rw [Nat.min_eq_left q2]
    · rw [Nat.min_eq_right q2, List.take_of_length_le (by rw [List.length_drop]; omega), List.take_of_length_le (by rw [List.length_drop]; omega)]
  · rw [Nat.min_eq_right q, List.drop_of_length_le (Nat.le_refl _), List.drop_of_length_le q]
    simp
theorem eq_S {l m : List Nat} (h : ∀ c ∈ l, c < 1000) (h' : ∀ c ∈ m, c < 1000) : dEq (.str (S l)) (.str (S m)) = some (.bool (decide (l = m))) := by
  unfold dEq
  rw [sh_S h, sh_S h', ← S_beq_eq]
  rfl
theorem ne_S {l m : List Nat} (h : ∀ c ∈ l, c < 1000) (h' : ∀ c ∈ m, c < 1000) : dNe (.str (S l)) (.str (S m)) = some (.bool (!decide (l = m))) := by
  unfold dNe
  rw [sh_S h, sh_S h', ← S_beq_eq]
  rfl
theorem in_S (c : Nat) (m : List Nat) : dIn (.str (S [c])) (.str (S m)) = some (.bool (decide (c ∈ m))) := rfl
theorem items_S (l : List Nat) : dItems (.str (S l)) = some (l.map fun c => .str (S [c])) := rfl
theorem join_S' {a : List Nat} {ls : List (List Nat)} (h : (ls.map (·.length)).sum + ls.length * a.length ≤ 16777216) : dJoin (.str (S a)) [.list (ls.map fun l => .str (S l))] = some (.str (S (TL.joinL a ls))) := by
  have e : (ls.map fun l => PyData.str (S l)) = (ls.map S).map PyData.str := by rw [List.map_map]; rfl
  show (dStrs _).bind (joinOk (S a)) = _
  rw [e, dStrs_map]
  show joinOk (S a) (ls.map S) = _
  unfold joinOk
  rw [lens, List.length_map, S_len, if_pos h, join_S]
theorem int_dig {c : Nat} (h1 : 48 ≤ c) (h2 : c ≤ 57) : dInt [.str (S [c])] = some (.int ((c - 48 : Nat) : Int)) := by
  show (if (S [c]).length ≤ 640 then (PySem.intText? (S [c])).map PyData.int else none) = _
  rw [S_len, if_pos (by simp), int_S (by simp; omega) (by simp) (by simp)]
  show some (PyData.int ((0 * 10 + (c - 48) : Nat) : Int)) = _
  rw [Nat.zero_mul, Nat.zero_add]
/-- the text of an int -/
def iL (i : Int) : List Nat := if 0 ≤ i then TL.numL i.toNat else 45 :: TL.numL (-i).toNat
theorem iL_eq (i : Int) : Str.ofString (toString i) = S (iL i) := by
  unfold iL
  split
  · rename_i h
    obtain ⟨n, rfl⟩ := Int.eq_ofNat_of_zero_le h
    exact num_S n
  · rename_i h
    obtain ⟨n, hn⟩ : ∃ n : Nat, i = -((n + 1 : Nat) : Int) := ⟨(-i).toNat - 1, by omega⟩
    subst hn
    have e : (-(-((n + 1 : Nat) : Int))).toNat = n + 1 := by omega
    rw [e]
    apply TL.ext_tl
    rw [TL.tl_ofString]
    show (Int.repr (Int.negSucc n)).toList.map Char.toNat = 45 :: TL.numL (n + 1)
    show (("-" ++ Nat.repr (n + 1)) : String).toList.map Char.toNat = _
    rw [String.toList_append, List.map_append]
    show 45 :: (Nat.repr (n + 1)).toList.map Char.toNat = _
    rw [Nat.toList_repr]
    rfl
theorem str_i {i : Int} (h1 : -1000000 ≤ i) (h2 : i ≤ 1000000) : dStr [.int i] = some (.str (S (iL i))) := by
  show (if i.natAbs.log2 < 1920 then some (PyData.str (Str.ofString (toString i))) else none) = _
  rw [if_pos, iL_eq]
  have h : i.natAbs < 2 ^ 1920 := Nat.lt_of_le_of_lt (show i.natAbs ≤ 1000000 by omega) (by decide +kernel)
  by_cases q : i.natAbs = 0
  · rw [q]; decide
  · exact (Nat.log2_lt q).mpr h
theorem lt_S (l m : List Nat) : dLt (.str (S l)) (.str (S m)) = some (.bool (decide (l < m))) := rfl
theorem gt_S (l m : List Nat) : dGt (.str (S l)) (.str (S m)) = some (.bool (decide (m < l))) := rfl
theorem lt_T (l m : List Int) : dLt (.tuple (l.map .int)) (.tuple (m.map .int)) = some (.bool (HT.lexLt l m)) := by
  show (match dInts (l.map .int), dInts (m.map .int) with | some ns, some ms => some (PyData.bool (HT.lexLt ns ms)) | _, _ => none) = _
  rw [dInts_map, dInts_map]
theorem gt_T (l m : List Int) : dGt (.tuple (l.map .int)) (.tuple (m.map .int)) = some (.bool (HT.lexLt m l)) := by
  show (match dInts (l.map .int), dInts (m.map .int) with | some ns, some ms => some (PyData.bool (HT.lexLt ms ns)) | _, _ => none) = _
  rw [dInts_map, dInts_map]
theorem eqv_ints : ∀ l m : List Int, PyData.eqvAll (l.map .int) (m.map .int) = decide (l = m)
  | [], [] => rfl
  | [], _ :: _ => rfl
  | _ :: _, [] => rfl
  | x :: xs, y :: ys => by
    show ((x == y) && PyData.eqvAll (xs.map .int) (ys.map .int)) = _
    rw [eqv_ints xs ys]
    by_cases h : x = y <;> by_cases h2 : xs = ys <;> simp [h, h2]
theorem eq_T (l m : List Int) : dEq (.tuple (l.map .int)) (.tuple (m.map .int)) = some (.bool (decide (l = m))) := by
  unfold dEq
  rw [sh_ints, sh_ints, ← eqv_ints]
  rfl
theorem ne_T (l m : List Int) : dNe (.tuple (l.map .int)) (.tuple (m.map .int)) = some (.bool (!decide (l = m))) := by
  unfold dNe
  rw [sh_ints, sh_ints, ← eqv_ints]
  rfl
/-! ### cells that are known to be no borrowed list -/
theorem setV_s {δ : Dl} {j : Nat} {d : D} (h : (δ[j]?).map Cell.isVar = some false) : setV j d δ = some (δ.set j (.val d)) := by
  unfold setV
  cases q : δ[j]? with
  | none => rw [q] at h; cases h
  | some c =>
    rw [q] at h
    cases c with
    | var b ds => cases h
    | non => rfl
    | val d => rfl
/-! ### for -/
theorem mFor_inv {g : D → Dl → Option Dl} {body : M Fl} {items : List D} (Inv : Nat → Dl → Prop) (step : ∀ i x δ, items[i]? = some x → Inv i δ → ∃ δ1, g x δ = some δ1 ∧ ∃ δ2, body δ1 = .ok .nx δ2 ∧ Inv (i + 1) δ2) : ∀ {δ : Dl}, Inv 0 δ → ∃ δ', mFor g body items δ = .ok .nx δ' ∧ Inv items.length δ' := by
  have H : ∀ (r : List D) (k : Nat), items.drop k = r → k ≤ items.length → ∀ δ : Dl, Inv k δ → ∃ δ', mFor g body r δ = .ok .nx δ' ∧ Inv items.length δ' := by
    intro r
    induction r with
    | nil =>
      intro k hk hl δ h
      have e : k = items.length := by
        have := congrArg List.length hk
        rw [List.length_drop, List.length_nil] at this
        omega
      subst e
      exact ⟨δ, rfl, h⟩
    | cons x r ih =>
      intro k hk hl δ h
      have hx : items[k]? = some x := by
        have := congrArg (fun l => l[0]?) hk
        simpa using this
      have hl2 : k < items.length := by
        rcases Nat.lt_or_ge k items.length with q | q
        · exact q
        · rw [List.drop_of_length_le q] at hk; cases hk
      obtain ⟨δ1, h1, δ2, h2, h3⟩ := step k x δ hx h
      obtain ⟨δ', h4, h5⟩ := ih (k + 1) (by rw [← List.drop_drop, hk]; rfl) hl2 δ2 h3
      refine ⟨δ', ?_, h5⟩
      unfold mFor
      rw [h1]
      simp only [h2, bind_ok]
      exact h4
  exact fun {δ} h => H items 0 rfl (Nat.zero_le _) δ h
/-- .. with an early return -/
theorem mFor_ret {g : D → Dl → Option Dl} {body : M Fl} {items : List D} (Inv : Nat → Dl → Prop) (P : D → Prop) (step : ∀ i x δ, items[i]? = some x → Inv i δ → ∃ δ1, g x δ = some δ1 ∧ ∃ δ2, (body δ1 = .ok .nx δ2 ∧ Inv (i + 1) δ2 ∨ ∃ d, body δ1 = .ok (.rt d) δ2 ∧ P d)) : ∀ {δ : Dl}, Inv 0 δ → (∃ δ', mFor g body items δ = .ok .nx δ' ∧ Inv items.length δ') ∨ ∃ d δ', mFor g body items δ = .ok (.rt d) δ' ∧ P d := by
  have H : ∀ (r : List D) (k : Nat), items.drop k = r → k ≤ items.length → ∀ δ : Dl, Inv k δ → (∃ δ', mFor g body r δ = .ok .nx δ' ∧ Inv items.length δ') ∨ ∃ d δ', mFor g body r δ = .ok (.rt d) δ' ∧ P d := by
    intro r
    induction r with
    | nil =>
      intro k hk hl δ h
      have e : k = items.length := by
        have := congrArg List.length hk
        rw [List.length_drop, List.length_nil] at this
        omega
      subst e
      exact .inl ⟨δ, rfl, h⟩
    | cons x r ih =>
      intro k hk hl δ h
      have hx : items[k]? = some x := by
        have := congrArg (fun l => l[0]?) hk
        simpa using this
      have hl2 : k < items.length := by
        rcases Nat.lt_or_ge k items.length with q | q
        · exact q
        · rw [List.drop_of_length_le q] at hk; cases hk
      obtain ⟨δ1, h1, δ2, h⟩ := step k x δ hx h
      rcases h with ⟨h2, h3⟩ | ⟨d, h2, h3⟩
      · rcases ih (k + 1) (by rw [← List.drop_drop, hk]; rfl) hl2 δ2 h3 with ⟨δ', h4, h5⟩ | ⟨d, δ', h4, h5⟩
        · refine .inl ⟨δ', ?_, h5⟩
          unfold mFor
          rw [h1]
          simp only [h2, bind_ok]
          exact h4
        · refine .inr ⟨d, δ', ?_, h5⟩
          unfold mFor
          rw [h1]
          simp only [h2, bind_ok]
          exact h4
      · refine .inr ⟨d, δ2, ?_, h3⟩
        unfold mFor
        rw [h1]
        simp only [h2, bind_ok]
  exact fun {δ} h => H items 0 rfl (Nat.zero_le _) δ h
theorem rng_at {lo hi : Int} {k : Nat} {d : D} (h : (rng lo hi)[k]? = some d) : d = .int (lo + k) ∧ lo + k < hi := by
  unfold rng at h
  rw [List.getElem?_map] at h
  cases q : (List.range (hi - lo).toNat)[k]? with
  | none => rw [q] at h; cases h
  | some n =>
    rw [q] at h
    cases h
    obtain ⟨h1, h2⟩ := List.getElem?_eq_some_iff.mp q
    rw [List.getElem_range] at h2
    rw [List.length_range] at h1
    subst h2
    exact ⟨rfl, by omega⟩
/-- one turn of a while -/
theorem mWhile_turn {t : M Bool} {body : M Fl} {n : Nat} {δ δ1 : Dl} (h1 : t δ = .ok true δ) (h2 : body δ = .ok .nx δ1) : mWhile t body (n + 1) δ = mWhile t body n δ1 := by
  rw [mWhile]
  simp only [h1, h2, bind_ok, if_true]
theorem mWhile_end {t : M Bool} {body : M Fl} {n : Nat} {δ : Dl} (h1 : t δ = .ok false δ) : mWhile t body (n + 1) δ = .ok .nx δ := by
  rw [mWhile]
  simp only [h1, bind_ok, Bool.false_eq_true, if_false]
theorem mWhile_get {t : M Bool} {body : M Fl} {n : Nat} {δ δ1 : Dl} {f : Fl} (h : mWhile t body n δ = .ok f δ1) : mWhileS t body δ = .ok f δ1 := by
  rw [mWhileS_eq (n := n) (by rw [h]; intro e; cases e), h]
end DL
end Part_MA

section Part_SA
set_option Elab.async false
set_option linter.all false
set_option maxRecDepth 100000
set_option autoImplicit false
set_option maxHeartbeats 2000000
namespace K07
open PySem PySem.Spec PyProof.Rows L2 DL SX
theorem iv_non : Cell.isVar .non = false := rfl
theorem iv_val (d : D) : Cell.isVar (.val d) = false := rfl
/-- a cell that is no borrowed list -/
def cO : Option D → Cell
  | none => .non
  | some d => .val d
theorem iv_cO (o : Option D) : Cell.isVar (cO o) = false := by cases o <;> rfl
theorem setV_zn (d : D) (δ : Dl) : setV 0 d (.non :: δ) = some (.val d :: δ) := rfl
theorem setV_zv (d x : D) (δ : Dl) : setV 0 d (.val x :: δ) = some (.val d :: δ) := rfl
theorem setV_zo (d : D) (o : Option D) (δ : Dl) : setV 0 d (cO o :: δ) = some (.val d :: δ) := by cases o <;> rfl
theorem setV_succ (j : Nat) (d : D) (c : Cell) (δ : Dl) : setV (j + 1) d (c :: δ) = (setV j d δ).map (c :: ·) := by
  unfold setV
  rw [List.getElem?_cons_succ]
  cases q : δ[j]? with
  | none => rfl
  | some x => cases x with
    | var b ds => cases b <;> rfl
    | non => rfl
    | val d => rfl
local macro_rules | `(tactic| walk_at "ev") => `(tactic| try simp -implicitDefEqProofs only [mDef, mSeq, mIf, mT, mTr, mOp, mUn, mVar, mC, mCall, mCons, mNil, mRet, mSkip, mAsg, mSl, mPart, mNoPart, mAndT, mOrT, mNotT, mAnd, mOr, mNot, mIfE, mChain, mIs, mIs2, mOf, mNew, mCallF, mM1, mM0, mIxM, mLenM, mApp, mSetM, mSetIx, mAug, mFrz, mForS, mRng1, mRng2, mItems, setV_zn, setV_zv, setV_zo, setV_succ, setM, frz, setT2, mBk, mCt, mNo, 
  DL.bind_ok, DL.bind_no, DL.bind_ite, lift_some, lift_none, List.map_cons, List.map_nil, List.length_cons, List.length_nil, List.replicate_succ, List.replicate_zero, List.cons_append, List.nil_append, List.append_nil, List.getElem?_cons_zero, List.getElem?_cons_succ, List.set_cons_zero, List.set_cons_succ, Nat.reduceAdd, Nat.reduceSub, Nat.zero_add, Nat.sub_self, decide_eq_true_eq,
  add_ii, sub_ii, neg_i, mul_r, mul_l, div_s, mod_s, eq_ii, ne_ii, eq_bb, ne_bb, lt_ii, gt_ii, le_ii, ge_ii, len_l, len_t, int_i, int_b, abs_i, max_ii, min_ii, tuple_l, ix_l, ix_t, tr_b, Nat.reduceLeDiff, if_true, if_false, Option.map_some, Option.bind_some, reduceIte, Int.reduceLT, Int.reduceNeg, Int.reduceMul, Nat.reduceLT, Nat.le_refl, LINE, Bool.false_eq_true, Bool.not_true, Bool.not_false, Bool.true_eq_false])
local macro_rules | `(tactic| walk_at "ev*") => `(tactic| try simp -implicitDefEqProofs only [mDef, mSeq, mIf, mT, mTr, mOp, mUn, mVar, mC, mCall, mCons, mNil, mRet, mSkip, mAsg, mSl, mPart, mNoPart, mAndT, mOrT, mNotT, mAnd, mOr, mNot, mIfE, mChain, mIs, mIs2, mOf, mNew, mCallF, mM1, mM0, mIxM, mLenM, mApp, mSetM, mSetIx, mAug, mFrz, mForS, mRng1, mRng2, mItems, setV_zn, setV_zv, setV_zo, setV_succ, setM, frz, setT2, mBk, mCt, mNo, 
  DL.bind_ok, DL.bind_no, DL.bind_ite, lift_some, lift_none, List.map_cons, List.map_nil, List.length_cons, List.length_nil, List.replicate_succ, List.replicate_zero, List.cons_append, List.nil_append, List.append_nil, List.getElem?_cons_zero, List.getElem?_cons_succ, List.set_cons_zero, List.set_cons_succ, Nat.reduceAdd, Nat.reduceSub, Nat.zero_add, Nat.sub_self, decide_eq_true_eq,
  add_ii, sub_ii, neg_i, mul_r, mul_l, div_s, mod_s, eq_ii, ne_ii, eq_bb, ne_bb, lt_ii, gt_ii, le_ii, ge_ii, len_l, len_t, int_i, int_b, abs_i, max_ii, min_ii, tuple_l, ix_l, ix_t, tr_b, Nat.reduceLeDiff, if_true, if_false, Option.map_some, Option.bind_some, reduceIte, Int.reduceLT, Int.reduceNeg, Int.reduceMul, Nat.reduceLT, Nat.le_refl, LINE, Bool.false_eq_true, Bool.not_true, Bool.not_false, Bool.true_eq_false, *])
theorem cell_eq (ns : List Int) (k : Nat) : m__law_cell [.list (ns.map .int), .int k] = .ok (.int (ns.getD k 0)) [] := by
  unfold m__law_cell b__law_cell
  walk_at "ev"
  rw [at_nat]
  by_cases h : k < ns.length
  · rw [if_pos (by rw [List.length_map]; omega)]
    simp [h]
    walk_at "ev"
  · rw [if_neg (by rw [List.length_map]; omega)]
    simp [h]
theorem number_eq (c : Int) : ∃ v : Int, m__law_number [.int c] = .ok (.int v) [] ∧ -1000000 ≤ v ∧ v ≤ 1000000 := by
  unfold m__law_number b__law_number
  walk_at "ev"
  split
  · exact ⟨_, rfl, by omega, by omega⟩
  split
  · exact ⟨_, rfl, by omega, by omega⟩
  split
  · obtain ⟨d, hd, e⟩ := at_ex [PyData.int 1000000, PyData.int (-1000000), PyData.int 999999, PyData.int 500000, PyData.int 500001, PyData.int (-500000), PyData.int 1000, PyData.int (-1000)] (i := c / 4 % 8) (by omega) (by show _ < (8 : Int); omega)
    rw [e]
    walk_at "ev"
    simp only [List.mem_cons, List.not_mem_nil, or_false] at hd
    rcases hd with rfl | rfl | rfl | rfl | rfl | rfl | rfl | rfl <;> exact ⟨_, rfl, by decide, by decide⟩
  · exact ⟨_, rfl, by omega, by omega⟩
theorem pow18 : dPow (.int 10) (.int 18) = some (.int 1000000000000000000) := by
  show (if CPow 10 18 then some (PyData.int (10 ^ (18 : Int).toNat)) else none) = _
  rw [if_pos (by decide +kernel)]
  rfl
/-- what a turn of the draws keeps -/
def DrI (c : Int) (n l : Int) (i : Nat) (δ : Dl) : Prop := ∃ (xs : List Int) (rest : Int) (o5 o6 : Option D), δ = [.val (.int c), .val (.int n), .val (.int l), .var false (xs.map .int), .val (.int rest), cO o5, cO o6] ∧ xs.length = i ∧ ∀ x ∈ xs, 0 ≤ x ∧ x < l
theorem draws_step {c n l : Int} {i : Nat} {δ : Dl} (h0 : 0 < l) (h1 : l < 1073741824) (I : DrI c n l i δ) (hi : i < 64) : ∃ δ1, setV 5 (.int i) δ = some δ1 ∧ ∃ δ2, b__law_draws_L1 δ1 = .ok .nx δ2 ∧ DrI c n l (i + 1) δ2 := by
  obtain ⟨xs, rest, o5, o6, rfl, hl, hr⟩ := I
  refine ⟨_, by walk_at "ev"; rfl, ?_⟩
  unfold b__law_draws_L1
  walk_at "ev"
  rw [pow18]
  walk_at "ev"
  have e1 : ∀ x : Int, dMod (.int x) (.int l) = some (.int (x % l)) := fun x => mod_s h0
  have e2 : ∀ x : Int, dDiv (.int x) (.int l) = some (.int (x / l)) := fun x => div_s h0 h1
  have e3 : ((xs.map PyData.int).length < 16777216) = True := by rw [List.length_map, hl]; exact eq_true (by omega)
  have hx : ∀ y : Int, ∀ x ∈ xs ++ [y % l], 0 ≤ x ∧ x < l := by
    intro y x hx
    rcases List.mem_append.mp hx with h | h
    · exact hr x h
    · rw [List.mem_singleton.mp h]
      exact ⟨Int.emod_nonneg _ (by omega), Int.emod_lt_of_pos _ h0⟩
  have em : ∀ y : Int, xs.map PyData.int ++ [.int y] = (xs ++ [y]).map .int := fun y => by rw [List.map_append]; rfl
  simp only [e1, e2]
  walk_at "ev"
  simp only [e3, if_true, e2]
  walk_at "ev"
  simp only [em, e2]
  walk_at "ev"
  generalize (if c < 0 then -c else c) = a
  split
  · split
    · exact ⟨_, rfl, _, _, some _, o6, rfl, by simp [hl], hx _⟩
    · exact ⟨_, rfl, _, _, some _, some _, rfl, by simp [hl], hx _⟩
  · exact ⟨_, rfl, _, _, some _, some _, rfl, by simp [hl], hx _⟩
theorem draws_eq (c : Int) {n : Nat} {l : Int} (hn : n ≤ 64) (h0 : 0 < l) (h1 : l < 1073741824) : ∃ xs : List Int, m__law_draws [.int c, .int n, .int l] = .ok (.list (xs.map .int)) [] ∧ xs.length = n ∧ ∀ x ∈ xs, 0 ≤ x ∧ x < l := by
  have A : DrI c n l 0 [.val (.int c), .val (.int n), .val (.int l), .var false [], .val (.int (if c < 0 then -c else c)), .non, .non] := ⟨[], _, none, none, rfl, rfl, by simp⟩
  obtain ⟨δ', e, xs, rest, o5, o6, rfl, hl, hx⟩ := mFor_inv (g := setV 5) (body := b__law_draws_L1) (items := rng 0 (n : Int)) (DrI c n l) (fun i x δ hx I => by
    obtain ⟨rfl, hi⟩ := rng_at hx
    rw [Int.zero_add]
    exact draws_step h0 h1 I (by omega)) A
  unfold m__law_draws b__law_draws
  walk_at "ev"
  rw [if_pos (big_of (by omega) (by omega))]
  walk_at "ev"
  rw [e]
  walk_at "ev"
  rw [rng_len] at hl
  exact ⟨xs, rfl, by omega, hx⟩
/-! ### values -/
inductive Kd where | n | t | s | l
/-- the signs of a text, in order -/
def AL : List Nat := [32, 48, 49, 50, 51, 52, 53, 54, 55, 56, 57, 97, 98, 99, 100, 101, 102, 103, 104, 105, 106, 107, 108, 109, 110, 111, 112, 113, 114, 115, 116, 117, 118, 119, 120, 121, 122]
def Rg (i : Int) : Prop := -1000000 ≤ i ∧ i ≤ 1000000
inductive Vk : Kd → D → Prop
  | n {i : Int} (h : Rg i) : Vk .n (.int i)
  | t (b : Bool) : Vk .t (.bool b)
  | s {l : List Nat} (h : l.length ≤ 30) (a : ∀ c ∈ l, c ∈ AL) : Vk .s (.str (S l))
  | l {ns : List Int} (h : ns.length ≤ 12) (a : ∀ i ∈ ns, Rg i) : Vk .l (.tuple (ns.map .int))
def letter : Kd → Str
  | .n => "n" | .t => "t" | .s => "s" | .l => "l"
theorem eq_lit {a b : Str} {r : Bool} (h : (SeqAt.shaped (.str a) && SeqAt.shaped (.str b)) = true) (e : (a == b) = r) : dEq (.str a) (.str b) = some (.bool r) := by
  unfold dEq
  rw [h]
  show some (PyData.bool (a == b)) = _
  rw [e]
theorem e_nn : dEq (.str "n") (.str "n") = some (.bool true) := eq_lit (by decide +kernel) (by decide +kernel)
theorem e_tn : dEq (.str "t") (.str "n") = some (.bool false) := eq_lit (by decide +kernel) (by decide +kernel)
theorem e_tt : dEq (.str "t") (.str "t") = some (.bool true) := eq_lit (by decide +kernel) (by decide +kernel)
theorem e_sn : dEq (.str "s") (.str "n") = some (.bool false) := eq_lit (by decide +kernel) (by decide +kernel)
theorem e_st : dEq (.str "s") (.str "t") = some (.bool false) := eq_lit (by decide +kernel) (by decide +kernel)
theorem e_ss : dEq (.str "s") (.str "s") = some (.bool true) := eq_lit (by decide +kernel) (by decide +kernel)
theorem e_ln : dEq (.str "l") (.str "n") = some (.bool false) := eq_lit (by decide +kernel) (by decide +kernel)
theorem e_lt : dEq (.str "l") (.str "t") = some (.bool false) := eq_lit (by decide +kernel) (by decide +kernel)
theorem e_ls : dEq (.str "l") (.str "s") = some (.bool false) := eq_lit (by decide +kernel) (by decide +kernel)
local macro_rules | `(tactic| walk_at "ev") => `(tactic| try simp -implicitDefEqProofs only [mDef, mSeq, mIf, mT, mTr, mOp, mUn, mVar, mC, mCall, mCons, mNil, mRet, mSkip, mAsg, mSl, mPart, mNoPart, mAndT, mOrT, mNotT, mAnd, mOr, mNot, mIfE, mChain, mIs, mIs2, mOf, mNew, mCallF, mM1, mM0, mIxM, mLenM, mApp, mSetM, mSetIx, mAug, mFrz, mForS, mRng1, mRng2, mItems, setV_zn, setV_zv, setV_zo, setV_succ, setM, frz, setT2, mBk, mCt, mNo, 
  DL.bind_ok, DL.bind_no, DL.bind_ite, lift_some, lift_none, List.map_cons, List.map_nil, List.length_cons, List.length_nil, List.replicate_succ, List.replicate_zero, List.cons_append, List.nil_append, List.append_nil, List.getElem?_cons_zero, List.getElem?_cons_succ, List.set_cons_zero, List.set_cons_succ, Nat.reduceAdd, Nat.reduceSub, Nat.zero_add, Nat.sub_self, decide_eq_true_eq,
  add_ii, sub_ii, neg_i, mul_r, mul_l, div_s, mod_s, eq_ii, ne_ii, eq_bb, ne_bb, lt_ii, gt_ii, le_ii, ge_ii, len_l, len_t, int_i, int_b, abs_i, max_ii, min_ii, tuple_l, ix_l, ix_t, tr_b, Nat.reduceLeDiff, if_true, if_false, Option.map_some, Option.bind_some, reduceIte, Int.reduceLT, Int.reduceNeg, Int.reduceMul, Nat.reduceLT, Nat.le_refl, LINE, Bool.false_eq_true, Bool.not_true, Bool.not_false, Bool.true_eq_false, e_nn, e_tn, e_tt, e_sn, e_st, e_ss, e_ln, e_lt, e_ls])
local macro_rules | `(tactic| walk_at "ev*") => `(tactic| try simp -implicitDefEqProofs only [mDef, mSeq, mIf, mT, mTr, mOp, mUn, mVar, mC, mCall, mCons, mNil, mRet, mSkip, mAsg, mSl, mPart, mNoPart, mAndT, mOrT, mNotT, mAnd, mOr, mNot, mIfE, mChain, mIs, mIs2, mOf, mNew, mCallF, mM1, mM0, mIxM, mLenM, mApp, mSetM, mSetIx, mAug, mFrz, mForS, mRng1, mRng2, mItems, setV_zn, setV_zv, setV_zo, setV_succ, setM, frz, setT2, mBk, mCt, mNo, 
  DL.bind_ok, DL.bind_no, DL.bind_ite, lift_some, lift_none, List.map_cons, List.map_nil, List.length_cons, List.length_nil, List.replicate_succ, List.replicate_zero, List.cons_append, List.nil_append, List.append_nil, List.getElem?_cons_zero, List.getElem?_cons_succ, List.set_cons_zero, List.set_cons_succ, Nat.reduceAdd, Nat.reduceSub, Nat.zero_add, Nat.sub_self, decide_eq_true_eq,
  add_ii, sub_ii, neg_i, mul_r, mul_l, div_s, mod_s, eq_ii, ne_ii, eq_bb, ne_bb, lt_ii, gt_ii, le_ii, ge_ii, len_l, len_t, int_i, int_b, abs_i, max_ii, min_ii, tuple_l, ix_l, ix_t, tr_b, Nat.reduceLeDiff, if_true, if_false, Option.map_some, Option.bind_some, reduceIte, Int.reduceLT, Int.reduceNeg, Int.reduceMul, Nat.reduceLT, Nat.le_refl, LINE, Bool.false_eq_true, Bool.not_true, Bool.not_false, Bool.true_eq_false, e_nn, e_tn, e_tt, e_sn, e_st, e_ss, e_ln, e_lt, e_ls, *])
theorem value_n {c : Int} (h : 0 ≤ c) : ∃ x, m__law_value [.str "n", .int c] = .ok x [] ∧ Vk .n x := by
  obtain ⟨v, e, h1, h2⟩ := number_eq c
  unfold m__law_value b__law_value
  walk_at "ev*"
  exact ⟨_, rfl, .n ⟨h1, h2⟩⟩
theorem value_t {c : Int} (h : 0 ≤ c) : ∃ x, m__law_value [.str "t", .int c] = .ok x [] ∧ Vk .t x := by
  unfold m__law_value b__law_value
  walk_at "ev"
  exact ⟨_, rfl, .t _⟩
theorem menu : ("a b0 9z1" : Str) = S [97, 32, 98, 48, 32, 57, 122, 49] := by decide +kernel
theorem empty_S : ("" : Str) = S [] := by decide +kernel
theorem nv_list {δ : Dl} (h : δ.all (fun c => !c.isVar) = true) : noVar δ = true := h
theorem map_pick {α β : Type} {g : α → β} {Q : α → Prop} : ∀ {ys : List β}, (∀ y ∈ ys, ∃ k, y = g k ∧ Q k) → ∃ ks : List α, ys = ks.map g ∧ ∀ k ∈ ks, Q k
  | [], _ => ⟨[], rfl, by simp⟩
  | y :: ys, h => by
    obtain ⟨k, rfl, hk⟩ := h y List.mem_cons_self
    obtain ⟨ks, e, hs⟩ := map_pick (ys := ys) fun z hz => h z (List.mem_cons_of_mem _ hz)
    exact ⟨k :: ks, by rw [e]; rfl, fun z hz => by
      rcases List.mem_cons.mp hz with rfl | hz
      · exact hk
      · exact hs z hz⟩
theorem joinL_ones : ∀ ks : List Nat, TL.joinL [] (ks.map fun k => [k]) = ks
  | [] => rfl
  | [k] => rfl
  | k :: k2 :: ks => by
    have ih := joinL_ones (k2 :: ks)
    show [k] ++ ([] ++ TL.joinL [] ((k2 :: ks).map fun k => [k])) = _
    rw [ih]
    rfl
theorem join_ones {ks : List Nat} (h : ks.length ≤ 30) : dJoin (.str "") [.list (ks.map fun k => .str (S [k]))] = some (.str (S ks)) := by
  have e := join_S' (a := []) (ls := ks.map fun k => [k]) (by
    have : (ks.map fun k => [k]).map (·.length) = ks.map fun _ => 1 := by rw [List.map_map]; rfl
    rw [this, List.length_map]
    have q : ∀ l : List Nat, (l.map fun _ => 1).sum = l.length := fun l => by induction l with
      | nil => rfl
      | cons a l ih => rw [List.map_cons, List.sum_cons, ih, List.length_cons]; omega
    rw [q]
    simp
    omega)
  rw [joinL_ones, List.map_map] at e
  rw [empty_S]
  exact e
theorem value_s {c : Int} (h : 0 ≤ c) : ∃ x, m__law_value [.str "s", .int c] = .ok x [] ∧ Vk .s x := by
  unfold m__law_value b__law_value
  walk_at "ev"
  obtain ⟨d, hd, e⟩ := at_ex [PyData.int 0, PyData.int 1, PyData.int 2, PyData.int 3, PyData.int 5, PyData.int 15, PyData.int 16, PyData.int 30] (i := c % 8) (by omega) (by show _ < (8 : Int); omega)
  rw [e]
  walk_at "ev"
  obtain ⟨n, rfl, hn⟩ : ∃ n : Nat, d = .int n ∧ n ≤ 30 := by
    simp only [List.mem_cons, List.not_mem_nil, or_false] at hd
    rcases hd with rfl | rfl | rfl | rfl | rfl | rfl | rfl | rfl <;> exact ⟨_, rfl, by decide⟩
  obtain ⟨xs, e2, hl, hx⟩ := draws_eq (c / 8) (n := n) (by omega) (l := 64) (by decide) (by decide)
  obtain ⟨f, e3, hf⟩ := lcS_ex (j := 3) (it := mItems (mCallF m__law_draws (mCons (mOp dDiv (mVar 1) (mC (.int 8))) (mCons (mVar 2) (mCons (mC (.int 64)) mNil))))) (e := b__law_value_E1) (δ := [.val (.str "s"), .val (.int c), .val (.int n), .non]) (δ' := [.val (.str "s"), .val (.int c), .val (.int n), .non]) (items := xs.map .int) (P := fun _ y => ∃ k, y = .str (S [k]) ∧ k ∈ AL) (by
    walk_at "ev"
    rw [e2]
    rfl) (by simp) rfl (by rw [List.length_map]; omega) (fun x hx' => by
    obtain ⟨i, hi, rfl⟩ := List.mem_map.mp hx'
    obtain ⟨k, hk⟩ : ∃ k : Nat, i % 8 = k := ⟨(i % 8).toNat, by omega⟩
    unfold b__law_value_E1
    walk_at "ev"
    rw [hk, menu, ix_S (by decide)]
    have hk8 : k < 8 := by omega
    have q : ∀ k < 8, ∃ m, [97, 32, 98, 48, 32, 57, 122, 49][k]? = some m ∧ m ∈ AL := by decide
    obtain ⟨m, e4, hm⟩ := q k hk8
    exact ⟨_, by rw [e4]; rfl, m, rfl, hm⟩)
  rw [e3]
  walk_at "ev"
  obtain ⟨ks, e4, hk⟩ := map_pick (ys := (xs.map PyData.int).map f) (g := fun k => PyData.str (S [k])) (Q := fun k => k ∈ AL) (fun y hy => by
    obtain ⟨x, hx', rfl⟩ := List.mem_map.mp hy
    exact hf x hx')
  have hl2 := congrArg List.length e4
  rw [List.length_map, List.length_map, List.length_map, hl] at hl2
  rw [e4, join_ones (by omega)]
  walk_at "ev"
  exact ⟨_, rfl, .s (by omega) hk⟩
theorem value_l {c : Int} (h : 0 ≤ c) : ∃ x, m__law_value [.str "l", .int c] = .ok x [] ∧ Vk .l x := by
  unfold m__law_value b__law_value
  walk_at "ev"
  obtain ⟨d, hd, e⟩ := at_ex [PyData.int 0, PyData.int 1, PyData.int 2, PyData.int 3, PyData.int 4, PyData.int 6, PyData.int 11, PyData.int 12] (i := c % 8) (by omega) (by show _ < (8 : Int); omega)
  rw [e]
  walk_at "ev"
  obtain ⟨n, rfl, hn⟩ : ∃ n : Nat, d = .int n ∧ n ≤ 12 := by
    simp only [List.mem_cons, List.not_mem_nil, or_false] at hd
    rcases hd with rfl | rfl | rfl | rfl | rfl | rfl | rfl | rfl <;> exact ⟨_, rfl, by decide⟩
  have A : ∀ (l : Int) (e : M D), 0 < l → l < 1073741824 → (∀ i : Int, 0 ≤ i → i < l → ∃ y, e [.val (.str "l"), .val (.int c), .val (.int n), .val (.int i)] = .ok y [.val (.str "l"), .val (.int c), .val (.int n), .val (.int i)] ∧ ∃ k, y = .int k ∧ Rg k) →
      ∃ ks : List Int, mLcS [3] (mItems (mCallF m__law_draws (mCons (mOp dDiv (mVar 1) (mC (.int 24))) (mCons (mVar 2) (mCons (mC (.int l)) mNil))))) (setV 3) mYes e [.val (.str "l"), .val (.int c), .val (.int n), .non] = .ok (ks.map .int) [.val (.str "l"), .val (.int c), .val (.int n), .non] ∧ ks.length ≤ 12 ∧ ∀ k ∈ ks, Rg k := by
    intro l e h0 h1 he
    obtain ⟨xs, e2, hl, hx⟩ := draws_eq (c / 24) (n := n) (l := l) (by omega) h0 h1
    obtain ⟨f, e3, hf⟩ := lcS_ex (j := 3) (it := mItems (mCallF m__law_draws (mCons (mOp dDiv (mVar 1) (mC (.int 24))) (mCons (mVar 2) (mCons (mC (.int l)) mNil))))) (e := e) (δ := [.val (.str "l"), .val (.int c), .val (.int n), .non]) (δ' := [.val (.str "l"), .val (.int c), .val (.int n), .non]) (items := xs.map .int) (P := fun _ y => ∃ k, y = .int k ∧ Rg k) (by
      walk_at "ev"
      rw [e2]
      rfl) (by simp) rfl (by rw [List.length_map]; omega) (fun x hx' => by
      obtain ⟨i, hi, rfl⟩ := List.mem_map.mp hx'
      exact he i (hx i hi).1 (hx i hi).2)
    obtain ⟨ks, e4, hk⟩ := map_pick (ys := (xs.map PyData.int).map f) (g := fun k => PyData.int k) (Q := Rg) (fun y hy => by
      obtain ⟨x, hx', rfl⟩ := List.mem_map.mp hy
      exact hf x hx')
    have hl2 := congrArg List.length e4
    rw [List.length_map, List.length_map, List.length_map, hl] at hl2
    rw [e4] at e3
    exact ⟨ks, e3, by omega, hk⟩
  obtain ⟨ks, e1, e2, e3⟩ := A 4000 b__law_value_E2 (by decide) (by decide) (fun i h1 h2 => by
    obtain ⟨v, ev, q⟩ := number_eq i
    unfold b__law_value_E2
    walk_at "ev*"
    exact ⟨_, rfl, v, rfl, q⟩)
  obtain ⟨ks', e1', e2', e3'⟩ := A 63 b__law_value_E3 (by decide) (by decide) (fun i h1 h2 => by
    unfold b__law_value_E3
    walk_at "ev"
    exact ⟨_, rfl, _, rfl, by constructor <;> omega⟩)
  clear A
  simp only [e1, e1']
  walk_at "ev"
  split
  · exact ⟨_, rfl, .l e2 e3⟩
  · exact ⟨_, rfl, .l e2' e3'⟩
theorem value_eq (k : Kd) {c : Int} (h : 0 ≤ c) : ∃ x, m__law_value [.str (letter k), .int c] = .ok x [] ∧ Vk k x := by
  cases k
  · exact value_n h
  · exact value_t h
  · exact value_s h
  · exact value_l h
theorem _root_.DL.R.bind_ex {α β : Type} {c : Nat} {d : D} {δ : Dl} {f : α → Dl → R β} : R.bind (.ex c d δ) f = .ex c d δ := rfl
theorem is_bool_n (i : Int) : isD "bool" (.int i) = false := by show isT "bool" "int" = _; decide
theorem is_bool_t (i : Bool) : isD "bool" (.bool i) = true := by show isT "bool" "bool" = _; decide
theorem is_bool_s (i : Str) : isD "bool" (.str i) = false := by show isT "bool" "str" = _; decide
theorem is_bool_l (i : List D) : isD "bool" (.tuple i) = false := by show isT "bool" "tuple" = _; decide
theorem is_int_n (i : Int) : isD "int" (.int i) = true := by show isT "int" "int" = _; decide
theorem is_int_t (i : Bool) : isD "int" (.bool i) = true := by show isT "int" "bool" = _; decide
theorem is_int_s (i : Str) : isD "int" (.str i) = false := by show isT "int" "str" = _; decide
theorem is_int_l (i : List D) : isD "int" (.tuple i) = false := by show isT "int" "tuple" = _; decide
theorem is_str_n (i : Int) : isD "str" (.int i) = false := by show isT "str" "int" = _; decide
theorem is_str_t (i : Bool) : isD "str" (.bool i) = false := by show isT "str" "bool" = _; decide
theorem is_str_s (i : Str) : isD "str" (.str i) = true := by show isT "str" "str" = _; decide
theorem is_str_l (i : List D) : isD "str" (.tuple i) = false := by show isT "str" "tuple" = _; decide
theorem is_tuple_n (i : Int) : isD "tuple" (.int i) = false := by show isT "tuple" "int" = _; decide
theorem is_tuple_t (i : Bool) : isD "tuple" (.bool i) = false := by show isT "tuple" "bool" = _; decide
theorem is_tuple_s (i : Str) : isD "tuple" (.str i) = false := by show isT "tuple" "str" = _; decide
theorem is_tuple_l (i : List D) : isD "tuple" (.tuple i) = true := by show isT "tuple" "tuple" = _; decide
theorem is_list_n (i : Int) : isD "list" (.int i) = false := by show isT "list" "int" = _; decide
theorem is_list_t (i : Bool) : isD "list" (.bool i) = false := by show isT "list" "bool" = _; decide
theorem is_list_s (i : Str) : isD "list" (.str i) = false := by show isT "list" "str" = _; decide
theorem is_list_l (i : List D) : isD "list" (.tuple i) = false := by show isT "list" "tuple" = _; decide
end K07
end Part_SA

section Part_SB
set_option Elab.async false
set_option linter.all false
set_option maxRecDepth 100000
set_option autoImplicit false
set_option maxHeartbeats 2000000
namespace K07
open PySem PySem.Spec PyProof.Rows L2 DL SX
def LIB : List (Str × Str × Str) := ("abs", "n", "n") :: ("add", "nn", "n") :: ("add_each", "ln", "l") :: ("append", "ln", "l") :: ("at", "ln", "n") :: ("both", "tt", "t") :: ("choose_list", "tll", "l") :: ("choose_number", "tnn", "n") :: ("choose_text", "tss", "s") :: ("concat", "ss", "s") :: ("contains", "ss", "t") :: ("count_of", "ln", "n") :: ("distinct", "l", "l") :: ("divide", "nn", "n") :: ("double", "n", "n") :: ("drop", "ln", "l") :: ("either", "tt", "t") :: ("equal", "nn", "t") :: ("first", "l", "n") :: ("greatest", "l", "n") :: ("half", "n", "n") :: ("is_empty", "l", "t") :: ("is_even", "n", "t") :: ("join", "ll", "l") :: ("keep_above", "ln", "l") :: ("keep_even", "l", "l") :: ("last", "l", "n") :: ("least", "l", "n") :: ("length", "s", "n") :: ("less", "nn", "t") :: ("max", "nn", "n") :: ("min", "nn", "n") :: ("mod", "nn", "n") :: ("mul", "nn", "n") :: ("neg", "n", "n") :: ("negate", "t", "t") :: ("number_text", "n", "s") :: ("prepend", "nl", "l") :: ("product", "l", "n") :: ("repeat", "sn", "s") :: ("rest", "l", "l") :: ("reverse", "l", "l") :: ("reverse_text", "s", "s") :: ("running", "l", "l") :: ("same_list", "ll", "t") :: ("same_text", "ss", "t") :: ("size", "l", "n") :: ("skip", "sn", "s") :: ("sort", "l", "l") :: ("start", "sn", "s") :: ("sub", "nn", "n") :: ("sum", "l", "n") :: ("take", "ln", "l") :: ("text_number", "s", "n") :: ("up_to", "n", "l") :: ("words", "s", "n") :: ("zip_add", "ll", "l") :: []
def rowD (r : Str × Str × Str) : D := .list [.str r.1, .str r.2.1, .str r.2.2]
theorem lib_eq : m__law_library [] = .ok (.list (LIB.map rowD)) [] := by kernel_rfl
end K07
end Part_SB

section Part_SC
set_option Elab.async false
set_option linter.all false
set_option maxRecDepth 100000
set_option autoImplicit false
set_option maxHeartbeats 2000000
namespace K07
open PySem PySem.Spec PyProof.Rows L2 DL SX
theorem e_number_number : dEq (.str "number") (.str "number") = some (.bool true) := eq_lit (by decide +kernel) (by decide +kernel)
theorem e_number_truth : dEq (.str "number") (.str "truth") = some (.bool false) := eq_lit (by decide +kernel) (by decide +kernel)
theorem e_number_text : dEq (.str "number") (.str "text") = some (.bool false) := eq_lit (by decide +kernel) (by decide +kernel)
theorem e_number_list : dEq (.str "number") (.str "list") = some (.bool false) := eq_lit (by decide +kernel) (by decide +kernel)
theorem e_truth_number : dEq (.str "truth") (.str "number") = some (.bool false) := eq_lit (by decide +kernel) (by decide +kernel)
theorem e_truth_truth : dEq (.str "truth") (.str "truth") = some (.bool true) := eq_lit (by decide +kernel) (by decide +kernel)
theorem e_truth_text : dEq (.str "truth") (.str "text") = some (.bool false) := eq_lit (by decide +kernel) (by decide +kernel)
theorem e_truth_list : dEq (.str "truth") (.str "list") = some (.bool false) := eq_lit (by decide +kernel) (by decide +kernel)
theorem e_text_number : dEq (.str "text") (.str "number") = some (.bool false) := eq_lit (by decide +kernel) (by decide +kernel)
theorem e_text_truth : dEq (.str "text") (.str "truth") = some (.bool false) := eq_lit (by decide +kernel) (by decide +kernel)
theorem e_text_text : dEq (.str "text") (.str "text") = some (.bool true) := eq_lit (by decide +kernel) (by decide +kernel)
theorem e_text_list : dEq (.str "text") (.str "list") = some (.bool false) := eq_lit (by decide +kernel) (by decide +kernel)
theorem e_list_number : dEq (.str "list") (.str "number") = some (.bool false) := eq_lit (by decide +kernel) (by decide +kernel)
theorem e_list_truth : dEq (.str "list") (.str "truth") = some (.bool false) := eq_lit (by decide +kernel) (by decide +kernel)
theorem e_list_text : dEq (.str "list") (.str "text") = some (.bool false) := eq_lit (by decide +kernel) (by decide +kernel)
theorem e_list_list : dEq (.str "list") (.str "list") = some (.bool true) := eq_lit (by decide +kernel) (by decide +kernel)
local macro_rules | `(tactic| walk_at "ev") => `(tactic| try simp -implicitDefEqProofs only [mDef, mSeq, mIf, mT, mTr, mOp, mUn, mVar, mC, mCall, mCons, mNil, mRet, mSkip, mAsg, mSl, mPart, mNoPart, mAndT, mOrT, mNotT, mAnd, mOr, mNot, mIfE, mChain, mIs, mIs2, mOf, mNew, mCallF, mM1, mM0, mIxM, mLenM, mApp, mSetM, mSetIx, mAug, mFrz, mForS, mRng1, mRng2, mItems, setV_zn, setV_zv, setV_zo, setV_succ, setM, frz, setT2, mBk, mCt, mNo, 
  DL.bind_ok, DL.bind_no, DL.bind_ite, lift_some, lift_none, List.map_cons, List.map_nil, List.length_cons, List.length_nil, List.replicate_succ, List.replicate_zero, List.cons_append, List.nil_append, List.append_nil, List.getElem?_cons_zero, List.getElem?_cons_succ, List.set_cons_zero, List.set_cons_succ, Nat.reduceAdd, Nat.reduceSub, Nat.zero_add, Nat.sub_self, decide_eq_true_eq,
  add_ii, sub_ii, neg_i, mul_r, mul_l, div_s, mod_s, eq_ii, ne_ii, eq_bb, ne_bb, lt_ii, gt_ii, le_ii, ge_ii, len_l, len_t, int_i, int_b, abs_i, max_ii, min_ii, tuple_l, ix_l, ix_t, tr_b, Nat.reduceLeDiff, if_true, if_false, Option.map_some, Option.bind_some, reduceIte, Int.reduceLT, Int.reduceNeg, Int.reduceMul, Nat.reduceLT, Nat.le_refl, LINE, Bool.false_eq_true, Bool.not_true, Bool.not_false, Bool.true_eq_false, R.bind_ex, Int.reduceEq, e_number_number, e_number_truth, e_number_text, e_number_list, e_truth_number, e_truth_truth, e_truth_text, e_truth_list, e_text_number, e_text_truth, e_text_text, e_text_list, e_list_number, e_list_truth, e_list_text, e_list_list, is_bool_n, is_bool_t, is_bool_s, is_bool_l, is_int_n, is_int_t, is_int_s, is_int_l, is_str_n, is_str_t, is_str_s, is_str_l, is_tuple_n, is_tuple_t, is_tuple_s, is_tuple_l])
local macro_rules | `(tactic| walk_at "ev*") => `(tactic| try simp -implicitDefEqProofs only [mDef, mSeq, mIf, mT, mTr, mOp, mUn, mVar, mC, mCall, mCons, mNil, mRet, mSkip, mAsg, mSl, mPart, mNoPart, mAndT, mOrT, mNotT, mAnd, mOr, mNot, mIfE, mChain, mIs, mIs2, mOf, mNew, mCallF, mM1, mM0, mIxM, mLenM, mApp, mSetM, mSetIx, mAug, mFrz, mForS, mRng1, mRng2, mItems, setV_zn, setV_zv, setV_zo, setV_succ, setM, frz, setT2, mBk, mCt, mNo, 
  DL.bind_ok, DL.bind_no, DL.bind_ite, lift_some, lift_none, List.map_cons, List.map_nil, List.length_cons, List.length_nil, List.replicate_succ, List.replicate_zero, List.cons_append, List.nil_append, List.append_nil, List.getElem?_cons_zero, List.getElem?_cons_succ, List.set_cons_zero, List.set_cons_succ, Nat.reduceAdd, Nat.reduceSub, Nat.zero_add, Nat.sub_self, decide_eq_true_eq,
  add_ii, sub_ii, neg_i, mul_r, mul_l, div_s, mod_s, eq_ii, ne_ii, eq_bb, ne_bb, lt_ii, gt_ii, le_ii, ge_ii, len_l, len_t, int_i, int_b, abs_i, max_ii, min_ii, tuple_l, ix_l, ix_t, tr_b, Nat.reduceLeDiff, if_true, if_false, Option.map_some, Option.bind_some, reduceIte, Int.reduceLT, Int.reduceNeg, Int.reduceMul, Nat.reduceLT, Nat.le_refl, LINE, Bool.false_eq_true, Bool.not_true, Bool.not_false, Bool.true_eq_false, R.bind_ex, Int.reduceEq, e_number_number, e_number_truth, e_number_text, e_number_list, e_truth_number, e_truth_truth, e_truth_text, e_truth_list, e_text_number, e_text_truth, e_text_text, e_text_list, e_list_number, e_list_truth, e_list_text, e_list_list, is_bool_n, is_bool_t, is_bool_s, is_bool_l, is_int_n, is_int_t, is_int_s, is_int_l, is_str_n, is_str_t, is_str_s, is_str_l, is_tuple_n, is_tuple_t, is_tuple_s, is_tuple_l, *])
theorem all_of {α β : Type} {f g : α → β} {l : List α} (h : l.map f = l.map g) : ∀ a ∈ l, f a = g a := List.map_inj_left.mp h
def kdOf (c : Nat) : Kd := if c = 110 then .n else if c = 116 then .t else if c = 115 then .s else .l
def kdsOf (s : Str) : List Kd := s.cps.toList.map kdOf
def resOf (s : Str) : Kd := kdOf (s.cps.toList.headD 0)
def nameOf : Kd → Str
  | .n => "number" | .t => "truth" | .s => "text" | .l => "list"
theorem res_letter (k : Kd) : resOf (letter k) = k := by cases k <;> kernel_rfl
theorem kds_letter (k : Kd) : kdsOf (letter k) = [k] := by cases k <;> kernel_rfl
/-! ### the library's facts -/
theorem f_comp : ∀ r ∈ LIB, m_is_component [.str r.1] = .ok (.bool true) [] := all_of (g := fun _ : Str × Str × Str => R.ok (PyData.bool true) []) (by kernel_rfl)
theorem f_args : ∀ r ∈ LIB, m_argument_kinds [.str r.1] = .ok (.list ((kdsOf r.2.1).map fun k => .str (nameOf k))) [] := all_of (g := fun r : Str × Str × Str => R.ok (PyData.list ((kdsOf r.2.1).map fun k => .str (nameOf k))) []) (by kernel_rfl)
theorem f_res : ∀ r ∈ LIB, m_result_kind [.str r.1] = .ok (.str (nameOf (resOf r.2.2))) [] := all_of (g := fun r : Str × Str × Str => R.ok (PyData.str (nameOf (resOf r.2.2))) []) (by kernel_rfl)
theorem f_inp : ∀ r ∈ LIB, dEq (.str r.1) (.str "input") = some (.bool false) := all_of (g := fun _ : Str × Str × Str => some (PyData.bool false)) (by kernel_rfl)
theorem f_con : ∀ r ∈ LIB, dEq (.str r.1) (.str "constant") = some (.bool false) := all_of (g := fun _ : Str × Str × Str => some (PyData.bool false)) (by kernel_rfl)

theorem f_in2 : ∀ r ∈ LIB, dIn (.str r.1) (.list [.str "input", .str "constant"]) = some (.bool false) := all_of (g := fun _ : Str × Str × Str => some (PyData.bool false)) (by kernel_rfl)
theorem i_in2 : dIn (.str "input") (.list [.str "input", .str "constant"]) = some (.bool true) := by kernel_rfl
theorem c_in2 : dIn (.str "constant") (.list [.str "input", .str "constant"]) = some (.bool true) := by kernel_rfl
theorem i_inp : dEq (.str "input") (.str "input") = some (.bool true) := by kernel_rfl
theorem i_con : dEq (.str "input") (.str "constant") = some (.bool false) := by kernel_rfl
theorem c_inp : dEq (.str "constant") (.str "input") = some (.bool false) := by kernel_rfl
theorem c_con : dEq (.str "constant") (.str "constant") = some (.bool true) := by kernel_rfl
theorem f_items : ∀ r ∈ LIB, dItems (.str r.2.1) = some ((kdsOf r.2.1).map fun k => .str (letter k)) := all_of (g := fun r : Str × Str × Str => some ((kdsOf r.2.1).map fun k => PyData.str (letter k))) (by kernel_rfl)
theorem f_lay : ∀ r ∈ LIB, PyData.canLay0 (.str r.1) = true := all_of (g := fun _ : Str × Str × Str => true) (by kernel_rfl)
theorem f_pos : ∀ r ∈ LIB, (decide (1 ≤ (kdsOf r.2.1).length) && decide ((kdsOf r.2.1).length ≤ 3)) = true := all_of (g := fun _ : Str × Str × Str => true) (by kernel_rfl)
theorem f_let (k : Kd) : ∀ r ∈ LIB, dEq (.str r.2.2) (.str (letter k)) = some (.bool (r.2.2 == letter k)) := by
  cases k <;> exact all_of (g := fun r : Str × Str × Str => some (PyData.bool (r.2.2 == letter _))) (by kernel_rfl)
theorem f_some (k : Kd) : decide (1 ≤ (LIB.filter fun r => r.2.2 == letter k).length) = true := by cases k <;> kernel_rfl
theorem f_few (k : Kd) : decide ((LIB.filter fun r => r.2.2 == letter k).length ≤ 57) = true := by cases k <;> kernel_rfl
/-! ### values and their kinds -/
def sameK : Kd → Kd → Bool
  | .n, .n => true | .t, .t => true | .s, .s => true | .l, .l => true | _, _ => false
theorem limit_c : dNeg c_NUMBER_LIMIT = some (.int (-1000000)) := rfl
theorem num_of {k : Kd} {v : D} (h : Vk k v) : m_is_number [v] = .ok (.bool (sameK .n k)) [] := by
  unfold m_is_number b_is_number
  cases h with
  | n h =>
    have h := h
    unfold Rg at h
    iterate 4 ((try simp only [limit_c, truthD]); walk_at "ev")
    simp [h.1, h.2, sameK]
    try rfl
  | t b => iterate 4 ((try simp only [limit_c, truthD]); walk_at "ev"); try rfl
  | s h a => iterate 4 ((try simp only [limit_c, truthD]); walk_at "ev"); try rfl
  | l h a => iterate 4 ((try simp only [limit_c, truthD]); walk_at "ev"); try rfl
def inB : D → D
  | .str s => .bool (s.cps.toList.all fun c => decide (c ∈ AL))
  | d => d
theorem signs_S : (" 0123456789abcdefghijklmnopqrstuvwxyz" : Str) = S AL := by decide +kernel
theorem text_s {l : List Nat} (h : l.length ≤ 30) (a : ∀ c ∈ l, c ∈ AL) : m_is_text [.str (S l)] = .ok (.bool true) [] := by
  have e0 := len_S (l := l) (by omega)
  have e1 := lcS_map (j := 1) (it := mItems (mVar 0)) (e := b_is_text_E1) (δ := [.val (.str (S l)), .non]) (δ' := [.val (.str (S l)), .non]) (items := l.map fun c => .str (S [c])) (fun _ => .bool true) rfl (by simp) rfl (by rw [List.length_map]; omega) (fun x hx => by
    obtain ⟨c, hc, rfl⟩ := List.mem_map.mp hx
    unfold b_is_text_E1
    have e := in_S c AL
    rw [decide_eq_true (a c hc)] at e
    rw [c_SIGNS, signs_S]
    iterate 2 ((try simp only [e]); walk_at "ev"))
  rw [List.map_map] at e1
  have e2 := all_l (l.map fun _ => true)
  have e3 : (l.map ((fun _ => PyData.bool true) ∘ fun c => PyData.str (S [c]))) = (l.map fun _ => true).map PyData.bool := by
    rw [List.map_map]; rfl
  rw [e3] at e1
  have e4 : ((l.map fun _ => true).all id) = true := by
    rw [List.all_eq_true]; intro x hx; obtain ⟨_, _, rfl⟩ := List.mem_map.mp hx; rfl
  rw [e4] at e2
  have e5 : ((30 : Int) < ((l.length : Nat) : Int)) = False := eq_false (by omega)
  unfold m_is_text b_is_text
  iterate 6 ((try simp only [e0, e1, e2, e5, truthD]); walk_at "ev")
theorem text_of {k : Kd} {v : D} (h : Vk k v) : m_is_text [v] = .ok (.bool (sameK .s k)) [] := by
  cases h with
  | s h a => exact text_s h a
  | n h => unfold m_is_text b_is_text; iterate 4 ((try simp only [truthD]); walk_at "ev"); try rfl
  | t b => unfold m_is_text b_is_text; iterate 4 ((try simp only [truthD]); walk_at "ev"); try rfl
  | l h a => unfold m_is_text b_is_text; iterate 4 ((try simp only [truthD]); walk_at "ev"); try rfl
theorem isl {ns : List Int} (h : ns.length ≤ 12) (a : ∀ i ∈ ns, Rg i) : m_is_list [.tuple (ns.map .int)] = .ok (.bool true) [] := by
  have e1 : ((12 : Int) < ((ns.map PyData.int).length : Int)) = False := eq_false (by rw [List.length_map]; omega)
  have e2 : mLcS [1] (mItems (mVar 0)) (setV 1) mYes b_is_list_E1 [.val (.tuple (ns.map .int)), .non] = .ok ((ns.map fun _ => true).map .bool) [.val (.tuple (ns.map .int)), .non] := by
    have z := lcS_map (j := 1) (it := mItems (mVar 0)) (e := b_is_list_E1) (δ := [.val (.tuple (ns.map .int)), .non]) (δ' := [.val (.tuple (ns.map .int)), .non]) (items := ns.map .int) (fun _ => .bool true) rfl (by simp) rfl (by rw [List.length_map]; omega) (fun x hx => by
      obtain ⟨i, hi, rfl⟩ := List.mem_map.mp hx
      have e := num_of (Vk.n (a i hi))
      unfold b_is_list_E1
      iterate 2 ((try simp only [e, sameK]); walk_at "ev"))
    rw [z, List.map_map, List.map_map]
    rfl
  have e3 := all_l (ns.map fun _ => true)
  have e4 : ((ns.map fun _ => true).all id) = true := by
    rw [List.all_eq_true]; intro x hx; obtain ⟨_, _, rfl⟩ := List.mem_map.mp hx; rfl
  rw [e4] at e3
  unfold m_is_list b_is_list
  iterate 6 ((try simp only [e1, e2, e3, truthD]); walk_at "ev")
theorem list_of {k : Kd} {v : D} (h : Vk k v) : m_is_list [v] = .ok (.bool (sameK .l k)) [] := by
  cases h with
  | l h a => exact isl h a
  | n h => unfold m_is_list b_is_list; iterate 4 ((try simp only [truthD]); walk_at "ev"); try rfl
  | t b => unfold m_is_list b_is_list; iterate 4 ((try simp only [truthD]); walk_at "ev"); try rfl
  | s h a => unfold m_is_list b_is_list; iterate 4 ((try simp only [truthD]); walk_at "ev"); try rfl
theorem bool_of {k : Kd} {v : D} (h : Vk k v) : isD "bool" v = sameK .t k := by
  cases h with
  | n h => exact is_bool_n _
  | t b => exact is_bool_t _
  | s h a => exact is_bool_s _
  | l h a => exact is_bool_l _
theorem isv {k : Kd} {v : D} (h : Vk k v) (j : Kd) : m_is_value [.str (nameOf j), v] = .ok (.bool (sameK j k)) [] := by
  have e1 := num_of h
  have e2 := text_of h
  have e3 := list_of h
  have e4 := bool_of h
  unfold m_is_value b_is_value
  cases j
  · iterate 6 ((try simp only [nameOf, e1, e2, e3, e4, truthD]); walk_at "ev")
  · iterate 6 ((try simp only [nameOf, e1, e2, e3, e4, truthD]); walk_at "ev")
  · iterate 6 ((try simp only [nameOf, e1, e2, e3, e4, truthD]); walk_at "ev")
  · iterate 6 ((try simp only [nameOf, e1, e2, e3, e4, truthD]); walk_at "ev")
theorem kinds_it : dItems c_KINDS = some [.str "number", .str "truth", .str "text", .str "list"] := rfl
theorem kind_of {k : Kd} {v : D} (h : Vk k v) : ∃ δ, m_kind_of_value [v] = .ok (.str (nameOf k)) δ := by
  have e1 := isv h .n
  have e2 := isv h .t
  have e3 := isv h .s
  have e4 := isv h .l
  simp only [nameOf] at e1 e2 e3 e4
  unfold m_kind_of_value b_kind_of_value
  cases k
  · iterate 8 ((try simp only [kinds_it, mFor, b_kind_of_value_L1, nameOf, e1, e2, e3, e4, truthD, sameK]); walk_at "ev")
    exact ⟨_, rfl⟩
  · iterate 8 ((try simp only [kinds_it, mFor, b_kind_of_value_L1, nameOf, e1, e2, e3, e4, truthD, sameK]); walk_at "ev")
    exact ⟨_, rfl⟩
  · iterate 8 ((try simp only [kinds_it, mFor, b_kind_of_value_L1, nameOf, e1, e2, e3, e4, truthD, sameK]); walk_at "ev")
    exact ⟨_, rfl⟩
  · iterate 8 ((try simp only [kinds_it, mFor, b_kind_of_value_L1, nameOf, e1, e2, e3, e4, truthD, sameK]); walk_at "ev")
    exact ⟨_, rfl⟩
theorem some_kind {k : Kd} {v : D} (h : Vk k v) : m_is_of_some_kind [v] = .ok (.bool true) [] := by
  have e := lcS_map (j := 1) (it := mItems (mC c_KINDS)) (e := b_is_of_some_kind_E1) (δ := [.val v, .non]) (δ' := [.val v, .non]) (items := [.str "number", .str "truth", .str "text", .str "list"]) (fun d => match d with | .str s => .bool (if s = "number" then sameK .n k else if s = "truth" then sameK .t k else if s = "text" then sameK .s k else sameK .l k) | _ => .none) rfl (by simp) rfl (by decide) (fun x hx => by
    have e1 := isv h .n
    have e2 := isv h .t
    have e3 := isv h .s
    have e4 := isv h .l
    simp only [nameOf] at e1 e2 e3 e4
    unfold b_is_of_some_kind_E1
    simp only [List.mem_cons, List.not_mem_nil, or_false] at hx
    rcases hx with rfl | rfl | rfl | rfl
    · iterate 2 ((try simp only [e1]); walk_at "ev")
    · iterate 2 ((try simp only [e2]); walk_at "ev")
      rfl
    · iterate 2 ((try simp only [e3]); walk_at "ev")
      rfl
    · iterate 2 ((try simp only [e4]); walk_at "ev")
      rfl)
  unfold m_is_of_some_kind b_is_of_some_kind
  walk_at "ev"
  rw [e]
  walk_at "ev"
  cases k <;> rfl
end K07
end Part_SC

section Part_SD
set_option Elab.async false
set_option linter.all false
set_option maxRecDepth 100000
set_option autoImplicit false
set_option maxHeartbeats 2000000
namespace K07
open PySem PySem.Spec PyProof.Rows L2 DL SX

/-! ### programs -/
def All2 (p : Kd → D → Prop) : List Kd → List D → Prop
  | [], [] => True
  | k :: ks, d :: ds => p k d ∧ All2 p ks ds
  | _, _ => False
theorem All2.mono {p q : Kd → D → Prop} (h : ∀ k d, p k d → q k d) : ∀ {ks : List Kd} {ds : List D}, All2 p ks ds → All2 q ks ds
  | [], [], _ => trivial
  | _ :: _, _ :: _, z => ⟨h _ _ z.1, All2.mono h z.2⟩
theorem All2.len {p : Kd → D → Prop} : ∀ {ks : List Kd} {ds : List D}, All2 p ks ds → ks.length = ds.length
  | [], [], _ => rfl
  | _ :: _, _ :: _, z => by rw [List.length_cons, List.length_cons, All2.len z.2]
theorem All2.mem {p : Kd → D → Prop} : ∀ {ks : List Kd} {ds : List D} {d : D}, All2 p ks ds → d ∈ ds → ∃ k, p k d
  | _ :: _, x :: _, d, z, h => by
    rcases List.mem_cons.mp h with rfl | h
    · exact ⟨_, z.1⟩
    · exact All2.mem z.2 h
  | [], [], d, _, h => nomatch h
inductive GP1 (ks : List Kd) (p : Kd → D → Prop) : Kd → D → Prop
  | inp {i : Nat} {k : Kd} (h : ks[i]? = some k) : GP1 ks p k (.tuple [.str "input", .int i])
  | con {k : Kd} {v : D} (h : Vk k v) : GP1 ks p k (.tuple [.str "constant", v])
  | app {r : Str × Str × Str} {as : List D} {k : Kd} (hr : r ∈ LIB) (hk : r.2.2 = letter k) (ha : All2 p (kdsOf r.2.1) as) : GP1 ks p k (.tuple (.str r.1 :: as))
/-- a program of a kind, not deeper than n -/
def GP (ks : List Kd) : Nat → Kd → D → Prop
  | 0 => fun _ _ => False
  | n + 1 => GP1 ks (GP ks n)
theorem GP.succ {ks : List Kd} : ∀ {n : Nat} {k : Kd} {d : D}, GP ks n k d → GP ks (n + 1) k d
  | n + 1, k, d, h => by
    cases h with
    | inp h => exact .inp h
    | con h => exact .con h
    | app hr hk ha => exact .app hr hk (ha.mono fun _ _ z => GP.succ z)
theorem GP.le {ks : List Kd} {n m : Nat} {k : Kd} {d : D} (h : GP ks n k d) (hl : n ≤ m) : GP ks m k d := by
  obtain ⟨j, rfl⟩ : ∃ j, m = n + j := ⟨m - n, by omega⟩
  clear hl
  induction j with
  | zero => exact h
  | succ j ih => exact ih.succ
def leafS (s : Str) : Bool := s == "input" || s == "constant"
def leafD : D → Bool
  | .tuple (.str s :: _) => leafS s
  | _ => true
def argsD : D → List D
  | .tuple (.str s :: as) => if leafS s then [] else as
  | _ => []
def symD (d : D) : D := match d with
  | .tuple (.str s :: _) => if leafS s then d else .str s
  | _ => d
theorem leaf_i : leafS "input" = true := by kernel_rfl
theorem leaf_c : leafS "constant" = true := by kernel_rfl
theorem f_leaf : ∀ r ∈ LIB, leafS r.1 = false := all_of (g := fun _ : Str × Str × Str => false) (by kernel_rfl)
def partsN : Nat → D → List D
  | 0, _ => []
  | n + 1, d => d :: (argsD d).flatMap (partsN n)
def depN : Nat → D → Int
  | 0, _ => 0
  | n + 1, d => match (argsD d).map (depN n) with
    | [] => 1
    | a :: as => 1 + as.foldl max a
theorem sym_i {v : D} : symD (.tuple [.str "input", v]) = .tuple [.str "input", v] := by show (if leafS "input" = true then (PyData.tuple [.str "input", v]) else .str "input") = _; rw [leaf_i]; rfl
theorem sym_c {v : D} : symD (.tuple [.str "constant", v]) = .tuple [.str "constant", v] := by show (if leafS "constant" = true then (PyData.tuple [.str "constant", v]) else .str "constant") = _; rw [leaf_c]; rfl
theorem sym_a {r : Str × Str × Str} (hr : r ∈ LIB) {as : List D} : symD (.tuple (.str r.1 :: as)) = .str r.1 := by show (if leafS r.1 = true then (PyData.tuple (.str r.1 :: as)) else .str r.1) = _; rw [f_leaf r hr]; rfl
theorem args_i {v : D} : argsD (.tuple [.str "input", v]) = [] := by show (if leafS "input" = true then [] else [v]) = _; rw [leaf_i]; rfl
theorem args_c {v : D} : argsD (.tuple [.str "constant", v]) = [] := by show (if leafS "constant" = true then [] else [v]) = _; rw [leaf_c]; rfl
theorem args_a {r : Str × Str × Str} (hr : r ∈ LIB) {as : List D} : argsD (.tuple (.str r.1 :: as)) = as := by show (if leafS r.1 = true then [] else as) = _; rw [f_leaf r hr]; rfl
theorem GP.args {ks : List Kd} {n : Nat} {k : Kd} {d : D} (h : GP ks (n + 1) k d) : ∀ a ∈ argsD d, ∃ k', GP ks n k' a := by
  cases h with
  | inp h => rw [args_i]; exact fun a z => nomatch z
  | con h => rw [args_c]; exact fun a z => nomatch z
  | app hr hk ha => rw [args_a hr]; exact fun a z => ha.mem z
theorem flat_congr {α β : Type} {f g : α → List β} : ∀ {l : List α}, (∀ x ∈ l, f x = g x) → l.flatMap f = l.flatMap g
  | [], _ => rfl
  | x :: l, h => by rw [List.flatMap_cons, List.flatMap_cons, h x List.mem_cons_self, flat_congr fun y hy => h y (List.mem_cons_of_mem _ hy)]
theorem parts_more {ks : List Kd} (m : Nat) : ∀ {n : Nat} {k : Kd} {d : D}, GP ks n k d → partsN (n + m) d = partsN n d
  | n + 1, k, d, h => by
    rw [show n + 1 + m = (n + m) + 1 by omega]
    show d :: _ = d :: _
    rw [flat_congr fun a ha => by
      obtain ⟨k', h'⟩ := h.args a ha
      exact parts_more m h']
theorem dep_more {ks : List Kd} (m : Nat) : ∀ {n : Nat} {k : Kd} {d : D}, GP ks n k d → depN (n + m) d = depN n d
  | n + 1, k, d, h => by
    rw [show n + 1 + m = (n + m) + 1 by omega]
    have e : (argsD d).map (depN (n + m)) = (argsD d).map (depN n) := List.map_congr_left fun a ha => by
      obtain ⟨k', h'⟩ := h.args a ha
      exact dep_more m h'
    unfold depN
    rw [e]
def P (d : D) : List D := partsN 50 d
def Dp (d : D) : Int := depN 50 d
/-- a program -/
def Gd (ks : List Kd) (d : D) : Prop := ∃ k, GP ks 50 k d
section
variable {ks : List Kd} {d : D}
theorem Gd.args (h : Gd ks d) : ∀ a ∈ argsD d, Gd ks a ∧ partsN 49 a = P a ∧ depN 49 a = Dp a := fun a ha => by
  obtain ⟨k, h⟩ := h
  obtain ⟨k', h'⟩ := GP.args (n := 49) h a ha
  exact ⟨⟨k', h'.succ⟩, (parts_more 1 h').symm, (dep_more 1 h').symm⟩
theorem P_eq (h : Gd ks d) : P d = d :: (argsD d).flatMap P := by
  show d :: (argsD d).flatMap (partsN 49) = _
  rw [flat_congr fun a ha => (h.args a ha).2.1]
theorem Dp_eq (h : Gd ks d) : Dp d = match (argsD d).map Dp with
    | [] => 1
    | a :: as => 1 + as.foldl max a := by
  have e : (argsD d).map (depN 49) = (argsD d).map Dp := List.map_congr_left fun a ha => (h.args a ha).2.2
  show (match (argsD d).map (depN 49) with | [] => 1 | a :: as => 1 + as.foldl max a) = _
  rw [e]
theorem foldl_le : ∀ (l : List Int) (a b : Int), l.foldl max a ≤ b ↔ a ≤ b ∧ ∀ x ∈ l, x ≤ b
  | [], a, b => by simp
  | y :: l, a, b => by
    rw [List.foldl_cons, foldl_le l]
    constructor
    · rintro ⟨h1, h2⟩
      refine ⟨by omega, fun x hx => ?_⟩
      rcases List.mem_cons.mp hx with rfl | hx
      · omega
      · exact h2 x hx
    · rintro ⟨h1, h2⟩
      have := h2 y List.mem_cons_self
      exact ⟨by omega, fun x hx => h2 x (List.mem_cons_of_mem _ hx)⟩
theorem Dp_le (h : Gd ks d) (h1 : ∀ a ∈ argsD d, 1 ≤ Dp a) (b : Int) : Dp d ≤ b ↔ 1 ≤ b ∧ ∀ a ∈ argsD d, 1 + Dp a ≤ b := by
  rw [Dp_eq h]
  cases q : argsD d with
  | nil => simp
  | cons a as =>
    rw [q] at h1
    show 1 + (as.map Dp).foldl max (Dp a) ≤ b ↔ _
    have z := foldl_le (as.map Dp) (Dp a) (b - 1)
    constructor
    · intro h
      obtain ⟨z1, z2⟩ := z.mp (by omega)
      have := h1 a List.mem_cons_self
      refine ⟨by omega, fun x hx => ?_⟩
      rcases List.mem_cons.mp hx with rfl | hx
      · omega
      · have := z2 (Dp x) (List.mem_map.mpr ⟨x, hx, rfl⟩)
        omega
    · rintro ⟨h1, h2⟩
      have := z.mpr ⟨by have := h2 a List.mem_cons_self; omega, fun x hx => by
        obtain ⟨y, hy, rfl⟩ := List.mem_map.mp hx
        have := h2 y (List.mem_cons_of_mem _ hy)
        omega⟩
      omega
end
theorem dep_pos {ks : List Kd} : ∀ {n : Nat} {k : Kd} {d : D}, GP ks n k d → n ≤ 50 → 1 ≤ Dp d
  | n + 1, k, d, h, hn => by
    have g : Gd ks d := ⟨k, h.le hn⟩
    rw [Dp_eq g]
    cases q : argsD d with
    | nil => exact Int.le_refl _
    | cons a as =>
      obtain ⟨k', h'⟩ := h.args a (by rw [q]; exact List.mem_cons_self)
      have z := dep_pos h' (by omega)
      have := (foldl_max_le (as.map Dp) (Dp a)).1
      show 1 ≤ 1 + (as.map Dp).foldl max (Dp a)
      omega
theorem Gd.pos {ks : List Kd} {d : D} (h : Gd ks d) : 1 ≤ Dp d := by
  obtain ⟨k, h⟩ := h
  exact dep_pos h (Nat.le_refl _)
theorem dep_max {ks : List Kd} : ∀ {n : Nat} {k : Kd} {d : D}, GP ks n k d → n ≤ 50 → Dp d ≤ n
  | n + 1, k, d, h, hn => by
    have g : Gd ks d := ⟨k, h.le hn⟩
    refine (Dp_le g (fun a ha => (g.args a ha).1.pos) _).mpr ⟨by omega, fun a ha => ?_⟩
    obtain ⟨k', h'⟩ := h.args a ha
    have := dep_max h' (by omega)
    omega
theorem flat_len {α : Type} {f : D → List α} {b : Nat} : ∀ {l : List D}, (∀ x ∈ l, (f x).length ≤ b) → (l.flatMap f).length ≤ l.length * b
  | [], _ => by simp
  | x :: l, h => by
    rw [List.flatMap_cons, List.length_append, List.length_cons, Nat.succ_mul]
    have h1 := h x List.mem_cons_self
    have h2 := flat_len (f := f) (b := b) (l := l) fun y hy => h y (List.mem_cons_of_mem _ hy)
    omega
theorem parts_few {ks : List Kd} : ∀ {n : Nat} {k : Kd} {d : D}, GP ks n k d → (partsN n d).length ≤ 4 ^ n
  | n + 1, k, d, h => by
    have ha : (argsD d).length ≤ 3 := by
      cases h with
      | inp h => rw [args_i]; decide
      | con h => rw [args_c]; decide
      | @app r as k hr hk ha =>
        rw [args_a hr, ← ha.len]
        have z := f_pos r hr
        rw [Bool.and_eq_true] at z
        exact of_decide_eq_true z.2
    have z := flat_len (f := partsN n) (b := 4 ^ n) (l := argsD d) fun a hx => by
      obtain ⟨k', h'⟩ := h.args a hx
      exact parts_few h'
    show (d :: (argsD d).flatMap (partsN n)).length ≤ 4 ^ (n + 1)
    rw [List.length_cons, Nat.pow_succ]
    have : (argsD d).length * 4 ^ n ≤ 3 * 4 ^ n := Nat.mul_le_mul_right _ ha
    have : 1 ≤ 4 ^ n := Nat.one_le_pow _ _ (by decide)
    omega
theorem P_few {ks : List Kd} {n : Nat} {k : Kd} {d : D} (h : GP ks n k d) (hn : n ≤ 50) : (P d).length ≤ 4 ^ n := by
  have e : P d = partsN n d := by
    have := parts_more (50 - n) h
    rw [show n + (50 - n) = 50 by omega] at this
    exact this
  rw [e]
  exact parts_few h
/-! ### what is laid out -/
theorem lay_v {k : Kd} {x : D} (h : Vk k x) : x.canLay0 = true ∧ x.depth ≤ 1 := by
  cases h with
  | n h => exact ⟨rfl, Nat.zero_le _⟩
  | t b => exact ⟨rfl, Nat.zero_le _⟩
  | s h a =>
    rename_i l
    refine ⟨SeqAt.canLay_of_shaped (sh_S fun c hc => ?_), by show 0 ≤ 1; decide⟩
    have := a c hc
    unfold AL at this
    simp only [List.mem_cons, List.not_mem_nil, or_false] at this
    omega
  | l h a =>
    rename_i ns
    have z := sh_ints ns
    have z : (PyData.canLay0 (.tuple (ns.map .int)) && decide ((PyData.tuple (ns.map .int)).depth ≤ 64)) = true := z
    rw [Bool.and_eq_true] at z
    refine ⟨z.1, ?_⟩
    have q : ∀ ns : List Int, PyData.depthAll (ns.map .int) = 0 := by
      intro ns
      induction ns with
      | nil => rfl
      | cons n ns ih => show max (PyData.depth (.int n)) (PyData.depthAll (ns.map .int)) = 0; rw [ih]; rfl
    show PyData.depthAll (ns.map .int) + 1 ≤ 1
    rw [q]
    decide
theorem lay_all : ∀ {ds : List D} {b : Nat}, (∀ d ∈ ds, d.canLay0 = true ∧ d.depth ≤ b) → PyData.canLayAll0 ds = true ∧ PyData.depthAll ds ≤ b
  | [], b, _ => ⟨rfl, Nat.zero_le _⟩
  | d :: ds, b, h => by
    obtain ⟨h1, h2⟩ := h d List.mem_cons_self
    obtain ⟨h3, h4⟩ := lay_all fun x hx => h x (List.mem_cons_of_mem _ hx)
    refine ⟨?_, ?_⟩
    · show (d.canLay0 && PyData.canLayAll0 ds) = true
      rw [h1, h3]; rfl
    · show max d.depth (PyData.depthAll ds) ≤ b
      omega
theorem lay_p {ks : List Kd} : ∀ {n : Nat} {k : Kd} {d : D}, GP ks n k d → d.canLay0 = true ∧ d.depth ≤ n + 1
  | n + 1, k, d, h => by
    cases h with
    | @inp i k h => exact ⟨by show (PyData.canLay0 (.str "input") && (PyData.canLay0 (.int i) && true)) = true; rw [show PyData.canLay0 (.str "input") = true from by kernel_rfl]; rfl, by show max 0 (max 0 0) + 1 ≤ _; omega⟩
    | @con k v h =>
      obtain ⟨h1, h2⟩ := lay_v h
      exact ⟨by show (PyData.canLay0 (.str "constant") && (v.canLay0 && true)) = true; rw [show PyData.canLay0 (.str "constant") = true from by kernel_rfl, h1]; rfl, by show max 0 (max v.depth 0) + 1 ≤ _; omega⟩
    | @app r as k hr hk ha =>
      obtain ⟨h1, h2⟩ := lay_all (ds := as) (b := n + 1) fun x hx => by
        obtain ⟨k', h'⟩ := ha.mem hx
        exact lay_p h'
      refine ⟨?_, ?_⟩
      · show (PyData.canLay0 (.str r.1) && PyData.canLayAll0 as) = true
        rw [f_lay r hr, h1]; rfl
      · show max 0 (PyData.depthAll as) + 1 ≤ _
        omega
theorem lay_g {ks : List Kd} {d : D} (h : Gd ks d) : d.canLay0 = true ∧ d.depth ≤ 51 := by
  obtain ⟨k, h⟩ := h
  exact lay_p h
theorem eq_self {d : D} (h1 : d.canLay0 = true) (h2 : d.depth ≤ 64) : dEq d d = some (.bool true) := by
  unfold dEq
  have s : SeqAt.shaped d = true := by
    show (d.canLay0 && decide (d.depth ≤ 64)) = true
    rw [h1, decide_eq_true h2]; rfl
  rw [s, SeqAt.eqv_refl_plain d (PyData.plain_of_canLay0 d h1)]
  rfl
theorem ne_self {d : D} (h1 : d.canLay0 = true) (h2 : d.depth ≤ 64) : dNe d d = some (.bool false) := by
  unfold dNe
  have s : SeqAt.shaped d = true := by
    show (d.canLay0 && decide (d.depth ≤ 64)) = true
    rw [h1, decide_eq_true h2]; rfl
  rw [s, SeqAt.eqv_refl_plain d (PyData.plain_of_canLay0 d h1)]
  rfl
theorem parts_gd {ks : List Kd} : ∀ {n : Nat} {k : Kd} {d : D}, GP ks n k d → n ≤ 50 → ∀ x ∈ P d, Gd ks x
  | n + 1, k, d, h, hn, x, hx => by
    have g : Gd ks d := ⟨k, h.le hn⟩
    rw [P_eq g] at hx
    rcases List.mem_cons.mp hx with rfl | hx
    · exact g
    · obtain ⟨a, ha, hx⟩ := List.mem_flatMap.mp hx
      obtain ⟨k', h'⟩ := h.args a ha
      exact parts_gd h' (by omega) x hx
theorem lay_P {ks : List Kd} {d : D} (h : Gd ks d) : PyData.canLay0 (.list (P d)) = true ∧ PyData.depth (.list (P d)) ≤ 64 := by
  obtain ⟨k, h⟩ := h
  obtain ⟨h1, h2⟩ := lay_all (ds := P d) (b := 51) fun x hx => lay_g (parts_gd h (Nat.le_refl _) x hx)
  exact ⟨h1, by show PyData.depthAll (P d) + 1 ≤ 64; omega⟩
theorem lay_sym {ks : List Kd} {d : D} (h : Gd ks d) : (symD d).canLay0 = true ∧ (symD d).depth ≤ 51 := by
  have g := lay_g h
  obtain ⟨k, h⟩ := h
  cases h with
  | inp h => rw [sym_i]; exact g
  | con h => rw [sym_c]; exact g
  | @app r as k hr hk ha => rw [sym_a hr]; exact ⟨f_lay r hr, Nat.zero_le _⟩
theorem lay_S {ks : List Kd} {d : D} (h : Gd ks d) : PyData.canLay0 (.list ((P d).map symD)) = true ∧ PyData.depth (.list ((P d).map symD)) ≤ 64 := by
  obtain ⟨k, h⟩ := h
  obtain ⟨h1, h2⟩ := lay_all (ds := (P d).map symD) (b := 51) fun x hx => by
    obtain ⟨y, hy, rfl⟩ := List.mem_map.mp hx
    exact lay_sym (parts_gd h (Nat.le_refl _) y hy)
  exact ⟨h1, by show PyData.depthAll ((P d).map symD) + 1 ≤ 64; omega⟩
end K07
end Part_SD

section Part_SE
set_option Elab.async false
set_option linter.all false
set_option maxRecDepth 100000
set_option autoImplicit false
set_option maxHeartbeats 2000000
namespace K07
open PySem PySem.Spec PyProof.Rows L2 DL SX

theorem at_z (x : D) (xs : List D) : atI (x :: xs) 0 = some x := by
  have := at_nat (x :: xs) 0
  exact this
theorem at_o (x y : D) (xs : List D) : atI (x :: y :: xs) 1 = some y := by
  have := at_nat (x :: y :: xs) 1
  exact this
theorem sl_tail (x : D) (xs : List D) : dSl (.tuple (x :: xs)) (some 1) none = some (.tuple xs) := by
  show some (PyData.tuple (cutL (x :: xs) (some 1) none)) = _
  unfold cutL
  have e1 : HT.sIx (x :: xs).length 0 (some 1) = 1 := by
    have := HT.sIx_nat (x :: xs).length 0 1
    rw [List.length_cons] at this ⊢
    exact this.trans (by omega)
  rw [e1]
  show some (PyData.tuple (((x :: xs).drop 1).take ((x :: xs).length - 1))) = _
  rw [List.drop_succ_cons, List.drop_zero, List.take_of_length_le (by rw [List.length_cons]; omega)]
theorem tup_n {xs : List D} (h : xs.length ≤ 16777216) : dTup xs = some (.tuple xs) := if_pos h
theorem tup_0 : dTup [] = some (.tuple []) := rfl
theorem tup_1 (a : D) : dTup [a] = some (.tuple [a]) := rfl
theorem tup_2 (a b : D) : dTup [a, b] = some (.tuple [a, b]) := rfl
theorem tup_3 (a b c : D) : dTup [a, b, c] = some (.tuple [a, b, c]) := rfl
theorem rev_t (xs : List D) : dRev (.tuple xs) = some (.tuple xs.reverse) := rfl
theorem rev_l (xs : List D) : dRev (.list xs) = some (.list xs.reverse) := rfl
theorem pop_at {i : Nat} {δ : Dl} {b : Bool} {w : List D} {x : D} (h : δ[i]? = some (.var b (w ++ [x]))) : mPop i δ = .ok x (δ.set i (.var b w)) := by
  have e : (w ++ [x])[(w ++ [x]).length - 1]? = some x := by
    rw [List.length_append, List.length_singleton, Nat.add_sub_cancel, List.getElem?_append_right (Nat.le_refl _), Nat.sub_self]; rfl
  unfold mPop
  simp only [h, e, List.dropLast_concat]
theorem trM_t {i : Nat} {δ : Dl} {b : Bool} {w : List D} {x : D} (h : δ[i]? = some (.var b (w ++ [x]))) : mTrM i δ = .ok true δ := by
  unfold mTrM
  simp only [h]
  cases w <;> rfl
theorem trM_f {i : Nat} {δ : Dl} {b : Bool} (h : δ[i]? = some (.var b [])) : mTrM i δ = .ok false δ := by
  unfold mTrM
  simp only [h]
  rfl
theorem ext_at {i : Nat} {δ δ1 : Dl} {a : M D} {d : D} {b b0 : Bool} {ds ds0 zs : List D} (h0 : δ[i]? = some (.var b0 ds0)) (h1 : a δ = .ok d δ1) (h : δ1[i]? = some (.var b ds)) (hz : seqD d = some zs) (hl : ds.length + zs.length ≤ 16777216) : mExt i a δ = .ok .nx (δ1.set i (.var b (ds ++ zs))) := by
  unfold mExt
  simp only [h0, h1, bind_ok, h, hz]
  exact if_pos hl
theorem app_at {i : Nat} {δ δ1 : Dl} {a : M D} {d : D} {b b0 : Bool} {ds ds0 : List D} (h0 : δ[i]? = some (.var b0 ds0)) (h1 : a δ = .ok d δ1) (h : δ1[i]? = some (.var b ds)) (hl : ds.length < 16777216) : mApp i a δ = .ok .nx (δ1.set i (.var b (ds ++ [d]))) := by
  unfold mApp
  simp only [h0, h1, bind_ok, h]
  exact if_pos hl
theorem rng1_at (n : Nat) : rng 1 (n + 1 : Int) = (List.range n).map fun k => PyData.int (1 + (k : Nat) : Int) := by
  unfold rng
  rw [show ((n : Int) + 1 - 1).toNat = n by omega]
local macro_rules | `(tactic| walk_at "ev") => `(tactic| try simp -implicitDefEqProofs only [mDef, mSeq, mIf, mT, mTr, mOp, mUn, mVar, mC, mCall, mCons, mNil, mRet, mSkip, mAsg, mSl, mPart, mNoPart, mAndT, mOrT, mNotT, mAnd, mOr, mNot, mIfE, mChain, mIs, mIs2, mOf, mNew, mCallF, mM1, mM0, mIxM, mLenM, mApp, mSetM, mSetIx, mAug, mFrz, mForS, mRng1, mRng2, mItems, setV_zn, setV_zv, setV_zo, setV_succ, setM, frz, setT2, mBk, mCt, mNo, 
  DL.bind_ok, DL.bind_no, DL.bind_ite, lift_some, lift_none, List.map_cons, List.map_nil, List.length_cons, List.length_nil, List.replicate_succ, List.replicate_zero, List.cons_append, List.nil_append, List.append_nil, List.getElem?_cons_zero, List.getElem?_cons_succ, List.set_cons_zero, List.set_cons_succ, Nat.reduceAdd, Nat.reduceSub, Nat.zero_add, Nat.sub_self, decide_eq_true_eq,
  add_ii, sub_ii, neg_i, mul_r, mul_l, div_s, mod_s, eq_ii, ne_ii, eq_bb, ne_bb, lt_ii, gt_ii, le_ii, ge_ii, len_l, len_t, int_i, int_b, abs_i, max_ii, min_ii, tuple_l, ix_l, ix_t, tr_b, Nat.reduceLeDiff, if_true, if_false, Option.map_some, Option.bind_some, reduceIte, Int.reduceLT, Int.reduceNeg, Int.reduceMul, Nat.reduceLT, Nat.le_refl, LINE, Bool.false_eq_true, Bool.not_true, Bool.not_false, Bool.true_eq_false, R.bind_ex, Int.reduceEq, e_number_number, e_number_truth, e_number_text, e_number_list, e_truth_number, e_truth_truth, e_truth_text, e_truth_list, e_text_number, e_text_truth, e_text_text, e_text_list, e_list_number, e_list_truth, e_list_text, e_list_list, is_bool_n, is_bool_t, is_bool_s, is_bool_l, is_int_n, is_int_t, is_int_s, is_int_l, is_str_n, is_str_t, is_str_s, is_str_l, is_tuple_n, is_tuple_t, is_tuple_s, is_tuple_l, at_z, at_o, sl_tail, tup_0, tup_1, tup_2, tup_3, rev_t, rev_l])
local macro_rules | `(tactic| walk_at "ev*") => `(tactic| try simp -implicitDefEqProofs only [mDef, mSeq, mIf, mT, mTr, mOp, mUn, mVar, mC, mCall, mCons, mNil, mRet, mSkip, mAsg, mSl, mPart, mNoPart, mAndT, mOrT, mNotT, mAnd, mOr, mNot, mIfE, mChain, mIs, mIs2, mOf, mNew, mCallF, mM1, mM0, mIxM, mLenM, mApp, mSetM, mSetIx, mAug, mFrz, mForS, mRng1, mRng2, mItems, setV_zn, setV_zv, setV_zo, setV_succ, setM, frz, setT2, mBk, mCt, mNo, 
  DL.bind_ok, DL.bind_no, DL.bind_ite, lift_some, lift_none, List.map_cons, List.map_nil, List.length_cons, List.length_nil, List.replicate_succ, List.replicate_zero, List.cons_append, List.nil_append, List.append_nil, List.getElem?_cons_zero, List.getElem?_cons_succ, List.set_cons_zero, List.set_cons_succ, Nat.reduceAdd, Nat.reduceSub, Nat.zero_add, Nat.sub_self, decide_eq_true_eq,
  add_ii, sub_ii, neg_i, mul_r, mul_l, div_s, mod_s, eq_ii, ne_ii, eq_bb, ne_bb, lt_ii, gt_ii, le_ii, ge_ii, len_l, len_t, int_i, int_b, abs_i, max_ii, min_ii, tuple_l, ix_l, ix_t, tr_b, Nat.reduceLeDiff, if_true, if_false, Option.map_some, Option.bind_some, reduceIte, Int.reduceLT, Int.reduceNeg, Int.reduceMul, Nat.reduceLT, Nat.le_refl, LINE, Bool.false_eq_true, Bool.not_true, Bool.not_false, Bool.true_eq_false, R.bind_ex, Int.reduceEq, e_number_number, e_number_truth, e_number_text, e_number_list, e_truth_number, e_truth_truth, e_truth_text, e_truth_list, e_text_number, e_text_truth, e_text_text, e_text_list, e_list_number, e_list_truth, e_list_text, e_list_list, is_bool_n, is_bool_t, is_bool_s, is_bool_l, is_int_n, is_int_t, is_int_s, is_int_l, is_str_n, is_str_t, is_str_s, is_str_l, is_tuple_n, is_tuple_t, is_tuple_s, is_tuple_l, at_z, at_o, sl_tail, tup_0, tup_1, tup_2, tup_3, rev_t, rev_l, *])
/-! ### small ones -/
theorem is_leaf_eq {ks : List Kd} {p : Kd → D → Prop} {k : Kd} {d : D} (h : GP1 ks p k d) : m_is_leaf [d] = .ok (.bool (leafD d)) [] := by
  unfold m_is_leaf b_is_leaf
  cases h with
  | inp h =>
    iterate 3 ((try simp only [i_inp, truthD]); walk_at "ev")
    show R.ok (PyData.bool true) [] = .ok (.bool (leafS "input")) []
    rw [leaf_i]
  | con h =>
    iterate 3 ((try simp only [c_inp, c_con, truthD]); walk_at "ev")
    show R.ok (PyData.bool true) [] = .ok (.bool (leafS "constant")) []
    rw [leaf_c]
  | app hr hk ha =>
    have e1 := f_inp _ hr
    have e2 := f_con _ hr
    iterate 3 ((try simp only [e1, e2, truthD]); walk_at "ev")
    show R.ok (PyData.bool false) [] = .ok (.bool (leafS _)) []
    rw [f_leaf _ hr]
/-! ### the law's own walk -/
theorem b1 : big 1 = true := by decide
theorem law_parts_eq {ks : List Kd} : ∀ {n : Nat} {k : Kd} {d : D}, GP ks n k d → n ≤ 50 → ∀ {m : Nat}, n ≤ m → (P d).length ≤ 16777216 → m__law_parts_n m [d] = .ok (.list (P d)) []
  | n + 1, k, d, h, hn, m, hm, hl => by
    have g : Gd ks d := ⟨k, h.le hn⟩
    obtain ⟨m, rfl⟩ : ∃ m', m = m' + 1 := ⟨m - 1, by omega⟩
    show mDef 3 (b__law_parts (m__law_parts_n m)) [d] = _
    unfold b__law_parts
    have pe := P_eq g
    cases h with
    | @inp i k h =>
      have e2 := i_in2
      rw [args_i] at pe
      iterate 4 ((try simp only [e2, truthD]); walk_at "ev")
      rw [pe]
      rfl
    | @con k v h =>
      have e2 := c_in2
      rw [args_c] at pe
      iterate 4 ((try simp only [e2, truthD]); walk_at "ev")
      rw [pe]
      rfl
    | @app r as k hr hk ha =>
      have e2 := f_in2 r hr
      rw [args_a hr] at pe
      rw [pe] at hl ⊢
      rw [List.length_cons] at hl
      obtain ⟨δ', e4, o, rfl⟩ := mFor_inv (g := setV 2) (body := b__law_parts_L1 (m__law_parts_n m)) (items := rng 1 (as.length + 1 : Int)) (fun i δ => ∃ o, δ = [.val (.tuple (.str r.1 :: as)), .val (.list (.tuple (.str r.1 :: as) :: (as.take i).flatMap P)), cO o]) (fun i x δ hx I => by
        obtain ⟨o, rfl⟩ := I
        obtain ⟨rfl, hi⟩ := rng_at hx
        have hi : i < as.length := by omega
        refine ⟨_, by walk_at "ev"; rfl, ?_⟩
        obtain ⟨k', h'⟩ := ha.mem (List.getElem_mem hi)
        have e5 : atI (PyData.str r.1 :: as) (1 + (i : Int)) = some as[i] := by
          have := at_nat (PyData.str r.1 :: as) (i + 1)
          rw [show ((i + 1 : Nat) : Int) = 1 + (i : Int) by omega] at this
          rw [this, List.getElem?_cons_succ, List.getElem?_eq_getElem hi]
        have hsub : (as.take (i + 1)).flatMap P = (as.take i).flatMap P ++ P as[i] := by
          rw [List.take_succ_eq_append_getElem hi, List.flatMap_append]
          simp
        have hle : ((as.take (i + 1)).flatMap P).length ≤ (as.flatMap P).length := by
          have : as.flatMap P = (as.take (i + 1)).flatMap P ++ (as.drop (i + 1)).flatMap P := by rw [← List.flatMap_append, List.take_append_drop]
          rw [this, List.length_append]
          omega
        rw [hsub, List.length_append] at hle
        have e6 := law_parts_eq h' (by omega) (m := m) (by omega) (by omega)
        have e7 : dAdd (.list (.tuple (.str r.1 :: as) :: (as.take i).flatMap P)) (.list (P as[i])) = some (.list (.tuple (.str r.1 :: as) :: (as.take (i + 1)).flatMap P)) := by
          show (if _ then _ else _) = _
          rw [if_pos (by rw [List.length_cons]; show _ ≤ 16777216; omega), hsub]
          rfl
        unfold b__law_parts_L1
        iterate 4 ((try simp only [e5, e6, e7]); walk_at "ev")
        exact ⟨_, rfl, some _, rfl⟩) (δ := [.val (.tuple (.str r.1 :: as)), .val (.list [.tuple (.str r.1 :: as)]), .non]) ⟨none, by simp [cO]⟩
      rw [rng_len] at e4
      have e8 : (as.take (as.length + 1 - 1 : Int).toNat) = as := by rw [show ((as.length : Int) + 1 - 1).toNat = as.length by omega, List.take_length]
      rw [e8] at e4
      iterate 5 ((try simp only [e2, truthD]); walk_at "ev")
      have b2 : big ((as.length : Int) + 1) = true := big_of (by omega) (by
        have : as.length ≤ 3 := by
          rw [← ha.len]
          have z := f_pos r hr
          rw [Bool.and_eq_true] at z
          exact of_decide_eq_true z.2
        omega)
      rw [show (((as.length + 1 : Nat) : Int)) = (as.length : Int) + 1 by omega]
      iterate 3 ((try simp only [b1, b2, e4, Bool.and_self]); walk_at "ev")
end K07
end Part_SE

section Part_SF
set_option Elab.async false
set_option linter.all false
set_option maxRecDepth 100000
set_option autoImplicit false
set_option maxHeartbeats 2000000
namespace K07
open PySem PySem.Spec PyProof.Rows L2 DL SX
local macro_rules | `(tactic| walk_at "ev") => `(tactic| try simp -implicitDefEqProofs only [mDef, mSeq, mIf, mT, mTr, mOp, mUn, mVar, mC, mCall, mCons, mNil, mRet, mSkip, mAsg, mSl, mPart, mNoPart, mAndT, mOrT, mNotT, mAnd, mOr, mNot, mIfE, mChain, mIs, mIs2, mOf, mNew, mCallF, mM1, mM0, mIxM, mLenM, mApp, mSetM, mSetIx, mAug, mFrz, mForS, mRng1, mRng2, mItems, setV_zn, setV_zv, setV_zo, setV_succ, setM, frz, setT2, mBk, mCt, mNo, 
  DL.bind_ok, DL.bind_no, DL.bind_ite, lift_some, lift_none, List.map_cons, List.map_nil, List.length_cons, List.length_nil, List.replicate_succ, List.replicate_zero, List.cons_append, List.nil_append, List.append_nil, List.getElem?_cons_zero, List.getElem?_cons_succ, List.set_cons_zero, List.set_cons_succ, Nat.reduceAdd, Nat.reduceSub, Nat.zero_add, Nat.sub_self, decide_eq_true_eq,
  add_ii, sub_ii, neg_i, mul_r, mul_l, div_s, mod_s, eq_ii, ne_ii, eq_bb, ne_bb, lt_ii, gt_ii, le_ii, ge_ii, len_l, len_t, int_i, int_b, abs_i, max_ii, min_ii, tuple_l, ix_l, ix_t, tr_b, Nat.reduceLeDiff, if_true, if_false, Option.map_some, Option.bind_some, reduceIte, Int.reduceLT, Int.reduceNeg, Int.reduceMul, Nat.reduceLT, Nat.le_refl, LINE, Bool.false_eq_true, Bool.not_true, Bool.not_false, Bool.true_eq_false, R.bind_ex, Int.reduceEq, e_number_number, e_number_truth, e_number_text, e_number_list, e_truth_number, e_truth_truth, e_truth_text, e_truth_list, e_text_number, e_text_truth, e_text_text, e_text_list, e_list_number, e_list_truth, e_list_text, e_list_list, is_bool_n, is_bool_t, is_bool_s, is_bool_l, is_int_n, is_int_t, is_int_s, is_int_l, is_str_n, is_str_t, is_str_s, is_str_l, is_tuple_n, is_tuple_t, is_tuple_s, is_tuple_l, at_z, at_o, sl_tail, tup_0, tup_1, tup_2, tup_3, rev_t, rev_l, len_l])
local macro_rules | `(tactic| walk_at "ev*") => `(tactic| try simp -implicitDefEqProofs only [mDef, mSeq, mIf, mT, mTr, mOp, mUn, mVar, mC, mCall, mCons, mNil, mRet, mSkip, mAsg, mSl, mPart, mNoPart, mAndT, mOrT, mNotT, mAnd, mOr, mNot, mIfE, mChain, mIs, mIs2, mOf, mNew, mCallF, mM1, mM0, mIxM, mLenM, mApp, mSetM, mSetIx, mAug, mFrz, mForS, mRng1, mRng2, mItems, setV_zn, setV_zv, setV_zo, setV_succ, setM, frz, setT2, mBk, mCt, mNo, 
  DL.bind_ok, DL.bind_no, DL.bind_ite, lift_some, lift_none, List.map_cons, List.map_nil, List.length_cons, List.length_nil, List.replicate_succ, List.replicate_zero, List.cons_append, List.nil_append, List.append_nil, List.getElem?_cons_zero, List.getElem?_cons_succ, List.set_cons_zero, List.set_cons_succ, Nat.reduceAdd, Nat.reduceSub, Nat.zero_add, Nat.sub_self, decide_eq_true_eq,
  add_ii, sub_ii, neg_i, mul_r, mul_l, div_s, mod_s, eq_ii, ne_ii, eq_bb, ne_bb, lt_ii, gt_ii, le_ii, ge_ii, len_l, len_t, int_i, int_b, abs_i, max_ii, min_ii, tuple_l, ix_l, ix_t, tr_b, Nat.reduceLeDiff, if_true, if_false, Option.map_some, Option.bind_some, reduceIte, Int.reduceLT, Int.reduceNeg, Int.reduceMul, Nat.reduceLT, Nat.le_refl, LINE, Bool.false_eq_true, Bool.not_true, Bool.not_false, Bool.true_eq_false, R.bind_ex, Int.reduceEq, e_number_number, e_number_truth, e_number_text, e_number_list, e_truth_number, e_truth_truth, e_truth_text, e_truth_list, e_text_number, e_text_truth, e_text_text, e_text_list, e_list_number, e_list_truth, e_list_text, e_list_list, is_bool_n, is_bool_t, is_bool_s, is_bool_l, is_int_n, is_int_t, is_int_s, is_int_l, is_str_n, is_str_t, is_str_s, is_str_l, is_tuple_n, is_tuple_t, is_tuple_s, is_tuple_l, at_z, at_o, sl_tail, tup_0, tup_1, tup_2, tup_3, rev_t, rev_l, len_l, *])
theorem seq_ok {a b : M Fl} {δ δ1 : Dl} (h : a δ = .ok .nx δ1) : mSeq a b δ = b δ1 := by
  unfold mSeq
  rw [h]
  rfl
theorem noOwn_set {δ : Dl} (h : noOwn δ = true) {j : Nat} {c : Cell} (hc : c.isOwn = false) : noOwn (δ.set j c) = true := by
  refine List.all_eq_true.mpr fun x hx => ?_
  rcases List.mem_or_eq_of_mem_set hx with hx | rfl
  · exact List.all_eq_true.mp h x hx
  · rw [hc]; rfl
theorem setV_wiped {δ : Dl} {j : Nat} {x : D} (hj : j < δ.length) : setV j x (δ.set j .non) = some (δ.set j (.val x)) := by
  unfold setV
  rw [List.getElem?_set_self hj]
  show some ((δ.set j .non).set j (.val x)) = _
  rw [List.set_set]
theorem mLcB_pure {j : Nat} {t : M Bool} {e : M D} {δ : Dl} (hj : j < δ.length) (hn : noOwn δ = true) (p : D → Bool) (f : D → D) : ∀ (items : List D), (∀ x ∈ items, t (δ.set j (.val x)) = .ok (p x) (δ.set j (.val x)) ∧ (p x = true → e (δ.set j (.val x)) = .ok (f x) (δ.set j (.val x)))) →
    ∀ δ0 : Dl, δ0.set j .non = δ.set j .non → ∃ δ1 : Dl, mLcB [j] (setV j) t e items δ0 = .ok ((items.filter p).map f) δ1 ∧ δ1.set j .non = δ.set j .non
  | [], _, δ0, h1 => ⟨δ0, rfl, h1⟩
  | x :: xs, he, δ0, h1 => by
    obtain ⟨ht, hx⟩ := he x List.mem_cons_self
    have hs : wipeD δ0 [j] = δ.set j .non := h1
    have e1 : setV j x (wipeD δ0 [j]) = some (δ.set j (.val x)) := by
      rw [hs, setV_wiped hj]
    have e2 : (δ.set j (.val x)).set j .non = δ.set j .non := List.set_set _
    have nx : noOwn (δ.set j (.val x)) = true := noOwn_set hn rfl
    obtain ⟨δ1, ih1, ih2⟩ := mLcB_pure hj hn p f xs (fun y hy => he y (List.mem_cons_of_mem _ hy)) _ e2
    refine ⟨δ1, ?_, ih2⟩
    unfold mLcB
    rw [e1]
    simp only [ht, noex_ok, DL.bind_ok]
    cases hp : p x with
    | true =>
      rw [if_pos rfl]
      simp only [hx hp, noex_ok, DL.bind_ok, nx, if_true, ih1]
      rw [List.filter_cons_of_pos hp, List.map_cons]
    | false =>
      rw [if_neg Bool.false_ne_true, if_pos nx, ih1, List.filter_cons_of_neg (by rw [hp]; exact Bool.false_ne_true)]
theorem back_self {δ' δ1 : Dl} {j : Nat} (hj : j < δ'.length) (h2 : δ1.set j .non = δ'.set j .non) : backD δ' δ1 [j] = δ' := by
  show δ1.set j (δ'.getD j .non) = δ'
  have e0 : δ1.set j (δ'.getD j .non) = (δ1.set j .non).set j (δ'.getD j .non) := (List.set_set _).symm
  rw [e0, h2, List.set_set]
  apply List.ext_getElem?
  intro i
  by_cases q : j = i
  · subst q
    rw [List.getElem?_set_self hj, List.getElem?_eq_getElem hj]
    simp [List.getD, hj]
  · rw [List.getElem?_set_ne q]
theorem noMut1 {δ : Dl} {j : Nat} (h : (δ[j]?).map Cell.isVar = some false) : noMut δ [j] = true := by
  unfold noMut
  rw [List.all_cons, List.all_nil, Bool.and_true]
  cases q : δ[j]? with
  | none => rfl
  | some c =>
    rw [q] at h
    cases c with
    | var b ds => cases h
    | non => rfl
    | val d => rfl
theorem lcSB_pure {j : Nat} {it : M (List D)} {t : M Bool} {e : M D} {δ δ' : Dl} {items : List D} (p : D → Bool) (f : D → D) (hit : it δ = .ok items δ') (hv : (δ'[j]?).map Cell.isVar = some false) (hn : noOwn δ' = true) (hl : items.length ≤ 16777216)
    (he : ∀ x ∈ items, t (δ'.set j (.val x)) = .ok (p x) (δ'.set j (.val x)) ∧ (p x = true → e (δ'.set j (.val x)) = .ok (f x) (δ'.set j (.val x)))) :
    mLcSB [j] it (setV j) t e δ = .ok ((items.filter p).map f) δ' := by
  have hj : j < δ'.length := by
    rcases Nat.lt_or_ge j δ'.length with q | q
    · exact q
    · rw [List.getElem?_eq_none q] at hv; cases hv
  obtain ⟨δ1, h1, h2⟩ := mLcB_pure hj hn p f items he δ' rfl
  unfold mLcSB
  rw [hit, DL.bind_ok, hn, noMut1 hv, Bool.true_and, Bool.true_and, if_pos (decide_eq_true hl), h1, DL.bind_ok, back_self hj h2]
theorem lcSB_map {j : Nat} {it : M (List D)} {e : M D} {δ δ' : Dl} {items : List D} (f : D → D) (hit : it δ = .ok items δ') (hv : (δ'[j]?).map Cell.isVar = some false) (hn : noOwn δ' = true) (hl : items.length ≤ 16777216)
    (he : ∀ x ∈ items, e (δ'.set j (.val x)) = .ok (f x) (δ'.set j (.val x))) : mLcSB [j] it (setV j) mYes e δ = .ok (items.map f) δ' := by
  have h := lcSB_pure (t := mYes) (fun _ => true) f hit hv hn hl fun x hx => ⟨rfl, fun _ => he x hx⟩
  rw [filter_true] at h
  exact h
/-! ### parts -/
theorem flat_ge {ks : List Kd} : ∀ {s : List D}, (∀ x ∈ s, Gd ks x) → s.length ≤ (s.flatMap P).length
  | [], _ => Nat.le_refl _
  | x :: s, h => by
    have h1 := flat_ge (s := s) fun y hy => h y (List.mem_cons_of_mem _ hy)
    rw [List.flatMap_cons, List.length_append, P_eq (h x List.mem_cons_self), List.length_cons, List.length_cons]
    omega
end K07
end Part_SF

section Part_SG
set_option Elab.async false
set_option linter.all false
set_option maxRecDepth 100000
set_option autoImplicit false
set_option maxHeartbeats 2000000
namespace K07
open PySem PySem.Spec PyProof.Rows L2 DL SX
local macro_rules | `(tactic| walk_at "ev") => `(tactic| try simp -implicitDefEqProofs only [mDef, mSeq, mIf, mT, mTr, mOp, mUn, mVar, mC, mCall, mCons, mNil, mRet, mSkip, mAsg, mSl, mPart, mNoPart, mAndT, mOrT, mNotT, mAnd, mOr, mNot, mIfE, mChain, mIs, mIs2, mOf, mNew, mCallF, mM1, mM0, mIxM, mLenM, mApp, mSetM, mSetIx, mAug, mFrz, mForS, mRng1, mRng2, mItems, setV_zn, setV_zv, setV_zo, setV_succ, setM, frz, setT2, mBk, mCt, mNo, 
  DL.bind_ok, DL.bind_no, DL.bind_ite, lift_some, lift_none, List.map_cons, List.map_nil, List.length_cons, List.length_nil, List.replicate_succ, List.replicate_zero, List.cons_append, List.nil_append, List.append_nil, List.getElem?_cons_zero, List.getElem?_cons_succ, List.set_cons_zero, List.set_cons_succ, Nat.reduceAdd, Nat.reduceSub, Nat.zero_add, Nat.sub_self, decide_eq_true_eq,
  add_ii, sub_ii, neg_i, mul_r, mul_l, div_s, mod_s, eq_ii, ne_ii, eq_bb, ne_bb, lt_ii, gt_ii, le_ii, ge_ii, len_l, len_t, int_i, int_b, abs_i, max_ii, min_ii, tuple_l, ix_l, ix_t, tr_b, Nat.reduceLeDiff, if_true, if_false, Option.map_some, Option.bind_some, reduceIte, Int.reduceLT, Int.reduceNeg, Int.reduceMul, Nat.reduceLT, Nat.le_refl, LINE, Bool.false_eq_true, Bool.not_true, Bool.not_false, Bool.true_eq_false, R.bind_ex, Int.reduceEq, e_number_number, e_number_truth, e_number_text, e_number_list, e_truth_number, e_truth_truth, e_truth_text, e_truth_list, e_text_number, e_text_truth, e_text_text, e_text_list, e_list_number, e_list_truth, e_list_text, e_list_list, is_bool_n, is_bool_t, is_bool_s, is_bool_l, is_int_n, is_int_t, is_int_s, is_int_l, is_str_n, is_str_t, is_str_s, is_str_l, is_tuple_n, is_tuple_t, is_tuple_s, is_tuple_l, at_z, at_o, sl_tail, tup_0, tup_1, tup_2, tup_3, rev_t, rev_l, len_l])
local macro_rules | `(tactic| walk_at "ev*") => `(tactic| try simp -implicitDefEqProofs only [mDef, mSeq, mIf, mT, mTr, mOp, mUn, mVar, mC, mCall, mCons, mNil, mRet, mSkip, mAsg, mSl, mPart, mNoPart, mAndT, mOrT, mNotT, mAnd, mOr, mNot, mIfE, mChain, mIs, mIs2, mOf, mNew, mCallF, mM1, mM0, mIxM, mLenM, mApp, mSetM, mSetIx, mAug, mFrz, mForS, mRng1, mRng2, mItems, setV_zn, setV_zv, setV_zo, setV_succ, setM, frz, setT2, mBk, mCt, mNo, 
  DL.bind_ok, DL.bind_no, DL.bind_ite, lift_some, lift_none, List.map_cons, List.map_nil, List.length_cons, List.length_nil, List.replicate_succ, List.replicate_zero, List.cons_append, List.nil_append, List.append_nil, List.getElem?_cons_zero, List.getElem?_cons_succ, List.set_cons_zero, List.set_cons_succ, Nat.reduceAdd, Nat.reduceSub, Nat.zero_add, Nat.sub_self, decide_eq_true_eq,
  add_ii, sub_ii, neg_i, mul_r, mul_l, div_s, mod_s, eq_ii, ne_ii, eq_bb, ne_bb, lt_ii, gt_ii, le_ii, ge_ii, len_l, len_t, int_i, int_b, abs_i, max_ii, min_ii, tuple_l, ix_l, ix_t, tr_b, Nat.reduceLeDiff, if_true, if_false, Option.map_some, Option.bind_some, reduceIte, Int.reduceLT, Int.reduceNeg, Int.reduceMul, Nat.reduceLT, Nat.le_refl, LINE, Bool.false_eq_true, Bool.not_true, Bool.not_false, Bool.true_eq_false, R.bind_ex, Int.reduceEq, e_number_number, e_number_truth, e_number_text, e_number_list, e_truth_number, e_truth_truth, e_truth_text, e_truth_list, e_text_number, e_text_truth, e_text_text, e_text_list, e_list_number, e_list_truth, e_list_text, e_list_list, is_bool_n, is_bool_t, is_bool_s, is_bool_l, is_int_n, is_int_t, is_int_s, is_int_l, is_str_n, is_str_t, is_str_s, is_str_l, is_tuple_n, is_tuple_t, is_tuple_s, is_tuple_l, at_z, at_o, sl_tail, tup_0, tup_1, tup_2, tup_3, rev_t, rev_l, len_l, *])
theorem c20 : (((2 : Nat) : Int) = 0) = False := eq_false (by decide)
theorem c22 : (((2 : Nat) : Int) = 2) = True := eq_true (by decide)
def kindsD (ks : List Kd) : D := .list (ks.map fun k => .str (nameOf k))
theorem e_kk (k : Kd) : dEq (.str (nameOf k)) (.str (nameOf k)) = some (.bool true) := by cases k <;> kernel_rfl
theorem isN_n : dIsN .none .none = some (.bool true) := rfl
theorem isN_s (s : Str) : dIsN (.str s) .none = some (.bool false) := rfl
theorem part_kind {ks : List Kd} {k : Kd} {d : D} {p : Kd → D → Prop} (h : GP1 ks p k d) : m__part_kind [kindsD ks, d] = .ok (.str (nameOf k)) [] := by
  unfold m__part_kind b__part_kind
  cases h with
  | @inp i k h =>
    have e : dIx (kindsD ks) (.int i) = some (.str (nameOf k)) := by
      show atI (ks.map _) (i : Int) = _
      rw [at_nat, List.getElem?_map, h]
      rfl
    iterate 4 ((try simp only [e, i_inp, truthD]); walk_at "ev")
  | @con k v h =>
    obtain ⟨δ, e⟩ := kind_of h
    iterate 5 ((try simp only [e, c_inp, c_con, truthD]); walk_at "ev")
  | @app r as k hr hk ha =>
    have e1 := f_inp r hr
    have e2 := f_con r hr
    have e3 := f_res r hr
    rw [hk, res_letter] at e3
    iterate 5 ((try simp only [e1, e2, e3, truthD]); walk_at "ev")
theorem is_index {i n : Nat} (h : i < n) : m__is_index [.int i, .int n] = .ok (.bool true) [] := by
  have e1 : decide ((0 : Int) ≤ (i : Int)) = true := decide_eq_true (by omega)
  have e2 : decide ((i : Int) < (n : Int)) = true := decide_eq_true (by omega)
  unfold m__is_index b__is_index
  iterate 5 ((try simp only [truthD, e1, e2]); walk_at "ev")
theorem sound {ks : List Kd} {k : Kd} {d w : D} {p : Kd → D → Prop} (h : GP1 ks p k d) (hw : w = .none ∨ w = .str (nameOf k)) : m__is_sound [kindsD ks, d, w] = .ok (.bool true) [] := by
  have ep := part_kind h
  have ek := e_kk k
  have el : dLen [kindsD ks] = some (.int ks.length) := by
    show some (PyData.int ((ks.map fun k => PyData.str (nameOf k)).length : Nat)) = _
    rw [List.length_map]
  unfold m__is_sound b__is_sound
  cases h with
  | @inp i k h =>
    have ei := is_index (List.getElem?_eq_some_iff.mp h).1
    rcases hw with rfl | rfl
    · iterate 9 ((try simp only [ep, el, ei, isN_n, c20, c22, decide_true, decide_false, i_inp, truthD]); walk_at "ev")
      try rfl
    · iterate 9 ((try simp only [ep, ek, el, ei, isN_s, c20, c22, decide_true, decide_false, i_inp, truthD]); walk_at "ev")
      try rfl
  | @con k v h =>
    have es := some_kind h
    rcases hw with rfl | rfl
    · iterate 9 ((try simp only [ep, es, isN_n, c20, c22, decide_true, decide_false, c_inp, c_con, truthD]); walk_at "ev")
      try rfl
    · iterate 9 ((try simp only [ep, ek, es, isN_s, c20, c22, decide_true, decide_false, c_inp, c_con, truthD]); walk_at "ev")
      try rfl
  | @app r as k hr hk ha =>
    have e1 := f_inp r hr
    have e2 := f_con r hr
    have e3 := f_comp r hr
    have e4 := f_args r hr
    have e5 : decide (((as.length + 1 : Nat) : Int) = 0) = false := decide_eq_false (by omega)
    have e6 : decide (((as.length + 1 : Nat) : Int) - 1 = (((kdsOf r.2.1).map fun k => PyData.str (nameOf k)).length : Nat)) = true := decide_eq_true (by rw [List.length_map, ha.len]; omega)
    rcases hw with rfl | rfl
    · iterate 12 ((try simp only [ep, e1, e2, e3, e4, e5, e6, isN_n, c20, c22, decide_true, decide_false, truthD]); walk_at "ev")
      try rfl
    · iterate 12 ((try simp only [ep, ek, e1, e2, e3, e4, e5, e6, isN_s, c20, c22, decide_true, decide_false, truthD]); walk_at "ev")
      try rfl
theorem wa_lc (A L : D) : ∀ (as kn : List D) (o2 o3 : Option D), ∃ o2' o3', mLc [2, 3] (setT2 (setV 2) (setV 3)) mYes b__wanted_arguments_E1 (zipD as kn) [.val A, .val L, cO o2, cO o3] = .ok ((as.zip kn).map fun q => .tuple [q.1, q.2, L]) [.val A, .val L, cO o2', cO o3']
  | [], kn, o2, o3 => ⟨o2, o3, by cases kn <;> rfl⟩
  | _ :: _, [], o2, o3 => ⟨o2, o3, rfl⟩
  | n :: ns, m :: ms, o2, o3 => by
    obtain ⟨p2, p3, ih⟩ := wa_lc A L ns ms (some n) (some m)
    refine ⟨p2, p3, ?_⟩
    have e : zipD (n :: ns) (m :: ms) = .tuple [n, m] :: zipD ns ms := rfl
    have w : wipeD [.val A, .val L, cO o2, cO o3] [2, 3] = [.val A, .val L, .non, .non] := rfl
    have g : setT2 (setV 2) (setV 3) (.tuple [n, m]) [.val A, .val L, .non, .non] = some [.val A, .val L, .val n, .val m] := rfl
    have f : b__wanted_arguments_E1 [.val A, .val L, .val n, .val m] = .ok (.tuple [n, m, L]) [.val A, .val L, .val n, .val m] := rfl
    have v : noVar [.val A, .val L, .val n, .val m] = true := rfl
    have ih : mLc [2, 3] (setT2 (setV 2) (setV 3)) mYes b__wanted_arguments_E1 (zipD ns ms) [.val A, .val L, .val n, .val m] = _ := ih
    rw [e, mLc, w, g]
    simp only [mYes, noex_ok, DL.bind_ok, if_true, f, v, ih]
    rfl
theorem all2_zip {p : Kd → D → Prop} {f : Kd → D} : ∀ {ks : List Kd} {as : List D}, All2 p ks as → ((as.zip (ks.map f)).map (·.1) = as ∧ ∀ q ∈ as.zip (ks.map f), ∃ k, p k q.1 ∧ q.2 = f k)
  | [], [], _ => ⟨rfl, fun q h => nomatch h⟩
  | k :: ks, a :: as, z => by
    obtain ⟨h1, h2⟩ := all2_zip (f := f) z.2
    refine ⟨by rw [List.map_cons, List.zip_cons_cons, List.map_cons, h1], fun q hq => ?_⟩
    rw [List.map_cons, List.zip_cons_cons] at hq
    rcases List.mem_cons.mp hq with rfl | hq
    · exact ⟨k, z.1, rfl⟩
    · exact h2 q hq
def tup3 (p : D × D × Int) : D := .tuple [p.1, p.2.1, .int p.2.2]
def its : List Kd → List D → Int → List (D × D × Int)
  | k :: ks, a :: as, l => (a, .str (nameOf k), l) :: its ks as l
  | _, _, _ => []
theorem its_zip (l : Int) : ∀ (ks : List Kd) (as : List D), (as.zip (ks.map fun k => PyData.str (nameOf k))).map (fun q => PyData.tuple [q.1, q.2, .int l]) = (its ks as l).map tup3
  | [], as => by cases as <;> rfl
  | _ :: _, [] => rfl
  | k :: ks, a :: as => by
    rw [List.map_cons, List.zip_cons_cons, List.map_cons, its_zip l ks as]
    rfl
theorem its_fst {p : Kd → D → Prop} (l : Int) : ∀ {ks : List Kd} {as : List D}, All2 p ks as → (its ks as l).map (·.1) = as
  | [], [], _ => rfl
  | k :: ks, a :: as, z => by
    show a :: (its ks as l).map (·.1) = _
    rw [its_fst l z.2]
theorem its_mem {p : Kd → D → Prop} {l : Int} : ∀ {ks : List Kd} {as : List D}, All2 p ks as → ∀ q ∈ its ks as l, q.2.2 = l ∧ q.1 ∈ as ∧ ∃ k, p k q.1 ∧ q.2.1 = .str (nameOf k)
  | [], [], _, q, hq => nomatch hq
  | k :: ks, a :: as, z, q, hq => by
    rcases List.mem_cons.mp hq with rfl | hq
    · exact ⟨rfl, List.mem_cons_self, k, z.1, rfl⟩
    · obtain ⟨h1, h2, h3⟩ := its_mem z.2 q hq
      exact ⟨h1, List.mem_cons_of_mem _ h2, h3⟩
theorem wanted_node {ks : List Kd} {p : Kd → D → Prop} {k : Kd} {r : Str × Str × Str} {as : List D} (h : GP1 ks p k (.tuple (.str r.1 :: as))) (hr : r ∈ LIB) (ha : (kdsOf r.2.1).length = as.length) (l : Int) : m__wanted_arguments [.tuple (.str r.1 :: as), .int l] = .ok (.list ((its (kdsOf r.2.1) as l).map tup3)) [] := by
  have el := is_leaf_eq h
  have e3 : leafD (.tuple (.str r.1 :: as)) = false := f_leaf _ hr
  rw [e3] at el
  have e4 := f_args r hr
  obtain ⟨p2, p3, e5⟩ := wa_lc (.tuple (.str r.1 :: as)) (.int l) as ((kdsOf r.2.1).map fun k => PyData.str (nameOf k)) none none
  have e5 : mLc [2, 3] (setT2 (setV 2) (setV 3)) mYes b__wanted_arguments_E1 (zipD as ((kdsOf r.2.1).map fun k => PyData.str (nameOf k))) [.val (.tuple (.str r.1 :: as)), .val (.int l), .non, .non] = _ := e5
  have hp := f_pos r hr
  rw [Bool.and_eq_true] at hp
  have hp := of_decide_eq_true hp.2
  have hl : (zipD as ((kdsOf r.2.1).map fun k => PyData.str (nameOf k))).length ≤ 16777216 := by rw [zip_len, List.length_map]; omega
  have e6 : mLcS [2, 3] (mZipM (mSl (mVar 0) (mPart (mC (.int 1))) mNoPart) (mCallF m_argument_kinds (mCons (mOp dIx (mVar 0) (mC (.int 0))) mNil))) (setT2 (setV 2) (setV 3)) mYes b__wanted_arguments_E1 [.val (.tuple (.str r.1 :: as)), .val (.int l), .non, .non] = .ok ((its (kdsOf r.2.1) as l).map tup3) [.val (.tuple (.str r.1 :: as)), .val (.int l), .non, .non] := by
    have e7 : mZipM (mSl (mVar 0) (mPart (mC (.int 1))) mNoPart) (mCallF m_argument_kinds (mCons (mOp dIx (mVar 0) (mC (.int 0))) mNil)) [.val (.tuple (.str r.1 :: as)), .val (.int l), .non, .non] = .ok (zipD as ((kdsOf r.2.1).map fun k => PyData.str (nameOf k))) [.val (.tuple (.str r.1 :: as)), .val (.int l), .non, .non] := by
      unfold mZipM
      iterate 5 ((try simp only [e4]); walk_at "ev")
      rfl
    unfold mLcS
    rw [e7]
    show (if (true && decide ((zipD as ((kdsOf r.2.1).map fun k => PyData.str (nameOf k))).length ≤ LINE)) = true then R.bind (mLc [2, 3] (setT2 (setV 2) (setV 3)) mYes b__wanted_arguments_E1 (zipD as ((kdsOf r.2.1).map fun k => PyData.str (nameOf k))) [.val (.tuple (.str r.1 :: as)), .val (.int l), .non, .non]) _ else .no) = _
    rw [if_pos (by rw [Bool.true_and]; exact decide_eq_true hl), e5, ← its_zip]
    rfl
  unfold m__wanted_arguments b__wanted_arguments
  iterate 5 ((try simp only [el, e6, truthD]); walk_at "ev")
theorem wanted_eq {ks : List Kd} {p : Kd → D → Prop} {k : Kd} {d : D} (h : GP1 ks p k d) (l : Int) : ∃ kk : List Kd, All2 p kk (argsD d) ∧ kk.length ≤ 3 ∧ m__wanted_arguments [d, .int l] = .ok (.list ((its kk (argsD d) l).map tup3)) [] := by
  have el := is_leaf_eq h
  have h0 := h
  cases h with
  | @inp i k h =>
    have e3 : leafD (.tuple [.str "input", .int i]) = true := leaf_i
    rw [e3] at el
    refine ⟨[], by rw [args_i]; trivial, by decide, ?_⟩
    rw [args_i]
    unfold m__wanted_arguments b__wanted_arguments
    iterate 5 ((try simp only [el, truthD]); walk_at "ev")
    rfl
  | @con k v h =>
    have e3 : leafD (.tuple [.str "constant", v]) = true := leaf_c
    rw [e3] at el
    refine ⟨[], by rw [args_c]; trivial, by decide, ?_⟩
    rw [args_c]
    unfold m__wanted_arguments b__wanted_arguments
    iterate 5 ((try simp only [el, truthD]); walk_at "ev")
    rfl
  | @app r as k hr hk ha =>
    have hp := f_pos r hr
    rw [Bool.and_eq_true] at hp
    refine ⟨kdsOf r.2.1, by rw [args_a hr]; exact ha, of_decide_eq_true hp.2, ?_⟩
    rw [args_a hr]
    exact wanted_node h0 hr ha.len l
end K07
end Part_SG

section Part_SI
set_option Elab.async false
set_option linter.all false
set_option maxRecDepth 100000
set_option autoImplicit false
set_option maxHeartbeats 2000000
namespace K07
open PySem PySem.Spec PyProof.Rows L2 DL SX
local macro_rules | `(tactic| walk_at "ev") => `(tactic| try simp -implicitDefEqProofs only [mDef, mSeq, mIf, mT, mTr, mOp, mUn, mVar, mC, mCall, mCons, mNil, mRet, mSkip, mAsg, mSl, mPart, mNoPart, mAndT, mOrT, mNotT, mAnd, mOr, mNot, mIfE, mChain, mIs, mIs2, mOf, mNew, mCallF, mM1, mM0, mIxM, mLenM, mApp, mSetM, mSetIx, mAug, mFrz, mForS, mRng1, mRng2, mItems, setV_zn, setV_zv, setV_zo, setV_succ, setM, frz, setT2, mBk, mCt, mNo, 
  DL.bind_ok, DL.bind_no, DL.bind_ite, lift_some, lift_none, List.map_cons, List.map_nil, List.length_cons, List.length_nil, List.replicate_succ, List.replicate_zero, List.cons_append, List.nil_append, List.append_nil, List.getElem?_cons_zero, List.getElem?_cons_succ, List.set_cons_zero, List.set_cons_succ, Nat.reduceAdd, Nat.reduceSub, Nat.zero_add, Nat.sub_self, decide_eq_true_eq,
  add_ii, sub_ii, neg_i, mul_r, mul_l, div_s, mod_s, eq_ii, ne_ii, eq_bb, ne_bb, lt_ii, gt_ii, le_ii, ge_ii, len_l, len_t, int_i, int_b, abs_i, max_ii, min_ii, tuple_l, ix_l, ix_t, tr_b, Nat.reduceLeDiff, if_true, if_false, Option.map_some, Option.bind_some, reduceIte, Int.reduceLT, Int.reduceNeg, Int.reduceMul, Nat.reduceLT, Nat.le_refl, LINE, Bool.false_eq_true, Bool.not_true, Bool.not_false, Bool.true_eq_false, R.bind_ex, Int.reduceEq, e_number_number, e_number_truth, e_number_text, e_number_list, e_truth_number, e_truth_truth, e_truth_text, e_truth_list, e_text_number, e_text_truth, e_text_text, e_text_list, e_list_number, e_list_truth, e_list_text, e_list_list, is_bool_n, is_bool_t, is_bool_s, is_bool_l, is_int_n, is_int_t, is_int_s, is_int_l, is_str_n, is_str_t, is_str_s, is_str_l, is_tuple_n, is_tuple_t, is_tuple_s, is_tuple_l, at_z, at_o, sl_tail, tup_0, tup_1, tup_2, tup_3, rev_t, rev_l, len_l])
local macro_rules | `(tactic| walk_at "ev*") => `(tactic| try simp -implicitDefEqProofs only [mDef, mSeq, mIf, mT, mTr, mOp, mUn, mVar, mC, mCall, mCons, mNil, mRet, mSkip, mAsg, mSl, mPart, mNoPart, mAndT, mOrT, mNotT, mAnd, mOr, mNot, mIfE, mChain, mIs, mIs2, mOf, mNew, mCallF, mM1, mM0, mIxM, mLenM, mApp, mSetM, mSetIx, mAug, mFrz, mForS, mRng1, mRng2, mItems, setV_zn, setV_zv, setV_zo, setV_succ, setM, frz, setT2, mBk, mCt, mNo, 
  DL.bind_ok, DL.bind_no, DL.bind_ite, lift_some, lift_none, List.map_cons, List.map_nil, List.length_cons, List.length_nil, List.replicate_succ, List.replicate_zero, List.cons_append, List.nil_append, List.append_nil, List.getElem?_cons_zero, List.getElem?_cons_succ, List.set_cons_zero, List.set_cons_succ, Nat.reduceAdd, Nat.reduceSub, Nat.zero_add, Nat.sub_self, decide_eq_true_eq,
  add_ii, sub_ii, neg_i, mul_r, mul_l, div_s, mod_s, eq_ii, ne_ii, eq_bb, ne_bb, lt_ii, gt_ii, le_ii, ge_ii, len_l, len_t, int_i, int_b, abs_i, max_ii, min_ii, tuple_l, ix_l, ix_t, tr_b, Nat.reduceLeDiff, if_true, if_false, Option.map_some, Option.bind_some, reduceIte, Int.reduceLT, Int.reduceNeg, Int.reduceMul, Nat.reduceLT, Nat.le_refl, LINE, Bool.false_eq_true, Bool.not_true, Bool.not_false, Bool.true_eq_false, R.bind_ex, Int.reduceEq, e_number_number, e_number_truth, e_number_text, e_number_list, e_truth_number, e_truth_truth, e_truth_text, e_truth_list, e_text_number, e_text_truth, e_text_text, e_text_list, e_list_number, e_list_truth, e_list_text, e_list_list, is_bool_n, is_bool_t, is_bool_s, is_bool_l, is_int_n, is_int_t, is_int_s, is_int_l, is_str_n, is_str_t, is_str_s, is_str_l, is_tuple_n, is_tuple_t, is_tuple_s, is_tuple_l, at_z, at_o, sl_tail, tup_0, tup_1, tup_2, tup_3, rev_t, rev_l, len_l, *])
theorem callB_ok {i : Nat} {δ : Dl} {mf : List D → R D} {mes : M (List D)} {b : Bool} {es es' ds : List D} {d : D} (h : δ[i]? = some (.var b es)) (hm : mes δ = .ok ds δ) (hf : mf (.list es :: ds) = .ok d [.var true es']) : mCallB i mf mes δ = .ok d (δ.set i (.var b es')) := by
  unfold mCallB
  simp only [h, hm, DL.bind_ok, hf]
theorem seq_rt {a b : M Fl} {δ δ1 : Dl} {d : D} (h : a δ = .ok (.rt d) δ1) : mSeq a b δ = .ok (.rt d) δ1 := by
  unfold mSeq
  rw [h]
  rfl
theorem if_t {t : M Bool} {a b : M Fl} {δ δ1 : Dl} (h : t δ = .ok true δ1) : mIf t a b δ = a δ1 := by
  unfold mIf
  rw [h]
  rfl
theorem if_f {t : M Bool} {a b : M Fl} {δ δ1 : Dl} (h : t δ = .ok false δ1) : mIf t a b δ = b δ1 := by
  unfold mIf
  rw [h]
  rfl
theorem and_f {a b : M Bool} {δ δ1 : Dl} (h : a δ = .ok false δ1) : mAndT a b δ = .ok false δ1 := by
  unfold mAndT
  rw [h]
  rfl
theorem and_t {a b : M Bool} {δ δ1 : Dl} (h : a δ = .ok true δ1) : mAndT a b δ = b δ1 := by
  unfold mAndT
  rw [h]
  rfl
theorem or_t {a b : M Bool} {δ δ1 : Dl} (h : a δ = .ok true δ1) : mOrT a b δ = .ok true δ1 := by
  unfold mOrT
  rw [h]
  rfl
theorem or_f {a b : M Bool} {δ δ1 : Dl} (h : a δ = .ok false δ1) : mOrT a b δ = b δ1 := by
  unfold mOrT
  rw [h]
  rfl
theorem defB_rt {n : Nat} {body : M Fl} {es es' ds : List D} {d : D} {δ' : Dl} (h : body (.var true es :: (ds.map .val ++ List.replicate (n - 1 - ds.length) .non)) = .ok (.rt d) (.var true es' :: δ')) : mDefB n body (.list es :: ds) = .ok d [.var true es'] := by
  show R.bind (body (.var true es :: (ds.map .val ++ List.replicate (n - 1 - ds.length) .non))) _ = _
  rw [h]
  rfl
theorem ret_ok {a : M D} {δ δ1 : Dl} {d : D} (h : a δ = .ok d δ1) : mRet a δ = .ok (.rt d) δ1 := by
  unfold mRet
  rw [h]
  rfl
/-! ### taking -/
theorem take_eq (ns : List Int) {l : Int} (hl : 0 < l) : ∃ (r : Int) (ns' : List Int), m__law_take [.list (ns.map .int), .int l] = .ok (.int r) [.var true (ns'.map .int)] ∧ 0 ≤ r ∧ r < l := by
  have e1 : ∀ x : Int, dMod (.int x) (.int l) = some (.int (x % l)) := fun x => mod_s hl
  rcases List.eq_nil_or_concat ns with rfl | ⟨ns', n, rfl⟩
  · refine ⟨0, [], ?_, Int.le_refl _, hl⟩
    unfold m__law_take b__law_take mDefB
    iterate 4 walk_at "ev"
    rfl
  · refine ⟨n % l, ns', ?_, Int.emod_nonneg _ (by omega), Int.emod_lt_of_pos _ hl⟩
    have em : (ns'.concat n).map PyData.int = ns'.map PyData.int ++ [.int n] := by rw [List.concat_eq_append, List.map_append]; rfl
    rw [em]
    have e2 : mPop 0 [.var true (ns'.map PyData.int ++ [.int n]), .val (.int l)] = .ok (.int n) [.var true (ns'.map .int), .val (.int l)] := pop_at (i := 0) (w := ns'.map .int) (x := .int n) rfl
    have e3 : decide (((ns'.map PyData.int ++ [PyData.int n]).length : Int) = 0) = false := decide_eq_false (by rw [List.length_append, List.length_singleton]; omega)
    have e4 : (((ns'.map PyData.int ++ [PyData.int n]).length : Int) = 0) = False := eq_false (by rw [List.length_append, List.length_singleton]; omega)
    unfold m__law_take b__law_take mDefB
    iterate 6 ((try simp only [e1, e2, e3, e4, truthD]); walk_at "ev")
    try rfl
/-! ### leaves -/
def code : Kd → Nat
  | .n => 110 | .t => 116 | .s => 115 | .l => 108
def lettersD (ks : List Kd) : D := .str (S (ks.map code))
theorem same_eq {j k : Kd} (h : sameK j k = true) : j = k := by cases j <;> cases k <;> first | rfl | cases h
theorem e_code (j k : Kd) : dEq (.str (S [code j])) (.str (letter k)) = some (.bool (sameK j k)) := by cases j <;> cases k <;> kernel_rfl
theorem letter_S (k : Kd) : (.str (letter k) : D) = .str (S [code k]) := by cases k <;> kernel_rfl
def pL (ks : List Kd) (k : Kd) : D → Bool
  | .int i => match ks[i.toNat]? with
    | some j => sameK j k
    | none => false
  | _ => false
theorem leaf_lc {ks : List Kd} (hk : ks.length ≤ 4) {k : Kd} {w : List D} : mLcSB [4] (mRng1 (mCall dLen (mCons (mVar 2) mNil))) (setV 4) b__law_leaf_T1 b__law_leaf_E1 [.var true w, .val (.str (letter k)), .val (lettersD ks), .non, .non] = .ok ((rng 0 ks.length).filter (pL ks k)) [.var true w, .val (.str (letter k)), .val (lettersD ks), .non, .non] := by
  have el : dLen [lettersD ks] = some (.int ks.length) := by
    have := len_S (l := ks.map code) (by rw [List.length_map]; omega)
    rw [List.length_map] at this
    exact this
  have z := lcSB_pure (j := 4) (it := mRng1 (mCall dLen (mCons (mVar 2) mNil))) (t := b__law_leaf_T1) (e := b__law_leaf_E1) (δ := [.var true w, .val (.str (letter k)), .val (lettersD ks), .non, .non]) (δ' := [.var true w, .val (.str (letter k)), .val (lettersD ks), .non, .non]) (items := rng 0 ks.length) (pL ks k) (fun x => x) (by
    have b2 : big ((ks.length : Nat) : Int) = true := big_of (by omega) (by omega)
    iterate 3 ((try simp only [el, b2]); walk_at "ev")) rfl rfl (by rw [rng_len]; omega) (fun x hx => by
    obtain ⟨i, rfl, h0, h1⟩ := rng_int hx
    obtain ⟨n, rfl⟩ := Int.eq_ofNat_of_zero_le h0
    have hn : n < ks.length := by omega
    have e1 : dIx (lettersD ks) (.int (n : Int)) = some (.str (S [code ks[n]])) := by
      show dIx (.str (S (ks.map code))) (.int (n : Int)) = _
      rw [ix_S (by rw [List.length_map]; omega), List.getElem?_map, List.getElem?_eq_getElem hn]
      rfl
    have e2 := e_code ks[n] k
    have e3 : pL ks k (.int (n : Int)) = sameK ks[n] k := by
      show (match ks[(n : Int).toNat]? with | some j => sameK j k | none => false) = _
      rw [Int.toNat_natCast, List.getElem?_eq_getElem hn]
    refine ⟨?_, fun _ => ?_⟩
    · unfold b__law_leaf_T1
      rw [e3]
      iterate 3 ((try simp only [e1, e2]); walk_at "ev")
    · rfl)
  rw [show (fun x : D => x) = id from rfl, List.map_id] at z
  exact z
theorem leaf_eq (ns : List Int) {ks : List Kd} (hk : ks.length ≤ 4) (k : Kd) : ∃ (d : D) (ns' : List Int), m__law_leaf [.list (ns.map .int), .str (letter k), lettersD ks] = .ok d [.var true (ns'.map .int)] ∧ GP ks 1 k d := by
  have e1 := leaf_lc hk (k := k) (w := ns.map .int)
  have con : ∀ (ns2 : List Int) (c3 : D), ∃ (d : D) (ns' : List Int), (mRet (mCall dTup (mCons (mC (.str "constant")) (mCons (mCallF m__law_value (mCons (mVar 1) (mCons (mCallB 0 m__law_take (mCons (mC (.int 100000)) mNil)) mNil))) mNil)))) [.var true (ns2.map .int), .val (.str (letter k)), .val (lettersD ks), .val c3, .non] = .ok (.rt d) [.var true (ns'.map .int), .val (.str (letter k)), .val (lettersD ks), .val c3, .non] ∧ GP ks 1 k d := fun ns2 c3 => by
    obtain ⟨r, ns', t1, t2, t3⟩ := take_eq ns2 (l := 100000) (by decide)
    obtain ⟨v, v1, v2⟩ := value_eq k t2
    have t4 : mCallB 0 m__law_take (mCons (mC (.int 100000)) mNil) [.var true (ns2.map .int), .val (.str (letter k)), .val (lettersD ks), .val c3, .non] = .ok (.int r) [.var true (ns'.map .int), .val (.str (letter k)), .val (lettersD ks), .val c3, .non] := callB_ok (i := 0) (b := true) (es := ns2.map .int) rfl rfl t1
    refine ⟨.tuple [.str "constant", v], ns', ?_, .con v2⟩
    iterate 5 ((try simp only [t4, v1]); walk_at "ev")
  generalize hin : (rng 0 ks.length).filter (pL ks k) = inputs at e1
  have hI : ∀ x ∈ inputs, ∃ i : Nat, x = .int i ∧ ks[i]? = some k := fun x hx => by
    rw [← hin] at hx
    obtain ⟨h1, h2⟩ := List.mem_filter.mp hx
    obtain ⟨i, rfl, h0, h3⟩ := rng_int h1
    obtain ⟨n, rfl⟩ := Int.eq_ofNat_of_zero_le h0
    have h2 : (match ks[(n : Int).toNat]? with | some j => sameK j k | none => false) = true := h2
    rw [Int.toNat_natCast, List.getElem?_eq_getElem (show n < ks.length by omega)] at h2
    exact ⟨n, rfl, by rw [List.getElem?_eq_getElem (show n < ks.length by omega), same_eq h2]⟩
  have hlen : inputs.length ≤ 4 := by
    rw [← hin]
    have := List.length_filter_le (pL ks k) (rng 0 ks.length)
    rw [rng_len] at this
    omega
  have h1 : mSetL 3 (mLcSB [4] (mRng1 (mCall dLen (mCons (mVar 2) mNil))) (setV 4) b__law_leaf_T1 b__law_leaf_E1) [.var true (ns.map .int), .val (.str (letter k)), .val (lettersD ks), .non, .non] = .ok .nx [.var true (ns.map .int), .val (.str (letter k)), .val (lettersD ks), .val (.list inputs), .non] := by
    unfold mSetL
    rw [e1]
    rfl
  have hA : (mT (mOp dGt (mCall dLen (mCons (mVar 3) mNil)) (mC (.int 0)))) [.var true (ns.map .int), .val (.str (letter k)), .val (lettersD ks), .val (.list inputs), .non] = .ok (decide ((0 : Int) < (inputs.length : Nat))) [.var true (ns.map .int), .val (.str (letter k)), .val (lettersD ks), .val (.list inputs), .non] := rfl
  by_cases q : inputs.length = 0
  · rw [decide_eq_false (show ¬ (0 : Int) < (inputs.length : Nat) by omega)] at hA
    obtain ⟨d, ns', c1, c2⟩ := con ns (.list inputs)
    refine ⟨d, ns', defB_rt (n := 5) (body := b__law_leaf) (δ' := [.val (.str (letter k)), .val (lettersD ks), .val (.list inputs), .non]) ?_, c2⟩
    show b__law_leaf [.var true (ns.map .int), .val (.str (letter k)), .val (lettersD ks), .non, .non] = _
    unfold b__law_leaf
    rw [seq_ok h1, seq_ok (by rw [if_f (and_f hA)]; rfl), c1]
  · rw [decide_eq_true (show (0 : Int) < (inputs.length : Nat) by omega)] at hA
    obtain ⟨r, ns1, t1, t2, t3⟩ := take_eq ns (l := 3) (by decide)
    have hB : (mT (mOp dGt (mCallB 0 m__law_take (mCons (mC (.int 3)) mNil)) (mC (.int 0)))) [.var true (ns.map .int), .val (.str (letter k)), .val (lettersD ks), .val (.list inputs), .non] = .ok (decide (0 < r)) [.var true (ns1.map .int), .val (.str (letter k)), .val (lettersD ks), .val (.list inputs), .non] := by
      have t4 : mCallB 0 m__law_take (mCons (mC (.int 3)) mNil) [.var true (ns.map .int), .val (.str (letter k)), .val (lettersD ks), .val (.list inputs), .non] = .ok (.int r) [.var true (ns1.map .int), .val (.str (letter k)), .val (lettersD ks), .val (.list inputs), .non] := callB_ok (i := 0) (b := true) (es := ns.map .int) rfl rfl t1
      unfold mT mOp
      rw [t4]
      rfl
    by_cases hr : 0 < r
    · rw [decide_eq_true hr] at hB
      obtain ⟨r2, ns2, u1, u2, u3⟩ := take_eq ns1 (l := (inputs.length : Nat)) (by omega)
      obtain ⟨x, hx, ex⟩ := at_ex inputs u2 u3
      obtain ⟨i, rfl, hi⟩ := hI x hx
      refine ⟨.tuple [.str "input", .int i], ns2, defB_rt (n := 5) (body := b__law_leaf) (δ' := [.val (.str (letter k)), .val (lettersD ks), .val (.list inputs), .non]) ?_, .inp hi⟩
      show b__law_leaf [.var true (ns.map .int), .val (.str (letter k)), .val (lettersD ks), .non, .non] = _
      have u4 : mCallB 0 m__law_take (mCons (mCall dLen (mCons (mVar 3) mNil)) mNil) [.var true (ns1.map .int), .val (.str (letter k)), .val (lettersD ks), .val (.list inputs), .non] = .ok (.int r2) [.var true (ns2.map .int), .val (.str (letter k)), .val (lettersD ks), .val (.list inputs), .non] := callB_ok (i := 0) (b := true) (es := ns1.map .int) rfl rfl u1
      unfold b__law_leaf
      rw [seq_ok h1, seq_rt (d := .tuple [.str "input", .int i]) (δ1 := [.var true (ns2.map .int), .val (.str (letter k)), .val (lettersD ks), .val (.list inputs), .non]) (by
        rw [if_t ((and_t hA).trans hB)]
        iterate 4 ((try simp only [u4, ex]); walk_at "ev"))]
    · rw [decide_eq_false hr] at hB
      obtain ⟨d, ns', c1, c2⟩ := con ns1 (.list inputs)
      refine ⟨d, ns', defB_rt (n := 5) (body := b__law_leaf) (δ' := [.val (.str (letter k)), .val (lettersD ks), .val (.list inputs), .non]) ?_, c2⟩
      show b__law_leaf [.var true (ns.map .int), .val (.str (letter k)), .val (lettersD ks), .non, .non] = _
      unfold b__law_leaf
      rw [seq_ok h1, seq_ok (by rw [if_f ((and_t hA).trans hB)]; rfl), c1]
/-! ### programs that are drawn -/
def LIBD : D := .list (LIB.map rowD)
def pR (k : Kd) : D → Bool
  | .list [_, _, .str s] => s == letter k
  | _ => false
theorem rows_lc {k : Kd} {w : List D} {c2 c3 : D} {mf : List D → R D} : mLcSB [6] (mItems (mVar 4)) (setV 6) (b__law_program_T1 mf) (b__law_program_E1 mf) [.var true w, .val (.str (letter k)), .val c2, .val c3, .val LIBD, .non, .non, .non] = .ok ((LIB.filter fun r => r.2.2 == letter k).map rowD) [.var true w, .val (.str (letter k)), .val c2, .val c3, .val LIBD, .non, .non, .non] := by
  have z := lcSB_pure (j := 6) (it := mItems (mVar 4)) (t := b__law_program_T1 mf) (e := b__law_program_E1 mf) (δ := [.var true w, .val (.str (letter k)), .val c2, .val c3, .val LIBD, .non, .non, .non]) (δ' := [.var true w, .val (.str (letter k)), .val c2, .val c3, .val LIBD, .non, .non, .non]) (items := LIB.map rowD) (pR k) (fun x => x) rfl rfl rfl (by rw [List.length_map]; decide) (fun x hx => by
    obtain ⟨r, hr, rfl⟩ := List.mem_map.mp hx
    have e1 : dIx (rowD r) (.int 2) = some (.str r.2.2) := rfl
    have e2 := f_let k r hr
    refine ⟨?_, fun _ => ?_⟩
    · unfold b__law_program_T1
      iterate 3 ((try simp only [e1, e2]); walk_at "ev")
      rfl
    · rfl)
  rw [show (fun x : D => x) = id from rfl, List.map_id, List.filter_map] at z
  exact z
theorem args_lc {ks : List Kd} {g : Nat} {mf : List D → R D} {deep : Int} {c1 c4 c5 c6 : D} (ih : ∀ (ns : List Int) (k : Kd), ∃ (d : D) (ns' : List Int), mf [.list (ns.map .int), .str (letter k), lettersD ks, .int (deep - 1), c4] = .ok d [.var true (ns'.map .int)] ∧ GP ks g k d) : ∀ (kk : List Kd) (ns : List Int) (o : Option D), ∃ (as : List D) (ns' : List Int) (o' : Option D),
    mLcB [7] (setV 7) mYes (b__law_program_E2 mf) (kk.map fun k => .str (letter k)) [.var true (ns.map .int), .val c1, .val (lettersD ks), .val (.int deep), .val c4, .val c5, .val c6, cO o] = .ok as [.var true (ns'.map .int), .val c1, .val (lettersD ks), .val (.int deep), .val c4, .val c5, .val c6, cO o'] ∧ All2 (GP ks g) kk as
  | [], ns, o => ⟨[], ns, o, rfl, trivial⟩
  | k :: kk, ns, o => by
    obtain ⟨d, ns1, e1, g1⟩ := ih ns k
    obtain ⟨as, ns2, o2, e2, g2⟩ := args_lc ih kk ns1 (some (.str (letter k)))
    refine ⟨d :: as, ns2, o2, ?_, g1, g2⟩
    have w : wipeD [.var true (ns.map .int), .val c1, .val (lettersD ks), .val (.int deep), .val c4, .val c5, .val c6, cO o] [7] = [.var true (ns.map .int), .val c1, .val (lettersD ks), .val (.int deep), .val c4, .val c5, .val c6, .non] := rfl
    have s : setV 7 (.str (letter k)) [.var true (ns.map .int), .val c1, .val (lettersD ks), .val (.int deep), .val c4, .val c5, .val c6, .non] = some [.var true (ns.map .int), .val c1, .val (lettersD ks), .val (.int deep), .val c4, .val c5, .val c6, .val (.str (letter k))] := rfl
    have f : b__law_program_E2 mf [.var true (ns.map .int), .val c1, .val (lettersD ks), .val (.int deep), .val c4, .val c5, .val c6, .val (.str (letter k))] = .ok d [.var true (ns1.map .int), .val c1, .val (lettersD ks), .val (.int deep), .val c4, .val c5, .val c6, .val (.str (letter k))] :=
      callB_ok (i := 0) (b := true) (es := ns.map .int) (ds := [.str (letter k), lettersD ks, .int (deep - 1), c4]) rfl rfl e1
    have v : noOwn [.var true (ns1.map .int), .val c1, .val (lettersD ks), .val (.int deep), .val c4, .val c5, .val c6, .val (.str (letter k))] = true := rfl
    have e2 : mLcB [7] (setV 7) mYes (b__law_program_E2 mf) (kk.map fun k => .str (letter k)) [.var true (ns1.map .int), .val c1, .val (lettersD ks), .val (.int deep), .val c4, .val c5, .val c6, .val (.str (letter k))] = _ := e2
    rw [List.map_cons, mLcB, w, s]
    simp only [mYes, noex_ok, DL.bind_ok, if_true, f, v, e2]
theorem program_eq {ks : List Kd} (hk : ks.length ≤ 4) : ∀ (g m : Nat) (deep : Int) (ns : List Int) (k : Kd), deep ≤ g + 1 → g + 1 ≤ m → ∃ (d : D) (ns' : List Int), m__law_program_n m [.list (ns.map .int), .str (letter k), lettersD ks, .int deep, LIBD] = .ok d [.var true (ns'.map .int)] ∧ GP ks (g + 1) k d := by
  intro g
  induction g with
  | zero =>
    intro m deep ns k hd hm
    obtain ⟨m, rfl⟩ : ∃ m', m = m' + 1 := ⟨m - 1, by omega⟩
    obtain ⟨d, ns', e, hg⟩ := leaf_eq ns hk k
    refine ⟨d, ns', defB_rt (n := 8) (body := b__law_program (m__law_program_n m)) (δ' := [.val (.str (letter k)), .val (lettersD ks), .val (.int deep), .val LIBD, .non, .non, .non]) ?_, hg⟩
    show b__law_program (m__law_program_n m) [.var true (ns.map .int), .val (.str (letter k)), .val (lettersD ks), .val (.int deep), .val LIBD, .non, .non, .non] = _
    unfold b__law_program
    have hA : (mT (mOp dLt (mVar 3) (mC (.int 2)))) [.var true (ns.map .int), .val (.str (letter k)), .val (lettersD ks), .val (.int deep), .val LIBD, .non, .non, .non] = .ok true [.var true (ns.map .int), .val (.str (letter k)), .val (lettersD ks), .val (.int deep), .val LIBD, .non, .non, .non] := by
      show R.ok (decide (deep < 2)) _ = _
      rw [decide_eq_true (by omega)]
    rw [seq_rt (d := d) (δ1 := [.var true (ns'.map .int), .val (.str (letter k)), .val (lettersD ks), .val (.int deep), .val LIBD, .non, .non, .non]) (by
      rw [if_t (or_t hA)]
      exact ret_ok (callB_ok (i := 0) (b := true) (es := ns.map .int) rfl rfl e))]
  | succ g ih =>
    intro m deep ns k hd hm
    obtain ⟨m, rfl⟩ : ∃ m', m = m' + 1 := ⟨m - 1, by omega⟩
    have leaf : ∀ ns1 : List Int, ∃ (d : D) (ns' : List Int), (mRet (mCallB 0 m__law_leaf (mCons (mVar 1) (mCons (mVar 2) mNil)))) [.var true (ns1.map .int), .val (.str (letter k)), .val (lettersD ks), .val (.int deep), .val LIBD, .non, .non, .non] = .ok (.rt d) [.var true (ns'.map .int), .val (.str (letter k)), .val (lettersD ks), .val (.int deep), .val LIBD, .non, .non, .non] ∧ GP ks (g + 1 + 1) k d := fun ns1 => by
      obtain ⟨d, ns', e, hg⟩ := leaf_eq ns1 hk k
      exact ⟨d, ns', ret_ok (callB_ok (i := 0) (b := true) (es := ns1.map .int) rfl rfl e), hg.le (by omega)⟩
    have hA : (mT (mOp dLt (mVar 3) (mC (.int 2)))) [.var true (ns.map .int), .val (.str (letter k)), .val (lettersD ks), .val (.int deep), .val LIBD, .non, .non, .non] = .ok (decide (deep < 2)) [.var true (ns.map .int), .val (.str (letter k)), .val (lettersD ks), .val (.int deep), .val LIBD, .non, .non, .non] := rfl
    by_cases q : deep < 2
    · rw [decide_eq_true q] at hA
      obtain ⟨d, ns', e, hg⟩ := leaf ns
      refine ⟨d, ns', defB_rt (n := 8) (body := b__law_program (m__law_program_n m)) (δ' := [.val (.str (letter k)), .val (lettersD ks), .val (.int deep), .val LIBD, .non, .non, .non]) ?_, hg⟩
      show b__law_program (m__law_program_n m) [.var true (ns.map .int), .val (.str (letter k)), .val (lettersD ks), .val (.int deep), .val LIBD, .non, .non, .non] = _
      unfold b__law_program
      rw [seq_rt (by rw [if_t (or_t hA)]; exact e)]
    · rw [decide_eq_false q] at hA
      obtain ⟨r, ns1, t1, t2, t3⟩ := take_eq ns (l := 5) (by decide)
      have hB : (mT (mOp dEq (mCallB 0 m__law_take (mCons (mC (.int 5)) mNil)) (mC (.int 0)))) [.var true (ns.map .int), .val (.str (letter k)), .val (lettersD ks), .val (.int deep), .val LIBD, .non, .non, .non] = .ok (decide (r = 0)) [.var true (ns1.map .int), .val (.str (letter k)), .val (lettersD ks), .val (.int deep), .val LIBD, .non, .non, .non] := by
        have t4 : mCallB 0 m__law_take (mCons (mC (.int 5)) mNil) [.var true (ns.map .int), .val (.str (letter k)), .val (lettersD ks), .val (.int deep), .val LIBD, .non, .non, .non] = .ok (.int r) [.var true (ns1.map .int), .val (.str (letter k)), .val (lettersD ks), .val (.int deep), .val LIBD, .non, .non, .non] := callB_ok (i := 0) (b := true) (es := ns.map .int) rfl rfl t1
        iterate 3 ((try simp only [t4]); walk_at "ev")
      by_cases q2 : r = 0
      · rw [decide_eq_true q2] at hB
        obtain ⟨d, ns', e, hg⟩ := leaf ns1
        refine ⟨d, ns', defB_rt (n := 8) (body := b__law_program (m__law_program_n m)) (δ' := [.val (.str (letter k)), .val (lettersD ks), .val (.int deep), .val LIBD, .non, .non, .non]) ?_, hg⟩
        show b__law_program (m__law_program_n m) [.var true (ns.map .int), .val (.str (letter k)), .val (lettersD ks), .val (.int deep), .val LIBD, .non, .non, .non] = _
        unfold b__law_program
        rw [seq_rt (by rw [if_t ((or_f hA).trans hB)]; exact e)]
      · rw [decide_eq_false q2] at hB
        have h1 : mSetL 5 (mLcSB [6] (mItems (mVar 4)) (setV 6) (b__law_program_T1 (m__law_program_n m)) (b__law_program_E1 (m__law_program_n m))) [.var true (ns1.map .int), .val (.str (letter k)), .val (lettersD ks), .val (.int deep), .val LIBD, .non, .non, .non] = .ok .nx [.var true (ns1.map .int), .val (.str (letter k)), .val (lettersD ks), .val (.int deep), .val LIBD, .val (.list ((LIB.filter fun r => r.2.2 == letter k).map rowD)), .non, .non] := by
          unfold mSetL
          rw [rows_lc]
          rfl
        have hf := f_some k
        have hf := of_decide_eq_true hf
        obtain ⟨r2, ns2, u1, u2, u3⟩ := take_eq ns1 (l := ((((LIB.filter fun r => r.2.2 == letter k).map rowD).length : Nat) : Int)) (by rw [List.length_map]; omega)
        obtain ⟨x, hx, ex⟩ := at_ex ((LIB.filter fun r => r.2.2 == letter k).map rowD) u2 u3
        obtain ⟨row, hrow, rfl⟩ := List.mem_map.mp hx
        obtain ⟨hr, hl⟩ := List.mem_filter.mp hrow
        have hl : row.2.2 = letter k := eq_of_beq hl
        generalize hrows : (PyData.list ((LIB.filter fun r => r.2.2 == letter k).map rowD)) = rows at h1
        have u4 : mCallB 0 m__law_take (mCons (mCall dLen (mCons (mVar 5) mNil)) mNil) [.var true (ns1.map .int), .val (.str (letter k)), .val (lettersD ks), .val (.int deep), .val LIBD, .val rows, .non, .non] = .ok (.int r2) [.var true (ns2.map .int), .val (.str (letter k)), .val (lettersD ks), .val (.int deep), .val LIBD, .val rows, .non, .non] := by
          rw [← hrows]
          exact callB_ok (i := 0) (b := true) (es := ns1.map .int) rfl rfl u1
        have h2 : mAsg (setV 6) (mOp dIx (mVar 5) (mCallB 0 m__law_take (mCons (mCall dLen (mCons (mVar 5) mNil)) mNil))) [.var true (ns1.map .int), .val (.str (letter k)), .val (lettersD ks), .val (.int deep), .val LIBD, .val rows, .non, .non] = .ok .nx [.var true (ns2.map .int), .val (.str (letter k)), .val (lettersD ks), .val (.int deep), .val LIBD, .val rows, .val (rowD row), .non] := by
          have ex : dIx rows (.int r2) = some (rowD row) := by rw [← hrows]; exact ex
          iterate 3 ((try simp only [u4, ex]); walk_at "ev")
        obtain ⟨as, ns3, o', w1, w2⟩ := args_lc (ks := ks) (g := g + 1) (mf := m__law_program_n m) (deep := deep) (c1 := .str (letter k)) (c4 := LIBD) (c5 := rows) (c6 := rowD row) (fun ns k => ih m (deep - 1) ns k (by omega) (by omega)) (kdsOf row.2.1) ns2 none
        have hp := f_pos row hr
        rw [Bool.and_eq_true] at hp
        have hp := of_decide_eq_true hp.2
        have h3 : mLcSB [7] (mItems (mOp dIx (mVar 6) (mC (.int 1)))) (setV 7) mYes (b__law_program_E2 (m__law_program_n m)) [.var true (ns2.map .int), .val (.str (letter k)), .val (lettersD ks), .val (.int deep), .val LIBD, .val rows, .val (rowD row), .non] = .ok as [.var true (ns3.map .int), .val (.str (letter k)), .val (lettersD ks), .val (.int deep), .val LIBD, .val rows, .val (rowD row), .non] := by
          have e1 : mItems (mOp dIx (mVar 6) (mC (.int 1))) [.var true (ns2.map .int), .val (.str (letter k)), .val (lettersD ks), .val (.int deep), .val LIBD, .val rows, .val (rowD row), .non] = .ok ((kdsOf row.2.1).map fun k => .str (letter k)) [.var true (ns2.map .int), .val (.str (letter k)), .val (lettersD ks), .val (.int deep), .val LIBD, .val rows, .val (rowD row), .non] := by
            have e1 : dIx (rowD row) (.int 1) = some (.str row.2.1) := rfl
            have e2 := f_items row hr
            iterate 3 ((try simp only [e1, e2]); walk_at "ev")
          unfold mLcSB
          rw [e1]
          have w1 : mLcB [7] (setV 7) mYes (b__law_program_E2 (m__law_program_n m)) ((kdsOf row.2.1).map fun k => .str (letter k)) [.var true (ns2.map .int), .val (.str (letter k)), .val (lettersD ks), .val (.int deep), .val LIBD, .val rows, .val (rowD row), .non] = _ := w1
          rw [DL.bind_ok, if_pos (by
            show (true && (true && decide (((kdsOf row.2.1).map fun k => PyData.str (letter k)).length ≤ LINE))) = true
            rw [decide_eq_true (show ((kdsOf row.2.1).map fun k => PyData.str (letter k)).length ≤ LINE by rw [List.length_map]; show _ ≤ 16777216; omega)]
            rfl), w1]
          rfl
        refine ⟨.tuple (.str row.1 :: as), ns3, defB_rt (n := 8) (body := b__law_program (m__law_program_n m)) (δ' := [.val (.str (letter k)), .val (lettersD ks), .val (.int deep), .val LIBD, .val rows, .val (rowD row), .non]) ?_, .app hr hl w2⟩
        show b__law_program (m__law_program_n m) [.var true (ns.map .int), .val (.str (letter k)), .val (lettersD ks), .val (.int deep), .val LIBD, .non, .non, .non] = _
        unfold b__law_program
        rw [seq_ok (by rw [if_f ((or_f hA).trans hB)]; rfl), seq_ok h1, seq_ok h2]
        have e4 : dIx (rowD row) (.int 0) = some (.str row.1) := rfl
        have e5 : dAdd (.tuple [.str row.1]) (.tuple as) = some (.tuple (.str row.1 :: as)) := by
          show (if _ then _ else _) = _
          rw [if_pos (by rw [← w2.len]; show [PyData.str row.1].length + _ ≤ 16777216; rw [List.length_singleton]; omega)]
          rfl
        iterate 5 ((try simp only [h3, e4, e5]); walk_at "ev")
end K07
end Part_SI

section Part_SJ
set_option Elab.async false
set_option linter.all false
set_option maxRecDepth 100000
set_option autoImplicit false
set_option maxHeartbeats 2000000
namespace K07
open PySem PySem.Spec PyProof.Rows L2 DL SX
local macro_rules | `(tactic| walk_at "ev") => `(tactic| try simp -implicitDefEqProofs only [mDef, mSeq, mIf, mT, mTr, mOp, mUn, mVar, mC, mCall, mCons, mNil, mRet, mSkip, mAsg, mSl, mPart, mNoPart, mAndT, mOrT, mNotT, mAnd, mOr, mNot, mIfE, mChain, mIs, mIs2, mOf, mNew, mCallF, mM1, mM0, mIxM, mLenM, mApp, mSetM, mSetIx, mAug, mFrz, mForS, mRng1, mRng2, mItems, setV_zn, setV_zv, setV_zo, setV_succ, setM, frz, setT2, mBk, mCt, mNo, 
  DL.bind_ok, DL.bind_no, DL.bind_ite, lift_some, lift_none, List.map_cons, List.map_nil, List.length_cons, List.length_nil, List.replicate_succ, List.replicate_zero, List.cons_append, List.nil_append, List.append_nil, List.getElem?_cons_zero, List.getElem?_cons_succ, List.set_cons_zero, List.set_cons_succ, Nat.reduceAdd, Nat.reduceSub, Nat.zero_add, Nat.sub_self, decide_eq_true_eq,
  add_ii, sub_ii, neg_i, mul_r, mul_l, div_s, mod_s, eq_ii, ne_ii, eq_bb, ne_bb, lt_ii, gt_ii, le_ii, ge_ii, len_l, len_t, int_i, int_b, abs_i, max_ii, min_ii, tuple_l, ix_l, ix_t, tr_b, Nat.reduceLeDiff, if_true, if_false, Option.map_some, Option.bind_some, reduceIte, Int.reduceLT, Int.reduceNeg, Int.reduceMul, Nat.reduceLT, Nat.le_refl, LINE, Bool.false_eq_true, Bool.not_true, Bool.not_false, Bool.true_eq_false, R.bind_ex, Int.reduceEq, e_number_number, e_number_truth, e_number_text, e_number_list, e_truth_number, e_truth_truth, e_truth_text, e_truth_list, e_text_number, e_text_truth, e_text_text, e_text_list, e_list_number, e_list_truth, e_list_text, e_list_list, is_bool_n, is_bool_t, is_bool_s, is_bool_l, is_int_n, is_int_t, is_int_s, is_int_l, is_str_n, is_str_t, is_str_s, is_str_l, is_tuple_n, is_tuple_t, is_tuple_s, is_tuple_l, at_z, at_o, sl_tail, tup_0, tup_1, tup_2, tup_3, rev_t, rev_l, len_l, mRaise, mDefE, mCallE])
local macro_rules | `(tactic| walk_at "ev*") => `(tactic| try simp -implicitDefEqProofs only [mDef, mSeq, mIf, mT, mTr, mOp, mUn, mVar, mC, mCall, mCons, mNil, mRet, mSkip, mAsg, mSl, mPart, mNoPart, mAndT, mOrT, mNotT, mAnd, mOr, mNot, mIfE, mChain, mIs, mIs2, mOf, mNew, mCallF, mM1, mM0, mIxM, mLenM, mApp, mSetM, mSetIx, mAug, mFrz, mForS, mRng1, mRng2, mItems, setV_zn, setV_zv, setV_zo, setV_succ, setM, frz, setT2, mBk, mCt, mNo, 
  DL.bind_ok, DL.bind_no, DL.bind_ite, lift_some, lift_none, List.map_cons, List.map_nil, List.length_cons, List.length_nil, List.replicate_succ, List.replicate_zero, List.cons_append, List.nil_append, List.append_nil, List.getElem?_cons_zero, List.getElem?_cons_succ, List.set_cons_zero, List.set_cons_succ, Nat.reduceAdd, Nat.reduceSub, Nat.zero_add, Nat.sub_self, decide_eq_true_eq,
  add_ii, sub_ii, neg_i, mul_r, mul_l, div_s, mod_s, eq_ii, ne_ii, eq_bb, ne_bb, lt_ii, gt_ii, le_ii, ge_ii, len_l, len_t, int_i, int_b, abs_i, max_ii, min_ii, tuple_l, ix_l, ix_t, tr_b, Nat.reduceLeDiff, if_true, if_false, Option.map_some, Option.bind_some, reduceIte, Int.reduceLT, Int.reduceNeg, Int.reduceMul, Nat.reduceLT, Nat.le_refl, LINE, Bool.false_eq_true, Bool.not_true, Bool.not_false, Bool.true_eq_false, R.bind_ex, Int.reduceEq, e_number_number, e_number_truth, e_number_text, e_number_list, e_truth_number, e_truth_truth, e_truth_text, e_truth_list, e_text_number, e_text_truth, e_text_text, e_text_list, e_list_number, e_list_truth, e_list_text, e_list_list, is_bool_n, is_bool_t, is_bool_s, is_bool_l, is_int_n, is_int_t, is_int_s, is_int_l, is_str_n, is_str_t, is_str_s, is_str_l, is_tuple_n, is_tuple_t, is_tuple_s, is_tuple_l, at_z, at_o, sl_tail, tup_0, tup_1, tup_2, tup_3, rev_t, rev_l, len_l, mRaise, mDefE, mCallE, *])
/-! ### trees of a depth -/
def Fn : Nat → D → Prop
  | 0, _ => False
  | n + 1, d => ∀ a ∈ argsD d, Fn n a
theorem Fn.succ : ∀ {n : Nat} {d : D}, Fn n d → Fn (n + 1) d
  | n + 1, d, h => fun a ha => (h a ha).succ
theorem Fn.le {n m : Nat} {d : D} (h : Fn n d) (hl : n ≤ m) : Fn m d := by
  obtain ⟨j, rfl⟩ : ∃ j, m = n + j := ⟨m - n, by omega⟩
  clear hl
  induction j with
  | zero => exact h
  | succ j ih => exact ih.succ
theorem parts_fn (m : Nat) : ∀ {n : Nat} {d : D}, Fn n d → partsN (n + m) d = partsN n d
  | n + 1, d, h => by
    rw [show n + 1 + m = (n + m) + 1 by omega]
    show d :: _ = d :: _
    rw [flat_congr fun a ha => parts_fn m (h a ha)]
theorem P_fn {n : Nat} {d : D} (h : Fn n d) (hn : n ≤ 50) : P d = d :: (argsD d).flatMap P := by
  have h := h.le hn
  show d :: (argsD d).flatMap (partsN 49) = _
  rw [flat_congr fun a ha => (parts_fn 1 (h a ha)).symm]
  rfl
theorem GP.fn {ks : List Kd} : ∀ {n : Nat} {k : Kd} {d : D}, GP ks n k d → Fn n d
  | n + 1, k, d, h => fun a ha => by
    obtain ⟨k', h'⟩ := h.args a ha
    exact h'.fn
def Any2 (p : Kd → D → Prop) : List Kd → List D → Prop
  | k :: ks, a :: as => p k a ∨ Any2 p ks as
  | _, _ => False
theorem Any2.mem {p : Kd → D → Prop} : ∀ {ks : List Kd} {as : List D}, Any2 p ks as → ∃ a ∈ as, ∃ k, p k a
  | k :: ks, a :: as, h => by
    rcases h with h | h
    · exact ⟨a, List.mem_cons_self, k, h⟩
    · obtain ⟨b, hb, z⟩ := Any2.mem h
      exact ⟨b, List.mem_cons_of_mem _ hb, z⟩
theorem its_any {p : Kd → D → Prop} {l : Int} : ∀ {ks : List Kd} {as : List D}, Any2 p ks as → ∃ q ∈ its ks as l, q.2.2 = l ∧ ∃ k, p k q.1 ∧ q.2.1 = .str (nameOf k)
  | k :: ks, a :: as, h => by
    rcases h with h | h
    · exact ⟨(a, .str (nameOf k), l), List.mem_cons_self, rfl, k, h, rfl⟩
    · obtain ⟨q, hq, z⟩ := its_any h
      exact ⟨q, List.mem_cons_of_mem _ hq, z⟩
theorem its_len {l : Int} : ∀ {ks : List Kd} {as : List D}, ks.length = as.length → (its ks as l).length = as.length
  | [], [], _ => rfl
  | k :: ks, a :: as, h => by
    show (its ks as l).length + 1 = as.length + 1
    rw [its_len (by simpa using h)]
section
variable (ks : List Kd) (w : D)
/-- w is wrong where a program of the kind k is wanted -/
def Wr (k : Kd) : Prop := m__is_sound [kindsD ks, w, .str (nameOf k)] = .ok (.bool false) []
/-- a tree that is wrong at w, and else right -/
def Bd : Nat → Kd → D → Prop
  | 0 => fun _ _ => False
  | n + 1 => fun k d => (d = w ∧ Wr ks w k) ∨ ∃ (r : Str × Str × Str) (as : List D), r ∈ LIB ∧ r.2.2 = letter k ∧ d = .tuple (.str r.1 :: as) ∧ All2 (fun k a => GP ks n k a ∨ Bd n k a) (kdsOf r.2.1) as ∧ Any2 (Bd n) (kdsOf r.2.1) as
end
section
variable {ks : List Kd} {w : D}
theorem Bd.fn (hw : Fn 2 w) : ∀ {n : Nat} {k : Kd} {d : D}, Bd ks w n k d → Fn (n + 1) d
  | n + 1, k, d, h => by
    rcases h with ⟨rfl, _⟩ | ⟨r, as, hr, hk, rfl, ha, hb⟩
    · exact hw.le (by omega)
    · intro a haa
      rw [args_a hr] at haa
      obtain ⟨k', h'⟩ := ha.mem haa
      rcases h' with h' | h'
      · exact h'.fn.succ
      · exact Bd.fn hw h'
theorem mem_flat {a : D} {as : List D} (h : a ∈ as) : (P a).length ≤ (as.flatMap P).length := by
  obtain ⟨l1, l2, rfl⟩ := List.append_of_mem h
  rw [List.flatMap_append, List.flatMap_cons, List.length_append, List.length_append]
  omega
theorem Bd.size (hw : Fn 2 w) : ∀ {n : Nat} {k : Kd} {d : D}, Bd ks w n k d → n ≤ 40 → (P w).length ≤ (P d).length
  | n + 1, k, d, h, hn => by
    have f := Bd.fn hw h
    rcases h with ⟨rfl, _⟩ | ⟨r, as, hr, hk, rfl, ha, hb⟩
    · exact Nat.le_refl _
    · obtain ⟨a, haa, k', h'⟩ := hb.mem
      have z1 := Bd.size hw h' (by omega)
      have z2 := mem_flat haa
      rw [P_fn f (by omega), args_a hr, List.length_cons]
      omega
/-! ### one turn -/
theorem mWhile_ex {t : M Bool} {body : M Fl} {n c : Nat} {d : D} {δ δ1 : Dl} (h1 : t δ = .ok true δ) (h2 : body δ = .ex c d δ1) : mWhile t body (n + 1) δ = .ex c d δ1 := by
  rw [mWhile]
  simp only [h1, DL.bind_ok, if_true, h2, R.bind_ex]
theorem pk_pop {d0 x w0 : D} {l c : Int} {s : List (D × D × Int)} {o4 o5 o6 : Option D} : mAsg (setT3 (setV 4) (setV 5) (setV 6)) (mPop 2) [.val (kindsD ks), .val d0, .var false (((x, w0, l) :: s).map tup3).reverse, .val (.int c), cO o4, cO o5, cO o6] = .ok .nx [.val (kindsD ks), .val d0, .var false (s.map tup3).reverse, .val (.int c), .val x, .val w0, .val (.int l)] := by
  rw [List.map_cons, List.reverse_cons]
  unfold mAsg
  rw [pop_at (w := (s.map tup3).reverse) (x := tup3 (x, w0, l)) rfl]
  cases o4 <;> cases o5 <;> cases o6 <;> rfl
theorem pk_more {d0 : D} {q : D × D × Int} {c : Int} {s : List (D × D × Int)} {o4 o5 o6 : Option D} : b_program_kind_C1 [.val (kindsD ks), .val d0, .var false ((q :: s).map tup3).reverse, .val (.int c), cO o4, cO o5, cO o6] = .ok true [.val (kindsD ks), .val d0, .var false ((q :: s).map tup3).reverse, .val (.int c), cO o4, cO o5, cO o6] := by
  rw [List.map_cons, List.reverse_cons]
  exact trM_t (w := (s.map tup3).reverse) (x := tup3 q) rfl
theorem pk_turn {d0 x w0 : D} {l c : Int} {s ws : List (D × D × Int)} {o4 o5 o6 : Option D} (es : m__is_sound [kindsD ks, x, w0] = .ok (.bool true) []) (ew : m__wanted_arguments [x, .int (l + 1)] = .ok (.list (ws.map tup3)) []) (hc : c ≠ 60) (hl : l ≤ 30) (hs : s.length + ws.length ≤ 16777216) :
    b_program_kind_L1 [.val (kindsD ks), .val d0, .var false (((x, w0, l) :: s).map tup3).reverse, .val (.int c), cO o4, cO o5, cO o6] = .ok .nx [.val (kindsD ks), .val d0, .var false ((ws ++ s).map tup3).reverse, .val (.int (c + 1)), cO (some x), cO (some w0), cO (some (.int l))] := by
  have n1 : decide (c = 60) = false := decide_eq_false hc
  have n2 : decide ((30 : Int) < l) = false := decide_eq_false (by omega)
  have h2 : mIf (mOrT (mT (mOp dEq (mVar 3) (mC c_MOST_PARTS))) (mOrT (mT (mOp dGt (mVar 6) (mC c_MOST_DEPTH))) (mNotT (mTr (mCallF m__is_sound (mCons (mVar 0) (mCons (mVar 4) (mCons (mVar 5) mNil)))))))) (mRaise 0 t_InvalidProgram (mVar 4)) mSkip [.val (kindsD ks), .val d0, .var false (s.map tup3).reverse, .val (.int c), .val x, .val w0, .val (.int l)] = .ok .nx [.val (kindsD ks), .val d0, .var false (s.map tup3).reverse, .val (.int c), .val x, .val w0, .val (.int l)] := by
    iterate 6 ((try simp only [es, n1, n2, truthD]); walk_at "ev")
    try (rw [if_neg hc, if_neg (by omega)])
  have h3 : mAug 3 (fun i j => i + j) (mC (.int 1)) [.val (kindsD ks), .val d0, .var false (s.map tup3).reverse, .val (.int c), .val x, .val w0, .val (.int l)] = .ok .nx [.val (kindsD ks), .val d0, .var false (s.map tup3).reverse, .val (.int (c + 1)), .val x, .val w0, .val (.int l)] := rfl
  have h4 : mExt 2 (mUn dRev (mCallF m__wanted_arguments (mCons (mVar 4) (mCons (mOp dAdd (mVar 6) (mC (.int 1))) mNil)))) [.val (kindsD ks), .val d0, .var false (s.map tup3).reverse, .val (.int (c + 1)), .val x, .val w0, .val (.int l)] = .ok .nx [.val (kindsD ks), .val d0, .var false ((s.map tup3).reverse ++ (ws.map tup3).reverse), .val (.int (c + 1)), .val x, .val w0, .val (.int l)] := by
    refine ext_at (i := 2) (d := .list (ws.map tup3).reverse) (b := false) (b0 := false) (ds := (s.map tup3).reverse) (ds0 := (s.map tup3).reverse) (δ1 := [.val (kindsD ks), .val d0, .var false (s.map tup3).reverse, .val (.int (c + 1)), .val x, .val w0, .val (.int l)]) rfl ?_ rfl rfl (by rw [List.length_reverse, List.length_reverse, List.length_map, List.length_map]; omega)
    iterate 4 ((try simp only [ew]); walk_at "ev")
  unfold b_program_kind_L1
  rw [seq_ok pk_pop, seq_ok h2, seq_ok h3, h4, List.map_append, List.reverse_append]
  rfl
theorem seq_ex {a b : M Fl} {δ δ1 : Dl} {c : Nat} {d : D} (h : a δ = .ex c d δ1) : mSeq a b δ = .ex c d δ1 := by
  unfold mSeq
  rw [h]
  rfl
/-- a part is refused -/
theorem pk_raise {d0 x w0 : D} {l c : Int} {s : List (D × D × Int)} {o4 o5 o6 : Option D} (h : c = 60 ∨ 30 < l ∨ m__is_sound [kindsD ks, x, w0] = .ok (.bool false) []) :
    ∃ δ, b_program_kind_L1 [.val (kindsD ks), .val d0, .var false (((x, w0, l) :: s).map tup3).reverse, .val (.int c), cO o4, cO o5, cO o6] = .ex 0 x δ := by
  have rz : ∀ δ : Dl, δ[4]? = some (.val x) → mRaise 0 t_InvalidProgram (mVar 4) δ = .ex 0 x δ := fun δ hδ => by
    unfold mRaise mVar
    rw [hδ]
    rfl
  refine ⟨[.val (kindsD ks), .val d0, .var false (s.map tup3).reverse, .val (.int c), .val x, .val w0, .val (.int l)], ?_⟩
  unfold b_program_kind_L1
  have t1 : (mT (mOp dEq (mVar 3) (mC c_MOST_PARTS))) [.val (kindsD ks), .val d0, .var false (s.map tup3).reverse, .val (.int c), .val x, .val w0, .val (.int l)] = .ok (decide (c = 60)) [.val (kindsD ks), .val d0, .var false (s.map tup3).reverse, .val (.int c), .val x, .val w0, .val (.int l)] := by
    iterate 2 walk_at "ev"
  have t2 : (mT (mOp dGt (mVar 6) (mC c_MOST_DEPTH))) [.val (kindsD ks), .val d0, .var false (s.map tup3).reverse, .val (.int c), .val x, .val w0, .val (.int l)] = .ok (decide (30 < l)) [.val (kindsD ks), .val d0, .var false (s.map tup3).reverse, .val (.int c), .val x, .val w0, .val (.int l)] := by
    iterate 2 walk_at "ev"
  by_cases hc : c = 60
  · rw [decide_eq_true hc] at t1
    rw [seq_ok pk_pop, seq_ex (by rw [if_t (or_t t1)]; exact rz _ rfl)]
  · rw [decide_eq_false hc] at t1
    by_cases hl : 30 < l
    · rw [decide_eq_true hl] at t2
      rw [seq_ok pk_pop, seq_ex (by rw [if_t ((or_f t1).trans (or_t t2))]; exact rz _ rfl)]
    · rw [decide_eq_false hl] at t2
      have es : m__is_sound [kindsD ks, x, w0] = .ok (.bool false) [] := by
        rcases h with h | h | h
        · exact absurd h hc
        · exact absurd h hl
        · exact h
      have t3 : (mNotT (mTr (mCallF m__is_sound (mCons (mVar 0) (mCons (mVar 4) (mCons (mVar 5) mNil)))))) [.val (kindsD ks), .val d0, .var false (s.map tup3).reverse, .val (.int c), .val x, .val w0, .val (.int l)] = .ok true [.val (kindsD ks), .val d0, .var false (s.map tup3).reverse, .val (.int c), .val x, .val w0, .val (.int l)] := by
        iterate 4 ((try simp only [es, truthD]); walk_at "ev")
      rw [seq_ok pk_pop, seq_ex (by rw [if_t ((or_f t1).trans ((or_f t2).trans t3))]; exact rz _ rfl)]
/-! ### one wrong part -/
def Gi (ks : List Kd) (q : D × D × Int) : Prop := ∃ (n : Nat) (k : Kd), q.2.2 + n ≤ 30 ∧ n ≤ 40 ∧ (q.2.1 = .none ∨ q.2.1 = .str (nameOf k)) ∧ GP ks n k q.1
def Bi (ks : List Kd) (w : D) (q : D × D × Int) : Prop := (q.2.2 ≤ 30 ∧ q.1 = w ∧ m__is_sound [kindsD ks, w, q.2.1] = .ok (.bool false) []) ∨
  ∃ (n : Nat) (k : Kd) (r : Str × Str × Str) (as : List D), q.2.2 + n ≤ 29 ∧ n ≤ 39 ∧ (q.2.1 = .none ∨ q.2.1 = .str (nameOf k)) ∧ r ∈ LIB ∧ r.2.2 = letter k ∧ q.1 = .tuple (.str r.1 :: as) ∧ All2 (fun k a => GP ks n k a ∨ Bd ks w n k a) (kdsOf r.2.1) as ∧ Any2 (Bd ks w n) (kdsOf r.2.1) as
theorem bi_of {q : D × D × Int} {n : Nat} {k : Kd} (hl : q.2.2 + n ≤ 30) (hn : n ≤ 40) (hk : q.2.1 = .str (nameOf k)) (h : Bd ks w n k q.1) : Bi ks w q := by
  cases n with
  | zero => exact h.elim
  | succ n =>
    rcases h with ⟨e, hw⟩ | ⟨r, as, hr, hk2, e, ha, hb⟩
    · exact .inl ⟨by omega, e, by rw [hk]; exact hw⟩
    · exact .inr ⟨n, k, r, as, by omega, by omega, .inr hk, hr, hk2, e, ha, hb⟩
theorem Bi.size (hw : Fn 2 w) {q : D × D × Int} (h : Bi ks w q) : (P w).length ≤ (P q.1).length := by
  rcases h with ⟨_, e, _⟩ | ⟨n, k, r, as, _, hn, _, hr, hk, e, ha, hb⟩
  · rw [e]; exact Nat.le_refl _
  · exact Bd.size hw (n := n + 1) (k := k) (d := q.1) (.inr ⟨r, as, hr, hk, e, ha, hb⟩) (by omega)
theorem Bi.fn (hw : Fn 2 w) {q : D × D × Int} (h : Bi ks w q) : Fn 50 q.1 := by
  rcases h with ⟨_, e, _⟩ | ⟨n, k, r, as, _, hn, _, hr, hk, e, ha, hb⟩
  · rw [e]; exact hw.le (by decide)
  · exact (Bd.fn hw (n := n + 1) (.inr ⟨r, as, hr, hk, e, ha, hb⟩ : Bd ks w (n + 1) k q.1)).le (by omega)
theorem flat_get {s : List (D × D × Int)} (h : ∀ q ∈ s, Fn 50 q.1) : s.length ≤ ((s.map (·.1)).flatMap P).length := by
  induction s with
  | nil => exact Nat.le_refl _
  | cons q s ih =>
    have z := ih fun x hx => h x (List.mem_cons_of_mem _ hx)
    rw [List.map_cons, List.flatMap_cons, List.length_append, P_fn (h q List.mem_cons_self) (Nat.le_refl _), List.length_cons, List.length_cons]
    omega
theorem mem_flat2 {q : D × D × Int} {s : List (D × D × Int)} (h : q ∈ s) : (P q.1).length ≤ ((s.map (·.1)).flatMap P).length := mem_flat (List.mem_map.mpr ⟨q, h, rfl⟩)
theorem pk_bad (hw : Fn 2 w) {d0 : D} : ∀ (m : Nat) (s : List (D × D × Int)) (c : Int) (o4 o5 o6 : Option D), 0 ≤ c → (∀ q ∈ s, Gi ks q ∨ Bi ks w q) → (∃ q ∈ s, Bi ks w q) → ((s.map (·.1)).flatMap P).length ≤ m → c + ((s.map (·.1)).flatMap P).length ≤ 59 + (P w).length → (P w).length ≤ 100 →
    ∃ δ, mWhile b_program_kind_C1 b_program_kind_L1 (m + 1) [.val (kindsD ks), .val d0, .var false (s.map tup3).reverse, .val (.int c), cO o4, cO o5, cO o6] = .ex 0 w δ
  | m, [], c, o4, o5, o6, _, _, hb, _, _, _ => by
    obtain ⟨q, hq, _⟩ := hb
    cases hq
  | 0, q :: s, c, o4, o5, o6, _, hg, _, hm, _, _ => by
    have := flat_get (s := q :: s) fun x hx => by
      rcases hg x hx with h | h
      · obtain ⟨n, k, _, hn, _, g⟩ := h
        exact g.fn.le (by omega)
      · exact h.fn hw
    rw [List.length_cons] at this
    omega
  | m + 1, (x, w0, l) :: s, c, o4, o5, o6, hc0, hg, hb, hm, hc, hP => by
    have hfn : ∀ q ∈ s, Fn 50 q.1 := fun q hq => by
      rcases hg q (List.mem_cons_of_mem _ hq) with h | h
      · obtain ⟨n, k, _, hn, _, g⟩ := h
        exact g.fn.le (by omega)
      · exact h.fn hw
    have hsl := flat_get hfn
    rw [List.map_cons, List.flatMap_cons, List.length_append] at hm hc
    by_cases hB : Bi ks w (x, w0, l)
    · rcases hB with ⟨hl, e, hs⟩ | ⟨n, k, r, as, hl, hn, hw0, hr, hk, e, ha, hany⟩
      · -- the wrong one
        simp only at hl e hs
        subst e
        obtain ⟨δ, hr⟩ := pk_raise (ks := ks) (d0 := d0) (x := x) (w0 := w0) (l := l) (c := c) (s := s) (o4 := o4) (o5 := o5) (o6 := o6) (.inr (.inr hs))
        exact ⟨δ, mWhile_ex pk_more hr⟩
      · simp only at hl hw0 e
        subst e
        have g1 : GP1 ks (fun k a => GP ks n k a ∨ Bd ks w n k a) k (.tuple (.str r.1 :: as)) := .app hr hk ha
        have es := sound g1 hw0
        have ew := wanted_node g1 hr ha.len (l + 1)
        have hbd : Bd ks w (n + 1) k (.tuple (.str r.1 :: as)) := .inr ⟨r, as, hr, hk, rfl, ha, hany⟩
        have px := P_fn (Bd.fn hw hbd) (by omega)
        rw [args_a hr] at px
        rw [px, List.length_cons] at hm hc
        obtain ⟨a, haa, k', hbad⟩ := hany.mem
        have hsz := Bd.size hw hbad (by omega)
        have hmf := mem_flat haa
        have hwl := its_len (l := l + 1) ha.len
        have hfst := its_fst (l + 1) ha
        have h3 : as.length ≤ 3 := by
          rw [← ha.len]
          have z := f_pos r hr
          rw [Bool.and_eq_true] at z
          exact of_decide_eq_true z.2
        have hall : ∀ q ∈ its (kdsOf r.2.1) as (l + 1) ++ s, Gi ks q ∨ Bi ks w q := fun q hq => by
          rcases List.mem_append.mp hq with hq | hq
          · obtain ⟨z1, _, k2, z3, z4⟩ := its_mem ha q hq
            rcases z3 with z3 | z3
            · exact .inl ⟨n, k2, by rw [z1]; omega, by omega, .inr z4, z3⟩
            · exact .inr (bi_of (n := n) (k := k2) (by rw [z1]; omega) (by omega) z4 z3)
          · exact hg q (List.mem_cons_of_mem _ hq)
        have hex : ∃ q ∈ its (kdsOf r.2.1) as (l + 1) ++ s, Bi ks w q := by
          obtain ⟨q, hq, z1, k2, z3, z4⟩ := its_any (l := l + 1) hany
          exact ⟨q, List.mem_append_left _ hq, bi_of (n := n) (k := k2) (by rw [z1]; omega) (by omega) z4 z3⟩
        have hlen : (((its (kdsOf r.2.1) as (l + 1) ++ s).map (·.1)).flatMap P).length = (as.flatMap P).length + ((s.map (·.1)).flatMap P).length := by
          rw [List.map_append, List.flatMap_append, List.length_append, hfst]
        obtain ⟨δ, ih⟩ := pk_bad hw (d0 := d0) m (its (kdsOf r.2.1) as (l + 1) ++ s) (c + 1) (some (.tuple (.str r.1 :: as))) (some w0) (some (.int l)) (by omega) hall hex (by rw [hlen]; omega) (by rw [hlen]; omega) hP
        exact ⟨δ, by rw [mWhile_turn (t := b_program_kind_C1) (body := b_program_kind_L1) pk_more (pk_turn es ew (by omega) (by omega) (by rw [hwl]; omega)), ih]⟩
    · -- a right part
      have hb' : ∃ q ∈ s, Bi ks w q := by
        obtain ⟨q, hq, z⟩ := hb
        rcases List.mem_cons.mp hq with rfl | hq
        · exact absurd z hB
        · exact ⟨q, hq, z⟩
      obtain ⟨qb, hqb, hqb2⟩ := id hb'
      have hsz := Bi.size hw hqb2
      have hmf := mem_flat2 hqb
      obtain ⟨n, k, hl, hn, hw0, g⟩ := (hg (x, w0, l) List.mem_cons_self).resolve_right hB
      simp only at hl hw0 g
      obtain ⟨n, rfl⟩ : ∃ n', n = n' + 1 := by
        cases n with
        | zero => exact g.elim
        | succ n => exact ⟨n, rfl⟩
      have es := sound (p := GP ks n) g hw0
      obtain ⟨kk, a2, hk3, ew⟩ := wanted_eq (p := GP ks n) g (l + 1)
      have px := P_fn g.fn (by omega)
      rw [px, List.length_cons] at hm hc
      have hwl := its_len (l := l + 1) a2.len
      have hfst := its_fst (l + 1) a2
      have hall : ∀ q ∈ its kk (argsD x) (l + 1) ++ s, Gi ks q ∨ Bi ks w q := fun q hq => by
        rcases List.mem_append.mp hq with hq | hq
        · obtain ⟨z1, _, k2, z3, z4⟩ := its_mem a2 q hq
          exact .inl ⟨n, k2, by rw [z1]; omega, by omega, .inr z4, z3⟩
        · exact hg q (List.mem_cons_of_mem _ hq)
      have hlen : (((its kk (argsD x) (l + 1) ++ s).map (·.1)).flatMap P).length = ((argsD x).flatMap P).length + ((s.map (·.1)).flatMap P).length := by
        rw [List.map_append, List.flatMap_append, List.length_append, hfst]
      obtain ⟨δ, ih⟩ := pk_bad hw (d0 := d0) m (its kk (argsD x) (l + 1) ++ s) (c + 1) (some x) (some w0) (some (.int l)) (by omega) hall ⟨qb, List.mem_append_right _ hqb, hqb2⟩ (by rw [hlen]; omega) (by rw [hlen]; omega) hP
      exact ⟨δ, by rw [mWhile_turn (t := b_program_kind_C1) (body := b_program_kind_L1) pk_more (pk_turn es ew (by omega) (by omega) (by rw [hwl, ← a2.len]; omega)), ih]⟩
/-! ### what program_kind then does -/
theorem pk_ex {d : D} {x : D} {n : Nat} {δ : Dl} (h : mWhile b_program_kind_C1 b_program_kind_L1 n [.val (kindsD ks), .val d, .var false (([(d, PyData.none, 1)] : List (D × D × Int)).map tup3).reverse, .val (.int 0), cO none, cO none, cO none] = .ex 0 x δ) : ∃ δ', m_program_kind [kindsD ks, d] = .ex 0 x δ' := by
  have e : mWhileS b_program_kind_C1 b_program_kind_L1 [.val (kindsD ks), .val d, .var false [.tuple [d, .none, .int 1]], .val (.int 0), .non, .non, .non] = .ex 0 x δ := by
    rw [mWhileS_eq (n := n) (by rw [show [Cell.val (kindsD ks), .val d, .var false [.tuple [d, .none, .int 1]], .val (.int 0), .non, .non, .non] = [.val (kindsD ks), .val d, .var false (([(d, PyData.none, 1)] : List (D × D × Int)).map tup3).reverse, .val (.int 0), cO none, cO none, cO none] from rfl, h]; intro z; cases z)]
    exact h
  refine ⟨δ, ?_⟩
  unfold m_program_kind b_program_kind
  iterate 6 ((try simp only [e, R.bind_ex]); walk_at "ev")
theorem told_ex {d x : D} {δ : Dl} (h : m_program_kind [kindsD ks, d] = .ex 0 x δ) : m__law_told [kindsD ks, d] = .ok (.tuple [.str "invalid", x, .bool true, .bool false]) [] := by
  have e : b__law_told_B1 [.val (kindsD ks), .val d, .non] = .ex 0 x [.val (kindsD ks), .val d, .non] := by
    unfold b__law_told_B1
    iterate 4 ((try simp only [h, R.bind_ex]); walk_at "ev")
  unfold m__law_told b__law_told
  show R.bind (mTryR 2 (fun _ => true) b__law_told_B1 (fun _ pay => [(.str "invalid"), pay, (.bool true), (.bool false)]) [.val (kindsD ks), .val d, .non]) _ = _
  unfold mTryR
  rw [e]
  rfl
end
end K07
end Part_SJ

section Part_SK
set_option Elab.async false
set_option linter.all false
set_option maxRecDepth 100000
set_option autoImplicit false
set_option maxHeartbeats 2000000
namespace K07
open PySem PySem.Spec PyProof.Rows L2 DL SX
local macro_rules | `(tactic| walk_at "ev") => `(tactic| try simp -implicitDefEqProofs only [mDef, mSeq, mIf, mT, mTr, mOp, mUn, mVar, mC, mCall, mCons, mNil, mRet, mSkip, mAsg, mSl, mPart, mNoPart, mAndT, mOrT, mNotT, mAnd, mOr, mNot, mIfE, mChain, mIs, mIs2, mOf, mNew, mCallF, mM1, mM0, mIxM, mLenM, mApp, mSetM, mSetIx, mAug, mFrz, mForS, mRng1, mRng2, mItems, setV_zn, setV_zv, setV_zo, setV_succ, setM, frz, setT2, mBk, mCt, mNo, 
  DL.bind_ok, DL.bind_no, DL.bind_ite, lift_some, lift_none, List.map_cons, List.map_nil, List.length_cons, List.length_nil, List.replicate_succ, List.replicate_zero, List.cons_append, List.nil_append, List.append_nil, List.getElem?_cons_zero, List.getElem?_cons_succ, List.set_cons_zero, List.set_cons_succ, Nat.reduceAdd, Nat.reduceSub, Nat.zero_add, Nat.sub_self, decide_eq_true_eq,
  add_ii, sub_ii, neg_i, mul_r, mul_l, div_s, mod_s, eq_ii, ne_ii, eq_bb, ne_bb, lt_ii, gt_ii, le_ii, ge_ii, len_l, len_t, int_i, int_b, abs_i, max_ii, min_ii, tuple_l, ix_l, ix_t, tr_b, Nat.reduceLeDiff, if_true, if_false, Option.map_some, Option.bind_some, reduceIte, Int.reduceLT, Int.reduceNeg, Int.reduceMul, Nat.reduceLT, Nat.le_refl, LINE, Bool.false_eq_true, Bool.not_true, Bool.not_false, Bool.true_eq_false, R.bind_ex, Int.reduceEq, e_number_number, e_number_truth, e_number_text, e_number_list, e_truth_number, e_truth_truth, e_truth_text, e_truth_list, e_text_number, e_text_truth, e_text_text, e_text_list, e_list_number, e_list_truth, e_list_text, e_list_list, is_bool_n, is_bool_t, is_bool_s, is_bool_l, is_int_n, is_int_t, is_int_s, is_int_l, is_str_n, is_str_t, is_str_s, is_str_l, is_tuple_n, is_tuple_t, is_tuple_s, is_tuple_l, at_z, at_o, sl_tail, tup_0, tup_1, tup_2, tup_3, rev_t, rev_l, len_l])
local macro_rules | `(tactic| walk_at "ev*") => `(tactic| try simp -implicitDefEqProofs only [mDef, mSeq, mIf, mT, mTr, mOp, mUn, mVar, mC, mCall, mCons, mNil, mRet, mSkip, mAsg, mSl, mPart, mNoPart, mAndT, mOrT, mNotT, mAnd, mOr, mNot, mIfE, mChain, mIs, mIs2, mOf, mNew, mCallF, mM1, mM0, mIxM, mLenM, mApp, mSetM, mSetIx, mAug, mFrz, mForS, mRng1, mRng2, mItems, setV_zn, setV_zv, setV_zo, setV_succ, setM, frz, setT2, mBk, mCt, mNo, 
  DL.bind_ok, DL.bind_no, DL.bind_ite, lift_some, lift_none, List.map_cons, List.map_nil, List.length_cons, List.length_nil, List.replicate_succ, List.replicate_zero, List.cons_append, List.nil_append, List.append_nil, List.getElem?_cons_zero, List.getElem?_cons_succ, List.set_cons_zero, List.set_cons_succ, Nat.reduceAdd, Nat.reduceSub, Nat.zero_add, Nat.sub_self, decide_eq_true_eq,
  add_ii, sub_ii, neg_i, mul_r, mul_l, div_s, mod_s, eq_ii, ne_ii, eq_bb, ne_bb, lt_ii, gt_ii, le_ii, ge_ii, len_l, len_t, int_i, int_b, abs_i, max_ii, min_ii, tuple_l, ix_l, ix_t, tr_b, Nat.reduceLeDiff, if_true, if_false, Option.map_some, Option.bind_some, reduceIte, Int.reduceLT, Int.reduceNeg, Int.reduceMul, Nat.reduceLT, Nat.le_refl, LINE, Bool.false_eq_true, Bool.not_true, Bool.not_false, Bool.true_eq_false, R.bind_ex, Int.reduceEq, e_number_number, e_number_truth, e_number_text, e_number_list, e_truth_number, e_truth_truth, e_truth_text, e_truth_list, e_text_number, e_text_truth, e_text_text, e_text_list, e_list_number, e_list_truth, e_list_text, e_list_list, is_bool_n, is_bool_t, is_bool_s, is_bool_l, is_int_n, is_int_t, is_int_s, is_int_l, is_str_n, is_str_t, is_str_s, is_str_l, is_tuple_n, is_tuple_t, is_tuple_s, is_tuple_l, at_z, at_o, sl_tail, tup_0, tup_1, tup_2, tup_3, rev_t, rev_l, len_l, *])
/-! ### a part's letter -/
theorem f_ncon : ∀ r ∈ LIB, dNe (.str r.1) (.str "constant") = some (.bool true) := all_of (g := fun _ : Str × Str × Str => some (PyData.bool true)) (by kernel_rfl)
theorem c_ncon : dNe (.str "constant") (.str "constant") = some (.bool false) := by kernel_rfl
theorem f_row : ∀ r ∈ LIB, (LIB.filter fun q => q.1 == r.1).map (·.2.2) = [r.2.2] := all_of (g := fun r : Str × Str × Str => [r.2.2]) (by kernel_rfl)
theorem nsl0 : dIx (.str "nsl") (.int 0) = some (.str (letter .n)) := by kernel_rfl
theorem nsl1 : dIx (.str "nsl") (.int 1) = some (.str (letter .s)) := by kernel_rfl
theorem nsl2 : dIx (.str "nsl") (.int 2) = some (.str (letter .l)) := by kernel_rfl
theorem shaped_s {s : Str} (h : PyData.canLay0 (.str s) = true) : SeqAt.shaped (.str s) = true := by
  show (PyData.canLay0 (.str s) && decide ((PyData.str s).depth ≤ 64)) = true
  rw [h]
  rfl
def pN (nm : Str) : D → Bool
  | .list (.str s :: _) => s == nm
  | _ => false
def thirdD : D → D
  | .list [_, _, c] => c
  | _ => .none
theorem letter_eq {ks : List Kd} {p : Kd → D → Prop} {k : Kd} {x : D} (hks : ks.length ≤ 4) (h : GP1 ks p k x) : m__law_letter [x, lettersD ks, LIBD] = .ok (.str (letter k)) [] := by
  unfold m__law_letter b__law_letter
  cases h with
  | @inp i k h =>
    have e : dIx (lettersD ks) (.int i) = some (.str (letter k)) := by
      show dIx (.str (S (ks.map code))) (.int (i : Int)) = _
      rw [ix_S (by rw [List.length_map]; omega), List.getElem?_map, h, letter_S]
      rfl
    iterate 5 ((try simp only [e, i_inp, truthD]); walk_at "ev")
  | @con k v h =>
    have c1 := c_inp
    have c2 := c_ncon
    have c3 : ((if true = true then (1 : Int) else 0)) = 1 := rfl
    have c4 : ((if false = true then (1 : Int) else 0)) = 0 := rfl
    cases h with
    | n h => iterate 9 ((try simp only [c1, c2, c3, c4, nsl0, nsl1, nsl2, truthD, Int.mul_zero, Int.mul_one, Int.zero_add, Int.add_zero]); walk_at "ev")
    | t b => iterate 9 ((try simp only [c1, c2, truthD]); walk_at "ev"); try rfl
    | s h a => iterate 9 ((try simp only [c1, c2, c3, c4, nsl0, nsl1, nsl2, truthD, Int.mul_zero, Int.mul_one, Int.zero_add, Int.add_zero]); walk_at "ev")
    | l h a => iterate 9 ((try simp only [c1, c2, c3, c4, nsl0, nsl1, nsl2, truthD, Int.mul_zero, Int.mul_one, Int.zero_add, Int.add_zero]); walk_at "ev")
  | @app r as k hr hk ha =>
    have e1 := f_inp r hr
    have e2 := f_ncon r hr
    have z := lcS_pure (j := 3) (it := mItems (mVar 2)) (t := b__law_letter_T1) (e := b__law_letter_E1) (δ := [.val (.tuple (.str r.1 :: as)), .val (lettersD ks), .val LIBD, .non]) (δ' := [.val (.tuple (.str r.1 :: as)), .val (lettersD ks), .val LIBD, .non]) (items := LIB.map rowD) (pN r.1) thirdD rfl (by simp) rfl (by rw [List.length_map]; decide) (fun x hx => by
      obtain ⟨q, hq, rfl⟩ := List.mem_map.mp hx
      have z1 : dIx (rowD q) (.int 0) = some (.str q.1) := rfl
      have z2 : dIx (rowD q) (.int 2) = some (.str q.2.2) := rfl
      have z3 : dEq (.str q.1) (.str r.1) = some (.bool (q.1 == r.1)) := eq_lit (by rw [shaped_s (f_lay q hq), shaped_s (f_lay r hr)]; rfl) rfl
      refine ⟨?_, fun _ => ?_⟩
      · unfold b__law_letter_T1
        iterate 3 ((try simp only [z1, z3]); walk_at "ev")
        rfl
      · unfold b__law_letter_E1
        iterate 3 ((try simp only [z2]); walk_at "ev")
        rfl)
    rw [List.filter_map, List.map_map] at z
    have z4 : (LIB.filter (pN r.1 ∘ rowD)).map (thirdD ∘ rowD) = [PyData.str r.2.2] := by
      have z5 := congrArg (List.map PyData.str) (f_row r hr)
      rw [List.map_map] at z5
      exact z5
    rw [z4] at z
    rw [hk] at z
    iterate 6 ((try simp only [e1, e2, z, truthD]); walk_at "ev")
/-! ### wrong parts -/
def ixK : Kd → Int
  | .n => 0 | .t => 1 | .s => 2 | .l => 3
theorem ix_letter (k : Kd) : dIndexS (.str "ntsl") [.str (letter k)] = some (.int (ixK k)) := by cases k <;> kernel_rfl
theorem ntsl_ix {i : Int} (h0 : 0 ≤ i) (h1 : i < 4) : ∃ k : Kd, ixK k = i ∧ dIx (.str "ntsl") (.int i) = some (.str (letter k)) := by
  obtain ⟨n, rfl⟩ := Int.eq_ofNat_of_zero_le h0
  have hn : n < 4 := by omega
  match n, hn with
  | 0, _ => exact ⟨.n, rfl, by kernel_rfl⟩
  | 1, _ => exact ⟨.t, rfl, by kernel_rfl⟩
  | 2, _ => exact ⟨.s, rfl, by kernel_rfl⟩
  | 3, _ => exact ⟨.l, rfl, by kernel_rfl⟩
def valK : Kd → D
  | .n => .int 1 | .t => .bool true | .s => .str "a" | .l => .tuple []
theorem val_vk (k : Kd) : Vk k (valK k) := by
  cases k
  · exact .n ⟨by decide, by decide⟩
  · exact .t true
  · have : (PyData.str "a") = .str (S [97]) := by kernel_rfl
    show Vk .s (.str "a")
    rw [this]
    exact .s (by decide) (by decide)
  · exact .l (ns := []) (by decide) (by simp)
def vals4 : List D := [.int 1, .bool true, .str "a", .tuple []]
theorem vals_at (k : Kd) : atI [PyData.int 1, PyData.bool true, PyData.str "a", PyData.tuple []] (ixK k) = some (valK k) := by cases k <;> rfl
def W12 (v : D) (c : Int) : List D := [.tuple [.str "constant", v], .tuple [.str "input", .int c], .tuple [.str "input", .int (-1)], .tuple [.str "input", .bool true], .tuple [.str "constant", .none], .tuple [.str "constant", .list [.int 1, .int 2]], .tuple [.str "constant", .int 1000001], .tuple [.str "constant"], .tuple [.str "input", .int 0, .int 0], .tuple [.str "nothing", .tuple [.str "constant", .int 1]], .list [.str "neg", .tuple [.str "constant", .int 1]], .tuple []]
theorem wrong_eq (n : Int) (k : Kd) (c : Int) (hn : 0 ≤ n) : ∃ k2 : Kd, k2 ≠ k ∧ ∃ x, m__law_wrong [.int n, .str (letter k), .int c] = .ok x [] ∧ atI (W12 (valK k2) c) (n % 12) = some x := by
  have hk : 0 ≤ ixK k ∧ ixK k < 4 := by cases k <;> decide
  obtain ⟨k2, h1, h2⟩ := ntsl_ix (i := (ixK k + 1 + n / 12 % 3) % 4) (by omega) (by omega)
  have e1 := ix_letter k
  have e2 := ix_letter k2
  have e3 := vals_at k2
  obtain ⟨x, _, ex⟩ := at_ex (W12 (valK k2) c) (i := n % 12) (by omega) (by show _ < (12 : Int); omega)
  refine ⟨k2, fun e => by subst e; omega, x, ?_, ex⟩
  unfold W12 at ex
  have e4 : dMod (.int (ixK k + 1 + n / 12 % 3)) (.int 4) = some (.int ((ixK k + 1 + n / 12 % 3) % 4)) := mod_s (by decide)
  unfold m__law_wrong b__law_wrong
  iterate 12 ((try simp only [e1, e2, e3, e4, h2, ex]); walk_at "ev")
/-- what is no part at all -/
theorem w1 (ks : List Kd) (w0 : D) : m__is_sound [kindsD ks, .tuple [.str "input", .int (ks.length : Nat)], w0] = .ok (.bool false) [] := by
  have el : dLen [kindsD ks] = some (.int ks.length) := by
    show some (PyData.int ((ks.map fun k => PyData.str (nameOf k)).length : Nat)) = _
    rw [List.length_map]
  have ei : m__is_index [.int (ks.length : Nat), .int (ks.length : Nat)] = .ok (.bool false) [] := by
    have e1 : decide ((0 : Int) ≤ (ks.length : Nat)) = true := decide_eq_true (by omega)
    have e2 : decide (((ks.length : Nat) : Int) < (ks.length : Nat)) = false := decide_eq_false (by omega)
    unfold m__is_index b__is_index
    iterate 5 ((try simp only [truthD, e1, e2]); walk_at "ev")
  unfold m__is_sound b__is_sound
  iterate 9 ((try simp only [el, ei, i_inp, c20, c22, decide_true, decide_false, truthD]); walk_at "ev")
  try rfl
theorem w2 (ks : List Kd) (w0 : D) : m__is_sound [kindsD ks, .tuple [.str "input", .int (-1)], w0] = .ok (.bool false) [] := by
  have el : dLen [kindsD ks] = some (.int ks.length) := by
    show some (PyData.int ((ks.map fun k => PyData.str (nameOf k)).length : Nat)) = _
    rw [List.length_map]
  have ei : m__is_index [.int (-1), .int (ks.length : Nat)] = .ok (.bool false) [] := by
    have e1 : decide ((0 : Int) ≤ -1) = false := by decide
    unfold m__is_index b__is_index
    iterate 5 ((try simp only [truthD, e1]); walk_at "ev")
  unfold m__is_sound b__is_sound
  iterate 9 ((try simp only [el, ei, i_inp, c20, c22, decide_true, decide_false, truthD]); walk_at "ev")
  try rfl
theorem w3 (ks : List Kd) (w0 : D) : m__is_sound [kindsD ks, .tuple [.str "input", .bool true], w0] = .ok (.bool false) [] := by
  have el : dLen [kindsD ks] = some (.int ks.length) := by
    show some (PyData.int ((ks.map fun k => PyData.str (nameOf k)).length : Nat)) = _
    rw [List.length_map]
  have ei : m__is_index [.bool true, .int (ks.length : Nat)] = .ok (.bool false) [] := by
    unfold m__is_index b__is_index
    iterate 5 ((try simp only [truthD]); walk_at "ev")
  unfold m__is_sound b__is_sound
  iterate 9 ((try simp only [el, ei, i_inp, c20, c22, decide_true, decide_false, truthD]); walk_at "ev")
  try rfl
theorem wc {v : D} (h : m_is_of_some_kind [v] = .ok (.bool false) []) (ks : List Kd) (w0 : D) : m__is_sound [kindsD ks, .tuple [.str "constant", v], w0] = .ok (.bool false) [] := by
  unfold m__is_sound b__is_sound
  iterate 9 ((try simp only [h, c_inp, c_con, c20, c22, decide_true, decide_false, truthD]); walk_at "ev")
  try rfl
theorem c10 : (((1 : Nat) : Int) = 0) = False := eq_false (by decide)
theorem c12 : (((1 : Nat) : Int) = 2) = False := eq_false (by decide)
theorem c30 : (((3 : Nat) : Int) = 0) = False := eq_false (by decide)
theorem c32 : (((3 : Nat) : Int) = 2) = False := eq_false (by decide)
theorem c00 : (((0 : Nat) : Int) = 0) = True := eq_true (by decide)
theorem w7 (ks : List Kd) (w0 : D) : m__is_sound [kindsD ks, .tuple [.str "constant"], w0] = .ok (.bool false) [] := by
  unfold m__is_sound b__is_sound
  iterate 9 ((try simp only [c_inp, c_con, c10, c12, decide_true, decide_false, truthD]); walk_at "ev")
  try rfl
theorem w8 (ks : List Kd) (w0 : D) : m__is_sound [kindsD ks, .tuple [.str "input", .int 0, .int 0], w0] = .ok (.bool false) [] := by
  unfold m__is_sound b__is_sound
  iterate 9 ((try simp only [i_inp, c30, c32, decide_true, decide_false, truthD]); walk_at "ev")
  try rfl
theorem no_inp : dEq (.str "nothing") (.str "input") = some (.bool false) := by kernel_rfl
theorem no_con : dEq (.str "nothing") (.str "constant") = some (.bool false) := by kernel_rfl
theorem no_comp : m_is_component [.str "nothing"] = .ok (.bool false) [] := by kernel_rfl
theorem w9 (ks : List Kd) (w0 : D) : m__is_sound [kindsD ks, .tuple [.str "nothing", .tuple [.str "constant", .int 1]], w0] = .ok (.bool false) [] := by
  unfold m__is_sound b__is_sound
  iterate 9 ((try simp only [no_inp, no_con, no_comp, c20, c22, decide_true, decide_false, truthD]); walk_at "ev")
  try rfl
theorem is_tuple_ll (l : List D) : isD "tuple" (.list l) = false := by show isT "tuple" "list" = _; decide
theorem w10 (ks : List Kd) (l : List D) (w0 : D) : m__is_sound [kindsD ks, .list l, w0] = .ok (.bool false) [] := by
  unfold m__is_sound b__is_sound
  iterate 9 ((try simp only [is_tuple_ll, truthD]); walk_at "ev")
theorem w11 (ks : List Kd) (w0 : D) : m__is_sound [kindsD ks, .tuple [], w0] = .ok (.bool false) [] := by
  unfold m__is_sound b__is_sound
  iterate 9 ((try simp only [c00, decide_true, truthD]); walk_at "ev")
  try rfl
theorem e_ne {j k : Kd} (h : j ≠ k) : dEq (.str (nameOf j)) (.str (nameOf k)) = some (.bool false) := by
  cases j <;> cases k <;> first | exact absurd rfl h | kernel_rfl
theorem w0 {k2 k : Kd} (h : k2 ≠ k) (ks : List Kd) : Wr ks (.tuple [.str "constant", valK k2]) k := by
  have g : GP1 ks (fun _ _ => True) k2 (.tuple [.str "constant", valK k2]) := .con (val_vk k2)
  have ep := part_kind g
  have es := some_kind (val_vk k2)
  have en := e_ne h
  show m__is_sound [kindsD ks, .tuple [.str "constant", valK k2], .str (nameOf k)] = .ok (.bool false) []
  unfold m__is_sound b__is_sound
  iterate 9 ((try simp only [ep, es, en, isN_s, c_inp, c_con, c20, c22, decide_true, decide_false, truthD]); walk_at "ev")
  try rfl
/-- a wrong part: refused for the kind k, and everywhere if it is not the first of the twelve -/
theorem wrongs {k2 k : Kd} (h : k2 ≠ k) {ks : List Kd} {i : Int} (h0 : 0 ≤ i) (h1 : i < 12) {x : D} (hx : atI (W12 (valK k2) (ks.length : Nat)) i = some x) : Wr ks x k ∧ (i ≠ 0 → m__is_sound [kindsD ks, x, .none] = .ok (.bool false) []) ∧ Fn 2 x ∧ (argsD x).length ≤ 1 ∧ x.canLay0 = true ∧ x.depth ≤ 10 := by
  have ai : ∀ l : List D, argsD (.tuple (.str "input" :: l)) = [] := fun l => by show (if leafS "input" = true then [] else l) = _; rw [leaf_i]; rfl
  have ac : ∀ l : List D, argsD (.tuple (.str "constant" :: l)) = [] := fun l => by show (if leafS "constant" = true then [] else l) = _; rw [leaf_c]; rfl
  have l1 : PyData.canLay0 (.str "input") = true := by kernel_rfl
  have l2 : PyData.canLay0 (.str "constant") = true := by kernel_rfl
  have f0 : ∀ y : D, argsD y = [] → Fn 2 y ∧ (argsD y).length ≤ 1 := fun y e => ⟨fun a ha => absurd ha (by rw [e]; exact List.not_mem_nil), by rw [e]; decide⟩
  obtain ⟨n, rfl⟩ := Int.eq_ofNat_of_zero_le h0
  have hn : n < 12 := by omega
  rw [at_nat] at hx
  match n, hn, hx with
  | 0, _, hx =>
    cases hx
    refine ⟨w0 h ks, fun e => absurd rfl e, (f0 _ (ac _)).1, (f0 _ (ac _)).2, ?_, ?_⟩
    · cases k2 <;> kernel_rfl
    · cases k2 <;> decide
  | 1, _, hx => cases hx; exact ⟨w1 ks _, fun _ => w1 ks _, (f0 _ (ai _)).1, (f0 _ (ai _)).2, by show (PyData.canLay0 (.str "input") && (true && true)) = true; rw [l1]; rfl, by show max 0 (max 0 0) + 1 ≤ 10; decide⟩
  | 2, _, hx => cases hx; exact ⟨w2 ks _, fun _ => w2 ks _, (f0 _ (ai _)).1, (f0 _ (ai _)).2, by kernel_rfl, by decide⟩
  | 3, _, hx => cases hx; exact ⟨w3 ks _, fun _ => w3 ks _, (f0 _ (ai _)).1, (f0 _ (ai _)).2, by kernel_rfl, by decide⟩
  | 4, _, hx => cases hx; exact ⟨wc (by kernel_rfl) ks _, fun _ => wc (by kernel_rfl) ks _, (f0 _ (ac _)).1, (f0 _ (ac _)).2, by kernel_rfl, by decide⟩
  | 5, _, hx => cases hx; exact ⟨wc (by kernel_rfl) ks _, fun _ => wc (by kernel_rfl) ks _, (f0 _ (ac _)).1, (f0 _ (ac _)).2, by kernel_rfl, by decide⟩
  | 6, _, hx => cases hx; exact ⟨wc (by kernel_rfl) ks _, fun _ => wc (by kernel_rfl) ks _, (f0 _ (ac _)).1, (f0 _ (ac _)).2, by kernel_rfl, by decide⟩
  | 7, _, hx => cases hx; exact ⟨w7 ks _, fun _ => w7 ks _, (f0 _ (ac _)).1, (f0 _ (ac _)).2, by kernel_rfl, by decide⟩
  | 8, _, hx => cases hx; exact ⟨w8 ks _, fun _ => w8 ks _, (f0 _ (ai _)).1, (f0 _ (ai _)).2, by kernel_rfl, by decide⟩
  | 9, _, hx =>
    cases hx
    have e : argsD (.tuple [.str "nothing", .tuple [.str "constant", .int 1]]) = [.tuple [.str "constant", .int 1]] := by kernel_rfl
    refine ⟨w9 ks _, fun _ => w9 ks _, fun a ha => ?_, by rw [e]; decide, by kernel_rfl, by decide⟩
    rw [e] at ha
    rw [List.mem_singleton.mp ha]
    intro b hb
    rw [ac] at hb
    cases hb
  | 10, _, hx => cases hx; exact ⟨w10 ks _ _, fun _ => w10 ks _ _, (f0 _ rfl).1, (f0 _ rfl).2, by kernel_rfl, by decide⟩
  | 11, _, hx => cases hx; exact ⟨w11 ks _, fun _ => w11 ks _, (f0 _ rfl).1, (f0 _ rfl).2, by kernel_rfl, by decide⟩
theorem P_two {x : D} (h : Fn 2 x) (hl : (argsD x).length ≤ 1) : (P x).length ≤ 2 ∧ 1 ≤ (P x).length := by
  rw [P_fn h (by decide), List.length_cons]
  refine ⟨?_, by omega⟩
  match q : argsD x, hl with
  | [], _ => simp
  | [a], _ =>
    have ha : Fn 1 a := h a (by rw [q]; exact List.mem_singleton.mpr rfl)
    have e : argsD a = [] := by
      cases z : argsD a with
      | nil => rfl
      | cons b l => exact (ha b (by rw [z]; exact List.mem_cons_self)).elim
    rw [List.flatMap_cons, List.flatMap_nil, List.append_nil, P_fn ha (by decide), e]
    simp
end K07
end Part_SK

section Part_SL
set_option Elab.async false
set_option linter.all false
set_option maxRecDepth 100000
set_option autoImplicit false
set_option maxHeartbeats 2000000
namespace K07
open PySem PySem.Spec PyProof.Rows L2 DL SX
local macro_rules | `(tactic| walk_at "ev") => `(tactic| try simp -implicitDefEqProofs only [mDef, mSeq, mIf, mT, mTr, mOp, mUn, mVar, mC, mCall, mCons, mNil, mRet, mSkip, mAsg, mSl, mPart, mNoPart, mAndT, mOrT, mNotT, mAnd, mOr, mNot, mIfE, mChain, mIs, mIs2, mOf, mNew, mCallF, mM1, mM0, mIxM, mLenM, mApp, mSetM, mSetIx, mAug, mFrz, mForS, mRng1, mRng2, mItems, setV_zn, setV_zv, setV_zo, setV_succ, setM, frz, setT2, mBk, mCt, mNo, 
  DL.bind_ok, DL.bind_no, DL.bind_ite, lift_some, lift_none, List.map_cons, List.map_nil, List.length_cons, List.length_nil, List.replicate_succ, List.replicate_zero, List.cons_append, List.nil_append, List.append_nil, List.getElem?_cons_zero, List.getElem?_cons_succ, List.set_cons_zero, List.set_cons_succ, Nat.reduceAdd, Nat.reduceSub, Nat.zero_add, Nat.sub_self, decide_eq_true_eq,
  add_ii, sub_ii, neg_i, mul_r, mul_l, div_s, mod_s, eq_ii, ne_ii, eq_bb, ne_bb, lt_ii, gt_ii, le_ii, ge_ii, len_l, len_t, int_i, int_b, abs_i, max_ii, min_ii, tuple_l, ix_l, ix_t, tr_b, Nat.reduceLeDiff, if_true, if_false, Option.map_some, Option.bind_some, reduceIte, Int.reduceLT, Int.reduceNeg, Int.reduceMul, Nat.reduceLT, Nat.le_refl, LINE, Bool.false_eq_true, Bool.not_true, Bool.not_false, Bool.true_eq_false, R.bind_ex, Int.reduceEq, e_number_number, e_number_truth, e_number_text, e_number_list, e_truth_number, e_truth_truth, e_truth_text, e_truth_list, e_text_number, e_text_truth, e_text_text, e_text_list, e_list_number, e_list_truth, e_list_text, e_list_list, is_bool_n, is_bool_t, is_bool_s, is_bool_l, is_int_n, is_int_t, is_int_s, is_int_l, is_str_n, is_str_t, is_str_s, is_str_l, is_tuple_n, is_tuple_t, is_tuple_s, is_tuple_l, at_z, at_o, sl_tail, tup_0, tup_1, tup_2, tup_3, rev_t, rev_l, len_l])
local macro_rules | `(tactic| walk_at "ev*") => `(tactic| try simp -implicitDefEqProofs only [mDef, mSeq, mIf, mT, mTr, mOp, mUn, mVar, mC, mCall, mCons, mNil, mRet, mSkip, mAsg, mSl, mPart, mNoPart, mAndT, mOrT, mNotT, mAnd, mOr, mNot, mIfE, mChain, mIs, mIs2, mOf, mNew, mCallF, mM1, mM0, mIxM, mLenM, mApp, mSetM, mSetIx, mAug, mFrz, mForS, mRng1, mRng2, mItems, setV_zn, setV_zv, setV_zo, setV_succ, setM, frz, setT2, mBk, mCt, mNo, 
  DL.bind_ok, DL.bind_no, DL.bind_ite, lift_some, lift_none, List.map_cons, List.map_nil, List.length_cons, List.length_nil, List.replicate_succ, List.replicate_zero, List.cons_append, List.nil_append, List.append_nil, List.getElem?_cons_zero, List.getElem?_cons_succ, List.set_cons_zero, List.set_cons_succ, Nat.reduceAdd, Nat.reduceSub, Nat.zero_add, Nat.sub_self, decide_eq_true_eq,
  add_ii, sub_ii, neg_i, mul_r, mul_l, div_s, mod_s, eq_ii, ne_ii, eq_bb, ne_bb, lt_ii, gt_ii, le_ii, ge_ii, len_l, len_t, int_i, int_b, abs_i, max_ii, min_ii, tuple_l, ix_l, ix_t, tr_b, Nat.reduceLeDiff, if_true, if_false, Option.map_some, Option.bind_some, reduceIte, Int.reduceLT, Int.reduceNeg, Int.reduceMul, Nat.reduceLT, Nat.le_refl, LINE, Bool.false_eq_true, Bool.not_true, Bool.not_false, Bool.true_eq_false, R.bind_ex, Int.reduceEq, e_number_number, e_number_truth, e_number_text, e_number_list, e_truth_number, e_truth_truth, e_truth_text, e_truth_list, e_text_number, e_text_truth, e_text_text, e_text_list, e_list_number, e_list_truth, e_list_text, e_list_list, is_bool_n, is_bool_t, is_bool_s, is_bool_l, is_int_n, is_int_t, is_int_s, is_int_l, is_str_n, is_str_t, is_str_s, is_str_l, is_tuple_n, is_tuple_t, is_tuple_s, is_tuple_l, at_z, at_o, sl_tail, tup_0, tup_1, tup_2, tup_3, rev_t, rev_l, len_l, *])
/-! ### replacing a part -/
def Sn (as : List D) (i : Nat) : Nat := ((as.take i).flatMap P).length
theorem Sn_succ {as : List D} {i : Nat} (hi : i < as.length) : Sn as (i + 1) = Sn as i + (P as[i]).length := by
  unfold Sn
  rw [List.take_succ_eq_append_getElem hi, List.flatMap_append, List.length_append]
  simp
theorem Sn_mono {as : List D} {i j : Nat} (h : i ≤ j) : Sn as i ≤ Sn as j := by
  unfold Sn
  have : as.take j = as.take i ++ (as.take j).drop i := by
    have z := List.take_append_drop i (as.take j)
    rw [List.take_take, Nat.min_eq_left h] at z
    exact z.symm
  rw [this, List.flatMap_append, List.length_append]
  omega
theorem Sn_all (as : List D) : Sn as as.length = (as.flatMap P).length := by
  unfold Sn
  rw [List.take_length]
theorem find_part : ∀ (as : List D) (t : Nat), t < (as.flatMap P).length → ∃ j, ∃ hj : j < as.length, Sn as j ≤ t ∧ t < Sn as j + (P as[j]).length ∧ (as.flatMap P)[t]? = (P as[j])[t - Sn as j]?
  | [], t, h => by simp at h
  | a :: as, t, h => by
    by_cases q : t < (P a).length
    · refine ⟨0, Nat.succ_pos _, by simp [Sn], by simpa [Sn] using q, ?_⟩
      rw [List.flatMap_cons, List.getElem?_append_left q]
      simp [Sn]
    · rw [List.flatMap_cons, List.length_append] at h
      obtain ⟨j, hj, h1, h2, h3⟩ := find_part as (t - (P a).length) (by omega)
      have e : Sn (a :: as) (j + 1) = (P a).length + Sn as j := by
        unfold Sn
        rw [List.take_succ_cons, List.flatMap_cons, List.length_append]
      refine ⟨j + 1, Nat.succ_lt_succ hj, by rw [e]; omega, by rw [e, List.getElem_cons_succ]; omega, ?_⟩
      rw [List.flatMap_cons, List.getElem?_append_right (by omega), h3, e, List.getElem_cons_succ]
      congr 1
      omega
theorem all2_set {p q : Kd → D → Prop} (hpq : ∀ k a, p k a → q k a) : ∀ {kk : List Kd} {as : List D} {j : Nat}, All2 p kk as → (hj : j < as.length) → ∃ k1, p k1 as[j] ∧ ∀ (b : D) (r : Kd → D → Prop), q k1 b → r k1 b → All2 q kk (as.set j b) ∧ Any2 r kk (as.set j b)
  | k :: kk, a :: as, 0, h, hj => ⟨k, h.1, fun b r hb hr => ⟨⟨hb, h.2.mono hpq⟩, .inl hr⟩⟩
  | k :: kk, a :: as, j + 1, h, hj => by
    obtain ⟨k1, h1, h2⟩ := all2_set hpq (j := j) h.2 (by simpa using hj)
    refine ⟨k1, h1, fun b r hb hr => ?_⟩
    obtain ⟨z1, z2⟩ := h2 b r hb hr
    exact ⟨⟨hpq _ _ h.1, z1⟩, .inr z2⟩
  | [], [], j, h, hj => absurd hj (Nat.not_lt_zero _)
theorem flat_set {b : D} : ∀ {as : List D} {j : Nat} (hj : j < as.length), ((as.set j b).flatMap P).length + (P as[j]).length = (as.flatMap P).length + (P b).length
  | a :: as, 0, _ => by
    rw [List.set_cons_zero, List.flatMap_cons, List.flatMap_cons, List.length_append, List.length_append, List.getElem_cons_zero]
    omega
  | a :: as, j + 1, hj => by
    have := flat_set (b := b) (as := as) (j := j) (by simpa using hj)
    rw [List.set_cons_succ, List.flatMap_cons, List.flatMap_cons, List.length_append, List.length_append, List.getElem_cons_succ]
    omega
theorem rl_turn {mf : List D → R D} {d w x y : D} {a i bf : Int} {cnt : Nat} {rows : List D} {o5 o6 : Option D} {pl : List D} (hx : dIx d (.int i) = some x) (hp : m__law_parts [x] = .ok (.list pl) []) (hl : pl.length = cnt) (hr : rows.length < 16777216)
    (h : (¬ (bf ≤ a ∧ a < bf + cnt) ∧ y = x) ∨ ((bf ≤ a ∧ a < bf + cnt) ∧ ∃ δ, mf [x, .int (a - bf), w] = .ok y δ)) :
    b__law_replaced_L1 mf [.val d, .val (.int a), .val w, .val (.int bf), .var false rows, .val (.int i), cO o6] = .ok .nx [.val d, .val (.int a), .val w, .val (.int (bf + cnt)), .var false (rows ++ [y]), .val (.int i), cO (some (.int cnt))] := by
  subst hl
  have h1 : mAsg (setV 6) (mCall dLen (mCons (mCallF m__law_parts (mCons (mOp dIx (mVar 0) (mVar 5)) mNil)) mNil)) [.val d, .val (.int a), .val w, .val (.int bf), .var false rows, .val (.int i), cO o6] = .ok .nx [.val d, .val (.int a), .val w, .val (.int bf), .var false rows, .val (.int i), .val (.int pl.length)] := by
    cases o6 <;> (iterate 3 ((try simp only [hx, hp, cO]); walk_at "ev"))
  have h3 : mAsg (setV 3) (mOp dAdd (mVar 3) (mVar 6)) [.val d, .val (.int a), .val w, .val (.int bf), .var false (rows ++ [y]), .val (.int i), .val (.int pl.length)] = .ok .nx [.val d, .val (.int a), .val w, .val (.int (bf + pl.length)), .var false (rows ++ [y]), .val (.int i), .val (.int pl.length)] := rfl
  have t : (mT (mChain dLe dLt (mVar 3) (mVar 1) (mOp dAdd (mVar 3) (mVar 6)))) [.val d, .val (.int a), .val w, .val (.int bf), .var false rows, .val (.int i), .val (.int pl.length)] = .ok (decide (bf ≤ a ∧ a < bf + pl.length)) [.val d, .val (.int a), .val w, .val (.int bf), .var false rows, .val (.int i), .val (.int pl.length)] := by
    by_cases q : bf ≤ a
    · have e1 : decide (bf ≤ a) = true := decide_eq_true q
      have e2 : decide (bf ≤ a ∧ a < bf + pl.length) = decide (a < bf + pl.length) := by simp [q]
      rw [e2]
      iterate 4 ((try simp only [e1, truthD]); walk_at "ev")
    · have e1 : decide (bf ≤ a) = false := decide_eq_false q
      have e2 : decide (bf ≤ a ∧ a < bf + pl.length) = false := decide_eq_false fun z => q z.1
      rw [e2]
      iterate 4 ((try simp only [e1, truthD]); walk_at "ev")
  have h2 : mIf (mT (mChain dLe dLt (mVar 3) (mVar 1) (mOp dAdd (mVar 3) (mVar 6)))) (mApp 4 (mCallF mf (mCons (mOp dIx (mVar 0) (mVar 5)) (mCons (mOp dSub (mVar 1) (mVar 3)) (mCons (mVar 2) mNil))))) (mApp 4 (mOp dIx (mVar 0) (mVar 5))) [.val d, .val (.int a), .val w, .val (.int bf), .var false rows, .val (.int i), .val (.int pl.length)] = .ok .nx [.val d, .val (.int a), .val w, .val (.int bf), .var false (rows ++ [y]), .val (.int i), .val (.int pl.length)] := by
    rcases h with ⟨hn, rfl⟩ | ⟨hy, δ, hm⟩
    · rw [decide_eq_false hn] at t
      rw [if_f t]
      refine app_at (i := 4) (a := mOp dIx (mVar 0) (mVar 5)) (d := y) (b := false) (b0 := false) (ds := rows) (ds0 := rows) (δ1 := [.val d, .val (.int a), .val w, .val (.int bf), .var false rows, .val (.int i), .val (.int pl.length)]) rfl ?_ rfl hr
      iterate 2 ((try simp only [hx]); walk_at "ev")
    · rw [decide_eq_true hy] at t
      rw [if_t t]
      refine app_at (i := 4) (a := mCallF mf (mCons (mOp dIx (mVar 0) (mVar 5)) (mCons (mOp dSub (mVar 1) (mVar 3)) (mCons (mVar 2) mNil)))) (d := y) (b := false) (b0 := false) (ds := rows) (ds0 := rows) (δ1 := [.val d, .val (.int a), .val w, .val (.int bf), .var false rows, .val (.int i), .val (.int pl.length)]) rfl ?_ rfl hr
      iterate 3 ((try simp only [hx, hm]); walk_at "ev")
  unfold b__law_replaced_L1
  rw [seq_ok h1, seq_ok h2, h3]
  rfl
/-- .. and not at its root -/
def BdN (ks : List Kd) (w : D) : Nat → Kd → D → Prop
  | 0 => fun _ _ => False
  | n + 1 => fun k d => ∃ (r : Str × Str × Str) (as : List D), r ∈ LIB ∧ r.2.2 = letter k ∧ d = .tuple (.str r.1 :: as) ∧ All2 (fun k a => GP ks n k a ∨ Bd ks w n k a) (kdsOf r.2.1) as ∧ Any2 (Bd ks w n) (kdsOf r.2.1) as
theorem repl_eq {ks : List Kd} {w : D} (hw : Fn 2 w) : ∀ {n : Nat} {k : Kd} {d : D}, GP ks n k d → n ≤ 39 → ∀ {m : Nat}, n ≤ m → ∀ {a : Nat}, a < (P d).length → (P d).length ≤ 60 → (∀ x, (P d)[a]? = some x → ∀ k' n', n' ≤ 40 → GP ks n' k' x → Wr ks w k') →
    ∃ d' δ, m__law_replaced_n m [d, .int a, w] = .ok d' δ ∧ Bd ks w n k d' ∧ (P d').length + 1 ≤ (P d).length + (P w).length ∧ (a = 0 → d' = w) ∧ (a ≠ 0 → BdN ks w n k d')
  | n + 1, k, d, h, hn, m, hm, a, ha, hl, hW => by
    obtain ⟨m, rfl⟩ : ∃ m', m = m' + 1 := ⟨m - 1, by omega⟩
    have pd := P_fn h.fn (by omega)
    show ∃ d' δ, mDef 7 (b__law_replaced (m__law_replaced_n m)) [d, .int a, w] = .ok d' δ ∧ _
    cases a with
    | zero =>
      refine ⟨w, [], ?_, .inl ⟨rfl, hW d (by rw [pd]; rfl) k (n + 1) (by omega) h⟩, by omega, fun _ => rfl, fun e => absurd rfl e⟩
      unfold b__law_replaced
      iterate 5 walk_at "ev"
      try rfl
    | succ t =>
      have ht : t < ((argsD d).flatMap P).length := by rw [pd, List.length_cons] at ha; omega
      cases h with
      | inp h => rw [args_i] at ht; cases ht
      | con h => rw [args_c] at ht; cases ht
      | @app r as k hr hk h2 =>
        rw [args_a hr] at ht pd
        obtain ⟨j, hj, j1, j2, j3⟩ := find_part as t ht
        obtain ⟨k1, g1, hset⟩ := all2_set (q := fun k a => GP ks n k a ∨ Bd ks w n k a) (fun k a z => .inl z) h2 hj
        have hlj : (P as[j]).length + 1 ≤ (P (.tuple (.str r.1 :: as))).length := by
          have := mem_flat (List.getElem_mem hj)
          rw [pd, List.length_cons]
          omega
        obtain ⟨b, δb, hb, hbd, hbs, _, _⟩ := repl_eq hw g1 (by omega) (m := m) (by omega) (a := t - Sn as j) (by omega) (by omega) (fun x hx k' n' hn' g => hW x (by rw [pd, List.getElem?_cons_succ, j3]; exact hx) k' n' hn' g)
        obtain ⟨z1, z2⟩ := hset b (Bd ks w n) (.inr hbd) hbd
        have hlen3 : as.length ≤ 3 := by
          rw [← h2.len]
          have z := f_pos r hr
          rw [Bool.and_eq_true] at z
          exact of_decide_eq_true z.2
        have bd' : Bd ks w (n + 1) k (.tuple (.str r.1 :: as.set j b)) := .inr ⟨r, as.set j b, hr, hk, rfl, z1, z2⟩
        obtain ⟨δ', e4, o5, o6, rfl⟩ := mFor_inv (g := setV 5) (body := b__law_replaced_L1 (m__law_replaced_n m)) (items := rng 1 (as.length + 1 : Int)) (fun i δ => ∃ o5 o6, δ = [.val (.tuple (.str r.1 :: as)), .val (.int ((t + 1 : Nat) : Int)), .val w, .val (.int (1 + Sn as i : Int)), .var false (.str r.1 :: (as.set j b).take i), cO o5, cO o6]) (fun i x δ hx I => by
          obtain ⟨o5, o6, rfl⟩ := I
          obtain ⟨rfl, hi⟩ := rng_at hx
          have hi : i < as.length := by omega
          refine ⟨[.val (.tuple (.str r.1 :: as)), .val (.int ((t + 1 : Nat) : Int)), .val w, .val (.int (1 + Sn as i : Int)), .var false (.str r.1 :: (as.set j b).take i), .val (.int (1 + (i : Int))), cO o6], by cases o5 <;> rfl, ?_⟩
          obtain ⟨k', h'⟩ := h2.mem (List.getElem_mem hi)
          have e5 : dIx (.tuple (.str r.1 :: as)) (.int (1 + (i : Int))) = some as[i] := by
            have := at_nat (PyData.str r.1 :: as) (i + 1)
            rw [show ((i + 1 : Nat) : Int) = 1 + (i : Int) by omega] at this
            show atI (PyData.str r.1 :: as) (1 + (i : Int)) = _
            rw [this, List.getElem?_cons_succ, List.getElem?_eq_getElem hi]
          have hle := mem_flat (List.getElem_mem hi)
          have hpl : (as.flatMap P).length ≤ 60 := by rw [pd, List.length_cons] at hl; omega
          have e6 : m__law_parts [as[i]] = .ok (.list (P as[i])) [] := law_parts_eq h' (by omega) (m := 50) (by omega) (by omega)
          have hset2 : (as.set j b).take (i + 1) = (as.set j b).take i ++ [(as.set j b)[i]'(by rw [List.length_set]; exact hi)] := List.take_succ_eq_append_getElem (by rw [List.length_set]; exact hi)
          have hS := Sn_succ hi
          refine ⟨_, rl_turn (o5 := none) (y := (as.set j b)[i]'(by rw [List.length_set]; exact hi)) e5 e6 rfl (by rw [List.length_cons, List.length_take, List.length_set]; omega) ?_, some (.int (1 + (i : Int))), some (.int ((P as[i]).length : Nat)), ?_⟩
          · rcases Nat.lt_trichotomy i j with q | q | q
            · refine .inl ⟨fun z => ?_, by rw [List.getElem_set_ne (by omega)]⟩
              have := Sn_mono (as := as) (show i + 1 ≤ j from q)
              have z2 := z.2
              omega
            · subst q
              refine .inr ⟨⟨by omega, by omega⟩, δb, ?_⟩
              rw [List.getElem_set_self, show (((t + 1 : Nat) : Int) - (1 + (Sn as i : Int))) = ((t - Sn as i : Nat) : Int) by omega]
              exact hb
            · refine .inl ⟨fun z => ?_, by rw [List.getElem_set_ne (by omega)]⟩
              have m1 := Sn_mono (as := as) (show j + 1 ≤ i from q)
              have m2 := Sn_succ hj
              have z1 := z.1
              omega
          · rw [hset2, hS]
            have : (1 + ((Sn as i + (P as[i]).length : Nat) : Int)) = 1 + (Sn as i : Int) + ((P as[i]).length : Nat) := by omega
            rw [this]
            rfl) (δ := [.val (.tuple (.str r.1 :: as)), .val (.int ((t + 1 : Nat) : Int)), .val w, .val (.int 1), .var false [.str r.1], .non, .non]) ⟨none, none, by simp [Sn, cO]⟩
        rw [rng_len] at e4
        have e8 : (as.set j b).take (as.length + 1 - 1 : Int).toNat = as.set j b := by
          rw [show ((as.length : Int) + 1 - 1).toNat = (as.set j b).length by rw [List.length_set]; omega, List.take_length]
        rw [e8] at e4
        refine ⟨.tuple (.str r.1 :: as.set j b), [], ?_, bd', ?_, fun e => by omega, fun _ => ⟨r, as.set j b, hr, hk, rfl, z1, z2⟩⟩
        · have b2 : big ((as.length : Int) + 1) = true := big_of (by omega) (by omega)
          have n0 : decide (((t + 1 : Nat) : Int) = 0) = false := decide_eq_false (by omega)
          have n1 : (((t + 1 : Nat) : Int) = 0) = False := eq_false (by omega)
          unfold b__law_replaced
          iterate 6 ((try simp only [n0, n1, truthD]); walk_at "ev")
          try rw [show (((as.length + 1 : Nat) : Int)) = (as.length : Int) + 1 by omega]
          iterate 5 ((try simp only [b1, b2, e4, Bool.and_self, n0, n1]); walk_at "ev")
        · have pd' := P_fn (Bd.fn hw bd') (by omega)
          rw [args_a hr] at pd'
          have hfs := flat_set (b := b) hj
          rw [pd', pd, List.length_cons, List.length_cons]
          omega
end K07
end Part_SL

section Part_SM
set_option Elab.async false
set_option linter.all false
set_option maxRecDepth 100000
set_option autoImplicit false
set_option maxHeartbeats 2000000
namespace K07
open PySem PySem.Spec PyProof.Rows L2 DL SX
local macro_rules | `(tactic| walk_at "ev") => `(tactic| try simp -implicitDefEqProofs only [mDef, mSeq, mIf, mT, mTr, mOp, mUn, mVar, mC, mCall, mCons, mNil, mRet, mSkip, mAsg, mSl, mPart, mNoPart, mAndT, mOrT, mNotT, mAnd, mOr, mNot, mIfE, mChain, mIs, mIs2, mOf, mNew, mCallF, mM1, mM0, mIxM, mLenM, mApp, mSetM, mSetIx, mAug, mFrz, mForS, mRng1, mRng2, mItems, setV_zn, setV_zv, setV_zo, setV_succ, setM, frz, setT2, mBk, mCt, mNo, 
  DL.bind_ok, DL.bind_no, DL.bind_ite, lift_some, lift_none, List.map_cons, List.map_nil, List.length_cons, List.length_nil, List.replicate_succ, List.replicate_zero, List.cons_append, List.nil_append, List.append_nil, List.getElem?_cons_zero, List.getElem?_cons_succ, List.set_cons_zero, List.set_cons_succ, Nat.reduceAdd, Nat.reduceSub, Nat.zero_add, Nat.sub_self, decide_eq_true_eq,
  add_ii, sub_ii, neg_i, mul_r, mul_l, div_s, mod_s, eq_ii, ne_ii, eq_bb, ne_bb, lt_ii, gt_ii, le_ii, ge_ii, len_l, len_t, int_i, int_b, abs_i, max_ii, min_ii, tuple_l, ix_l, ix_t, tr_b, Nat.reduceLeDiff, if_true, if_false, Option.map_some, Option.bind_some, reduceIte, Int.reduceLT, Int.reduceNeg, Int.reduceMul, Nat.reduceLT, Nat.le_refl, LINE, Bool.false_eq_true, Bool.not_true, Bool.not_false, Bool.true_eq_false, R.bind_ex, Int.reduceEq, e_number_number, e_number_truth, e_number_text, e_number_list, e_truth_number, e_truth_truth, e_truth_text, e_truth_list, e_text_number, e_text_truth, e_text_text, e_text_list, e_list_number, e_list_truth, e_list_text, e_list_list, is_bool_n, is_bool_t, is_bool_s, is_bool_l, is_int_n, is_int_t, is_int_s, is_int_l, is_str_n, is_str_t, is_str_s, is_str_l, is_tuple_n, is_tuple_t, is_tuple_s, is_tuple_l, at_z, at_o, sl_tail, tup_0, tup_1, tup_2, tup_3, rev_t, rev_l, len_l, mDefE, mCallE])
local macro_rules | `(tactic| walk_at "ev*") => `(tactic| try simp -implicitDefEqProofs only [mDef, mSeq, mIf, mT, mTr, mOp, mUn, mVar, mC, mCall, mCons, mNil, mRet, mSkip, mAsg, mSl, mPart, mNoPart, mAndT, mOrT, mNotT, mAnd, mOr, mNot, mIfE, mChain, mIs, mIs2, mOf, mNew, mCallF, mM1, mM0, mIxM, mLenM, mApp, mSetM, mSetIx, mAug, mFrz, mForS, mRng1, mRng2, mItems, setV_zn, setV_zv, setV_zo, setV_succ, setM, frz, setT2, mBk, mCt, mNo, 
  DL.bind_ok, DL.bind_no, DL.bind_ite, lift_some, lift_none, List.map_cons, List.map_nil, List.length_cons, List.length_nil, List.replicate_succ, List.replicate_zero, List.cons_append, List.nil_append, List.append_nil, List.getElem?_cons_zero, List.getElem?_cons_succ, List.set_cons_zero, List.set_cons_succ, Nat.reduceAdd, Nat.reduceSub, Nat.zero_add, Nat.sub_self, decide_eq_true_eq,
  add_ii, sub_ii, neg_i, mul_r, mul_l, div_s, mod_s, eq_ii, ne_ii, eq_bb, ne_bb, lt_ii, gt_ii, le_ii, ge_ii, len_l, len_t, int_i, int_b, abs_i, max_ii, min_ii, tuple_l, ix_l, ix_t, tr_b, Nat.reduceLeDiff, if_true, if_false, Option.map_some, Option.bind_some, reduceIte, Int.reduceLT, Int.reduceNeg, Int.reduceMul, Nat.reduceLT, Nat.le_refl, LINE, Bool.false_eq_true, Bool.not_true, Bool.not_false, Bool.true_eq_false, R.bind_ex, Int.reduceEq, e_number_number, e_number_truth, e_number_text, e_number_list, e_truth_number, e_truth_truth, e_truth_text, e_truth_list, e_text_number, e_text_truth, e_text_text, e_text_list, e_list_number, e_list_truth, e_list_text, e_list_list, is_bool_n, is_bool_t, is_bool_s, is_bool_l, is_int_n, is_int_t, is_int_s, is_int_l, is_str_n, is_str_t, is_str_s, is_str_l, is_tuple_n, is_tuple_t, is_tuple_s, is_tuple_l, at_z, at_o, sl_tail, tup_0, tup_1, tup_2, tup_3, rev_t, rev_l, len_l, mDefE, mCallE, *])
theorem tup_4 (a b c d : D) : dTup [a, b, c, d] = some (.tuple [a, b, c, d]) := rfl
theorem parts_gp {ks : List Kd} : ∀ {n : Nat} {k : Kd} {d : D}, GP ks n k d → n ≤ 50 → ∀ x ∈ P d, ∃ n' k', n' ≤ n ∧ GP ks n' k' x
  | n + 1, k, d, h, hn, x, hx => by
    rw [P_fn h.fn hn] at hx
    rcases List.mem_cons.mp hx with rfl | hx
    · exact ⟨n + 1, k, Nat.le_refl _, h⟩
    · obtain ⟨a, ha, hx⟩ := List.mem_flatMap.mp hx
      obtain ⟨k', h'⟩ := h.args a ha
      obtain ⟨n', k2, h1, h2⟩ := parts_gp h' (by omega) x hx
      exact ⟨n', k2, by omega, h2⟩
theorem in_lib {r : Str × Str × Str} (h : (LIB.any fun q => q == r) = true) : r ∈ LIB := by
  obtain ⟨q, hq, e⟩ := List.any_eq_true.mp h
  rw [← eq_of_beq e]
  exact hq
theorem neg_in : (("neg" : Str), ("n" : Str), ("n" : Str)) ∈ LIB := in_lib (by kernel_rfl)
theorem add_in : (("add" : Str), ("nn" : Str), ("n" : Str)) ∈ LIB := in_lib (by kernel_rfl)
theorem cho_in : (("choose_number" : Str), ("tnn" : Str), ("n" : Str)) ∈ LIB := in_lib (by kernel_rfl)
theorem kd_n : kdsOf "n" = [.n] := by kernel_rfl
theorem kd_nn : kdsOf "nn" = [.n, .n] := by kernel_rfl
theorem kd_tnn : kdsOf "tnn" = [.t, .n, .n] := by kernel_rfl
theorem gp_neg {ks : List Kd} {n : Nat} {d : D} (h : GP ks n .n d) : GP ks (n + 1) .n (.tuple [.str "neg", d]) := .app (r := ("neg", "n", "n")) neg_in rfl (by
  show All2 (GP ks n) (kdsOf "n") [d]
  rw [kd_n]
  exact ⟨h, trivial⟩)
theorem gp_add {ks : List Kd} {n : Nat} {d e : D} (h : GP ks n .n d) (h2 : GP ks n .n e) : GP ks (n + 1) .n (.tuple [.str "add", d, e]) := .app (r := ("add", "nn", "n")) add_in rfl (by
  show All2 (GP ks n) (kdsOf "nn") [d, e]
  rw [kd_nn]
  exact ⟨h, h2, trivial⟩)
theorem gp_cho {ks : List Kd} {n : Nat} {c d e : D} (h0 : GP ks n .t c) (h : GP ks n .n d) (h2 : GP ks n .n e) : GP ks (n + 1) .n (.tuple [.str "choose_number", c, d, e]) := .app (r := ("choose_number", "tnn", "n")) cho_in rfl (by
  show All2 (GP ks n) (kdsOf "tnn") [c, d, e]
  rw [kd_tnn]
  exact ⟨h0, h, h2, trivial⟩)
theorem gp_int {ks : List Kd} {i : Int} (h : Rg i) : GP ks 1 .n (.tuple [.str "constant", .int i]) := .con (.n h)
theorem P_con {ks : List Kd} {k : Kd} {v : D} (h : Vk k v) : P (.tuple [.str "constant", v]) = [.tuple [.str "constant", v]] := by
  have g : GP ks 1 k (.tuple [.str "constant", v]) := .con h
  rw [P_fn g.fn (by decide), args_c]
  rfl
/-! ### the chain -/
def chN : Nat → D
  | 0 => .tuple [.str "input", .int 0]
  | i + 1 => .tuple [.str "neg", chN i]
section
variable {ks : List Kd} (hk : ks[0]? = some .n)
include hk
theorem ch_gp : ∀ i : Nat, GP ks (i + 1) .n (chN i)
  | 0 => GP1.inp (ks := ks) (p := GP ks 0) (i := 0) hk
  | i + 1 => gp_neg (ch_gp i)
theorem ch_P {i : Nat} (hi : i + 1 ≤ 49) : P (chN (i + 1)) = chN (i + 1) :: P (chN i) := by
  rw [P_fn (ch_gp hk (i + 1)).fn (by omega)]
  show chN (i + 1) :: (argsD (.tuple (.str "neg" :: [chN i]))).flatMap P = _
  rw [args_a (r := ("neg", "n", "n")) neg_in, List.flatMap_cons, List.flatMap_nil, List.append_nil]
theorem ch_P0 : P (chN 0) = [chN 0] := by
  rw [P_fn (ch_gp hk 0).fn (by decide)]
  show chN 0 :: (argsD (.tuple [.str "input", .int 0])).flatMap P = _
  rw [args_i]
  rfl
theorem ch_len : ∀ {i : Nat}, i ≤ 49 → (P (chN i)).length = i + 1
  | 0, _ => by rw [ch_P0 hk]; rfl
  | i + 1, h => by rw [ch_P hk h, List.length_cons, ch_len (by omega)]
theorem ch_at : ∀ (j : Nat) {i : Nat}, i ≤ 49 → j ≤ i → (P (chN i))[j]? = some (chN (i - j))
  | 0, 0, _, _ => by rw [ch_P0 hk]; rfl
  | 0, i + 1, h, _ => by rw [ch_P hk h]; rfl
  | j + 1, i + 1, h, hj => by
    rw [ch_P hk h, List.getElem?_cons_succ, ch_at j (by omega) (by omega)]
    congr 2
    omega
theorem pk_chain {d0 : D} : ∀ (t i : Nat) (l : Int) (w0 : D) (o4 o5 o6 : Option D), l + t = 31 → 1 ≤ l → t ≤ i → i ≤ 45 → (w0 = .none ∨ w0 = .str (nameOf .n)) →
    ∃ δ, mWhile b_program_kind_C1 b_program_kind_L1 (t + 1) [.val (kindsD ks), .val d0, .var false (([(chN i, w0, l)] : List (D × D × Int)).map tup3).reverse, .val (.int (l - 1)), cO o4, cO o5, cO o6] = .ex 0 (chN (i - t)) δ
  | 0, i, l, w0, o4, o5, o6, h, h1, _, _, _ => by
    obtain ⟨δ, hr⟩ := pk_raise (ks := ks) (d0 := d0) (x := chN i) (w0 := w0) (l := l) (c := l - 1) (s := []) (o4 := o4) (o5 := o5) (o6 := o6) (.inr (.inl (by omega)))
    exact ⟨δ, mWhile_ex (pk_more (s := [])) hr⟩
  | t + 1, i, l, w0, o4, o5, o6, h, h1, ht, hi, hw => by
    obtain ⟨i, rfl⟩ : ∃ j, i = j + 1 := ⟨i - 1, by omega⟩
    have g : GP ks (i + 1 + 1) .n (chN (i + 1)) := ch_gp hk (i + 1)
    have es := sound (p := GP ks (i + 1)) g hw
    have ew : m__wanted_arguments [chN (i + 1), .int (l + 1)] = .ok (.list (([(chN i, .str (nameOf .n), l + 1)] : List (D × D × Int)).map tup3)) [] := by
      have z := wanted_node (ks := ks) (p := GP ks (i + 1)) (k := .n) (r := ("neg", "n", "n")) (as := [chN i]) g neg_in (by show (kdsOf "n").length = 1; rw [kd_n]; rfl) (l + 1)
      have e : its (kdsOf "n") [chN i] (l + 1) = [(chN i, .str (nameOf .n), l + 1)] := by rw [kd_n]; rfl
      have z : m__wanted_arguments [chN (i + 1), .int (l + 1)] = .ok (.list ((its (kdsOf "n") [chN i] (l + 1)).map tup3)) [] := z
      rw [e] at z
      exact z
    obtain ⟨δ, ih⟩ := pk_chain t i (l + 1) (.str (nameOf .n)) (some (chN (i + 1))) (some w0) (some (.int l)) (by omega) (by omega) (by omega) (by omega) (.inr rfl)
    refine ⟨δ, ?_⟩
    have tn := pk_turn (ks := ks) (d0 := d0) (x := chN (i + 1)) (w0 := w0) (l := l) (c := l - 1) (s := []) (o4 := o4) (o5 := o5) (o6 := o6) es ew (by omega) (by omega) (by simp)
    have e1 : l - 1 + 1 = l + 1 - 1 := by omega
    have e2 : i + 1 - (t + 1) = i - t := by omega
    rw [mWhile_turn (t := b_program_kind_C1) (body := b_program_kind_L1) (pk_more (s := [])) tn, e2, e1]
    exact ih
end
/-! ### too many parts -/
theorem pk_big {ks : List Kd} {d0 : D} : ∀ (m : Nat) (s : List (D × D × Int)) (c : Int) (o4 o5 o6 : Option D), 0 ≤ c → c ≤ 60 → (∀ q ∈ s, ∃ (n : Nat) (k : Kd), n ≤ 50 ∧ (q.2.1 = .none ∨ q.2.1 = .str (nameOf k)) ∧ GP ks n k q.1) → ((s.map (·.1)).flatMap P).length ≤ m → m ≤ 10000 → 60 < c + ((s.map (·.1)).flatMap P).length →
    ∃ x δ, mWhile b_program_kind_C1 b_program_kind_L1 (m + 1) [.val (kindsD ks), .val d0, .var false (s.map tup3).reverse, .val (.int c), cO o4, cO o5, cO o6] = .ex 0 x δ
  | m, [], c, o4, o5, o6, h0, h6, _, _, _, h => by
    have : (((([] : List (D × D × Int)).map (·.1)).flatMap P).length : Int) = 0 := rfl
    omega
  | 0, q :: s, c, o4, o5, o6, _, _, hg, hm, _, _ => by
    have := flat_get (s := q :: s) fun x hx => by
      obtain ⟨n, k, hn, _, g⟩ := hg x hx
      exact g.fn.le hn
    rw [List.length_cons] at this
    omega
  | m + 1, (x, w0, l) :: s, c, o4, o5, o6, h0, h6, hg, hm, hM, h => by
    by_cases q : c = 60 ∨ 30 < l
    · obtain ⟨δ, hr⟩ := pk_raise (ks := ks) (d0 := d0) (x := x) (w0 := w0) (l := l) (c := c) (s := s) (o4 := o4) (o5 := o5) (o6 := o6) (by rcases q with q | q; exact .inl q; exact .inr (.inl q))
      exact ⟨x, δ, mWhile_ex pk_more hr⟩
    · obtain ⟨n, k, hn, hw0, g⟩ := hg (x, w0, l) List.mem_cons_self
      simp only at hw0 g
      obtain ⟨n, rfl⟩ : ∃ n', n = n' + 1 := by
        cases n with
        | zero => exact g.elim
        | succ n => exact ⟨n, rfl⟩
      have hfn : ∀ q ∈ s, Fn 50 q.1 := fun q hq => by
        obtain ⟨n, k, hn, _, g⟩ := hg q (List.mem_cons_of_mem _ hq)
        exact g.fn.le hn
      have hsl := flat_get hfn
      rw [List.map_cons, List.flatMap_cons, List.length_append, P_fn g.fn hn, List.length_cons] at hm h
      have es := sound (p := GP ks n) g hw0
      obtain ⟨kk, a2, hk3, ew⟩ := wanted_eq (p := GP ks n) g (l + 1)
      have hwl := its_len (l := l + 1) a2.len
      have hfst := its_fst (l + 1) a2
      have hall : ∀ q ∈ its kk (argsD x) (l + 1) ++ s, ∃ (n : Nat) (k : Kd), n ≤ 50 ∧ (q.2.1 = .none ∨ q.2.1 = .str (nameOf k)) ∧ GP ks n k q.1 := fun q hq => by
        rcases List.mem_append.mp hq with hq | hq
        · obtain ⟨z1, _, k2, z3, z4⟩ := its_mem a2 q hq
          exact ⟨n, k2, by omega, .inr z4, z3⟩
        · exact hg q (List.mem_cons_of_mem _ hq)
      have hlen : (((its kk (argsD x) (l + 1) ++ s).map (·.1)).flatMap P).length = ((argsD x).flatMap P).length + ((s.map (·.1)).flatMap P).length := by
        rw [List.map_append, List.flatMap_append, List.length_append, hfst]
      obtain ⟨y, δ, ih⟩ := pk_big (d0 := d0) m (its kk (argsD x) (l + 1) ++ s) (c + 1) (some x) (some w0) (some (.int l)) (by omega) (by omega) hall (by rw [hlen]; omega) (by omega) (by rw [hlen]; omega)
      exact ⟨y, δ, by rw [mWhile_turn (t := b_program_kind_C1) (body := b_program_kind_L1) pk_more (pk_turn es ew (by omega) (by omega) (by rw [hwl, ← a2.len]; omega)), ih]⟩
/-! ### a constant alone -/
theorem told_con {ks : List Kd} {k : Kd} {v : D} (h : Vk k v) : ∃ x, m__law_told [kindsD ks, .tuple [.str "constant", v]] = .ok (.tuple [.str "kind", x]) [] := by
  have g : GP1 ks (fun _ _ => True) k (.tuple [.str "constant", v]) := .con h
  have es := sound g (w := .none) (.inl rfl)
  have ep := part_kind g
  obtain ⟨kk, a2, _, ew⟩ := wanted_eq g (1 + 1)
  have ei : its kk (argsD (.tuple [.str "constant", v])) (1 + 1) = [] := by
    rw [args_c] at a2 ⊢
    cases kk <;> rfl
  rw [ei] at ew
  have tn := pk_turn (ks := ks) (d0 := .tuple [.str "constant", v]) (x := .tuple [.str "constant", v]) (w0 := .none) (l := 1) (c := 0) (s := []) (ws := []) (o4 := none) (o5 := none) (o6 := none) es ew (by decide) (by decide) (by decide)
  have e : mWhile b_program_kind_C1 b_program_kind_L1 2 [.val (kindsD ks), .val (.tuple [.str "constant", v]), .var false [.tuple [.tuple [.str "constant", v], .none, .int 1]], .val (.int 0), .non, .non, .non] = .ok .nx [.val (kindsD ks), .val (.tuple [.str "constant", v]), .var false [], .val (.int (0 + 1)), .val (.tuple [.str "constant", v]), .val .none, .val (.int 1)] := by
    exact (mWhile_turn (t := b_program_kind_C1) (body := b_program_kind_L1) (n := 1) (pk_more (ks := ks) (d0 := .tuple [.str "constant", v]) (s := []) (c := 0) (q := (.tuple [.str "constant", v], .none, 1)) (o4 := none) (o5 := none) (o6 := none)) tn).trans (mWhile_end (trM_f rfl))
  have e := mWhile_get e
  have em : m_program_kind [kindsD ks, .tuple [.str "constant", v]] = .ok (.str (nameOf k)) [] := by
    unfold m_program_kind b_program_kind
    iterate 6 ((try simp only [e, ep]); walk_at "ev")
  refine ⟨.str (nameOf k), ?_⟩
  have e2 : b__law_told_B1 [.val (kindsD ks), .val (.tuple [.str "constant", v]), .non] = .ok (.rt (.tuple [.str "kind", .str (nameOf k)])) [.val (kindsD ks), .val (.tuple [.str "constant", v]), .non] := by
    unfold b__law_told_B1
    iterate 4 ((try simp only [em]); walk_at "ev")
  unfold m__law_told b__law_told
  show R.bind (mTryR 2 (fun _ => true) b__law_told_B1 (fun _ pay => [(.str "invalid"), pay, (.bool true), (.bool false)]) [.val (kindsD ks), .val (.tuple [.str "constant", v]), .non]) _ = _
  unfold mTryR
  rw [e2]
  rfl
/-! ### the large ones -/
theorem large_even {ks : List Kd} (hk : ks[0]? = some .n) {f : Int} (h0 : 0 ≤ f) (h2 : f % 2 = 0) : ∃ N : Nat, 30 ≤ N ∧ N ≤ 39 ∧ m__law_large [.int f] = .ok (.tuple [chN N, .int 30]) [] := by
  obtain ⟨N, hN⟩ := Int.eq_ofNat_of_zero_le (show 0 ≤ 30 + f / 2 % 10 by omega)
  refine ⟨N, by omega, by omega, ?_⟩
  obtain ⟨δ', e, o, rfl⟩ := mFor_inv (g := setV 2) (body := b__law_large_L1) (items := rng 0 (N : Int)) (fun i δ => ∃ o, δ = [.val (.int f), .non, cO o, .val (chN i)]) (fun i x δ hx I => by
    obtain ⟨o, rfl⟩ := I
    refine ⟨[.val (.int f), .non, .val x, .val (chN i)], by cases o <;> rfl, [.val (.int f), .non, .val x, .val (chN (i + 1))], rfl, some x, rfl⟩) (δ := [.val (.int f), .non, .non, .val (chN 0)]) ⟨none, rfl⟩
  rw [rng_len] at e
  rw [show ((N : Int) - 0).toNat = N by omega] at e
  have e : mFor (setV 2) b__law_large_L1 (rng 0 (N : Int)) [.val (.int f), .non, .non, .val (.tuple [.str "input", .int 0])] = .ok .nx [.val (.int f), .non, cO o, .val (chN N)] := e
  have b2 : big (N : Int) = true := big_of (by omega) (by omega)
  have d1 : decide (f % 2 = 0) = true := decide_eq_true h2
  unfold m__law_large b__law_large
  iterate 6 ((try simp only [d1, h2, hN, b2, e]); walk_at "ev")
theorem rg_small {i : Int} (h0 : 0 ≤ i) (h1 : i ≤ 100) : Rg i := ⟨by omega, by omega⟩
theorem large_odd {ks : List Kd} {f : Int} (h0 : 0 ≤ f) (h2 : f % 2 ≠ 0) : ∃ (d : D) (n : Nat), n ≤ 50 ∧ GP ks n .n d ∧ 60 < (P d).length ∧ (P d).length ≤ 1000 ∧ m__law_large [.int f] = .ok (.tuple [d, .int 60]) [] := by
  obtain ⟨N, hN⟩ := Int.eq_ofNat_of_zero_le (show 0 ≤ 29 + f / 2 % 3 by omega)
  have c1 : GP ks 1 .n (.tuple [.str "constant", .int 1]) := gp_int (rg_small (by decide) (by decide))
  have c2 : GP ks 1 .n (.tuple [.str "constant", .int 2]) := gp_int (rg_small (by decide) (by decide))
  have c7 : GP ks 1 .n (.tuple [.str "constant", .int 7]) := gp_int (rg_small (by decide) (by decide))
  have ct : GP ks 1 .t (.tuple [.str "constant", .bool true]) := .con (.t true)
  have z0 : GP ks 2 .n (.tuple [.str "add", .tuple [.str "constant", .int 1], .tuple [.str "constant", .int 2]]) := gp_add c1 c2
  have pint : ∀ {i : Int}, Rg i → (P (.tuple [.str "constant", .int i])).length = 1 := fun h => by rw [P_con (ks := ks) (Vk.n h)]; rfl
  have pt : (P (.tuple [.str "constant", .bool true])).length = 1 := by rw [P_con (ks := ks) (Vk.t true)]; rfl
  obtain ⟨δ', e, d, n, o, rfl, hn, g, hl1, hl2⟩ := mFor_inv (g := setV 2) (body := b__law_large_L2) (items := rng 0 (N : Int)) (fun i δ => ∃ (d : D) (n : Nat) (o : Option D), δ = [.val (.int f), .val d, cO o, .non] ∧ n ≤ 2 + i + i / 2 ∧ GP ks n .n d ∧ 3 + 3 * i ≤ (P d).length ∧ (P d).length ≤ 3 + 6 * i) (fun i x δ hx I => by
    obtain ⟨d, n, o, rfl, hn, g, l1, l2⟩ := I
    obtain ⟨rfl, hi⟩ := rng_at hx
    have hi31 : i < 31 := by omega
    have hn1 : 1 ≤ n := by
      cases n with
      | zero => exact g.elim
      | succ n => omega
    have g1 : GP ks (n + 1) .n (.tuple [.str "choose_number", .tuple [.str "constant", .bool true], .tuple [.str "constant", .int 7], d]) := gp_cho (ct.le hn1) (c7.le hn1) g
    have p1 : (P (.tuple [.str "choose_number", .tuple [.str "constant", .bool true], .tuple [.str "constant", .int 7], d])).length = (P d).length + 3 := by
      rw [P_fn g1.fn (by omega), args_a (r := ("choose_number", "tnn", "n")) cho_in, List.length_cons, List.flatMap_cons, List.flatMap_cons, List.flatMap_cons, List.flatMap_nil, List.length_append, List.length_append, pint (rg_small (by decide) (by decide)), pt, List.append_nil]
      omega
    refine ⟨[.val (.int f), .val d, .val (.int (0 + (i : Int))), .non], by cases o <;> rfl, ?_⟩
    by_cases q : i % 2 = 1
    · have d1 : decide ((0 + (i : Int)) % 2 = 1) = true := decide_eq_true (by omega)
      have d2 : ((0 + (i : Int)) % 2 = 1) = True := eq_true (by omega)
      have ck : GP ks 1 .n (.tuple [.str "constant", .int (0 + (i : Int))]) := gp_int (rg_small (by omega) (by omega))
      have gn : GP ks 2 .n (.tuple [.str "neg", .tuple [.str "constant", .int (0 + (i : Int))]]) := gp_neg ck
      have pn : (P (.tuple [.str "neg", .tuple [.str "constant", .int (0 + (i : Int))]])).length = 2 := by
        rw [P_fn gn.fn (by decide), args_a (r := ("neg", "n", "n")) neg_in, List.length_cons, List.flatMap_cons, List.flatMap_nil, List.append_nil, pint (rg_small (by omega) (by omega))]
      have g2 := gp_add g1 (gn.le (by omega))
      have p2 : (P (.tuple [.str "add", .tuple [.str "choose_number", .tuple [.str "constant", .bool true], .tuple [.str "constant", .int 7], d], .tuple [.str "neg", .tuple [.str "constant", .int (0 + (i : Int))]]])).length = (P d).length + 6 := by
        rw [P_fn g2.fn (by omega), args_a (r := ("add", "nn", "n")) add_in, List.length_cons, List.flatMap_cons, List.flatMap_cons, List.flatMap_nil, List.append_nil, List.length_append, p1, pn]
      refine ⟨[.val (.int f), .val (.tuple [.str "add", .tuple [.str "choose_number", .tuple [.str "constant", .bool true], .tuple [.str "constant", .int 7], d], .tuple [.str "neg", .tuple [.str "constant", .int (0 + (i : Int))]]]), .val (.int (0 + (i : Int))), .non], ?_, _, n + 1 + 1, some (.int (0 + (i : Int))), rfl, by omega, g2, by omega, by omega⟩
      unfold b__law_large_L2
      iterate 5 ((try simp only [d1, d2, tup_4]); walk_at "ev")
    · have d1 : decide ((0 + (i : Int)) % 2 = 1) = false := decide_eq_false (by omega)
      have d2 : ((0 + (i : Int)) % 2 = 1) = False := eq_false (by omega)
      refine ⟨[.val (.int f), .val (.tuple [.str "choose_number", .tuple [.str "constant", .bool true], .tuple [.str "constant", .int 7], d]), .val (.int (0 + (i : Int))), .non], ?_, _, n + 1, some (.int (0 + (i : Int))), rfl, by omega, g1, by omega, by omega⟩
      unfold b__law_large_L2
      iterate 5 ((try simp only [d1, d2, tup_4]); walk_at "ev")) (δ := [.val (.int f), .val (.tuple [.str "add", .tuple [.str "constant", .int 1], .tuple [.str "constant", .int 2]]), .non, .non]) ⟨_, 2, none, rfl, by omega, z0, by
        rw [P_fn z0.fn (by decide), args_a (r := ("add", "nn", "n")) add_in, List.length_cons, List.flatMap_cons, List.flatMap_cons, List.flatMap_nil, List.append_nil, List.length_append, pint (rg_small (by decide) (by decide)), pint (rg_small (by decide) (by decide))]
        omega, by
        rw [P_fn z0.fn (by decide), args_a (r := ("add", "nn", "n")) add_in, List.length_cons, List.flatMap_cons, List.flatMap_cons, List.flatMap_nil, List.append_nil, List.length_append, pint (rg_small (by decide) (by decide)), pint (rg_small (by decide) (by decide))]
        omega⟩
  rw [rng_len] at hn hl1 hl2
  rw [show ((N : Int) - 0).toNat = N by omega] at hn hl1 hl2
  refine ⟨d, n, by omega, g, by omega, by omega, ?_⟩
  have b2 : big (N : Int) = true := big_of (by omega) (by omega)
  have d1 : decide (f % 2 = 0) = false := decide_eq_false h2
  have d2 : (f % 2 = 0) = False := eq_false h2
  unfold m__law_large b__law_large
  iterate 7 ((try simp only [d1, d2, hN, b2, e]); walk_at "ev")
end K07
end Part_SM

section Part_SN
set_option Elab.async false
set_option linter.all false
set_option maxRecDepth 100000
set_option autoImplicit false
set_option maxHeartbeats 2000000
namespace K07
open PySem PySem.Spec PyProof.Rows L2 DL SX
noncomputable def b_mid : M Fl := (mSeq (mAsg (setV 10) (mOp dMod (mOp dDiv (mVar 1) (mC (.int 20))) (mCall dLen (mCons (mVar 7) mNil))))
    (mSeq (mAsg (setV 11) (mCall dAbs (mCons (mCallF m__law_cell (mCons (mVar 0) (mCons (mC (.int 2)) mNil))) mNil)))
    (mSeq (mAsg (setV 12) (mCallF m__law_wrong (mCons (mVar 11) (mCons (mCallF m__law_letter (mCons (mOp dIx (mVar 7) (mVar 10)) (mCons (mVar 2) (mCons (mCallF m__law_library mNil) mNil)))) (mCons (mCall dLen (mCons (mVar 2) mNil)) mNil)))))
    (mSeq (mIf (mAndT (mT (mOp dEq (mVar 10) (mC (.int 0)))) (mT (mOp dEq (mOp dMod (mVar 11) (mC (.int 12))) (mC (.int 0)))))
    (mRet (mOp dEq (mOp dIx (mCallE m__law_told (mCons (mVar 3) (mCons (mVar 12) mNil))) (mC (.int 0))) (mC (.str "kind"))))
    mSkip)
    (mSeq (mAsg (setV 13) (mCallE m__law_told (mCons (mVar 3) (mCons (mCallF m__law_replaced (mCons (mVar 6) (mCons (mVar 10) (mCons (mVar 12) mNil)))) mNil))))
    (mIf (mT (mOp dNe (mVar 13) (mCall dTup (mCons (mC (.str "invalid")) (mCons (mVar 12) (mCons (mC (.bool true)) (mCons (mC (.bool false)) mNil)))))))
    (mRet (mC (.bool false)))
    mSkip))))))
noncomputable def b_tail : M Fl := (mSeq (mAsg (setV 8) (mCallF m__law_large (mCons (mOp dDiv (mVar 1) (mC (.int 3))) mNil)))
    (mSeq (mAsg (setV 9) (mCallF m__law_parts (mCons (mOp dIx (mVar 8) (mC (.int 0))) mNil)))
    (mSeq (mIf (mT (mOp dEq (mOp dIx (mVar 8) (mC (.int 1))) (mC (.int 30))))
    (mRet (mOp dEq (mCallE m__law_told (mCons (mVar 3) (mCons (mOp dIx (mVar 8) (mC (.int 0))) mNil))) (mCall dTup (mCons (mC (.str "invalid")) (mCons (mOp dIx (mVar 9) (mC (.int 30))) (mCons (mC (.bool true)) (mCons (mC (.bool false)) mNil)))))))
    mSkip)
    (mSeq (mIf (mT (mOp dLe (mCall dLen (mCons (mVar 9) mNil)) (mC (.int 60))))
    (mRet (mC (.bool true)))
    mSkip)
    (mRet (mOp dEq (mOp dIx (mCallE m__law_told (mCons (mVar 3) (mCons (mOp dIx (mVar 8) (mC (.int 0))) mNil))) (mC (.int 0))) (mC (.str "invalid"))))))))
local macro_rules | `(tactic| walk_at "ev") => `(tactic| try simp -implicitDefEqProofs only [mDef, mSeq, mIf, mT, mTr, mOp, mUn, mVar, mC, mCall, mCons, mNil, mRet, mSkip, mAsg, mSl, mPart, mNoPart, mAndT, mOrT, mNotT, mAnd, mOr, mNot, mIfE, mChain, mIs, mIs2, mOf, mNew, mCallF, mM1, mM0, mIxM, mLenM, mApp, mSetM, mSetIx, mAug, mFrz, mForS, mRng1, mRng2, mItems, setV_zn, setV_zv, setV_zo, setV_succ, setM, frz, setT2, mBk, mCt, mNo, 
  DL.bind_ok, DL.bind_no, DL.bind_ite, lift_some, lift_none, List.map_cons, List.map_nil, List.length_cons, List.length_nil, List.replicate_succ, List.replicate_zero, List.cons_append, List.nil_append, List.append_nil, List.getElem?_cons_zero, List.getElem?_cons_succ, List.set_cons_zero, List.set_cons_succ, Nat.reduceAdd, Nat.reduceSub, Nat.zero_add, Nat.sub_self, decide_eq_true_eq,
  add_ii, sub_ii, neg_i, mul_r, mul_l, div_s, mod_s, eq_ii, ne_ii, eq_bb, ne_bb, lt_ii, gt_ii, le_ii, ge_ii, len_l, len_t, int_i, int_b, abs_i, max_ii, min_ii, tuple_l, ix_l, ix_t, tr_b, Nat.reduceLeDiff, if_true, if_false, Option.map_some, Option.bind_some, reduceIte, Int.reduceLT, Int.reduceNeg, Int.reduceMul, Nat.reduceLT, Nat.le_refl, LINE, Bool.false_eq_true, Bool.not_true, Bool.not_false, Bool.true_eq_false, R.bind_ex, Int.reduceEq, e_number_number, e_number_truth, e_number_text, e_number_list, e_truth_number, e_truth_truth, e_truth_text, e_truth_list, e_text_number, e_text_truth, e_text_text, e_text_list, e_list_number, e_list_truth, e_list_text, e_list_list, is_bool_n, is_bool_t, is_bool_s, is_bool_l, is_int_n, is_int_t, is_int_s, is_int_l, is_str_n, is_str_t, is_str_s, is_str_l, is_tuple_n, is_tuple_t, is_tuple_s, is_tuple_l, at_z, at_o, sl_tail, tup_0, tup_1, tup_2, tup_3, rev_t, rev_l, len_l, mCallE, R.bind_ex, tup_4])
local macro_rules | `(tactic| walk_at "ev*") => `(tactic| try simp -implicitDefEqProofs only [mDef, mSeq, mIf, mT, mTr, mOp, mUn, mVar, mC, mCall, mCons, mNil, mRet, mSkip, mAsg, mSl, mPart, mNoPart, mAndT, mOrT, mNotT, mAnd, mOr, mNot, mIfE, mChain, mIs, mIs2, mOf, mNew, mCallF, mM1, mM0, mIxM, mLenM, mApp, mSetM, mSetIx, mAug, mFrz, mForS, mRng1, mRng2, mItems, setV_zn, setV_zv, setV_zo, setV_succ, setM, frz, setT2, mBk, mCt, mNo, 
  DL.bind_ok, DL.bind_no, DL.bind_ite, lift_some, lift_none, List.map_cons, List.map_nil, List.length_cons, List.length_nil, List.replicate_succ, List.replicate_zero, List.cons_append, List.nil_append, List.append_nil, List.getElem?_cons_zero, List.getElem?_cons_succ, List.set_cons_zero, List.set_cons_succ, Nat.reduceAdd, Nat.reduceSub, Nat.zero_add, Nat.sub_self, decide_eq_true_eq,
  add_ii, sub_ii, neg_i, mul_r, mul_l, div_s, mod_s, eq_ii, ne_ii, eq_bb, ne_bb, lt_ii, gt_ii, le_ii, ge_ii, len_l, len_t, int_i, int_b, abs_i, max_ii, min_ii, tuple_l, ix_l, ix_t, tr_b, Nat.reduceLeDiff, if_true, if_false, Option.map_some, Option.bind_some, reduceIte, Int.reduceLT, Int.reduceNeg, Int.reduceMul, Nat.reduceLT, Nat.le_refl, LINE, Bool.false_eq_true, Bool.not_true, Bool.not_false, Bool.true_eq_false, R.bind_ex, Int.reduceEq, e_number_number, e_number_truth, e_number_text, e_number_list, e_truth_number, e_truth_truth, e_truth_text, e_truth_list, e_text_number, e_text_truth, e_text_text, e_text_list, e_list_number, e_list_truth, e_list_text, e_list_list, is_bool_n, is_bool_t, is_bool_s, is_bool_l, is_int_n, is_int_t, is_int_s, is_int_l, is_str_n, is_str_t, is_str_s, is_str_l, is_tuple_n, is_tuple_t, is_tuple_s, is_tuple_l, at_z, at_o, sl_tail, tup_0, tup_1, tup_2, tup_3, rev_t, rev_l, len_l, mCallE, R.bind_ex, tup_4, *])
theorem law_eq : b_law = (mSeq (mAsg (setV 1) (mCall dAbs (mCons (mCallF m__law_cell (mCons (mVar 0) (mCons (mC (.int 0)) mNil))) mNil))) (mSeq (mAsg (setV 2) (mOp dAdd (mC (.str "n")) (mM1 dJoin (mC (.str "")) (mOf (mLcS [15] (mRng1 (mOp dMod (mVar 1) (mC (.int 4)))) (setV 15) mYes b_law_E1))))) (mSeq (mSetL 3 (mLcS [5] (mItems (mVar 2)) (setV 5) mYes b_law_E2)) (mSeq (mSetM 4 (mCat (mOf (mLcS [14] (mItems (mSl (mVar 0) (mPart (mC (.int 2))) (mPart (mC (.int 62))))) (setV 14) mYes b_law_E3)) (mCallF m__law_draws (mCons (mCallF m__law_cell (mCons (mVar 0) (mCons (mC (.int 1)) mNil))) (mCons (mC (.int 60)) (mCons (mC (.int 171000)) mNil)))))) (mSeq (mAsg (setV 5) (mOp dIx (mC (.str "ntsl")) (mOp dMod (mCall dAbs (mCons (mCallF m__law_cell (mCons (mVar 0) (mCons (mC (.int 62)) mNil))) mNil)) (mC (.int 4))))) (mSeq (mAsg (setV 6) (mCallB 4 m__law_program (mCons (mVar 5) (mCons (mVar 2) (mCons (mOp dAdd (mC (.int 3)) (mOp dMod (mOp dDiv (mCall dAbs (mCons (mCallF m__law_cell (mCons (mVar 0) (mCons (mC (.int 62)) mNil))) mNil)) (mC (.int 4))) (mC (.int 2)))) (mCons (mCallF m__law_library mNil) mNil)))))) (mSeq (mAsg (setV 7) (mCallF m__law_parts (mCons (mVar 6) mNil))) (mSeq (mIf (mT (mOp dLe (mCall dLen (mCons (mVar 7) mNil)) (mC (.int 60)))) b_mid mSkip) b_tail)))))))) := rfl
theorem lay_inv {x : D} (h : x.canLay0 = true) (h2 : x.depth ≤ 60) : PyData.canLay0 (.tuple [.str "invalid", x, .bool true, .bool false]) = true ∧ PyData.depth (.tuple [.str "invalid", x, .bool true, .bool false]) ≤ 64 := by
  refine ⟨?_, ?_⟩
  · show (PyData.canLay0 (.str "invalid") && (x.canLay0 && (true && (true && true)))) = true
    rw [h, show PyData.canLay0 (.str "invalid") = true from by kernel_rfl]
    rfl
  · show max 0 (max x.depth (max 0 (max 0 0))) + 1 ≤ 64
    omega
theorem e_inv : dEq (.str "invalid") (.str "invalid") = some (.bool true) := by kernel_rfl
theorem e_kind : dEq (.str "kind") (.str "kind") = some (.bool true) := by kernel_rfl
theorem tail_ok {ks : List Kd} (hk : ks[0]? = some .n) {f : Int} (f0 : 0 ≤ f) {sc c5 d : D} {w : List D} (o10 o11 o12 o13 : Option D) : ∃ δ, b_tail [.val sc, .val (.int f), .val (lettersD ks), .val (kindsD ks), .var false w, .val c5, .val d, .val (.list (P d)), .non, .non, cO o10, cO o11, cO o12, cO o13, .non, .non] = .ok (.rt (.bool true)) δ := by
  have dv : dDiv (.int f) (.int 3) = some (.int (f / 3)) := div_s (by decide) (by decide)
  by_cases q : f / 3 % 2 = 0
  · obtain ⟨N, hN1, hN2, e1⟩ := large_even hk (f := f / 3) (by omega) q
    have hl := ch_len hk (i := N) (by omega)
    have e2 : m__law_parts [chN N] = .ok (.list (P (chN N))) [] := law_parts_eq (ch_gp hk N) (by omega) (m := 50) (by omega) (by omega)
    obtain ⟨δ, e3⟩ := pk_chain hk (d0 := chN N) 30 N 1 .none none none none (by decide) (by decide) hN1 (by omega) (.inl rfl)
    obtain ⟨δ2, e4⟩ := pk_ex (n := 31) e3
    have e5 := told_ex e4
    have e6 : atI (P (chN N)) 30 = some (chN (N - 30)) := by
      have := at_nat (P (chN N)) 30
      rw [ch_at hk 30 (by omega) hN1] at this
      exact this
    have ly := lay_p ((ch_gp hk (N - 30)).le (show N - 30 + 1 ≤ 30 by omega))
    obtain ⟨y1, y2⟩ := lay_inv ly.1 (by have := ly.2; omega)
    have e7 := eq_self y1 y2
    refine ⟨[.val sc, .val (.int f), .val (lettersD ks), .val (kindsD ks), .var false w, .val c5, .val d, .val (.list (P d)), .val (.tuple [chN N, .int 30]), .val (.list (P (chN N))), cO o10, cO o11, cO o12, cO o13, .non, .non], ?_⟩
    unfold b_tail
    cases o10 <;> cases o11 <;> cases o12 <;> cases o13 <;> (simp only [cO]; iterate 9 ((try simp only [dv, e1, e2, e5, e6, e7, truthD]); walk_at "ev"))
  · obtain ⟨d2, n, hn, g, l1, l2, e1⟩ := large_odd (ks := ks) (f := f / 3) (by omega) q
    have e2 : m__law_parts [d2] = .ok (.list (P d2)) [] := law_parts_eq g hn (m := 50) hn (by omega)
    obtain ⟨x, δ, e3⟩ := pk_big (ks := ks) (d0 := d2) (P d2).length [(d2, .none, 1)] 0 none none none (Int.le_refl _) (by decide) (fun q hq => by
      rw [List.mem_singleton.mp hq]
      exact ⟨n, .n, hn, .inl rfl, g⟩) (by simp) (by omega) (by simp; omega)
    obtain ⟨δ2, e4⟩ := pk_ex e3
    have e5 := told_ex e4
    have t1 : decide ((60 : Int) = 30) = false := by decide
    have t2 : decide (((P d2).length : Int) ≤ 60) = false := decide_eq_false (by omega)
    have t3 : (((P d2).length : Int) ≤ 60) = False := eq_false (by omega)
    have t4 : ((60 : Int) = 30) = False := eq_false (by decide)
    have e7 := e_inv
    refine ⟨[.val sc, .val (.int f), .val (lettersD ks), .val (kindsD ks), .var false w, .val c5, .val d, .val (.list (P d)), .val (.tuple [d2, .int 60]), .val (.list (P d2)), cO o10, cO o11, cO o12, cO o13, .non, .non], ?_⟩
    unfold b_tail
    cases o10 <;> cases o11 <;> cases o12 <;> cases o13 <;> (simp only [cO]; iterate 9 ((try simp only [dv, e1, e2, e5, e7, t1, t2, t3, t4, truthD]); walk_at "ev"))
theorem mid_ok {ks : List Kd} (hks : ks.length ≤ 4) {k : Kd} {d : D} (g : GP ks 4 k d) (hl : (P d).length ≤ 60) {ns : List Int} {f : Int} (f0 : 0 ≤ f) {sc c5 : D} (hsc : sc = .list (ns.map .int)) {w : List D} :
    (∃ o10 o11 o12 o13, b_mid [.val sc, .val (.int f), .val (lettersD ks), .val (kindsD ks), .var false w, .val c5, .val d, .val (.list (P d)), .non, .non, .non, .non, .non, .non, .non, .non] = .ok .nx [.val sc, .val (.int f), .val (lettersD ks), .val (kindsD ks), .var false w, .val c5, .val d, .val (.list (P d)), .non, .non, cO o10, cO o11, cO o12, cO o13, .non, .non]) ∨ ∃ δ, b_mid [.val sc, .val (.int f), .val (lettersD ks), .val (kindsD ks), .var false w, .val c5, .val d, .val (.list (P d)), .non, .non, .non, .non, .non, .non, .non, .non] = .ok (.rt (.bool true)) δ := by
  have pd := P_fn g.fn (by decide)
  have hp : 0 < (P d).length := by rw [pd, List.length_cons]; omega
  have e1 : dMod (.int (f / 20)) (.int ((P d).length : Nat)) = some (.int (f / 20 % ((P d).length : Nat))) := mod_s (by omega)
  obtain ⟨a, ha⟩ := Int.eq_ofNat_of_zero_le (show 0 ≤ f / 20 % ((P d).length : Nat) from Int.emod_nonneg _ (by omega))
  have ha2 : a < (P d).length := by
    have := Int.emod_lt_of_pos (f / 20) (show (0 : Int) < ((P d).length : Nat) by omega)
    omega
  rw [ha] at e1
  have c2 : m__law_cell [sc, .int 2] = .ok (.int (ns.getD 2 0)) [] := by rw [hsc]; exact cell_eq ns 2
  generalize ns.getD 2 0 = b at c2
  generalize hu : (if b < 0 then -b else b) = ch
  have ch0 : 0 ≤ ch := by rw [← hu]; split <;> omega
  obtain ⟨n', k', hn', gx⟩ := parts_gp g (by decide) (P d)[a] (List.getElem_mem ha2)
  have e2 : atI (P d) (a : Int) = some (P d)[a] := by rw [at_nat, List.getElem?_eq_getElem ha2]
  have el : m__law_letter [(P d)[a], lettersD ks, LIBD] = .ok (.str (letter k')) [] := by
    cases n' with
    | zero => exact gx.elim
    | succ n' => exact letter_eq hks gx
  obtain ⟨k2, hne, wx, ew, hwx⟩ := wrong_eq ch k' ks.length ch0
  have lib : m__law_library [] = .ok LIBD [] := lib_eq
  have eln : dLen [lettersD ks] = some (.int ks.length) := by
    have := len_S (l := ks.map code) (by rw [List.length_map]; omega)
    rw [List.length_map] at this
    exact this
  obtain ⟨w1, w2, w3, w4, w5, w6⟩ := wrongs hne (ks := ks) (i := ch % 12) (by omega) (by omega) hwx
  obtain ⟨p2, p1⟩ := P_two w3 w4
  have hW : ∀ x, (P d)[a]? = some x → ∀ k3 n3, n3 ≤ 40 → GP ks n3 k3 x → Wr ks wx k3 := fun x hx k3 n3 _ g3 => by
    rw [List.getElem?_eq_getElem ha2] at hx
    cases hx
    have e3 : m__law_letter [(P d)[a], lettersD ks, LIBD] = .ok (.str (letter k3)) [] := by
      cases n3 with
      | zero => exact g3.elim
      | succ n3 => exact letter_eq hks g3
    rw [el] at e3
    have e4 : letter k' = letter k3 := by
      injection e3 with e3
      injection e3
    have : k' = k3 := by rw [← res_letter k', ← res_letter k3, e4]
    rw [← this]
    exact w1
  obtain ⟨d', δr, r1, r2, r3, r4, r5⟩ := repl_eq w3 g (by decide) (m := 50) (by decide) ha2 hl hW
  have r1 : m__law_replaced [d, .int a, wx] = .ok d' δr := r1
  obtain ⟨y1, y2⟩ := lay_inv w5 (by omega)
  have en := ne_self y1 y2
  have h10 : mAsg (setV 10) (mOp dMod (mOp dDiv (mVar 1) (mC (.int 20))) (mCall dLen (mCons (mVar 7) mNil))) [.val sc, .val (.int f), .val (lettersD ks), .val (kindsD ks), .var false w, .val c5, .val d, .val (.list (P d)), .non, .non, .non, .non, .non, .non, .non, .non] = .ok .nx [.val sc, .val (.int f), .val (lettersD ks), .val (kindsD ks), .var false w, .val c5, .val d, .val (.list (P d)), .non, .non, .val (.int a), .non, .non, .non, .non, .non] := by
    iterate 4 ((try simp only [e1, ha]); walk_at "ev")
  have h11 : mAsg (setV 11) (mCall dAbs (mCons (mCallF m__law_cell (mCons (mVar 0) (mCons (mC (.int 2)) mNil))) mNil)) [.val sc, .val (.int f), .val (lettersD ks), .val (kindsD ks), .var false w, .val c5, .val d, .val (.list (P d)), .non, .non, .val (.int a), .non, .non, .non, .non, .non] = .ok .nx [.val sc, .val (.int f), .val (lettersD ks), .val (kindsD ks), .var false w, .val c5, .val d, .val (.list (P d)), .non, .non, .val (.int a), .val (.int ch), .non, .non, .non, .non] := by
    iterate 4 ((try simp only [c2, hu]); walk_at "ev")
  have h12 : mAsg (setV 12) (mCallF m__law_wrong (mCons (mVar 11) (mCons (mCallF m__law_letter (mCons (mOp dIx (mVar 7) (mVar 10)) (mCons (mVar 2) (mCons (mCallF m__law_library mNil) mNil)))) (mCons (mCall dLen (mCons (mVar 2) mNil)) mNil)))) [.val sc, .val (.int f), .val (lettersD ks), .val (kindsD ks), .var false w, .val c5, .val d, .val (.list (P d)), .non, .non, .val (.int a), .val (.int ch), .non, .non, .non, .non] = .ok .nx [.val sc, .val (.int f), .val (lettersD ks), .val (kindsD ks), .var false w, .val c5, .val d, .val (.list (P d)), .non, .non, .val (.int a), .val (.int ch), .val wx, .non, .non, .non] := by
    iterate 6 ((try simp only [e2, lib, el, eln, ew]); walk_at "ev")
  have tA : (mT (mOp dEq (mVar 10) (mC (.int 0)))) [.val sc, .val (.int f), .val (lettersD ks), .val (kindsD ks), .var false w, .val c5, .val d, .val (.list (P d)), .non, .non, .val (.int a), .val (.int ch), .val wx, .non, .non, .non] = .ok (decide ((a : Int) = 0)) [.val sc, .val (.int f), .val (lettersD ks), .val (kindsD ks), .var false w, .val c5, .val d, .val (.list (P d)), .non, .non, .val (.int a), .val (.int ch), .val wx, .non, .non, .non] := by iterate 2 walk_at "ev"
  have tB : (mT (mOp dEq (mOp dMod (mVar 11) (mC (.int 12))) (mC (.int 0)))) [.val sc, .val (.int f), .val (lettersD ks), .val (kindsD ks), .var false w, .val c5, .val d, .val (.list (P d)), .non, .non, .val (.int a), .val (.int ch), .val wx, .non, .non, .non] = .ok (decide (ch % 12 = 0)) [.val sc, .val (.int f), .val (lettersD ks), .val (kindsD ks), .var false w, .val c5, .val d, .val (.list (P d)), .non, .non, .val (.int a), .val (.int ch), .val wx, .non, .non, .non] := by iterate 3 walk_at "ev"
  by_cases hAB : (a : Int) = 0 ∧ ch % 12 = 0
  · rw [decide_eq_true hAB.1] at tA
    rw [decide_eq_true hAB.2] at tB
    rw [hAB.2] at hwx
    have hwx2 : some (PyData.tuple [.str "constant", valK k2]) = some wx := hwx
    injection hwx2 with hwx2
    obtain ⟨z, ez⟩ := told_con (ks := ks) (val_vk k2)
    rw [hwx2] at ez
    have ek := e_kind
    refine .inr ⟨[.val sc, .val (.int f), .val (lettersD ks), .val (kindsD ks), .var false w, .val c5, .val d, .val (.list (P d)), .non, .non, .val (.int a), .val (.int ch), .val wx, .non, .non, .non], ?_⟩
    unfold b_mid
    rw [seq_ok h10, seq_ok h11, seq_ok h12, seq_rt (d := .bool true) (δ1 := [.val sc, .val (.int f), .val (lettersD ks), .val (kindsD ks), .var false w, .val c5, .val d, .val (.list (P d)), .non, .non, .val (.int a), .val (.int ch), .val wx, .non, .non, .non]) (by
      rw [if_t ((and_t tA).trans tB)]
      iterate 5 ((try simp only [ez, ek]); walk_at "ev"))]
  · have hmif : mIf (mAndT (mT (mOp dEq (mVar 10) (mC (.int 0)))) (mT (mOp dEq (mOp dMod (mVar 11) (mC (.int 12))) (mC (.int 0))))) (mRet (mOp dEq (mOp dIx (mCallE m__law_told (mCons (mVar 3) (mCons (mVar 12) mNil))) (mC (.int 0))) (mC (.str "kind")))) mSkip [.val sc, .val (.int f), .val (lettersD ks), .val (kindsD ks), .var false w, .val c5, .val d, .val (.list (P d)), .non, .non, .val (.int a), .val (.int ch), .val wx, .non, .non, .non] = .ok .nx [.val sc, .val (.int f), .val (lettersD ks), .val (kindsD ks), .var false w, .val c5, .val d, .val (.list (P d)), .non, .non, .val (.int a), .val (.int ch), .val wx, .non, .non, .non] := by
      by_cases q : (a : Int) = 0
      · rw [decide_eq_true q] at tA
        rw [decide_eq_false fun z => hAB ⟨q, z⟩] at tB
        rw [if_f ((and_t tA).trans tB)]
        rfl
      · rw [decide_eq_false q] at tA
        rw [if_f (and_f tA)]
        rfl
    have bi : Bi ks wx (d', .none, 1) := by
      by_cases q : a = 0
      · exact .inl ⟨by show (1 : Int) ≤ 30; decide, r4 q, w2 fun z => hAB ⟨by omega, z⟩⟩
      · obtain ⟨r, as, z1, z2, z3, z4, z5⟩ := r5 q
        exact .inr ⟨3, k, r, as, by show (1 : Int) + ((3 : Nat) : Int) ≤ 29; decide, by decide, .inl rfl, z1, z2, z3, z4, z5⟩
    obtain ⟨δ1, x1⟩ := pk_bad w3 (ks := ks) (d0 := d') (P d').length [(d', .none, 1)] 0 none none none (Int.le_refl _) (fun q hq => by rw [List.mem_singleton.mp hq]; exact .inr bi) ⟨_, List.mem_singleton.mpr rfl, bi⟩ (by simp) (by simp; omega) (by omega)
    obtain ⟨δ2, x2⟩ := pk_ex x1
    have x3 := told_ex x2
    refine .inl ⟨some (.int a), some (.int ch), some wx, some (.tuple [.str "invalid", wx, .bool true, .bool false]), ?_⟩
    have h13 : mAsg (setV 13) (mCallE m__law_told (mCons (mVar 3) (mCons (mCallF m__law_replaced (mCons (mVar 6) (mCons (mVar 10) (mCons (mVar 12) mNil)))) mNil))) [.val sc, .val (.int f), .val (lettersD ks), .val (kindsD ks), .var false w, .val c5, .val d, .val (.list (P d)), .non, .non, .val (.int a), .val (.int ch), .val wx, .non, .non, .non] = .ok .nx [.val sc, .val (.int f), .val (lettersD ks), .val (kindsD ks), .var false w, .val c5, .val d, .val (.list (P d)), .non, .non, .val (.int a), .val (.int ch), .val wx, .val (.tuple [.str "invalid", wx, .bool true, .bool false]), .non, .non] := by
      iterate 5 ((try simp only [r1, x3]); walk_at "ev")
    have hfin : mIf (mT (mOp dNe (mVar 13) (mCall dTup (mCons (mC (.str "invalid")) (mCons (mVar 12) (mCons (mC (.bool true)) (mCons (mC (.bool false)) mNil))))))) (mRet (mC (.bool false))) mSkip [.val sc, .val (.int f), .val (lettersD ks), .val (kindsD ks), .var false w, .val c5, .val d, .val (.list (P d)), .non, .non, .val (.int a), .val (.int ch), .val wx, .val (.tuple [.str "invalid", wx, .bool true, .bool false]), .non, .non] = .ok .nx [.val sc, .val (.int f), .val (lettersD ks), .val (kindsD ks), .var false w, .val c5, .val d, .val (.list (P d)), .non, .non, .val (.int a), .val (.int ch), .val wx, .val (.tuple [.str "invalid", wx, .bool true, .bool false]), .non, .non] := by
      iterate 5 ((try simp only [en, tup_4]); walk_at "ev")
    unfold b_mid
    rw [seq_ok h10, seq_ok h11, seq_ok h12, seq_ok hmif, seq_ok h13, hfin]
    rfl
/-! ### the law's beginning -/
theorem ntsl_S : ("ntsl" : Str) = S [110, 116, 115, 108] := by decide +kernel
theorem ntsl_at {i : Int} (h0 : 0 ≤ i) (h1 : i < 4) : ∃ k : Kd, dIx (.str "ntsl") (.int i) = some (.str (S [code k])) := by
  obtain ⟨k, _, e⟩ := ntsl_ix h0 h1
  exact ⟨k, by rw [e, letter_S]⟩
theorem letters_eq {sc : D} {f : Int} (hf : 0 ≤ f) : ∃ ks : List Kd, ks.length ≤ 3 ∧ (mM1 dJoin (mC (.str "")) (mOf (mLcS [15] (mRng1 (mOp dMod (mVar 1) (mC (.int 4)))) (setV 15) mYes b_law_E1))) [.val sc, .val (.int f), .non, .non, .non, .non, .non, .non, .non, .non, .non, .non, .non, .non, .non, .non] = .ok (lettersD ks) [.val sc, .val (.int f), .non, .non, .non, .non, .non, .non, .non, .non, .non, .non, .non, .non, .non, .non] := by
  obtain ⟨g, e, hg⟩ := lcS_ex (j := 15) (it := mRng1 (mOp dMod (mVar 1) (mC (.int 4)))) (e := b_law_E1) (δ := [.val sc, .val (.int f), .non, .non, .non, .non, .non, .non, .non, .non, .non, .non, .non, .non, .non, .non]) (δ' := [.val sc, .val (.int f), .non, .non, .non, .non, .non, .non, .non, .non, .non, .non, .non, .non, .non, .non]) (items := rng 0 (f % 4)) (P := fun _ y => ∃ k : Kd, y = .str (S [code k]) ∧ True) (by
    have b2 : big (f % 4) = true := big_of (by omega) (by omega)
    iterate 3 ((try simp only [b2]); walk_at "ev")) (by simp) rfl (by rw [rng_len]; omega) (fun x hx => by
    obtain ⟨i, rfl, h0, h1⟩ := rng_int hx
    obtain ⟨k, hk⟩ := ntsl_at (i := f / (4 + 3 * i) % 4) (by omega) (by omega)
    have e1 : dMul (.int 3) (.int i) = some (.int (3 * i)) := mul_l (by decide) (by decide)
    have e2 : dDiv (.int f) (.int (4 + 3 * i)) = some (.int (f / (4 + 3 * i))) := div_s (by omega) (by omega)
    refine ⟨.str (S [code k]), ?_, k, rfl, trivial⟩
    unfold b_law_E1
    iterate 5 ((try simp only [e1, e2, hk]); walk_at "ev"))
  obtain ⟨ks, e4, _⟩ := map_pick (ys := (rng 0 (f % 4)).map g) (g := fun k : Kd => PyData.str (S [code k])) (Q := fun _ => True) (fun y hy => by
    obtain ⟨x, hx', rfl⟩ := List.mem_map.mp hy
    exact hg x hx')
  have hl2 := congrArg List.length e4
  rw [List.length_map, List.length_map, rng_len] at hl2
  have e5 : dJoin (.str "") [.list (ks.map fun k : Kd => PyData.str (S [code k]))] = some (lettersD ks) := by
    have := join_ones (ks := ks.map code) (by rw [List.length_map]; omega)
    rw [List.map_map] at this
    exact this
  rw [e4] at e
  refine ⟨ks, by omega, ?_⟩
  iterate 3 ((try simp only [e, e5]); walk_at "ev")
theorem law_kind (k : Kd) : m__law_kind [.str (letter k)] = .ok (.str (nameOf k)) [] := by cases k <;> kernel_rfl
theorem kinds_lc {ks : List Kd} (hk : ks.length ≤ 4) {e : M D} (he : e = mCallF m__law_kind (mCons (mVar 5) mNil)) {δ : Dl} (h2 : δ[2]? = some (.val (lettersD ks))) (hl : δ.length = 16) (hn : noVar δ = true) :
    mLcS [5] (mItems (mVar 2)) (setV 5) mYes e δ = .ok (ks.map fun k => .str (nameOf k)) δ := by
  subst he
  have z := lcS_map (j := 5) (it := mItems (mVar 2)) (e := mCallF m__law_kind (mCons (mVar 5) mNil)) (δ := δ) (δ' := δ) (items := (ks.map code).map fun c => .str (S [c])) (fun d => match m__law_kind [d] with | .ok v _ => v | _ => .none) (by
    unfold mItems mVar
    rw [h2]
    rfl) (by omega) hn (by rw [List.length_map, List.length_map]; omega) (fun x hx => by
    obtain ⟨c, hc, rfl⟩ := List.mem_map.mp hx
    obtain ⟨k, hk, rfl⟩ := List.mem_map.mp hc
    have e1 := law_kind k
    rw [letter_S] at e1
    have e2 : (δ.set 5 (.val (.str (S [code k]))))[5]? = some (.val (.str (S [code k]))) := List.getElem?_set_self (by omega)
    iterate 2 ((try simp only [e1, e2]); walk_at "ev")
    rw [e1])
  rw [z, List.map_map, List.map_map]
  congr 1
  apply List.map_congr_left
  intro k _
  have e1 := law_kind k
  rw [letter_S] at e1
  show (match m__law_kind [.str (S [code k])] with | .ok v _ => v | _ => .none) = _
  rw [e1]
theorem cut_map (ns : List Int) (lo hi : Option Int) : cutL (ns.map PyData.int) lo hi = (cutL ns lo hi).map .int := by
  unfold cutL
  rw [List.length_map, List.map_take, List.map_drop]
theorem cut_len (ns : List Int) (lo hi : Option Int) : (cutL ns lo hi).length ≤ ns.length := by
  unfold cutL
  rw [List.length_take, List.length_drop]
  omega
theorem numbers_eq {ns : List Int} (hl : ns.length ≤ 63) {c1 c2 c3 : D} : ∃ zs : List Int, (mCat (mOf (mLcS [14] (mItems (mSl (mVar 0) (mPart (mC (.int 2))) (mPart (mC (.int 62))))) (setV 14) mYes b_law_E3)) (mCallF m__law_draws (mCons (mCallF m__law_cell (mCons (mVar 0) (mCons (mC (.int 1)) mNil))) (mCons (mC (.int 60)) (mCons (mC (.int 171000)) mNil))))) [.val (.list (ns.map .int)), .val c1, .val c2, .val c3, .non, .non, .non, .non, .non, .non, .non, .non, .non, .non, .non, .non] = .ok (zs.map .int) [.val (.list (ns.map .int)), .val c1, .val c2, .val c3, .non, .non, .non, .non, .non, .non, .non, .non, .non, .non, .non, .non] := by
  have hcl := cut_len ns (some 2) (some 62)
  obtain ⟨g, e, hg⟩ := lcS_ex (j := 14) (it := mItems (mSl (mVar 0) (mPart (mC (.int 2))) (mPart (mC (.int 62))))) (e := b_law_E3) (δ := [.val (.list (ns.map .int)), .val c1, .val c2, .val c3, .non, .non, .non, .non, .non, .non, .non, .non, .non, .non, .non, .non]) (δ' := [.val (.list (ns.map .int)), .val c1, .val c2, .val c3, .non, .non, .non, .non, .non, .non, .non, .non, .non, .non, .non, .non]) (items := (cutL ns (some 2) (some 62)).map .int) (P := fun _ y => ∃ i : Int, y = .int i ∧ True) (by
    rw [← cut_map]
    rfl) (by simp) rfl (by rw [List.length_map]; omega) (fun x hx => by
    obtain ⟨i, hi, rfl⟩ := List.mem_map.mp hx
    refine ⟨.int ((if i < 0 then -i else i) / 2), ?_, _, rfl, trivial⟩
    unfold b_law_E3
    iterate 3 walk_at "ev")
  obtain ⟨us, e4, _⟩ := map_pick (ys := ((cutL ns (some 2) (some 62)).map PyData.int).map g) (g := fun i : Int => PyData.int i) (Q := fun _ => True) (fun y hy => by
    obtain ⟨x, hx', rfl⟩ := List.mem_map.mp hy
    exact hg x hx')
  have hl2 := congrArg List.length e4
  rw [List.length_map, List.length_map, List.length_map] at hl2
  rw [e4] at e
  have c1 : m__law_cell [.list (ns.map .int), .int 1] = .ok (.int (ns.getD 1 0)) [] := cell_eq ns 1
  obtain ⟨xs, d1, d2, _⟩ := draws_eq (ns.getD 1 0) (n := 60) (l := 171000) (by decide) (by decide) (by decide)
  have d1 : m__law_draws [.int (ns.getD 1 0), .int 60, .int 171000] = .ok (.list (xs.map .int)) [] := d1
  refine ⟨us ++ xs, ?_⟩
  unfold mCat
  iterate 4 ((try simp only [e, c1, d1]); walk_at "ev")
  rw [if_pos (by rw [List.length_map, List.length_map, d2]; show _ ≤ 16777216; omega), List.map_append]
theorem law_holds : ∀ ns : List Int, ns.length ≤ 63 → ∃ δ, m_law [.list (ns.map .int)] = .ok (.bool true) δ := by
  intro ns hns
  have c0 : m__law_cell [.list (ns.map .int), .int 0] = .ok (.int (ns.getD 0 0)) [] := cell_eq ns 0
  have c62 : m__law_cell [.list (ns.map .int), .int 62] = .ok (.int (ns.getD 62 0)) [] := cell_eq ns 62
  generalize ns.getD 0 0 = a at c0
  generalize ns.getD 62 0 = b at c62
  generalize hf : (if a < 0 then -a else a) = f
  have f0 : 0 ≤ f := by rw [← hf]; split <;> omega
  generalize hu : (if b < 0 then -b else b) = u
  have u0 : 0 ≤ u := by rw [← hu]; split <;> omega
  generalize hsc : PyData.list (ns.map .int) = sc at c0 c62
  obtain ⟨ks1, hks1, l1⟩ := letters_eq (sc := sc) f0
  have ecat : dAdd (.str "n") (lettersD ks1) = some (lettersD (.n :: ks1)) := by
    have e : ("n" : Str) = S [110] := by decide +kernel
    rw [e]
    exact cat_S (l := [110]) (m := ks1.map code) (by rw [List.length_map]; simp; omega)
  generalize hksd : (Kd.n :: ks1) = ks at ecat
  have hks : ks.length ≤ 4 := by rw [← hksd, List.length_cons]; omega
  have hk0 : ks[0]? = some .n := by rw [← hksd]; rfl
  have h1 : (mAsg (setV 1) (mCall dAbs (mCons (mCallF m__law_cell (mCons (mVar 0) (mCons (mC (.int 0)) mNil))) mNil))) [.val sc, .non, .non, .non, .non, .non, .non, .non, .non, .non, .non, .non, .non, .non, .non, .non] = .ok .nx [.val sc, .val (.int f), .non, .non, .non, .non, .non, .non, .non, .non, .non, .non, .non, .non, .non, .non] := by
    iterate 3 ((try simp only [c0, hf]); walk_at "ev")
  have h2 : (mAsg (setV 2) (mOp dAdd (mC (.str "n")) (mM1 dJoin (mC (.str "")) (mOf (mLcS [15] (mRng1 (mOp dMod (mVar 1) (mC (.int 4)))) (setV 15) mYes b_law_E1))))) [.val sc, .val (.int f), .non, .non, .non, .non, .non, .non, .non, .non, .non, .non, .non, .non, .non, .non] = .ok .nx [.val sc, .val (.int f), .val (lettersD ks), .non, .non, .non, .non, .non, .non, .non, .non, .non, .non, .non, .non, .non] := by
    have e : (mOp dAdd (mC (.str "n")) (mM1 dJoin (mC (.str "")) (mOf (mLcS [15] (mRng1 (mOp dMod (mVar 1) (mC (.int 4)))) (setV 15) mYes b_law_E1)))) [.val sc, .val (.int f), .non, .non, .non, .non, .non, .non, .non, .non, .non, .non, .non, .non, .non, .non] = .ok (lettersD ks) [.val sc, .val (.int f), .non, .non, .non, .non, .non, .non, .non, .non, .non, .non, .non, .non, .non, .non] := by
      show R.bind ((mM1 dJoin (mC (.str "")) (mOf (mLcS [15] (mRng1 (mOp dMod (mVar 1) (mC (.int 4)))) (setV 15) mYes b_law_E1))) [.val sc, .val (.int f), .non, .non, .non, .non, .non, .non, .non, .non, .non, .non, .non, .non, .non, .non]) (fun y δ => R.lift (dAdd (.str "n") y) δ) = _
      rw [l1, DL.bind_ok, ecat]
      rfl
    unfold mAsg
    rw [e]
    rfl
  have h3 : (mSetL 3 (mLcS [5] (mItems (mVar 2)) (setV 5) mYes b_law_E2)) [.val sc, .val (.int f), .val (lettersD ks), .non, .non, .non, .non, .non, .non, .non, .non, .non, .non, .non, .non, .non] = .ok .nx [.val sc, .val (.int f), .val (lettersD ks), .val (kindsD ks), .non, .non, .non, .non, .non, .non, .non, .non, .non, .non, .non, .non] := by
    unfold mSetL
    rw [kinds_lc hks (e := b_law_E2) rfl rfl rfl rfl]
    rfl
  obtain ⟨zs, n1⟩ := numbers_eq hns (c1 := .int f) (c2 := lettersD ks) (c3 := kindsD ks)
  rw [hsc] at n1
  have h4 : (mSetM 4 (mCat (mOf (mLcS [14] (mItems (mSl (mVar 0) (mPart (mC (.int 2))) (mPart (mC (.int 62))))) (setV 14) mYes b_law_E3)) (mCallF m__law_draws (mCons (mCallF m__law_cell (mCons (mVar 0) (mCons (mC (.int 1)) mNil))) (mCons (mC (.int 60)) (mCons (mC (.int 171000)) mNil)))))) [.val sc, .val (.int f), .val (lettersD ks), .val (kindsD ks), .non, .non, .non, .non, .non, .non, .non, .non, .non, .non, .non, .non] = .ok .nx [.val sc, .val (.int f), .val (lettersD ks), .val (kindsD ks), .var false (zs.map .int), .non, .non, .non, .non, .non, .non, .non, .non, .non, .non, .non] := by
    unfold mSetM
    rw [n1]
    rfl
  obtain ⟨k, k1⟩ := ntsl_at (i := u % 4) (by omega) (by omega)
  rw [← letter_S] at k1
  have h5 : (mAsg (setV 5) (mOp dIx (mC (.str "ntsl")) (mOp dMod (mCall dAbs (mCons (mCallF m__law_cell (mCons (mVar 0) (mCons (mC (.int 62)) mNil))) mNil)) (mC (.int 4))))) [.val sc, .val (.int f), .val (lettersD ks), .val (kindsD ks), .var false (zs.map .int), .non, .non, .non, .non, .non, .non, .non, .non, .non, .non, .non] = .ok .nx [.val sc, .val (.int f), .val (lettersD ks), .val (kindsD ks), .var false (zs.map .int), .val (.str (letter k)), .non, .non, .non, .non, .non, .non, .non, .non, .non, .non] := by
    iterate 4 ((try simp only [c62, hu, k1]); walk_at "ev")
  obtain ⟨d, zs2, p1, p2⟩ := program_eq hks 3 50 (3 + u / 4 % 2) zs k (by omega) (by decide)
  have p2 : GP ks 4 k d := p2
  have lib : m__law_library [] = .ok LIBD [] := lib_eq
  have q1 : (mCallB 4 m__law_program (mCons (mVar 5) (mCons (mVar 2) (mCons (mOp dAdd (mC (.int 3)) (mOp dMod (mOp dDiv (mCall dAbs (mCons (mCallF m__law_cell (mCons (mVar 0) (mCons (mC (.int 62)) mNil))) mNil)) (mC (.int 4))) (mC (.int 2)))) (mCons (mCallF m__law_library mNil) mNil))))) [.val sc, .val (.int f), .val (lettersD ks), .val (kindsD ks), .var false (zs.map .int), .val (.str (letter k)), .non, .non, .non, .non, .non, .non, .non, .non, .non, .non] = .ok d [.val sc, .val (.int f), .val (lettersD ks), .val (kindsD ks), .var false (zs2.map .int), .val (.str (letter k)), .non, .non, .non, .non, .non, .non, .non, .non, .non, .non] := by
    refine callB_ok (i := 4) (b := false) (es := zs.map .int) (es' := zs2.map .int) (ds := [.str (letter k), lettersD ks, .int (3 + u / 4 % 2), LIBD]) rfl ?_ p1
    iterate 5 ((try simp only [c62, hu, lib]); walk_at "ev")
  have h6 : (mAsg (setV 6) (mCallB 4 m__law_program (mCons (mVar 5) (mCons (mVar 2) (mCons (mOp dAdd (mC (.int 3)) (mOp dMod (mOp dDiv (mCall dAbs (mCons (mCallF m__law_cell (mCons (mVar 0) (mCons (mC (.int 62)) mNil))) mNil)) (mC (.int 4))) (mC (.int 2)))) (mCons (mCallF m__law_library mNil) mNil)))))) [.val sc, .val (.int f), .val (lettersD ks), .val (kindsD ks), .var false (zs.map .int), .val (.str (letter k)), .non, .non, .non, .non, .non, .non, .non, .non, .non, .non] = .ok .nx [.val sc, .val (.int f), .val (lettersD ks), .val (kindsD ks), .var false (zs2.map .int), .val (.str (letter k)), .val d, .non, .non, .non, .non, .non, .non, .non, .non, .non] := by
    unfold mAsg
    rw [q1]
    rfl
  have hPl := P_few p2 (by decide)
  have e4 : (4 : Nat) ^ 4 = 256 := by decide
  have e1 : m__law_parts [d] = .ok (.list (P d)) [] := law_parts_eq p2 (by decide) (m := 50) (by decide) (by omega)
  have h7 : (mAsg (setV 7) (mCallF m__law_parts (mCons (mVar 6) mNil))) [.val sc, .val (.int f), .val (lettersD ks), .val (kindsD ks), .var false (zs2.map .int), .val (.str (letter k)), .val d, .non, .non, .non, .non, .non, .non, .non, .non, .non] = .ok .nx [.val sc, .val (.int f), .val (lettersD ks), .val (kindsD ks), .var false (zs2.map .int), .val (.str (letter k)), .val d, .val (.list (P d)), .non, .non, .non, .non, .non, .non, .non, .non] := by
    iterate 3 ((try simp only [e1]); walk_at "ev")
  have fin : ∀ {δ : Dl}, b_law [.val sc, .non, .non, .non, .non, .non, .non, .non, .non, .non, .non, .non, .non, .non, .non, .non] = .ok (.rt (.bool true)) δ → ∃ δ, m_law [sc] = .ok (.bool true) δ := fun {δ} hb => by
    refine ⟨[], ?_⟩
    unfold m_law
    show R.bind (b_law [.val sc, .non, .non, .non, .non, .non, .non, .non, .non, .non, .non, .non, .non, .non, .non, .non]) _ = _
    rw [hb]
    rfl
  have tL : (mT (mOp dLe (mCall dLen (mCons (mVar 7) mNil)) (mC (.int 60)))) [.val sc, .val (.int f), .val (lettersD ks), .val (kindsD ks), .var false (zs2.map .int), .val (.str (letter k)), .val d, .val (.list (P d)), .non, .non, .non, .non, .non, .non, .non, .non] = .ok (decide (((P d).length : Int) ≤ 60)) [.val sc, .val (.int f), .val (lettersD ks), .val (kindsD ks), .var false (zs2.map .int), .val (.str (letter k)), .val d, .val (.list (P d)), .non, .non, .non, .non, .non, .non, .non, .non] := by iterate 3 walk_at "ev"
  by_cases q : (P d).length ≤ 60
  · rw [decide_eq_true (show ((P d).length : Int) ≤ 60 by omega)] at tL
    rcases mid_ok hks p2 q f0 (sc := sc) (c5 := .str (letter k)) hsc.symm (w := zs2.map .int) with ⟨o10, o11, o12, o13, hm⟩ | ⟨δ, hm⟩
    · obtain ⟨δ, ht⟩ := tail_ok hk0 f0 (sc := sc) (c5 := .str (letter k)) (d := d) (w := zs2.map .int) o10 o11 o12 o13
      refine fin (δ := δ) ?_
      rw [law_eq, seq_ok h1, seq_ok h2, seq_ok h3, seq_ok h4, seq_ok h5, seq_ok h6, seq_ok h7, seq_ok (by rw [if_t tL]; exact hm), ht]
    · refine fin (δ := δ) ?_
      rw [law_eq, seq_ok h1, seq_ok h2, seq_ok h3, seq_ok h4, seq_ok h5, seq_ok h6, seq_ok h7, seq_rt (by rw [if_t tL]; exact hm)]
  · rw [decide_eq_false (show ¬ ((P d).length : Int) ≤ 60 by omega)] at tL
    obtain ⟨δ, ht⟩ := tail_ok hk0 f0 (sc := sc) (c5 := .str (letter k)) (d := d) (w := zs2.map .int) none none none none
    refine fin (δ := δ) ?_
    rw [law_eq, seq_ok h1, seq_ok h2, seq_ok h3, seq_ok h4, seq_ok h5, seq_ok h6, seq_ok h7, seq_ok (by rw [if_f tL]; rfl)]
    exact ht
end K07
end Part_SN

section Part_K07f
set_option Elab.async false
set_option linter.all false
namespace K07
open PySem PySem.Spec PyProof.Rows L2 DL
end K07
open PySem PySem.W PyProof.Rows in
set_option maxRecDepth 100000 in
set_option maxHeartbeats 0 in
theorem PySem.Challenge.cw_leastfit_k07_tuples_that_are_no_programs_holds : PySem.Challenge.rw_leastfit_k07_tuples_that_are_no_programs.Holds := by
  w_on; o_law; k_head; (case hw => w_witness2)
  k_fill
  refine' DL.walk_law (l := PySem.Challenge.rw_leastfit_k07_tuples_that_are_no_programs) (k := 102) (m := K07.b_law) (st := K07.s_law) (N := K07.N_law) (EC := K07.EC0 _) rfl rfl rfl ⟨rfl, by decide, by decide⟩ (fun w h Y => PySem.W.kIn_of Y) K07.sc_law ?F K07.law_holds
  case F =>
    intro w mg h KX G
    refine' K07.fin ?T
    case T =>
      constructor
      · refine' DL.funX_mk KX G ?a ?l ?c ?k (fun _ _ _ _ _ _ us hl => match us, hl with | [_], _ => rfl)
        (case a => k_is); (case l => k_is); (case c => k_is); (case k => k_is)
      · refine' DL.funX_mk KX G ?a ?l ?c ?k (fun _ _ _ _ _ _ us hl => match us, hl with | [_, _, _], _ => rfl)
        (case a => k_is); (case l => k_is); (case c => k_is); (case k => k_is)
      · refine' DL.funX_mk KX G ?a ?l ?c ?k (fun _ _ _ _ _ _ us hl => match us, hl with | [_, _], _ => rfl)
        (case a => k_is); (case l => k_is); (case c => k_is); (case k => k_is)
      · refine' DL.funX_mk KX G ?a ?l ?c ?k (fun _ _ _ _ _ _ us hl => match us, hl with | [_, _], _ => rfl)
        (case a => k_is); (case l => k_is); (case c => k_is); (case k => k_is)
      · refine' DL.funX_mk KX G ?a ?l ?c ?k (fun _ _ _ _ _ _ us hl => match us, hl with | [_, _, _], _ => rfl)
        (case a => k_is); (case l => k_is); (case c => k_is); (case k => k_is)
      · refine' DL.funX_mk KX G ?a ?l ?c ?k (fun _ _ _ _ _ _ us hl => match us, hl with | [_, _, _, _, _], _ => rfl)
        (case a => k_is); (case l => k_is); (case c => k_is); (case k => k_is)
      · refine' DL.funX_mk KX G ?a ?l ?c ?k (fun _ _ _ _ _ _ us hl => match us, hl with | [_], _ => rfl)
        (case a => k_is); (case l => k_is); (case c => k_is); (case k => k_is)
      · refine' DL.funX_mk KX G ?a ?l ?c ?k (fun _ _ _ _ _ _ us hl => match us, hl with | [_], _ => rfl)
        (case a => k_is); (case l => k_is); (case c => k_is); (case k => k_is)
      · refine' DL.funX_mk KX G ?a ?l ?c ?k (fun _ _ _ _ _ _ us hl => match us, hl with | [_, _], _ => rfl)
        (case a => k_is); (case l => k_is); (case c => k_is); (case k => k_is)
      · refine' DL.funX_mk KX G ?a ?l ?c ?k (fun _ _ _ _ _ _ us hl => match us, hl with | [_], _ => rfl)
        (case a => k_is); (case l => k_is); (case c => k_is); (case k => k_is)
      · refine' DL.funX_mk KX G ?a ?l ?c ?k (fun _ _ _ _ _ _ us hl => match us, hl with | [], _ => rfl)
        (case a => k_is); (case l => k_is); (case c => k_is); (case k => k_is)
      · refine' DL.funX_mk KX G ?a ?l ?c ?k (fun _ _ _ _ _ _ us hl => match us, hl with | [_, _, _], _ => rfl)
        (case a => k_is); (case l => k_is); (case c => k_is); (case k => k_is)
      · refine' DL.funX_mk KX G ?a ?l ?c ?k (fun _ _ _ _ _ _ us hl => match us, hl with | [_], _ => rfl)
        (case a => k_is); (case l => k_is); (case c => k_is); (case k => k_is)
      · refine' DL.funX_mk KX G ?a ?l ?c ?k (fun _ _ _ _ _ _ us hl => match us, hl with | [_], _ => rfl)
        (case a => k_is); (case l => k_is); (case c => k_is); (case k => k_is)
      · refine' DL.funX_mk KX G ?a ?l ?c ?k (fun _ _ _ _ _ _ us hl => match us, hl with | [_], _ => rfl)
        (case a => k_is); (case l => k_is); (case c => k_is); (case k => k_is)
      · refine' DL.funX_mk KX G ?a ?l ?c ?k (fun _ _ _ _ _ _ us hl => match us, hl with | [_], _ => rfl)
        (case a => k_is); (case l => k_is); (case c => k_is); (case k => k_is)
      · refine' DL.funX_mk KX G ?a ?l ?c ?k (fun _ _ _ _ _ _ us hl => match us, hl with | [_], _ => rfl)
        (case a => k_is); (case l => k_is); (case c => k_is); (case k => k_is)
      · refine' DL.funX_mk KX G ?a ?l ?c ?k (fun _ _ _ _ _ _ us hl => match us, hl with | [_, _], _ => rfl)
        (case a => k_is); (case l => k_is); (case c => k_is); (case k => k_is)
      · refine' DL.funX_mk KX G ?a ?l ?c ?k (fun _ _ _ _ _ _ us hl => match us, hl with | [_], _ => rfl)
        (case a => k_is); (case l => k_is); (case c => k_is); (case k => k_is)
      · refine' DL.funX_mk KX G ?a ?l ?c ?k (fun _ _ _ _ _ _ us hl => match us, hl with | [_, _], _ => rfl)
        (case a => k_is); (case l => k_is); (case c => k_is); (case k => k_is)
      · refine' DL.funX_mk KX G ?a ?l ?c ?k (fun _ _ _ _ _ _ us hl => match us, hl with | [_, _], _ => rfl)
        (case a => k_is); (case l => k_is); (case c => k_is); (case k => k_is)
      · refine' DL.funX_mk KX G ?a ?l ?c ?k (fun _ _ _ _ _ _ us hl => match us, hl with | [_], _ => rfl)
        (case a => k_is); (case l => k_is); (case c => k_is); (case k => k_is)
      · refine' DL.funX_mk KX G ?a ?l ?c ?k (fun _ _ _ _ _ _ us hl => match us, hl with | [_], _ => rfl)
        (case a => k_is); (case l => k_is); (case c => k_is); (case k => k_is)
      · refine' DL.funX_mk KX G ?a ?l ?c ?k (fun _ _ _ _ _ _ us hl => match us, hl with | [_, _, _], _ => rfl)
        (case a => k_is); (case l => k_is); (case c => k_is); (case k => k_is)
      · refine' DL.funX_mk KX G ?a ?l ?c ?k (fun _ _ _ _ _ _ us hl => match us, hl with | [_], _ => rfl)
        (case a => k_is); (case l => k_is); (case c => k_is); (case k => k_is)
      · refine' DL.funX_mk KX G ?a ?l ?c ?k (fun _ _ _ _ _ _ us hl => match us, hl with | [_, _], _ => rfl)
        (case a => k_is); (case l => k_is); (case c => k_is); (case k => k_is)
      · refine' DL.funX_mk KX G ?a ?l ?c ?k (fun _ _ _ _ _ _ us hl => match us, hl with | [_, _], _ => rfl)
        (case a => k_is); (case l => k_is); (case c => k_is); (case k => k_is)
      · refine' DL.funX_mk KX G ?a ?l ?c ?k (fun _ _ _ _ _ _ us hl => match us, hl with | [_, _], _ => rfl)
        (case a => k_is); (case l => k_is); (case c => k_is); (case k => k_is)
      · refine' DL.funX_mk KX G ?a ?l ?c ?k (fun _ _ _ _ _ _ us hl => match us, hl with | [_, _, _], _ => rfl)
        (case a => k_is); (case l => k_is); (case c => k_is); (case k => k_is)
      · refine' DL.funX_mk KX G ?a ?l ?c ?k (fun _ _ _ _ _ _ us hl => match us, hl with | [_, _, _], _ => rfl)
        (case a => k_is); (case l => k_is); (case c => k_is); (case k => k_is)
      · refine' DL.funX_mk KX G ?a ?l ?c ?k (fun _ _ _ _ _ _ us hl => match us, hl with | [_], _ => rfl)
        (case a => k_is); (case l => k_is); (case c => k_is); (case k => k_is)
      · refine' DL.con_tup KX G ?a ?l ?d ?z
        (case a => k_is); (case l => k_is); (case d => rfl); (case z => decide)
      · refine' DL.con_int KX G ?a
        (case a => k_is)
      · refine' DL.con_int KX G ?a
        (case a => k_is)
      · refine' DL.con_int KX G ?a
        (case a => k_is)
      · refine' DL.con_int KX G ?a
        (case a => k_is)
      · refine' DL.con_str KX G ?a
        (case a => k_is)
      · refine' DL.con_int KX G ?a
        (case a => k_is)
      · refine' DL.tab_data (ks := K07.d_SIGNATURES.map (·.1)) KX G ?g ?l ?lit ?low ?hd
        (case g => k_is); (case l => k_is); (case lit => first | kernel_rfl | rfl); (case low => decide); (case hd => first | kernel_rfl | rfl)
      · refine' PySem.W.mg_none_of KX G ?a
        (case a => k_is)
      · refine' PySem.W.mg_none_of KX G ?a
        (case a => k_is)
      · refine' PySem.W.mg_none_of KX G ?a
        (case a => k_is)
      · refine' PySem.W.mg_none_of KX G ?a
        (case a => k_is)
      · refine' PySem.W.mg_none_of KX G ?a
        (case a => k_is)
      · refine' PySem.W.mg_none_of KX G ?a
        (case a => k_is)
      · refine' PySem.W.mg_none_of KX G ?a
        (case a => k_is)
      · refine' PySem.W.mg_none_of KX G ?a
        (case a => k_is)
      · refine' PySem.W.mg_none_of KX G ?a
        (case a => k_is)
      · refine' PySem.W.mg_none_of KX G ?a
        (case a => k_is)
      · refine' PySem.W.mg_none_of KX G ?a
        (case a => k_is)
      · refine' PySem.W.mg_none_of KX G ?a
        (case a => k_is)
      · refine' PySem.W.mg_of KX G ?a
        (case a => k_is)
      · refine' DL.clsF_mk ?l ?hbm ?sa ?exC ?tyC ?kC ?ga ?gg ?hd ?ha ?hn ?ht ?hm ?nof
        (case l => k_is); (case hbm => rfl); (case sa => k_is); (case exC => k_is); (case tyC => k_is); (case kC => k_is); (case ga => k_is); (case gg => k_is); (case hd => k_is); (case ha => k_is); (case hn => k_is); (case ht => k_is); (case hm => k_is); (case nof => k_is)
      · intro w2 base2
        refine' DL.errX_mk (fun _ => True) KX G ?F ?a ?b ?tI ?l ?ci ?S ?hsup ?hp ?har ?lc ?hvs ?hfile ?htop ?lcc ?hcls ?hmro ?hsg ?hst ?hsu ?hB ?hev ?hse ?pd1 ?pd2 ?hsw ?hb ?he ?hT
        (case F => (refine' DL.clsF_mk ?cl ?hbm ?sa ?exC ?tyC ?kC ?ga ?gg ?hd ?ha ?hn ?ht ?hm ?nof; (case cl => k_is); (case hbm => rfl); (case sa => k_is); (case exC => k_is); (case tyC => k_is); (case kC => k_is); (case ga => k_is); (case gg => k_is); (case hd => k_is); (case ha => k_is); (case hn => k_is); (case ht => k_is); (case hm => k_is); (case nof => k_is)))
        (case a => k_is); (case b => k_is); (case tI => k_is); (case l => k_is); (case ci => k_is)
        (case S => exact NdefX.nscope_by (by decide +kernel)); (case hsup => rfl); (case hp => rfl); (case har => rfl); (case lc => k_is); (case hvs => rfl)
        (case hfile => first | rfl | decide +kernel); (case htop => first | rfl | decide +kernel); (case lcc => k_is); (case hcls => k_is); (case hmro => k_is); (case hsg => k_is); (case hst => k_is)
        (case hsu => first | kernel_rfl | rfl); (case hB => k_is); (case hev => exact fun env => ⟨_, rfl⟩); (case hse => exact fun env => rfl); (case pd1 => decide); (case pd2 => decide); (case hsw => exact fun env => rfl)
        (case hb => exact fun us hl => match us, hl with | [_, _], _ => rfl)
        (case he => exact fun X _ _ _ _ _ => ⟨_, L2.pe_str, fun a y H Q _ h => h _⟩); (case hT => exact fun _ _ _ _ _ => True.intro)
      · refine' PySem.W.exm_ref ?h1 ?hdct ?ht ?h4
        (case h1 => k_is); (case hdct => k_is); (case ht => k_is); (case h4 => k_is)
      · refine' ⟨_, PySem.W.mg_of KX G ?a, DL.kit_ref ?h1 ?h2 ?h3 ?hne⟩
        (case a => k_is); (case h1 => k_is); (case h2 => k_is); (case h3 => k_is); (case hne => first | rfl | decide +kernel)
      · refine' ⟨_, PySem.W.mg_of KX G ?a, DL.kit_ref ?h1 ?h2 ?h3 ?hne⟩
        (case a => k_is); (case h1 => k_is); (case h2 => k_is); (case h3 => k_is); (case hne => first | rfl | decide +kernel)
end Part_K07f
