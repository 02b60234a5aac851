import PyProof.Rows.All
import Wide.All
import OpenK.AllK
import Wide.FinOn
import HandS.ForMost
import HandS.Walk
import HandS.Evl
import HandS.IsInst
import HandS.Flow
import HandS.Style
import HandS.Wide
import HandS.Exc
import HandS.ExcOwn
import HandS.TryOnly
import HandS.TryMany
import HandS.WordsExc
import HandS.TupAny
import HandS.TupLe
import HandS.StrMore
import HandS.Codes
import PySem.Challenge.RW_leastfit_k19_rules_of_simplifying
import HandS.Zip
import HandS.Deep
import KE.GoesMore
import KE.GoesZip
import KE.KExcSuper
import HandS.Nested
import HandS.ExcInit
import KE.KExcIs
import HandS.ExcField
import HandS.ExcIs
import HandS.FStr
import HandS.Star
import HandS.More
import HandS.HeadHook3
import HandS.CallLocal
import HandS.Conv
import PyProof.Rows.InDataRows
import KE.KRevSl
import KE.DataMinMax
import PyProof.StrBlock2
import PyProof.SliceStr2
import HandS.TupMul
import KE.KTupSum
import HandS.Dict
import KE.LtSeq
import PyProof.P3Eq
import KE.DataEq
section Part_DL0
set_option Elab.async false
set_option linter.all false
set_option maxRecDepth 100000
set_option autoImplicit false
set_option maxHeartbeats 2000000
namespace DL
open PySem PySem.Spec PyProof.Rows L2 Evl
/-! ### tuples that are made, with what stands of their objects: no own dict (for their methods) -/
/-- the thing at a has no own dict -/
def ND (K : PySem.W.Frag) (H : Hp) (a : Addr) : Prop := (∃ o u, H a = some (.frz o u) ∧ o.dict = none) ∨ ∃ o, K.lookup a = some o ∧ o.dict = none
theorem ND.ex {K : PySem.W.Frag} {C H : Hp} {a : Addr} (e : Ex C H) (h : ND K C a) : ND K H a := by
  rcases h with ⟨o, u, h1, h2⟩ | h
  · exact .inl ⟨o, u, e a _ h1, h2⟩
  · exact .inr h
theorem ND.new {K : PySem.W.Frag} {H : Hp} {p : Addr} {o : Obj} {u : HO} (h : o.dict = none) : ND K (upd H p (.frz o u)) p := .inl ⟨o, u, upd_same, h⟩
theorem sqt_new {K : PySem.W.Frag} {H : Hp} {p : Addr} {o : Obj} {xs : List V} : SqT K (upd H p (.frz o (.tup xs))) p xs := .inl (.inr ⟨o, upd_same⟩)
/-- the object that is laid at a new place -/
theorem frz_laid {X : Cx} {pins : List (Addr × Obj)} {σ : L2.St} {H : Hp} {s : Shared} {h' : Heap} {t' : Nat} {p : Addr} {xs : List V} {its : Array Value} (I : Inv X pins σ H s) (k : ∀ b o, s.heap.get? b = some o → h'.get? b = some o) (hp : s.heap.objs.size ≤ p)
    (ho : h'.get? p = some { cls := .type "tuple", data := .seq its }) (hz : xs.length ≤ sizeLine) (r : Vals xs its.toList) :
    Inv X pins σ (upd H p (.frz { cls := .type "tuple", data := .seq its } (.tup xs))) { s with heap := h', toks := t' } := by
  have e : its.toList.toArray = its := by simp
  exact I.laid (t' := t') (o := .frz { cls := .type "tuple", data := .seq its } (.tup xs)) k hp ⟨ho, hz, its.toList, r, by rw [e]; exact ⟨_, ho, rfl, _, rfl⟩⟩
section
variable {X : Cx}
def tTupF (t : TA) : TE := fun σ H Q => t σ H fun xs H1 => xs.length ≤ sizeLine ∧ ∀ p o, H1 p = none → o.dict = none → Q (.ref p) (upd H1 p (.frz o (.tup xs)))
theorem pe_tupF {es : List Expr} {x1 : Nat} {pos : Pos} {t : TA} (h : PA X es t) : PE X (.Tuple es x1 pos) (tTupF t) := by
  refine ⟨fun pins s σ H Q I hq => ?_⟩
  refine wpAny_Tuple_spliced (thn (h.run pos pins s σ H _ I hq) fun us s1 ⟨xs, H1, I1, r, z, q⟩ => ⟨by rw [← r.length]; exact z, ?_⟩)
  exact ⟨.ref s1.heap.objs.size, _, frz_laid (t' := s1.toks) I1 (fun b u e => Heap.get?_push_of_some _ e) (Nat.le_refl _) (Heap.get?_push_size _ rfl) z (by simpa using r), rfl, q _ _ (I1.hok.fresh (Nat.le_refl _)) rfl⟩
def rCatF (K : PySem.W.Frag) : R2 := fun x y H Q => ∃ a b xs ys, x = .ref a ∧ y = .ref b ∧ SqT K H a xs ∧ SqT K H b ys ∧ xs.length + ys.length ≤ sizeLine ∧
  (xs = [] → Q (.ref b) H) ∧ (xs ≠ [] → ys = [] → Q (.ref a) H) ∧ (xs ≠ [] → ys ≠ [] → ∀ p o, H p = none → o.dict = none → Q (.ref p) (upd H p (.frz o (.tup (xs ++ ys)))))
theorem op_catF : OpR X (binaryOp .Add) (rCatF X.K) := by
  intro pins s σ H x y v u Q I rx ry h
  obtain ⟨a, b, xs, ys, ex, ey, ha, hb, hz, q0, q1, q2⟩ := h
  subst ex ey
  cases rx
  cases ry
  obtain ⟨its, r1, p1, _⟩ := I.tuple ha
  obtain ⟨its2, r2, p2, _⟩ := I.tuple hb
  by_cases hx : xs = []
  · subst hx
    cases r1
    exact cat_tup0 p1 p2 ⟨.ref b, H, I, rfl, q0 rfl⟩
  · refine HT.cat_tup p1 p2 (fun z => hx (r1.nil_iff.mp z)) (fun z => ⟨.ref a, H, I, rfl, q1 hx (r2.nil_iff.mp z)⟩) (fun z => ?_) (by rw [← r1.length, ← r2.length]; exact hz)
    exact ⟨.ref s.heap.objs.size, _, frz_laid (t' := s.toks) (xs := xs ++ ys) I (fun b ob q => Heap.get?_push_of_some _ q) (Nat.le_refl _) (Heap.get?_push_size _ rfl) (by rw [List.length_append]; exact hz) (by simpa using r1.append r2), rfl, q2 hx (fun w => z (r2.nil_iff.mpr w)) _ _ (I.hok.fresh (Nat.le_refl _)) rfl⟩
def rSlF (K : PySem.W.Frag) : V → Option Int → Option Int → Hp → VK → Prop := fun x lo hi H Q => ∃ a xs, x = .ref a ∧ SqT K H a xs ∧
  (HT.sIx xs.length 0 lo = 0 ∧ HT.sIx xs.length xs.length hi = xs.length → Q (.ref a) H) ∧ (¬ (HT.sIx xs.length 0 lo = 0 ∧ HT.sIx xs.length xs.length hi = xs.length) → ∀ p o, H p = none → o.dict = none → Q (.ref p) (upd H p (.frz o (.tup (cutV xs lo hi)))))
theorem sl_tupF : SlR X (rSlF X.K) := by
  intro pins s σ H x v vl vu lo hi sl Q I rx hs pl pu h
  obtain ⟨a, xs, ex, hx, q1, q2⟩ := h
  subst ex
  cases rx
  obtain ⟨its, r, ht, hz⟩ := I.tuple hx
  have hlen : its.toArray.size = xs.length := by rw [List.size_toArray]; exact r.length.symm
  refine ⟨"tuple", _, PyProof.Rows.slot_tuple_getitem.lookup, ht.typeIs, ?_⟩
  by_cases hw : HT.sIx xs.length 0 lo = 0 ∧ HT.sIx xs.length xs.length hi = xs.length
  · exact getItem_tuple_whole ht hs pl pu (by rw [hlen]; exact hw) ⟨.ref a, H, I, rfl, q1 hw⟩
  · refine HT.getItem_tuple_cut ht hs pl pu (by rw [hlen]; exact hw) ?_ (by rw [hlen]; exact hz)
    rw [hlen]
    exact ⟨.ref s.heap.objs.size, _, frz_laid (t' := s.toks) (xs := cutV xs lo hi) I (fun b ob q => Heap.get?_push_of_some _ q) (Nat.le_refl _) (Heap.get?_push_size _ rfl) (Nat.le_trans (cutV_length xs lo hi) hz)
      (by
        have z := (r.drop (HT.sIx xs.length 0 lo)).take (HT.sIx xs.length xs.length hi - HT.sIx xs.length 0 lo)
        unfold cutV
        simpa using z), rfl, q2 hw _ _ (I.hok.fresh (Nat.le_refl _)) rfl⟩
def rTupF (K : PySem.W.Frag) : List V → Hp → VK → Prop := fun xs H Q => ∃ p ys, xs = [.ref p] ∧ ((SqL K H p ys ∧ ∀ l o, H l = none → o.dict = none → Q (.ref l) (upd H l (.frz o (.tup ys)))) ∨ (SqT K H p ys ∧ Q (.ref p) H))
theorem call_tupleF : CallR X (.type "tuple") (rTupF X.K) := by
  intro pins s σ H xs us Q I r h
  obtain ⟨p, ys, ex, h⟩ := h
  subst ex
  obtain ⟨u, eu, rx⟩ := vals1 r
  subst eu
  cases rx
  rcases h with ⟨hq, q⟩ | ⟨hq, q⟩
  · obtain ⟨its, r', pl, hz⟩ := I.list hq
    have hlen := r'.length
    refine call_tuple_list pl.isList (fun h' kp => ?_) (by simp only [List.size_toArray] <;> omega)
    have I1 : Inv X pins σ H { s with heap := h' } := I.kept (t' := s.toks) kp
    exact ⟨.ref h'.objs.size, _, frz_laid (s := { s with heap := h' }) (h' := h'.push { cls := .type "tuple", data := .seq its.toArray }) (t' := s.toks) (p := h'.objs.size) (xs := ys) (its := its.toArray) I1 (fun b o e => Heap.get?_push_of_some _ e) (Nat.le_refl _) (Heap.get?_push_size _ rfl) hz (by simpa using r'), rfl, q _ _ (I1.hok.fresh (Nat.le_refl _)) rfl⟩
  · obtain ⟨its, r', pl, hz⟩ := I.tuple hq
    exact call_tuple_same pl ⟨.ref p, H, I, rfl, q⟩
/-- a value is of the type: also a tuple that is known to have no own dict -/
theorem nd_is {pins : List (Addr × Obj)} {σ : L2.St} {H : Hp} {s : Shared} {a : Addr} {xs : List V} (I : Inv X pins σ H s) (h : SqT X.K H a xs) (n : ND X.K H a) : s.TypeIs (.ref a) "tuple" ∧ ∀ b, Value.ref a = .ref b → ∃ ob, s.heap.get? b = some ob ∧ ob.dict = none := by
  obtain ⟨its, r, ht, hz⟩ := I.tuple h
  refine ⟨ht.typeIs, fun b e => ?_⟩
  cases e
  rcases n with ⟨o, u, h1, h2⟩ | ⟨o, h1, h2⟩
  · exact ⟨o, (I.hok a _ h1).1, h2⟩
  · exact ⟨o, I.kIn a o h1, h2⟩
end
end DL
namespace DL
open PySem PySem.Spec PyProof.Rows L2 Evl
theorem sep2_of {z TI TO i1 i2 a b : Addr} (D : ZipApart z TI TO i1 i2 a b) : ZipSep2 z TI TO i1 i2 [i1, a] [i2, b] where
  TIz := D.TIz
  TOz := D.TOz
  TITO := D.TITO
  TIi1 := D.TIi1
  mem1 := by simp
  zf1 := by simp only [List.mem_cons, List.not_mem_nil, or_false, not_or]; exact ⟨D.i1z.symm, D.l1z.symm⟩
  Tf1 := by simp only [List.mem_cons, List.not_mem_nil, or_false, not_or]; exact ⟨D.TOi1, D.l1TO.symm⟩
  TIi2 := D.TIi2
  mem2 := by simp
  zf2 := by simp only [List.mem_cons, List.not_mem_nil, or_false, not_or]; exact ⟨D.i2z.symm, D.l2z.symm⟩
  Tf2 := by simp only [List.mem_cons, List.not_mem_nil, or_false, not_or]; exact ⟨D.TOi2, D.l2TO.symm⟩
  sep1_2 := by simp only [List.mem_cons, List.not_mem_nil, or_false, not_or]; exact ⟨D.i12, D.l2i1.symm⟩
  sep2_1 := by simp only [List.mem_cons, List.not_mem_nil, or_false, not_or]; exact ⟨D.i12.symm, D.l1i2.symm⟩
/-! ### zip of two sequences: pairs without an own dict -/
def YPairF (f g : Nat → Option V) (i : Nat) (H : Hp) (v : V) (H' : Hp) : Prop := ∃ T o x y, v = V.ref T ∧ H T = none ∧ o.dict = none ∧ H' = upd H T (.frz o (.tup [x, y])) ∧ f i = some x ∧ g i = some y
def ItzFTL (K : PySem.W.Frag) (a b : Addr) : It :=
  ⟨fun i H => ∃ (xs ys : List V) (x y : V), SqT K H a xs ∧ SqL K H b ys ∧ xs[i]? = some x ∧ ys[i]? = some y,
    fun i H v H' => ∃ T o x y, v = .ref T ∧ H T = none ∧ o.dict = none ∧ H' = upd H T (.frz o (.tup [x, y])) ∧ (∀ xs, SqT K H a xs → xs[i]? = some x) ∧ ∀ ys, SqL K H b ys → ys[i]? = some y,
    fun i H => ∃ xs ys : List V, SqT K H a xs ∧ SqL K H b ys ∧ i ≤ xs.length ∧ i ≤ ys.length ∧ (i = xs.length ∨ i = ys.length)⟩
theorem turn_zipFTL {P : Program} {w : World} {K : PySem.W.Frag} {elts : List Expr} {kk : Nat} {tpos : Pos} {a b z TI TO i1 i2 : Addr} (D : ZipApart z TI TO i1 i2 a b) :
    Turn P w K (.Tuple elts kk tpos) (ItzFTL K a b) [z, TI, TO, i1, i2] z (fun i h => IsZip h z TI TO .none ∧ IsPair h TI (.ref i1) (.ref i2) ∧ (∃ x y, IsPair h TO x y) ∧ h.IsTupleIter i1 a i ∧ h.IsListIter i2 b i) where
  mem := by simp
  obj := fun i h st c hc => by
    obtain ⟨hz, hTI, ⟨x, y, hTO⟩, ⟨o1, e1, _, d1⟩, ⟨o2, e2, _, d2⟩⟩ := st
    have e' : c = z ∨ c = TI ∨ c = TO ∨ c = i1 ∨ c = i2 := by simpa using hc
    rcases e' with q | q | q | q | q
    · rw [q]; exact ⟨_, hz, fun v q => nomatch q⟩
    · rw [q]; exact ⟨_, hTI, fun v q => nomatch q⟩
    · rw [q]; exact ⟨_, hTO, fun v q => nomatch q⟩
    · rw [q]; exact ⟨o1, e1, fun v q => by rw [d1] at q; cases q⟩
    · rw [q]; exact ⟨o2, e2, fun v q => by rw [d2] at q; cases q⟩
  keep := fun i h h' st k => by
    obtain ⟨hz, hTI, ⟨x, y, hTO⟩, h1, h2⟩ := st
    exact ⟨k z (by simp) _ hz, k TI (by simp) _ hTI, ⟨x, y, k TO (by simp) _ hTO⟩, h1.at fun o q => k i1 (by simp) o q, h2.at fun o q => k i2 (by simp) o q⟩
  item := by
    intro X hP hw hK hc i pins s σ H E I hf st hg
    subst hP hw hK
    obtain ⟨hz, hTI, ⟨x0, y0, hTO⟩, h1, h2⟩ := st
    obtain ⟨xs, ys, x, y, hqx, hqy, hx, hy⟩ := hg
    obtain ⟨its, rv, p, _⟩ := I.tuple hqx
    obtain ⟨its2, rv2, p2, _⟩ := I.list hqy
    obtain ⟨u, hu, ru⟩ := rv.get hx
    obtain ⟨u2, hu2, ru2⟩ := rv2.get hy
    have hzl : z < s.heap.objs.size := Heap.lt_size hz
    have hu' : its.toArray[i]? = some u := by simpa using hu
    have hu2' : its2.toArray[i]? = some u2 := by simpa using hu2
    have hA : X.A.in1.handled = none := I.ok.hd hc
    refine wpAny_pyNext_zipD2_item (i := i) (sep2_of D) (Draws.tuple hA i1 a D.l1i1 its.toArray) (Draws.list hA i2 b D.l2i2 its2.toArray) hz hTI hTO ⟨h1, p⟩ ⟨h2, p2.isList⟩ (by
      rcases Nat.lt_or_ge i its.toArray.size with q | q
      · exact q
      · rw [Array.getElem?_eq_none q] at hu'; cases hu') (by
      rcases Nat.lt_or_ge i its2.toArray.size with q | q
      · exact q
      · rw [Array.getElem?_eq_none q] at hu2'; cases hu2') fun x1 x2 h' tk y1 y2 z' TO' d1 d2 hT hsz hk => ?_
    rw [hu'] at y1
    rw [hu2'] at y2
    cases y1
    cases y2
    obtain ⟨h1', _⟩ := d1
    obtain ⟨h2', _⟩ := d2
    refine ⟨_, rfl, wpAny_letOwnedTupleGo_zip (s := { s with heap := h', toks := tk }) z' fun h'' z'' sb => ?_⟩
    have hT2 : h''.get? s.heap.objs.size = some { cls := .type "tuple", data := .seq #[u, u2] } := (sb.2 _ (Nat.ne_of_gt hzl)).trans hT
    have new : ObjOk X.prog X.w (upd H s.heap.objs.size (.frz { cls := .type "tuple", data := .seq #[u, u2] } (.tup [x, y]))) h'' s.heap.objs.size (.frz { cls := .type "tuple", data := .seq #[u, u2] } (.tup [x, y])) :=
      ⟨hT2, by show 2 ≤ sizeLine; decide, [u, u2], .cons ru (.cons ru2 .nil), ⟨_, hT2, rfl, _, rfl⟩⟩
    have I1 : Inv X pins σ (upd H s.heap.objs.size (.frz { cls := .type "tuple", data := .seq #[u, u2] } (.tup [x, y]))) { s with heap := h'', toks := tk } :=
      I.turnedNew (t' := tk) (ch := [z, TI, TO, i1, i2]) (fun c o hb q => (sb.2 c (fun q' => hb (by simp [q']))).trans (hk c o (fun q' => hb (by simp [q'])) (fun q' => hb (by simp [q'])) (fun q' => hb (by simp [q'])) (fun q' => hb (by simp [q'])) q)) hf (Nat.le_refl _) new
    refine ⟨.ref s.heap.objs.size, _, I1, rfl, ⟨_, { cls := .type "tuple", data := .seq #[u, u2] }, x, y, rfl, I.hok.fresh (Nat.le_refl _), rfl, rfl, fun l hl => by rw [I.tuple_inj hl hqx]; exact hx, fun l hl => by rw [I.list_inj hl hqy]; exact hy⟩, ⟨z'', ?_, ⟨u, u2, ?_⟩, ?_, ?_⟩, fun c hcm => ?_⟩
    · exact (sb.2 _ D.TIz).trans (hk _ _ D.TIz D.TITO D.TIi1 D.TIi2 hTI)
    · exact (sb.2 _ D.TOz).trans TO'
    · exact h1'.at fun o q => (sb.2 _ D.i1z).trans q
    · exact h2'.at fun o q => (sb.2 _ D.i2z).trans q
    · have hlt : c < s.heap.objs.size := by
        have e' : c = z ∨ c = TI ∨ c = TO ∨ c = i1 ∨ c = i2 := by simpa using hcm
        rcases e' with q | q | q | q | q
        · rw [q]; exact hzl
        · rw [q]; exact Heap.lt_size hTI
        · rw [q]; exact Heap.lt_size hTO
        · rw [q]; obtain ⟨_, e1, _⟩ := h1; exact Heap.lt_size e1
        · rw [q]; obtain ⟨_, e2, _⟩ := h2; exact Heap.lt_size e2
      rw [upd_ne (Nat.ne_of_lt hlt)]
      exact (hf c hcm).1
  done := by
    intro X hP hw hK hc i pins s σ H E I hf st hg
    subst hP hw hK
    obtain ⟨hz, hTI, ⟨x0, y0, hTO⟩, h1, h2⟩ := st
    obtain ⟨xs, ys, hqx, hqy, hi1, hi2, hend⟩ := hg
    obtain ⟨its, rv, p, _⟩ := I.tuple hqx
    obtain ⟨its2, rv2, p2, _⟩ := I.list hqy
    have l1 := rv.length
    have l2 := rv2.length
    have hA : X.A.in1.handled = none := I.ok.hd hc
    exact wpAny_pyNext_zipD2_end (i := i) (sep2_of D) (Draws.tuple hA i1 a D.l1i1 its.toArray) (Draws.list hA i2 b D.l2i2 its2.toArray) hz hTI hTO ⟨h1, p⟩ ⟨h2, p2.isList⟩ (by simp; omega) (by simp; omega) (by simp; omega) fun h' tk hk => ⟨rfl, I.turnedL (t' := tk) (ch := [z, TI, TO, i1, i2]) (fun c o hb q =>
      hk c o (fun q' => hb (by simp [q'])) (fun q' => hb (by simp [q'])) (fun q' => hb (by simp [q'])) (fun q' => hb (by simp [q'])) q) hf⟩
  self := fun A i s Q E st h => wpAny_pyIter_zip st.1 h
def iZipFTL (K : PySem.W.Frag) (ta : TA) : TI := fun σ H R => ta σ H fun vs H1 => ∃ a b xs ys, vs = [.ref a, .ref b] ∧ SqT K H1 a xs ∧ SqL K H1 b ys ∧ R (ItzFTL K a b) H1
theorem pi_zipFTL {X : Cx} {e e2 : Expr} {ta : TA} {p pos tpos : Pos} {elts : List Expr} {kk : Nat} (hg : Gl X "zip") (hm : X.mg "zip" = none) (ha : PA X [e, e2] ta)
    (hs : starEach [e, e2] X.env = (false, eval e X.env) :: starEach [e2] X.env := by rfl) (hpl : (backTo pos (starEach [e2] X.env)).any (·.1) = false := by rfl) :
    PI X (.Tuple elts kk tpos) (.Call (.Name "zip" p) [e, e2] [] pos) (iZipFTL X.K ta) := by
  refine ⟨fun pins s σ H R I h => ?_⟩
  refine Call_ (ld_blt I hg hm PyProof.Rows.boot_zip (PyProof.Rows.callWith_type1 (thn (ha.run pos pins s σ H _ I h) fun us s1 ⟨vs, H1, I1, r1, q1⟩ => ?_) hs hpl))
  obtain ⟨a, b, xs, ys, ex, hqx, hqy, q⟩ := q1
  subst ex
  cases r1 with
  | cons r rr =>
    cases rr with
    | cons r' rr =>
      cases rr
      cases r
      cases r'
      have fresh5 : ∀ c, c ∈ [s1.heap.objs.size + 4, s1.heap.objs.size + 2, s1.heap.objs.size + 3, s1.heap.objs.size, s1.heap.objs.size + 1] → FpOk X pins H1 c := fun c hcm => by
        have e' : c = s1.heap.objs.size + 4 ∨ c = s1.heap.objs.size + 2 ∨ c = s1.heap.objs.size + 3 ∨ c = s1.heap.objs.size ∨ c = s1.heap.objs.size + 1 := by simpa using hcm
        have hle : s1.heap.objs.size ≤ c := by
          rcases e' with z | z | z | z | z
          · rw [z]; exact Nat.le_add_right _ _
          · rw [z]; exact Nat.le_add_right _ _
          · rw [z]; exact Nat.le_add_right _ _
          · rw [z]; exact Nat.le_refl _
          · rw [z]; exact Nat.le_add_right _ _
        exact I1.fpOk hle (I1.hok.fresh hle)
      obtain ⟨its, rv, p1, _⟩ := I1.tuple hqx
      obtain ⟨its2, rv2, p2, _⟩ := I1.list hqy
      obtain ⟨o1, ho1, _⟩ := id p1
      refine zip_begins2 (begins_tuple a its.toArray) (begins_list b its2.toArray) p1 p2.isList fun h' hz hTI hTO h1 h2 hsz hk => wpAny_pyIter_zip hz ?_
      have I2 : Inv X pins σ H1 { s1 with heap := h' } := I1.kept (t' := s1.toks) hk
      exact ⟨s1.heap.objs.size + 4, [s1.heap.objs.size + 4, s1.heap.objs.size + 2, s1.heap.objs.size + 3, s1.heap.objs.size, s1.heap.objs.size + 1], _, _, H1, rfl, I2, turn_zipFTL (PySem.W.ktu_apart s1.heap.objs.size a b (Heap.lt_size ho1) p2.lt), ⟨hz, hTI, ⟨_, _, hTO⟩, ⟨_, h1, rfl, rfl⟩, ⟨_, h2, rfl, rfl⟩⟩, fresh5, q⟩
theorem walk_zipFTL {K : PySem.W.Frag} {a b : Addr} {xs ys : List V} {n : Nat} (hn : n = min xs.length ys.length) : Walk (ItzFTL K a b) n (fun H => SqT K H a xs ∧ SqL K H b ys) (YPairF (fun i => xs[i]?) (fun i => ys[i]?)) := by
  subst hn
  refine ⟨fun i _ hi q => ?_, fun _ q => ⟨xs, ys, q.1, q.2, by omega, by omega, by omega⟩, fun i H v H' _ q y => ?_⟩
  · have h1 : i < xs.length := by omega
    have h2 : i < ys.length := by omega
    exact ⟨xs, ys, xs[i], ys[i], q.1, q.2, by simp [h1], by simp [h2]⟩
  · obtain ⟨T, o, x, z, h1, h2, hd, h3, h4, h5⟩ := y
    exact ⟨T, o, x, z, h1, h2, hd, h3, h4 xs q.1, h5 ys q.2⟩
def ItzFTT (K : PySem.W.Frag) (a b : Addr) : It :=
  ⟨fun i H => ∃ (xs ys : List V) (x y : V), SqT K H a xs ∧ SqT K H b ys ∧ xs[i]? = some x ∧ ys[i]? = some y,
    fun i H v H' => ∃ T o x y, v = .ref T ∧ H T = none ∧ o.dict = none ∧ H' = upd H T (.frz o (.tup [x, y])) ∧ (∀ xs, SqT K H a xs → xs[i]? = some x) ∧ ∀ ys, SqT K H b ys → ys[i]? = some y,
    fun i H => ∃ xs ys : List V, SqT K H a xs ∧ SqT K H b ys ∧ i ≤ xs.length ∧ i ≤ ys.length ∧ (i = xs.length ∨ i = ys.length)⟩
theorem turn_zipFTT {P : Program} {w : World} {K : PySem.W.Frag} {elts : List Expr} {kk : Nat} {tpos : Pos} {a b z TI TO i1 i2 : Addr} (D : ZipApart z TI TO i1 i2 a b) :
    Turn P w K (.Tuple elts kk tpos) (ItzFTT K a b) [z, TI, TO, i1, i2] z (fun i h => IsZip h z TI TO .none ∧ IsPair h TI (.ref i1) (.ref i2) ∧ (∃ x y, IsPair h TO x y) ∧ h.IsTupleIter i1 a i ∧ h.IsTupleIter i2 b i) where
  mem := by simp
  obj := fun i h st c hc => by
    obtain ⟨hz, hTI, ⟨x, y, hTO⟩, ⟨o1, e1, _, d1⟩, ⟨o2, e2, _, d2⟩⟩ := st
    have e' : c = z ∨ c = TI ∨ c = TO ∨ c = i1 ∨ c = i2 := by simpa using hc
    rcases e' with q | q | q | q | q
    · rw [q]; exact ⟨_, hz, fun v q => nomatch q⟩
    · rw [q]; exact ⟨_, hTI, fun v q => nomatch q⟩
    · rw [q]; exact ⟨_, hTO, fun v q => nomatch q⟩
    · rw [q]; exact ⟨o1, e1, fun v q => by rw [d1] at q; cases q⟩
    · rw [q]; exact ⟨o2, e2, fun v q => by rw [d2] at q; cases q⟩
  keep := fun i h h' st k => by
    obtain ⟨hz, hTI, ⟨x, y, hTO⟩, h1, h2⟩ := st
    exact ⟨k z (by simp) _ hz, k TI (by simp) _ hTI, ⟨x, y, k TO (by simp) _ hTO⟩, h1.at fun o q => k i1 (by simp) o q, h2.at fun o q => k i2 (by simp) o q⟩
  item := by
    intro X hP hw hK hc i pins s σ H E I hf st hg
    subst hP hw hK
    obtain ⟨hz, hTI, ⟨x0, y0, hTO⟩, h1, h2⟩ := st
    obtain ⟨xs, ys, x, y, hqx, hqy, hx, hy⟩ := hg
    obtain ⟨its, rv, p, _⟩ := I.tuple hqx
    obtain ⟨its2, rv2, p2, _⟩ := I.tuple hqy
    obtain ⟨u, hu, ru⟩ := rv.get hx
    obtain ⟨u2, hu2, ru2⟩ := rv2.get hy
    have hzl : z < s.heap.objs.size := Heap.lt_size hz
    have hu' : its.toArray[i]? = some u := by simpa using hu
    have hu2' : its2.toArray[i]? = some u2 := by simpa using hu2
    have hA : X.A.in1.handled = none := I.ok.hd hc
    refine wpAny_pyNext_zipD2_item (i := i) (sep2_of D) (Draws.tuple hA i1 a D.l1i1 its.toArray) (Draws.tuple hA i2 b D.l2i2 its2.toArray) hz hTI hTO ⟨h1, p⟩ ⟨h2, p2⟩ (by
      rcases Nat.lt_or_ge i its.toArray.size with q | q
      · exact q
      · rw [Array.getElem?_eq_none q] at hu'; cases hu') (by
      rcases Nat.lt_or_ge i its2.toArray.size with q | q
      · exact q
      · rw [Array.getElem?_eq_none q] at hu2'; cases hu2') fun x1 x2 h' tk y1 y2 z' TO' d1 d2 hT hsz hk => ?_
    rw [hu'] at y1
    rw [hu2'] at y2
    cases y1
    cases y2
    obtain ⟨h1', _⟩ := d1
    obtain ⟨h2', _⟩ := d2
    refine ⟨_, rfl, wpAny_letOwnedTupleGo_zip (s := { s with heap := h', toks := tk }) z' fun h'' z'' sb => ?_⟩
    have hT2 : h''.get? s.heap.objs.size = some { cls := .type "tuple", data := .seq #[u, u2] } := (sb.2 _ (Nat.ne_of_gt hzl)).trans hT
    have new : ObjOk X.prog X.w (upd H s.heap.objs.size (.frz { cls := .type "tuple", data := .seq #[u, u2] } (.tup [x, y]))) h'' s.heap.objs.size (.frz { cls := .type "tuple", data := .seq #[u, u2] } (.tup [x, y])) :=
      ⟨hT2, by show 2 ≤ sizeLine; decide, [u, u2], .cons ru (.cons ru2 .nil), ⟨_, hT2, rfl, _, rfl⟩⟩
    have I1 : Inv X pins σ (upd H s.heap.objs.size (.frz { cls := .type "tuple", data := .seq #[u, u2] } (.tup [x, y]))) { s with heap := h'', toks := tk } :=
      I.turnedNew (t' := tk) (ch := [z, TI, TO, i1, i2]) (fun c o hb q => (sb.2 c (fun q' => hb (by simp [q']))).trans (hk c o (fun q' => hb (by simp [q'])) (fun q' => hb (by simp [q'])) (fun q' => hb (by simp [q'])) (fun q' => hb (by simp [q'])) q)) hf (Nat.le_refl _) new
    refine ⟨.ref s.heap.objs.size, _, I1, rfl, ⟨_, { cls := .type "tuple", data := .seq #[u, u2] }, x, y, rfl, I.hok.fresh (Nat.le_refl _), rfl, rfl, fun l hl => by rw [I.tuple_inj hl hqx]; exact hx, fun l hl => by rw [I.tuple_inj hl hqy]; exact hy⟩, ⟨z'', ?_, ⟨u, u2, ?_⟩, ?_, ?_⟩, fun c hcm => ?_⟩
    · exact (sb.2 _ D.TIz).trans (hk _ _ D.TIz D.TITO D.TIi1 D.TIi2 hTI)
    · exact (sb.2 _ D.TOz).trans TO'
    · exact h1'.at fun o q => (sb.2 _ D.i1z).trans q
    · exact h2'.at fun o q => (sb.2 _ D.i2z).trans q
    · have hlt : c < s.heap.objs.size := by
        have e' : c = z ∨ c = TI ∨ c = TO ∨ c = i1 ∨ c = i2 := by simpa using hcm
        rcases e' with q | q | q | q | q
        · rw [q]; exact hzl
        · rw [q]; exact Heap.lt_size hTI
        · rw [q]; exact Heap.lt_size hTO
        · rw [q]; obtain ⟨_, e1, _⟩ := h1; exact Heap.lt_size e1
        · rw [q]; obtain ⟨_, e2, _⟩ := h2; exact Heap.lt_size e2
      rw [upd_ne (Nat.ne_of_lt hlt)]
      exact (hf c hcm).1
  done := by
    intro X hP hw hK hc i pins s σ H E I hf st hg
    subst hP hw hK
    obtain ⟨hz, hTI, ⟨x0, y0, hTO⟩, h1, h2⟩ := st
    obtain ⟨xs, ys, hqx, hqy, hi1, hi2, hend⟩ := hg
    obtain ⟨its, rv, p, _⟩ := I.tuple hqx
    obtain ⟨its2, rv2, p2, _⟩ := I.tuple hqy
    have l1 := rv.length
    have l2 := rv2.length
    have hA : X.A.in1.handled = none := I.ok.hd hc
    exact wpAny_pyNext_zipD2_end (i := i) (sep2_of D) (Draws.tuple hA i1 a D.l1i1 its.toArray) (Draws.tuple hA i2 b D.l2i2 its2.toArray) hz hTI hTO ⟨h1, p⟩ ⟨h2, p2⟩ (by simp; omega) (by simp; omega) (by simp; omega) fun h' tk hk => ⟨rfl, I.turnedL (t' := tk) (ch := [z, TI, TO, i1, i2]) (fun c o hb q =>
      hk c o (fun q' => hb (by simp [q'])) (fun q' => hb (by simp [q'])) (fun q' => hb (by simp [q'])) (fun q' => hb (by simp [q'])) q) hf⟩
  self := fun A i s Q E st h => wpAny_pyIter_zip st.1 h
def iZipFTT (K : PySem.W.Frag) (ta : TA) : TI := fun σ H R => ta σ H fun vs H1 => ∃ a b xs ys, vs = [.ref a, .ref b] ∧ SqT K H1 a xs ∧ SqT K H1 b ys ∧ R (ItzFTT K a b) H1
theorem pi_zipFTT {X : Cx} {e e2 : Expr} {ta : TA} {p pos tpos : Pos} {elts : List Expr} {kk : Nat} (hg : Gl X "zip") (hm : X.mg "zip" = none) (ha : PA X [e, e2] ta)
    (hs : starEach [e, e2] X.env = (false, eval e X.env) :: starEach [e2] X.env := by rfl) (hpl : (backTo pos (starEach [e2] X.env)).any (·.1) = false := by rfl) :
    PI X (.Tuple elts kk tpos) (.Call (.Name "zip" p) [e, e2] [] pos) (iZipFTT X.K ta) := by
  refine ⟨fun pins s σ H R I h => ?_⟩
  refine Call_ (ld_blt I hg hm PyProof.Rows.boot_zip (PyProof.Rows.callWith_type1 (thn (ha.run pos pins s σ H _ I h) fun us s1 ⟨vs, H1, I1, r1, q1⟩ => ?_) hs hpl))
  obtain ⟨a, b, xs, ys, ex, hqx, hqy, q⟩ := q1
  subst ex
  cases r1 with
  | cons r rr =>
    cases rr with
    | cons r' rr =>
      cases rr
      cases r
      cases r'
      have fresh5 : ∀ c, c ∈ [s1.heap.objs.size + 4, s1.heap.objs.size + 2, s1.heap.objs.size + 3, s1.heap.objs.size, s1.heap.objs.size + 1] → FpOk X pins H1 c := fun c hcm => by
        have e' : c = s1.heap.objs.size + 4 ∨ c = s1.heap.objs.size + 2 ∨ c = s1.heap.objs.size + 3 ∨ c = s1.heap.objs.size ∨ c = s1.heap.objs.size + 1 := by simpa using hcm
        have hle : s1.heap.objs.size ≤ c := by
          rcases e' with z | z | z | z | z
          · rw [z]; exact Nat.le_add_right _ _
          · rw [z]; exact Nat.le_add_right _ _
          · rw [z]; exact Nat.le_add_right _ _
          · rw [z]; exact Nat.le_refl _
          · rw [z]; exact Nat.le_add_right _ _
        exact I1.fpOk hle (I1.hok.fresh hle)
      obtain ⟨its, rv, p1, _⟩ := I1.tuple hqx
      obtain ⟨its2, rv2, p2, _⟩ := I1.tuple hqy
      obtain ⟨o1, ho1, _⟩ := id p1
      obtain ⟨o2, ho2, _⟩ := id p2
      refine zip_begins2 (begins_tuple a its.toArray) (begins_tuple b its2.toArray) p1 p2 fun h' hz hTI hTO h1 h2 hsz hk => wpAny_pyIter_zip hz ?_
      have I2 : Inv X pins σ H1 { s1 with heap := h' } := I1.kept (t' := s1.toks) hk
      exact ⟨s1.heap.objs.size + 4, [s1.heap.objs.size + 4, s1.heap.objs.size + 2, s1.heap.objs.size + 3, s1.heap.objs.size, s1.heap.objs.size + 1], _, _, H1, rfl, I2, turn_zipFTT (PySem.W.ktu_apart s1.heap.objs.size a b (Heap.lt_size ho1) (Heap.lt_size ho2)), ⟨hz, hTI, ⟨_, _, hTO⟩, ⟨_, h1, rfl, rfl⟩, ⟨_, h2, rfl, rfl⟩⟩, fresh5, q⟩
theorem walk_zipFTT {K : PySem.W.Frag} {a b : Addr} {xs ys : List V} {n : Nat} (hn : n = min xs.length ys.length) : Walk (ItzFTT K a b) n (fun H => SqT K H a xs ∧ SqT K H b ys) (YPairF (fun i => xs[i]?) (fun i => ys[i]?)) := by
  subst hn
  refine ⟨fun i _ hi q => ?_, fun _ q => ⟨xs, ys, q.1, q.2, by omega, by omega, by omega⟩, fun i H v H' _ q y => ?_⟩
  · have h1 : i < xs.length := by omega
    have h2 : i < ys.length := by omega
    exact ⟨xs, ys, xs[i], ys[i], q.1, q.2, by simp [h1], by simp [h2]⟩
  · obtain ⟨T, o, x, z, h1, h2, hd, h3, h4, h5⟩ := y
    exact ⟨T, o, x, z, h1, h2, hd, h3, h4 xs q.1, h5 ys q.2⟩
def ItzFLL (K : PySem.W.Frag) (a b : Addr) : It :=
  ⟨fun i H => ∃ (xs ys : List V) (x y : V), SqL K H a xs ∧ SqL K H b ys ∧ xs[i]? = some x ∧ ys[i]? = some y,
    fun i H v H' => ∃ T o x y, v = .ref T ∧ H T = none ∧ o.dict = none ∧ H' = upd H T (.frz o (.tup [x, y])) ∧ (∀ xs, SqL K H a xs → xs[i]? = some x) ∧ ∀ ys, SqL K H b ys → ys[i]? = some y,
    fun i H => ∃ xs ys : List V, SqL K H a xs ∧ SqL K H b ys ∧ i ≤ xs.length ∧ i ≤ ys.length ∧ (i = xs.length ∨ i = ys.length)⟩
theorem turn_zipFLL {P : Program} {w : World} {K : PySem.W.Frag} {elts : List Expr} {kk : Nat} {tpos : Pos} {a b z TI TO i1 i2 : Addr} (D : ZipApart z TI TO i1 i2 a b) :
    Turn P w K (.Tuple elts kk tpos) (ItzFLL K a b) [z, TI, TO, i1, i2] z (fun i h => IsZip h z TI TO .none ∧ IsPair h TI (.ref i1) (.ref i2) ∧ (∃ x y, IsPair h TO x y) ∧ h.IsListIter i1 a i ∧ h.IsListIter i2 b i) where
  mem := by simp
  obj := fun i h st c hc => by
    obtain ⟨hz, hTI, ⟨x, y, hTO⟩, ⟨o1, e1, _, d1⟩, ⟨o2, e2, _, d2⟩⟩ := st
    have e' : c = z ∨ c = TI ∨ c = TO ∨ c = i1 ∨ c = i2 := by simpa using hc
    rcases e' with q | q | q | q | q
    · rw [q]; exact ⟨_, hz, fun v q => nomatch q⟩
    · rw [q]; exact ⟨_, hTI, fun v q => nomatch q⟩
    · rw [q]; exact ⟨_, hTO, fun v q => nomatch q⟩
    · rw [q]; exact ⟨o1, e1, fun v q => by rw [d1] at q; cases q⟩
    · rw [q]; exact ⟨o2, e2, fun v q => by rw [d2] at q; cases q⟩
  keep := fun i h h' st k => by
    obtain ⟨hz, hTI, ⟨x, y, hTO⟩, h1, h2⟩ := st
    exact ⟨k z (by simp) _ hz, k TI (by simp) _ hTI, ⟨x, y, k TO (by simp) _ hTO⟩, h1.at fun o q => k i1 (by simp) o q, h2.at fun o q => k i2 (by simp) o q⟩
  item := by
    intro X hP hw hK hc i pins s σ H E I hf st hg
    subst hP hw hK
    obtain ⟨hz, hTI, ⟨x0, y0, hTO⟩, h1, h2⟩ := st
    obtain ⟨xs, ys, x, y, hqx, hqy, hx, hy⟩ := hg
    obtain ⟨its, rv, p, _⟩ := I.list hqx
    obtain ⟨its2, rv2, p2, _⟩ := I.list hqy
    obtain ⟨u, hu, ru⟩ := rv.get hx
    obtain ⟨u2, hu2, ru2⟩ := rv2.get hy
    have hzl : z < s.heap.objs.size := Heap.lt_size hz
    have hu' : its.toArray[i]? = some u := by simpa using hu
    have hu2' : its2.toArray[i]? = some u2 := by simpa using hu2
    have hA : X.A.in1.handled = none := I.ok.hd hc
    refine wpAny_pyNext_zipD2_item (i := i) (sep2_of D) (Draws.list hA i1 a D.l1i1 its.toArray) (Draws.list hA i2 b D.l2i2 its2.toArray) hz hTI hTO ⟨h1, p.isList⟩ ⟨h2, p2.isList⟩ (by
      rcases Nat.lt_or_ge i its.toArray.size with q | q
      · exact q
      · rw [Array.getElem?_eq_none q] at hu'; cases hu') (by
      rcases Nat.lt_or_ge i its2.toArray.size with q | q
      · exact q
      · rw [Array.getElem?_eq_none q] at hu2'; cases hu2') fun x1 x2 h' tk y1 y2 z' TO' d1 d2 hT hsz hk => ?_
    rw [hu'] at y1
    rw [hu2'] at y2
    cases y1
    cases y2
    obtain ⟨h1', _⟩ := d1
    obtain ⟨h2', _⟩ := d2
    refine ⟨_, rfl, wpAny_letOwnedTupleGo_zip (s := { s with heap := h', toks := tk }) z' fun h'' z'' sb => ?_⟩
    have hT2 : h''.get? s.heap.objs.size = some { cls := .type "tuple", data := .seq #[u, u2] } := (sb.2 _ (Nat.ne_of_gt hzl)).trans hT
    have new : ObjOk X.prog X.w (upd H s.heap.objs.size (.frz { cls := .type "tuple", data := .seq #[u, u2] } (.tup [x, y]))) h'' s.heap.objs.size (.frz { cls := .type "tuple", data := .seq #[u, u2] } (.tup [x, y])) :=
      ⟨hT2, by show 2 ≤ sizeLine; decide, [u, u2], .cons ru (.cons ru2 .nil), ⟨_, hT2, rfl, _, rfl⟩⟩
    have I1 : Inv X pins σ (upd H s.heap.objs.size (.frz { cls := .type "tuple", data := .seq #[u, u2] } (.tup [x, y]))) { s with heap := h'', toks := tk } :=
      I.turnedNew (t' := tk) (ch := [z, TI, TO, i1, i2]) (fun c o hb q => (sb.2 c (fun q' => hb (by simp [q']))).trans (hk c o (fun q' => hb (by simp [q'])) (fun q' => hb (by simp [q'])) (fun q' => hb (by simp [q'])) (fun q' => hb (by simp [q'])) q)) hf (Nat.le_refl _) new
    refine ⟨.ref s.heap.objs.size, _, I1, rfl, ⟨_, { cls := .type "tuple", data := .seq #[u, u2] }, x, y, rfl, I.hok.fresh (Nat.le_refl _), rfl, rfl, fun l hl => by rw [I.list_inj hl hqx]; exact hx, fun l hl => by rw [I.list_inj hl hqy]; exact hy⟩, ⟨z'', ?_, ⟨u, u2, ?_⟩, ?_, ?_⟩, fun c hcm => ?_⟩
    · exact (sb.2 _ D.TIz).trans (hk _ _ D.TIz D.TITO D.TIi1 D.TIi2 hTI)
    · exact (sb.2 _ D.TOz).trans TO'
    · exact h1'.at fun o q => (sb.2 _ D.i1z).trans q
    · exact h2'.at fun o q => (sb.2 _ D.i2z).trans q
    · have hlt : c < s.heap.objs.size := by
        have e' : c = z ∨ c = TI ∨ c = TO ∨ c = i1 ∨ c = i2 := by simpa using hcm
        rcases e' with q | q | q | q | q
        · rw [q]; exact hzl
        · rw [q]; exact Heap.lt_size hTI
        · rw [q]; exact Heap.lt_size hTO
        · rw [q]; obtain ⟨_, e1, _⟩ := h1; exact Heap.lt_size e1
        · rw [q]; obtain ⟨_, e2, _⟩ := h2; exact Heap.lt_size e2
      rw [upd_ne (Nat.ne_of_lt hlt)]
      exact (hf c hcm).1
  done := by
    intro X hP hw hK hc i pins s σ H E I hf st hg
    subst hP hw hK
    obtain ⟨hz, hTI, ⟨x0, y0, hTO⟩, h1, h2⟩ := st
    obtain ⟨xs, ys, hqx, hqy, hi1, hi2, hend⟩ := hg
    obtain ⟨its, rv, p, _⟩ := I.list hqx
    obtain ⟨its2, rv2, p2, _⟩ := I.list hqy
    have l1 := rv.length
    have l2 := rv2.length
    have hA : X.A.in1.handled = none := I.ok.hd hc
    exact wpAny_pyNext_zipD2_end (i := i) (sep2_of D) (Draws.list hA i1 a D.l1i1 its.toArray) (Draws.list hA i2 b D.l2i2 its2.toArray) hz hTI hTO ⟨h1, p.isList⟩ ⟨h2, p2.isList⟩ (by simp; omega) (by simp; omega) (by simp; omega) fun h' tk hk => ⟨rfl, I.turnedL (t' := tk) (ch := [z, TI, TO, i1, i2]) (fun c o hb q =>
      hk c o (fun q' => hb (by simp [q'])) (fun q' => hb (by simp [q'])) (fun q' => hb (by simp [q'])) (fun q' => hb (by simp [q'])) q) hf⟩
  self := fun A i s Q E st h => wpAny_pyIter_zip st.1 h
def iZipFLL (K : PySem.W.Frag) (ta : TA) : TI := fun σ H R => ta σ H fun vs H1 => ∃ a b xs ys, vs = [.ref a, .ref b] ∧ SqL K H1 a xs ∧ SqL K H1 b ys ∧ R (ItzFLL K a b) H1
theorem pi_zipFLL {X : Cx} {e e2 : Expr} {ta : TA} {p pos tpos : Pos} {elts : List Expr} {kk : Nat} (hg : Gl X "zip") (hm : X.mg "zip" = none) (ha : PA X [e, e2] ta)
    (hs : starEach [e, e2] X.env = (false, eval e X.env) :: starEach [e2] X.env := by rfl) (hpl : (backTo pos (starEach [e2] X.env)).any (·.1) = false := by rfl) :
    PI X (.Tuple elts kk tpos) (.Call (.Name "zip" p) [e, e2] [] pos) (iZipFLL X.K ta) := by
  refine ⟨fun pins s σ H R I h => ?_⟩
  refine Call_ (ld_blt I hg hm PyProof.Rows.boot_zip (PyProof.Rows.callWith_type1 (thn (ha.run pos pins s σ H _ I h) fun us s1 ⟨vs, H1, I1, r1, q1⟩ => ?_) hs hpl))
  obtain ⟨a, b, xs, ys, ex, hqx, hqy, q⟩ := q1
  subst ex
  cases r1 with
  | cons r rr =>
    cases rr with
    | cons r' rr =>
      cases rr
      cases r
      cases r'
      have fresh5 : ∀ c, c ∈ [s1.heap.objs.size + 4, s1.heap.objs.size + 2, s1.heap.objs.size + 3, s1.heap.objs.size, s1.heap.objs.size + 1] → FpOk X pins H1 c := fun c hcm => by
        have e' : c = s1.heap.objs.size + 4 ∨ c = s1.heap.objs.size + 2 ∨ c = s1.heap.objs.size + 3 ∨ c = s1.heap.objs.size ∨ c = s1.heap.objs.size + 1 := by simpa using hcm
        have hle : s1.heap.objs.size ≤ c := by
          rcases e' with z | z | z | z | z
          · rw [z]; exact Nat.le_add_right _ _
          · rw [z]; exact Nat.le_add_right _ _
          · rw [z]; exact Nat.le_add_right _ _
          · rw [z]; exact Nat.le_refl _
          · rw [z]; exact Nat.le_add_right _ _
        exact I1.fpOk hle (I1.hok.fresh hle)
      obtain ⟨its, rv, p1, _⟩ := I1.list hqx
      obtain ⟨its2, rv2, p2, _⟩ := I1.list hqy
      refine zip_begins2 (begins_list a its.toArray) (begins_list b its2.toArray) p1.isList p2.isList fun h' hz hTI hTO h1 h2 hsz hk => wpAny_pyIter_zip hz ?_
      have I2 : Inv X pins σ H1 { s1 with heap := h' } := I1.kept (t' := s1.toks) hk
      exact ⟨s1.heap.objs.size + 4, [s1.heap.objs.size + 4, s1.heap.objs.size + 2, s1.heap.objs.size + 3, s1.heap.objs.size, s1.heap.objs.size + 1], _, _, H1, rfl, I2, turn_zipFLL (PySem.W.ktu_apart s1.heap.objs.size a b p1.lt p2.lt), ⟨hz, hTI, ⟨_, _, hTO⟩, ⟨_, h1, rfl, rfl⟩, ⟨_, h2, rfl, rfl⟩⟩, fresh5, q⟩
theorem walk_zipFLL {K : PySem.W.Frag} {a b : Addr} {xs ys : List V} {n : Nat} (hn : n = min xs.length ys.length) : Walk (ItzFLL K a b) n (fun H => SqL K H a xs ∧ SqL K H b ys) (YPairF (fun i => xs[i]?) (fun i => ys[i]?)) := by
  subst hn
  refine ⟨fun i _ hi q => ?_, fun _ q => ⟨xs, ys, q.1, q.2, by omega, by omega, by omega⟩, fun i H v H' _ q y => ?_⟩
  · have h1 : i < xs.length := by omega
    have h2 : i < ys.length := by omega
    exact ⟨xs, ys, xs[i], ys[i], q.1, q.2, by simp [h1], by simp [h2]⟩
  · obtain ⟨T, o, x, z, h1, h2, hd, h3, h4, h5⟩ := y
    exact ⟨T, o, x, z, h1, h2, hd, h3, h4 xs q.1, h5 ys q.2⟩
def iZipF (K : PySem.W.Frag) (ta : TA) : TI := fun σ H R => ta σ H fun vs H1 => ∃ a b xs ys, vs = [.ref a, .ref b] ∧ ((SqL K H1 a xs ∧ SqL K H1 b ys ∧ R (ItzFLL K a b) H1) ∨ (SqT K H1 a xs ∧ SqT K H1 b ys ∧ R (ItzFTT K a b) H1) ∨ (SqT K H1 a xs ∧ SqL K H1 b ys ∧ R (ItzFTL K a b) H1))
theorem pi_zipF {X : Cx} {e e2 : Expr} {ta : TA} {p pos tpos : Pos} {elts : List Expr} {kk : Nat} (hg : Gl X "zip") (hm : X.mg "zip" = none) (ha : PA X [e, e2] ta)
    (hs : starEach [e, e2] X.env = (false, eval e X.env) :: starEach [e2] X.env := by rfl) (hpl : (backTo pos (starEach [e2] X.env)).any (·.1) = false := by rfl) :
    PI X (.Tuple elts kk tpos) (.Call (.Name "zip" p) [e, e2] [] pos) (iZipF X.K ta) := by
  refine ⟨fun pins s σ H R I h => ?_⟩
  refine Call_ (ld_blt I hg hm PyProof.Rows.boot_zip (PyProof.Rows.callWith_type1 (thn (ha.run pos pins s σ H _ I h) fun us s1 ⟨vs, H1, I1, r1, q1⟩ => ?_) hs hpl))
  obtain ⟨a, b, xs, ys, ex, q1⟩ := q1
  subst ex
  cases r1 with
  | cons r rr =>
    cases rr with
    | cons r' rr =>
      cases rr
      cases r
      cases r'
      have fresh5 : ∀ c, c ∈ [s1.heap.objs.size + 4, s1.heap.objs.size + 2, s1.heap.objs.size + 3, s1.heap.objs.size, s1.heap.objs.size + 1] → FpOk X pins H1 c := fun c hcm => by
        have e' : c = s1.heap.objs.size + 4 ∨ c = s1.heap.objs.size + 2 ∨ c = s1.heap.objs.size + 3 ∨ c = s1.heap.objs.size ∨ c = s1.heap.objs.size + 1 := by simpa using hcm
        have hle : s1.heap.objs.size ≤ c := by
          rcases e' with z | z | z | z | z
          · rw [z]; exact Nat.le_add_right _ _
          · rw [z]; exact Nat.le_add_right _ _
          · rw [z]; exact Nat.le_add_right _ _
          · rw [z]; exact Nat.le_refl _
          · rw [z]; exact Nat.le_add_right _ _
        exact I1.fpOk hle (I1.hok.fresh hle)
      rcases q1 with ⟨hqx, hqy, q⟩ | ⟨hqx, hqy, q⟩ | ⟨hqx, hqy, q⟩
      · obtain ⟨its, rv, p1, _⟩ := I1.list hqx
        obtain ⟨its2, rv2, p2, _⟩ := I1.list hqy
        refine zip_begins2 (begins_list a its.toArray) (begins_list b its2.toArray) p1.isList p2.isList fun h' hz hTI hTO h1 h2 hsz hk => wpAny_pyIter_zip hz ?_
        have I2 : Inv X pins σ H1 { s1 with heap := h' } := I1.kept (t' := s1.toks) hk
        exact ⟨s1.heap.objs.size + 4, [s1.heap.objs.size + 4, s1.heap.objs.size + 2, s1.heap.objs.size + 3, s1.heap.objs.size, s1.heap.objs.size + 1], _, _, H1, rfl, I2, turn_zipFLL (PySem.W.ktu_apart s1.heap.objs.size a b p1.lt p2.lt), ⟨hz, hTI, ⟨_, _, hTO⟩, ⟨_, h1, rfl, rfl⟩, ⟨_, h2, rfl, rfl⟩⟩, fresh5, q⟩
      · obtain ⟨its, rv, p1, _⟩ := I1.tuple hqx
        obtain ⟨its2, rv2, p2, _⟩ := I1.tuple hqy
        obtain ⟨o1, ho1, _⟩ := id p1
        obtain ⟨o2, ho2, _⟩ := id p2
        refine zip_begins2 (begins_tuple a its.toArray) (begins_tuple b its2.toArray) p1 p2 fun h' hz hTI hTO h1 h2 hsz hk => wpAny_pyIter_zip hz ?_
        have I2 : Inv X pins σ H1 { s1 with heap := h' } := I1.kept (t' := s1.toks) hk
        exact ⟨s1.heap.objs.size + 4, [s1.heap.objs.size + 4, s1.heap.objs.size + 2, s1.heap.objs.size + 3, s1.heap.objs.size, s1.heap.objs.size + 1], _, _, H1, rfl, I2, turn_zipFTT (PySem.W.ktu_apart s1.heap.objs.size a b (Heap.lt_size ho1) (Heap.lt_size ho2)), ⟨hz, hTI, ⟨_, _, hTO⟩, ⟨_, h1, rfl, rfl⟩, ⟨_, h2, rfl, rfl⟩⟩, fresh5, q⟩
      · obtain ⟨its, rv, p1, _⟩ := I1.tuple hqx
        obtain ⟨its2, rv2, p2, _⟩ := I1.list hqy
        obtain ⟨o1, ho1, _⟩ := id p1
        refine zip_begins2 (begins_tuple a its.toArray) (begins_list b its2.toArray) p1 p2.isList fun h' hz hTI hTO h1 h2 hsz hk => wpAny_pyIter_zip hz ?_
        have I2 : Inv X pins σ H1 { s1 with heap := h' } := I1.kept (t' := s1.toks) hk
        exact ⟨s1.heap.objs.size + 4, [s1.heap.objs.size + 4, s1.heap.objs.size + 2, s1.heap.objs.size + 3, s1.heap.objs.size, s1.heap.objs.size + 1], _, _, H1, rfl, I2, turn_zipFTL (PySem.W.ktu_apart s1.heap.objs.size a b (Heap.lt_size ho1) p2.lt), ⟨hz, hTI, ⟨_, _, hTO⟩, ⟨_, h1, rfl, rfl⟩, ⟨_, h2, rfl, rfl⟩⟩, fresh5, q⟩
end DL
end Part_DL0

section Part_DLa
set_option Elab.async false
set_option linter.all false
set_option maxRecDepth 100000
set_option autoImplicit false
set_option maxHeartbeats 2000000
/-! DL: a mirror of a def over data (PyData), and what a term of the layer's rules must hold for it -/
namespace DL
open PySem L2 Evl
abbrev D := PyData

def zipK : List Str → List V → List (Key × V)
  | k :: ks, v :: vs => (Sum.inr k, v) :: zipK ks vs
  | _, _ => []
mutual
/-- a value that stands for data; a list of the data is one that the heap tells whole -/
inductive Dq (K : PySem.W.Frag) (H : Hp) : V → D → Prop
  | non : Dq K H .non .none
  | bl (b : Bool) : Dq K H (.bl b) (.bool b)
  | int (i : Int) : Dq K H (.int i) (.int i)
  | str (x : Str) : Dq K H (.str x) (.str x)
  | lst {a : Addr} {xs : List V} {ds : List D} : SqL K H a xs → DqAll K H xs ds → Dq K H (.ref a) (.list ds)
  | tup {a : Addr} {xs : List V} {ds : List D} : SqT K H a xs → ND K H a → DqAll K H xs ds → Dq K H (.ref a) (.tuple ds)
  /-- a dict with texts as keys, told by the list of its keys and that of its values -/
  | dct {a : Addr} {ks : List Str} {xs : List V} {kds ds : List D} : H a = some (.dK (zipK ks xs)) → kds = ks.map .str → ks.length = xs.length → DqAll K H xs ds → Dq K H (.ref a) (.dict [(.list kds, .list ds)])
inductive DqAll (K : PySem.W.Frag) (H : Hp) : List V → List D → Prop
  | nil : DqAll K H [] []
  | cons {v : V} {vs : List V} {d : D} {ds : List D} : Dq K H v d → DqAll K H vs ds → DqAll K H (v :: vs) (d :: ds)
end

/-! ### data that stands in a heap -/
section
variable {K : PySem.W.Frag} {H H' : Hp}
mutual
theorem dp_ex (e : Ex H H') : ∀ (d : D) (v : V), Dq K H v d → Dq K H' v d
  | .none, _, h => by cases h; exact .non
  | .bool b, _, h => by cases h; exact .bl b
  | .int i, _, h => by cases h; exact .int i
  | .str x, _, h => by cases h; exact .str x
  | .list ds, _, h => by
    cases h with
    | lst hs ha => exact .lst (ex_l e hs) (dpAll_ex e ds _ ha)
  | .tuple ds, _, h => by
    cases h with
    | tup hs hn ha => exact .tup (ex_t e hs) (hn.ex e) (dpAll_ex e ds _ ha)
  | .dict [(.list _, .list ds)], _, h => by
    cases h with
    | dct h1 h2 h3 ha => exact .dct (e _ _ h1) h2 h3 (dpAll_ex e ds _ ha)
  | .dict [], _, h => by cases h
  | .dict (_ :: _ :: _), _, h => by cases h
  | .dict [(.none, _)], _, h => by cases h
  | .dict [(.bool _, _)], _, h => by cases h
  | .dict [(.int _, _)], _, h => by cases h
  | .dict [(.str _, _)], _, h => by cases h
  | .dict [(.tuple _, _)], _, h => by cases h
  | .dict [(.dict _, _)], _, h => by cases h
  | .dict [(.list _, .none)], _, h => by cases h
  | .dict [(.list _, .bool _)], _, h => by cases h
  | .dict [(.list _, .int _)], _, h => by cases h
  | .dict [(.list _, .str _)], _, h => by cases h
  | .dict [(.list _, .tuple _)], _, h => by cases h
  | .dict [(.list _, .dict _)], _, h => by cases h
theorem dpAll_ex (e : Ex H H') : ∀ (ds : List D) (vs : List V), DqAll K H vs ds → DqAll K H' vs ds
  | [], _, h => by cases h; exact .nil
  | d :: ds, _, h => by
    cases h with
    | cons h1 h2 => exact .cons (dp_ex e d _ h1) (dpAll_ex e ds _ h2)
end
mutual
theorem dq_dp : ∀ (d : D) (v : V), PyData.canLay0 d = true → Dq K H v d → Dp K H v d
  | .none, _, _, h => by cases h; exact .non
  | .bool b, _, _, h => by cases h; exact .bl b
  | .int i, _, _, h => by cases h; exact .int i
  | .str x, _, _, h => by cases h; exact .str x
  | .list ds, _, g, h => by
    cases h with
    | lst hs ha => exact .lst hs (dqAll_dp ds _ g ha)
  | .tuple ds, _, g, h => by
    cases h with
    | tup hs hn ha => exact .tup hs (dqAll_dp ds _ g ha)
  | .dict _, _, g, h => by cases g
theorem dqAll_dp : ∀ (ds : List D) (vs : List V), PyData.canLayAll0 ds = true → DqAll K H vs ds → DpAll K H vs ds
  | [], _, _, h => by cases h; exact .nil
  | d :: ds, _, g, h => by
    have g : (PyData.canLay0 d && PyData.canLayAll0 ds) = true := g
    rw [Bool.and_eq_true] at g
    cases h with
    | cons h1 h2 => exact .cons (dq_dp d _ g.1 h1) (dqAll_dp ds _ g.2 h2)
end
theorem dpa_len : ∀ {vs : List V} {ds : List D}, DqAll K H vs ds → vs.length = ds.length
  | _, _, .nil => rfl
  | _, _, .cons _ h => by simp [dpa_len h]
theorem dpa_get : ∀ {vs : List V} {ds : List D} {i : Nat} {d : D}, DqAll K H vs ds → ds[i]? = some d → ∃ v, vs[i]? = some v ∧ Dq K H v d
  | _, _, 0, d, .cons h _, e => by
    simp at e
    subst e
    exact ⟨_, rfl, h⟩
  | _, _, i + 1, d, .cons _ h, e => by
    obtain ⟨v, h1, h2⟩ := dpa_get (i := i) h (by simpa using e)
    exact ⟨v, by simpa using h1, h2⟩
  | _, _, _, _, .nil, e => by simp at e
theorem dpa_get' : ∀ {vs : List V} {ds : List D} {i : Nat} {v : V}, DqAll K H vs ds → vs[i]? = some v → ∃ d, ds[i]? = some d ∧ Dq K H v d
  | _, _, 0, d, .cons h _, e => by
    simp at e
    subst e
    exact ⟨_, rfl, h⟩
  | _, _, i + 1, d, .cons _ h, e => by
    obtain ⟨v, h1, h2⟩ := dpa_get' (i := i) h (by simpa using e)
    exact ⟨v, by simpa using h1, h2⟩
  | _, _, _, _, .nil, e => by simp at e
theorem dpa_of : ∀ {vs : List V} {ds : List D}, vs.length = ds.length → (∀ (i : Nat) v d, vs[i]? = some v → ds[i]? = some d → Dq K H v d) → DqAll K H vs ds
  | [], [], _, _ => .nil
  | [], _ :: _, e, _ => by simp at e
  | _ :: _, [], e, _ => by simp at e
  | v :: vs, d :: ds, e, h => .cons (h 0 v d rfl rfl) (dpa_of (by simpa using e) fun i v d h1 h2 => h (i + 1) v d (by simpa using h1) (by simpa using h2))
theorem dpa_app : ∀ {vs ws : List V} {ds es : List D}, DqAll K H vs ds → DqAll K H ws es → DqAll K H (vs ++ ws) (ds ++ es)
  | _, _, _, _, .nil, h => h
  | _, _, _, _, .cons h t, h2 => .cons h (dpa_app t h2)
theorem dpa_drop : ∀ {vs : List V} {ds : List D} (n : Nat), DqAll K H vs ds → DqAll K H (vs.drop n) (ds.drop n)
  | _, _, 0, h => h
  | _, _, _ + 1, .nil => .nil
  | _, _, n + 1, .cons _ t => dpa_drop n t
theorem dpa_take : ∀ {vs : List V} {ds : List D} (n : Nat), DqAll K H vs ds → DqAll K H (vs.take n) (ds.take n)
  | _, _, 0, _ => .nil
  | _, _, _ + 1, .nil => .nil
  | _, _, n + 1, .cons h t => .cons h (dpa_take n t)
theorem dpa_set {v : V} {d : D} (q : Dq K H v d) : ∀ {vs : List V} {ds : List D} (n : Nat), DqAll K H vs ds → DqAll K H (vs.set n v) (ds.set n d)
  | _, _, _, .nil => .nil
  | _, _, 0, .cons _ t => .cons q t
  | _, _, n + 1, .cons h t => .cons h (dpa_set q n t)
theorem dpa_rev : ∀ {vs : List V} {ds : List D}, DqAll K H vs ds → DqAll K H vs.reverse ds.reverse
  | _, _, .nil => .nil
  | _, _, .cons h t => by
    simp only [List.reverse_cons]
    exact dpa_app (dpa_rev t) (.cons h .nil)
theorem dpa_one {v : V} {d : D} (h : Dq K H v d) : DqAll K H [v] [d] := .cons h .nil
/-- ints, texts, truths -/
theorem dpa_ints : ∀ {vs : List V} {ns : List Int}, DqAll K H vs (ns.map PyData.int) → vs = ns.map V.int
  | _, [], h => by cases h; rfl
  | _, n :: ns, h => by
    cases h with
    | cons h1 h2 =>
      cases h1
      rw [dpa_ints h2]
      rfl
theorem dpa_strs : ∀ {vs : List V} {ns : List Str}, DqAll K H vs (ns.map PyData.str) → vs = ns.map V.str
  | _, [], h => by cases h; rfl
  | _, n :: ns, h => by
    cases h with
    | cons h1 h2 =>
      cases h1
      rw [dpa_strs h2]
      rfl
theorem dpa_bls : ∀ {vs : List V} {ns : List Bool}, DqAll K H vs (ns.map PyData.bool) → vs = ns.map V.bl
  | _, [], h => by cases h; rfl
  | _, n :: ns, h => by
    cases h with
    | cons h1 h2 =>
      cases h1
      rw [dpa_bls h2]
      rfl
theorem ints_dpa : ∀ {ns : List Int}, DqAll K H (ns.map V.int) (ns.map PyData.int)
  | [] => .nil
  | n :: ns => .cons (.int n) ints_dpa
theorem strs_dpa : ∀ {ns : List Str}, DqAll K H (ns.map V.str) (ns.map PyData.str)
  | [] => .nil
  | n :: ns => .cons (.str n) strs_dpa
end

/-! ### cells: what a mirror knows of a slot -/
inductive Cell where
  | non
  | val (d : D)
  /-- a list of one's own (b = false), of a caller (b = true): it may be changed -/
  | var (b : Bool) (ds : List D)
abbrev Dl := List Cell

structure SR (K : PySem.W.Frag) (C0 H0 : Hp) (B : List (Nat × Addr)) (C H : Hp) (σ : L2.St) (δ : Dl) : Prop where
  len : σ.length = δ.length
  c0 : Ex C0 C
  ch : Ex C H
  fr : ∀ a o, H0 a = some o → (∀ p ∈ B, p.2 ≠ a) → H a = some o
  nw : ∀ a, H0 a ≠ none → C0 a = none → C a = none
  val : ∀ (i : Nat) (d : D), δ[i]? = some (.val d) → ∃ v, σ[i]? = some (some v) ∧ Dq K C v d
  own : ∀ (i : Nat) (ds : List D), δ[i]? = some (.var false ds) → ∃ l xs, σ[i]? = some (some (.ref l)) ∧ H0 l = none ∧ C l = none ∧ H l = some (.lst xs) ∧ DqAll K C xs ds
  bor : ∀ p ∈ B, ∃ ds xs, δ[p.1]? = some (.var true ds) ∧ σ[p.1]? = some (some (.ref p.2)) ∧ C p.2 = none ∧ H p.2 = some (.lst xs) ∧ DqAll K C xs ds
  btr : ∀ (i : Nat) (ds : List D), δ[i]? = some (.var true ds) → ∃ l, (i, l) ∈ B
  bd1 : ∀ p ∈ B, ∀ q ∈ B, p.2 = q.2 → p.1 = q.1
  bd2 : ∀ p ∈ B, ∀ q ∈ B, p.1 = q.1 → p.2 = q.2
  bH0 : ∀ p ∈ B, H0 p.2 ≠ none
  odis : ∀ (i j : Nat) (ds ds' : List D), i ≠ j → δ[i]? = some (.var false ds) → δ[j]? = some (.var false ds') → ∀ l, σ[i]? = some (some (.ref l)) → σ[j]? ≠ some (some (.ref l))

section
variable {K : PySem.W.Frag} {C0 H0 C H C2 H2 : Hp} {B : List (Nat × Addr)} {σ : L2.St} {δ : Dl}
/-- nothing is changed, something may be new -/
theorem SR.step (S : SR K C0 H0 B C H σ δ) (e1 : Ex C C2) (e2 : Ex H H2) (e3 : Ex C2 H2) (n : ∀ a, H a ≠ none → C a = none → C2 a = none) : SR K C0 H0 B C2 H2 σ δ where
  len := S.len
  c0 := S.c0.trans e1
  ch := e3
  fr := fun a o h hb => e2 a o (S.fr a o h hb)
  nw := fun a h1 h2 => by
    refine n a ?_ (S.nw a h1 h2)
    by_cases hb : ∃ p ∈ B, p.2 = a
    · obtain ⟨p, hp, rfl⟩ := hb
      obtain ⟨_, _, _, _, _, h, _⟩ := S.bor p hp
      rw [h]
      exact fun z => nomatch z
    · cases q : H0 a with
      | none => exact absurd q h1
      | some o =>
        rw [S.fr a o q fun p hp e => hb ⟨p, hp, e⟩]
        exact fun z => nomatch z
  val := fun i d h => by
    obtain ⟨v, h1, h2⟩ := S.val i d h
    exact ⟨v, h1, dp_ex e1 d v h2⟩
  own := fun i ds h => by
    obtain ⟨l, xs, h1, h2, h3, h4, h5⟩ := S.own i ds h
    exact ⟨l, xs, h1, h2, n l (by rw [h4]; exact fun z => nomatch z) h3, e2 l _ h4, dpAll_ex e1 ds xs h5⟩
  bor := fun p hp => by
    obtain ⟨ds, xs, h1, h2, h3, h4, h5⟩ := S.bor p hp
    exact ⟨ds, xs, h1, h2, n _ (by rw [h4]; exact fun z => nomatch z) h3, e2 _ _ h4, dpAll_ex e1 ds xs h5⟩
  btr := S.btr
  bd1 := S.bd1
  bd2 := S.bd2
  bH0 := S.bH0
  odis := S.odis
theorem free_of {p : Addr} (e : Ex C H) (h : H p = none) : C p = none := fresh_back e h
theorem ex_upd {o : HO} {p : Addr} (e : Ex C H) : Ex (upd C p o) (upd H p o) := fun a u h => by
  by_cases q : a = p
  · subst q
    rw [upd_same] at h ⊢
    exact h
  · rw [upd_ne q] at h ⊢
    exact e a u h
/-- a new object, of the data -/
theorem SR.new (S : SR K C0 H0 B C H σ δ) {p : Addr} {o : HO} (h : H p = none) : SR K C0 H0 B (upd C p o) (upd H p o) σ δ :=
  S.step (Ex.new (free_of S.ch h)) (Ex.new h) (ex_upd S.ch) fun a h1 h2 => by
    rw [upd_ne fun z => h1 (by rw [z]; exact h)]
    exact h2
/-- a new object that is not of the data -/
theorem SR.newN (S : SR K C0 H0 B C H σ δ) {p : Addr} {o : HO} (h : H p = none) : SR K C0 H0 B C (upd H p o) σ δ :=
  S.step (Ex.refl C) (Ex.new h) (S.ch.trans (Ex.new h)) fun a _ h2 => h2
end

/-! ### what a mirror gives -/
inductive R (α : Type) where
  | ok (a : α) (δ : Dl)
  | ex (c : Nat) (d : D) (δ : Dl)
  | no
abbrev M (α : Type) := Dl → R α
def R.bind {α β : Type} (r : R α) (f : α → Dl → R β) : R β := match r with
  | .ok a δ => f a δ
  | .ex c d δ => .ex c d δ
  | .no => .no
def R.lift {α : Type} (o : Option α) (δ : Dl) : R α := match o with
  | some a => .ok a δ
  | none => .no
def RP {α : Type} (r : R α) (k : α → Dl → Prop) (x : Nat → D → Dl → Prop) : Prop := match r with
  | .ok a δ => k a δ
  | .ex c d δ => x c d δ
  | .no => False
theorem RP.imp {α : Type} {r : R α} {k k' : α → Dl → Prop} {x x' : Nat → D → Dl → Prop} (h : RP r k x) (hk : ∀ a δ, k a δ → k' a δ) (hx : ∀ c d δ, x c d δ → x' c d δ) : RP r k' x' := by
  cases r with
  | ok a δ => exact hk _ _ h
  | ex c d δ => exact hx _ _ _ h
  | no => exact h.elim
theorem RP.bind {α β : Type} {r : R α} {f : α → Dl → R β} {k : β → Dl → Prop} {x : Nat → D → Dl → Prop} (h : RP (r.bind f) k x) : RP r (fun a δ => RP (f a δ) k x) x := by
  cases r with
  | ok a δ => exact h
  | ex c d δ => exact h
  | no => exact h.elim
theorem RP.lift {α : Type} {o : Option α} {δ : Dl} {k : α → Dl → Prop} {x : Nat → D → Dl → Prop} (h : RP (R.lift o δ) k x) : ∃ a, o = some a ∧ k a δ := by
  cases o with
  | none => exact h.elim
  | some a => exact ⟨a, rfl, h⟩

/-! ### judgements -/
/-- the class of an error by its number: where it stands, the name of its one attribute -/
abbrev ECl := Nat → Addr × Str
section
variable (K : PySem.W.Frag) (EC : ECl) (W : WX) (C0 H0 : Hp) (B : List (Nat × Addr))
/-- what an expression that raises must reach -/
def PXe (C : Hp) (σ : L2.St) : Nat → D → Dl → Prop := fun c d δ => ∀ v dd C2 H2, Ex C C2 → SR K C0 H0 B C2 H2 σ δ → H2 dd = some (.xd [((EC c).2, v)]) → Dq K C2 v d → W (.ref (EC c).1) (some dd) σ H2
def PKe (C : Hp) (σ : L2.St) (Q : VK) : D → Dl → Prop := fun d δ => ∀ v C2 H2, Ex C C2 → SR K C0 H0 B C2 H2 σ δ → Dq K C2 v d → Q v H2
def PKt (C : Hp) (σ : L2.St) (Q : Bool → Hp → Prop) : Bool → Dl → Prop := fun b δ => ∀ C2 H2, Ex C C2 → SR K C0 H0 B C2 H2 σ δ → Q b H2
def PKa (C : Hp) (σ : L2.St) (Q : List V → Hp → Prop) : List D → Dl → Prop := fun ds δ => ∀ vs C2 H2, Ex C C2 → SR K C0 H0 B C2 H2 σ δ → DqAll K C2 vs ds → Q vs H2
/-- a new list that nothing else holds -/
def PKl (C : Hp) (σ : L2.St) (Q : VK) : List D → Dl → Prop := fun ds δ => ∀ p xs C2 H2, Ex C C2 → SR K C0 H0 B C2 H2 σ δ → C2 p = none → H2 p = some (.lst xs) → H0 p = none →
  (∀ (i : Nat) (b : Bool) (es : List D), δ[i]? = some (.var b es) → σ[i]? ≠ some (some (.ref p))) → DqAll K C2 xs ds → Q (.ref p) H2
end
section
variable {K : PySem.W.Frag} {EC : ECl} {W : WX} {C0 H0 C C' : Hp} {B : List (Nat × Addr)} {σ : L2.St}
theorem PXe.mono (e : Ex C C') : ∀ c d δ, PXe K EC W C0 H0 B C σ c d δ → PXe K EC W C0 H0 B C' σ c d δ := fun _ _ _ h v dd C2 H2 e2 => h v dd C2 H2 (e.trans e2)
theorem PKe.mono (e : Ex C C') {Q : VK} : ∀ d δ, PKe K C0 H0 B C σ Q d δ → PKe K C0 H0 B C' σ Q d δ := fun _ _ h v C2 H2 e2 => h v C2 H2 (e.trans e2)
theorem PKt.mono (e : Ex C C') {Q : Bool → Hp → Prop} : ∀ d δ, PKt K C0 H0 B C σ Q d δ → PKt K C0 H0 B C' σ Q d δ := fun _ _ h C2 H2 e2 => h C2 H2 (e.trans e2)
theorem PKa.mono (e : Ex C C') {Q : List V → Hp → Prop} : ∀ d δ, PKa K C0 H0 B C σ Q d δ → PKa K C0 H0 B C' σ Q d δ := fun _ _ h vs C2 H2 e2 => h vs C2 H2 (e.trans e2)
theorem PKl.mono (e : Ex C C') {Q : VK} : ∀ d δ, PKl K C0 H0 B C σ Q d δ → PKl K C0 H0 B C' σ Q d δ := fun _ _ h p xs C2 H2 e2 => h p xs C2 H2 (e.trans e2)
end

structure DE (X : Cx) (EC : ECl) (W : WX) (e : Expr) (m : M D) : Prop where
  ex : ∃ te, PE X e te ∧ ∀ C0 H0 B C H σ δ Q, SR X.K C0 H0 B C H σ δ → RP (m δ) (PKe X.K C0 H0 B C σ Q) (PXe X.K EC W C0 H0 B C σ) → te σ H Q
structure DT (X : Cx) (EC : ECl) (W : WX) (e : Expr) (m : M Bool) : Prop where
  ex : ∃ te, PT X e te ∧ ∀ C0 H0 B C H σ δ Q, SR X.K C0 H0 B C H σ δ → RP (m δ) (PKt X.K C0 H0 B C σ Q) (PXe X.K EC W C0 H0 B C σ) → te σ H Q
structure DA (X : Cx) (EC : ECl) (W : WX) (es : List Expr) (m : M (List D)) : Prop where
  len : ∀ δ ds δ', m δ = .ok ds δ' → ds.length = es.length
  ex : ∃ te, PA X es te ∧ ∀ C0 H0 B C H σ δ Q, SR X.K C0 H0 B C H σ δ → RP (m δ) (PKa X.K C0 H0 B C σ Q) (PXe X.K EC W C0 H0 B C σ) → te σ H Q
/-- an expression that gives a new list -/
structure DL' (X : Cx) (EC : ECl) (W : WX) (e : Expr) (m : M (List D)) : Prop where
  ex : ∃ te, PE X e te ∧ ∀ C0 H0 B C H σ δ Q, SR X.K C0 H0 B C H σ δ → RP (m δ) (PKl X.K C0 H0 B C σ Q) (PXe X.K EC W C0 H0 B C σ) → te σ H Q

/-! ### flows -/
inductive Fl where
  | nx
  | rt (d : D)
  | bk
  | ct
section
variable (K : PySem.W.Frag) (EC : ECl) (W : WX) (C0 H0 : Hp) (B : List (Nat × Addr)) (C : Hp)
def PXs : Nat → D → Dl → Prop := fun c d δ => ∀ σ v dd C2 H2, Ex C C2 → SR K C0 H0 B C2 H2 σ δ → H2 dd = some (.xd [((EC c).2, v)]) → Dq K C2 v d → W (.ref (EC c).1) (some dd) σ H2
def PKs (N : L2.Ends) : Fl → Dl → Prop := fun f δ => ∀ σ C2 H2, Ex C C2 → SR K C0 H0 B C2 H2 σ δ → match f with
  | .nx => N.nx σ H2
  | .rt d => ∀ v, Dq K C2 v d → N.rt v H2
  | .bk => N.bk σ H2
  | .ct => N.ct σ H2
end
structure DS (X : Cx) (EC : ECl) (W : WX) (st : Stmt) (m : M Fl) : Prop where
  ex : ∃ ts, PS X st ts ∧ ∀ C0 H0 B C H σ δ (N : L2.Ends), SR X.K C0 H0 B C H σ δ → RP (m δ) (PKs X.K C0 H0 B C N) (PXs X.K EC W C0 H0 B C) → ts N σ H
structure DSs (X : Cx) (EC : ECl) (W : WX) (st : List Stmt) (m : M Fl) : Prop where
  ex : ∃ ts, PSs X st ts ∧ ∀ C0 H0 B C H σ δ (N : L2.Ends), SR X.K C0 H0 B C H σ δ → RP (m δ) (PKs X.K C0 H0 B C N) (PXs X.K EC W C0 H0 B C) → ts N σ H
end DL
end Part_DLa

section Part_DLb
set_option Elab.async false
set_option linter.all false
set_option maxRecDepth 100000
set_option autoImplicit false
set_option maxHeartbeats 2000000
namespace DL
open PySem L2 Evl

/-! ### by values -/
def Rs (K : PySem.W.Frag) (C H : Hp) (z : D) (Q : VK) : Prop := (∀ u, Dq K C u z → Q u H) ∧ ∀ p o, H p = none → Dq K (upd C p o) (.ref p) z → Q (.ref p) (upd H p o)
theorem rs_of {K : PySem.W.Frag} {C0 H0 C H : Hp} {B : List (Nat × Addr)} {σ : L2.St} {δ : Dl} {Q : VK} {z : D} (S : SR K C0 H0 B C H σ δ) (h : PKe K C0 H0 B C σ Q z δ) : Rs K C H z Q :=
  ⟨fun u hu => h u C H (Ex.refl C) S hu, fun p o hp hd => h _ _ _ (Ex.new (free_of S.ch hp)) (S.new hp) hd⟩
def RO (K : PySem.W.Frag) (r : R2) (f : D → D → Option D) : Prop := ∀ x y z, f x y = some z → ∀ v w C H Q, Ex C H → Dq K C v x → Dq K C w y → Rs K C H z Q → r v w H Q
def RO1 (K : PySem.W.Frag) (r : V → Hp → VK → Prop) (f : D → Option D) : Prop := ∀ x z, f x = some z → ∀ v C H Q, Ex C H → Dq K C v x → Rs K C H z Q → r v H Q
def RCf (K : PySem.W.Frag) (r : List V → Hp → VK → Prop) (f : List D → Option D) : Prop := ∀ xs z, f xs = some z → ∀ vs C H Q, Ex C H → DqAll K C vs xs → Rs K C H z Q → r vs H Q
def RMt (K : PySem.W.Frag) (r : V → List V → Hp → VK → Prop) (f : D → List D → Option D) : Prop := ∀ x xs z, f x xs = some z → ∀ v vs C H Q, Ex C H → Dq K C v x → DqAll K C vs xs → Rs K C H z Q → r v vs H Q

/-! ### mirrors of expressions -/
def mVar (i : Nat) : M D := fun δ => match δ[i]? with
  | some (.val d) => .ok d δ
  | _ => .no
def mC (d : D) : M D := fun δ => .ok d δ
def mNo {α : Type} : M α := fun _ => .no
def mOp (f : D → D → Option D) (a b : M D) : M D := fun δ => (a δ).bind fun x δ => (b δ).bind fun y δ => R.lift (f x y) δ
def mUn (f : D → Option D) (a : M D) : M D := fun δ => (a δ).bind fun x δ => R.lift (f x) δ
def mNil : M (List D) := fun δ => .ok [] δ
def mCons (a : M D) (r : M (List D)) : M (List D) := fun δ => (a δ).bind fun x δ => (r δ).bind fun xs δ => .ok (x :: xs) δ
def mCall (f : List D → Option D) (a : M (List D)) : M D := fun δ => (a δ).bind fun xs δ => R.lift (f xs) δ
def mMt (f : D → List D → Option D) (o : M D) (a : M (List D)) : M D := fun δ => (o δ).bind fun x δ => (a δ).bind fun xs δ => R.lift (f x xs) δ
abbrev LINE : Nat := 16777216
theorem line_eq : sizeLine = LINE := sizeLine_eq
def dTup (xs : List D) : Option D := if xs.length ≤ LINE then some (.tuple xs) else none
def dLst (xs : List D) : Option D := if xs.length ≤ LINE then some (.list xs) else none
def truthD : D → Option Bool
  | .none => some false
  | .bool b => some b
  | .int i => some (i != 0)
  | .str s => if s.length ≤ LINE then some ((s.length : Int) != 0) else none
  | .list xs => some (!xs.isEmpty)
  | .tuple xs => some (!xs.isEmpty)
  | _ => none
def mT (a : M D) : M Bool := fun δ => (a δ).bind fun x δ => match x with
  | .bool b => .ok b δ
  | _ => .no
def mTr (a : M D) : M Bool := fun δ => (a δ).bind fun x δ => R.lift (truthD x) δ
def mAndT (a b : M Bool) : M Bool := fun δ => (a δ).bind fun c δ => if c then b δ else .ok false δ
def mOrT (a b : M Bool) : M Bool := fun δ => (a δ).bind fun c δ => if c then .ok true δ else b δ
def mNotT (a : M Bool) : M Bool := fun δ => (a δ).bind fun c δ => .ok (!c) δ
def mAnd (a b : M D) : M D := fun δ => (a δ).bind fun x δ => match truthD x with
  | some true => b δ
  | some false => .ok x δ
  | none => .no
def mOr (a b : M D) : M D := fun δ => (a δ).bind fun x δ => match truthD x with
  | some true => .ok x δ
  | some false => b δ
  | none => .no
def mNot (a : M D) : M D := mUn (fun x => (truthD x).map fun b => .bool (!b)) a
def mIfE (c : M Bool) (a b : M D) : M D := fun δ => (c δ).bind fun k δ => if k then a δ else b δ
def mChain (f g : D → D → Option D) (a b c : M D) : M D := fun δ => (a δ).bind fun x δ => (b δ).bind fun y δ => match f x y with
  | some (.bool true) => (c δ).bind fun z δ => R.lift (g y z) δ
  | some (.bool false) => .ok (.bool false) δ
  | _ => .no

/-! ### the rules -/
section
variable {X : Cx} {EC : ECl} {W : WX} {a b c e : Expr} {es : List Expr} {ma mb mc : M D} {mes : M (List D)} {pos p : Pos}

theorem de_var (i : Nat) {x : Str} (hN : X.N[i]? = some x := by rfl) (hv : Vis X.env.scope x := by first | exact Or.inl rfl | exact Or.inr (Or.inl rfl) | exact Or.inr (Or.inr rfl)) (hd : (x == ("__debug__" : Str)) = false := by decide)
    (hcd : (x == ("__classdict__" : Str)) = false := by decide) : DE X EC W (.Name x pos) (mVar i) := by
  refine ⟨_, pe_var hN hv hd hcd, fun C0 H0 B C H σ δ Q S h => ?_⟩
  unfold mVar at h
  split at h
  · rename_i d e
    obtain ⟨v, h1, h2⟩ := S.val i d e
    exact ⟨v, h1, h v C H (Ex.refl C) S h2⟩
  · exact h.elim
theorem de_con {v : V} {d : D} (h : PE X e (tC v)) (hd : ∀ C, Dq X.K C v d) : DE X EC W e (mC d) :=
  ⟨_, h, fun C0 H0 B C H σ δ Q S h => h v C H (Ex.refl C) S (hd C)⟩
theorem de_int {i : Int} {j} : DE X EC W (.Constant (.int i) j pos) (mC (.int i)) := de_con pe_int fun _ => .int i
theorem de_bl {i : Bool} {j} : DE X EC W (.Constant (.bool i) j pos) (mC (.bool i)) := de_con pe_bl fun _ => .bl i
theorem de_str {i : Str} {j} : DE X EC W (.Constant (.str i) j pos) (mC (.str i)) := de_con pe_str fun _ => .str i
theorem de_non {j} : DE X EC W (.Constant .none j pos) (mC .none) := de_con pe_non fun _ => .non
theorem de_op {op : Operator} {r : R2} {f : D → D → Option D} (ho : OpR X (binaryOp op) r) (hr : RO X.K r f) (ha : DE X EC W a ma) (hb : DE X EC W b mb) : DE X EC W (.BinOp a op b pos) (mOp f ma mb) := by
  obtain ⟨ta, pa, ra⟩ := ha.ex
  obtain ⟨tb, pb, rb⟩ := hb.ex
  refine ⟨_, pe_op ho pa pb, fun C0 H0 B C H σ δ Q S h => ra C0 H0 B C H σ δ _ S (RP.imp (RP.bind h) (fun x δ1 h1 v C1 H1 e1 S1 d1 => ?_) fun c d δ h => h)⟩
  refine rb C0 H0 B C1 H1 σ δ1 _ S1 (RP.imp (RP.bind h1) (fun y δ2 h2 w C2 H2 e2 S2 d2 => ?_) (PXe.mono e1))
  obtain ⟨z, hz, q⟩ := RP.lift h2
  exact hr x y z hz v w C2 H2 Q S2.ch (dp_ex e2 _ _ d1) d2 (rs_of S2 (PKe.mono (e1.trans e2) _ _ q))
theorem de_cmp {op : CmpOp} {r : R2} {f : D → D → Option D} (ho : OpR X (compareOp op) r) (hr : RO X.K r f) (ha : DE X EC W a ma) (hb : DE X EC W b mb) (hm : behindInMarks op b = false) : DE X EC W (.Compare a [op] [b] pos) (mOp f ma mb) := by
  obtain ⟨ta, pa, ra⟩ := ha.ex
  obtain ⟨tb, pb, rb⟩ := hb.ex
  refine ⟨_, pe_cmpR ho pa pb hm, fun C0 H0 B C H σ δ Q S h => ra C0 H0 B C H σ δ _ S (RP.imp (RP.bind h) (fun x δ1 h1 v C1 H1 e1 S1 d1 => ?_) fun c d δ h => h)⟩
  refine rb C0 H0 B C1 H1 σ δ1 _ S1 (RP.imp (RP.bind h1) (fun y δ2 h2 w C2 H2 e2 S2 d2 => ?_) (PXe.mono e1))
  obtain ⟨z, hz, q⟩ := RP.lift h2
  exact hr x y z hz v w C2 H2 Q S2.ch (dp_ex e2 _ _ d1) d2 (rs_of S2 (PKe.mono (e1.trans e2) _ _ q))
theorem de_un {op : UnaryOp} {r : V → Hp → VK → Prop} {f : D → Option D} (ho : UnR X (unaryOp op) r) (hr : RO1 X.K r f) (ha : DE X EC W a ma) : DE X EC W (.UnaryOp op a pos) (mUn f ma) := by
  obtain ⟨ta, pa, ra⟩ := ha.ex
  refine ⟨_, pe_un ho pa, fun C0 H0 B C H σ δ Q S h => ra C0 H0 B C H σ δ _ S (RP.imp (RP.bind h) (fun x δ1 h1 v C1 H1 e1 S1 d1 => ?_) fun c d δ h => h)⟩
  obtain ⟨z, hz, q⟩ := RP.lift h1
  exact hr x z hz v C1 H1 Q S1.ch d1 (rs_of S1 (PKe.mono e1 _ _ q))
theorem da_nil : DA X EC W [] mNil := ⟨fun δ ds δ' h => by cases h; rfl, _, pa_nil, fun C0 H0 B C H σ δ Q S h => h [] C H (Ex.refl C) S .nil⟩
theorem da_cons (ha : DE X EC W e ma) (hr : DA X EC W es mes) (hs : starEach (e :: es) X.env = (false, eval e X.env) :: starEach es X.env := by rfl) : DA X EC W (e :: es) (mCons ma mes) := by
  obtain ⟨ta, pa, ra⟩ := ha.ex
  obtain ⟨tb, pb, rb⟩ := hr.ex
  refine ⟨fun δ ds δ' h => ?_, _, pa_cons pa pb hs, fun C0 H0 B C H σ δ Q S h => ra C0 H0 B C H σ δ _ S (RP.imp (RP.bind h) (fun x δ1 h1 v C1 H1 e1 S1 d1 => ?_) fun c d δ h => h)⟩
  · have h : ((ma δ).bind fun x δ => (mes δ).bind fun xs δ => .ok (x :: xs) δ) = .ok ds δ' := h
    cases q : ma δ with
    | no => rw [q] at h; cases h
    | ex c d δ' => rw [q] at h; cases h
    | ok x δ1 =>
      rw [q] at h
      have h : ((mes δ1).bind fun xs δ => .ok (x :: xs) δ) = .ok ds δ' := h
      cases q2 : mes δ1 with
      | no => rw [q2] at h; cases h
      | ex c d δ' => rw [q2] at h; cases h
      | ok xs δ2 =>
        rw [q2] at h
        cases h
        rw [List.length_cons, List.length_cons, hr.len δ1 xs _ q2]
  refine rb C0 H0 B C1 H1 σ δ1 _ S1 (RP.imp (RP.bind h1) (fun y δ2 h2 ws C2 H2 e2 S2 d2 => ?_) (PXe.mono e1))
  exact h2 (v :: ws) C2 H2 (e1.trans e2) S2 (.cons (dp_ex e2 _ _ d1) d2)
/-- a built-in that is called -/
theorem de_callB {id : String} {r : List V → Hp → VK → Prop} {f : List D → Option D} {x : Str} (hc : CallR X (.builtin id) r) (hf : RCf X.K r f) (hg : Gl X x) (hm : X.mg x = none) (hv : bootBuiltins x = some (.builtin id)) (ha : DA X EC W (e :: es) mes)
    (hn : x ≠ "__name__" := by decide) (hdb : (x == ("__debug__" : Str)) = false := by decide) (he : starEach (e :: es) X.env = (false, eval e X.env) :: starEach es X.env := by rfl) (hpl : (backTo pos (starEach es X.env)).any (·.1) = false := by rfl) :
    DE X EC W (.Call (.Name x p) (e :: es) [] pos) (mCall f mes) := by
  obtain ⟨ta, pa, ra⟩ := ha.ex
  refine ⟨_, pe_callB hc hg hm hv pa hn hdb he hpl, fun C0 H0 B C H σ δ Q S h => ra C0 H0 B C H σ δ _ S (RP.imp (RP.bind h) (fun xs δ1 h1 vs C1 H1 e1 S1 d1 => ?_) fun c d δ h => h)⟩
  obtain ⟨z, hz, q⟩ := RP.lift h1
  exact hf xs z hz vs C1 H1 Q S1.ch d1 (rs_of S1 (PKe.mono e1 _ _ q))
theorem de_callTy {T : String} {r : List V → Hp → VK → Prop} {f : List D → Option D} {x : Str} (hc : CallR X (.type T) r) (hf : RCf X.K r f) (hg : Gl X x) (hm : X.mg x = none) (hv : bootBuiltins x = some (.type T)) (ha : DA X EC W (e :: es) mes)
    (hn : x ≠ "__name__" := by decide) (hdb : (x == ("__debug__" : Str)) = false := by decide) (he : starEach (e :: es) X.env = (false, eval e X.env) :: starEach es X.env := by rfl) (hpl : (backTo pos (starEach es X.env)).any (·.1) = false := by rfl) :
    DE X EC W (.Call (.Name x p) (e :: es) [] pos) (mCall f mes) := by
  obtain ⟨ta, pa, ra⟩ := ha.ex
  refine ⟨_, pe_callTy hc hg hm hv pa hn hdb he hpl, fun C0 H0 B C H σ δ Q S h => ra C0 H0 B C H σ δ _ S (RP.imp (RP.bind h) (fun xs δ1 h1 vs C1 H1 e1 S1 d1 => ?_) fun c d δ h => h)⟩
  obtain ⟨z, hz, q⟩ := RP.lift h1
  exact hf xs z hz vs C1 H1 Q S1.ch d1 (rs_of S1 (PKe.mono e1 _ _ q))
theorem de_tup {x1} (ha : DA X EC W es mes) : DE X EC W (.Tuple es x1 pos) (mCall dTup mes) := by
  obtain ⟨ta, pa, ra⟩ := ha.ex
  refine ⟨_, pe_tupF pa, fun C0 H0 B C H σ δ Q S h => ra C0 H0 B C H σ δ _ S (RP.imp (RP.bind h) (fun xs δ1 h1 vs C1 H1 e1 S1 d1 => ?_) fun c d δ h => h)⟩
  obtain ⟨z, hz, q⟩ := RP.lift h1
  unfold dTup at hz
  split at hz
  · rename_i hl
    cases hz
    refine ⟨by rw [dpa_len d1, line_eq]; exact hl, fun p o hp ho => ?_⟩
    refine (rs_of S1 (PKe.mono e1 _ _ q)).2 p _ hp (.tup sqt_new (.new ho) (dpAll_ex (Ex.new (free_of S1.ch hp)) _ _ d1))
  · cases hz
/-- a list that is displayed -/
def mNew (a : M (List D)) : M (List D) := fun δ => (a δ).bind fun xs δ => if xs.length ≤ LINE then .ok xs δ else .no
theorem dl_lst (ha : DA X EC W es mes) : DL' X EC W (.List es pos) (mNew mes) := by
  obtain ⟨ta, pa, ra⟩ := ha.ex
  refine ⟨_, pe_lst pa, fun C0 H0 B C H σ δ Q S h => ra C0 H0 B C H σ δ _ S (RP.imp (RP.bind h) (fun xs δ1 h1 vs C1 H1 e1 S1 d1 => ?_) fun c d δ h => h)⟩
  split at h1
  · rename_i hl
    refine ⟨by rw [dpa_len d1, line_eq]; exact hl, fun p hp => ?_⟩
    have nH0 : H0 p = none := by
      cases q : H0 p with
      | none => rfl
      | some o =>
        by_cases hb : ∃ k ∈ B, k.2 = p
        · obtain ⟨k, hk, rfl⟩ := hb
          obtain ⟨_, _, _, _, _, h4, _⟩ := S1.bor k hk
          rw [hp] at h4
          cases h4
        · have z := S1.fr p o q fun k hk e => hb ⟨k, hk, e⟩
          rw [hp] at z
          cases z
    refine h1 p vs C1 _ e1 (S1.newN hp) (free_of S1.ch hp) upd_same nH0 (fun i b ds hi hs => ?_) d1
    cases b with
    | false =>
      obtain ⟨l, ys, h2, _, _, h5, _⟩ := S1.own i ds hi
      rw [h2] at hs
      cases hs
      rw [hp] at h5
      cases h5
    | true =>
      obtain ⟨l, hl⟩ := S1.btr i ds hi
      obtain ⟨_, _, _, h3, _, h5, _⟩ := S1.bor _ hl
      rw [h3] at hs
      cases hs
      rw [hp] at h5
      cases h5
  · exact h1.elim
/-- a new list, as data -/
def mOf (a : M (List D)) : M D := fun δ => (a δ).bind fun xs δ => .ok (.list xs) δ
theorem de_of {mes : M (List D)} (h : DL' X EC W e mes) : DE X EC W e (mOf mes) := by
  obtain ⟨te, pe, re⟩ := h.ex
  refine ⟨te, pe, fun C0 H0 B C H σ δ Q S h => re C0 H0 B C H σ δ Q S (RP.imp (RP.bind h) (fun xs δ1 h1 p vs C1 H1 e1 S1 hC hH h0 nm d1 => ?_) fun c d δ h => h)⟩
  have e2 : Ex C1 (upd C1 p (.lst vs)) := Ex.new hC
  have e3 : Ex (upd C1 p (.lst vs)) H1 := fun a o q => by
    by_cases ha : a = p
    · subst ha
      rw [upd_same] at q
      rw [← q]
      exact hH
    · rw [upd_ne ha] at q
      exact S1.ch a o q
  refine h1 (.ref p) (upd C1 p (.lst vs)) H1 (e1.trans e2) ⟨S1.len, S1.c0.trans e2, e3, S1.fr, fun a h2 h3 => ?_, fun i d hi => ?_, fun i ds hi => ?_, fun k hk => ?_, S1.btr, S1.bd1, S1.bd2, S1.bH0, S1.odis⟩ (.lst (SqL.of upd_same) (dpAll_ex e2 _ _ d1))
  · rw [upd_ne fun z => h2 (by rw [z]; exact h0)]
    exact S1.nw a h2 h3
  · obtain ⟨v, h2, h3⟩ := S1.val i d hi
    exact ⟨v, h2, dp_ex e2 _ _ h3⟩
  · obtain ⟨l, ys, h2, h3, h4, h5, h6⟩ := S1.own i ds hi
    refine ⟨l, ys, h2, h3, ?_, h5, dpAll_ex e2 _ _ h6⟩
    rw [upd_ne fun z => nm i false ds hi (by rw [← z]; exact h2)]
    exact h4
  · obtain ⟨ds, ys, h2, h3, h4, h5, h6⟩ := S1.bor k hk
    refine ⟨ds, ys, h2, h3, ?_, h5, dpAll_ex e2 _ _ h6⟩
    rw [upd_ne fun z => nm k.1 true ds h2 (by rw [← z]; exact h3)]
    exact h4
theorem de_lst (ha : DA X EC W es mes) : DE X EC W (.List es pos) (mOf (mNew mes)) := de_of (dl_lst ha)

/-! ### tests -/
variable {ta tb : M Bool}
theorem dt_val (h : DE X EC W e ma) (he : ∀ whole, isTrue e X.env whole = (do let v ← whole; standAt e.pos; holding [v] (truthy v)) := by intro _; rfl) : DT X EC W e (mT ma) := by
  obtain ⟨te, pe, re⟩ := h.ex
  refine ⟨_, pt_val pe he, fun C0 H0 B C H σ δ Q S h => re C0 H0 B C H σ δ _ S (RP.imp (RP.bind h) (fun x δ1 h1 v C1 H1 e1 S1 d1 => ?_) fun c d δ h => h)⟩
  split at h1
  · rename_i k
    cases d1
    exact ⟨k, rfl, h1 C1 H1 e1 S1⟩
  · exact h1.elim
theorem dt_cmp {op : CmpOp} {r : R2} {f : D → D → Option D} (ho : OpR X (compareOp op) r) (hr : RO X.K r f) (ha : DE X EC W a ma) (hb : DE X EC W b mb) (hm : behindInMarks op b = false) : DT X EC W (.Compare a [op] [b] pos) (mT (mOp f ma mb)) := by
  obtain ⟨ta, pa, ra⟩ := ha.ex
  obtain ⟨tb, pb, rb⟩ := hb.ex
  refine ⟨_, pt_cmpR ho pa pb hm, fun C0 H0 B C H σ δ Q S h => ra C0 H0 B C H σ δ _ S (RP.imp (RP.bind (RP.bind h)) (fun x δ1 h1 v C1 H1 e1 S1 d1 => ?_) fun c d δ h => h)⟩
  refine rb C0 H0 B C1 H1 σ δ1 _ S1 (RP.imp (RP.bind h1) (fun y δ2 h2 w C2 H2 e2 S2 d2 => ?_) (PXe.mono e1))
  obtain ⟨z, hz, q⟩ := RP.lift h2
  refine hr x y z hz v w C2 H2 _ S2.ch (dp_ex e2 _ _ d1) d2 (rs_of (Q := fun x H' => ∃ k, x = .bl k ∧ Q k H') S2 fun u C3 H3 e3 S3 d3 => ?_)
  split at q
  · rename_i k
    cases d3
    exact ⟨k, rfl, q C3 H3 ((e1.trans e2).trans e3) S3⟩
  · exact q.elim
theorem tru_of {K : PySem.W.Frag} {C H : Hp} {v : V} {x : D} {k : Bool} (e : Ex C H) (h : Dq K C v x) (ht : truthD x = some k) : TruV K v H k := by
  have hl := line_eq
  cases h with
  | dct h1 h2 h3 h4 => cases ht
  | non => cases ht; rfl
  | bl b => cases ht; rfl
  | int i => cases ht; rfl
  | str s =>
    have ht : (if s.length ≤ LINE then some ((s.length : Int) != 0) else none) = some k := ht
    split at ht
    · rename_i hs
      cases ht
      exact ⟨by rw [hl]; exact hs, rfl⟩
    · cases ht
  | lst h1 h2 =>
    cases ht
    refine .inl ⟨_, ex_l e h1, ?_⟩
    have := dpa_len h2
    rename_i xs ds
    cases xs <;> cases ds <;> simp_all
  | tup h1 nd_h1 h2 =>
    cases ht
    refine .inr (.inl ⟨_, ex_t e h1, ?_⟩)
    have := dpa_len h2
    rename_i xs ds
    cases xs <;> cases ds <;> simp_all
theorem dt_truth (h : DE X EC W e ma) (he : ∀ whole, isTrue e X.env whole = (do let v ← whole; standAt e.pos; holding [v] (truthy v)) := by intro _; rfl) : DT X EC W e (mTr ma) := by
  obtain ⟨te, pe, re⟩ := h.ex
  refine ⟨_, pt_truth pe he, fun C0 H0 B C H σ δ Q S h => re C0 H0 B C H σ δ _ S (RP.imp (RP.bind h) (fun x δ1 h1 v C1 H1 e1 S1 d1 => ?_) fun c d δ h => h)⟩
  obtain ⟨k, hk, q⟩ := RP.lift h1
  exact ⟨k, tru_of S1.ch d1 hk, q C1 H1 e1 S1⟩
structure DW (X : Cx) (EC : ECl) (W : WX) (e : Expr) (m : M Bool) : Prop where
  ex : ∃ te, PW X e te ∧ ∀ C0 H0 B C H σ δ Q, SR X.K C0 H0 B C H σ δ → RP (m δ) (PKt X.K C0 H0 B C σ Q) (PXe X.K EC W C0 H0 B C σ) → te σ H Q
theorem DW.dt (h : DW X EC W e ta) : DT X EC W e ta := let ⟨t, p, r⟩ := h.ex; ⟨t, p.pt, r⟩
theorem dw_and1 (ha : DT X EC W a ta) : DW X EC W (.BoolOp .And [a] pos) ta := let ⟨t, p, r⟩ := ha.ex; ⟨t, pw_and1 p, r⟩
theorem dw_or1 (ha : DT X EC W a ta) : DW X EC W (.BoolOp .Or [a] pos) ta := let ⟨t, p, r⟩ := ha.ex; ⟨t, pw_or1 p, r⟩
theorem dw_and {rest : List Expr} (ha : DT X EC W a ta) (hb : DW X EC W (.BoolOp .And (b :: rest) pos) tb) : DW X EC W (.BoolOp .And (a :: b :: rest) pos) (mAndT ta tb) := by
  obtain ⟨t1, p1, r1⟩ := ha.ex
  obtain ⟨t2, p2, r2⟩ := hb.ex
  refine ⟨_, pw_and p1 p2, fun C0 H0 B C H σ δ Q S h => r1 C0 H0 B C H σ δ _ S (RP.imp (RP.bind h) (fun c δ1 h1 C1 H1 e1 S1 => ?_) fun c d δ h => h)⟩
  cases c with
  | true => exact r2 C0 H0 B C1 H1 σ δ1 Q S1 (RP.imp h1 (PKt.mono e1) (PXe.mono e1))
  | false => exact h1 C1 H1 e1 S1
theorem dw_or {rest : List Expr} (ha : DT X EC W a ta) (hb : DW X EC W (.BoolOp .Or (b :: rest) pos) tb) : DW X EC W (.BoolOp .Or (a :: b :: rest) pos) (mOrT ta tb) := by
  obtain ⟨t1, p1, r1⟩ := ha.ex
  obtain ⟨t2, p2, r2⟩ := hb.ex
  refine ⟨_, pw_or p1 p2, fun C0 H0 B C H σ δ Q S h => r1 C0 H0 B C H σ δ _ S (RP.imp (RP.bind h) (fun c δ1 h1 C1 H1 e1 S1 => ?_) fun c d δ h => h)⟩
  cases c with
  | true => exact h1 C1 H1 e1 S1
  | false => exact r2 C0 H0 B C1 H1 σ δ1 Q S1 (RP.imp h1 (PKt.mono e1) (PXe.mono e1))
theorem dt_not (ha : DT X EC W a ta) : DT X EC W (.UnaryOp .Not a pos) (mNotT ta) := by
  obtain ⟨t1, p1, r1⟩ := ha.ex
  refine ⟨_, pt_not p1, fun C0 H0 B C H σ δ Q S h => r1 C0 H0 B C H σ δ _ S (RP.imp (RP.bind h) (fun c δ1 h1 C1 H1 e1 S1 => ?_) fun c d δ h => h)⟩
  exact h1 C1 H1 e1 S1
/-! ### and, or, not, if as values -/
theorem de_one {op} (h : DE X EC W a ma) : DE X EC W (.BoolOp op [a] pos) ma := let ⟨t, p, r⟩ := h.ex; ⟨t, pe_one p, r⟩
theorem de_and {rest : List Expr} (ha : DE X EC W a ma) (hb : DE X EC W (.BoolOp .And (b :: rest) pos) mb) : DE X EC W (.BoolOp .And (a :: b :: rest) pos) (mAnd ma mb) := by
  obtain ⟨t1, p1, r1⟩ := ha.ex
  obtain ⟨t2, p2, r2⟩ := hb.ex
  refine ⟨_, pe_andT p1 p2, fun C0 H0 B C H σ δ Q S h => r1 C0 H0 B C H σ δ _ S (RP.imp (RP.bind h) (fun x δ1 h1 v C1 H1 e1 S1 d1 => ?_) fun c d δ h => h)⟩
  split at h1
  · rename_i hk
    exact ⟨true, tru_of S1.ch d1 hk, r2 C0 H0 B C1 H1 σ δ1 Q S1 (RP.imp h1 (PKe.mono e1) (PXe.mono e1))⟩
  · rename_i hk
    exact ⟨false, tru_of S1.ch d1 hk, h1 v C1 H1 e1 S1 d1⟩
  · exact h1.elim
theorem de_or {rest : List Expr} (ha : DE X EC W a ma) (hb : DE X EC W (.BoolOp .Or (b :: rest) pos) mb) : DE X EC W (.BoolOp .Or (a :: b :: rest) pos) (mOr ma mb) := by
  obtain ⟨t1, p1, r1⟩ := ha.ex
  obtain ⟨t2, p2, r2⟩ := hb.ex
  refine ⟨_, pe_orT p1 p2, fun C0 H0 B C H σ δ Q S h => r1 C0 H0 B C H σ δ _ S (RP.imp (RP.bind h) (fun x δ1 h1 v C1 H1 e1 S1 d1 => ?_) fun c d δ h => h)⟩
  split at h1
  · rename_i hk
    exact ⟨true, tru_of S1.ch d1 hk, h1 v C1 H1 e1 S1 d1⟩
  · rename_i hk
    exact ⟨false, tru_of S1.ch d1 hk, r2 C0 H0 B C1 H1 σ δ1 Q S1 (RP.imp h1 (PKe.mono e1) (PXe.mono e1))⟩
  · exact h1.elim
theorem de_not (ha : DE X EC W a ma) : DE X EC W (.UnaryOp .Not a pos) (mNot ma) := by
  obtain ⟨t1, p1, r1⟩ := ha.ex
  refine ⟨_, pe_notT p1, fun C0 H0 B C H σ δ Q S h => r1 C0 H0 B C H σ δ _ S (RP.imp (RP.bind h) (fun x δ1 h1 v C1 H1 e1 S1 d1 => ?_) fun c d δ h => h)⟩
  obtain ⟨z, hz, q⟩ := RP.lift h1
  have hz : (truthD x).map (fun b => PyData.bool (!b)) = some z := hz
  cases hk : truthD x with
  | none => rw [hk] at hz; cases hz
  | some k =>
    rw [hk] at hz
    cases hz
    exact ⟨k, tru_of S1.ch d1 hk, q _ C1 H1 e1 S1 (.bl _)⟩
theorem de_ifE (hc : DT X EC W c ta) (ha : DE X EC W a ma) (hb : DE X EC W b mb) : DE X EC W (.IfExp c a b pos) (mIfE ta ma mb) := by
  obtain ⟨t0, p0, r0⟩ := hc.ex
  obtain ⟨t1, p1, r1⟩ := ha.ex
  obtain ⟨t2, p2, r2⟩ := hb.ex
  refine ⟨_, pe_ifExp p0 p1 p2, fun C0 H0 B C H σ δ Q S h => r0 C0 H0 B C H σ δ _ S (RP.imp (RP.bind h) (fun k δ1 h1 C1 H1 e1 S1 => ?_) fun c d δ h => h)⟩
  cases k with
  | true => exact r1 C0 H0 B C1 H1 σ δ1 Q S1 (RP.imp h1 (PKe.mono e1) (PXe.mono e1))
  | false => exact r2 C0 H0 B C1 H1 σ δ1 Q S1 (RP.imp h1 (PKe.mono e1) (PXe.mono e1))
end
end DL
end Part_DLb

section Part_DLc
set_option Elab.async false
set_option linter.all false
set_option maxRecDepth 100000
set_option autoImplicit false
set_option maxHeartbeats 2000000
namespace DL
open PySem PySem.Spec PyProof.Rows L2 Evl

/-! ### operators by values -/
instance (i j : Int) : Decidable (CMul i j) := by unfold CMul; infer_instance
instance (i j : Int) : Decidable (CMulW i j) := by unfold CMulW; infer_instance
instance (i j : Int) : Decidable (CDivN i j) := by unfold CDivN; infer_instance
instance (i j : Int) : Decidable (CDivW i j) := by unfold CDivW; infer_instance
instance (i j : Int) : Decidable (CPow i j) := by unfold CPow; infer_instance

/-- list + list, either one that may only be read too -/
def rCatR (K : PySem.W.Frag) : R2 := fun x y H Q => ∃ l b xs zs, x = .ref l ∧ y = .ref b ∧ SqL K H l xs ∧ SqL K H b zs ∧ xs.length + zs.length ≤ sizeLine ∧ ∀ p, H p = none → Q (.ref p) (upd H p (.lst (xs ++ zs)))
theorem op_catR {X : Cx} : OpR X (binaryOp .Add) (rCatR X.K) := by
  intro pins s σ H x y v u Q I rx ry h
  obtain ⟨l, b, xs, zs, rfl, rfl, hH, hB, hz, q⟩ := h
  cases rx
  cases ry
  obtain ⟨its, r, p1, _⟩ := I.list hH
  obtain ⟨its2, r2, p2, _⟩ := I.list hB
  obtain ⟨⟨cls, dd, data, sl⟩, n, ho, hc, hdd, hd⟩ := p1
  obtain ⟨⟨cls2, dd2, data2, sl2⟩, n2, ho2, hc2, hdd2, hd2⟩ := p2
  simp only at hc hd hc2 hd2 hdd hdd2
  subst hc hd hc2 hd2 hdd hdd2
  have e : its.toArray ++ its2.toArray = (its ++ its2).toArray := by simp
  refine concat_meets ⟨_, ho, rfl⟩ ⟨_, ho2, rfl⟩ noFill_list_add seq_list_add PySem.F.slot_list_add PySem.F.entry_list_add (PySem.F.args_list_add_2 _ _) (list_addW l b its.toArray its2.toArray n n2 none none sl sl2 (by rw [List.size_toArray, List.size_toArray, ← r.length, ← r2.length]; exact hz)) ⟨ho, ho2, ?_⟩
  rw [e]
  exact ⟨.ref _, _, I.lnew (t' := s.toks) (r.append r2) (by rw [List.length_append]; omega), rfl, q _ I.fresh⟩

/-- some of it by name -/
def dInts : List D → Option (List Int)
  | [] => some []
  | .int i :: r => (dInts r).map (i :: ·)
  | _ => none
def dStrs : List D → Option (List Str)
  | [] => some []
  | .str i :: r => (dStrs r).map (i :: ·)
  | _ => none
def dBls : List D → Option (List Bool)
  | [] => some []
  | .bool i :: r => (dBls r).map (i :: ·)
  | _ => none
theorem dInts_map : ∀ ns : List Int, dInts (ns.map .int) = some ns
  | [] => rfl
  | n :: ns => by
    show (dInts (ns.map .int)).map (n :: ·) = _
    rw [dInts_map ns]
    rfl
theorem dStrs_map : ∀ ns : List Str, dStrs (ns.map .str) = some ns
  | [] => rfl
  | n :: ns => by
    show (dStrs (ns.map .str)).map (n :: ·) = _
    rw [dStrs_map ns]
    rfl
theorem dBls_map : ∀ ns : List Bool, dBls (ns.map .bool) = some ns
  | [] => rfl
  | n :: ns => by
    show (dBls (ns.map .bool)).map (n :: ·) = _
    rw [dBls_map ns]
    rfl
theorem dInts_eq : ∀ {ds : List D} {ns : List Int}, dInts ds = some ns → ds = ns.map .int
  | [], _, h => by cases h; rfl
  | .int i :: r, ns, h => by
    have h : (dInts r).map (i :: ·) = some ns := h
    cases q : dInts r with
    | none => rw [q] at h; cases h
    | some ms =>
      rw [q] at h
      cases h
      rw [dInts_eq q]
      rfl
  | .none :: _, _, h => by cases h
  | .bool _ :: _, _, h => by cases h
  | .str _ :: _, _, h => by cases h
  | .list _ :: _, _, h => by cases h
  | .tuple _ :: _, _, h => by cases h
  | .dict _ :: _, _, h => by cases h
theorem dStrs_eq : ∀ {ds : List D} {ns : List Str}, dStrs ds = some ns → ds = ns.map .str
  | [], _, h => by cases h; rfl
  | .str i :: r, ns, h => by
    have h : (dStrs r).map (i :: ·) = some ns := h
    cases q : dStrs r with
    | none => rw [q] at h; cases h
    | some ms =>
      rw [q] at h
      cases h
      rw [dStrs_eq q]
      rfl
  | .none :: _, _, h => by cases h
  | .bool _ :: _, _, h => by cases h
  | .int _ :: _, _, h => by cases h
  | .list _ :: _, _, h => by cases h
  | .tuple _ :: _, _, h => by cases h
  | .dict _ :: _, _, h => by cases h
theorem dBls_eq : ∀ {ds : List D} {ns : List Bool}, dBls ds = some ns → ds = ns.map .bool
  | [], _, h => by cases h; rfl
  | .bool i :: r, ns, h => by
    have h : (dBls r).map (i :: ·) = some ns := h
    cases q : dBls r with
    | none => rw [q] at h; cases h
    | some ms =>
      rw [q] at h
      cases h
      rw [dBls_eq q]
      rfl
  | .none :: _, _, h => by cases h
  | .str _ :: _, _, h => by cases h
  | .int _ :: _, _, h => by cases h
  | .list _ :: _, _, h => by cases h
  | .tuple _ :: _, _, h => by cases h
  | .dict _ :: _, _, h => by cases h

def dAdd : D → D → Option D
  | .int i, .int j => some (.int (i + j))
  | .str a, .str b => if a.length + b.length ≤ LINE then some (.str (a ++ b)) else none
  | .list a, .list b => if a.length + b.length ≤ LINE then some (.list (a ++ b)) else none
  | .tuple a, .tuple b => if a.length + b.length ≤ LINE then some (.tuple (a ++ b)) else none
  | _, _ => none
def rAddA (K : PySem.W.Frag) : R2 := fun x y H Q => (rI0 fun i j => .int (i + j)) x y H Q ∨ ((fun x y H Q => ∃ i j, x = V.str i ∧ y = V.str j ∧ i.length + j.length ≤ sizeLine ∧ Q (.str (i ++ j)) H) x y H Q ∨ (rCatR K x y H Q ∨ rCatF K x y H Q))
theorem op_addA {X : Cx} : OpR X (binaryOp .Add) (rAddA X.K) := op_add.or (op_add_str.or (op_catR.or op_catF))
theorem ro_add {K : PySem.W.Frag} : RO K (rAddA K) dAdd := by
  intro x y z hz v w C H Q e hv hw q
  have hl := line_eq
  unfold dAdd at hz
  split at hz
  · cases hz; cases hv; cases hw
    exact .inl ⟨_, _, rfl, rfl, q.1 _ (.int _)⟩
  · split at hz
    · rename_i hs
      cases hz; cases hv; cases hw
      exact .inr (.inl ⟨_, _, rfl, rfl, by rw [hl]; exact hs, q.1 _ (.str _)⟩)
    · cases hz
  · split at hz
    · rename_i hs
      cases hz
      cases hv with
      | lst h1 h2 =>
        cases hw with
        | lst h3 h4 =>
          have l1 := dpa_len h2
          have l2 := dpa_len h4
          refine .inr (.inr (.inl ⟨_, _, _, _, rfl, rfl, ex_l e h1, ex_l e h3, by rw [hl, l1, l2]; exact hs, fun p hp => ?_⟩))
          exact q.2 p _ hp (.lst (SqL.of upd_same) (dpAll_ex (Ex.new (free_of e hp)) _ _ (dpa_app h2 h4)))
    · cases hz
  · split at hz
    · rename_i hs
      cases hz
      cases hv with
      | tup h1 nd_h1 h2 =>
        cases hw with
        | tup h3 nd_h3 h4 =>
          have l1 := dpa_len h2
          have l2 := dpa_len h4
          refine .inr (.inr (.inr ⟨_, _, _, _, rfl, rfl, ex_t e h1, ex_t e h3, by rw [hl, l1, l2]; exact hs, fun n => ?_, fun _ n => ?_, fun _ _ p o hp ho => ?_⟩))
          · subst n
            cases h2
            exact q.1 _ (.tup h3 nd_h3 h4)
          · subst n
            cases h4
            rw [List.append_nil] at q
            exact q.1 _ (.tup h1 nd_h1 h2)
          · exact q.2 p _ hp (.tup sqt_new (.new ho) (dpAll_ex (Ex.new (free_of e hp)) _ _ (dpa_app h2 h4)))
    · cases hz
  · cases hz
def dII (g : Int → Int → Option D) : D → D → Option D
  | .int i, .int j => g i j
  | _, _ => none
theorem ro_ii {K : PySem.W.Frag} {Cn : Int → Int → Prop} {g : Int → Int → V} {f : Int → Int → Option D} (h : ∀ i j z, f i j = some z → Cn i j ∧ ∀ C, Dq K C (g i j) z) : RO K (rI Cn g) (dII f) := by
  intro x y z hz v w C H Q e hv hw q
  unfold dII at hz
  split at hz
  · cases hv; cases hw
    obtain ⟨h1, h2⟩ := h _ _ _ hz
    exact ⟨_, _, rfl, rfl, h1, q.1 _ (h2 C)⟩
  · cases hz
theorem ro_i0 {K : PySem.W.Frag} {g : Int → Int → V} {f : Int → Int → Option D} (h : ∀ i j z, f i j = some z → ∀ C, Dq K C (g i j) z) : RO K (rI0 g) (dII f) := by
  intro x y z hz v w C H Q e hv hw q
  unfold dII at hz
  split at hz
  · cases hv; cases hw
    exact ⟨_, _, rfl, rfl, q.1 _ (h _ _ _ hz C)⟩
  · cases hz
def dSub := dII fun i j => some (.int (i - j))
theorem ro_sub {K : PySem.W.Frag} : RO K (rI0 fun i j => .int (i - j)) dSub := ro_i0 fun i j z h C => by cases h; exact .int _
def dMul := dII fun i j => if CMul i j ∨ CMulW i j then some (.int (i * j)) else none
def rMulA : R2 := fun x y H Q => rI CMul (fun i j => .int (i * j)) x y H Q ∨ rI CMulW (fun i j => .int (i * j)) x y H Q
theorem op_mulA {X : Cx} : OpR X (binaryOp .Mult) rMulA := op_mul.or op_mulW
theorem ro_mul {K : PySem.W.Frag} : RO K rMulA dMul := by
  intro x y z hz v w C H Q e hv hw q
  unfold dMul dII at hz
  split at hz
  · dsimp only at hz
    split at hz
    · rename_i h
      cases hz; cases hv; cases hw
      rcases h with h | h
      · exact .inl ⟨_, _, rfl, rfl, h, q.1 _ (.int _)⟩
      · exact .inr ⟨_, _, rfl, rfl, h, q.1 _ (.int _)⟩
    · cases hz
  · cases hz
/-- by a divisor that is not 0 and small, or positive -/
def dDiv := dII fun i j => if CDivN i j ∨ CDivW i j then some (.int (i.fdiv j)) else none
def rDivA : R2 := fun x y H Q => rI CDivN (fun i j => .int (i.fdiv j)) x y H Q ∨ rI CDivW (fun i j => .int (i / j)) x y H Q
theorem op_divA {X : Cx} : OpR X (binaryOp .FloorDiv) rDivA := op_fdivN.or op_fdivW
theorem ro_div {K : PySem.W.Frag} : RO K rDivA dDiv := by
  intro x y z hz v w C H Q e hv hw q
  unfold dDiv dII at hz
  split at hz
  · dsimp only at hz
    split at hz
    · rename_i h
      cases hz; cases hv; cases hw
      rcases h with h | h
      · exact .inl ⟨_, _, rfl, rfl, h, q.1 _ (.int _)⟩
      · refine .inr ⟨_, _, rfl, rfl, h, q.1 _ ?_⟩
        rw [Int.fdiv_eq_ediv_of_nonneg _ (Int.le_of_lt h.1)]
        exact .int _
    · cases hz
  · cases hz
def dMod := dII fun i j => if j ≠ 0 then some (.int (i.fmod j)) else none
theorem ro_mod {K : PySem.W.Frag} : RO K (rI (fun _ j => j ≠ 0) fun i j => .int (i.fmod j)) dMod := ro_ii fun i j z h => by
  split at h
  · cases h; exact ⟨by assumption, fun _ => .int _⟩
  · cases h
def dPow := dII fun i j => if CPow i j then some (.int (i ^ j.toNat)) else none
theorem ro_pow {K : PySem.W.Frag} : RO K (rI CPow fun i j => .int (i ^ j.toNat)) dPow := ro_ii fun i j z h => by
  split at h
  · cases h; exact ⟨by assumption, fun _ => .int _⟩
  · cases h
def dNeg : D → Option D
  | .int i => some (.int (-i))
  | _ => none
theorem ro_neg {K : PySem.W.Frag} : RO1 K (rU fun i => .int (-i)) dNeg := by
  intro x z hz v C H Q e hv q
  unfold dNeg at hz
  split at hz
  · cases hz; cases hv
    exact ⟨_, rfl, q.1 _ (.int _)⟩
  · cases hz
/-! comparisons -/
def dEq (x y : D) : Option D := if SeqAt.shaped x && SeqAt.shaped y then some (.bool (PyData.eqv x y)) else none
def dNe (x y : D) : Option D := if SeqAt.shaped x && SeqAt.shaped y then some (.bool (!PyData.eqv x y)) else none
theorem ro_eq {K : PySem.W.Frag} : RO K (rEqD K) dEq := by
  intro x y z hz v w C H Q e hv hw q
  unfold dEq at hz
  split at hz
  · rename_i h
    rw [Bool.and_eq_true] at h
    cases hz
    exact ⟨x, y, dq_dp _ _ (SeqAt.canLay_of_shaped h.1) (dp_ex e _ _ hv), dq_dp _ _ (SeqAt.canLay_of_shaped h.2) (dp_ex e _ _ hw), h.1, h.2, q.1 _ (.bl _)⟩
  · cases hz
theorem ro_ne {K : PySem.W.Frag} : RO K (rNeD K) dNe := by
  intro x y z hz v w C H Q e hv hw q
  unfold dNe at hz
  split at hz
  · rename_i h
    rw [Bool.and_eq_true] at h
    cases hz
    exact ⟨x, y, dq_dp _ _ (SeqAt.canLay_of_shaped h.1) (dp_ex e _ _ hv), dq_dp _ _ (SeqAt.canLay_of_shaped h.2) (dp_ex e _ _ hw), h.1, h.2, q.1 _ (.bl _)⟩
  · cases hz
def dIsN : D → D → Option D
  | x, .none => some (.bool (match x with | .none => true | _ => false))
  | _, _ => none
def dNotN : D → D → Option D
  | x, .none => some (.bool (match x with | .none => false | _ => true))
  | _, _ => none
theorem ro_isN {K : PySem.W.Frag} : RO K (fun x y H Q => y = V.non ∧ Q (.bl (decide (x = .non))) H) dIsN := by
  intro x y z hz v w C H Q e hv hw q
  unfold dIsN at hz
  split at hz
  · cases hz; cases hw
    refine ⟨rfl, q.1 _ ?_⟩
    cases hv <;> exact .bl _
  · cases hz
theorem ro_notN {K : PySem.W.Frag} : RO K (fun x y H Q => y = V.non ∧ Q (.bl (!decide (x = .non))) H) dNotN := by
  intro x y z hz v w C H Q e hv hw q
  unfold dNotN at hz
  split at hz
  · cases hz; cases hw
    refine ⟨rfl, q.1 _ ?_⟩
    cases hv <;> exact .bl _
  · cases hz
def b2 (b : Bool) : Int := if b = true then 1 else 0
def dLt : D → D → Option D
  | .int i, .int j => some (.bool (decide (i < j)))
  | .bool i, .bool j => some (.bool (decide (b2 i < b2 j)))
  | .str i, .str j => some (.bool (decide (i.cps.toList < j.cps.toList)))
  | .tuple xs, .tuple ys => match dInts xs, dInts ys with
    | some ns, some ms => some (.bool (HT.lexLt ns ms))
    | _, _ => none
  | _, _ => none
def rB2 (g : Bool → Bool → Bool) : R2 := fun x y H Q => ∃ i j, x = .bl i ∧ y = .bl j ∧ Q (.bl (g i j)) H
theorem op_ltB {X : Cx} : OpR X (compareOp .Lt) (rB2 fun i j => decide (b2 i < b2 j)) := by
  intro pins s σ H x y v u Q I rx ry h
  obtain ⟨i, j, rfl, rfl, q⟩ := h
  cases rx; cases ry
  exact PyProof.Rows.lt_bool ⟨.bl _, H, I, rfl, q⟩
theorem op_gtB {X : Cx} : OpR X (compareOp .Gt) (rB2 fun i j => decide (b2 j < b2 i)) := by
  intro pins s σ H x y v u Q I rx ry h
  obtain ⟨i, j, rfl, rfl, q⟩ := h
  cases rx; cases ry
  exact PyProof.Rows.gt_bool ⟨.bl _, H, I, rfl, q⟩
theorem lex_at (ns ms : List Int) : ∀ (k i : Nat), k = min ns.length ms.length - i → i ≤ min ns.length ms.length →
    Ob.lexAt (fun j => decide (ns.getD j 0 = ms.getD j 0)) (fun j => decide (ms.getD j 0 < ns.getD j 0)) (decide (ns.length > ms.length)) i k = HT.lexLt (ms.drop i) (ns.drop i)
  | 0, i, hk, hi => by
    rw [Ob.lexAt_zero]
    by_cases h : ms.length ≤ ns.length
    · have e : i = ms.length := by omega
      subst e
      rw [List.drop_length]
      cases q : ns.drop ms.length with
      | nil =>
        have := congrArg List.length q
        rw [List.length_drop, List.length_nil] at this
        rw [HT.lexLt_nil_nil]
        exact decide_eq_false (by omega)
      | cons a r =>
        have := congrArg List.length q
        rw [List.length_drop, List.length_cons] at this
        rw [HT.lexLt_nil_cons]
        exact decide_eq_true (by omega)
    · have e : i = ns.length := by omega
      subst e
      rw [List.drop_length]
      cases q : ms.drop ns.length with
      | nil =>
        rw [HT.lexLt_nil_nil]
        exact decide_eq_false (by omega)
      | cons a r =>
        rw [HT.lexLt_cons_nil]
        exact decide_eq_false (by omega)
  | k + 1, i, hk, hi => by
    have h1 : i < ns.length := by omega
    have h2 : i < ms.length := by omega
    rw [Ob.lexAt_succ, lex_at ns ms k (i + 1) (by omega) (by omega)]
    have d1 : ns.drop i = ns[i] :: ns.drop (i + 1) := List.drop_eq_getElem_cons h1
    have d2 : ms.drop i = ms[i] :: ms.drop (i + 1) := List.drop_eq_getElem_cons h2
    have g1 : ns.getD i 0 = ns[i] := by simp [List.getD, h1]
    have g2 : ms.getD i 0 = ms[i] := by simp [List.getD, h2]
    rw [d1, d2, HT.lexLt_cons]
    simp only [g1, g2, decide_eq_true_eq]
    by_cases h : ns[i] = ms[i]
    · rw [if_pos h, if_pos h.symm]
    · rw [if_neg h, if_neg (fun z => h z.symm)]
def rGtT (K : PySem.W.Frag) : R2 := fun x y H Q => ∃ (a b : Addr) (ns ms : List Int), x = .ref a ∧ y = .ref b ∧ SqT K H a (ns.map V.int) ∧ SqT K H b (ms.map V.int) ∧ Q (.bl (HT.lexLt ms ns)) H
theorem op_gtT {X : Cx} (hu : X.A.units < cLine) : OpR X (compareOp .Gt) (rGtT X.K) := by
  intro pins s σ H x y v u Q I rx ry h
  obtain ⟨a, b, ns, ms, rfl, rfl, ha, hb, q⟩ := h
  cases rx
  cases ry
  obtain ⟨its, r1, p1, _⟩ := I.tuple ha
  obtain ⟨its2, r2, p2, _⟩ := I.tuple hb
  have i1 : IntsAre its ns := Vals.ints r1
  have i2 : IntsAre its2 ms := Vals.ints r2
  have e1 : its.toArray.size = ns.length := by rw [List.size_toArray]; exact i1.length
  have e2 : its2.toArray.size = ms.length := by rw [List.size_toArray]; exact i2.length
  have at1 : ∀ j (h1 : j < its.toArray.size), ∃ t, its.toArray[j] = .int (ns.getD j 0) t := fun j h1 => PyProof.Rows.IntsAre.int_at i1 _ _ (by simp at h1; simp [h1])
  have at2 : ∀ j (h1 : j < its2.toArray.size), ∃ t, its2.toArray[j] = .int (ms.getD j 0) t := fun j h1 => PyProof.Rows.IntsAre.int_at i2 _ _ (by simp at h1; simp [h1])
  have R := Ob.RcOp.tuples_gt (A := X.A) (s := s) (e := fun j => decide (ns.getD j 0 = ms.getD j 0)) (r := fun j => decide (ms.getD j 0 < ns.getD j 0)) p1 p2 hu (fun j h1 h2 => by
    obtain ⟨t, et⟩ := at1 j h1
    obtain ⟨t', et'⟩ := at2 j h2
    rw [et, et']
    have z : (ns.getD j 0 == ms.getD j 0) = decide (ns.getD j 0 = ms.getD j 0) := by
      by_cases q : ns.getD j 0 = ms.getD j 0
      · rw [decide_eq_true q]; exact beq_iff_eq.mpr q
      · rw [decide_eq_false q]; exact beq_eq_false_iff_ne.mpr q
    rw [← z]
    exact SeqAt.EqAt.int_int _ _ _ _) (fun j h1 h2 _ => by
    obtain ⟨t, et⟩ := at1 j h1
    obtain ⟨t', et'⟩ := at2 j h2
    rw [et, et']
    exact Ob.RcOp.gt_int _ _ _ _)
  rw [e1, e2, lex_at ns ms _ 0 (by omega) (by omega)] at R
  have z : wpAny (model X.prog X.w) X.A (compareOp .Gt (.ref a) (.ref b)) (EP X pins σ Q) X.xe s := R X.prog X.w X.xe (EP X pins σ Q) ⟨.bl _, H, I, rfl, q⟩
  exact z
def rLtA (K : PySem.W.Frag) : R2 := fun x y H Q => (rI0 fun i j => .bl (decide (i < j))) x y H Q ∨ (rB2 (fun i j => decide (b2 i < b2 j)) x y H Q ∨ ((fun x y H Q => ∃ i j, x = V.str i ∧ y = V.str j ∧ Q (.bl (decide (i.cps.toList < j.cps.toList))) H) x y H Q ∨ rLtT K x y H Q))
theorem op_ltA {X : Cx} (hu : X.A.units < cLine) : OpR X (compareOp .Lt) (rLtA X.K) := op_lt.or (op_ltB.or (op_lt_str.or (op_ltT hu)))
theorem ro_lt {K : PySem.W.Frag} : RO K (rLtA K) dLt := by
  intro x y z hz v w C H Q e hv hw q
  unfold dLt at hz
  split at hz
  · cases hz; cases hv; cases hw
    exact .inl ⟨_, _, rfl, rfl, q.1 _ (.bl _)⟩
  · cases hz; cases hv; cases hw
    exact .inr (.inl ⟨_, _, rfl, rfl, q.1 _ (.bl _)⟩)
  · cases hz; cases hv; cases hw
    exact .inr (.inr (.inl ⟨_, _, rfl, rfl, q.1 _ (.bl _)⟩))
  · split at hz
    · rename_i h1 h2
      cases hz
      have e1 := dInts_eq h1
      have e2 := dInts_eq h2
      subst e1 e2
      cases hv with
      | tup a1 nd_a1 a2 =>
        cases hw with
        | tup b1 nd_b1 b2 =>
          have f1 := dpa_ints a2
          have f2 := dpa_ints b2
          subst f1 f2
          exact .inr (.inr (.inr ⟨_, _, _, _, rfl, rfl, ex_t e a1, ex_t e b1, q.1 _ (.bl _)⟩))
    · cases hz
  · cases hz
def dGt : D → D → Option D
  | .int i, .int j => some (.bool (decide (j < i)))
  | .bool i, .bool j => some (.bool (decide (b2 j < b2 i)))
  | .str i, .str j => some (.bool (decide (j.cps.toList < i.cps.toList)))
  | .tuple xs, .tuple ys => match dInts xs, dInts ys with
    | some ns, some ms => some (.bool (HT.lexLt ms ns))
    | _, _ => none
  | _, _ => none
def rGtA (K : PySem.W.Frag) : R2 := fun x y H Q => (rI0 fun i j => .bl (decide (j < i))) x y H Q ∨ (rB2 (fun i j => decide (b2 j < b2 i)) x y H Q ∨ ((fun x y H Q => ∃ i j, x = V.str i ∧ y = V.str j ∧ Q (.bl (decide (j.cps.toList < i.cps.toList))) H) x y H Q ∨ rGtT K x y H Q))
theorem op_gtA {X : Cx} (hu : X.A.units < cLine) : OpR X (compareOp .Gt) (rGtA X.K) := op_gt.or (op_gtB.or (op_gt_str.or (op_gtT hu)))
theorem ro_gt {K : PySem.W.Frag} : RO K (rGtA K) dGt := by
  intro x y z hz v w C H Q e hv hw q
  unfold dGt at hz
  split at hz
  · cases hz; cases hv; cases hw
    exact .inl ⟨_, _, rfl, rfl, q.1 _ (.bl _)⟩
  · cases hz; cases hv; cases hw
    exact .inr (.inl ⟨_, _, rfl, rfl, q.1 _ (.bl _)⟩)
  · cases hz; cases hv; cases hw
    exact .inr (.inr (.inl ⟨_, _, rfl, rfl, q.1 _ (.bl _)⟩))
  · split at hz
    · rename_i h1 h2
      cases hz
      have e1 := dInts_eq h1
      have e2 := dInts_eq h2
      subst e1 e2
      cases hv with
      | tup a1 nd_a1 a2 =>
        cases hw with
        | tup b1 nd_b1 b2 =>
          have f1 := dpa_ints a2
          have f2 := dpa_ints b2
          subst f1 f2
          exact .inr (.inr (.inr ⟨_, _, _, _, rfl, rfl, ex_t e a1, ex_t e b1, q.1 _ (.bl _)⟩))
    · cases hz
  · cases hz
def dLe := dII fun i j => some (.bool (decide (i ≤ j)))
def dGe := dII fun i j => some (.bool (decide (j ≤ i)))
theorem ro_le {K : PySem.W.Frag} : RO K (rI0 fun i j => .bl (decide (i ≤ j))) dLe := ro_i0 fun i j z h C => by cases h; exact .bl _
theorem ro_ge {K : PySem.W.Frag} : RO K (rI0 fun i j => .bl (decide (j ≤ i))) dGe := ro_i0 fun i j z h C => by cases h; exact .bl _
/-! in -/
def flatD : D → Bool
  | .none => true
  | .bool _ => true
  | .int _ => true
  | .str _ => true
  | _ => false
def inD (x : D) (ds : List D) : Bool := ds.any fun y => PyData.eqv y x
theorem flat_of {K : PySem.W.Frag} {C : Hp} {v : V} {x : D} (h : Dq K C v x) (f : flatD x = true) : flatV v = true := by
  cases h <;> first | rfl | cases f
theorem flats_of {K : PySem.W.Frag} {C : Hp} : ∀ {vs : List V} {xs : List D}, DqAll K C vs xs → xs.all flatD = true → vs.all flatV = true
  | _, _, .nil, _ => rfl
  | _, _, .cons h t, f => by
    rw [List.all_cons, Bool.and_eq_true] at f ⊢
    exact ⟨flat_of h f.1, flats_of t f.2⟩
theorem eqV_of {K : PySem.W.Frag} {C : Hp} {v w : V} {x y : D} (h : Dq K C v x) (h' : Dq K C w y) (f : flatD x = true) (f' : flatD y = true) : eqV v w = PyData.eqv x y := by
  cases h <;> cases h' <;> first | rfl | cases f | cases f'
theorem inV_of {K : PySem.W.Frag} {C : Hp} {v : V} {x : D} (h : Dq K C v x) (f : flatD x = true) : ∀ {vs : List V} {xs : List D}, DqAll K C vs xs → xs.all flatD = true → inV v vs = inD x xs
  | _, _, .nil, _ => rfl
  | _, _, .cons a t, g => by
    rw [List.all_cons, Bool.and_eq_true] at g
    unfold inV inD
    rw [List.any_cons, List.any_cons, eqV_of a h g.1 f]
    exact congrArg _ (inV_of h f t g.2)
def inStr (a b : Str) : Bool := match a.cps.toList with
  | [c] => decide (c ∈ b.cps.toList)
  | _ => !(Builtin.Str.occurrences b a 0 b.length 1).isEmpty
def dIn : D → D → Option D
  | .str a, .str b => some (.bool (inStr a b))
  | x, .list ys => if flatD x && ys.all flatD then some (.bool (inD x ys)) else none
  | x, .tuple ys => if flatD x && ys.all flatD then some (.bool (inD x ys)) else none
  | _, _ => none
def rInA (K : PySem.W.Frag) : R2 := fun x y H Q => ((fun x y H Q => ∃ (c : Nat) (z : Str), x = V.str ⟨#[c]⟩ ∧ y = V.str z ∧ Q (.bl (decide (c ∈ z.cps.toList))) H) x y H Q) ∨ (((fun x y H Q => ∃ i j, x = V.str i ∧ y = V.str j ∧ Q (.bl (!(Builtin.Str.occurrences j i 0 j.length 1).isEmpty)) H) x y H Q) ∨ rIn K false x y H Q)
theorem op_inA {X : Cx} : OpR X (compareOp .In) (rInA X.K) := op_in_sign.or (op_in_str.or op_in_seq)
theorem one_sign {a : Str} {c : Nat} (h : a.cps.toList = [c]) : a = ⟨#[c]⟩ := Str.ext' (Array.toList_inj.mp h)
theorem ro_in {K : PySem.W.Frag} : RO K (rInA K) dIn := by
  intro x y z hz v w C H Q e hv hw q
  unfold dIn at hz
  split at hz
  · cases hz; cases hv; cases hw
    rename_i a b
    unfold inStr at q
    split at q
    · rename_i c hc
      rw [one_sign hc]
      exact .inl ⟨c, b, rfl, rfl, q.1 _ (.bl _)⟩
    · exact .inr (.inl ⟨_, _, rfl, rfl, q.1 _ (.bl _)⟩)
  · split at hz
    · rename_i h
      rw [Bool.and_eq_true] at h
      cases hz
      cases hw with
      | lst h1 h2 =>
        refine .inr (.inr ⟨_, _, rfl, .inl (ex_l e h1), flat_of hv h.1, flats_of h2 h.2, ?_⟩)
        have i := inV_of hv h.1 h2 h.2
        show Q (.bl (inV v _)) H
        rw [i]
        exact q.1 _ (.bl _)
    · cases hz
  · split at hz
    · rename_i h
      rw [Bool.and_eq_true] at h
      cases hz
      cases hw with
      | tup h1 nd_h1 h2 =>
        refine .inr (.inr ⟨_, _, rfl, .inr (ex_t e h1), flat_of hv h.1, flats_of h2 h.2, ?_⟩)
        have i := inV_of hv h.1 h2 h.2
        show Q (.bl (inV v _)) H
        rw [i]
        exact q.1 _ (.bl _)
    · cases hz
  · cases hz
def dNotIn (x y : D) : Option D := match dIn x y with
  | some (.bool b) => some (.bool (!b))
  | _ => none
def rNiA (K : PySem.W.Frag) : R2 := fun x y H Q => ((fun x y H Q => ∃ (c : Nat) (z : Str), x = V.str ⟨#[c]⟩ ∧ y = V.str z ∧ Q (.bl (!decide (c ∈ z.cps.toList))) H) x y H Q) ∨ (((fun x y H Q => ∃ i j, x = V.str i ∧ y = V.str j ∧ Q (.bl (!(!(Builtin.Str.occurrences j i 0 j.length 1).isEmpty))) H) x y H Q) ∨ rIn K true x y H Q)
theorem op_niA {X : Cx} : OpR X (compareOp .NotIn) (rNiA X.K) := op_notIn_sign.or (op_notin_str.or op_notIn_seq)
theorem ro_ni {K : PySem.W.Frag} : RO K (rNiA K) dNotIn := by
  intro x y z hz v w C H Q e hv hw q
  unfold dNotIn at hz
  split at hz
  · rename_i b hb
    cases hz
    unfold dIn at hb
    split at hb
    · cases hb; cases hv; cases hw
      rename_i a b
      unfold inStr at q
      split at q
      · rename_i c hc
        rw [one_sign hc]
        exact .inl ⟨c, b, rfl, rfl, q.1 _ (.bl _)⟩
      · exact .inr (.inl ⟨_, _, rfl, rfl, q.1 _ (.bl _)⟩)
    · split at hb
      · rename_i h
        rw [Bool.and_eq_true] at h
        cases hb
        cases hw with
        | lst h1 h2 =>
          refine .inr (.inr ⟨_, _, rfl, .inl (ex_l e h1), flat_of hv h.1, flats_of h2 h.2, ?_⟩)
          have i := inV_of hv h.1 h2 h.2
          show Q (.bl (!inV v _)) H
          rw [i]
          exact q.1 _ (.bl _)
      · cases hb
    · split at hb
      · rename_i h
        rw [Bool.and_eq_true] at h
        cases hb
        cases hw with
        | tup h1 nd_h1 h2 =>
          refine .inr (.inr ⟨_, _, rfl, .inr (ex_t e h1), flat_of hv h.1, flats_of h2 h.2, ?_⟩)
          have i := inV_of hv h.1 h2 h.2
          show Q (.bl (!inV v _)) H
          rw [i]
          exact q.1 _ (.bl _)
      · cases hb
    · cases hb
  · cases hz
end DL
end Part_DLc

section Part_DLd
set_option Elab.async false
set_option linter.all false
set_option maxRecDepth 100000
set_option autoImplicit false
set_option maxHeartbeats 2000000
namespace DL
open PySem PySem.Spec PyProof.Rows L2 Evl

/-! ### a op b op' c -/
section
variable {X : Cx} {EC : ECl} {W : WX} {a b c e : Expr} {es : List Expr} {ma mb mc : M D} {mes : M (List D)} {pos p p2 : Pos}
theorem de_chain {op op' : CmpOp} {r r' : R2} {f g : D → D → Option D} (ho : OpR X (compareOp op) r) (hr : RO X.K r f) (ho' : OpR X (compareOp op') r') (hr' : RO X.K r' g) (ha : DE X EC W a ma) (hb : DE X EC W b mb) (hc : DE X EC W c mc)
    (hm : lastMarks [op, op'] [b, c] = false := by with_unfolding_all rfl) : DE X EC W (.Compare a [op, op'] [b, c] pos) (mChain f g ma mb mc) := by
  obtain ⟨ta, pa, ra⟩ := ha.ex
  obtain ⟨tb, pb, rb⟩ := hb.ex
  obtain ⟨tc, pc, rc⟩ := hc.ex
  refine ⟨_, pe_chain ho ho' pa pb pc hm, fun C0 H0 B C H σ δ Q S h => ra C0 H0 B C H σ δ _ S (RP.imp (RP.bind h) (fun x δ1 h1 v C1 H1 e1 S1 d1 => ?_) fun c d δ h => h)⟩
  refine rb C0 H0 B C1 H1 σ δ1 _ S1 (RP.imp (RP.bind h1) (fun y δ2 h2 w C2 H2 e2 S2 d2 => ?_) (PXe.mono e1))
  split at h2
  · rename_i hz
    refine hr x y _ hz v w C2 H2 _ S2.ch (dp_ex e2 _ _ d1) d2 (rs_of (C0 := C0) (H0 := H0) (B := B) (σ := σ) (δ := δ2) S2 fun u C3 H3 e3 S3 d3 => ?_)
    cases d3
    refine ⟨true, rfl, ?_⟩
    rw [if_pos rfl]
    refine rc C0 H0 B C3 H3 σ δ2 _ S3 (RP.imp (RP.bind h2) (fun z δ4 h4 w4 C4 H4 e4 S4 d4 => ?_) (PXe.mono ((e1.trans e2).trans e3)))
    obtain ⟨z', hz', q⟩ := RP.lift h4
    exact hr' y z z' hz' w w4 C4 H4 Q S4.ch (dp_ex (e3.trans e4) _ _ d2) d4 (rs_of S4 (PKe.mono (((e1.trans e2).trans e3).trans e4) _ _ q))
  · rename_i hz
    refine hr x y _ hz v w C2 H2 _ S2.ch (dp_ex e2 _ _ d1) d2 (rs_of (C0 := C0) (H0 := H0) (B := B) (σ := σ) (δ := δ2) S2 fun u C3 H3 e3 S3 d3 => ?_)
    cases d3
    refine ⟨false, rfl, ?_⟩
    rw [if_neg Bool.false_ne_true]
    exact h2 (.bl false) C3 H3 ((e1.trans e2).trans e3) S3 (.bl false)
  · exact h2.elim
theorem dt_chain {op op' : CmpOp} {r r' : R2} {f g : D → D → Option D} (ho : OpR X (compareOp op) r) (hr : RO X.K r f) (ho' : OpR X (compareOp op') r') (hr' : RO X.K r' g) (ha : DE X EC W a ma) (hb : DE X EC W b mb) (hc : DE X EC W c mc)
    (hm : lastMarks [op, op'] [b, c] = false := by with_unfolding_all rfl) : DT X EC W (.Compare a [op, op'] [b, c] pos) (mT (mChain f g ma mb mc)) := by
  obtain ⟨ta, pa, ra⟩ := ha.ex
  obtain ⟨tb, pb, rb⟩ := hb.ex
  obtain ⟨tc, pc, rc⟩ := hc.ex
  refine ⟨_, pt_chain ho ho' pa pb pc hm, fun C0 H0 B C H σ δ Q S h => ra C0 H0 B C H σ δ _ S (RP.imp (RP.bind (RP.bind h)) (fun x δ1 h1 v C1 H1 e1 S1 d1 => ?_) fun c d δ h => h)⟩
  refine rb C0 H0 B C1 H1 σ δ1 _ S1 (RP.imp (RP.bind h1) (fun y δ2 h2 w C2 H2 e2 S2 d2 => ?_) (PXe.mono e1))
  split at h2
  · rename_i hz
    refine hr x y _ hz v w C2 H2 _ S2.ch (dp_ex e2 _ _ d1) d2 (rs_of (C0 := C0) (H0 := H0) (B := B) (σ := σ) (δ := δ2) S2 fun u C3 H3 e3 S3 d3 => ?_)
    cases d3
    refine ⟨true, rfl, ?_⟩
    rw [if_pos rfl]
    refine rc C0 H0 B C3 H3 σ δ2 _ S3 (RP.imp (RP.bind h2) (fun z δ4 h4 w4 C4 H4 e4 S4 d4 => ?_) (PXe.mono ((e1.trans e2).trans e3)))
    obtain ⟨z', hz', q⟩ := RP.lift h4
    refine hr' y z z' hz' w w4 C4 H4 _ S4.ch (dp_ex (e3.trans e4) _ _ d2) d4 (rs_of (C0 := C0) (H0 := H0) (B := B) (σ := σ) (δ := δ4) S4 fun u C5 H5 e5 S5 d5 => ?_)
    split at q
    · rename_i k
      cases d5
      exact ⟨k, rfl, q C5 H5 ((((e1.trans e2).trans e3).trans e4).trans e5) S5⟩
    · exact q.elim
  · rename_i hz
    refine hr x y _ hz v w C2 H2 _ S2.ch (dp_ex e2 _ _ d1) d2 (rs_of (C0 := C0) (H0 := H0) (B := B) (σ := σ) (δ := δ2) S2 fun u C3 H3 e3 S3 d3 => ?_)
    cases d3
    refine ⟨false, rfl, ?_⟩
    rw [if_neg Bool.false_ne_true]
    exact ⟨false, rfl, h2 C3 H3 ((e1.trans e2).trans e3) S3⟩
  · exact h2.elim

/-! ### xs[i], xs[a:b] -/
def dIx : D → D → Option D
  | .list xs, .int i => atI xs i
  | .tuple xs, .int i => atI xs i
  | .str s, .int i => if s.length ≤ LINE then (atI s.cps.toList i).map fun c => .str ⟨#[c]⟩ else none
  | _, _ => none
theorem dpa_atI {K : PySem.W.Frag} {C : Hp} {vs : List V} {ds : List D} {i : Int} {d : D} (h : DqAll K C vs ds) (e : atI ds i = some d) : ∃ v, atI vs i = some v ∧ Dq K C v d := by
  unfold atI at e ⊢
  rw [dpa_len h]
  cases q : ixN ds.length i with
  | none => rw [q] at e; cases e
  | some j =>
    rw [q] at e
    exact dpa_get h e
theorem ro_ix {K : PySem.W.Frag} : RO K (rIx K) dIx := by
  intro x y z hz v w C H Q e hv hw q
  unfold dIx at hz
  split at hz
  · cases hw
    cases hv with
    | lst h1 h2 =>
      obtain ⟨u, hu, d⟩ := dpa_atI h2 hz
      exact .inl ⟨_, _, _, u, rfl, rfl, ex_l e h1, hu, q.1 _ d⟩
  · cases hw
    cases hv with
    | tup h1 nd_h1 h2 =>
      obtain ⟨u, hu, d⟩ := dpa_atI h2 hz
      exact .inr (.inl ⟨_, _, _, u, rfl, rfl, ex_t e h1, hu, q.1 _ d⟩)
  · split at hz
    · rename_i s i hs
      cases hw
      cases hv
      cases k : atI s.cps.toList i with
      | none => rw [k] at hz; cases hz
      | some c =>
        rw [k] at hz
        cases hz
        exact .inr (.inr ⟨_, _, c, rfl, rfl, by rw [line_eq]; exact hs, k, q.1 _ (.str _)⟩)
    · cases hz
  · cases hz
theorem de_ix (ha : DE X EC W a ma) (hb : DE X EC W b mb) (hs : PlainIx b := by exact fun _ _ => rfl) : DE X EC W (.Subscript a b pos) (mOp dIx ma mb) := by
  obtain ⟨ta, pa, ra⟩ := ha.ex
  obtain ⟨tb, pb, rb⟩ := hb.ex
  refine ⟨_, pe_ix ix_seq pa pb hs, fun C0 H0 B C H σ δ Q S h => ra C0 H0 B C H σ δ _ S (RP.imp (RP.bind h) (fun x δ1 h1 v C1 H1 e1 S1 d1 => ?_) fun c d δ h => h)⟩
  refine rb C0 H0 B C1 H1 σ δ1 _ S1 (RP.imp (RP.bind h1) (fun y δ2 h2 w C2 H2 e2 S2 d2 => ?_) (PXe.mono e1))
  obtain ⟨z, hz, q⟩ := RP.lift h2
  exact ro_ix x y z hz v w C2 H2 Q S2.ch (dp_ex e2 _ _ d1) d2 (rs_of S2 (PKe.mono (e1.trans e2) _ _ q))
structure DO (X : Cx) (EC : ECl) (W : WX) (e : Option Expr) (m : M (Option Int)) : Prop where
  ex : ∃ te, PO X e te ∧ ∀ C0 H0 B C H σ δ Q, SR X.K C0 H0 B C H σ δ → RP (m δ) (fun o δ => ∀ C2 H2, Ex C C2 → SR X.K C0 H0 B C2 H2 σ δ → Q o H2) (PXe X.K EC W C0 H0 B C σ) → te σ H Q
def mNoPart : M (Option Int) := fun δ => .ok none δ
def mPart (a : M D) : M (Option Int) := fun δ => (a δ).bind fun x δ => match x with
  | .int i => .ok (some i) δ
  | _ => .no
theorem do_none : DO X EC W none mNoPart := ⟨_, po_none, fun C0 H0 B C H σ δ Q S h => h C H (Ex.refl C) S⟩
theorem do_some (h : DE X EC W e ma) : DO X EC W (some e) (mPart ma) := by
  obtain ⟨te, pe, re⟩ := h.ex
  refine ⟨_, po_some pe, fun C0 H0 B C H σ δ Q S h => re C0 H0 B C H σ δ _ S (RP.imp (RP.bind h) (fun x δ1 h1 v C1 H1 e1 S1 d1 => ?_) fun c d δ h => h)⟩
  split at h1
  · rename_i i
    cases d1
    exact ⟨i, rfl, h1 C1 H1 e1 S1⟩
  · exact h1.elim
def cutL {α : Type} (xs : List α) (lo hi : Option Int) : List α := (xs.drop (HT.sIx xs.length 0 lo)).take (HT.sIx xs.length xs.length hi - HT.sIx xs.length 0 lo)
def dSl (x : D) (lo hi : Option Int) : Option D := match x with
  | .list xs => some (.list (cutL xs lo hi))
  | .tuple xs => some (.tuple (cutL xs lo hi))
  | .str s => if s.length ≤ LINE then some (.str (cutS s lo hi)) else none
  | _ => none
def mSl (a : M D) (lo hi : M (Option Int)) : M D := fun δ => (a δ).bind fun x δ => (lo δ).bind fun l δ => (hi δ).bind fun u δ => R.lift (dSl x l u) δ
def rSlA3 (K : PySem.W.Frag) : V → Option Int → Option Int → Hp → VK → Prop := fun x lo hi H Q => rSlL K x lo hi H Q ∨ (rSlF K x lo hi H Q ∨ rSlS x lo hi H Q)
theorem sl_A {X : Cx} : SlR X (rSlA3 X.K) := sl_list.or (sl_tupF.or sl_str)
theorem dpa_cut {K : PySem.W.Frag} {C : Hp} {vs : List V} {ds : List D} (lo hi : Option Int) (h : DqAll K C vs ds) : DqAll K C (cutV vs lo hi) (cutL ds lo hi) := by
  unfold cutV cutL
  rw [dpa_len h]
  exact dpa_take _ (dpa_drop _ h)
theorem rs_sl {K : PySem.W.Frag} {x z : D} {lo hi : Option Int} (hz : dSl x lo hi = some z) {v : V} {C H : Hp} {Q : VK} (e : Ex C H) (hv : Dq K C v x) (q : Rs K C H z Q) : rSlA3 K v lo hi H Q := by
  unfold dSl at hz
  split at hz
  · cases hz
    cases hv with
    | lst h1 h2 =>
      exact .inl ⟨_, _, rfl, ex_l e h1, fun p hp => q.2 p _ hp (.lst (SqL.of upd_same) (dpAll_ex (Ex.new (free_of e hp)) _ _ (dpa_cut lo hi h2)))⟩
  · cases hz
    cases hv with
    | tup h1 nd_h1 h2 =>
      refine .inr (.inl ⟨_, _, rfl, ex_t e h1, fun hw => ?_, fun _ p o hp ho => q.2 p _ hp (.tup sqt_new (.new ho) (dpAll_ex (Ex.new (free_of e hp)) _ _ (dpa_cut lo hi h2)))⟩)
      have l := dpa_len h2
      rename_i xs a ys
      have e1 : cutL xs lo hi = xs := by
        unfold cutL
        rw [← l, hw.1, hw.2, List.drop_zero, Nat.sub_zero, l, List.take_length]
      rw [e1] at q
      exact q.1 _ (.tup h1 nd_h1 h2)
  · split at hz
    · rename_i hs
      cases hz
      cases hv
      exact .inr (.inr ⟨_, rfl, by rw [line_eq]; exact hs, q.1 _ (.str _)⟩)
    · cases hz
  · cases hz
theorem de_sl {lo hi : Option Expr} {ml mh : M (Option Int)} (ha : DE X EC W a ma) (hl : DO X EC W lo ml) (hh : DO X EC W hi mh) : DE X EC W (.Subscript a (.Slice lo hi none p2) pos) (mSl ma ml mh) := by
  obtain ⟨ta, pa, ra⟩ := ha.ex
  obtain ⟨tb, pb, rb⟩ := hl.ex
  obtain ⟨tc, pc, rc⟩ := hh.ex
  refine ⟨_, pe_slice sl_A pa pb pc, fun C0 H0 B C H σ δ Q S h => ra C0 H0 B C H σ δ _ S (RP.imp (RP.bind h) (fun x δ1 h1 v C1 H1 e1 S1 d1 => ?_) fun c d δ h => h)⟩
  refine rb C0 H0 B C1 H1 σ δ1 _ S1 (RP.imp (RP.bind h1) (fun l δ2 h2 C2 H2 e2 S2 => ?_) (PXe.mono e1))
  refine rc C0 H0 B C2 H2 σ δ2 _ S2 (RP.imp (RP.bind h2) (fun u δ3 h3 C3 H3 e3 S3 => ?_) (PXe.mono (e1.trans e2)))
  obtain ⟨z, hz, q⟩ := RP.lift h3
  exact rs_sl hz S3.ch (dp_ex (e2.trans e3) _ _ d1) (rs_of S3 (PKe.mono ((e1.trans e2).trans e3) _ _ q))

/-! ### constants of the module -/
theorem de_glob {x : Str} {v : V} {u : Value} {d : D} (hg : Gl X x) (hm : X.mg x = some u) (r : RelV v u) (hd : ∀ C, Dq X.K C v d) (hdb : (x == ("__debug__" : Str)) = false := by decide) : DE X EC W (.Name x pos) (mC d) := de_con (pe_glob hg hm r hdb) hd
/-- a tuple of the module -/
def KTup (K : PySem.W.Frag) (a : Addr) (ds : List D) : Prop := ∃ (o : Obj) (its : Array Value) (n : Nat) (xs : List V), K.lookup a = some o ∧ o.cls = .type "tuple" ∧ o.data = .seq its n ∧ its.size ≤ sizeLine ∧ Vals xs its.toList ∧ o.dict = none ∧ ∀ C, DqAll K C xs ds
theorem KTup.dq {K : PySem.W.Frag} {a : Addr} {ds : List D} (h : KTup K a ds) (C : Hp) : Dq K C (.ref a) (.tuple ds) := by
  obtain ⟨o, its, n, xs, h1, h2, h3, h4, h5, hd, h6⟩ := h
  exact .tup (.inr ⟨o, its, n, h1, h2, h3, h4, h5⟩) (.inr ⟨o, h1, hd⟩) (h6 C)

/-! ### isinstance -/
def tyD (x : D) : String := match x with | .none => "NoneType" | .bool _ => "bool" | .int _ => "int" | .str _ => "str" | .list _ => "list" | .tuple _ => "tuple" | .dict _ => "dict"
theorem ty_of {K : PySem.W.Frag} {C H : Hp} {v : V} {x : D} (e : Ex C H) (h : Dq K C v x) : TyX K H v (.type (tyD x)) := by
  cases h with
  | non => exact .base .non
  | bl b => exact .base (.bl b)
  | int i => exact .base (.int i)
  | str s => exact .base (.str s)
  | lst h1 h2 =>
    rcases ex_l e h1 with (h | ⟨o, h⟩) | ⟨o, its, n, h1, h2, _⟩
    · exact .base (.lst h)
    · exact .base (.frz h)
    · exact .kList h1 h2
  | tup h1 nd_h1 h2 =>
    rcases ex_t e h1 with (h | ⟨o, h⟩) | ⟨o, its, n, h1, h2, _⟩
    · exact .base (.tup h)
    · exact .fTuple h
    · exact .kTuple h1 h2
  | dct h1 h2 h3 h4 => exact .base (.dK (e _ _ h1))
/-- a value of the built-in types is one of T: bool is int -/
def isT (T t : String) : Bool := t == T || (T == "int" && t == "bool")
def isD (T : String) (x : D) : Bool := isT T (tyD x)
/-- T one of the types that are asked for -/
def TyKnown (T : String) : Prop := T = "int" ∨ T = "bool" ∨ T = "str" ∨ T = "list" ∨ T = "tuple"
theorem kitT_of {T t : String} (h : TyKnown T) (ht : t = "NoneType" ∨ t = "dict" ∨ TyKnown t) : kitB t T = some (isT T t) := by
  rcases h with rfl | rfl | rfl | rfl | rfl <;> rcases ht with rfl | rfl | rfl | rfl | rfl | rfl | rfl <;> decide +kernel
theorem kitB_of {T : String} (h : TyKnown T) (x : D) : kitB (tyD x) T = some (isD T x) := by
  refine kitT_of h ?_
  cases x with
  | none => exact .inl rfl
  | bool b => exact .inr (.inr (.inr (.inl rfl)))
  | int i => exact .inr (.inr (.inl rfl))
  | str s => exact .inr (.inr (.inr (.inr (.inl rfl))))
  | list xs => exact .inr (.inr (.inr (.inr (.inr (.inl rfl)))))
  | tuple xs => exact .inr (.inr (.inr (.inr (.inr (.inr rfl)))))
  | dict k => exact .inr (.inl rfl)
def mIs (T : String) (a : M D) : M D := fun δ => (a δ).bind fun x δ => .ok (.bool (isD T x)) δ
theorem de_isi {T : String} {x : Str} (hT : TyKnown T) (ha : DE X EC W a ma) (hg : Gl X "isinstance") (hm : X.mg "isinstance" = none) (hgT : Gl X x) (hmT : X.mg x = none) (hbT : bootBuiltins x = some (.type T)) (hnx : x ≠ "__name__" := by decide) (hdx : (x == ("__debug__" : Str)) = false := by decide)
    {pT : Pos} (he : starEach (a :: [.Name x pT]) X.env = (false, eval a X.env) :: starEach [.Name x pT] X.env := by rfl)
    (he2 : starEach (.Name x pT :: []) X.env = (false, eval (.Name x pT) X.env) :: starEach [] X.env := by rfl) (hpl : (backTo pos (starEach [Expr.Name x pT] X.env)).any (·.1) = false := by rfl) :
    DE X EC W (.Call (.Name "isinstance" p) [a, .Name x pT] [] pos) (mIs T ma) := by
  obtain ⟨ta, pa, ra⟩ := ha.ex
  refine ⟨_, pe_callB call_isi hg hm (by decide +kernel) (pa_cons pa (pa_cons (pe_bltn (v := .ty T) hgT hmT hbT rfl hnx hdx) pa_nil he2) he) (by decide) (by decide) he hpl, fun C0 H0 B C H σ δ Q S h => ra C0 H0 B C H σ δ _ S (RP.imp (RP.bind h) (fun x δ1 h1 v C1 H1 e1 S1 d1 => ?_) fun c d δ h => h)⟩
  have k := kitB_of hT x
  exact ⟨v, .ty T, .type (tyD x), .type T, isD T x, rfl, .ty T, ty_of S1.ch d1, kit_ty k, h1 _ C1 H1 e1 S1 (.bl _)⟩
def mIs2 (T U : String) (a : M D) : M D := fun δ => (a δ).bind fun x δ => .ok (.bool (isD T x || isD U x)) δ
theorem de_isi2 {T U : String} {x y : Str} (hT : TyKnown T) (hU : TyKnown U) (ha : DE X EC W a ma) (hg : Gl X "isinstance") (hm : X.mg "isinstance" = none) (hgT : Gl X x) (hmT : X.mg x = none) (hbT : bootBuiltins x = some (.type T)) (hgU : Gl X y) (hmU : X.mg y = none) (hbU : bootBuiltins y = some (.type U))
    (hnx : x ≠ "__name__" := by decide) (hdx : (x == ("__debug__" : Str)) = false := by decide) (hny : y ≠ "__name__" := by decide) (hdy : (y == ("__debug__" : Str)) = false := by decide)
    {pT pU pt : Pos} {k1} (he : starEach (a :: [.Tuple [.Name x pT, .Name y pU] k1 pt]) X.env = (false, eval a X.env) :: starEach [.Tuple [.Name x pT, .Name y pU] k1 pt] X.env := by rfl)
    (he2 : starEach (.Tuple [.Name x pT, .Name y pU] k1 pt :: []) X.env = (false, eval (.Tuple [.Name x pT, .Name y pU] k1 pt) X.env) :: starEach [] X.env := by rfl)
    (he3 : starEach (.Name x pT :: [.Name y pU]) X.env = (false, eval (.Name x pT) X.env) :: starEach [.Name y pU] X.env := by rfl)
    (he4 : starEach (.Name y pU :: []) X.env = (false, eval (.Name y pU) X.env) :: starEach [] X.env := by rfl)
    (hpl : (backTo pos (starEach [Expr.Tuple [.Name x pT, .Name y pU] k1 pt] X.env)).any (·.1) = false := by rfl) :
    DE X EC W (.Call (.Name "isinstance" p) [a, .Tuple [.Name x pT, .Name y pU] k1 pt] [] pos) (mIs2 T U ma) := by
  obtain ⟨ta, pa, ra⟩ := ha.ex
  refine ⟨_, pe_callB call_isiT hg hm (by decide +kernel) (pa_cons pa (pa_cons (pe_tup (pa_cons (pe_bltn (v := .ty T) hgT hmT hbT rfl hnx hdx) (pa_cons (pe_bltn (v := .ty U) hgU hmU hbU rfl hny hdy) pa_nil he4) he3)) pa_nil he2) he) (by decide) (by decide) he hpl, fun C0 H0 B C H σ δ Q S h => ra C0 H0 B C H σ δ _ S (RP.imp (RP.bind h) (fun x δ1 h1 v C1 H1 e1 S1 d1 => ?_) fun c d δ h => h)⟩
  have k := kitB_of hT x
  have k' := kitB_of hU x
  refine ⟨by show 2 ≤ sizeLine; decide, fun tp htp => ?_⟩
  have S2 := S1.new (o := .tup [.ty T, .ty U]) htp
  refine ⟨v, tp, [.ty T, .ty U], .type (tyD x), [.type T, .type U], isD T x || isD U x, rfl, upd_same, .cons (.ty T) (.cons (.ty U) .nil), ty_of (S1.ch.trans (Ex.new htp)) d1, ?_, h1 _ _ _ (e1.trans (Ex.new (free_of S1.ch htp))) S2 (.bl _)⟩
  refine kitAny_cons (kit_ty k) (fun hb => ?_) (fun hb => by rw [hb]; rfl)
  rw [hb, Bool.false_or]
  exact kitAny_cons (kit_ty k') (fun hb' => by rw [hb']; exact kitAny_nil) fun hb' => hb'
end

/-! ### built-ins -/
section
variable {K : PySem.W.Frag}
def rLenA (K : PySem.W.Frag) : List V → Hp → VK → Prop := fun xs H Q => ∃ x n, xs = [x] ∧ LenV K x H n ∧ Q (.int n) H
def dLen : List D → Option D
  | [.str s] => if s.length ≤ LINE then some (.int s.length) else none
  | [.list xs] => some (.int xs.length)
  | [.tuple xs] => some (.int xs.length)
  | _ => none
theorem rc_len : RCf K (rLenA K) dLen := by
  intro xs z hz vs C H Q e hv q
  unfold dLen at hz
  split at hz
  · split at hz
    · rename_i hs
      cases hz
      cases hv with
      | cons h t =>
        cases t
        cases h
        exact ⟨_, _, rfl, ⟨by rw [line_eq]; exact hs, rfl⟩, q.1 _ (.int _)⟩
    · cases hz
  · cases hz
    cases hv with
    | cons h t =>
      cases t
      cases h with
      | lst h1 h2 =>
        refine ⟨_, _, rfl, .inl ⟨_, ex_l e h1, rfl⟩, ?_⟩
        rw [dpa_len h2]
        exact q.1 _ (.int _)
  · cases hz
    cases hv with
    | cons h t =>
      cases t
      cases h with
      | tup h1 nd_h1 h2 =>
        refine ⟨_, _, rfl, .inr ⟨_, ex_t e h1, rfl⟩, ?_⟩
        rw [dpa_len h2]
        exact q.1 _ (.int _)
  · cases hz
def rAbsA : List V → Hp → VK → Prop := fun xs H Q => ∃ i, xs = [.int i] ∧ Q (.int (if i < 0 then -i else i)) H
def dAbs : List D → Option D
  | [.int i] => some (.int (if i < 0 then -i else i))
  | _ => none
theorem rc_abs : RCf K rAbsA dAbs := by
  intro xs z hz vs C H Q e hv q
  unfold dAbs at hz
  split at hz
  · cases hz
    cases hv with
    | cons h t =>
      cases t
      cases h
      exact ⟨_, rfl, q.1 _ (.int _)⟩
  · cases hz
def rIntA : List V → Hp → VK → Prop := fun xs H Q => ((∃ i, xs = [.int i] ∧ Q (.int i) H) ∨ ∃ k, xs = [.bl k] ∧ Q (.int (if k then 1 else 0)) H) ∨ ∃ a n, xs = [.str a] ∧ PySem.intText? a = some n ∧ a.length ≤ 640 ∧ Q (.int n) H
theorem call_intA {X : Cx} : CallR X (.type "int") rIntA := call_int1.or call_int_str
def dInt : List D → Option D
  | [.int i] => some (.int i)
  | [.bool k] => some (.int (if k then 1 else 0))
  | [.str a] => if a.length ≤ 640 then (PySem.intText? a).map .int else none
  | _ => none
theorem rc_int : RCf K rIntA dInt := by
  intro xs z hz vs C H Q e hv q
  unfold dInt at hz
  split at hz
  · cases hz
    cases hv with
    | cons h t =>
      cases t
      cases h
      exact .inl (.inl ⟨_, rfl, q.1 _ (.int _)⟩)
  · cases hz
    cases hv with
    | cons h t =>
      cases t
      cases h
      exact .inl (.inr ⟨_, rfl, q.1 _ (.int _)⟩)
  · split at hz
    · rename_i a hl
      cases hv with
      | cons h t =>
        cases t
        cases h
        cases k : PySem.intText? a with
        | none => rw [k] at hz; cases hz
        | some n =>
          rw [k] at hz
          cases hz
          exact .inr ⟨_, n, rfl, k, hl, q.1 _ (.int _)⟩
    · cases hz
  · cases hz
def rStrA : List V → Hp → VK → Prop := fun xs H Q => ∃ i, xs = [.int i] ∧ i.natAbs.log2 < 1920 ∧ Q (.str (toString i)) H
def dStr : List D → Option D
  | [.int i] => if i.natAbs.log2 < 1920 then some (.str (toString i)) else none
  | _ => none
theorem rc_str : RCf K rStrA dStr := by
  intro xs z hz vs C H Q e hv q
  unfold dStr at hz
  split at hz
  · split at hz
    · rename_i hl
      cases hz
      cases hv with
      | cons h t =>
        cases t
        cases h
        exact ⟨_, rfl, hl, q.1 _ (.str _)⟩
    · cases hz
  · cases hz
def rM2 (g : Int → Int → Int) : List V → Hp → VK → Prop := fun xs H Q => ∃ i j, xs = [.int i, .int j] ∧ Q (.int (g i j)) H
def dM2 (g : Int → Int → Int) : List D → Option D
  | [.int i, .int j] => some (.int (g i j))
  | _ => none
theorem rc_m2 {g : Int → Int → Int} : RCf K (rM2 g) (dM2 g) := by
  intro xs z hz vs C H Q e hv q
  unfold dM2 at hz
  split at hz
  · cases hz
    cases hv with
    | cons h t =>
      cases h
      cases t with
      | cons h t =>
        cases t
        cases h
        exact ⟨_, _, rfl, q.1 _ (.int _)⟩
  · cases hz
theorem call_maxA {X : Cx} (hc : X.calm = true) : CallR X (.builtin "max") (rM2 fun i j => if j > i then j else i) := call_max2 hc
theorem call_minA {X : Cx} (hc : X.calm = true) : CallR X (.builtin "min") (rM2 fun i j => if j < i then j else i) := call_min2 hc
def dMax := dM2 fun i j => if j > i then j else i
def dMin := dM2 fun i j => if j < i then j else i
def dAll : List D → Option D
  | [.list xs] => (dBls xs).map fun bs => .bool (bs.all id)
  | _ => none
def dAny : List D → Option D
  | [.list xs] => (dBls xs).map fun bs => .bool (bs.any id)
  | _ => none
theorem rc_all : RCf K (rAll K) dAll := by
  intro xs z hz vs C H Q e hv q
  unfold dAll at hz
  split at hz
  · rename_i ys
    cases k : dBls ys with
    | none => rw [k] at hz; cases hz
    | some bs =>
      rw [k] at hz
      cases hz
      have e1 := dBls_eq k
      subst e1
      cases hv with
      | cons h t =>
        cases t
        cases h with
        | lst h1 h2 =>
          have e2 := dpa_bls h2
          subst e2
          exact ⟨_, bs, rfl, ex_l e h1, q.1 _ (.bl _)⟩
  · cases hz
theorem rc_any : RCf K (rAny K) dAny := by
  intro xs z hz vs C H Q e hv q
  unfold dAny at hz
  split at hz
  · rename_i ys
    cases k : dBls ys with
    | none => rw [k] at hz; cases hz
    | some bs =>
      rw [k] at hz
      cases hz
      have e1 := dBls_eq k
      subst e1
      cases hv with
      | cons h t =>
        cases t
        cases h with
        | lst h1 h2 =>
          have e2 := dpa_bls h2
          subst e2
          exact ⟨_, bs, rfl, ex_l e h1, q.1 _ (.bl _)⟩
  · cases hz
def dSum : List D → Option D
  | [.list xs] => (dInts xs).map fun ns => .int ns.sum
  | _ => none
theorem rc_sum : RCf K (rSum K) dSum := by
  intro xs z hz vs C H Q e hv q
  unfold dSum at hz
  split at hz
  · rename_i ys
    cases k : dInts ys with
    | none => rw [k] at hz; cases hz
    | some bs =>
      rw [k] at hz
      cases hz
      have e1 := dInts_eq k
      subst e1
      cases hv with
      | cons h t =>
        cases t
        cases h with
        | lst h1 h2 =>
          have e2 := dpa_ints h2
          subst e2
          exact ⟨_, bs, rfl, ex_l e h1, q.1 _ (.int _)⟩
  · cases hz
def rTupA0 (K : PySem.W.Frag) : List V → Hp → VK → Prop := fun xs H Q => ∃ p ys, xs = [.ref p] ∧ ((SqL K H p ys ∧ ∀ l, H l = none → Q (.ref l) (upd H l (.tup ys))) ∨ (SqT K H p ys ∧ Q (.ref p) H))
def dTuple : List D → Option D
  | [.list xs] => some (.tuple xs)
  | [.tuple xs] => some (.tuple xs)
  | _ => none
theorem rc_tuple : RCf K (rTupF K) dTuple := by
  intro xs z hz vs C H Q e hv q
  unfold dTuple at hz
  split at hz
  · cases hz
    cases hv with
    | cons h t =>
      cases t
      cases h with
      | lst h1 h2 => exact ⟨_, _, rfl, .inl ⟨ex_l e h1, fun p o hp ho => q.2 p _ hp (.tup sqt_new (.new ho) (dpAll_ex (Ex.new (free_of e hp)) _ _ h2))⟩⟩
  · cases hz
    cases hv with
    | cons h t =>
      cases t
      cases h with
      | tup h1 nd_h1 h2 => exact ⟨_, _, rfl, .inr ⟨ex_t e h1, q.1 _ (.tup h1 nd_h1 h2)⟩⟩
  · cases hz
def rListA (K : PySem.W.Frag) : List V → Hp → VK → Prop := fun xs H Q => ∃ p ys, xs = [.ref p] ∧ (SqL K H p ys ∨ SqT K H p ys) ∧ ∀ l, H l = none → Q (.ref l) (upd H l (.lst ys))
def dList : List D → Option D
  | [.list xs] => some (.list xs)
  | [.tuple xs] => some (.list xs)
  | _ => none
theorem rc_list : RCf K (rListA K) dList := by
  intro xs z hz vs C H Q e hv q
  unfold dList at hz
  split at hz
  · cases hz
    cases hv with
    | cons h t =>
      cases t
      cases h with
      | lst h1 h2 => exact ⟨_, _, rfl, .inl (ex_l e h1), fun p hp => q.2 p _ hp (.lst (SqL.of upd_same) (dpAll_ex (Ex.new (free_of e hp)) _ _ h2))⟩
  · cases hz
    cases hv with
    | cons h t =>
      cases t
      cases h with
      | tup h1 nd_h1 h2 => exact ⟨_, _, rfl, .inr (ex_t e h1), fun p hp => q.2 p _ hp (.lst (SqL.of upd_same) (dpAll_ex (Ex.new (free_of e hp)) _ _ h2))⟩
  · cases hz

/-! ### methods of texts -/
def rJoinA (K : PySem.W.Frag) : V → List V → Hp → VK → Prop := fun x xs H Q => ∃ a p, ∃ ys : List Str, x = .str a ∧ xs = [.ref p] ∧ (SqL K H p (ys.map V.str) ∨ SqT K H p (ys.map V.str)) ∧ (ys.map (·.length)).sum + ys.length * a.length ≤ 16777216 ∧ Q (.str (Txt.join a ys)) H
def joinOk (a : Str) (ys : List Str) : Option D := if (ys.map (·.length)).sum + ys.length * a.length ≤ 16777216 then some (.str (Txt.join a ys)) else none
def dJoin : D → List D → Option D
  | .str a, [.list xs] => (dStrs xs).bind (joinOk a)
  | .str a, [.tuple xs] => (dStrs xs).bind (joinOk a)
  | _, _ => none
theorem rm_join : RMt K (rJoinA K) dJoin := by
  intro x xs z hz v vs C H Q e hv hvs q
  unfold dJoin at hz
  split at hz
  · rename_i a ys
    cases k : dStrs ys with
    | none => rw [k] at hz; cases hz
    | some bs =>
      rw [k] at hz
      have hz : joinOk a bs = some z := hz
      unfold joinOk at hz
      split at hz
      · rename_i hl
        cases hz
        have e1 := dStrs_eq k
        subst e1
        cases hv
        cases hvs with
        | cons h t =>
          cases t
          cases h with
          | lst h1 h2 =>
            have e2 := dpa_strs h2
            subst e2
            exact ⟨a, _, bs, rfl, rfl, .inl (ex_l e h1), hl, q.1 _ (.str _)⟩
      · cases hz
  · rename_i a ys
    cases k : dStrs ys with
    | none => rw [k] at hz; cases hz
    | some bs =>
      rw [k] at hz
      have hz : joinOk a bs = some z := hz
      unfold joinOk at hz
      split at hz
      · rename_i hl
        cases hz
        have e1 := dStrs_eq k
        subst e1
        cases hv
        cases hvs with
        | cons h t =>
          cases t
          cases h with
          | tup h1 nd_h1 h2 =>
            have e2 := dpa_strs h2
            subst e2
            exact ⟨a, _, bs, rfl, rfl, .inr (ex_t e h1), hl, q.1 _ (.str _)⟩
      · cases hz
  · cases hz
def rSplitA : V → List V → Hp → VK → Prop := fun x xs H Q => ∃ a b, x = .str a ∧ xs = [.str b] ∧ (b.length == 0) = false ∧ a.length + 2 ≤ sizeLine ∧ rNewStrs (Txt.split a b) H Q
def dSplit : D → List D → Option D
  | .str a, [.str b] => if (b.length == 0) = false ∧ a.length + 2 ≤ LINE then some (.list ((Txt.split a b).map .str)) else none
  | _, _ => none
theorem rm_split : RMt K rSplitA dSplit := by
  intro x xs z hz v vs C H Q e hv hvs q
  unfold dSplit at hz
  split at hz
  · split at hz
    · rename_i hl
      cases hz
      cases hv
      cases hvs with
      | cons h t =>
        cases t
        cases h
        exact ⟨_, _, rfl, rfl, hl.1, by rw [line_eq]; exact hl.2, fun p hp => q.2 p _ hp (.lst (SqL.of upd_same) strs_dpa)⟩
    · cases hz
  · cases hz
def rWordsA : V → List V → Hp → VK → Prop := fun x xs H Q => ∃ a, x = .str a ∧ xs = [] ∧ a.length + 2 ≤ sizeLine ∧ rNewStrs (Txt.words a) H Q
def dWords : D → List D → Option D
  | .str a, [] => if a.length + 2 ≤ LINE then some (.list ((Txt.words a).map .str)) else none
  | _, _ => none
theorem rm_words : RMt K rWordsA dWords := by
  intro x xs z hz v vs C H Q e hv hvs q
  unfold dWords at hz
  split at hz
  · split at hz
    · rename_i hl
      cases hz
      cases hv
      cases hvs
      exact ⟨_, rfl, rfl, by rw [line_eq]; exact hl, fun p hp => q.2 p _ hp (.lst (SqL.of upd_same) strs_dpa)⟩
    · cases hz
  · cases hz
/-- s.index(t), t there -/
def rIndexS : V → List V → Hp → VK → Prop := fun x xs H Q => ∃ (a b : Str) (k : Nat), x = .str a ∧ xs = [.str b] ∧ Txt.index0 a b = some k ∧ Q (.int (k : Nat)) H
theorem mt_indexS {X : Cx} : MtR X "str.index" rIndexS := by
  intro pins s σ H x xs v us Q I rx rs h
  obtain ⟨a, b, k, rfl, rfl, hk, w⟩ := h
  obtain ⟨t, rfl⟩ := rx
  cases rs with
  | cons r1 rs =>
    cases rs
    obtain ⟨u, rfl⟩ := r1
    cases q : Builtin.Str.occurrences a b 0 a.length 1 with
    | nil =>
      unfold Txt.index0 at hk
      rw [q] at hk
      cases hk
    | cons k' rest =>
      unfold Txt.index0 at hk
      rw [q] at hk
      cases hk
      exact PySem.SC.index q ⟨.int (k : Nat), H, I.tok _, ⟨_, rfl⟩, w⟩
def dIndexS : D → List D → Option D
  | .str a, [.str b] => (Txt.index0 a b).map fun k => .int (k : Nat)
  | _, _ => none
theorem rm_indexS : RMt K rIndexS dIndexS := by
  intro x xs z hz v vs C H Q e hv hvs q
  unfold dIndexS at hz
  split at hz
  · rename_i a b
    cases k : Txt.index0 a b with
    | none => rw [k] at hz; cases hz
    | some n =>
      rw [k] at hz
      cases hz
      cases hv
      cases hvs with
      | cons h t =>
        cases t
        cases h
        exact ⟨_, _, n, rfl, rfl, k, q.1 _ (.int _)⟩
  · cases hz
def rStartsA : V → List V → Hp → VK → Prop := fun x xs H Q => ∃ a b, x = .str a ∧ xs = [.str b] ∧ Q (.bl (Txt.startswith a b)) H
def dStarts : D → List D → Option D
  | .str a, [.str b] => some (.bool (Txt.startswith a b))
  | _, _ => none
theorem rm_starts : RMt K rStartsA dStarts := by
  intro x xs z hz v vs C H Q e hv hvs q
  unfold dStarts at hz
  split at hz
  · cases hz
    cases hv
    cases hvs with
    | cons h t =>
      cases t
      cases h
      exact ⟨_, _, rfl, rfl, q.1 _ (.bl _)⟩
  · cases hz
end
section
variable {X : Cx} {EC : ECl} {W : WX} {a b c e o : Expr} {es : List Expr} {ma mb mc mo : M D} {mes : M (List D)} {pos p p2 apos : Pos}
theorem mMt_str {f : D → List D → Option D} (hf : ∀ x xs z, f x xs = some z → ∃ s, x = .str s) (x : D) (δ : Dl) (xs : List D) {k : D → Dl → Prop} {xx : Nat → D → Dl → Prop} (h : RP (R.lift (f x xs) δ) k xx) : ∃ s, x = .str s := by
  obtain ⟨z, hz, _⟩ := RP.lift h
  exact hf x xs z hz
/-- a text's method of one argument; the text is looked at first -/
def mM1 (f : D → List D → Option D) (o a : M D) : M D := fun δ => (o δ).bind fun x δ => match x with
  | .str s => (a δ).bind fun y δ => R.lift (f (.str s) [y]) δ
  | _ => .no
def mM0 (f : D → List D → Option D) (o : M D) : M D := fun δ => (o δ).bind fun x δ => match x with
  | .str s => R.lift (f (.str s) []) δ
  | _ => .no
theorem de_m1 {id : String} {name : Str} {r : V → List V → Hp → VK → Prop} {f : D → List D → Option D} (slot : Slot "str" name id) (ty : typeOf (.builtin id) = pure (.type "method_descriptor")) (rule : MtR X id r) (hf : RMt X.K r f) (ho : DE X EC W o mo) (he : DE X EC W e ma)
    (hs : starEach [e] X.env = [(false, eval e X.env)] := by rfl) (hbase : attributeBase o name X.env (eval o X.env) = eval o X.env := by rfl) (hline : (apos.endLine == pos.line) = true := by rfl) :
    DE X EC W (.Call (.Attribute o name apos) [e] [] pos) (mM1 f mo ma) := by
  obtain ⟨ta, pa, ra⟩ := ho.ex
  obtain ⟨tb, pb, rb⟩ := he.ex
  refine ⟨_, pe_m1 slot ty rule pa pb hs hbase hline, fun C0 H0 B C H σ δ Q S h => ra C0 H0 B C H σ δ _ S (RP.imp (RP.bind h) (fun x δ1 h1 v C1 H1 e1 S1 d1 => ?_) fun c d δ h => h)⟩
  split at h1
  · rename_i s
    cases d1
    refine ⟨⟨s, rfl⟩, rb C0 H0 B C1 H1 σ δ1 _ S1 (RP.imp (RP.bind h1) (fun y δ2 h2 w C2 H2 e2 S2 d2 => ?_) (PXe.mono e1))⟩
    obtain ⟨z, hz, q⟩ := RP.lift h2
    exact hf _ _ z hz _ _ C2 H2 Q S2.ch (.str s) (dpa_one d2) (rs_of S2 (PKe.mono (e1.trans e2) _ _ q))
  · exact h1.elim
theorem de_m0 {id : String} {name : Str} {r : V → List V → Hp → VK → Prop} {f : D → List D → Option D} (slot : Slot "str" name id) (ty : typeOf (.builtin id) = pure (.type "method_descriptor")) (rule : MtR X id r) (hf : RMt X.K r f) (ho : DE X EC W o mo)
    (hbase : attributeBase o name X.env (eval o X.env) = eval o X.env := by rfl) (hline : (apos.endLine == pos.line) = true := by rfl) :
    DE X EC W (.Call (.Attribute o name apos) [] [] pos) (mM0 f mo) := by
  obtain ⟨ta, pa, ra⟩ := ho.ex
  refine ⟨_, pe_m0 slot ty rule pa hbase hline, fun C0 H0 B C H σ δ Q S h => ra C0 H0 B C H σ δ _ S (RP.imp (RP.bind h) (fun x δ1 h1 v C1 H1 e1 S1 d1 => ?_) fun c d δ h => h)⟩
  split at h1
  · rename_i s
    cases d1
    refine ⟨⟨s, rfl⟩, ?_⟩
    obtain ⟨z, hz, q⟩ := RP.lift h1
    exact hf _ _ z hz _ _ C1 H1 Q S1.ch (.str s) .nil (rs_of S1 (PKe.mono e1 _ _ q))
  · exact h1.elim
end
end DL
end Part_DLd

section Part_DLe
set_option Elab.async false
set_option linter.all false
set_option maxRecDepth 100000
set_option autoImplicit false
set_option maxHeartbeats 2000000
namespace DL
open PySem PySem.Spec PyProof.Rows L2 Evl

/-! ### slots that are set -/
def setV (j : Nat) (d : D) (δ : Dl) : Option Dl := match δ[j]? with
  | some (.var true _) => none
  | some _ => some (δ.set j (.val d))
  | none => none
section
variable {K : PySem.W.Frag} {C0 H0 C H C2 H2 : Hp} {B : List (Nat × Addr)} {σ : L2.St} {δ δ' : Dl}
theorem setV_some {j : Nat} {d : D} (h : setV j d δ = some δ') : j < δ.length ∧ (∀ ds, δ[j]? ≠ some (.var true ds)) ∧ δ' = δ.set j (.val d) := by
  unfold setV at h
  cases q : δ[j]? with
  | none => rw [q] at h; cases h
  | some c =>
    have hj : j < δ.length := (List.getElem?_eq_some_iff.mp q).1
    rw [q] at h
    cases c with
    | non => cases h; exact ⟨hj, fun ds z => by (cases z), rfl⟩
    | val d => cases h; exact ⟨hj, fun ds z => by (cases z), rfl⟩
    | var b ds =>
      cases b with
      | true => cases h
      | false => cases h; exact ⟨hj, fun ds z => by (cases z), rfl⟩
theorem SR.setC (S : SR K C0 H0 B C H σ δ) {j : Nat} {v : V} {c : Cell} (hj : j < δ.length) (hn : ∀ ds, δ[j]? ≠ some (.var true ds)) (hc : ∀ d, c = .val d → Dq K C v d) (hm : ∀ b ds, c = .var b ds → b = false ∧ ∃ l xs, v = .ref l ∧ H0 l = none ∧ C l = none ∧ H l = some (.lst xs) ∧ DqAll K C xs ds ∧ ∀ (i : Nat) (b : Bool) (es : List D), δ[i]? = some (.var b es) → σ[i]? ≠ some (some (.ref l))) :
    SR K C0 H0 B C H (σ.set j (some v)) (δ.set j c) := by
  have hjσ : j < σ.length := by rw [S.len]; exact hj
  have nb : ∀ p ∈ B, p.1 ≠ j := fun p hp z => by
    obtain ⟨ds, _, h1, _⟩ := S.bor p hp
    rw [z] at h1
    exact hn ds h1
  refine ⟨by rw [List.length_set, List.length_set]; exact S.len, S.c0, S.ch, S.fr, S.nw, fun i d h => ?_, fun i ds h => ?_, fun p hp => ?_, fun i ds h => ?_, S.bd1, S.bd2, S.bH0, fun i k ds es hik h1 h2 l hl hl2 => ?_⟩
  · by_cases q : j = i
    · subst q
      rw [List.getElem?_set_self hj] at h
      exact ⟨v, List.getElem?_set_self hjσ, hc d (Option.some.inj h)⟩
    · rw [List.getElem?_set_ne q] at h ⊢
      exact S.val i d h
  · by_cases q : j = i
    · subst q
      rw [List.getElem?_set_self hj] at h
      obtain ⟨_, l, xs, h1, h2, h3, h4, h5, _⟩ := hm false ds (Option.some.inj h)
      exact ⟨l, xs, by rw [List.getElem?_set_self hjσ, h1], h2, h3, h4, h5⟩
    · rw [List.getElem?_set_ne q] at h ⊢
      exact S.own i ds h
  · obtain ⟨ds, xs, h1, h2, h3⟩ := S.bor p hp
    refine ⟨ds, xs, ?_, ?_, h3⟩
    · rw [List.getElem?_set_ne (nb p hp).symm]; exact h1
    · rw [List.getElem?_set_ne (nb p hp).symm]; exact h2
  · by_cases q : j = i
    · subst q
      rw [List.getElem?_set_self hj] at h
      have z := (hm true ds (Option.some.inj h)).1
      cases z
    · rw [List.getElem?_set_ne q] at h
      exact S.btr i ds h
  · by_cases q : j = i
    · subst q
      rw [List.getElem?_set_self hj] at h1
      rw [List.getElem?_set_self hjσ] at hl
      rw [List.getElem?_set_ne hik] at h2 hl2
      obtain ⟨_, l', xs, e1, _, _, _, _, e2⟩ := hm false ds (Option.some.inj h1)
      subst e1
      cases hl
      exact e2 k false es h2 hl2
    · by_cases q' : j = k
      · subst q'
        rw [List.getElem?_set_self hj] at h2
        rw [List.getElem?_set_self hjσ] at hl2
        rw [List.getElem?_set_ne q] at h1 hl
        obtain ⟨_, l', xs, e1, _, _, _, _, e2⟩ := hm false es (Option.some.inj h2)
        subst e1
        cases hl2
        exact e2 i false ds h1 hl
      · rw [List.getElem?_set_ne q] at h1 hl
        rw [List.getElem?_set_ne q'] at h2 hl2
        exact S.odis i k ds es hik h1 h2 l hl hl2
theorem SR.set (S : SR K C0 H0 B C H σ δ) {j : Nat} {v : V} {d : D} (h : setV j d δ = some δ') (hd : Dq K C v d) : SR K C0 H0 B C H (σ.set j (some v)) δ' := by
  obtain ⟨h1, h2, rfl⟩ := setV_some h
  exact S.setC h1 h2 (fun d' z => by cases z; exact hd) fun b ds z => by cases z
/-- a new list is given to a name that may change it -/
def setM (j : Nat) (ds : List D) (δ : Dl) : Option Dl := match δ[j]? with
  | some (.var true _) => none
  | some _ => some (δ.set j (.var false ds))
  | none => none
theorem setM_some {j : Nat} {d : List D} (h : setM j d δ = some δ') : j < δ.length ∧ (∀ ds, δ[j]? ≠ some (.var true ds)) ∧ δ' = δ.set j (.var false d) := by
  unfold setM at h
  cases q : δ[j]? with
  | none => rw [q] at h; cases h
  | some c =>
    have hj : j < δ.length := (List.getElem?_eq_some_iff.mp q).1
    rw [q] at h
    cases c with
    | non => cases h; exact ⟨hj, fun ds z => by (cases z), rfl⟩
    | val d => cases h; exact ⟨hj, fun ds z => by (cases z), rfl⟩
    | var b ds =>
      cases b with
      | true => cases h
      | false => cases h; exact ⟨hj, fun ds z => by (cases z), rfl⟩
/-- what a list of one's own holds is taken as data: it is not changed any more -/
def frz (j : Nat) (δ : Dl) : Option Dl := match δ[j]? with
  | some (.var false ds) => some (δ.set j (.val (.list ds)))
  | some (.val d) => some δ
  | _ => none
theorem SR.frz (S : SR K C0 H0 B C H σ δ) {j : Nat} (h : frz j δ = some δ') : ∃ C2, Ex C C2 ∧ SR K C0 H0 B C2 H σ δ' := by
  unfold DL.frz at h
  split at h
  · rename_i ds q
    cases h
    have hj : j < δ.length := (List.getElem?_eq_some_iff.mp q).1
    obtain ⟨l, xs, h1, h2, h3, h4, h5⟩ := S.own j ds q
    have e2 : Ex C (upd C l (.lst xs)) := Ex.new h3
    refine ⟨upd C l (.lst xs), e2, ⟨by rw [List.length_set]; exact S.len, S.c0.trans e2, fun a o z => ?_, S.fr, fun a z1 z2 => ?_, fun i d z => ?_, fun i es z => ?_, fun p hp => ?_, fun i es z => ?_, S.bd1, S.bd2, S.bH0, fun i k es fs hik z1 z2 => ?_⟩⟩
    · by_cases q : a = l
      · subst q
        rw [upd_same] at z
        rw [← z]
        exact h4
      · rw [upd_ne q] at z
        exact S.ch a o z
    · rw [upd_ne fun q => z1 (by rw [q]; exact h2)]
      exact S.nw a z1 z2
    · by_cases q' : j = i
      · subst q'
        rw [List.getElem?_set_self hj] at z
        cases z
        exact ⟨.ref l, h1, .lst (SqL.of upd_same) (dpAll_ex e2 _ _ h5)⟩
      · rw [List.getElem?_set_ne q'] at z
        obtain ⟨v, w1, w2⟩ := S.val i d z
        exact ⟨v, w1, dp_ex e2 _ _ w2⟩
    · by_cases q' : j = i
      · subst q'
        rw [List.getElem?_set_self hj] at z
        cases z
      · rw [List.getElem?_set_ne q'] at z
        obtain ⟨l', ys, w1, w2, w3, w4, w5⟩ := S.own i es z
        refine ⟨l', ys, w1, w2, ?_, w4, dpAll_ex e2 _ _ w5⟩
        rw [upd_ne fun y => S.odis j i ds es q' q z l h1 (by rw [← y]; exact w1)]
        exact w3
    · obtain ⟨es, ys, w1, w2, w3, w4, w5⟩ := S.bor p hp
      have q' : j ≠ p.1 := fun y => by
        rw [y, w1] at q
        cases q
      refine ⟨es, ys, by rw [List.getElem?_set_ne q']; exact w1, w2, ?_, w4, dpAll_ex e2 _ _ w5⟩
      rw [upd_ne fun y => S.bH0 p hp (by rw [y]; exact h2)]
      exact w3
    · by_cases q' : j = i
      · subst q'
        rw [List.getElem?_set_self hj] at z
        cases z
      · rw [List.getElem?_set_ne q'] at z
        exact S.btr i es z
    · have n1 : j ≠ i := fun y => by
        subst y
        rw [List.getElem?_set_self hj] at z1
        cases z1
      have n2 : j ≠ k := fun y => by
        subst y
        rw [List.getElem?_set_self hj] at z2
        cases z2
      rw [List.getElem?_set_ne n1] at z1
      rw [List.getElem?_set_ne n2] at z2
      exact S.odis i k es fs hik z1 z2
  · cases h
    exact ⟨C, Ex.refl C, S⟩
  · cases h
end

/-! ### targets -/
structure DG (X : Cx) (tg : Expr) (ts : List Nat) (g : D → Dl → Option Dl) : Prop where
  ex : ∃ t, PG X tg t ∧ ∀ C0 H0 B C H σ δ δ' v d (Q : L2.St → Hp → Prop), SR X.K C0 H0 B C H σ δ → Dq X.K C v d → g d δ = some δ' →
    (∀ σ', SR X.K C0 H0 B C H σ' δ' → (∀ vs : List Nat, (∀ k ∈ ts, k ∈ vs) → wipe σ' vs = wipe σ vs) → Q σ' H) → t v σ H Q
theorem wipe_set {σ : L2.St} {j : Nat} {x : Option V} : ∀ {vs : List Nat}, j ∈ vs → wipe (σ.set j x) vs = wipe σ vs
  | [], h => by cases h
  | v :: vs, h => by
    unfold wipe
    by_cases q : j ∈ vs
    · rw [wipe_set q]
    · have e : j = v := by
        rcases List.mem_cons.mp h with e | e
        · exact e
        · exact absurd e q
      subst e
      have out : ∀ ws : List Nat, j ∉ ws → (wipe (σ.set j x) ws).set j none = (wipe σ ws).set j none := by
        intro ws
        induction ws with
        | nil => intro _; show (σ.set j x).set j none = σ.set j none; rw [List.set_set]
        | cons w ws ih =>
          intro hw
          have n1 : j ≠ w := fun z => hw (by rw [z]; exact List.mem_cons_self)
          have n2 : j ∉ ws := fun z => hw (List.mem_cons_of_mem _ z)
          show ((wipe (σ.set j x) ws).set w none).set j none = ((wipe σ ws).set w none).set j none
          rw [List.set_comm _ _ n1.symm, ih n2, List.set_comm _ _ n1.symm]
      exact out vs q
section
variable {X : Cx} {EC : ECl} {W : WX} {a b c e o : Expr} {es : List Expr} {ma mb mc mo : M D} {mes : M (List D)} {pos p p2 apos : Pos} {tg iter : Expr} {ts us : List Nat} {g g2 : D → Dl → Option Dl}
theorem dg_name {j : Nat} {x : Str} (hN : X.N.Nodup) (hi : X.N[j]? = some x) (hx : Loc X.env.scope x) (hf : X.fn x = true ∨ X.env.scope.names.lookup x = some .local := by first | exact .inl rfl | exact .inr rfl | assumption) : DG X (.Name x pos) [j] (setV j) :=
  ⟨_, pg_name hN hi hx hf, fun C0 H0 B C H σ δ δ' v d Q S hd h k => k _ (S.set h hd) fun vs hv => wipe_set (hv j (by simp))⟩
/-- (a, b): a pair -/
def setT2 (g g2 : D → Dl → Option Dl) : D → Dl → Option Dl := fun d δ => match d with
  | .tuple [x, y] => (g x δ).bind (g2 y)
  | _ => none
theorem dg_tup2 {k : Nat} (hc : X.calm = true) (h1 : DG X a ts g) (h2 : DG X b us g2) (hs1 : (assignEach (a :: [b]) X.env).map (·.2) = assign a X.env :: (assignEach [b] X.env).map (·.2) := by rfl) (hs2 : (assignEach (b :: []) X.env).map (·.2) = assign b X.env :: (assignEach [] X.env).map (·.2) := by rfl)
    (hn : (assignEach [a, b] X.env).length = 2 := by rfl) (hst : (assignEach [a, b] X.env).findIdx? (·.1) = none := by rfl) : DG X (.Tuple [a, b] k pos) (ts ++ us) (setT2 g g2) := by
  obtain ⟨t1, p1, r1⟩ := h1.ex
  obtain ⟨t2, p2, r2⟩ := h2.ex
  refine ⟨_, pg_tup hc (pgs_cons p1 (pgs_cons p2 pgs_nil hs2) hs1) hn hst, fun C0 H0 B C H σ δ δ' v d Q S hd h k => ?_⟩
  unfold setT2 at h
  split at h
  · rename_i x y
    cases q : g x δ with
    | none => rw [q] at h; cases h
    | some δ1 =>
      rw [q] at h
      cases hd with
      | tup s nd_s t =>
        cases t with
        | cons d1 t =>
          cases t with
          | cons d2 t =>
            cases t
            rename_i a v1 v2
            refine ⟨a, _, rfl, ex_t S.ch s, rfl, v1, _, rfl, r1 C0 H0 B C H σ δ δ1 v1 x _ S d1 q fun σ1 S1 w1 => ⟨v2, _, rfl, r2 C0 H0 B C H σ1 δ1 δ' v2 y _ S1 d2 h fun σ2 S2 w2 => ⟨rfl, k σ2 S2 fun vs hv => ?_⟩⟩⟩
            rw [w2 vs fun k hk => hv k (List.mem_append_right _ hk), w1 vs fun k hk => hv k (List.mem_append_left _ hk)]
  · cases h

/-! ### what is walked -/
structure ItOk (K : PySem.W.Frag) (C1 : Hp) (J : It) (items : List D) : Prop where
  ex : ∃ G Y, Walk J items.length G Y ∧ (∀ H, Ex C1 H → G H) ∧ ∀ i d, items[i]? = some d → ∀ C H x H' (Q : VK), Ex C1 C → Ex C H → Y i H x H' → Rs K C H d Q → Q x H'
structure DI (X : Cx) (EC : ECl) (W : WX) (tg iter : Expr) (m : M (List D)) : Prop where
  ex : ∃ wi, PI X tg iter wi ∧ ∀ C0 H0 B C H σ δ (R : It → Hp → Prop), SR X.K C0 H0 B C H σ δ →
    RP (m δ) (fun items δ => ∀ J C1 H1, Ex C C1 → SR X.K C0 H0 B C1 H1 σ δ → ItOk X.K C1 J items → R J H1) (PXe X.K EC W C0 H0 B C σ) → wi σ H R
/-- a list, a tuple or a text -/
def iSeq (K : PySem.W.Frag) (te : TE) : TI := fun σ H R => te σ H fun x H1 => (∃ a, x = .ref a ∧ (∃ xs, SqL K H1 a xs) ∧ R (Itl K a) H1) ∨ ((∃ a, x = .ref a ∧ (∃ xs, SqT K H1 a xs) ∧ R (Itt K a) H1) ∨ ∃ z, x = .str z ∧ R (Its z) H1)
theorem pi_seq {te : TE} (hl : PE X e te) : PI X tg e (iSeq X.K te) := by
  refine ⟨fun pins s σ H R I h => ?_⟩
  refine thn (hl.run pins s σ H _ I h) fun v s1 ⟨x, H1, I1, r1, q1⟩ => ?_
  rcases q1 with ⟨a, e, ⟨xs, hq⟩, q⟩ | ⟨a, e, ⟨xs, hq⟩, q⟩ | ⟨z, e, q⟩
  · subst e
    cases r1
    obtain ⟨its, rv, p, hz⟩ := I1.list hq
    refine wpAny_pyIter_list p.isList ?_
    refine ⟨s1.heap.objs.size, [s1.heap.objs.size], _, _, H1, rfl, I1.kept (t' := s1.toks) fun b o e => Heap.get?_push_of_some _ e, turn_list a _, ⟨_, Heap.get?_push_size _ rfl, rfl, rfl⟩, fun b hb => ?_, q⟩
    have e : b = s1.heap.objs.size := by simpa using hb
    subst e
    exact I1.fpOk (Nat.le_refl _) (I1.hok.fresh (Nat.le_refl _))
  · subst e
    cases r1
    obtain ⟨its, rv, p, hz⟩ := I1.tuple hq
    refine wpAny_pyIter_tuple (show s1.heap.IsTuple a its.toArray from p) ?_
    refine ⟨s1.heap.objs.size, [s1.heap.objs.size], _, _, H1, rfl, I1.kept (t' := s1.toks) fun b o e => Heap.get?_push_of_some _ e, turn_tuple a _, ⟨_, Heap.get?_push_size _ rfl, rfl, rfl⟩, fun b hb => ?_, q⟩
    have e : b = s1.heap.objs.size := by simpa using hb
    subst e
    exact I1.fpOk (Nat.le_refl _) (I1.hok.fresh (Nat.le_refl _))
  · subst e
    obtain ⟨t, rfl⟩ := r1
    cases ha : z.cps.all (· < 128)
    · exact wpAny_pyIter_wide ha (pi_one (tk := s1.toks) I1 _ (turn_str _ z t "str_iterator" (.inr rfl)) ⟨_, Heap.get?_push_size _ rfl, rfl, rfl⟩ q)
    · exact wpAny_pyIter_ascii ha (pi_one (tk := s1.toks) I1 _ (turn_str _ z t "str_ascii_iterator" (.inl rfl)) ⟨_, Heap.get?_push_size _ rfl, rfl, rfl⟩ q)
def dItems : D → Option (List D)
  | .list xs => some xs
  | .tuple xs => some xs
  | .str s => some (s.cps.toList.map fun c => .str ⟨#[c]⟩)
  | _ => none
def mItems (a : M D) : M (List D) := fun δ => (a δ).bind fun x δ => R.lift (dItems x) δ
theorem it_seq {K : PySem.W.Frag} {C : Hp} {a : Addr} {xs : List V} {ds : List D} (hx : SqL K C a xs) (hd : DqAll K C xs ds) : ItOk K C (Itl K a) ds := by
  refine ⟨fun H => SqL K H a xs, YAt xs, by rw [← dpa_len hd]; exact walk_list, fun H e => ex_l e hx, fun i d hi C2 H x H' Q e1 e2 y q => ?_⟩
  obtain ⟨e, hx⟩ := y
  subst e
  obtain ⟨d', h1, h2⟩ := dpa_get' hd hx
  rw [hi] at h1
  cases h1
  exact q.1 x (dp_ex e1 _ _ h2)
theorem it_tup {K : PySem.W.Frag} {C : Hp} {a : Addr} {xs : List V} {ds : List D} (hx : SqT K C a xs) (hd : DqAll K C xs ds) : ItOk K C (Itt K a) ds := by
  refine ⟨fun H => SqT K H a xs, YAt xs, by rw [← dpa_len hd]; exact walk_tup, fun H e => ex_t e hx, fun i d hi C2 H x H' Q e1 e2 y q => ?_⟩
  obtain ⟨e, hx⟩ := y
  subst e
  obtain ⟨d', h1, h2⟩ := dpa_get' hd hx
  rw [hi] at h1
  cases h1
  exact q.1 x (dp_ex e1 _ _ h2)
theorem it_str {K : PySem.W.Frag} {C : Hp} {z : Str} : ItOk K C (Its z) (z.cps.toList.map fun c => .str ⟨#[c]⟩) := by
  refine ⟨fun _ => True, fun i H v H' => H' = H ∧ ∃ c, z.cps[i]? = some c ∧ v = .str ⟨#[c]⟩, ?_, fun _ _ => trivial, fun i d hi C2 H x H' Q e1 e2 y q => ?_⟩
  · rw [List.length_map, Array.length_toList]
    exact walk_str
  · obtain ⟨e, c, hc, hx⟩ := y
    subst e hx
    rw [List.getElem?_map, Array.getElem?_toList, hc] at hi
    cases hi
    exact q.1 _ (.str _)
theorem di_seq (h : DE X EC W iter ma) : DI X EC W tg iter (mItems ma) := by
  obtain ⟨te, pe, re⟩ := h.ex
  refine ⟨_, pi_seq pe, fun C0 H0 B C H σ δ R S h => re C0 H0 B C H σ δ _ S (RP.imp (RP.bind h) (fun x δ1 h1 v C1 H1 e1 S1 d1 => ?_) fun c d δ h => h)⟩
  obtain ⟨items, hi, q⟩ := RP.lift h1
  unfold dItems at hi
  split at hi
  · cases hi
    cases d1 with
    | lst a b => exact .inl ⟨_, rfl, ⟨_, ex_l S1.ch a⟩, q _ C1 H1 e1 S1 (it_seq a b)⟩
  · cases hi
    cases d1 with
    | tup a nd_a b => exact .inr (.inl ⟨_, rfl, ⟨_, ex_t S1.ch a⟩, q _ C1 H1 e1 S1 (it_tup a b)⟩)
  · cases hi
    cases d1
    exact .inr (.inr ⟨_, rfl, q _ C1 H1 e1 S1 it_str⟩)
  · cases hi
def rng (lo hi : Int) : List D := (List.range (hi - lo).toNat).map fun k => .int (lo + (k : Nat))
theorem it_rng {K : PySem.W.Frag} {C : Hp} {lo hi : Int} : ItOk K C (Itr lo (hi - lo).toNat) (rng lo hi) := by
  refine ⟨fun _ => True, YFn fun i => .int (lo + i), ?_, fun _ _ => trivial, fun i d hi C2 H x H' Q e1 e2 y q => ?_⟩
  · unfold rng
    rw [List.length_map, List.length_range]
    exact walk_range
  · obtain ⟨e, hx⟩ := y
    subst e hx
    unfold rng at hi
    rw [List.getElem?_map] at hi
    cases k : (List.range (_ - lo).toNat)[i]? with
    | none => rw [k] at hi; cases hi
    | some n =>
      rw [k] at hi
      cases hi
      have : n = i := by
        rw [List.getElem?_range] at k
        · exact (Option.some.inj k).symm
        · exact (List.getElem?_eq_some_iff.mp k).1 |> fun h => by simpa using h
      subst this
      exact q.1 _ (.int _)
def big (i : Int) : Bool := decide (-(2 ^ 62) ≤ i ∧ i < 2 ^ 62)
def mRng1 (a : M D) : M (List D) := fun δ => (a δ).bind fun x δ => match x with
  | .int i => if big i then .ok (rng 0 i) δ else .no
  | _ => .no
def mRng2 (a b : M D) : M (List D) := fun δ => (a δ).bind fun x δ => (b δ).bind fun y δ => match x, y with
  | .int i, .int j => if big i && big j then .ok (rng i j) δ else .no
  | _, _ => .no
theorem di_rng1 (hg : Gl X "range") (hm : X.mg "range" = none) (h : DE X EC W a ma) (hs : starEach [a] X.env = [(false, eval a X.env)] := by rfl) (hs' : starEach (a :: []) X.env = (false, eval a X.env) :: starEach [] X.env := by rfl) : DI X EC W tg (.Call (.Name "range" p) [a] [] pos) (mRng1 ma) := by
  obtain ⟨te, pe, re⟩ := h.ex
  refine ⟨_, pi_range1 hg hm (pa_cons pe pa_nil hs') hs, fun C0 H0 B C H σ δ R S h => re C0 H0 B C H σ δ _ S (RP.imp (RP.bind h) (fun x δ1 h1 v C1 H1 e1 S1 d1 => ?_) fun c d δ h => h)⟩
  split at h1
  · split at h1
    · rename_i i hb
      cases d1
      have hb := of_decide_eq_true hb
      refine ⟨i, rfl, hb.1, hb.2, h1 _ C1 H1 e1 S1 ?_⟩
      have z := it_rng (K := X.K) (C := C1) (lo := 0) (hi := i)
      rw [Int.sub_zero] at z
      exact z
    · exact h1.elim
  · exact h1.elim
theorem di_rng2 (hg : Gl X "range") (hm : X.mg "range" = none) (h : DE X EC W a ma) (h2 : DE X EC W b mb) (hs : starEach [a, b] X.env = [(false, eval a X.env), (false, eval b X.env)] := by rfl) (hs2 : starEach [b] X.env = [(false, eval b X.env)] := by rfl)
    (hs' : starEach (a :: [b]) X.env = (false, eval a X.env) :: starEach [b] X.env := by rfl) (hs3 : starEach (b :: []) X.env = (false, eval b X.env) :: starEach [] X.env := by rfl) : DI X EC W tg (.Call (.Name "range" p) [a, b] [] pos) (mRng2 ma mb) := by
  obtain ⟨te, pe, re⟩ := h.ex
  obtain ⟨tb, pb, rb⟩ := h2.ex
  refine ⟨_, pi_range2 hg hm (pa_cons pe (pa_cons pb pa_nil hs3) hs') hs hs2, fun C0 H0 B C H σ δ R S h => re C0 H0 B C H σ δ _ S (RP.imp (RP.bind h) (fun x δ1 h1 v C1 H1 e1 S1 d1 => ?_) fun c d δ h => h)⟩
  refine rb C0 H0 B C1 H1 σ δ1 _ S1 (RP.imp (RP.bind h1) (fun y δ2 h2 w C2 H2 e2 S2 d2 => ?_) (PXe.mono e1))
  split at h2
  · split at h2
    · rename_i i j hb
      cases d1
      cases d2
      rw [Bool.and_eq_true] at hb
      have hb1 := of_decide_eq_true hb.1
      have hb2 := of_decide_eq_true hb.2
      exact ⟨i, j, rfl, ⟨hb1.1, hb1.2, hb2.1, hb2.2⟩, h2 _ C2 H2 (e1.trans e2) S2 it_rng⟩
    · exact h2.elim
  · exact h2.elim

/-! ### comprehensions -/
/-- the cells of a block's own names, unset -/
def wipeD (δ : Dl) : List Nat → Dl
  | [] => δ
  | v :: vs => (wipeD δ vs).set v .non
/-- .. as they were -/
def backD (δ δ' : Dl) : List Nat → Dl
  | [] => δ'
  | v :: vs => (backD δ δ' vs).set v (δ.getD v .non)
def noMut (δ : Dl) (vs : List Nat) : Bool := vs.all fun v => match δ[v]? with
  | some (.var _ _) => false
  | _ => true
def Cell.isVar : Cell → Bool
  | .var _ _ => true
  | _ => false
def noVar (δ : Dl) : Bool := δ.all fun c => !c.isVar
def R.noex {α : Type} : R α → R α
  | .ok a δ => .ok a δ
  | _ => .no
def mLc (vs : List Nat) (g : D → Dl → Option Dl) (t : M Bool) (e : M D) : List D → M (List D)
  | [], δ => .ok [] δ
  | x :: xs, δ => match g x (wipeD δ vs) with
    | none => .no
    | some δ1 => (t δ1).noex.bind fun b δ2 => if b then (e δ2).noex.bind fun y δ3 => if noVar δ3 then (mLc vs g t e xs δ3).bind fun ys δ4 => .ok (y :: ys) δ4 else .no
      else if noVar δ2 then mLc vs g t e xs δ2 else .no
def mLcS (vs : List Nat) (it : M (List D)) (g : D → Dl → Option Dl) (t : M Bool) (e : M D) : M (List D) := fun δ => (it δ).bind fun xs δ1 => if noVar δ1 && decide (xs.length ≤ LINE) then (mLc vs g t e xs δ1).bind fun ys δ2 => .ok ys (backD δ1 δ2 vs) else .no
end
end DL
end Part_DLe

section Part_DLf
set_option Elab.async false
set_option linter.all false
set_option maxRecDepth 100000
set_option autoImplicit false
set_option maxHeartbeats 2000000
namespace DL
open PySem PySem.Spec PyProof.Rows L2 Evl

/-! ### the readings by the mirrors -/
section
variable (K : PySem.W.Frag) (EC : ECl) (W : WX)
def tE (m : M D) : TE := fun σ H Q => ∃ C0 H0 B C δ, SR K C0 H0 B C H σ δ ∧ RP (m δ) (PKe K C0 H0 B C σ Q) (PXe K EC W C0 H0 B C σ)
def tTd (m : M Bool) : TT := fun σ H Q => ∃ C0 H0 B C δ, SR K C0 H0 B C H σ δ ∧ RP (m δ) (PKt K C0 H0 B C σ Q) (PXe K EC W C0 H0 B C σ)
def tGd (ts : List Nat) (g : D → Dl → Option Dl) : TG := fun v σ H Q => ∃ C0 H0 B C δ δ' d, SR K C0 H0 B C H σ δ ∧ Dq K C v d ∧ g d δ = some δ' ∧ ∀ σ', SR K C0 H0 B C H σ' δ' → (∀ vs : List Nat, (∀ k ∈ ts, k ∈ vs) → wipe σ' vs = wipe σ vs) → Q σ' H
end
section
variable {X : Cx} {EC : ECl} {W : WX} {e tg : Expr}
theorem DE.pe {m : M D} (h : DE X EC W e m) : PE X e (tE X.K EC W m) := by
  obtain ⟨te, pe, re⟩ := h.ex
  exact ⟨fun pins s σ H Q I ⟨C0, H0, B, C, δ, S, q⟩ => pe.run pins s σ H Q I (re C0 H0 B C H σ δ Q S q)⟩
theorem DT.pt {m : M Bool} (h : DT X EC W e m) : PT X e (tTd X.K EC W m) := by
  obtain ⟨te, pe, re⟩ := h.ex
  exact ⟨fun pins s σ H Q I ⟨C0, H0, B, C, δ, S, q⟩ => pe.run pins s σ H Q I (re C0 H0 B C H σ δ Q S q)⟩
theorem DG.pg {ts : List Nat} {g : D → Dl → Option Dl} (h : DG X tg ts g) : PG X tg (tGd X.K ts g) := by
  obtain ⟨t, p, r⟩ := h.ex
  exact ⟨fun pins s σ H v u Q I rv ⟨C0, H0, B, C, δ, δ', d, S, hd, hg, k⟩ => p.run pins s σ H v u Q I rv (r C0 H0 B C H σ δ δ' v d Q S hd hg k)⟩
end
/-- the tests of a block -/
structure DTs (X : Cx) (EC : ECl) (W : WX) (ifs : List Expr) (m : M Bool) : Prop where
  ex : PTs X ifs (tTd X.K EC W m)
def mYes : M Bool := fun δ => .ok true δ
section
variable {X : Cx} {EC : ECl} {W : WX} {e tg : Expr}
theorem dts_nil : DTs X EC W [] mYes := ⟨⟨fun pins s σ H Q I ⟨C0, H0, B, C, δ, S, q⟩ => (pts_nil (X := X)).run pins s σ H Q I (q C H (Ex.refl C) S)⟩⟩
theorem dts_one {m : M Bool} (h : DT X EC W e m) : DTs X EC W [e] m := ⟨pts_one h.pt⟩
end

/-! ### wiped and put back -/
theorem wipe_out' {σ : L2.St} {i : Nat} {vs : List Nat} (h : i ∉ vs) : (wipe σ vs)[i]? = σ[i]? := wipe_out h
theorem wipeD_length (δ : Dl) : ∀ vs : List Nat, (wipeD δ vs).length = δ.length
  | [] => rfl
  | v :: vs => by unfold wipeD; rw [List.length_set, wipeD_length δ vs]
theorem wipeD_out {δ : Dl} {i : Nat} : ∀ {vs : List Nat}, i ∉ vs → (wipeD δ vs)[i]? = δ[i]?
  | [], _ => rfl
  | v :: vs, h => by
    have h1 : v ≠ i := fun e => h (by rw [e]; exact List.mem_cons_self)
    have h2 : i ∉ vs := fun e => h (List.mem_cons_of_mem _ e)
    unfold wipeD
    rw [List.getElem?_set_ne h1]
    exact wipeD_out h2
theorem wipeD_in {δ : Dl} {i : Nat} {c : Cell} : ∀ {vs : List Nat}, i ∈ vs → (wipeD δ vs)[i]? = some c → c = .non
  | [], h, _ => by cases h
  | v :: vs, h, e => by
    unfold wipeD at e
    by_cases q : v = i
    · subst q
      have hl : v < (wipeD δ vs).length := by
        have := (List.getElem?_eq_some_iff.mp e).1
        rwa [List.length_set] at this
      rw [List.getElem?_set_self hl] at e
      exact (Option.some.inj e).symm
    · rw [List.getElem?_set_ne q] at e
      rcases List.mem_cons.mp h with z | z
      · exact absurd z.symm q
      · exact wipeD_in z e
theorem backD_length (δ δ' : Dl) : ∀ vs : List Nat, (backD δ δ' vs).length = δ'.length
  | [] => rfl
  | v :: vs => by unfold backD; rw [List.length_set, backD_length δ δ' vs]
theorem backD_out {δ δ' : Dl} {i : Nat} : ∀ {vs : List Nat}, i ∉ vs → (backD δ δ' vs)[i]? = δ'[i]?
  | [], _ => rfl
  | v :: vs, h => by
    have h1 : v ≠ i := fun e => h (by rw [e]; exact List.mem_cons_self)
    have h2 : i ∉ vs := fun e => h (List.mem_cons_of_mem _ e)
    unfold backD
    rw [List.getElem?_set_ne h1]
    exact backD_out h2
theorem backD_in {δ δ' : Dl} {i : Nat} {c : Cell} : ∀ {vs : List Nat}, i ∈ vs → (backD δ δ' vs)[i]? = some c → c = δ.getD i .non
  | [], h, _ => by cases h
  | v :: vs, h, e => by
    unfold backD at e
    by_cases q : v = i
    · subst q
      have hl : v < (backD δ δ' vs).length := by
        have := (List.getElem?_eq_some_iff.mp e).1
        rwa [List.length_set] at this
      rw [List.getElem?_set_self hl] at e
      exact (Option.some.inj e).symm
    · rw [List.getElem?_set_ne q] at e
      rcases List.mem_cons.mp h with z | z
      · exact absurd z.symm q
      · exact backD_in z e
theorem noMut_at {δ : Dl} {vs : List Nat} (h : noMut δ vs = true) {i : Nat} (hi : i ∈ vs) : ∀ b ds, δ[i]? ≠ some (.var b ds) := fun b ds e => by
  have z := List.all_eq_true.mp h i hi
  rw [e] at z
  cases z
section
variable {K : PySem.W.Frag} {C0 H0 C H C2 H2 : Hp} {B : List (Nat × Addr)} {σ : L2.St} {δ δ2 : Dl} {vs : List Nat}
theorem SR.wipe (S : SR K C0 H0 B C H σ δ) (hB : ∀ p ∈ B, p.1 ∉ vs) : SR K C0 H0 B C H (wipe σ vs) (wipeD δ vs) where
  len := by rw [wipe_length, wipeD_length]; exact S.len
  c0 := S.c0
  ch := S.ch
  fr := S.fr
  nw := S.nw
  val := fun i d h => by
    by_cases q : i ∈ vs
    · cases wipeD_in q h
    · rw [wipeD_out q] at h
      rw [wipe_out' q]
      exact S.val i d h
  own := fun i d h => by
    by_cases q : i ∈ vs
    · cases wipeD_in q h
    · rw [wipeD_out q] at h
      rw [wipe_out' q]
      exact S.own i d h
  bor := fun p hp => by
    rw [wipeD_out (hB p hp), wipe_out' (hB p hp)]
    exact S.bor p hp
  btr := fun i d h => by
    by_cases q : i ∈ vs
    · cases wipeD_in q h
    · rw [wipeD_out q] at h
      exact S.btr i d h
  bd1 := S.bd1
  bd2 := S.bd2
  bH0 := S.bH0
  odis := fun i j ds es hij h1 h2 => by
    have q1 : i ∉ vs := fun q => by cases wipeD_in q h1
    have q2 : j ∉ vs := fun q => by cases wipeD_in q h2
    rw [wipeD_out q1] at h1
    rw [wipeD_out q2] at h2
    rw [wipe_out' q1, wipe_out' q2]
    exact S.odis i j ds es hij h1 h2
theorem SR.back (S : SR K C0 H0 B C H σ δ) (hn : noMut δ vs = true) (e : Ex C C2) (S2 : SR K C0 H0 B C2 H2 (L2.wipe σ vs) (wipeD δ2 vs)) : SR K C0 H0 B C2 H2 σ (backD δ δ2 vs) := by
  have hB : ∀ p ∈ B, p.1 ∉ vs := fun p hp q => by
    obtain ⟨ds, _, h1, _⟩ := S.bor p hp
    exact noMut_at hn q _ _ h1
  have out : ∀ {i : Nat} {b ds}, (backD δ δ2 vs)[i]? = some (.var b ds) → i ∉ vs := fun {i b ds} h q => by
    have z := backD_in q h
    have hi : i < δ.length := by
      cases k : δ[i]? with
      | none =>
        have : δ.getD i .non = .non := by unfold List.getD; rw [k]; rfl
        rw [this] at z
        cases z
      | some c => exact (List.getElem?_eq_some_iff.mp k).1
    refine noMut_at hn q b ds ?_
    unfold List.getD at z
    cases k : δ[i]? with
    | none => rw [k] at z; cases z
    | some c => rw [k] at z; exact congrArg some z.symm
  refine ⟨?_, S2.c0, S2.ch, S2.fr, S2.nw, fun i d h => ?_, fun i d h => ?_, fun p hp => ?_, fun i d h => ?_, S2.bd1, S2.bd2, S2.bH0, fun i j ds es hij h1 h2 => ?_⟩
  · have := S2.len
    rw [wipe_length, wipeD_length] at this
    rw [backD_length]
    exact this
  · by_cases q : i ∈ vs
    · have z := backD_in q h
      cases k : δ[i]? with
      | none =>
        unfold List.getD at z
        rw [k] at z
        cases z
      | some c =>
        unfold List.getD at z
        rw [k] at z
        have z : Cell.val d = c := z
        subst z
        obtain ⟨v, h1, h2⟩ := S.val i d k
        exact ⟨v, h1, dp_ex e _ _ h2⟩
    · rw [backD_out q, ← wipeD_out (δ := δ2) q] at h
      have := S2.val i d h
      rw [wipe_out' q] at this
      exact this
  · have q := out h
    rw [backD_out q, ← wipeD_out (δ := δ2) q] at h
    have := S2.own i d h
    rw [wipe_out' q] at this
    exact this
  · have := S2.bor p hp
    rw [wipe_out' (hB p hp), wipeD_out (hB p hp)] at this
    rw [backD_out (hB p hp)]
    exact this
  · have q := out h
    rw [backD_out q, ← wipeD_out (δ := δ2) q] at h
    exact S2.btr i d h
  · have q1 := out h1
    have q2 := out h2
    rw [backD_out q1, ← wipeD_out (δ := δ2) q1] at h1
    rw [backD_out q2, ← wipeD_out (δ := δ2) q2] at h2
    have := S2.odis i j ds es hij h1 h2
    rw [wipe_out' q1, wipe_out' q2] at this
    exact this
/-- an object that is not of the data and that no cell holds is changed -/
theorem SR.mutN (S : SR K C0 H0 B C H σ δ) {l : Addr} {o : HO} (h0 : H0 l = none) (hC : C l = none) (hn : ∀ (i : Nat) (b : Bool) (es : List D), δ[i]? = some (.var b es) → σ[i]? ≠ some (some (.ref l))) : SR K C0 H0 B C (upd H l o) σ δ where
  len := S.len
  c0 := S.c0
  ch := fun a u h => by
    rw [upd_ne (ne_of_none h hC)]
    exact S.ch a u h
  fr := fun a u h hb => by
    rw [upd_ne (ne_of_none h h0)]
    exact S.fr a u h hb
  nw := S.nw
  val := S.val
  own := fun i ds h => by
    obtain ⟨k, xs, h1, h2, h3, h4, h5⟩ := S.own i ds h
    refine ⟨k, xs, h1, h2, h3, ?_, h5⟩
    rw [upd_ne fun z => hn i false ds h (by rw [← z]; exact h1)]
    exact h4
  bor := fun p hp => by
    obtain ⟨ds, xs, h1, h2, h3, h4, h5⟩ := S.bor p hp
    refine ⟨ds, xs, h1, h2, h3, ?_, h5⟩
    rw [upd_ne fun z => hn p.1 true ds h1 (by rw [← z]; exact h2)]
    exact h4
  btr := S.btr
  bd1 := S.bd1
  bd2 := S.bd2
  bH0 := S.bH0
  odis := S.odis
theorem noVar_at {δ : Dl} (h : noVar δ = true) {i : Nat} {b : Bool} {ds : List D} : δ[i]? ≠ some (.var b ds) := fun e => by
  have z := List.all_eq_true.mp h _ (List.mem_of_getElem? e)
  cases z
theorem noVar_wipe {δ : Dl} (h : noVar δ = true) : ∀ vs : List Nat, noVar (wipeD δ vs) = true
  | [] => h
  | v :: vs => by
    refine List.all_eq_true.mpr fun c hc => ?_
    obtain ⟨i, hi⟩ := List.getElem?_of_mem hc
    cases c with
    | var b ds =>
      by_cases q : i ∈ v :: vs
      · cases wipeD_in q hi
      · rw [wipeD_out q] at hi
        exact absurd hi (noVar_at h)
    | non => rfl
    | val d => rfl
theorem SR.noB (S : SR K C0 H0 B C H σ δ) (h : noVar δ = true) : B = [] := by
  cases B with
  | nil => rfl
  | cons p r =>
    obtain ⟨ds, _, z, _⟩ := S.bor p List.mem_cons_self
    exact absurd z (noVar_at h)
theorem SR.rebase (S : SR K C0 H0 B C H σ δ) (h : noVar δ = true) : SR K C H [] C H σ δ where
  len := S.len
  c0 := Ex.refl C
  ch := S.ch
  fr := fun a o z _ => z
  nw := fun a _ z => z
  val := S.val
  own := fun i ds z => absurd z (noVar_at h)
  bor := fun p hp => by cases hp
  btr := fun i ds z => absurd z (noVar_at h)
  bd1 := fun p hp => by cases hp
  bd2 := fun p hp => by cases hp
  bH0 := fun p hp => by cases hp
  odis := fun i j ds es _ z => absurd z (noVar_at h)
theorem SR.unbase {σ2 : L2.St} {δ' : Dl} (S : SR K C0 H0 [] C H σ δ) (T : SR K C H [] C2 H2 σ2 δ') : SR K C0 H0 [] C2 H2 σ2 δ' where
  len := T.len
  c0 := S.c0.trans T.c0
  ch := T.ch
  fr := fun a o z _ => T.fr a o (S.fr a o z fun p hp => by cases hp) fun p hp => by cases hp
  nw := fun a z1 z2 => by
    refine T.nw a ?_ (S.nw a z1 z2)
    cases q : H0 a with
    | none => exact absurd q z1
    | some o =>
      rw [S.fr a o q fun p hp => by cases hp]
      exact fun z => nomatch z
  val := T.val
  own := fun i ds z => by
    obtain ⟨l, xs, h1, h2, h3, h4, h5⟩ := T.own i ds z
    refine ⟨l, xs, h1, ?_, h3, h4, h5⟩
    cases q : H0 l with
    | none => rfl
    | some o =>
      have := S.fr l o q fun p hp => by cases hp
      rw [h2] at this
      cases this
  bor := T.bor
  btr := T.btr
  bd1 := T.bd1
  bd2 := T.bd2
  bH0 := fun p hp => by cases hp
  odis := T.odis
/-- what H does not know, no list of one's own is -/
theorem SR.nm (S : SR K C0 H0 B C H σ δ) {p : Addr} (hp : H p = none) : H0 p = none ∧ ∀ (i : Nat) (b : Bool) (es : List D), δ[i]? = some (.var b es) → σ[i]? ≠ some (some (.ref p)) := by
  refine ⟨?_, fun i b ds hi hs => ?_⟩
  · cases q : H0 p with
    | none => rfl
    | some o =>
      by_cases hb : ∃ k ∈ B, k.2 = p
      · obtain ⟨k, hk, rfl⟩ := hb
        obtain ⟨_, _, _, _, _, h4, _⟩ := S.bor k hk
        rw [hp] at h4
        cases h4
      · have z := S.fr p o q fun k hk e => hb ⟨k, hk, e⟩
        rw [hp] at z
        cases z
  · cases b with
    | false =>
      obtain ⟨l, ys, h2, _, _, h5, _⟩ := S.own i ds hi
      rw [h2] at hs
      cases hs
      rw [hp] at h5
      cases h5
    | true =>
      obtain ⟨l, hl⟩ := S.btr i ds hi
      obtain ⟨_, _, _, h3, _, h5, _⟩ := S.bor _ hl
      rw [h3] at hs
      cases hs
      rw [hp] at h5
      cases h5
end
theorem RP.noex {α : Type} {r : R α} {k : α → Dl → Prop} {x x' : Nat → D → Dl → Prop} (h : RP r.noex k x) : RP r k x' := by
  cases r with
  | ok a δ => exact h
  | ex c d δ => exact h.elim
  | no => exact h.elim
theorem wipeD_wipeD (δ : Dl) (vs : List Nat) : ∀ i : Nat, (wipeD (wipeD δ vs) vs)[i]? = (wipeD δ vs)[i]? := fun i => by
  by_cases q : i ∈ vs
  · cases k1 : (wipeD (wipeD δ vs) vs)[i]? with
    | none =>
      have := List.getElem?_eq_none_iff.mp k1
      rw [wipeD_length] at this
      exact (List.getElem?_eq_none_iff.mpr this).symm
    | some c =>
      have hl := (List.getElem?_eq_some_iff.mp k1).1
      rw [wipeD_length] at hl
      cases k2 : (wipeD δ vs)[i]? with
      | none =>
        have := List.getElem?_eq_none_iff.mp k2
        omega
      | some c' => rw [wipeD_in q k1, wipeD_in q k2]
  · rw [wipeD_out q]
section
variable {X : Cx} {EC : ECl} {W : WX}
theorem lc_read {K : PySem.W.Frag} {wi : TI} {mi : M (List D)} {ts ws : List Nat} {g : D → Dl → Option Dl} {mt : M Bool} {me : M D} {W0 : WX} (hts : ∀ k ∈ ts, k ∈ ws)
    (ri : ∀ C0 H0 B C H σ δ (R : It → Hp → Prop), SR K C0 H0 B C H σ δ → RP (mi δ) (fun items δ => ∀ J C1 H1, Ex C C1 → SR K C0 H0 B C1 H1 σ δ → ItOk K C1 J items → R J H1) (PXe K EC W C0 H0 B C σ) → wi σ H R) :
    ∀ C0 H0 B C H σ δ Q, SR K C0 H0 B C H σ δ → RP (mLcS ws mi g mt me δ) (PKl K C0 H0 B C σ Q) (PXe K EC W C0 H0 B C σ) → tLc wi (tGd K ts g) (tTd K EC W0 mt) (tE K EC W0 me) ws σ H Q := by
  intro C0 H0 B C H σ δ Q S h
  refine ri C0 H0 B C H σ δ _ S (RP.imp (RP.bind h) (fun items δ1 h1 J C1 H1 e1 S1 it => ?_) fun c d δ h => h)
  intro Dl hD
  obtain ⟨G, Y, wk, hG, hY⟩ := it.ex
  split at h1
  case isFalse => exact h1.elim
  rename_i hcond
  rw [Bool.and_eq_true] at hcond
  obtain ⟨hnv, hlen⟩ := hcond
  have hlen := of_decide_eq_true hlen
  have hBe := S1.noB hnv
  subst hBe
  have hB : ∀ p ∈ ([] : List (Nat × Addr)), p.1 ∉ ws := fun p hp => by cases hp
  have hnm : noMut δ1 ws = true := by
    refine List.all_eq_true.mpr fun v _ => ?_
    cases q : δ1[v]? with
    | none => rfl
    | some c =>
      cases c with
      | var b ds => exact absurd q (noVar_at hnv)
      | non => rfl
      | val d => rfl
  obtain ⟨h0D, nmD⟩ := S1.nm hD
  have hfin := RP.bind h1
  refine lc_it wk (fun i H' => ∃ C' δ' acc vs, Ex C1 C' ∧ SR K C0 H0 [] C' H' (wipe σ ws) (wipeD δ' ws) ∧ H' Dl = some (.lst vs) ∧ C' Dl = none ∧ noVar δ' = true ∧ acc.length ≤ i ∧ DqAll K C' vs acc ∧
    RP (mLc ws g mt me (items.drop i) δ') (fun ys δ2 => PKl K C0 H0 [] C1 σ Q (acc ++ ys) (backD δ1 δ2 ws)) (PXe K EC W C0 H0 [] C1 σ)) ⟨C1, δ1, [], [], Ex.refl _, (S1.newN hD).wipe hB, upd_same, free_of S1.ch hD, hnv, Nat.le_refl _, .nil, RP.imp hfin (fun ys δ2 z => PKl.mono e1 _ _ (show PKl K C0 H0 [] C σ Q ys (backD δ1 δ2 ws) from z)) (PXe.mono e1)⟩
    (fun i H' _ ⟨C', δ', acc, vs, e2, S2, _⟩ => hG H' (e2.trans S2.ch)) ?_ ?_
  · rintro i x H2 H3 hi ⟨C', δ', acc, vs, e2, S2, hDl, hCD, hv, hacc, dacc, q⟩ y
    have hdrop : items.drop i = items[i] :: items.drop (i + 1) := List.drop_eq_getElem_cons hi
    have hget : items[i]? = some items[i] := List.getElem?_eq_getElem hi
    rw [hdrop] at q
    unfold mLc at q
    have nw := noVar_wipe hv ws
    have T2 := S2.rebase nw
    have hlong : vs.length ≤ i := by rw [dpa_len dacc]; exact hacc
    refine hY i _ hget C' H2 x H3 (fun x H3 => tGd K ts g x (wipe σ ws) H3 _) e2 S2.ch y (rs_of (C0 := C') (H0 := H2) (B := []) (σ := wipe σ ws) (δ := wipeD δ' ws) T2 fun v C3 H3 e3 T3 d3 => ?_)
    cases hg1 : g items[i] (wipeD δ' ws) with
    | none => rw [hg1] at q; exact q.elim
    | some δ1' =>
      rw [hg1] at q
      refine ⟨C', H2, [], C3, wipeD δ' ws, δ1', items[i], T3, d3, hg1, fun σ4 T4 w4 => ?_⟩
      have w4' : wipe σ4 ws = wipe σ ws := by
        have := w4 ws hts
        have z : ∀ (us : List Nat), wipe (wipe σ us) us = wipe σ us := by
          intro us
          apply List.ext_getElem?
          intro k
          by_cases hk : k ∈ us
          · cases k1 : (wipe (wipe σ us) us)[k]? with
            | none =>
              have := List.getElem?_eq_none_iff.mp k1
              rw [wipe_length] at this
              exact (List.getElem?_eq_none_iff.mpr this).symm
            | some c =>
              have hl := (List.getElem?_eq_some_iff.mp k1).1
              rw [wipe_length] at hl
              cases c with
              | some v => exact absurd hk (wipe_some k1).2
              | none =>
                cases k2 : (wipe σ us)[k]? with
                | none =>
                  have := List.getElem?_eq_none_iff.mp k2
                  omega
                | some c2 =>
                  cases c2 with
                  | none => rfl
                  | some v => exact absurd hk (wipe_some k2).2
          · rw [wipe_out' hk]
        rw [this, z]
      refine ⟨w4', C', H2, [], C3, δ1', T4, RP.imp (RP.noex (RP.bind q)) (fun b δ5 h5 C5 H5 e5 T5 => ?_) fun _ _ _ z => z⟩
      have hD5 : H5 Dl = some (.lst vs) := T5.fr Dl _ hDl fun p hp => by cases hp
      have hC5 : C5 Dl = none := T5.nw Dl (by rw [hDl]; exact fun z => nomatch z) hCD
      dsimp only
      cases b with
      | false =>
        rw [if_neg Bool.false_ne_true] at h5 ⊢
        split at h5
        case isFalse => exact h5.elim
        rename_i hv5
        have S5 := (S2.unbase T5).wipe (vs := ws) hB
        rw [w4'] at S5
        exact ⟨C5, δ5, acc, vs, e2.trans (e3.trans e5), S5, hD5, hC5, hv5, Nat.le_succ_of_le hacc, dpAll_ex (e3.trans e5) _ _ dacc, h5⟩
      | true =>
        rw [if_pos rfl] at h5 ⊢
        refine ⟨C', H2, [], C5, δ5, T5, RP.imp (RP.noex (RP.bind h5)) (fun yd δ6 h6 yv C6 H6 e6 T6 d6 => ?_) fun _ _ _ z => z⟩
        have hD6 : H6 Dl = some (.lst vs) := T6.fr Dl _ hDl fun p hp => by cases hp
        have hC6 : C6 Dl = none := T6.nw Dl (by rw [hDl]; exact fun z => nomatch z) hCD
        split at h6
        case isFalse => exact h6.elim
        rename_i hv6
        have S6 := (S2.unbase T6).wipe (vs := ws) hB
        rw [w4'] at S6
        have nv6 := noVar_wipe hv6 ws
        have hszz : vs.length < sizeLine := by rw [line_eq]; omega
        have e36 := e3.trans (e5.trans e6)
        refine ⟨vs, hD6, hszz, C6, δ6, acc ++ [yd], vs ++ [yv], e2.trans e36, S6.mutN h0D hC6 (fun i b es z => absurd z (noVar_at nv6)), upd_same, hC6, hv6, by rw [List.length_append]; exact Nat.succ_le_succ hacc, dpa_app (dpAll_ex e36 _ _ dacc) (dpa_one d6), ?_⟩
        refine RP.imp (RP.bind h6) (fun ys δ7 h7 => ?_) fun _ _ _ z => z
        rw [List.append_assoc]
        exact h7
  · rintro H' ⟨C', δ', acc, vs, e2, S2, hDl, hCD, hv, hacc, dacc, q⟩
    rw [List.drop_length] at q
    have q : PKl K C0 H0 [] C1 σ Q (acc ++ []) (backD δ1 δ' ws) := q
    rw [List.append_nil] at q
    have S3 := S1.back hnm e2 S2
    refine q Dl vs C' H' e2 S3 hCD hDl h0D (fun i b es z => ?_) dacc
    by_cases hk : i ∈ ws
    · have z1 := backD_in hk z
      unfold List.getD at z1
      cases k : δ1[i]? with
      | none => rw [k] at z1; cases z1
      | some c =>
        rw [k] at z1
        have z1 : Cell.var b es = c := z1
        rw [← z1] at k
        exact absurd k (noVar_at hnv)
    · rw [backD_out hk] at z
      exact absurd z (noVar_at hv)
theorem dl_lc {elt tg iter : Expr} {ifs : List Expr} {scope : Scope} {own : List (Str × Nat)} {pos : Pos} {mi : M (List D)} {ts : List Nat} {g : D → Dl → Option Dl} {mt : M Bool} {me : M D} {W0 : WX} (hc : X.calm = true) (hN : X.N.Nodup) (hi : DI X EC W tg iter mi) (ok : BlkOk X.N X.env.scope scope own)
    (hg : ∀ (s : Shared) (H : Hp) (C : Addr) (cl : List (Str × Addr)) (fp : List Addr), DG (X.blk s H scope (compEnvC scope cl C X.env) fp) tg ts g) (hts : ∀ k ∈ ts, k ∈ own.map (·.2))
    (ht : ∀ (s : Shared) (H : Hp) (C : Addr) (cl : List (Str × Addr)) (fp : List Addr), DTs (X.blk s H scope (compEnvC scope cl C X.env) fp) EC W0 ifs mt)
    (he : ∀ (s : Shared) (H : Hp) (C : Addr) (cl : List (Str × Addr)) (fp : List Addr), DE (X.blk s H scope (compEnvC scope cl C X.env) fp) EC W0 elt me) (hs : ∀ x, foldedSetIterable iter X.env x = pure x := by intro _; rfl) :
    DL' X EC W (.ListComp elt [⟨tg, iter, ifs, 0⟩] scope pos) (mLcS (own.map (·.2)) mi g mt me) := by
  obtain ⟨wi, pi, ri⟩ := hi.ex
  exact ⟨_, pe_lc (g := tGd X.K ts g) (tt := tTd X.K EC W0 mt) (te := tE X.K EC W0 me) hc hN pi ok (fun s H C cl fp => (hg s H C cl fp).pg) (fun s H C cl fp => (ht s H C cl fp).ex) (fun s H C cl fp => (he s H C cl fp).pe) hs, lc_read hts ri⟩
/-- name = [..], as data | to be changed -/
def mSetL (i : Nat) (m : M (List D)) : M Fl := fun δ => (m δ).bind fun ds δ => match setV i (.list ds) δ with
  | some δ' => .ok .nx δ'
  | none => .no
def mSetM (i : Nat) (m : M (List D)) : M Fl := fun δ => (m δ).bind fun ds δ => match setM i ds δ with
  | some δ' => .ok .nx δ'
  | none => .no
theorem set_readL {K : PySem.W.Frag} {i : Nat} {te : TE} {m : M (List D)} (re : ∀ C0 H0 B C H σ δ Q, SR K C0 H0 B C H σ δ → RP (m δ) (PKl K C0 H0 B C σ Q) (PXe K EC W C0 H0 B C σ) → te σ H Q) :
    ∀ C0 H0 B C H σ δ (N : L2.Ends), SR K C0 H0 B C H σ δ → RP (mSetL i m δ) (PKs K C0 H0 B C N) (PXs K EC W C0 H0 B C) → tAsg te (gName i) N σ H := by
  intro C0 H0 B C H σ δ N S h
  refine re C0 H0 B C H σ δ _ S (RP.imp (RP.bind h) (fun ds δ1 h1 p xs C1 H1 e1 S1 hC hH h0 nm d1 => ?_) fun c d δ h v dd C2 H2 e2 S2 z1 z2 => h σ v dd C2 H2 e2 S2 z1 z2)
  have e2 : Ex C1 (upd C1 p (.lst xs)) := Ex.new hC
  split at h1
  case h_2 => exact h1.elim
  rename_i δ' hv
  -- the new list becomes data
  obtain ⟨a1, a2, rfl⟩ := setV_some hv
  have S2 : SR K C0 H0 B (upd C1 p (.lst xs)) H1 σ δ1 := ⟨S1.len, S1.c0.trans e2, fun a o q => by
      by_cases ha : a = p
      · subst ha
        rw [upd_same] at q
        rw [← q]
        exact hH
      · rw [upd_ne ha] at q
        exact S1.ch a o q, S1.fr, fun a h2 h3 => by
      rw [upd_ne fun z => h2 (by rw [z]; exact h0)]
      exact S1.nw a h2 h3, fun i d hi => by
      obtain ⟨v, h2, h3⟩ := S1.val i d hi
      exact ⟨v, h2, dp_ex e2 _ _ h3⟩, fun i ds hi => by
      obtain ⟨l, ys, h2, h3, h4, h5, h6⟩ := S1.own i ds hi
      refine ⟨l, ys, h2, h3, ?_, h5, dpAll_ex e2 _ _ h6⟩
      rw [upd_ne fun z => nm i false ds hi (by rw [← z]; exact h2)]
      exact h4, fun k hk => by
      obtain ⟨ds, ys, h2, h3, h4, h5, h6⟩ := S1.bor k hk
      refine ⟨ds, ys, h2, h3, ?_, h5, dpAll_ex e2 _ _ h6⟩
      rw [upd_ne fun z => nm k.1 true ds h2 (by rw [← z]; exact h3)]
      exact h4, S1.btr, S1.bd1, S1.bd2, S1.bH0, S1.odis⟩
  exact h1 (σ.set i (some (.ref p))) _ H1 (e1.trans e2) (S2.setC a1 a2 (fun d z => by cases z; exact .lst (SqL.of upd_same) (dpAll_ex e2 _ _ d1)) fun b ds z => by cases z)
theorem set_readM {K : PySem.W.Frag} {i : Nat} {te : TE} {m : M (List D)} (re : ∀ C0 H0 B C H σ δ Q, SR K C0 H0 B C H σ δ → RP (m δ) (PKl K C0 H0 B C σ Q) (PXe K EC W C0 H0 B C σ) → te σ H Q) :
    ∀ C0 H0 B C H σ δ (N : L2.Ends), SR K C0 H0 B C H σ δ → RP (mSetM i m δ) (PKs K C0 H0 B C N) (PXs K EC W C0 H0 B C) → tAsg te (gName i) N σ H := by
  intro C0 H0 B C H σ δ N S h
  refine re C0 H0 B C H σ δ _ S (RP.imp (RP.bind h) (fun ds δ1 h1 p xs C1 H1 e1 S1 hC hH h0 nm d1 => ?_) fun c d δ h v dd C2 H2 e2 S2 z1 z2 => h σ v dd C2 H2 e2 S2 z1 z2)
  split at h1
  case h_2 => exact h1.elim
  rename_i δ' hv
  obtain ⟨a1, a2, rfl⟩ := setM_some hv
  refine h1 (σ.set i (some (.ref p))) C1 H1 e1 (S1.setC a1 a2 (fun d z => by cases z) fun b es z => ?_)
  cases z
  exact ⟨rfl, p, xs, rfl, h0, hC, hH, d1, nm⟩
end
end DL
end Part_DLf

section Part_DLg
set_option Elab.async false
set_option linter.all false
set_option maxRecDepth 100000
set_option autoImplicit false
set_option maxHeartbeats 2000000
namespace DL
open PySem PySem.Spec PyProof.Rows L2 Evl

section
variable {X : Cx} {EC : ECl} {W : WX} {a b c e o : Expr} {es : List Expr} {ma mb mc mo : M D} {mes : M (List D)} {pos p p2 apos : Pos} {tg iter : Expr} {ts us : List Nat} {g g2 : D → Dl → Option Dl} {st : Stmt} {rest sa sb : List Stmt} {m1 m2 m3 : M Fl} {mt : M Bool}
theorem PXs.of {K : PySem.W.Frag} {C0 H0 : Hp} {B : List (Nat × Addr)} {C : Hp} {σ : L2.St} : ∀ c d δ, PXs K EC W C0 H0 B C c d δ → PXe K EC W C0 H0 B C σ c d δ := fun c d δ h v dd C2 H2 e2 S2 z1 z2 => h σ v dd C2 H2 e2 S2 z1 z2
theorem PXs.mono {K : PySem.W.Frag} {C0 H0 : Hp} {B : List (Nat × Addr)} {C C' : Hp} (e : Ex C C') : ∀ c d δ, PXs K EC W C0 H0 B C c d δ → PXs K EC W C0 H0 B C' c d δ := fun c d δ h σ v dd C2 H2 e2 => h σ v dd C2 H2 (e.trans e2)
theorem PKs.mono {K : PySem.W.Frag} {C0 H0 : Hp} {B : List (Nat × Addr)} {C C' : Hp} (e : Ex C C') {N : L2.Ends} : ∀ f δ, PKs K C0 H0 B C N f δ → PKs K C0 H0 B C' N f δ := fun f δ h σ C2 H2 e2 => h σ C2 H2 (e.trans e2)

/-! ### blocks -/
def mSkip : M Fl := fun δ => .ok .nx δ
def mSeq (m m' : M Fl) : M Fl := fun δ => (m δ).bind fun f δ => match f with
  | .nx => m' δ
  | f => .ok f δ
theorem dss_nil : DSs X EC W [] mSkip := ⟨_, pss_nil, fun C0 H0 B C H σ δ N S h => h σ C H (Ex.refl C) S⟩
theorem dss_cons (h1 : DS X EC W st m1) (h2 : DSs X EC W rest m2) : DSs X EC W (st :: rest) (mSeq m1 m2) := by
  obtain ⟨t1, p1, r1⟩ := h1.ex
  obtain ⟨t2, p2, r2⟩ := h2.ex
  refine ⟨_, pss_cons p1 p2, fun C0 H0 B C H σ δ N S h => r1 C0 H0 B C H σ δ _ S (RP.imp (RP.bind h) (fun f δ1 h1 σ1 C1 H1 e1 S1 => ?_) fun c d δ h => h)⟩
  cases f with
  | nx => exact r2 C0 H0 B C1 H1 σ1 δ1 N S1 (RP.imp h1 (PKs.mono e1) (PXs.mono e1))
  | rt d => exact h1 σ1 C1 H1 e1 S1
  | bk => exact h1 σ1 C1 H1 e1 S1
  | ct => exact h1 σ1 C1 H1 e1 S1
theorem dss_one (h1 : DS X EC W st m1) : DSs X EC W [st] m1 := let ⟨t, p, r⟩ := h1.ex; ⟨t, pss_one p, r⟩
/-- the list of a slot is not changed any more -/
def mFrz (i : Nat) (m : M Fl) : M Fl := fun δ => match frz i δ with
  | some δ' => m δ'
  | none => .no
theorem dss_frz {sts : List Stmt} (i : Nat) (h : DSs X EC W sts m1) : DSs X EC W sts (mFrz i m1) := by
  obtain ⟨t, p, r⟩ := h.ex
  refine ⟨t, p, fun C0 H0 B C H σ δ N S h => ?_⟩
  unfold mFrz at h
  split at h
  · rename_i δ' q
    obtain ⟨C2, e2, S2⟩ := S.frz q
    exact r C0 H0 B C2 H σ δ' N S2 (RP.imp h (PKs.mono e2) (PXs.mono e2))
  · exact h.elim
theorem dss_no {sts : List Stmt} : DSs X EC W sts mNo := ⟨_, pss_never, fun C0 H0 B C H σ δ N S h => h⟩
theorem ds_no : DS X EC W st mNo := ⟨_, ps_never, fun C0 H0 B C H σ δ N S h => h⟩
theorem ds_pass : DS X EC W (.Pass pos) mSkip := ⟨_, ps_pass, fun C0 H0 B C H σ δ N S h => h σ C H (Ex.refl C) S⟩
def mBk : M Fl := fun δ => .ok .bk δ
def mCt : M Fl := fun δ => .ok .ct δ
theorem ds_break : DS X EC W (.Break pos) mBk := ⟨_, ps_break, fun C0 H0 B C H σ δ N S h => h σ C H (Ex.refl C) S⟩
theorem ds_cont : DS X EC W (.Continue pos) mCt := ⟨_, ps_continue, fun C0 H0 B C H σ δ N S h => h σ C H (Ex.refl C) S⟩
def mRet (a : M D) : M Fl := fun δ => (a δ).bind fun d δ => .ok (.rt d) δ
theorem ds_ret (h : DE X EC W e ma) : DS X EC W (.Return (some e) pos) (mRet ma) := by
  obtain ⟨t, p, r⟩ := h.ex
  exact ⟨_, ps_ret p, fun C0 H0 B C H σ δ N S h => r C0 H0 B C H σ δ _ S (RP.imp (RP.bind h) (fun d δ1 h1 v C1 H1 e1 S1 d1 => h1 σ C1 H1 e1 S1 v d1) PXs.of)⟩
def mIf (t : M Bool) (m m' : M Fl) : M Fl := fun δ => (t δ).bind fun b δ => if b then m δ else m' δ
theorem ds_if (hc : DT X EC W c mt) (h1 : DSs X EC W sa m1) (h2 : DSs X EC W sb m2) : DS X EC W (.If c sa sb pos) (mIf mt m1 m2) := by
  obtain ⟨t0, p0, r0⟩ := hc.ex
  obtain ⟨t1, p1, r1⟩ := h1.ex
  obtain ⟨t2, p2, r2⟩ := h2.ex
  refine ⟨_, ps_if p0 p1 p2, fun C0 H0 B C H σ δ N S h => r0 C0 H0 B C H σ δ _ S (RP.imp (RP.bind h) (fun k δ1 h1 C1 H1 e1 S1 => ?_) PXs.of)⟩
  cases k with
  | true => exact r1 C0 H0 B C1 H1 σ δ1 N S1 (RP.imp h1 (PKs.mono e1) (PXs.mono e1))
  | false => exact r2 C0 H0 B C1 H1 σ δ1 N S1 (RP.imp h1 (PKs.mono e1) (PXs.mono e1))
def mAsg (g : D → Dl → Option Dl) (a : M D) : M Fl := fun δ => (a δ).bind fun d δ => match g d δ with
  | some δ' => .ok .nx δ'
  | none => .no
theorem ds_asg (h : DE X EC W e ma) (hg : DG X tg ts g) (hs : swapsWithSole [tg] e pos.line X.env = pure false := by rfl) (hw : swappedStores [tg] e X.env = pure none := by rfl)
    (h1 : (assignEach [tg] X.env).map (·.2) = [assign tg X.env] := by rfl) : DS X EC W (.Assign [tg] e pos) (mAsg g ma) := by
  obtain ⟨t, p, r⟩ := h.ex
  obtain ⟨t2, p2, r2⟩ := hg.ex
  refine ⟨_, ps_asg p p2 hs hw h1, fun C0 H0 B C H σ δ N S h => r C0 H0 B C H σ δ _ S (RP.imp (RP.bind h) (fun d δ1 h1 v C1 H1 e1 S1 d1 => ?_) PXs.of)⟩
  split at h1
  · rename_i δ' q
    exact r2 C0 H0 B C1 H1 σ δ1 δ' v d _ S1 d1 q fun σ' S2 _ => h1 σ' C1 H1 e1 S2
  · exact h1.elim
theorem ds_set (i : Nat) {x : Str} {pos' : Pos} (hN : X.N.Nodup) (h : DE X EC W e ma) (hi : X.N[i]? = some x := by rfl) (hx : Loc X.env.scope x := by first | exact Or.inl rfl | exact Or.inr rfl) (hs : swapsWith e (some (.Name x pos')) pos.line X.env = pure false := by rfl)
    (hf : X.fn x = true ∨ X.env.scope.names.lookup x = some .local := by first | exact .inl rfl | exact .inr rfl) : DS X EC W (.Assign [.Name x pos'] e pos) (mAsg (setV i) ma) := by
  obtain ⟨t, p, r⟩ := h.ex
  refine ⟨_, ps_set hN hi hx p hs hf, fun C0 H0 B C H σ δ N S h => r C0 H0 B C H σ δ _ S (RP.imp (RP.bind h) (fun d δ1 h1 v C1 H1 e1 S1 d1 => ?_) PXs.of)⟩
  split at h1
  · rename_i δ' q
    exact h1 _ C1 H1 e1 (S1.set q d1)
  · exact h1.elim
theorem ds_setM (i : Nat) {x : Str} {pos' : Pos} {ml : M (List D)} (hN : X.N.Nodup) (h : DL' X EC W e ml) (hi : X.N[i]? = some x := by rfl) (hx : Loc X.env.scope x := by first | exact Or.inl rfl | exact Or.inr rfl) (hs : swapsWith e (some (.Name x pos')) pos.line X.env = pure false := by rfl)
    (hf : X.fn x = true ∨ X.env.scope.names.lookup x = some .local := by first | exact .inl rfl | exact .inr rfl) : DS X EC W (.Assign [.Name x pos'] e pos) (mSetM i ml) := by
  obtain ⟨t, p, r⟩ := h.ex
  exact ⟨_, ps_set hN hi hx p hs hf, set_readM r⟩
/-- name = [.. for ..] on one line -/
theorem ds_setLc (i : Nat) {y : Str} {py : Pos} {elt tg iter : Expr} {ifs : List Expr} {scope : Scope} {own : List (Str × Nat)} {pos spos : Pos} {mi : M (List D)} {ts : List Nat} {g : D → Dl → Option Dl} {mt : M Bool} {me : M D} {W0 : WX} (hc : X.calm = true) (hN : X.N.Nodup) (hy : X.N[i]? = some y) (hyl : X.env.scope.names.lookup y = some .local)
    (hsw : swapsWith (.ListComp elt [⟨tg, iter, ifs, 0⟩] scope pos) (some (.Name y py)) spos.line X.env = pure true) (hi : DI X EC W tg iter mi) (ok : BlkOk X.N X.env.scope scope own)
    (hg : ∀ (s : Shared) (H : Hp) (C : Addr) (cl : List (Str × Addr)) (fp : List Addr), DG (X.blk s H scope (compEnvC scope cl C X.env) fp) tg ts g) (hts : ∀ k ∈ ts, k ∈ own.map (·.2))
    (ht : ∀ (s : Shared) (H : Hp) (C : Addr) (cl : List (Str × Addr)) (fp : List Addr), DTs (X.blk s H scope (compEnvC scope cl C X.env) fp) EC W0 ifs mt)
    (he : ∀ (s : Shared) (H : Hp) (C : Addr) (cl : List (Str × Addr)) (fp : List Addr), DE (X.blk s H scope (compEnvC scope cl C X.env) fp) EC W0 elt me) (hs : ∀ x, foldedSetIterable iter X.env x = pure x := by intro _; rfl) :
    DS X EC W (.Assign [.Name y py] (.ListComp elt [⟨tg, iter, ifs, 0⟩] scope pos) spos) (mSetL i (mLcS (own.map (·.2)) mi g mt me)) := by
  obtain ⟨wi, pi, ri⟩ := hi.ex
  exact ⟨_, ps_setLc (g := tGd X.K ts g) (tt := tTd X.K EC W0 mt) (te := tE X.K EC W0 me) hc hN hy hyl hsw pi ok (fun s H C cl fp => (hg s H C cl fp).pg) (fun s H C cl fp => (ht s H C cl fp).ex) (fun s H C cl fp => (he s H C cl fp).pe) hs, set_readL (lc_read hts ri)⟩
theorem ds_setLcM (i : Nat) {y : Str} {py : Pos} {elt tg iter : Expr} {ifs : List Expr} {scope : Scope} {own : List (Str × Nat)} {pos spos : Pos} {mi : M (List D)} {ts : List Nat} {g : D → Dl → Option Dl} {mt : M Bool} {me : M D} {W0 : WX} (hc : X.calm = true) (hN : X.N.Nodup) (hy : X.N[i]? = some y) (hyl : X.env.scope.names.lookup y = some .local)
    (hsw : swapsWith (.ListComp elt [⟨tg, iter, ifs, 0⟩] scope pos) (some (.Name y py)) spos.line X.env = pure true) (hi : DI X EC W tg iter mi) (ok : BlkOk X.N X.env.scope scope own)
    (hg : ∀ (s : Shared) (H : Hp) (C : Addr) (cl : List (Str × Addr)) (fp : List Addr), DG (X.blk s H scope (compEnvC scope cl C X.env) fp) tg ts g) (hts : ∀ k ∈ ts, k ∈ own.map (·.2))
    (ht : ∀ (s : Shared) (H : Hp) (C : Addr) (cl : List (Str × Addr)) (fp : List Addr), DTs (X.blk s H scope (compEnvC scope cl C X.env) fp) EC W0 ifs mt)
    (he : ∀ (s : Shared) (H : Hp) (C : Addr) (cl : List (Str × Addr)) (fp : List Addr), DE (X.blk s H scope (compEnvC scope cl C X.env) fp) EC W0 elt me) (hs : ∀ x, foldedSetIterable iter X.env x = pure x := by intro _; rfl) :
    DS X EC W (.Assign [.Name y py] (.ListComp elt [⟨tg, iter, ifs, 0⟩] scope pos) spos) (mSetM i (mLcS (own.map (·.2)) mi g mt me)) := by
  obtain ⟨wi, pi, ri⟩ := hi.ex
  exact ⟨_, ps_setLc (g := tGd X.K ts g) (tt := tTd X.K EC W0 mt) (te := tE X.K EC W0 me) hc hN hy hyl hsw pi ok (fun s H C cl fp => (hg s H C cl fp).pg) (fun s H C cl fp => (ht s H C cl fp).ex) (fun s H C cl fp => (he s H C cl fp).pe) hs, set_readM (lc_read hts ri)⟩
def mAug (i : Nat) (f : Int → Int → Int) (a : M D) : M Fl := fun δ => match δ[i]? with
  | some (.val (.int x)) => (a δ).bind fun d δ => match d with
    | .int y => match setV i (.int (f x y)) δ with
      | some δ' => .ok .nx δ'
      | none => .no
    | _ => .no
  | _ => .no
theorem ds_aug (i : Nat) {x : Str} {pos' : Pos} {op : Operator} {f : Int → Int → Int} (hN : X.N.Nodup) (h : DE X EC W e ma) (ho : PIp X op (ipI f)) (hi : X.N[i]? = some x := by rfl) (hx : Loc X.env.scope x := by first | exact Or.inl rfl | exact Or.inr rfl)
    (hf : X.fn x = true ∨ X.env.scope.names.lookup x = some .local := by first | exact .inl rfl | exact .inr rfl) : DS X EC W (.AugAssign (.Name x pos') op e pos) (mAug i f ma) := by
  obtain ⟨t, p, r⟩ := h.ex
  refine ⟨_, ps_aug hN hi hx p ho hf, fun C0 H0 B C H σ δ N S h => ?_⟩
  unfold mAug at h
  split at h
  · rename_i y q
    obtain ⟨v, h1, h2⟩ := S.val i _ q
    cases h2
    refine ⟨_, h1, r C0 H0 B C H σ δ _ S (RP.imp (RP.bind h) (fun d δ1 h1 v C1 H1 e1 S1 d1 => ?_) PXs.of)⟩
    split at h1
    · split at h1
      · rename_i δ' q'
        cases d1
        exact ⟨_, _, rfl, rfl, h1 _ C1 H1 e1 (S1.set q' (.int _))⟩
      · exact h1.elim
    · exact h1.elim
  · exact h.elim

/-! ### a list that is changed -/
theorem SR.chg {K : PySem.W.Frag} {C0 H0 C H : Hp} {B : List (Nat × Addr)} {σ : L2.St} {δ : Dl} (S : SR K C0 H0 B C H σ δ) {i : Nat} {b : Bool} {ds : List D} (h : δ[i]? = some (.var b ds)) :
    ∃ l xs, σ[i]? = some (some (.ref l)) ∧ H l = some (.lst xs) ∧ DqAll K C xs ds ∧ C l = none ∧ ∀ ys es, DqAll K C ys es → SR K C0 H0 B C (upd H l (.lst ys)) σ (δ.set i (.var b es)) := by
  have hi : i < δ.length := (List.getElem?_eq_some_iff.mp h).1
  have fin : ∀ l xs, σ[i]? = some (some (.ref l)) → H l = some (.lst xs) → C l = none → (b = false → H0 l = none) → (b = true → (i, l) ∈ B) → ∀ ys es, DqAll K C ys es → SR K C0 H0 B C (upd H l (.lst ys)) σ (δ.set i (.var b es)) := by
    intro l xs h1 h2 h3 h4 h5 ys es hd
    have other : ∀ (k : Nat) (b' : Bool) (fs : List D), k ≠ i → δ[k]? = some (.var b' fs) → ∀ l', σ[k]? = some (some (.ref l')) → l' ≠ l := fun k b' fs hk z l' z' e => by
      subst e
      cases b with
      | false =>
        cases b' with
        | false => exact S.odis k i fs ds hk z h l' z' h1
        | true =>
          obtain ⟨m, hm⟩ := S.btr k fs z
          obtain ⟨_, _, _, w2, _⟩ := S.bor _ hm
          rw [z'] at w2
          cases w2
          exact S.bH0 _ hm (h4 rfl)
      | true =>
        have hb := h5 rfl
        cases b' with
        | false =>
          obtain ⟨m, _, w1, w2, _⟩ := S.own k fs z
          rw [z'] at w1
          cases w1
          exact S.bH0 _ hb w2
        | true =>
          obtain ⟨m, hm⟩ := S.btr k fs z
          obtain ⟨_, _, _, w2, _⟩ := S.bor _ hm
          rw [z'] at w2
          cases w2
          exact hk (S.bd1 _ hm _ hb rfl)
    refine ⟨by rw [List.length_set]; exact S.len, S.c0, fun a u z => ?_, fun a u z hb => ?_, S.nw, fun k d z => ?_, fun k fs z => ?_, fun p hp => ?_, fun k fs z => ?_, S.bd1, S.bd2, S.bH0, fun k j fs gs hkj z1 z2 => ?_⟩
    · rw [upd_ne (ne_of_none z h3)]
      exact S.ch a u z
    · have hn : a ≠ l := fun e => by
        subst e
        cases b with
        | false => rw [h4 rfl] at z; cases z
        | true => exact hb _ (h5 rfl) rfl
      rw [upd_ne hn]
      exact S.fr a u z hb
    · have hn : i ≠ k := fun e => by
        subst e
        rw [List.getElem?_set_self hi] at z
        cases z
      rw [List.getElem?_set_ne hn] at z
      exact S.val k d z
    · by_cases q : i = k
      · subst q
        rw [List.getElem?_set_self hi] at z
        cases z
        exact ⟨l, ys, h1, h4 rfl, h3, upd_same, hd⟩
      · rw [List.getElem?_set_ne q] at z
        obtain ⟨l', xs', w1, w2, w3, w4, w5⟩ := S.own k fs z
        refine ⟨l', xs', w1, w2, w3, ?_, w5⟩
        rw [upd_ne (other k false fs (fun e => q e.symm) z l' w1)]
        exact w4
    · obtain ⟨fs, xs', w1, w2, w3, w4, w5⟩ := S.bor p hp
      by_cases q : i = p.1
      · have e1 : (.var b ds : Cell) = .var true fs := by
          rw [q, w1] at h
          exact (Option.some.inj h).symm
        cases e1
        have e2 : p.2 = l := by
          rw [← q, h1] at w2
          exact (V.ref.inj (Option.some.inj (Option.some.inj w2))).symm
        refine ⟨es, ys, ?_, w2, w3, ?_, hd⟩
        · rw [← q, List.getElem?_set_self hi]
        · rw [e2]
          exact upd_same
      · refine ⟨fs, xs', ?_, w2, w3, ?_, w5⟩
        · rw [List.getElem?_set_ne q]
          exact w1
        · rw [upd_ne (other p.1 true fs (fun e => q e.symm) w1 p.2 w2)]
          exact w4
    · by_cases q : i = k
      · subst q
        rw [List.getElem?_set_self hi] at z
        cases z
        exact ⟨l, h5 rfl⟩
      · rw [List.getElem?_set_ne q] at z
        exact S.btr k fs z
    · by_cases q : i = k
      · subst q
        rw [List.getElem?_set_self hi] at z1
        cases z1
        rw [List.getElem?_set_ne hkj] at z2
        exact S.odis i j ds gs hkj h z2
      · rw [List.getElem?_set_ne q] at z1
        by_cases q' : i = j
        · subst q'
          rw [List.getElem?_set_self hi] at z2
          cases z2
          exact S.odis k i fs ds hkj z1 h
        · rw [List.getElem?_set_ne q'] at z2
          exact S.odis k j fs gs hkj z1 z2
  cases b with
  | false =>
    obtain ⟨l, xs, h1, h2, h3, h4, h5⟩ := S.own i ds h
    exact ⟨l, xs, h1, h4, h5, h3, fin l xs h1 h4 h3 (fun _ => h2) fun z => nomatch z⟩
  | true =>
    obtain ⟨l, hl⟩ := S.btr i ds h
    obtain ⟨ds', xs, h1, h2, h3, h4, h5⟩ := S.bor _ hl
    have h1' : δ[i]? = some (.var true ds') := h1
    rw [h] at h1'
    cases h1'
    exact ⟨l, xs, h2, h4, h5, h3, fin l xs h2 h4 h3 (fun z => nomatch z) fun _ => hl⟩
/-- xs.append(e), xs a list that may be changed -/
def mApp (i : Nat) (a : M D) : M Fl := fun δ => match δ[i]? with
  | some (.var _ _) => (a δ).bind fun d δ => match δ[i]? with
    | some (.var b ds) => if ds.length < LINE then .ok .nx (δ.set i (.var b (ds ++ [d]))) else .no
    | _ => .no
  | _ => .no
theorem ds_app (i : Nat) {x : Str} {px : Pos} (h : DE X EC W e ma) (hN : X.N[i]? = some x := by rfl) (hv : Vis X.env.scope x := by first | exact Or.inl rfl | exact Or.inr (Or.inl rfl) | exact Or.inr (Or.inr rfl)) (hd : (x == ("__debug__" : Str)) = false := by decide) (hcd : (x == ("__classdict__" : Str)) = false := by decide)
    (hbase : attributeBase (.Name x px) "append" X.env (eval (.Name x px) X.env) = eval (.Name x px) X.env := by rfl)
    (hfew : ((backTo pos (starEach (e :: []) X.env)).all (fun x => !x.1) && (backToKw pos (keywordEach [] X.env)).all (fun x => x.1.isSome)
      && decide ((e :: []).length + ([] : List Keyword).length + (if ([] : List Keyword).isEmpty then 0 else 1) < 30)) = true := by rfl)
    (hline : (apos.endLine == pos.line) = true := by rfl) (hs : starEach (e :: []) X.env = (false, eval e X.env) :: starEach [] X.env := by rfl) (hplain : (backTo pos (starEach [] X.env)).any (·.1) = false := by rfl)
    (hsw : swapsWith (.Call (.Attribute (.Name x px) "append" apos) [e] [] pos) none p2.line X.env = pure false := by rfl) :
    DS X EC W (.Expr (.Call (.Attribute (.Name x px) "append" apos) [e] [] pos) p2) (mApp i ma) := by
  obtain ⟨t, p, r⟩ := h.ex
  refine ⟨_, ps_expr (pe_bm PySem.F.plainAttrs_list PySem.F.slot_list_append PySem.F.type_list_append mt_append (pe_var hN hv hd hcd) (pa_cons p pa_nil hs) hbase hfew hline hs hplain) hsw, fun C0 H0 B C H σ δ N S h => ?_⟩
  unfold mApp at h
  split at h
  case h_2 => exact h.elim
  rename_i b0 ds0 hq
  obtain ⟨l0, xs0, k1, k2, k3, k4, _⟩ := S.chg hq
  refine ⟨.ref l0, k1, .inl ⟨rfl, xs0, SqL.of k2⟩, r C0 H0 B C H σ δ _ S (RP.imp (RP.bind h) (fun d δ1 h1 v C1 H1 e1 S1 d1 => ?_) PXs.of)⟩
  split at h1
  case h_2 => exact h1.elim
  rename_i b ds hq1
  split at h1
  case isFalse => exact h1.elim
  rename_i hlen
  obtain ⟨l, xs, w1, w2, w3, w4, w5⟩ := S1.chg hq1
  rw [k1] at w1
  cases w1
  exact ⟨_, xs, v, rfl, rfl, w2, by rw [line_eq, dpa_len w3]; exact hlen, h1 σ C1 _ e1 (w5 _ _ (dpa_app w3 (dpa_one d1)))⟩
/-- xs[i], len(xs), xs a list that may be changed -/
def mIxM (i : Nat) (a : M D) : M D := fun δ => match δ[i]? with
  | some (.var _ _) => (a δ).bind fun d δ => match δ[i]?, d with
    | some (.var _ ds), .int k => R.lift (atI ds k) δ
    | _, _ => .no
  | _ => .no
theorem de_ixM (i : Nat) {x : Str} {px : Pos} (h : DE X EC W e ma) (hN : X.N[i]? = some x := by rfl) (hv : Vis X.env.scope x := by first | exact Or.inl rfl | exact Or.inr (Or.inl rfl) | exact Or.inr (Or.inr rfl)) (hd : (x == ("__debug__" : Str)) = false := by decide) (hcd : (x == ("__classdict__" : Str)) = false := by decide)
    (hs : PlainIx e := by exact fun _ _ => rfl) : DE X EC W (.Subscript (.Name x px) e pos) (mIxM i ma) := by
  obtain ⟨t, p, r⟩ := h.ex
  refine ⟨_, pe_ix ix_list (pe_var hN hv hd hcd) p hs, fun C0 H0 B C H σ δ Q S h => ?_⟩
  unfold mIxM at h
  split at h
  case h_2 => exact h.elim
  rename_i b0 ds0 hq
  obtain ⟨l0, xs0, k1, k2, k3, k4, _⟩ := S.chg hq
  refine ⟨.ref l0, k1, r C0 H0 B C H σ δ _ S (RP.imp (RP.bind h) (fun d δ1 h1 v C1 H1 e1 S1 d1 => ?_) fun _ _ _ z => z)⟩
  split at h1
  case h_2 => exact h1.elim
  rename_i b ds k hq1
  obtain ⟨z, hz, q⟩ := RP.lift h1
  obtain ⟨l, xs, w1, w2, w3, w4, w5⟩ := S1.chg hq1
  rw [k1] at w1
  cases w1
  cases d1
  obtain ⟨u, hu, du⟩ := dpa_atI w3 hz
  exact ⟨_, xs, _, u, rfl, rfl, SqL.of w2, hu, q u C1 H1 e1 S1 du⟩
def mLenM (i : Nat) : M D := fun δ => match δ[i]? with
  | some (.var _ ds) => .ok (.int ds.length) δ
  | _ => .no
theorem de_lenM (i : Nat) {x : Str} {px : Pos} (hg : Gl X "len") (hm : X.mg "len" = none) (hN : X.N[i]? = some x := by rfl) (hv : Vis X.env.scope x := by first | exact Or.inl rfl | exact Or.inr (Or.inl rfl) | exact Or.inr (Or.inr rfl)) (hd : (x == ("__debug__" : Str)) = false := by decide) (hcd : (x == ("__classdict__" : Str)) = false := by decide)
    (he : starEach (Expr.Name x px :: []) X.env = (false, eval (Expr.Name x px) X.env) :: starEach [] X.env := by rfl) (hpl : (backTo pos (starEach [] X.env)).any (·.1) = false := by rfl) : DE X EC W (.Call (.Name "len" p) [.Name x px] [] pos) (mLenM i) := by
  refine ⟨_, pe_callB call_len_seq hg hm PySem.boot_len (pa_cons (pe_var hN hv hd hcd) pa_nil he) (by decide) (by decide) he hpl, fun C0 H0 B C H σ δ Q S h => ?_⟩
  unfold mLenM at h
  split at h
  case h_2 => exact h.elim
  rename_i b0 ds0 hq
  obtain ⟨l0, xs0, k1, k2, k3, k4, _⟩ := S.chg hq
  refine ⟨.ref l0, k1, l0, xs0, rfl, .inl (SqL.of k2), ?_⟩
  rw [dpa_len k3]
  exact h _ C H (Ex.refl C) S (.int _)
/-- xs[i] = e -/
def mSetIx (i : Nat) (a b : M D) : M Fl := fun δ => (a δ).bind fun d δ => match δ[i]? with
  | some (.var _ _) => (b δ).bind fun y δ => match δ[i]?, y with
    | some (.var c ds), .int k => match ixN ds.length k with
      | some j => .ok .nx (δ.set i (.var c (ds.set j d)))
      | none => .no
    | _, _ => .no
  | _ => .no
theorem ds_setIx (i : Nat) {x : Str} {px pt : Pos} (h : DE X EC W e ma) (hb : DE X EC W b mb) (hN : X.N[i]? = some x := by rfl) (hv : Vis X.env.scope x := by first | exact Or.inl rfl | exact Or.inr (Or.inl rfl) | exact Or.inr (Or.inr rfl)) (hd : (x == ("__debug__" : Str)) = false := by decide) (hcd : (x == ("__classdict__" : Str)) = false := by decide)
    (hs1 : ∀ v, assign (.Subscript (.Name x px) b pt) X.env v = (do
      let ov ← holding [v] (eval (.Name x px) X.env)
      let iv ← holding [v, ov] (eval b X.env)
      standAt pt
      holding [v, ov, iv] (setItem ov iv v)
      release [v, ov, iv] []) := by intro _; rfl)
    (hs : swapsWithSole [.Subscript (.Name x px) b pt] e pos.line X.env = pure false := by rfl) (hw : swappedStores [.Subscript (.Name x px) b pt] e X.env = pure none := by rfl)
    (h1 : (assignEach [.Subscript (.Name x px) b pt] X.env).map (·.2) = [assign (.Subscript (.Name x px) b pt) X.env] := by rfl) : DS X EC W (.Assign [.Subscript (.Name x px) b pt] e pos) (mSetIx i ma mb) := by
  obtain ⟨t, p, r⟩ := h.ex
  obtain ⟨t2, p2, r2⟩ := hb.ex
  refine ⟨_, ps_asg p (pg_sub (pe_var hN hv hd hcd) p2 set_list hs1) hs hw h1, fun C0 H0 B C H σ δ N S h => r C0 H0 B C H σ δ _ S (RP.imp (RP.bind h) (fun d δ1 h1 v C1 H1 e1 S1 d1 => ?_) PXs.of)⟩
  split at h1
  case h_2 => exact h1.elim
  rename_i b0 ds0 hq
  obtain ⟨l0, xs0, k1, k2, k3, k4, _⟩ := S1.chg hq
  refine ⟨.ref l0, k1, r2 C0 H0 B C1 H1 σ δ1 _ S1 (RP.imp (RP.bind h1) (fun y δ2 h2 w C2 H2 e2 S2 d2 => ?_) fun c d δ z => PXe.mono e1 _ _ _ (PXs.of c d δ z))⟩
  split at h2
  case h_2 => exact h2.elim
  rename_i b ds k hq1
  split at h2
  case h_2 => exact h2.elim
  rename_i j hj
  obtain ⟨l, xs, w1, w2, w3, w4, w5⟩ := S2.chg hq1
  rw [k1] at w1
  cases w1
  cases d2
  exact ⟨_, xs, k, j, rfl, rfl, w2, by rw [dpa_len w3]; exact hj, h2 σ C2 _ (e1.trans e2) (w5 _ _ (dpa_set (dp_ex e2 _ _ d1) j w3))⟩

/-! ### loops -/
def mFor (g : D → Dl → Option Dl) (body : M Fl) : List D → M Fl
  | [], δ => .ok .nx δ
  | x :: xs, δ => match g x δ with
    | none => .no
    | some δ1 => (body δ1).bind fun f δ2 => match f with
      | .nx => mFor g body xs δ2
      | .ct => mFor g body xs δ2
      | .bk => .ok .nx δ2
      | .rt d => .ok (.rt d) δ2
def mForS (it : M (List D)) (g : D → Dl → Option Dl) (body : M Fl) : M Fl := fun δ => (it δ).bind fun xs δ => mFor g body xs δ
theorem ds_for (hp : PassesOwn (model X.prog X.w) X.A X.env X.xe) (hc : X.calm = true) {mi : M (List D)} (hi : DI X EC W tg iter mi) (hg : DG X tg ts g) (hb : DSs X EC W sa m1) (hs : ∀ x, foldedSetIterable iter X.env x = pure x := by intro _; rfl) :
    DS X EC W (.For tg iter sa [] pos) (mForS mi g m1) := by
  obtain ⟨wi, pi, ri⟩ := hi.ex
  obtain ⟨tg', pg, rg⟩ := hg.ex
  obtain ⟨tb, pb, rb⟩ := hb.ex
  refine ⟨_, ps_for hp hc pi pg pb hs, fun C0 H0 B C H σ δ N S h => ri C0 H0 B C H σ δ _ S (RP.imp (RP.bind h) (fun items δ1 h1 J C1 H1 e1 S1 it => ?_) PXs.of)⟩
  obtain ⟨G, Y, wk, hG, hY⟩ := it.ex
  refine for_it wk (fun i σ' H' => ∃ C' δ', Ex C1 C' ∧ SR X.K C0 H0 B C' H' σ' δ' ∧ RP (mFor g m1 (items.drop i) δ') (PKs X.K C0 H0 B C1 N) (PXs X.K EC W C0 H0 B C1)) ⟨C1, δ1, Ex.refl _, S1, RP.imp h1 (PKs.mono e1) (PXs.mono e1)⟩ (fun i σ' H' _ ⟨C', δ', e2, S2, _⟩ => hG H' (e2.trans S2.ch)) ?_ ?_
  · rintro i x σ2 H2 H3 hi ⟨C', δ', e2, S2, q⟩ y
    have hdrop : items.drop i = items[i] :: items.drop (i + 1) := List.drop_eq_getElem_cons hi
    have hget : items[i]? = some items[i] := List.getElem?_eq_getElem hi
    rw [hdrop] at q
    unfold mFor at q
    refine hY i _ hget C' H2 x H3 (fun x H3 => tg' x σ2 H3 _) e2 S2.ch y (rs_of (C0 := C0) (H0 := H0) (B := B) (σ := σ2) (δ := δ') S2 fun v C3 H3 e3 S3 d3 => ?_)
    cases hg1 : g items[i] δ' with
    | none => rw [hg1] at q; exact q.elim
    | some δ4 =>
      rw [hg1] at q
      refine rg C0 H0 B C3 H3 σ2 δ' δ4 v _ _ S3 d3 hg1 fun σ4 S4 _ => rb C0 H0 B C3 H3 σ4 δ4 _ S4 (RP.imp (RP.bind q) (fun f δ5 h5 σ5 C5 H5 e5 S5 => ?_) (PXs.mono (e2.trans e3)))
      cases f with
      | nx => exact ⟨C5, δ5, (e2.trans e3).trans e5, S5, h5⟩
      | ct => exact ⟨C5, δ5, (e2.trans e3).trans e5, S5, h5⟩
      | bk => exact h5 σ5 C5 H5 ((e2.trans e3).trans e5) S5
      | rt d => exact h5 σ5 C5 H5 ((e2.trans e3).trans e5) S5
  · rintro σ2 H2 ⟨C', δ', e2, S2, q⟩
    rw [List.drop_length] at q
    exact q σ2 C' H2 e2 S2
def mWhile (t : M Bool) (body : M Fl) : Nat → M Fl
  | 0, _ => .no
  | n + 1, δ => (t δ).bind fun b δ1 => if b then (body δ1).bind fun f δ2 => match f with
      | .nx => mWhile t body n δ2
      | .ct => mWhile t body n δ2
      | .bk => .ok .nx δ2
      | .rt d => .ok (.rt d) δ2
    else .ok .nx δ1
open Classical in
noncomputable def mWhileS (t : M Bool) (body : M Fl) : M Fl := fun δ => if h : ∃ n, mWhile t body n δ ≠ .no then mWhile t body h.choose δ else .no
theorem bind_ne {α β : Type} {r : R α} {f : α → Dl → R β} (h : r.bind f ≠ .no) : r ≠ .no := fun e => h (by rw [e]; rfl)
theorem mWhile_succ (t : M Bool) (body : M Fl) : ∀ n δ, mWhile t body n δ ≠ .no → mWhile t body (n + 1) δ = mWhile t body n δ
  | 0, δ, h => absurd rfl h
  | n + 1, δ, h => by
    unfold mWhile at h ⊢
    cases q : t δ with
    | no => rfl
    | ex c d δ' => rfl
    | ok b δ1 =>
      rw [q] at h
      cases b with
      | false => rfl
      | true =>
        simp only [R.bind, if_true] at h ⊢
        cases q2 : body δ1 with
        | no => rfl
        | ex c d δ' => rfl
        | ok f δ2 =>
          rw [q2] at h
          cases f with
          | nx => exact mWhile_succ t body n δ2 h
          | ct => exact mWhile_succ t body n δ2 h
          | bk => rfl
          | rt d => rfl
theorem mWhile_add (t : M Bool) (body : M Fl) (n : Nat) (δ : Dl) (h : mWhile t body n δ ≠ .no) : ∀ k, mWhile t body (n + k) δ = mWhile t body n δ
  | 0 => rfl
  | k + 1 => by
    have ih := mWhile_add t body n δ h k
    show mWhile t body ((n + k) + 1) δ = _
    rw [mWhile_succ t body (n + k) δ (by rw [ih]; exact h), ih]
theorem mWhileS_eq {t : M Bool} {body : M Fl} {n : Nat} {δ : Dl} (h : mWhile t body n δ ≠ .no) : mWhileS t body δ = mWhile t body n δ := by
  have hx : ∃ n, mWhile t body n δ ≠ .no := ⟨n, h⟩
  unfold mWhileS
  rw [dif_pos hx]
  have hc := hx.choose_spec
  rcases Nat.le_total n hx.choose with l | l
  · obtain ⟨k, e⟩ := Nat.le.dest l
    rw [← e]
    exact mWhile_add t body n δ h k
  · obtain ⟨k, e⟩ := Nat.le.dest l
    rw [← e]
    exact (mWhile_add t body _ δ hc k).symm
theorem ds_while (hp : PassesOwn (model X.prog X.w) X.A X.env X.xe) (hc : DT X EC W c mt) (hb : DSs X EC W sa m1) : DS X EC W (.While c sa [] pos) (mWhileS mt m1) := by
  obtain ⟨tc, pc, rc⟩ := hc.ex
  obtain ⟨tb, pb, rb⟩ := hb.ex
  refine ⟨_, ps_while hp pc pb, fun C0 H0 B C H σ δ N S h => ?_⟩
  unfold mWhileS at h
  split at h
  case isFalse => exact h.elim
  rename_i hx
  refine ⟨fun n σ' H' => ∃ C' δ', Ex C C' ∧ SR X.K C0 H0 B C' H' σ' δ' ∧ RP (mWhile mt m1 n δ') (PKs X.K C0 H0 B C N) (PXs X.K EC W C0 H0 B C), ⟨_, C, δ, Ex.refl C, S, h⟩, ?_⟩
  rintro n σ2 H2 ⟨C', δ', e2, S2, q⟩
  cases n with
  | zero => exact q.elim
  | succ n =>
    unfold mWhile at q
    refine rc C0 H0 B C' H2 σ2 δ' _ S2 (RP.imp (RP.bind q) (fun b δ3 h3 C3 H3 e3 S3 => ?_) fun c d δ z => PXs.of c d δ (PXs.mono e2 c d δ z))
    cases b with
    | false => exact h3 σ2 C3 H3 (e2.trans e3) S3
    | true =>
      refine ⟨fun σ' H' => ∃ C' δ', Ex C C' ∧ SR X.K C0 H0 B C' H' σ' δ' ∧ RP (mWhile mt m1 n δ') (PKs X.K C0 H0 B C N) (PXs X.K EC W C0 H0 B C), fun σ' H' z => ⟨n, Nat.lt_succ_self n, z⟩, ?_⟩
      refine rb C0 H0 B C3 H3 σ2 δ3 _ S3 (RP.imp (RP.bind h3) (fun f δ4 h4 σ4 C4 H4 e4 S4 => ?_) (PXs.mono (e2.trans e3)))
      cases f with
      | nx => exact ⟨C4, δ4, (e2.trans e3).trans e4, S4, h4⟩
      | ct => exact ⟨C4, δ4, (e2.trans e3).trans e4, S4, h4⟩
      | bk => exact h4 σ4 C4 H4 ((e2.trans e3).trans e4) S4
      | rt d => exact h4 σ4 C4 H4 ((e2.trans e3).trans e4) S4

/-! ### defs -/
/-- what a def gives of data; n: how many slots it has -/
def mDef (n : Nat) (body : M Fl) (ds : List D) : R D := (body (ds.map .val ++ List.replicate (n - ds.length) .non)).bind fun f _ => match f with
  | .rt d => .ok d []
  | .nx => .ok .none []
  | _ => .no
def SpP (K : PySem.W.Frag) (n : Nat) (mf : List D → R D) : Sp := fun vs H Q _ => ∃ C ds, Ex C H ∧ DqAll K C vs ds ∧ vs.length = n ∧
  RP (mf ds) (fun d _ => ∀ v C2 H2, Ex C C2 → Ex H H2 → Ex C2 H2 → (∀ a, H a ≠ none → C a = none → C2 a = none) → Dq K C2 v d → Q v H2) fun _ _ _ => False
end
theorem start_sr {K : PySem.W.Frag} {C H : Hp} {N : List Str} {vs : List V} {ds : List D} (e : Ex C H) (h : DqAll K C vs ds) : SR K C H [] C H (L2.start N vs) (ds.map .val ++ List.replicate (N.length - ds.length) .non) := by
  have hl := dpa_len h
  have nov : ∀ {i : Nat} {b : Bool} {es : List D}, (ds.map Cell.val ++ List.replicate (N.length - ds.length) .non)[i]? ≠ some (.var b es) := fun {i b es} z => by
    have m := List.mem_of_getElem? z
    rcases List.mem_append.mp m with m | m
    · obtain ⟨d, _, q⟩ := List.mem_map.mp m
      cases q
    · have := List.eq_of_mem_replicate m
      cases this
  refine ⟨?_, Ex.refl C, e, fun a o z _ => z, fun a _ z => z, fun i d z => ?_, fun i es z => absurd z nov, fun p hp => (by cases hp), fun i es z => absurd z nov, fun p hp => (by cases hp), fun p hp => (by cases hp), fun p hp => (by cases hp), fun i j es fs _ z => absurd z nov⟩
  · unfold L2.start
    simp [hl]
  · have hi : i < ds.length := by
      rcases Nat.lt_or_ge i ds.length with h | h
      · exact h
      · rw [List.getElem?_append_right (by simpa using h)] at z
        have := List.eq_of_mem_replicate (List.mem_of_getElem? z)
        cases this
    rw [List.getElem?_append_left (by simpa using hi), List.getElem?_map] at z
    cases q : ds[i]? with
    | none => rw [q] at z; cases z
    | some d' =>
      rw [q] at z
      cases z
      obtain ⟨v, h1, h2⟩ := dpa_get h q
      refine ⟨v, ?_, h2⟩
      unfold L2.start
      rw [List.getElem?_append_left (by simpa [hl] using hi), List.getElem?_map, h1]
      rfl
section
variable {P : Program} {w : World} {K : PySem.W.Frag} {mg : Str → Option Value} {base : Heap}
/-- THE RULE of a def that no exception leaves -/
theorem def_ok {x qual : Str} {st : Stmt} {f : Addr} {fd : FuncData} {N ps : List Str} {k : Nat} {EC : ECl} {m : M Fl} (F : Fun K x qual st f fd) (S : FnScope N ps (defScope st))
    (hb : ∀ (cdv : Value) (A : Around) (outer : List Env) (s : Shared) (H : Hp) (E : XK), Room k (A.deeper (envOfC qual (defScope st) s.heap.objs.size f cdv)) →
      DSs (cxOf CX0 P w K mg base N qual (defScope st) f cdv A outer s H E).nox EC (fun _ _ _ _ => False) (defBody st) m) : FnOk P w K mg base CX0 (k + 1) f fd ps (SpP K ps.length (mDef N.length m)) := by
  refine F.ok S (fun vs H Q E h => ?_) (fun cdv A outer s H vs Q E hr h => ?_)
  · obtain ⟨C, ds, _, _, hl, _⟩ := h
    exact hl
  · obtain ⟨C, ds, e, hd, hl, q⟩ := h
    obtain ⟨t, p, r⟩ := (hb cdv A outer s H E hr).ex
    refine ⟨t, p, r C H [] C H (L2.start N vs) _ _ (start_sr e hd) (RP.imp (RP.bind q) (fun f δ h1 σ C2 H2 e2 S2 => ?_) fun c d δ z => z.elim)⟩
    have n2 : ∀ a, H a ≠ none → C a = none → C2 a = none := S2.nw
    have eH : Ex H H2 := fun a o z => S2.fr a o z fun p hp => by cases hp
    cases f with
    | nx => exact h1 .non C2 H2 e2 eH S2.ch n2 .non
    | rt d => exact fun v hv => h1 v C2 H2 e2 eH S2.ch n2 hv
    | bk => exact h1.elim
    | ct => exact h1.elim
end
section
variable {X : Cx} {EC : ECl} {W : WX} {e : Expr} {es : List Expr} {mes : M (List D)} {pos p : Pos} {k : Nat} {f : Addr} {fd : FuncData} {ps : List Str} {n : Nat} {mf : List D → R D} {x : Str}
def mCallF (mf : List D → R D) (a : M (List D)) : M D := fun δ => (a δ).bind fun ds δ => match mf ds with
  | .ok d _ => .ok d δ
  | _ => .no
theorem de_call (F : FnOk X.prog X.w X.K X.mg X.base CX0 k f fd ps (SpP X.K n mf)) (hr : Room k X.A) (hn : es.length + 1 = n) (hm : X.mg x = some (.ref f)) (hk : PySem.W.keepIn X.K (.ref f) = true) (hb : Binds X.K fd ps []) (ha : DA X EC W (e :: es) mes) (hg : Gl X x := by rfl)
    (hdb : (x == ("__debug__" : Str)) = false := by decide) (he : starEach (e :: es) X.env = (false, eval e X.env) :: starEach es X.env := by rfl) (hpl : (backTo pos (starEach es X.env)).any (·.1) = false := by rfl) : DE X EC W (.Call (.Name x p) (e :: es) [] pos) (mCallF mf mes) := by
  obtain ⟨t, pa, ra⟩ := ha.ex
  refine ⟨_, pe_call (dvs := []) (ds := []) F hr hg hm hk hb .nil pass0 pa hdb he hpl, fun C0 H0 B C H σ δ Q S h => ?_⟩
  have hb := RP.bind h
  refine ra C0 H0 B C H σ δ _ S ?_
  cases q : mes δ with
  | no => rw [q] at hb; exact hb.elim
  | ex c d δ' => rw [q] at hb; exact hb
  | ok ds δ1 =>
    rw [q] at hb
    have hl := ha.len δ ds δ1 q
    intro vs C1 H1 e1 S1 d1
    refine ⟨C1, ds, S1.ch, by rw [List.append_nil]; exact d1, by rw [List.append_nil, dpa_len d1, hl]; exact hn, ?_⟩
    have hb : RP (match mf ds with | .ok d _ => R.ok d δ1 | _ => .no) (PKe X.K C0 H0 B C σ Q) (PXe X.K EC W C0 H0 B C σ) := hb
    cases q2 : mf ds with
    | no => rw [q2] at hb; exact hb.elim
    | ex c d δ' => rw [q2] at hb; exact hb.elim
    | ok d δ2 =>
      rw [q2] at hb
      intro v C2 H2 e2 e3 e4 n2 dv
      exact hb v C2 H2 (e1.trans e2) (S1.step e2 e3 e4 n2) dv
end
end DL
end Part_DLg

section Part_DLh
set_option Elab.async false
set_option linter.all false
set_option maxRecDepth 100000
set_option autoImplicit false
set_option maxHeartbeats 2000000
namespace DL
open PySem PySem.Spec PyProof.Rows L2 Evl

/-! ### defs by name -/
/-- the def st stands at the name x -/
structure FunX (K : PySem.W.Frag) (mg : Str → Option Value) (x : Str) (st : Stmt) (ps : List Str) : Prop where
  ex : ∃ f fd, Fun K x x st f fd ∧ mg x = some (.ref f) ∧ ∀ (s : Shared) (us : List Value), us.length = ps.length → BindsTo s fd ⟨us, []⟩ (ps.zip us)
theorem binds_of {K : PySem.W.Frag} {fd : FuncData} {ps : List Str} (h : ∀ (s : Shared) (us : List Value), us.length = ps.length → BindsTo s fd ⟨us, []⟩ (ps.zip us)) : Binds K fd ps [] := fun s us _ hl => by
  rw [List.append_nil] at hl ⊢
  exact h s us hl
/-- .. and does what the mirror mf says -/
structure FnX (P : Program) (w : World) (K : PySem.W.Frag) (mg : Str → Option Value) (base : Heap) (k : Nat) (x : Str) (n : Nat) (mf : List D → R D) : Prop where
  ex : ∃ f fd ps, FnOk P w K mg base CX0 k f fd ps (SpP K n mf) ∧ mg x = some (.ref f) ∧ PySem.W.keepIn K (.ref f) = true ∧ Binds K fd ps []
section
variable {P : Program} {w : World} {K : PySem.W.Frag} {mg : Str → Option Value} {base : Heap}
theorem def_okX {x : Str} {st : Stmt} {N ps : List Str} {k : Nat} {EC : ECl} {m : M Fl} (F : FunX K mg x st ps) (S : FnScope N ps (defScope st))
    (hb : ∀ (f : Addr) (cdv : Value) (A : Around) (outer : List Env) (s : Shared) (H : Hp) (E : XK), Room k (A.deeper (envOfC x (defScope st) s.heap.objs.size f cdv)) →
      DSs (cxOf CX0 P w K mg base N x (defScope st) f cdv A outer s H E).nox EC (fun _ _ _ _ => False) (defBody st) m) : FnX P w K mg base (k + 1) x ps.length (mDef N.length m) := by
  obtain ⟨f, fd, F, hg, hbi⟩ := F.ex
  exact ⟨f, fd, ps, def_ok F S fun cdv A outer s H E hr => hb f cdv A outer s H E hr, hg, F.kp, binds_of hbi⟩
theorem funX_mk {h : Heap} {x : Str} {st : Stmt} {ps : List Str} {f : Addr} {oc : Value} {od an : Option Addr} {osl : Array (Option Value)} {kV doc pm cdv ct : Value} (X : K.In h) (G : h.Ns mainGlobals mg) (a : PySem.W.nsIn K mainGlobals x = some (some (.ref f)))
    (l : K.lookup f = some ⟨oc, od, .func (PySem.W.fnOf x x (defArgs st) (defBody st) (defScope st) .none kV doc pm an cdv ct), osl⟩) (c : PySem.W.codeIn K cdv x = true) (k : PySem.W.keepIn K (.ref f) = true)
    (hb : ∀ (kV doc pm : Value) (an : Option Addr) (cdv ct : Value) (us : List Value), us.length = ps.length → bindArgs (PySem.W.fnOf x x (defArgs st) (defBody st) (defScope st) .none kV doc pm an cdv ct) ⟨us, []⟩ = pure (ps.zip us)) : FunX K mg x st ps := by
  have F := fun_mk (st := st) l c k
  exact ⟨f, _, F, PySem.W.mg_of X G a, fun s us hl => .of_eq (hb _ _ _ _ _ _ us hl)⟩
/-- a constant of the module -/
structure ConX (K : PySem.W.Frag) (mg : Str → Option Value) (x : Str) (d : D) : Prop where
  ex : ∃ v u, mg x = some u ∧ RelV v u ∧ ∀ C, Dq K C v d
theorem con_int {h : Heap} {x : Str} {i : Int} {t : Tok} (X : K.In h) (G : h.Ns mainGlobals mg) (a : PySem.W.nsIn K mainGlobals x = some (some (.int i t))) : ConX K mg x (.int i) := ⟨.int i, _, PySem.W.mg_of X G a, ⟨t, rfl⟩, fun _ => .int i⟩
theorem con_str {h : Heap} {x z : Str} {t : Tok} (X : K.In h) (G : h.Ns mainGlobals mg) (a : PySem.W.nsIn K mainGlobals x = some (some (.str z t))) : ConX K mg x (.str z) := ⟨.str z, _, PySem.W.mg_of X G a, ⟨t, rfl⟩, fun _ => .str z⟩
/-- values that are data by themselves -/
def flatU : Value → Option D
  | .none => some .none
  | .bool b => some (.bool b)
  | .int i _ => some (.int i)
  | .str s _ => some (.str s)
  | _ => none
theorem flatU_ok {u : Value} {d : D} (h : flatU u = some d) : ∃ v, RelV v u ∧ ∀ (K : PySem.W.Frag) C, Dq K C v d := by
  cases u <;> first | (cases h; done) | skip
  · cases h; exact ⟨.non, rfl, fun _ _ => .non⟩
  · rename_i b; cases h; exact ⟨.bl b, rfl, fun _ _ => .bl b⟩
  · rename_i i t; cases h; exact ⟨.int i, ⟨t, rfl⟩, fun _ _ => .int i⟩
  · rename_i s t; cases h; exact ⟨.str s, ⟨t, rfl⟩, fun _ _ => .str s⟩
def flatsU : List Value → Option (List D)
  | [] => some []
  | u :: us => match flatU u, flatsU us with
    | some d, some ds => some (d :: ds)
    | _, _ => none
theorem flatsU_ok : ∀ {us : List Value} {ds : List D}, flatsU us = some ds → ∃ vs, Vals vs us ∧ ∀ (K : PySem.W.Frag) C, DqAll K C vs ds
  | [], _, h => by cases h; exact ⟨[], .nil, fun _ _ => .nil⟩
  | u :: us, ds, h => by
    unfold flatsU at h
    split at h
    · rename_i d ds' h1 h2
      cases h
      obtain ⟨v, r, q⟩ := flatU_ok h1
      obtain ⟨vs, rs, qs⟩ := flatsU_ok h2
      exact ⟨v :: vs, .cons r rs, fun K C => .cons (q K C) (qs K C)⟩
    · cases h
theorem con_tup {h : Heap} {x : Str} {a : Addr} {us : List Value} {n : Nat} {sl : Array (Option Value)} {ds : List D} (X : K.In h) (G : h.Ns mainGlobals mg) (e : PySem.W.nsIn K mainGlobals x = some (some (.ref a)))
    (l : K.lookup a = some ⟨.type "tuple", none, .seq us.toArray n, sl⟩) (hd : flatsU us = some ds) (hz : us.length ≤ 100000 := by decide) : ConX K mg x (.tuple ds) := by
  obtain ⟨vs, r, q⟩ := flatsU_ok hd
  exact ⟨.ref a, _, PySem.W.mg_of X G e, rfl, fun C => .tup (.inr ⟨_, us.toArray, n, l, rfl, rfl, sz_of (by simpa using hz), by simpa using r⟩) (.inr ⟨_, l, rfl⟩) (q K C)⟩
end
section
variable {X : Cx} {EC : ECl} {W : WX} {e : Expr} {es : List Expr} {mes : M (List D)} {pos p : Pos} {k n : Nat} {mf : List D → R D} {x : Str} {d : D}
theorem de_callX (F : FnX X.prog X.w X.K X.mg X.base k x n mf) (hr : Room k X.A) (ha : DA X EC W (e :: es) mes) (hn : es.length + 1 = n := by rfl) (hg : Gl X x := by rfl)
    (hdb : (x == ("__debug__" : Str)) = false := by decide) (he : starEach (e :: es) X.env = (false, eval e X.env) :: starEach es X.env := by rfl) (hpl : (backTo pos (starEach es X.env)).any (·.1) = false := by rfl) :
    DE X EC W (.Call (.Name x p) (e :: es) [] pos) (mCallF mf mes) := by
  obtain ⟨f, fd, ps, F, hm, hk, hb⟩ := F.ex
  exact de_call F hr hn hm hk hb ha hg hdb he hpl
theorem de_callX0 (F : FnX X.prog X.w X.K X.mg X.base k x 0 mf) (hr : Room k X.A) (hg : Gl X x := by rfl)
    (hdb : (x == ("__debug__" : Str)) = false := by decide) : DE X EC W (.Call (.Name x p) [] [] pos) (mCallF mf mNil) := by
  obtain ⟨f, fd, ps, F, hm, hk, hb⟩ := F.ex
  refine ⟨_, pe_call0 (dvs := []) (ds := []) F hr hg hm hk hb .nil pass0 hdb, fun C0 H0 B C H σ δ Q S h => ?_⟩
  refine ⟨C, [], S.ch, .nil, rfl, ?_⟩
  have h : RP (match mf [] with | .ok d _ => R.ok d δ | _ => .no) (PKe X.K C0 H0 B C σ Q) (PXe X.K EC W C0 H0 B C σ) := h
  cases q2 : mf [] with
  | no => rw [q2] at h; exact h.elim
  | ex c d δ' => rw [q2] at h; exact h.elim
  | ok d δ2 =>
    rw [q2] at h
    intro v C2 H2 e2 e3 e4 n2 dv
    exact h v C2 H2 e2 (S.step e2 e3 e4 n2) dv
theorem de_conX (h : ConX X.K X.mg x d) (hg : Gl X x := by rfl) (hdb : (x == ("__debug__" : Str)) = false := by decide) : DE X EC W (.Name x pos) (mC d) := by
  obtain ⟨v, u, hm, r, hd⟩ := h.ex
  exact de_glob hg hm r hd hdb
end
/-! ### the end -/
theorem walk_law {l : PySem.W.OpenLaw} {k : Nat} {q : Program} {loose : List Str} {XP : (Str → Option Value) → Heap → Prop} {YP : World → Heap → Prop} {d : DefRec} {K : Params → PySem.W.Frag} {m : M Fl} {st : Stmt} {N : List Str} {EC : ECl} (hn : l.most = some 63) (hdf : d.params.defaults = []) (hname : d.name = "law")
    (hr : Room (k + 1) callerA) (hY : ∀ (w : World) (h : Heap), YP w h → (K w.params).In h) (S : FnScope N ["script"] (defScope st))
    (F : ∀ (w : World) (mg : Str → Option Value) (h : Heap), (K w.params).In h → h.Ns mainGlobals mg →
      FunX (K w.params) mg "law" st ["script"] ∧ ∀ (base : Heap) (f : Addr) (cdv : Value) (A : Around) (outer : List Env) (s : Shared) (H : Hp) (E : XK), Room k (A.deeper (envOfC "law" (defScope st) s.heap.objs.size f cdv)) →
      DSs (cxOf CX0 l.prog w (K w.params) mg base N "law" (defScope st) f cdv A outer s H E).nox EC (fun _ _ _ _ => False) (defBody st) m)
    (hsp : ∀ ns : List Int, ns.length ≤ 63 → ∃ δ, mDef N.length m [.list (ns.map .int)] = .ok (.bool true) δ) :
    PySem.W.WalkO q loose XP YP l.row.toRowW d [] (fun f vs => PySem.call f vs) := by
  refine L2.walk_of (n := 63) (k := k + 1) (x := "script") (CX := fun _ => CX0) (sp := fun w => SpP (K w.params) 1 (mDef N.length m)) hn (by decide) hdf hr hY (fun w mg fa h KX G hmg => ?_) (fun w H a ns hl _ hS => ?_) fun _ _ _ _ _ z => z
  · obtain ⟨F1, F2⟩ := F w mg h KX G
    obtain ⟨f, fd, F0, hg, hb⟩ := F1.ex
    rw [hname, hg] at hmg
    cases hmg
    exact ⟨fd, fun s u => hb s [u] rfl, fun base Kb Gb => def_ok F0 S fun cdv A outer s H E hr => F2 base _ cdv A outer s H E hr⟩
  · obtain ⟨δ, e⟩ := hsp ns hl
    refine ⟨H, [.list (ns.map .int)], Ex.refl H, .cons (.lst hS ints_dpa) .nil, rfl, ?_⟩
    rw [e]
    intro v C2 H2 e1 e2 e3 n2 dv
    cases dv
    rfl
end DL
end Part_DLh

section Part_DLi
set_option Elab.async false
set_option linter.all false
set_option maxRecDepth 100000
set_option autoImplicit false
set_option maxHeartbeats 2000000
namespace DL
open PySem PySem.Spec PyProof.Rows L2 Evl
/-! ### mirrors, evaluated -/
section
variable {α β : Type} {δ : Dl}
theorem bind_ok {a : α} {f : α → Dl → R β} : R.bind (.ok a δ) f = f a δ := rfl
theorem bind_no {f : α → Dl → R β} : R.bind .no f = .no := rfl
theorem bind_ite {c : Prop} [Decidable c] {x y : R α} {f : α → Dl → R β} : R.bind (if c then x else y) f = if c then R.bind x f else R.bind y f := by split <;> rfl
theorem lift_some {a : α} : R.lift (some a) δ = .ok a δ := rfl
theorem lift_none : R.lift (none : Option α) δ = .no := rfl
theorem noex_ok {a : α} : R.noex (.ok a δ) = .ok a δ := rfl
end
theorem sh_int (i : Int) : SeqAt.shaped (.int i) = true := rfl
theorem sh_bool (i : Bool) : SeqAt.shaped (.bool i) = true := rfl
theorem sh_none : SeqAt.shaped .none = true := rfl
theorem add_ii (i j : Int) : dAdd (.int i) (.int j) = some (.int (i + j)) := rfl
theorem sub_ii (i j : Int) : dSub (.int i) (.int j) = some (.int (i - j)) := rfl
theorem neg_i (i : Int) : dNeg (.int i) = some (.int (-i)) := rfl
theorem mul_r {i j : Int} (h1 : -18446744073709551616 < j) (h2 : j < 18446744073709551616) : dMul (.int i) (.int j) = some (.int (i * j)) := by
  show (if CMul i j ∨ CMulW i j then some (PyData.int (i * j)) else none) = _
  rw [if_pos (.inl (.inr ⟨by omega, by omega⟩))]
theorem mul_l {i j : Int} (h1 : -18446744073709551616 < i) (h2 : i < 18446744073709551616) : dMul (.int i) (.int j) = some (.int (i * j)) := by
  show (if CMul i j ∨ CMulW i j then some (PyData.int (i * j)) else none) = _
  rw [if_pos (.inl (.inl ⟨by omega, by omega⟩))]
theorem div_s {i j : Int} (h1 : 0 < j) (h2 : j < 1073741824) : dDiv (.int i) (.int j) = some (.int (i / j)) := by
  show (if CDivN i j ∨ CDivW i j then some (PyData.int (i.fdiv j)) else none) = _
  rw [if_pos (.inl ⟨by omega, by omega⟩), Int.fdiv_eq_ediv_of_nonneg i (by omega)]
theorem mod_s {i j : Int} (h1 : 0 < j) : dMod (.int i) (.int j) = some (.int (i % j)) := by
  show (if j ≠ 0 then some (PyData.int (i.fmod j)) else none) = _
  rw [if_pos (by omega), Int.fmod_eq_emod_of_nonneg i (by omega)]
theorem eq_ii (i j : Int) : dEq (.int i) (.int j) = some (.bool (decide (i = j))) := by
  show some (PyData.bool (i == j)) = _
  rw [Bool.beq_eq_decide_eq]
theorem ne_ii (i j : Int) : dNe (.int i) (.int j) = some (.bool (!decide (i = j))) := by
  show some (PyData.bool (!(i == j))) = _
  rw [Bool.beq_eq_decide_eq]
theorem eq_bb (i j : Bool) : dEq (.bool i) (.bool j) = some (.bool (i == j)) := rfl
theorem ne_bb (i j : Bool) : dNe (.bool i) (.bool j) = some (.bool (!(i == j))) := rfl
theorem lt_ii (i j : Int) : dLt (.int i) (.int j) = some (.bool (decide (i < j))) := rfl
theorem gt_ii (i j : Int) : dGt (.int i) (.int j) = some (.bool (decide (j < i))) := rfl
theorem le_ii (i j : Int) : dLe (.int i) (.int j) = some (.bool (decide (i ≤ j))) := rfl
theorem ge_ii (i j : Int) : dGe (.int i) (.int j) = some (.bool (decide (j ≤ i))) := rfl
theorem len_l (xs : List D) : dLen [.list xs] = some (.int xs.length) := rfl
theorem len_t (xs : List D) : dLen [.tuple xs] = some (.int xs.length) := rfl
theorem len_s {s : Str} (h : s.length ≤ 16777216) : dLen [.str s] = some (.int s.length) := by
  show (if s.length ≤ LINE then some (PyData.int s.length) else none) = _
  rw [if_pos h]
theorem int_i (i : Int) : dInt [.int i] = some (.int i) := rfl
theorem int_b (b : Bool) : dInt [.bool b] = some (.int (if b then 1 else 0)) := rfl
theorem abs_i (i : Int) : dAbs [.int i] = some (.int (if i < 0 then -i else i)) := rfl
theorem max_ii (i j : Int) : dMax [.int i, .int j] = some (.int (if j > i then j else i)) := rfl
theorem min_ii (i j : Int) : dMin [.int i, .int j] = some (.int (if j < i then j else i)) := rfl
theorem tuple_l (xs : List D) : dTuple [.list xs] = some (.tuple xs) := rfl
theorem all_l (bs : List Bool) : dAll [.list (bs.map .bool)] = some (.bool (bs.all id)) := by
  show (dBls (bs.map .bool)).map _ = _
  rw [dBls_map]
  rfl
theorem ix_l (xs : List D) (i : Int) : dIx (.list xs) (.int i) = atI xs i := rfl
theorem ix_t (xs : List D) (i : Int) : dIx (.tuple xs) (.int i) = atI xs i := rfl
theorem at_nat {α : Type} (xs : List α) (k : Nat) : atI xs (k : Int) = xs[k]? := by
  unfold atI ixN
  rw [if_pos (by omega)]
  by_cases h : k < xs.length
  · rw [if_pos (by omega)]
    simp
  · rw [if_neg (by omega)]
    simp [Nat.le_of_not_lt h]
theorem at_pos {α : Type} (xs : List α) {i : Int} (h0 : 0 ≤ i) : atI xs i = xs[i.toNat]? := by
  have := at_nat xs i.toNat
  rwa [Int.toNat_of_nonneg h0] at this
theorem tr_b (b : Bool) : truthD (.bool b) = some b := rfl
theorem tup_ok {xs : List D} (h : xs.length ≤ 16777216) : dTup xs = some (.tuple xs) := by unfold dTup; rw [if_pos h]
theorem new_ok {ma : M (List D)} {δ δ' : Dl} {xs : List D} (h : ma δ = .ok xs δ') (hl : xs.length ≤ 16777216) : mNew ma δ = .ok xs δ' := by
  unfold mNew
  rw [h]
  show (if xs.length ≤ LINE then R.ok xs δ' else .no) = _
  rw [if_pos hl]
theorem set_set' {α : Type} : ∀ (l : List α) (i : Nat) (a b : α), (l.set i a).set i b = l.set i b := fun l i a b => List.set_set a
/-! ### comprehensions of a pure element -/
theorem noVar_set {δ : Dl} {j : Nat} {d : D} (h : noVar δ = true) : noVar (δ.set j (.val d)) = true := by
  refine List.all_eq_true.mpr fun c hc => ?_
  rcases List.mem_or_eq_of_mem_set hc with h1 | h1
  · exact List.all_eq_true.mp h c h1
  · subst h1; rfl
theorem setV_ok {δ : Dl} {j : Nat} {d : D} (hj : j < δ.length) (h : noVar δ = true) : setV j d δ = some (δ.set j (.val d)) := by
  unfold setV
  rw [List.getElem?_eq_getElem hj]
  cases q : δ[j] with
  | var b ds => exact absurd (by rw [List.getElem?_eq_getElem hj, q]) (noVar_at (b := b) (ds := ds) h (i := j))
  | non => rfl
  | val d => rfl
theorem mLc_pure {j : Nat} {t : M Bool} {e : M D} {δ : Dl} (hj : j < δ.length) (hn : noVar δ = true) (p : D → Bool) (f : D → D) : ∀ (items : List D), (∀ x ∈ items, t (δ.set j (.val x)) = .ok (p x) (δ.set j (.val x)) ∧ (p x = true → e (δ.set j (.val x)) = .ok (f x) (δ.set j (.val x)))) →
    ∀ δ0 : Dl, noVar δ0 = true → δ0.set j .non = δ.set j .non → ∃ δ1 : Dl, mLc [j] (setV j) t e items δ0 = .ok ((items.filter p).map f) δ1 ∧ δ1.set j .non = δ.set j .non
  | [], _, δ0, h0, h1 => ⟨δ0, rfl, h1⟩
  | x :: xs, he, δ0, h0, h1 => by
    obtain ⟨ht, hx⟩ := he x List.mem_cons_self
    have hs : wipeD δ0 [j] = δ.set j .non := h1
    have hn' : noVar (δ.set j .non) = true := by
      have := noVar_wipe hn [j]
      exact this
    have e1 : setV j x (wipeD δ0 [j]) = some (δ.set j (.val x)) := by
      rw [hs, setV_ok (by rw [List.length_set]; exact hj) hn', List.set_set]
    have e2 : (δ.set j (.val x)).set j .non = δ.set j .non := List.set_set _
    have nx : noVar (δ.set j (.val x)) = true := noVar_set hn
    obtain ⟨δ1, ih1, ih2⟩ := mLc_pure hj hn p f xs (fun y hy => he y (List.mem_cons_of_mem _ hy)) _ nx e2
    refine ⟨δ1, ?_, ih2⟩
    unfold mLc
    rw [e1]
    simp only [ht, noex_ok, bind_ok]
    cases hp : p x with
    | true =>
      rw [if_pos rfl]
      simp only [hx hp, noex_ok, bind_ok, nx, if_true, ih1]
      rw [List.filter_cons_of_pos hp, List.map_cons]
    | false =>
      rw [if_neg Bool.false_ne_true, if_pos nx, ih1, List.filter_cons_of_neg (by rw [hp]; exact Bool.false_ne_true)]
theorem lcS_pure {j : Nat} {it : M (List D)} {t : M Bool} {e : M D} {δ δ' : Dl} {items : List D} (p : D → Bool) (f : D → D) (hit : it δ = .ok items δ') (hj : j < δ'.length) (hn : noVar δ' = true) (hl : items.length ≤ 16777216)
    (he : ∀ x ∈ items, t (δ'.set j (.val x)) = .ok (p x) (δ'.set j (.val x)) ∧ (p x = true → e (δ'.set j (.val x)) = .ok (f x) (δ'.set j (.val x)))) :
    mLcS [j] it (setV j) t e δ = .ok ((items.filter p).map f) δ' := by
  obtain ⟨δ1, h1, h2⟩ := mLc_pure hj hn p f items he δ' hn rfl
  unfold mLcS
  rw [hit, bind_ok, hn, Bool.true_and, if_pos (decide_eq_true hl), h1, bind_ok]
  have : backD δ' δ1 [j] = δ' := by
    show δ1.set j (δ'.getD j .non) = δ'
    have e0 : δ1.set j (δ'.getD j .non) = (δ1.set j .non).set j (δ'.getD j .non) := (List.set_set _).symm
    rw [e0, h2, List.set_set]
    apply List.ext_getElem?
    intro i
    by_cases q : j = i
    · subst q
      rw [List.getElem?_set_self hj, List.getElem?_eq_getElem hj]
      simp [List.getD, hj]
    · rw [List.getElem?_set_ne q]
  rw [this]
theorem filter_true {α : Type} (l : List α) : l.filter (fun _ => true) = l := List.filter_eq_self.mpr fun _ _ => rfl
/-- [e for x in ..] -/
theorem lcS_map {j : Nat} {it : M (List D)} {e : M D} {δ δ' : Dl} {items : List D} (f : D → D) (hit : it δ = .ok items δ') (hj : j < δ'.length) (hn : noVar δ' = true) (hl : items.length ≤ 16777216)
    (he : ∀ x ∈ items, e (δ'.set j (.val x)) = .ok (f x) (δ'.set j (.val x))) : mLcS [j] it (setV j) mYes e δ = .ok (items.map f) δ' := by
  have h := lcS_pure (t := mYes) (fun _ => true) f hit hj hn hl fun x hx => ⟨rfl, fun _ => he x hx⟩
  rw [filter_true] at h
  exact h
theorem map_of {α : Type} {P : α → D → Prop} [Inhabited D] : ∀ (items : List α), (∀ x ∈ items, ∃ y, P x y) → ∃ f : α → D, ∀ x ∈ items, P x (f x) := fun items h => by
  classical
  refine ⟨fun x => if hx : ∃ y, P x y then hx.choose else default, fun x hx => ?_⟩
  have z := h x hx
  simp only [dif_pos z]
  exact z.choose_spec
instance : Inhabited D := ⟨.none⟩
/-- .. where it is only known that it gives something with P -/
theorem lcS_ex {j : Nat} {it : M (List D)} {e : M D} {δ δ' : Dl} {items : List D} {P : D → D → Prop} (hit : it δ = .ok items δ') (hj : j < δ'.length) (hn : noVar δ' = true) (hl : items.length ≤ 16777216)
    (he : ∀ x ∈ items, ∃ y, e (δ'.set j (.val x)) = .ok y (δ'.set j (.val x)) ∧ P x y) : ∃ f : D → D, mLcS [j] it (setV j) mYes e δ = .ok (items.map f) δ' ∧ ∀ x ∈ items, P x (f x) := by
  obtain ⟨f, hf⟩ := map_of items he
  exact ⟨f, lcS_map f hit hj hn hl fun x hx => (hf x hx).1, fun x hx => (hf x hx).2⟩
theorem at_ex {α : Type} (xs : List α) {i : Int} (h0 : 0 ≤ i) (h1 : i < xs.length) : ∃ d, d ∈ xs ∧ atI xs i = some d := by
  have h : i.toNat < xs.length := by omega
  exact ⟨xs[i.toNat], List.getElem_mem h, by rw [at_pos xs h0, List.getElem?_eq_getElem h]⟩
theorem rng_len (lo hi : Int) : (rng lo hi).length = (hi - lo).toNat := by unfold rng; rw [List.length_map, List.length_range]
theorem rng_int {lo hi : Int} {d : D} (h : d ∈ rng lo hi) : ∃ i : Int, d = .int i ∧ lo ≤ i ∧ i < hi := by
  unfold rng at h
  obtain ⟨k, hk, e⟩ := List.mem_map.mp h
  have := List.mem_range.mp hk
  exact ⟨lo + (k : Nat), e.symm, by omega, by omega⟩
/-- an int that may stand in a range -/
theorem big_of {i : Int} (h : -1000000000 ≤ i) (h2 : i ≤ 1000000000) : big i = true := decide_eq_true ⟨by omega, by omega⟩
end DL
end Part_DLi

section Part_DX
set_option Elab.async false
set_option linter.all false
set_option maxRecDepth 100000
set_option autoImplicit false
set_option maxHeartbeats 2000000
namespace DL
open PySem PySem.Spec PyProof.Rows L2 Evl
open PySem.W (kxs_mw)
/-! ### an __init__ that says super().__init__(text), then self.f = par -/
section
variable {prog : Program} {w : World} {A : Around} {E : Value → Shared → Prop} {h : Heap} {g : Array GenState} {d : Drawn} {t : Nat} {os : OsState}
variable {nm q : Str} {C N : Addr} {bs bm : List Value} {hdct : Bool} {sn : List Str} {sub : List Value} {ab : Bool} {col : Option Bool} {dd : Option Addr} {k0 k1 k2 k3 k5 : Option Value}
theorem call_mw {u e t0 : Addr} {rest : List Value} {Q : Value → Shared → Prop}
    (hC : h.get? C = some (excClassObj nm q C N bs bm hdct sn sub ab col dd k0 k1 k2 k3 k5 "ValueError.__new__")) (he : h.get? e = some (PySem.W.excObj C t0 none .none)) (hu : h.get? u = some (kxs_mw "ValueError.__init__" e)) (hrest : rest.length ≤ sizeLine)
    (hq : ∀ h' t1, (∀ b o, b ≠ e → h.get? b = some o → h'.get? b = some o) → h'.get? e = some (PySem.W.excObj C t1 none .none) → Q .none ⟨h', g, d, t, os⟩) :
    wpAny (model prog w) A (call (.ref u) rest) Q E ⟨h, g, d, t, os⟩ := by
  refine wpAny_call (codeAny_of_tree ?_)
  show wpAny _ A.in1 (callAny (.ref u) ⟨rest, []⟩) _ _ _
  simp only [callAny]
  refine wpAny_bind (wpAny_load hu ?_)
  simp only [kxs_mw, show (Value.type "method-wrapper" == Value.type "method" || Value.type "method-wrapper" == Value.type "builtin_function_or_method" || Value.type "method-wrapper" == Value.type "method-wrapper") = true by decide, if_true]
  refine PySem.W.KFB.if_so (by decide) ?_
  refine wpAny_bind (PySem.W.check_bound_init F.excBase_ValueError.toExcCallFacts hC he rfl ?_)
  refine wpAny_bind (wpAny_pure (wpAny_pure ?_))
  refine ⟨plainId_quiet F.excBase_ValueError.init.plain _, codeAny_builtin F.excBase_ValueError.initEntry ?_⟩
  exact PySem.W.exc_init_tree (cls := .ref C) (t0 := t0) (dv := none) (c2 := .none) (c3 := .none) (b4 := .bool false) he hrest fun h' k e' _ => hq h' _ k e'
end

/-- an own error class over ValueError: C, its __init__ at f, the one attribute fld, told by the argument par -/
structure InitF (P : Program) (K : PySem.W.Frag) (mg : Str → Option Value) (C f : Addr) (fd : FuncData) (qual par fld : Str) (e : Expr) : Prop where
  ex : ∃ (oc : Value) (od : Option Addr) (osl : Array (Option Value)) (kV doc pm : Value) (an : Option Addr) (c cc : Addr) (ct : Value) (params : Arguments) (body : List Stmt) (scope : Scope) (p0 p1 p2 p3 p4 p5 p6 p7 p8 : Pos) (ar : Arg) (ar2 : List Arg) (ccl cl : Value) (cdd cld : Option Addr) (ccs csl : Array (Option Value)) (vs : Array Value) (file : Str) (tf : Tok) (cd : ClassData) (n : Nat),
    fd = PySem.W.fnX "__init__" qual params body scope [("__class__", cc)] .none kV doc pm an (.ref c) ct ∧ K.lookup f = some ⟨oc, od, .func fd, osl⟩ ∧ PySem.W.codeIn K (.ref c) qual = true ∧
    body = [.Expr (.Call (.Attribute (.Call (.Name "super" p0) [] [] p1) "__init__" p2) [e] [] p3) p4, .Assign [.Attribute (.Name "self" p5) fld p6] (.Name par p7) p8] ∧
    NdefX.NScope [("self" : Str), par, "__class__"] [("self" : Str), par] ["__class__"] scope ∧ scope.names.lookup ("super" : Str) = some .globalImplicit ∧
    (params.posonlyargs ++ params.args) = ar :: ar2 ∧ ar.arg = "self" ∧
    K.lookup c = some ⟨ccl, cdd, .fields vs, ccs⟩ ∧ vs[2]? = some (.str file tf) ∧ ((P.main.file : Str) == file) = true ∧ (P.main.scope.names.lookup ("super" : Str)).isSome = false ∧
    K.lookup cc = some ⟨cl, cld, .cell (some (.ref C)), csl⟩ ∧ PySem.W.clsIn K C = some cd ∧ PySem.W.mroIn K C (.ref C) = some true ∧ mg "super" = none ∧ PySem.W.nsIn K cStatics "thirdparty.any" = some none ∧
    PySem.W.ks_superIn K C C "__init__" = some (some (.builtin "ValueError.__init__")) ∧ PySem.W.subIn K (.ref C) (.type "ValueError") = some true ∧
    PySem.W.findIn K (.ref C) fld = some none ∧ n = 0 ∧
    (∀ env : Env, ∃ pl : Sem Bool, eval (.Call (.Attribute (.Call (.Name "super" p0) [] [] p1) "__init__" p2) [e] [] p3) env = (do
      let ov ← attributeBase (.Call (.Name "super" p0) [] [] p1) "__init__" env (eval (.Call (.Name "super" p0) [] [] p1) env)
      standAt p2.atName
      let (f, first) ← holding [ov] (getMethod ov "__init__" pl)
      callWith p3 f first (backTo p3 (starEach [e] env)) [])) ∧ (∀ env : Env, starEach [e] env = (false, eval e env) :: starEach [] env) ∧ (par == ("__debug__" : Str)) = false ∧ (par == ("__classdict__" : Str)) = false ∧ (∀ env : Env, swapsWith (.Name par p7) (some (.Attribute (.Name "self" p5) fld p6)) p8.line env = pure false)
  oex : OexC K C
section
variable {P : Program} {w : World} {K : PySem.W.Frag} {mg : Str → Option Value} {base : Heap}
/-- what such an __init__ does -/
def SpI (T : V → Prop) (C : Addr) (fld : Str) : Sp := fun vs H Q _ => ∃ a y, vs = [.ref a, y] ∧ T y ∧ H a = some (exo a C none) ∧ ∀ dx, H dx = none → dx ≠ a → Q .non (upd (upd H dx (exd dx [(fld, y)])) a (exo a C (some dx)))
theorem init_ok {T : V → Prop} {C f : Addr} {fd : FuncData} {qual par fld : Str} {e : Expr} {k : Nat} (F : InitF P K mg C f fd qual par fld e) {CX : CXT}
    (he : ∀ (X : Cx), X.prog = P → X.K = K → X.mg = mg → X.N = [("self" : Str), par, "__class__"] → Vis X.env.scope par → ∃ te, PE X e te ∧ ∀ (a : Addr) (y : V) H Q, T y → (∀ v, Q v H) → te [some (.ref a), some y, none] H Q) : FnOk P w K mg base CX (k + 1) f fd [("self" : Str), par] (SpI T C fld) := by
  obtain ⟨oc, od, osl, kV, doc, pm, an, c, cc, ct, params, body, scope, p0, p1, p2, p3, p4, p5, p6, p7, p8, ar, ar2, ccl, cl, cdd, cld, ccs, csl, vs', file, tf, cd, n, rfl, lk, hcd, rfl, S, hsup, hp, har, lc, hvs, hfile, htop, lcell, hcls, hmro, hmg, hst, hsu, hB, hno, _, hev, hst1, pd1, pd2, hsw⟩ := F.ex
  refine ⟨fun vs H Q E h => ?_, fun A outer s H args us vs Q E hr e0 hb r hsp => ?_⟩
  · obtain ⟨a, y, rfl, _⟩ := h
    rfl
  obtain ⟨a, y, rfl, hT, ha, hq⟩ := hsp
  have KX : K.In s.heap := e0.mod.kin.keeps fun b o e => (e0.bs b o e).1
  have lim : s.heap.NoLimit := e0.mod.nolimit.keeps fun b o e => (e0.bs b o e).1
  have r0 := r
  cases r with
  | @cons _ u0 _ ur ra rw' =>
    obtain rfl : u0 = Value.ref a := ra
    cases rw' with
    | @cons _ u1 _ ur2 ry rn =>
      cases rn
      refine ks_codeAny_call_defAt hr.depth (KX _ _ lk) rfl lim (PySem.W.codeRec_of KX hcd) rfl hb S.nocell (fun ⟨n, v⟩ hy => S.par n (List.of_mem_zip hy).1) (fun h₁ hns kp => ?_) S.co S.gen S.kind
      have C0 : NdefX.CellsAt [("__class__", cc)] [("__class__" : Str)] [none] s.heap H := by
        have key : ∀ (y : Str) (c' : Addr), List.lookup y [(("__class__" : Str), cc)] = some c' → y = "__class__" ∧ c' = cc := fun y c' e => by
          have m := PySem.mem_of_lookup e
          rw [List.mem_singleton] at m
          cases m
          exact ⟨rfl, rfl⟩
        refine ⟨rfl, fun y c' e => ?_, fun x y c' e1 e2 => ?_, fun i y e => ?_⟩
        · obtain ⟨_, rfl⟩ := key y c' e
          exact ⟨(e0.bs _ _ (e0.mod.kin _ _ lcell)).2, _, _, KX _ _ lcell, rfl⟩
        · exact (key x c' e1).1.trans (key y c' e2).1.symm
        · cases i with
          | zero =>
            cases e
            exact ⟨cc, rfl, fun v z => nomatch z⟩
          | succ i => cases e
      have ndP : [("self" : Str), par].Nodup := by
        have q := S.nd.sublist (List.take_sublist ([("self" : Str), par].length + [("__class__" : Str)].length) _)
        rw [S.pre] at q
        exact (List.nodup_append.mp q).1
      have I := NdefX.inv_startN (CX := CX) (P := P) (w := w) (base := base) (E := E) (F := ⟨"__init__", qual, params, [], scope, [("__class__", cc)], c⟩) (f := f) (tk := s.toks + ([("self" : Str), par].zip [Value.ref a, u1]).length) S hr.hd e0 rfl r0 C0 hns kp
      obtain ⟨pl, hev⟩ := hev (callEnv (PySem.W.fnX "__init__" qual params [.Expr (.Call (.Attribute (.Call (.Name "super" p0) [] [] p1) "__init__" p2) [e] [] p3) p4, .Assign [.Attribute (.Name "self" p5) fld p6] (.Name par p7) p8] scope [("__class__", cc)] .none kV doc pm an (.ref c) ct) s.heap.objs.size f)
      have qt : interactive (callEnv (PySem.W.fnX "__init__" qual params [.Expr (.Call (.Attribute (.Call (.Name "super" p0) [] [] p1) "__init__" p2) [e] [] p3) p4, .Assign [.Attribute (.Name "self" p5) fld p6] (.Name par p7) p8] scope [("__class__", cc)] .none kV doc pm an (.ref c) ct) s.heap.objs.size f) = false := I.quiet
      refine ks_wpAt_execs_cons (ks_wpAt_Expr_any (hi := qt) (ks_wpAt_MethodCall (he := hev) (ks_wpAt_super_base (ar := ar) hsup (S.frk _ (by simp)) rfl rfl (kp _ _ (KX _ _ lk)) rfl (by show (params.posonlyargs ++ params.args).head? = some ar; rw [hp]; rfl) rfl (kp _ _ (KX _ _ lc)) rfl hvs hfile htop ?_)))
      obtain ⟨mb, hb1, hb2⟩ := I.mod.blt
      refine PySem.W.ks_loadName_global S.kind hsup (Calls.loadGlobal_builtin (I.mod.glob.keeps I.bk) hmg (hb1.keeps I.bk) ((hb2 "super" (by decide)).trans (by decide +kernel)) ⟨rfl, ?_⟩)
      refine wpAny_loadName_free S.kind (S.frk _ (by simp)) rfl ⟨_, kp _ _ (KX _ _ lcell), rfl⟩ ?_
      rw [har]
      refine wpAny_loadName_local S.kind (S.par _ (by simp)) hns (v := Value.ref a) (NdefX.zip_look (i := 0) ndP rfl rfl) ?_
      obtain ⟨oD, hD1, hD2⟩ : ∃ oD, h₁.get? C = some oD ∧ oD.data = .cls cd := by
        have hD := hcls
        unfold PySem.W.clsIn at hD
        split at hD
        · rename_i c' d' cd' sl ho
          cases hD
          exact ⟨_, I.kIn _ _ ho, rfl⟩
        · cases hD
      obtain ⟨t1, hx⟩ := exo_at I.hok ha
      refine ks_wpAny_isType_cls hD1 hD2 ⟨rfl, ?_⟩
      refine ks_wpAny_call_super hD1 hD2 hx rfl (fun c e => nomatch e) (PySem.W.looks_mroIn I.kIn hmro) (fun h2 so k2 => ?_)
      have I2 := I.kept (t' := s.toks + ([("self" : Str), par].zip [Value.ref a, u1]).length) k2
      have hx2 := k2 _ _ hx
      have Ia : PySem.W.InstAt h2 a _ C none := ⟨hx2, rfl, rfl, trivial⟩
      refine PySem.W.kxs_getMethod PySem.W.kxs_ValueError so (PySem.W.looks_opaque I2.kIn hst) (l₀ := cd.mro) ?_ rfl I2.kIn ?_ (Ia.type.andThen (PySem.W.looks_subIn I2.kIn hB)) (PySem.W.ks_ne I2.kIn Ia hcls) rfl ?_
      · exact fun A Q E s k q => wpAny_bind ((PySem.W.looks_clsIn I2.kIn hcls) A _ E s k (wpAny_pure q))
      · have := hsu
        unfold PySem.W.ks_superIn at this
        rw [hcls] at this
        exact this
      have gk : ∀ b o, h2.get? b = some o → (h2.push (kxs_mw "ValueError.__init__" a)).get? b = some o := fun b o e => Heap.get?_push_of_some _ e
      have I3 := (I2.kept (t' := s.toks + ([("self" : Str), par].zip [Value.ref a, u1]).length + 1) gk).pins_of (pins' := [(h2.objs.size, kxs_mw "ValueError.__init__" a)]) (fun p hp => by
        rw [List.mem_singleton.mp hp]
        exact ⟨Heap.get?_push_at rfl rfl, I2.hok.fresh (Nat.le_refl _), Ne.symm (Nat.ne_of_lt I2.lt), I2.nofs (Nat.le_refl _), fun v e => nomatch e⟩)
      obtain ⟨te, pe, hte⟩ := he (NdefX.ncx CX P w K mg base [("self" : Str), par, "__class__"] ⟨"__init__", qual, params, [], scope, [("__class__", cc)], c⟩ f A outer s H E) rfl rfl rfl rfl (Or.inl (S.par _ (by simp)))
      have gl := hst1 (NdefX.ncx CX P w K mg base [("self" : Str), par, "__class__"] ⟨"__init__", qual, params, [], scope, [("__class__", cc)], c⟩ f A outer s H E).env
      have pa := pa_cons pe pa_nil gl
      have rn := pa.run p3 _ _ _ _ (fun vs H2 => (∃ v, vs = [v]) ∧ H2 = H) I3 (hte a y H _ hT fun v => ⟨⟨v, rfl⟩, rfl⟩)
      show wpAny _ _ (callWith p3 (.ref h2.objs.size) [] (backTo p3 (starEach [e] _)) []) _ _ _
      refine PySem.W.kxs_callWith (i := "ValueError.__init__") (x := a) (by rw [hst1]; rfl) ?_
      have rn2 := rn
      rw [hst1] at rn2 ⊢
      refine Calls.evalArgs_plain (wpAny_mono rn2 (fun us4 s4 hs4 => ?_) fun _ _ x => x)
      obtain ⟨vs4, H4, I4, rv4, ⟨v4, ev4⟩, eH4⟩ := hs4
      subst ev4
      rw [eH4] at I4
      have p4 := I4.pin (h2.objs.size, kxs_mw "ValueError.__init__" a) (by simp)
      refine ⟨p4.1, ?_⟩
      obtain ⟨nm, q', N', bs, bm, sn, sub, ab, col, dd, k0, k1, k2', k3, k5, hC, hbm⟩ := F.oex.cls
      obtain ⟨t4, hx4⟩ := exo_at I4.hok ha
      have hl4 : us4.length ≤ sizeLine := by
        rw [← Paired.length rv4, sizeLine_eq]
        show 1 ≤ 16777216
        decide
      obtain ⟨hp4, g4, d4, tk4, os4⟩ := s4
      refine call_mw (I4.kIn _ _ hC) hx4 p4.1 hl4 (fun h5 t5 k5' e5 => ?_)
      have I5 := I4.write (t' := tk4) (x := a) (e := a) (o := exo a C none) (by rw [ha]; exact True.intro) (.inl rfl) k5' ⟨_, e5⟩ (exo_ok e5)
      have eu : upd H a (exo a C none) = H := by
        funext b
        by_cases hb : b = a
        · rw [hb, upd_same, ha]
        · rw [upd_ne hb]
      rw [eu] at I5
      have I6 := I5.pins_of (pins' := []) (fun p hp => by cases hp)
      show PySem.wpAt _ _ _ (execs [.Assign [.Attribute (.Name "self" p5) fld p6] (.Name par p7) p8] _) _ _ _
      refine wpAt_of_wpAny ?_
      have ps := pss_one (ps_ost (pe_var (X := NdefX.ncx CX P w K mg base [("self" : Str), par, "__class__"] ⟨"__init__", qual, params, [], scope, [("__class__", cc)], c⟩ f A outer s H E) (i := 0) (x := "self") (pos := p5) rfl (Or.inl (S.par _ (by simp)))) (pe_var (i := 1) (x := par) (pos := p7) rfl (Or.inl (S.par _ (by simp))) pd1 pd2) (f := fld) (p' := p6) (pos := p8) (hsw _))
      refine wpAny_mono (ps.run [] _ _ H { nx := fun _ H' => Q .non H', rt := Q } I6 ⟨y, rfl, .ref a, rfl, a, C, rfl, F.oex, hno, .inl ⟨ha, fun dx n ne => hq dx n ne⟩⟩) (fun fl s' hs => ?_) fun e s' hs => hs
      have fin : ∀ {σ' : L2.St} {H' : Hp} {v : V} {u : Value}, Inv (NdefX.ncx CX P w K mg base [("self" : Str), par, "__class__"] ⟨"__init__", qual, params, [], scope, [("__class__", cc)], c⟩ f A outer s H E) [] σ' H' s' → L2.RelV v u → Q v H' → CE outer P w H s Q u s' :=
        fun {σ' H' v u} J rv q => ⟨v, H', J.os, J.bare, J.base, J.hok, rv, q⟩
      cases fl with
      | ret u =>
        obtain ⟨v, σ', H', J, rv, q⟩ := hs
        exact fin J rv q
      | next =>
        obtain ⟨σ', H', J, q⟩ := hs
        exact fin (v := V.non) (u := Value.none) J rfl q
      | brk =>
        obtain ⟨_, _, _, q⟩ := hs
        exact False.elim q
      | cont =>
        obtain ⟨_, _, _, q⟩ := hs
        exact False.elim q
end
end DL
end Part_DX

section Part_DY
set_option Elab.async false
set_option linter.all false
set_option maxRecDepth 100000
set_option autoImplicit false
set_option maxHeartbeats 2000000
namespace DL
open PySem PySem.Spec PyProof.Rows L2 Evl
/-! ### raise X(e) -/
def mRaise (c : Nat) (t : D → Bool) (a : M D) : M Fl := fun δ => (a δ).bind fun d δ => if t d then .ex c d δ else .no
/-- the error class x, number c: (where, its attribute) = p, t: what may be told -/
structure ErrX (P : Program) (w : World) (K : PySem.W.Frag) (mg : Str → Option Value) (base : Heap) (k : Nat) (x : Str) (p : Addr × Str) (t : D → Bool) : Prop where
  ex : ∃ fI fd ps T, OexC K p.1 ∧ PySem.W.findIn K (.ref p.1) "__init__" = some (some (.ref fI)) ∧ PySem.W.typeIn K (.ref fI) = some (.type "function") ∧ FnOk P w K mg base CX0 k fI fd ps (SpI T p.1 p.2) ∧ Binds K fd ps [] ∧ mg x = some (.ref p.1) ∧
    ∀ C v d, Dq K C v d → t d = true → T v
section
variable {X : Cx} {EC : ECl} {W : WX} {e : Expr} {ma : M D} {x : Str} {p pos pos' : Pos} {c k : Nat} {t : D → Bool}
theorem ds_raise (hc : X.calm = true) (tk : Takes X W) (F : ErrX X.prog X.w X.K X.mg X.base k x (EC c) t) (hr : Room (k + 1) X.A) (ha : DE X EC W e ma) (hg : Gl X x := by rfl) (hdb : (x == ("__debug__" : Str)) = false := by decide)
    (he : starEach (e :: []) X.env = (false, eval e X.env) :: starEach [] X.env := by rfl) (hpl : (backTo pos (starEach [] X.env)).any (·.1) = false := by rfl) :
    DS X EC W (.Raise (some (.Call (.Name x p) [e] [] pos)) none pos') (mRaise c t ma) := by
  obtain ⟨fI, fd, ps, T, O, iC, tI, F1, hb, hm, hT⟩ := F.ex
  obtain ⟨te, pe, re⟩ := ha.ex
  refine ⟨_, ps_raise hc tk (pmk_oex (dvs := []) (ds := []) O iC tI F1 hr hb .nil pass0 hg hm (pa_cons pe pa_nil he) hdb he hpl), fun C0 H0 B C H σ δ N S h => re C0 H0 B C H σ δ _ S (RP.imp (RP.bind h) (fun d δ1 h1 y C1 H1 e1 S1 d1 => ?_) fun c d δ z => ?_)⟩
  · refine ⟨by show 1 ≤ 1000; decide, fun a hn => ?_⟩
    cases q : t d with
    | false => rw [q] at h1; exact h1.elim
    | true =>
      rw [q] at h1
      refine ⟨a, y, rfl, hT C1 y d d1 q, upd_same, fun dx hdx ne => ⟨rfl, dx, [((EC c).2, y)], upd_same, by rw [upd_ne ne, upd_same], ?_, ?_⟩⟩
      · rwa [upd_ne ne] at hdx
      · have hdx' : H1 dx = none := by rwa [upd_ne ne] at hdx
        have e2 : upd (del (upd (upd (upd H1 a (exo a (EC c).1 none)) dx (exd dx [((EC c).2, y)])) a (exo a (EC c).1 (some dx))) a) dx (.xd [((EC c).2, y)]) = upd H1 dx (.xd [((EC c).2, y)]) := by
          funext b
          by_cases hb1 : b = dx
          · rw [hb1, upd_same, upd_same]
          · rw [upd_ne hb1, upd_ne hb1]
            by_cases hb2 : b = a
            · rw [hb2, del_same, hn]
            · rw [del_ne hb2, upd_ne hb2, upd_ne hb1, upd_ne hb2]
        rw [e2]
        exact h1 σ y dx C1 _ e1 (S1.newN hdx') upd_same d1
  · exact z σ
end

/-! ### defs that may raise -/
/-- what a def gives of data, an error too -/
def mDefE (n : Nat) (body : M Fl) (ds : List D) : R D := (body (ds.map .val ++ List.replicate (n - ds.length) .non)).bind fun f _ => match f with
  | .rt d => .ok d []
  | .nx => .ok .none []
  | _ => .no
def SpE (K : PySem.W.Frag) (EC : ECl) (n : Nat) (mf : List D → R D) : Sp := fun vs H Q E => ∃ C ds, Ex C H ∧ DqAll K C vs ds ∧ vs.length = n ∧
  RP (mf ds) (fun d _ => ∀ v C2 H2, Ex C C2 → Ex H H2 → Ex C2 H2 → (∀ a, H a ≠ none → C a = none → C2 a = none) → Dq K C2 v d → Q v H2)
    fun c d _ => ∀ v dd C2 H2, Ex C C2 → Ex H H2 → Ex C2 H2 → (∀ a, H a ≠ none → C a = none → C2 a = none) → H2 dd = some (.xd [((EC c).2, v)]) → Dq K C2 v d → E (.ref (EC c).1) (some dd) H2
/-- the def at the name x may raise, and does what mf says -/
structure FnE (P : Program) (w : World) (K : PySem.W.Frag) (mg : Str → Option Value) (base : Heap) (EC : ECl) (k : Nat) (x : Str) (n : Nat) (mf : List D → R D) : Prop where
  ex : ∃ f fd ps, FnOk P w K mg base (L2.CX P w) k f fd ps (SpE K EC n mf) ∧ mg x = some (.ref f) ∧ PySem.W.keepIn K (.ref f) = true ∧ Binds K fd ps []
section
variable {P : Program} {w : World} {K : PySem.W.Frag} {mg : Str → Option Value} {base : Heap}
theorem def_okE {x : Str} {st : Stmt} {N ps : List Str} {k : Nat} {EC : ECl} {m : M Fl} (F : FunX K mg x st ps) (S : FnScope N ps (defScope st))
    (hb : ∀ (f : Addr) (cdv : Value) (A : Around) (outer : List Env) (s : Shared) (H : Hp) (E : XK), Room k (A.deeper (envOfC x (defScope st) s.heap.objs.size f cdv)) →
      Takes (cxOf (L2.CX P w) P w K mg base N x (defScope st) f cdv A outer s H E) (fun cls d _ H' => E cls d H') →
      PassesOwn (model P w) (cxOf (L2.CX P w) P w K mg base N x (defScope st) f cdv A outer s H E).A (cxOf (L2.CX P w) P w K mg base N x (defScope st) f cdv A outer s H E).env (cxOf (L2.CX P w) P w K mg base N x (defScope st) f cdv A outer s H E).xe →
      DSs (cxOf (L2.CX P w) P w K mg base N x (defScope st) f cdv A outer s H E) EC (fun cls d _ H' => E cls d H') (defBody st) m) : FnE P w K mg base EC (k + 1) x ps.length (mDefE N.length m) := by
  obtain ⟨f, fd, F, hg, hbi⟩ := F.ex
  refine ⟨f, fd, ps, F.okX S (fun vs H Q E h => ?_) (fun cdv A outer s H vs Q E hr h => ?_), hg, F.kp, binds_of hbi⟩
  · obtain ⟨C, ds, _, _, hl, _⟩ := h
    exact hl
  · obtain ⟨C, ds, e, hd, hl, q⟩ := h
    obtain ⟨t, p, r⟩ := (hb f cdv A outer s H E hr (takes_of rfl rfl rfl rfl) (passes_of rfl)).ex
    refine ⟨t, p, r C H [] C H (L2.start N vs) _ _ (start_sr e hd) (RP.imp (RP.bind q) (fun f δ h1 σ C2 H2 e2 S2 => ?_) fun c d δ z σ v dd C2 H2 e2 S2 z1 z2 => ?_)⟩
    · have n2 : ∀ a, H a ≠ none → C a = none → C2 a = none := S2.nw
      have eH : Ex H H2 := fun a o z => S2.fr a o z fun p hp => by cases hp
      cases f with
      | nx => exact h1 .non C2 H2 e2 eH S2.ch n2 .non
      | rt d => exact fun v hv => h1 v C2 H2 e2 eH S2.ch n2 hv
      | bk => exact h1.elim
      | ct => exact h1.elim
    · exact z v dd C2 H2 e2 (fun a o z => S2.fr a o z fun p hp => by cases hp) S2.ch S2.nw z1 z2
end
section
variable {X : Cx} {EC : ECl} {W : WX} {e : Expr} {es : List Expr} {mes : M (List D)} {pos p : Pos} {k n : Nat} {mf : List D → R D} {x : Str}
def mCallE (mf : List D → R D) (a : M (List D)) : M D := fun δ => (a δ).bind fun ds δ => match mf ds with
  | .ok d _ => .ok d δ
  | .ex c d _ => .ex c d δ
  | .no => .no
theorem de_callE (tk : Takes X W) (F : FnE X.prog X.w X.K X.mg X.base EC k x n mf) (hr : Room k X.A) (ha : DA X EC W (e :: es) mes) (hn : es.length + 1 = n := by rfl) (hg : Gl X x := by rfl)
    (hdb : (x == ("__debug__" : Str)) = false := by decide) (he : starEach (e :: es) X.env = (false, eval e X.env) :: starEach es X.env := by rfl) (hpl : (backTo pos (starEach es X.env)).any (·.1) = false := by rfl) :
    DE X EC W (.Call (.Name x p) (e :: es) [] pos) (mCallE mf mes) := by
  obtain ⟨f, fd, ps, F, hm, hk, hb⟩ := F.ex
  obtain ⟨t, pa, ra⟩ := ha.ex
  refine ⟨_, pe_callS F hr hg hm hk hb (fun σ => passAt tk σ) pa hdb he hpl, fun C0 H0 B C H σ δ Q S h => ?_⟩
  have hb := RP.bind h
  refine ra C0 H0 B C H σ δ _ S ?_
  cases q : mes δ with
  | no => rw [q] at hb; exact hb.elim
  | ex c d δ' => rw [q] at hb; exact hb
  | ok ds δ1 =>
    rw [q] at hb
    have hl := ha.len δ ds δ1 q
    intro vs C1 H1 e1 S1 d1
    refine ⟨C1, ds, S1.ch, d1, by rw [dpa_len d1, hl]; exact hn, ?_⟩
    have hb : RP (match mf ds with | .ok d _ => R.ok d δ1 | .ex c d _ => R.ex c d δ1 | .no => .no) (PKe X.K C0 H0 B C σ Q) (PXe X.K EC W C0 H0 B C σ) := hb
    cases q2 : mf ds with
    | no => rw [q2] at hb; exact hb.elim
    | ex c d δ' =>
      rw [q2] at hb
      intro v dd C2 H2 e2 e3 e4 n2 z1 z2
      exact hb v dd C2 H2 (e1.trans e2) (S1.step e2 e3 e4 n2) z1 z2
    | ok d δ2 =>
      rw [q2] at hb
      intro v C2 H2 e2 e3 e4 n2 dv
      exact hb v C2 H2 (e1.trans e2) (S1.step e2 e3 e4 n2) dv
end

/-! ### try: body / except x as n: return (..) -/
def mTryR (i : Nat) (ok : Nat → Bool) (mb : M Fl) (mh : Nat → D → List D) : M Fl := fun δ => match mb δ with
  | .ok f δ' => .ok f δ'
  | .ex c d δ' => if ok c then (match δ'[i]? with
      | some (.var _ _) => .no
      | some _ => .ok (.rt (.tuple (mh c d))) (δ'.set i .non)
      | none => .no) else .ex c d δ'
  | .no => .no
theorem SR.setN {K : PySem.W.Frag} {C0 H0 : Hp} {B : List (Nat × Addr)} {C H : Hp} {σ : L2.St} {δ : Dl} (S : SR K C0 H0 B C H σ δ) {i : Nat} {o : Option V} (h : ∀ b ds, δ[i]? ≠ some (.var b ds)) : SR K C0 H0 B C H (σ.set i o) (δ.set i .non) := by
  have hl := S.len
  have back : ∀ {j : Nat} {c : Cell}, (δ.set i .non)[j]? = some c → c ≠ .non → δ[j]? = some c ∧ j ≠ i := fun {j c} e ne => by
    by_cases q : i = j
    · subst q
      rw [List.getElem?_set] at e
      split at e
      · split at e
        · cases e; exact absurd rfl ne
        · cases e
      · exact absurd rfl (by assumption)
    · rw [List.getElem?_set_ne q] at e
      exact ⟨e, Ne.symm q⟩
  have fw : ∀ {j : Nat}, j ≠ i → (σ.set i o)[j]? = σ[j]? := fun {j} q => List.getElem?_set_ne (Ne.symm q)
  have fd : ∀ {j : Nat}, j ≠ i → (δ.set i .non)[j]? = δ[j]? := fun {j} q => List.getElem?_set_ne (Ne.symm q)
  refine ⟨by rw [List.length_set, List.length_set, hl], S.c0, S.ch, S.fr, S.nw, fun j d e => ?_, fun j ds e => ?_, fun p hp => ?_, fun j ds e => ?_, S.bd1, S.bd2, S.bH0, fun j k ds ds' ne e1 e2 l h1 => ?_⟩
  · obtain ⟨e1, q⟩ := back e (fun z => nomatch z)
    rw [fw q]
    exact S.val j d e1
  · obtain ⟨e1, q⟩ := back e (fun z => nomatch z)
    rw [fw q]
    exact S.own j ds e1
  · obtain ⟨ds, xs, h1, h2, h3⟩ := S.bor p hp
    have q : p.1 ≠ i := fun z => h _ _ (by rw [← z]; exact h1)
    exact ⟨ds, xs, by rw [fd q]; exact h1, by rw [fw q]; exact h2, h3⟩
  · obtain ⟨e1, q⟩ := back e (fun z => nomatch z)
    exact S.btr j ds e1
  · obtain ⟨f1, q1⟩ := back e1 (fun z => nomatch z)
    obtain ⟨f2, q2⟩ := back e2 (fun z => nomatch z)
    rw [fw q1] at h1
    rw [fw q2]
    exact S.odis j k ds ds' ne f1 f2 l h1
/-- elements of such a tuple: nothing is made or changed -/
structure SA (X : Cx) (EC : ECl) (i : Nat) (a : Addr) (c : Nat) (d : Option Addr) (es : List Expr) (mh : D → List D) : Prop where
  ex : ∃ ta, PA X es ta ∧ ∀ (dd : Addr) (v : V) (pay : D) (C H : Hp) (σ : L2.St) (Q : List V → Hp → Prop), Ex C H → d = some dd → σ[i]? = some (some (.ref a)) → H dd = some (.xd [((EC c).2, v)]) → Dq X.K C v pay →
    (∀ vs, DqAll X.K C vs (mh pay) → vs.length ≤ 16777216 → Q vs H) → ta σ H Q
section
variable {X : Cx} {EC : ECl} {W : WX} {i : Nat} {x n : Str} {cv : Value} {ok : Nat → Bool} {body : List Stmt} {es : List Expr} {mb : M Fl} {mh : Nat → D → List D} {np pos pos' rp tp : Pos}
def tbD (K : PySem.W.Frag) (EC : ECl) (mb : M Fl) (W : WX) : TS := fun N σ H => ∃ C0 H0 B C δ, SR K C0 H0 B C H σ δ ∧ RP (mb δ) (PKs K C0 H0 B C N) (PXs K EC W C0 H0 B C)
def thD (K : PySem.W.Frag) (EC : ECl) (i : Nat) (ok : Nat → Bool) (mh : Nat → D → List D) (a : Addr) (cls : Value) (d : Option Addr) : TS := fun N σ H => ∃ c dd v pay C0 H0 B C δ, ok c = true ∧ cls = .ref (EC c).1 ∧ d = some dd ∧ H dd = some (.xd [((EC c).2, v)]) ∧ Dq K C v pay ∧ SR K C0 H0 B C H σ δ ∧ σ[i]? = some (some (.ref a)) ∧
  PKs K C0 H0 B C N (.rt (.tuple (mh c pay))) δ
theorem ds_tryR {kc} (hs : X.stack = X.env :: X.outer) (hf : X.env.frame = some X.env.locals) (hN : X.N.Nodup) (hi : X.N[i]? = some n) (hln : X.env.kindOf n = some .local) (hc : Names X x cv) (tk : Takes X W)
    (hm : ∀ c, PySem.W.exmOne X.K (.ref (EC c).1) cv = some (ok c))
    (hb : ∀ (W' : WX) (pn : List (Addr × Obj)) (xe : Value → Shared → Prop), Takes (X.tr pn xe) W' → PassesOwn (model X.prog X.w) X.A X.env xe → DSs (X.tr pn xe) EC W' body mb)
    (hsu : ∀ (a : Addr) (oe : Obj) (c : Nat) (d : Option Addr) (pn : List (Addr × Obj)), ok c = true → Zc (.ref (EC c).1) d oe → (∃ vs, oe.data = .fields vs) → SA (X.suite a ((a, oe) :: pn)) EC i a c d es (mh c)) :
    DS X EC W (.Try body [.ExceptHandler (some (.Name x np)) (some n) [.Return (some (.Tuple es kc tp)) rp] pos'] [] [] pos) (mTryR i ok mb mh) := by
  have p := ps_try_as (body := body) (pos := pos) (pos' := pos') (np := np) (tb := tbD X.K EC mb) (ts := thD X.K EC i ok mh) (b₀ := .Return (some (.Tuple es kc tp)) rp) (suite := []) hs hf hN hi hln hc tk (fun W' pn xe tk' ho => ⟨fun pins s σ H N I h => ?_⟩) (fun a oe cls d pn hz hfl => ⟨fun pins s σ H N I h => ?_⟩)
  · refine ⟨_, p, fun C0 H0 B C H σ δ N S h => ?_⟩
    refine ⟨C0, H0, B, C, δ, S, ?_⟩
    unfold mTryR at h
    cases q : mb δ with
    | no => rw [q] at h; exact h.elim
    | ok f δ' => rw [q] at h; exact h
    | ex c d δ' =>
      rw [q] at h
      intro σ2 v dd C2 H2 e2 S2 z1 z2
      refine ⟨ok c, hm c, fun hk a na => ?_, fun hk => ?_⟩
      · have h : RP (if ok c = true then (match δ'[i]? with | some (.var _ _) => R.no | some _ => .ok (.rt (.tuple (mh c d))) (δ'.set i .non) | none => .no) else .ex c d δ') (PKs X.K C0 H0 B C N) (PXs X.K EC W C0 H0 B C) := h
        rw [if_pos hk] at h
        have nv : ∀ b ds, δ'[i]? ≠ some (.var b ds) := fun b ds z => by rw [z] at h; exact h.elim
        have hlen : i < δ'.length := by
          rcases Nat.lt_or_ge i δ'.length with q | q
          · exact q
          · rw [List.getElem?_eq_none q] at h; exact h.elim
        have h2 : PKs X.K C0 H0 B C N (.rt (.tuple (mh c d))) (δ'.set i .non) := by
          cases q : δ'[i]? with
          | none => rw [q] at h; exact h.elim
          | some cl =>
            rw [q] at h
            cases cl with
            | var b ds => exact h.elim
            | non => exact h
            | val d => exact h
        refine ⟨c, dd, v, d, C0, H0, B, C2, δ'.set i .non, hk, rfl, rfl, z1, z2, S2.setN nv, ?_, fun σ3 C3 H3 e3 S3 => ?_⟩
        · rw [List.getElem?_set_self (by rw [S2.len]; exact hlen)]
        · exact h2 σ3 C3 H3 (e2.trans e3) S3
      · have h : RP (if ok c = true then (match δ'[i]? with | some (.var _ _) => R.no | some _ => .ok (.rt (.tuple (mh c d))) (δ'.set i .non) | none => .no) else .ex c d δ') (PKs X.K C0 H0 B C N) (PXs X.K EC W C0 H0 B C) := h
        rw [if_neg (by rw [hk]; exact Bool.false_ne_true)] at h
        exact h σ2 v dd C2 H2 e2 S2 z1 z2
  · obtain ⟨C0, H0, B, C, δ, S, r⟩ := h
    obtain ⟨t, pt, rt⟩ := (hb W' pn xe tk' ho).ex
    exact pt.run pins s σ H N I (rt C0 H0 B C H σ δ N S r)
  · obtain ⟨c, dd, v, pay, C0, H0, B, C, δ, hk, rfl, rfl, z1, z2, S, hσ, r⟩ := h
    obtain ⟨ta, pa, ra⟩ := (hsu a oe c (some dd) pn hk hz hfl).ex
    refine (pss_one (ps_ret (pe_tupF pa))).run pins s σ H N I (ra dd v pay C H σ _ S.ch rfl hσ z1 z2 fun vs hvs hl => ⟨hl, fun p o hp ho => ?_⟩)
    exact r σ _ _ (Ex.new (free_of S.ch hp)) (S.new hp) (.ref p) (.tup sqt_new (.new ho) (dpAll_ex (Ex.new (free_of S.ch hp)) _ _ hvs))
end

/-! ### what stands in such a tuple -/
structure SEl (X : Cx) (EC : ECl) (i : Nat) (a : Addr) (c : Nat) (d : Option Addr) (e : Expr) (m : D → D) : Prop where
  ex : ∃ te, PE X e te ∧ ∀ (dd : Addr) (v : V) (pay : D) (C H : Hp) (σ : L2.St) (Q : VK), Ex C H → d = some dd → σ[i]? = some (some (.ref a)) → H dd = some (.xd [((EC c).2, v)]) → Dq X.K C v pay → (∀ y, Dq X.K C y (m pay) → Q y H) → te σ H Q
section
variable {X : Cx} {EC : ECl} {i c : Nat} {a : Addr} {d : Option Addr} {e : Expr} {es : List Expr} {m : D → D} {ms : D → List D} {oe : Obj} {pn : List (Addr × Obj)} {n : Str} {p p2 p3 pos : Pos}
theorem sa_nil : SA X EC i a c d [] fun _ => [] := ⟨_, pa_nil, fun dd v pay C H σ Q e1 h1 h2 h3 h4 q => q [] .nil (by simp)⟩
theorem sa_cons (h : SEl X EC i a c d e m) (hs : SA X EC i a c d es ms) (hl : es.length < 1000 := by decide) (hm : ∀ pay, (ms pay).length = es.length := by intro _; rfl) (he : starEach (e :: es) X.env = (false, eval e X.env) :: starEach es X.env := by rfl) : SA X EC i a c d (e :: es) fun pay => m pay :: ms pay := by
  obtain ⟨te, pe, re⟩ := h.ex
  obtain ⟨ta, pa, ra⟩ := hs.ex
  refine ⟨_, pa_cons pe pa he, fun dd v pay C H σ Q e1 h1 h2 h3 h4 q => re dd v pay C H σ _ e1 h1 h2 h3 h4 fun y hy => ra dd v pay C H σ _ e1 h1 h2 h3 h4 fun ys hys _ => q (y :: ys) (.cons hy hys) ?_⟩
  rw [List.length_cons, dpa_len hys, hm]
  omega
theorem sel_str {z : Str} {j : Nat} : SEl X EC i a c d (.Constant (.str z) j pos) fun _ => .str z := ⟨_, pe_str, fun dd v pay C H σ Q e1 h1 h2 h3 h4 q => q _ (.str z)⟩
theorem sel_fld (T : XfC X.K (EC c).1) (hno : PySem.W.findIn X.K (.ref (EC c).1) (EC c).2 = some none) (hz : Zc (.ref (EC c).1) d oe) (hf : ∃ vs, oe.data = .fields vs) (hN : X.N[i]? = some n) (hv : Vis X.env.scope n) (hd : (n == ("__debug__" : Str)) = false := by decide)
    (hcd : (n == ("__classdict__" : Str)) = false := by decide) {fl : Str} (hfl : fl = (EC c).2) (hb : attributeBase (.Name n p) fl X.env (eval (.Name n p) X.env) = eval (.Name n p) X.env := by rfl) : SEl (X.suite a ((a, oe) :: pn)) EC i a c d (.Attribute (.Name n p) fl pos) fun pay => pay := by
  subst hfl
  refine ⟨_, pe_xf T hno hz hf (pe_var (X := X.suite a ((a, oe) :: pn)) hN hv hd hcd) hb, fun dd v pay C H σ Q e1 h1 h2 h3 h4 q => ⟨_, h2, rfl, rfl, dd, _, v, h1, h3, ?_, q v h4⟩⟩
  rw [lookup_put, if_pos rfl]
/-- isinstance(e, c), e the exception that the suite holds, its dict there -/
def rIsD (K : PySem.W.Frag) (D a : Addr) (d : Option Addr) : List V → Hp → VK → Prop := fun xs H Q => ∃ (c : V) (cv : Value) (b : Bool) (dd : Addr) (fs : List (Str × V)), xs = [.ref a, c] ∧ (∀ u, RelV c u → u = cv) ∧ PySem.W.kitOne K (.ref D) cv = some b ∧ d = some dd ∧ H dd = some (.xd fs) ∧ Q (.bl b) H
theorem call_isD {D : Addr} (C : ExcC X.K D) (hz : Zc (.ref D) d oe) (hf : ∃ vs, oe.data = .fields vs) : CallR (X.suite a ((a, oe) :: pn)) (.builtin "isinstance") (rIsD X.K D a d) := by
  intro pins s σ H xs us Q I r h
  obtain ⟨c, cv, b, dd, fs, rfl, hcv, e, rfl, ea, q⟩ := h
  cases r with
  | cons rx rr =>
    cases rr with
    | cons rt rr =>
      cases rr
      cases rx
      have ec := hcv _ rt
      subst ec
      obtain ⟨hget, _⟩ := I.pin (a, oe) (List.mem_append.mpr (.inl List.mem_cons_self))
      obtain ⟨vs, hv⟩ := hf
      have hx : ObjOk X.prog X.w H s.heap dd (.xd fs) := I.hok dd _ ea
      obtain ⟨mA, hns, hr⟩ := hx
      obtain ⟨od, ho, hl⟩ := lookIn_ns hns
      have J : PySem.W.InstAt s.heap a oe D (some od) := ⟨hget, hz.1, by unfold PySem.W.notCls; rw [hv] <;> rfl, by rw [hz.2]; exact ho⟩
      exact PySem.W.kia_one (PySem.W.kitx_exc (by obtain ⟨cd, h, _⟩ := PySem.W.any_some C.hd; rw [h]; rfl) C.hg C.hk C.hs C.ha C.hn C.ht C.hm) I.kIn J e (fun z => nomatch z) fun tk => ⟨.bl b, H, I.kept (t' := tk) fun _ _ z => z, rfl, q⟩
theorem sel_is {x : Str} {cc : V} {cv : Value} {b : Bool} (C : ExcC X.K (EC c).1) (hz : Zc (.ref (EC c).1) d oe) (hf : ∃ vs, oe.data = .fields vs) (hN : X.N[i]? = some n) (hv : Vis X.env.scope n) (hk : PySem.W.kitOne X.K (.ref (EC c).1) cv = some b)
    (hx : PE (X.suite a ((a, oe) :: pn)) (.Name x p3) (tC cc)) (hcv : ∀ u, RelV cc u → u = cv) (hg : Gl X "isinstance") (hm : X.mg "isinstance" = none) (hd : (n == ("__debug__" : Str)) = false := by decide) (hcd : (n == ("__classdict__" : Str)) = false := by decide)
    (he : starEach [.Name n p2, .Name x p3] X.env = (false, eval (.Name n p2) X.env) :: starEach [.Name x p3] X.env := by rfl) (he2 : starEach [.Name x p3] X.env = (false, eval (.Name x p3) X.env) :: starEach [] X.env := by rfl) (hpl : (backTo pos (starEach [Expr.Name x p3] X.env)).any (·.1) = false := by rfl) :
    SEl (X.suite a ((a, oe) :: pn)) EC i a c d (.Call (.Name "isinstance" p) [.Name n p2, .Name x p3] [] pos) fun _ => .bool b := by
  refine ⟨_, pe_callB (X := X.suite a ((a, oe) :: pn)) (call_isD C hz hf) hg hm (by decide +kernel) (pa_cons (pe_var (X := X.suite a ((a, oe) :: pn)) hN hv hd hcd) (pa_cons hx pa_nil he2) he) (by decide) (by decide) he hpl, fun dd v pay C H σ Q e1 h1 h2 h3 h4 q => ⟨_, h2, cc, cv, b, dd, _, rfl, hcv, hk, h1, h3, q _ (.bl b)⟩⟩
end
end DL
end Part_DY

section Part_DZ
set_option Elab.async false
set_option linter.all false
set_option maxRecDepth 100000
set_option autoImplicit false
set_option maxHeartbeats 2000000
namespace DL
open PySem PySem.Spec PyProof.Rows L2 Evl
section
variable {P : Program} {w : World} {K : PySem.W.Frag} {mg : Str → Option Value} {base : Heap}
/-- what is asked of the class of an own error -/
structure ClsF (K : PySem.W.Frag) (C : Addr) (fld : Str) : Prop where
  oex : OexC K C
  xfc : XfC K C
  exc : ExcC K C
  nof : PySem.W.findIn K (.ref C) fld = some none
theorem clsF_mk {C : Addr} {fld : Str} {nm q : Str} {N : Addr} {bs bm : List Value} {sn : List Str} {sub : List Value} {ab : Bool} {col : Option Bool} {dd : Option Addr} {k0 k1 k2 k3 k5 : Option Value}
    (l : K.lookup C = some (excClassObj nm q C N bs bm true sn sub ab col dd k0 k1 k2 k3 k5 "ValueError.__new__")) (hbm : PySem.HandSPX.refsVE bm = true) (sa : PySem.W.findIn K (.ref C) "__setattr__" = some (some (.builtin "object.__setattr__")))
    (exC : PySem.W.subIn K (.ref C) (.type "BaseException") = some true) (tyC : PySem.W.typeIn K (.ref C) = some (.type "type")) (kC : PySem.W.keepIn K (.ref C) = true)
    (ga : PySem.W.findIn K (.ref C) "__getattribute__" = some (some (.builtin "BaseException.__getattribute__"))) (gg : PySem.W.findIn K (.ref C) "__getattr__" = some none) (hd : PySem.W.hasDictIn K C = true)
    (ha : PySem.W.findIn K (.ref C) "__class__" = some (some (.builtin "object.__class__"))) (hn : PySem.W.specialIn K (.builtin "object.__class__") "__get__" = some (some (.builtin "getset_descriptor.__get__"))) (ht : PySem.W.takesIn K (.builtin "object.__class__") = some true)
    (hm : PySem.W.mroIn K C (.type "object") = some true) (nof : PySem.W.findIn K (.ref C) fld = some none) : ClsF K C fld :=
  ⟨⟨⟨nm, q, N, bs, bm, sn, sub, ab, col, dd, k0, k1, k2, k3, k5, l, hbm⟩, sa, exC, tyC, kC⟩, ⟨ga, gg, exC, hd⟩, ⟨ga, gg, exC, hd, ha, hn, ht, hm⟩, nof⟩
theorem errX_mk {h : Heap} {x par fld qual : Str} {C fI c cc : Addr} {oc ccl cl doc pm kV ct : Value} {od an cdd cld : Option Addr} {osl ccs csl : Array (Option Value)} {params : Arguments} {scope : Scope} {e : Expr} {p0 p1 p2 p3 p4 p5 p6 p7 p8 : Pos} {ar : Arg} {ar2 : List Arg} {vs : Array Value} {file : Str} {tf : Tok} {cd : ClassData} {t : D → Bool}
    (T : V → Prop) (X : K.In h) (G : h.Ns mainGlobals mg) (F : ClsF K C fld) (a : PySem.W.nsIn K mainGlobals x = some (some (.ref C))) (b : PySem.W.findIn K (.ref C) "__init__" = some (some (.ref fI))) (tI : PySem.W.typeIn K (.ref fI) = some (.type "function"))
    (l : K.lookup fI = some ⟨oc, od, .func (PySem.W.fnX "__init__" qual params [.Expr (.Call (.Attribute (.Call (.Name "super" p0) [] [] p1) "__init__" p2) [e] [] p3) p4, .Assign [.Attribute (.Name "self" p5) fld p6] (.Name par p7) p8] scope [("__class__", cc)] .none kV doc pm an (.ref c) ct), osl⟩)
    (ci : PySem.W.codeIn K (.ref c) qual = true) (S : NdefX.NScope [("self" : Str), par, "__class__"] [("self" : Str), par] ["__class__"] scope) (hsup : scope.names.lookup ("super" : Str) = some .globalImplicit)
    (hp : (params.posonlyargs ++ params.args) = ar :: ar2) (har : ar.arg = "self") (lc : K.lookup c = some ⟨ccl, cdd, .fields vs, ccs⟩) (hvs : vs[2]? = some (.str file tf)) (hfile : ((P.main.file : Str) == file) = true) (htop : (P.main.scope.names.lookup ("super" : Str)).isSome = false)
    (lcc : K.lookup cc = some ⟨cl, cld, .cell (some (.ref C)), csl⟩) (hcls : PySem.W.clsIn K C = some cd) (hmro : PySem.W.mroIn K C (.ref C) = some true) (hsg : PySem.W.nsIn K mainGlobals "super" = some none) (hst : PySem.W.nsIn K cStatics "thirdparty.any" = some none)
    (hsu : PySem.W.alongIn K "__init__" ((cd.mro.dropWhile (· != .ref C)).drop 1) = some (some (.builtin "ValueError.__init__"))) (hB : PySem.W.subIn K (.ref C) (.type "ValueError") = some true)
    (hev : ∀ env : Env, ∃ pl : Sem Bool, eval (.Call (.Attribute (.Call (.Name "super" p0) [] [] p1) "__init__" p2) [e] [] p3) env = (do
      let ov ← attributeBase (.Call (.Name "super" p0) [] [] p1) "__init__" env (eval (.Call (.Name "super" p0) [] [] p1) env)
      standAt p2.atName
      let (f, first) ← holding [ov] (getMethod ov "__init__" pl)
      callWith p3 f first (backTo p3 (starEach [e] env)) [])) (hse : ∀ env : Env, starEach [e] env = (false, eval e env) :: starEach [] env) (pd1 : (par == ("__debug__" : Str)) = false) (pd2 : (par == ("__classdict__" : Str)) = false)
    (hsw : ∀ env : Env, swapsWith (.Name par p7) (some (.Attribute (.Name "self" p5) fld p6)) p8.line env = pure false)
    (hb : ∀ (us : List Value), us.length = 2 → bindArgs (PySem.W.fnX "__init__" qual params [.Expr (.Call (.Attribute (.Call (.Name "super" p0) [] [] p1) "__init__" p2) [e] [] p3) p4, .Assign [.Attribute (.Name "self" p5) fld p6] (.Name par p7) p8] scope [("__class__", cc)] .none kV doc pm an (.ref c) ct) ⟨us, []⟩ = pure ([("self" : Str), par].zip us))
    (he : ∀ (X : Cx), X.prog = P → X.K = K → X.mg = mg → X.N = [("self" : Str), par, "__class__"] → Vis X.env.scope par → ∃ te, PE X e te ∧ ∀ (a : Addr) (y : V) H Q, T y → (∀ v, Q v H) → te [some (.ref a), some y, none] H Q)
    (hT : ∀ C v d, Dq K C v d → t d = true → T v) : ErrX P w K mg base 1 x (C, fld) t := by
  refine ⟨fI, _, [("self" : Str), par], T, F.oex, b, tI, init_ok (k := 0) (CX := CX0) (e := e) (par := par) ⟨⟨oc, od, osl, kV, doc, pm, an, c, cc, ct, params, _, scope, p0, p1, p2, p3, p4, p5, p6, p7, p8, ar, ar2, ccl, cl, cdd, cld, ccs, csl, vs, file, tf, cd, 0, rfl, l, ci, rfl, S, hsup, hp, har, lc, hvs, hfile, htop, lcc, hcls, hmro, PySem.W.mg_none_of X G hsg, hst, ?_, hB, F.nof, rfl, hev, hse, pd1, pd2, hsw⟩, F.oex⟩ he, ?_, PySem.W.mg_of X G a, hT⟩
  · unfold PySem.W.ks_superIn
    rw [hcls]
    exact hsu
  · exact binds_of fun s us hl => .of_eq (hb us hl)
theorem kit_ref {t : Value} {A : Addr} {cd : ClassData} {b : Bool} (h1 : PySem.W.clsIn K A = some cd) (h2 : PySem.W.typeIn K (.ref A) = some (.type "type")) (h3 : PySem.W.subIn K t (.ref A) = some b) (hne : (t == .ref A) = false) : PySem.W.kitOne K t (.ref A) = some b := by
  unfold PySem.W.kitOne
  rw [hne, if_neg Bool.false_ne_true]
  show (if ((PySem.W.clsIn K A).isSome && PySem.W.typeIn K (.ref A) == some (.type "type")) = true then PySem.W.subIn K t (.ref A) else none) = _
  rw [h1, h2, if_pos (by rfl)]
  exact h3
theorem kit_typ {A : Addr} {T : String} {b : Bool} (h1 : PySem.W.kitMeta T = true) (h3 : PySem.W.subIn K (.ref A) (.type T) = some b) : PySem.W.kitOne K (.ref A) (.type T) = some b := by
  unfold PySem.W.kitOne
  rw [if_neg (by simp)]
  show (if PySem.W.kitMeta T = true then PySem.W.subIn K (.ref A) (.type T) else none) = _
  rw [if_pos h1]
  exact h3
end

/-- f'text{par}', par a small int -/
def TInt : V → Prop := fun v => ∃ i : Int, v = .int i ∧ 0 ≤ i ∧ i < 1000000000
def tInt : D → Bool
  | .int i => decide (0 ≤ i) && decide (i < 1000000000)
  | _ => false
theorem tInt_ok {K : PySem.W.Frag} : ∀ C v d, Dq K C v d → tInt d = true → TInt v := by
  intro C v d h q
  cases h <;> first | (cases q; done) | skip
  rename_i i
  obtain ⟨h1, h2⟩ := Bool.and_eq_true_iff.mp q
  exact ⟨i, rfl, of_decide_eq_true h1, of_decide_eq_true h2⟩
theorem num_log {n : Nat} (h : n < 1000000000) : n.log2 < 1920 := by
  by_cases q : n = 0
  · rw [q]; decide
  · exact (Nat.log2_lt q).mpr (Nat.lt_of_lt_of_le h (by decide +kernel))
theorem fstr_he {m par : Str} {j : Nat} {p q r s : Pos} (hm : m.length ≤ 1000) (X : Cx) (hN : X.N = [("self" : Str), par, "__class__"]) (hv : Vis X.env.scope par) (pd1 : (par == ("__debug__" : Str)) = false) (pd2 : (par == ("__classdict__" : Str)) = false) :
    ∃ te, PE X (.JoinedStr [.Constant (.str m) j p, .FormattedValue (.Name par q) (-1) none r] s) te ∧ ∀ (a : Addr) (y : V) H Q, TInt y → (∀ v, Q v H) → te [some (.ref a), some y, none] H Q := by
  refine ⟨_, pe_joined (.cons pe_str (.cons (pe_fmt (pe_var (i := 1) (by rw [hN] <;> rfl) hv pd1 pd2)) .nil)), fun a y H Q hy h => ?_⟩
  obtain ⟨i, rfl, h0, h1⟩ := hy
  obtain ⟨n, rfl⟩ := Int.eq_ofNat_of_zero_le h0
  have hl : (Str.ofString (toString ((n : Nat) : Int))).length ≤ 10 := by
    rw [SX.num_S, SX.S_len]
    exact Nat.le_trans (TL.numL_len (k := 9) (by decide) (by omega)) (by decide)
  have ln : ∀ a b : Str, (a ++ b).length = a.length + b.length := fun a b => by
    show (a.cps ++ b.cps).size = _
    rw [Array.size_append]
    rfl
  refine ⟨m, rfl, ?_, .int n, rfl, .inr ⟨n, rfl, num_log (n := n) (by omega), _, rfl, ?_, h _⟩⟩
  · rw [ln, sizeLine_eq]
    show 0 + _ ≤ _
    omega
  · rw [ln, ln, sizeLine_eq]
    show 0 + _ + _ ≤ _
    have : (Str.ofString (toString ((n : Nat) : Int))).length ≤ 10 := hl
    omega
end DL
end Part_DZ

section Part_DV
set_option Elab.async false
set_option linter.all false
set_option maxRecDepth 100000
set_option autoImplicit false
set_option maxHeartbeats 2000000
namespace DL
open PySem PySem.Spec PyProof.Rows L2 Evl
/-! ### written values as data -/
def listIn (f : Value → Option D) : List Value → Option (List D)
  | [] => some []
  | u :: us => match f u, listIn f us with
    | some d, some ds => some (d :: ds)
    | _, _ => none
def dataIn (K : PySem.W.Frag) : Nat → Value → Option D
  | 0, u => flatU u
  | n + 1, u => match u with
    | .ref a => (match K.lookup a with
      | some ⟨.type c, none, .seq us _, _⟩ => if c = "tuple" ∧ us.size ≤ 100000 then (listIn (dataIn K n) us.toList).map .tuple else none
      | _ => none)
    | u => flatU u
def Says (K : PySem.W.Frag) (u : Value) (d : D) : Prop := ∃ v, RelV v u ∧ ∀ C, Dq K C v d
theorem says_flat {K : PySem.W.Frag} {u : Value} {d : D} (h : flatU u = some d) : Says K u d := let ⟨v, r, q⟩ := flatU_ok h; ⟨v, r, fun C => q K C⟩
theorem listIn_ok {K : PySem.W.Frag} {f : Value → Option D} (hf : ∀ u d, f u = some d → Says K u d) : ∀ {us : List Value} {ds : List D}, listIn f us = some ds → ∃ vs, Vals vs us ∧ ∀ C, DqAll K C vs ds
  | [], _, h => by cases h; exact ⟨[], .nil, fun _ => .nil⟩
  | u :: us, ds, h => by
    unfold listIn at h
    split at h
    · rename_i d ds' h1 h2
      cases h
      obtain ⟨v, r, q⟩ := hf u d h1
      obtain ⟨vs, rs, qs⟩ := listIn_ok hf h2
      exact ⟨v :: vs, .cons r rs, fun C => .cons (q C) (qs C)⟩
    · cases h
theorem dataIn_ok {K : PySem.W.Frag} : ∀ (n : Nat) (u : Value) (d : D), dataIn K n u = some d → Says K u d
  | 0, u, d, h => says_flat h
  | n + 1, u, d, h => by
    unfold dataIn at h
    split at h
    · rename_i a
      split at h
      · rename_i c us m sl hl
        split at h
        · rename_i hc
          obtain ⟨hc, hz⟩ := hc
          subst hc
          cases q : listIn (dataIn K n) us.toList with
          | none => rw [q] at h; cases h
          | some ds =>
            rw [q] at h
            cases h
            obtain ⟨vs, rs, qs⟩ := listIn_ok (dataIn_ok n) q
            exact ⟨.ref a, rfl, fun C => .tup (.inr ⟨_, us, m, hl, rfl, rfl, by rw [sizeLine_eq]; omega, rs⟩) (.inr ⟨_, hl, rfl⟩) (qs C)⟩
        · cases h
      · cases h
    · exact says_flat h

/-! ### written dicts with text keys -/
def getT {α : Type} (t : List (Str × α)) (z : Str) : Option α := (t.find? fun p => p.1 == z).map (·.2)
/-- the entries of a written dict, as a table: each value by R -/
inductive TabR {α : Type} (R : Value → α → Prop) : List DictEntry → List (Str × α) → Prop
  | nil : TabR R [] []
  | cons {e : DictEntry} {p : Str × α} {es : List DictEntry} {ps : List (Str × α)} {t : Tok} : e.key = .str p.1 t → R e.val p.2 → TabR R es ps → TabR R (e :: es) (p :: ps)
theorem TabR.get {α : Type} {R : Value → α → Prop} {es : List DictEntry} {ps : List (Str × α)} (h : TabR R es ps) (z : Str) :
    (∃ e d, es.find? (·.key.isStr z) = some e ∧ getT ps z = some d ∧ R e.val d) ∨ (es.find? (·.key.isStr z) = none ∧ getT ps z = none ∧ es.any (·.refKey) = false) := by
  induction h with
  | nil => exact .inr ⟨rfl, rfl, rfl⟩
  | @cons e p es ps t h1 h2 h3 ih =>
    by_cases q : (p.1 == z) = true
    · refine .inl ⟨e, p.2, ?_, ?_, h2⟩
      · rw [List.find?_cons, h1]
        show (match (p.1 == z) with | true => some e | false => _) = _
        rw [q]
      · unfold getT
        rw [List.find?_cons, q]
        rfl
    · have q' : (p.1 == z) = false := by simpa using q
      have e1 : (e :: es).find? (·.key.isStr z) = es.find? (·.key.isStr z) := by
        rw [List.find?_cons, h1]
        show (match (p.1 == z) with | true => some e | false => _) = _
        rw [q']
      have e2 : getT (p :: ps) z = getT ps z := by
        unfold getT
        rw [List.find?_cons, q']
      have e3 : (e :: es).any (·.refKey) = es.any (·.refKey) := by
        rw [List.any_cons]
        have : e.refKey = false := by
          unfold DictEntry.refKey
          rw [h1]
        rw [this, Bool.false_or]
      rw [e1, e2, e3]
      exact ih
structure TabX (K : PySem.W.Frag) (w : World) (mg : Str → Option Value) (x : Str) {α : Type} (R : Value → α → Prop) (t : List (Str × α)) : Prop where
  ex : ∃ a es n, mg x = some (.ref a) ∧ KDict K w a es n ∧ TabR R es.toList t
theorem tab_ns {K : PySem.W.Frag} {w : World} {α : Type} {R : Value → α → Prop} {t : List (Str × α)} {a : Addr} {es : Array DictEntry} {n : Nat} (D : KDict K w a es n) (T : TabR R es.toList t) (z : Str) :
    (∃ u d, PySem.W.nsIn K a z = some (some u) ∧ getT t z = some d ∧ R u d) ∨ (PySem.W.nsIn K a z = some none ∧ getT t z = none) := by
  unfold PySem.W.nsIn
  rw [D.at_]
  dsimp only
  rcases T.get z with ⟨e, d, h1, h2, h3⟩ | ⟨h1, h2, h3⟩
  · refine .inl ⟨e.val, d, ?_, h2, h3⟩
    rw [h1]
  · refine .inr ⟨?_, h2⟩
    rw [h1, h3]
    rfl
/-- from what is written: data -/
def dataB (f : Value → Option D) : List DictEntry → Option (List (Str × D))
  | [] => some []
  | e :: r => match e.key, f e.val, dataB f r with
    | .str x _, some d, some t => some ((x, d) :: t)
    | _, _, _ => none
theorem dataB_ok {K : PySem.W.Frag} {n : Nat} : ∀ {es : List DictEntry} {t : List (Str × D)}, dataB (dataIn K n) es = some t → TabR (Says K) es t
  | [], _, h => by cases h; exact .nil
  | e :: es, t, h => by
    unfold dataB at h
    split at h
    · rename_i x tk d t' h1 h2 h3
      cases h
      exact .cons (t := tk) h1 (dataIn_ok n _ _ h2) (dataB_ok h3)
    · cases h
/-- .. defs, by their names -/
def funsB (K : PySem.W.Frag) : List DictEntry → List (Str × Str) → Bool
  | [], [] => true
  | e :: r, p :: ps => (match e.key with | .str x _ => decide (x = p.1) | _ => false) && (match PySem.W.nsIn K mainGlobals p.2, e.val with | some (some (.ref a)), .ref b => decide (a = b) | _, _ => false) && funsB K r ps
  | _, _ => false
theorem funsB_ok {K : PySem.W.Frag} {h : Heap} {mg : Str → Option Value} (X : K.In h) (G : h.Ns mainGlobals mg) : ∀ {es : List DictEntry} {t : List (Str × Str)}, funsB K es t = true → TabR (fun u py => mg py = some u) es t
  | [], [], _ => .nil
  | e :: es, p :: ps, h => by
    unfold funsB at h
    rw [Bool.and_eq_true, Bool.and_eq_true] at h
    obtain ⟨⟨h1, h2⟩, h3⟩ := h
    split at h1
    · rename_i x tk hk
      have hx := of_decide_eq_true h1
      subst hx
      refine .cons (t := tk) hk ?_ (funsB_ok X G h3)
      split at h2
      · rename_i a b e1 e2
        have := of_decide_eq_true h2
        subst this
        rw [e2]
        exact PySem.W.mg_of X G e1
      · cases h2
    · cases h1
  | [], _ :: _, h => by cases h
  | _ :: _, [], h => by cases h
theorem tab_data {K : PySem.W.Frag} {w : World} {mg : Str → Option Value} {h : Heap} {x : Str} {a : Addr} {es : Array DictEntry} {n : Nat} {t : List (Str × D)} {ks : List Str} (X : K.In h) (G : h.Ns mainGlobals mg) (g : PySem.W.nsIn K mainGlobals x = some (some (.ref a)))
    (l : K.lookup a = some ⟨.type "dict", none, .dict es n, #[]⟩) (lit : es.toList.map He.keyOf = He.keysIn w.params ks) (low : (a == sysModules) = false) (hd : dataB (dataIn K 3) es.toList = some t) : TabX K w mg x (Says K) t :=
  ⟨a, es, n, PySem.W.mg_of X G g, ⟨l, He.keysLit_of lit, low⟩, dataB_ok hd⟩
theorem tab_funs {K : PySem.W.Frag} {w : World} {mg : Str → Option Value} {h : Heap} {x : Str} {a : Addr} {es : Array DictEntry} {n : Nat} {t : List (Str × Str)} {ks : List Str} (X : K.In h) (G : h.Ns mainGlobals mg) (g : PySem.W.nsIn K mainGlobals x = some (some (.ref a)))
    (l : K.lookup a = some ⟨.type "dict", none, .dict es n, #[]⟩) (lit : es.toList.map He.keyOf = He.keysIn w.params ks) (low : (a == sysModules) = false) (hd : funsB K es.toList t = true) : TabX K w mg x (fun u py => mg py = some u) t :=
  ⟨a, es, n, PySem.W.mg_of X G g, ⟨l, He.keysLit_of lit, low⟩, funsB_ok X G hd⟩

section
variable {X : Cx} {EC : ECl} {W : WX} {a b c e : Expr} {es : List Expr} {ma mb mc : M D} {mes : M (List D)} {pos p p2 : Pos} {x : Str} {α : Type} {R : Value → α → Prop} {t : List (Str × α)} {td : List (Str × D)}
def dInK {α : Type} (t : List (Str × α)) : D → Option D
  | .str z => some (.bool (getT t z).isSome)
  | _ => none
def dGetK (t : List (Str × D)) : D → Option D
  | .str z => getT t z
  | _ => none
theorem inK_read (T : TabX X.K X.w X.mg x R t) : ∃ a es n, X.mg x = some (.ref a) ∧ KDict X.K X.w a es n ∧ ∀ (d z : D) (v : V) (C H : Hp) (Q : VK), Ex C H → Dq X.K C v d → dInK t d = some z → Rs X.K C H z Q →
    ∃ (z : Str) (r : Option Value), v = .str z ∧ V.ref a = .ref a ∧ PySem.W.nsIn X.K a z = some r ∧ Q (.bl r.isSome) H := by
  obtain ⟨a, es, n, hm, D, TT⟩ := T.ex
  refine ⟨a, es, n, hm, D, fun d z v C H Q e hv hz q => ?_⟩
  unfold dInK at hz
  split at hz
  · rename_i s
    cases hz
    cases hv
    rcases tab_ns D TT s with ⟨u, d, h1, h2, h3⟩ | ⟨h1, h2⟩
    · rw [h2] at q
      exact ⟨s, _, rfl, rfl, h1, q.1 _ (.bl _)⟩
    · rw [h2] at q
      exact ⟨s, _, rfl, rfl, h1, q.1 _ (.bl _)⟩
  · cases hz
theorem de_inK (T : TabX X.K X.w X.mg x R t) (ha : DE X EC W a ma) (hg : Gl X x := by rfl) (hdb : (x == ("__debug__" : Str)) = false := by decide) : DE X EC W (.Compare a [.In] [.Name x p] pos) (mUn (dInK t) ma) := by
  obtain ⟨ta, pa, ra⟩ := ha.ex
  obtain ⟨ad, es, n, hm, D, rd⟩ := inK_read T
  refine ⟨_, pe_cmpR (op_in_kd D) pa (pe_glob (v := .ref ad) hg hm rfl hdb) rfl, fun C0 H0 B C H σ δ Q S h => ra C0 H0 B C H σ δ _ S (RP.imp (RP.bind h) (fun x δ1 h1 v C1 H1 e1 S1 d1 => ?_) fun c d δ h => h)⟩
  obtain ⟨z, hz, q⟩ := RP.lift h1
  exact rd x z v C1 H1 Q S1.ch d1 hz (rs_of S1 (PKe.mono e1 _ _ q))
theorem dt_inK (T : TabX X.K X.w X.mg x R t) (ha : DE X EC W a ma) (hg : Gl X x := by rfl) (hdb : (x == ("__debug__" : Str)) = false := by decide) : DT X EC W (.Compare a [.In] [.Name x p] pos) (mT (mUn (dInK t) ma)) := by
  obtain ⟨ta, pa, ra⟩ := ha.ex
  obtain ⟨ad, es, n, hm, D, rd⟩ := inK_read T
  refine ⟨_, pt_cmpR (op_in_kd D) pa (pe_glob (v := .ref ad) hg hm rfl hdb) rfl, fun C0 H0 B C H σ δ Q S h => ra C0 H0 B C H σ δ _ S (RP.imp (RP.bind (RP.bind h)) (fun x δ1 h1 v C1 H1 e1 S1 d1 => ?_) fun c d δ h => h)⟩
  obtain ⟨z, hz, q⟩ := RP.lift h1
  refine rd x z v C1 H1 (fun x H' => ∃ k, x = .bl k ∧ Q k H') S1.ch d1 hz (rs_of (Q := fun x H' => ∃ k, x = .bl k ∧ Q k H') S1 fun u C3 H3 e3 S3 d3 => ?_)
  split at q
  · rename_i k
    cases d3
    exact ⟨k, rfl, q C3 H3 (e1.trans e3) S3⟩
  · exact q.elim
theorem de_getK (T : TabX X.K X.w X.mg x (Says X.K) td) (hb : DE X EC W b mb) (hs : PlainIx b := by intro _ _; rfl) (hg : Gl X x := by rfl) (hdb : (x == ("__debug__" : Str)) = false := by decide) : DE X EC W (.Subscript (.Name x p) b pos) (mUn (dGetK td) mb) := by
  obtain ⟨tb, pb, rb⟩ := hb.ex
  obtain ⟨ad, es, n, hm, Dd, TT⟩ := T.ex
  refine ⟨_, pe_ix ix_kdict (pe_glob (v := .ref ad) hg hm rfl hdb) pb hs, fun C0 H0 B C H σ δ Q S h => rb C0 H0 B C H σ δ _ S (RP.imp (RP.bind h) (fun y δ1 h1 v C1 H1 e1 S1 d1 => ?_) fun c d δ h => h)⟩
  obtain ⟨z, hz, q⟩ := RP.lift h1
  unfold dGetK at hz
  split at hz
  · rename_i s
    cases d1
    rcases tab_ns Dd TT s with ⟨u, d, g1, g2, v', r', g3⟩ | ⟨g1, g2⟩
    · rw [g2] at hz
      cases hz
      exact ⟨ad, s, v', rfl, rfl, ⟨es, n, u, Dd.at_, Dd.lit, g1, r'⟩, (rs_of S1 (PKe.mono e1 _ _ q)).1 v' (g3 C1)⟩
    · rw [g2] at hz
      cases hz
  · cases hz

/-! ### sorted(d) of a written dict -/
theorem lt_irr {a b : Str} (h1 : ltCps a.cps.toList b.cps.toList = false) (h2 : ltCps b.cps.toList a.cps.toList = false) : a = b := by
  have key : ∀ (x y : List Nat), ltCps x y = false → ltCps y x = false → x = y := by
    intro x
    induction x with
    | nil => intro y h1 h2; cases y with | nil => rfl | cons b y => exact absurd h1 (by simp [ltCps])
    | cons a x ih =>
      intro y h1 h2
      cases y with
      | nil => exact absurd h2 (by simp [ltCps])
      | cons b y =>
        by_cases q : a = b
        · subst q
          simp [ltCps] at h1 h2
          rw [ih y h1 h2]
        · exfalso
          simp [ltCps, q, Ne.symm q] at h1 h2
          omega
  have := key _ _ h1 h2
  cases a; cases b
  simp only [Str.mk.injEq]
  exact Array.toList_inj.mp this
end
end DL
end Part_DV

section Part_DW
set_option Elab.async false
set_option linter.all false
set_option maxRecDepth 100000
set_option autoImplicit false
set_option maxHeartbeats 2000000
namespace DL
open PySem PySem.Spec PyProof.Rows L2 Evl
/-! ### sorted(d) of a written dict -/
theorem rising_pw : ∀ (l : List Str) (p : Str), risingS p l = true → (∀ z : List Nat, True) → (p :: l).Pairwise (fun a b => ltCps b.cps.toList a.cps.toList = false) := by
  have tr : ∀ (a b c : List Nat), ltCps b a = false → ltCps c b = false → ltCps c a = false := by
    intro a
    induction a with
    | nil => intro b c h1 h2; cases b with
      | nil => exact h2
      | cons y b => cases c with
        | nil => exact absurd h2 (by simp [ltCps])
        | cons z c => simp [ltCps]
    | cons x a ih =>
      intro b c h1 h2
      cases b with
      | nil => exact absurd h1 (by simp [ltCps])
      | cons y b =>
        cases c with
        | nil => exact absurd h2 (by simp [ltCps])
        | cons z c =>
          simp only [ltCps, Bool.or_eq_false_iff, Bool.and_eq_false_iff, decide_eq_false_iff_not, beq_eq_false_iff_ne] at h1 h2 ⊢
          refine ⟨by omega, ?_⟩
          by_cases q : z = x
          · right
            subst q
            have e : y = z := by omega
            subst e
            refine ih b c ?_ ?_
            · rcases h1.2 with h | h
              · exact absurd rfl h
              · exact h
            · rcases h2.2 with h | h
              · exact absurd rfl h
              · exact h
          · exact .inl q
  intro l
  induction l with
  | nil => intro p _ _; simp
  | cons x r ih =>
    intro p h _
    have h : (!ltCps x.cps.toList p.cps.toList && risingS x r) = true := h
    rw [Bool.and_eq_true, Bool.not_eq_true'] at h
    have h2 := ih x h.2 fun _ => trivial
    refine List.pairwise_cons.mpr ⟨fun y hy => ?_, h2⟩
    rcases List.mem_cons.mp hy with e | hy
    · rw [e]; exact h.1
    · exact tr _ _ _ h.1 ((List.pairwise_cons.mp h2).1 y hy)
theorem sorted_pw {l : List Str} (h : sortedS l = true) : l.Pairwise (fun a b => ltCps b.cps.toList a.cps.toList = false) := by
  cases l with
  | nil => simp
  | cons x r => exact rising_pw r x h fun _ => trivial
theorem pw_uniq : ∀ {l m : List Str}, l.Perm m → l.Pairwise (fun a b => ltCps b.cps.toList a.cps.toList = false) → m.Pairwise (fun a b => ltCps b.cps.toList a.cps.toList = false) → l = m := by
  intro l m p h1 h2
  induction l generalizing m with
  | nil => exact (List.nil_perm.mp p).symm
  | cons x r ih =>
    cases m with
    | nil => exact absurd p.symm.length_eq (by simp)
    | cons y t =>
      have hx : x = y := by
        have a1 : x ∈ y :: t := p.subset List.mem_cons_self
        have a2 : y ∈ x :: r := p.symm.subset List.mem_cons_self
        rcases List.mem_cons.mp a1 with e | a1
        · exact e
        rcases List.mem_cons.mp a2 with e | a2
        · exact e.symm
        exact lt_irr ((List.pairwise_cons.mp h2).1 x a1) ((List.pairwise_cons.mp h1).1 y a2)
      subst hx
      rw [ih (List.Perm.cons_inv p) (List.pairwise_cons.mp h1).2 (List.pairwise_cons.mp h2).2]
theorem sorted_uniq {l m : List Str} (p : l.Perm m) (h1 : sortedS l = true) (h2 : sortedS m = true) : l = m := pw_uniq p (sorted_pw h1) (sorted_pw h2)
theorem TabR.at_ {α : Type} {RR : Value → α → Prop} {es : List DictEntry} {ps : List (Str × α)} (h : TabR RR es ps) : es.length = ps.length ∧ ∀ (j : Nat) (e : DictEntry), es[j]? = some e → ∃ (x : Str) (t : Tok), (ps.map (·.1))[j]? = some x ∧ e.key = .str x t := by
  induction h with
  | nil => exact ⟨rfl, fun j e h => by simp at h⟩
  | @cons e p es ps t h1 h2 h3 ih =>
    refine ⟨by simp [ih.1], fun j e' h => ?_⟩
    cases j with
    | zero =>
      simp at h
      subst h
      exact ⟨p.1, t, by simp, h1⟩
    | succ j => simpa using ih.2 j e' (by simpa using h)
section
variable {X : Cx} {α : Type} {RR : Value → α → Prop} {t : List (Str × α)}
theorem call_sortedK {a : Addr} {es : Array DictEntry} {n : Nat} (hcalm : X.calm = true) (Dd : KDict X.K X.w a es n) (T : TabR RR es.toList t) (h64 : t.length < 64) : CallR X (.builtin "sorted") (fun xs H Q => xs = [.ref a] ∧
    ∀ ys p, ys.Perm (t.map (·.1)) → sortedS ys = true → H p = none → Q (.ref p) (upd H p (.lst (ys.map V.str)))) := by
  intro pins s σ H xs us Q I r q
  obtain ⟨ex, q⟩ := q
  subst ex
  obtain ⟨u, eu, rx⟩ := vals1 r
  subst eu
  cases rx
  have hat := I.kIn _ _ Dd.at_
  have hl : es.size = t.length := by rw [← Array.length_toList]; exact T.at_.1
  have h16 : es.size ≤ sizeLine := by rw [hl, sizeLine_eq]; omega
  refine Calls.call_function_entry PyProof.Rows.kind_sorted PyProof.Rows.plain_sorted PyProof.Rows.entry_sorted (PyProof.Rows.args_sorted1 _) ?_
  unfold Builtin.«sorted»
  refine wpAny_bind (m := checkCount "sorted" 1 1 _) (wpAny_pure ?_)
  refine wpAny_bind (PySem.W.kdu_collect (A := X.A.in1) (kdl_raw (d := a) Dd.low ⟨rfl, rfl, rfl⟩ rfl) (I.ok.hd hcalm) hat h16 fun h' tk acc hk hacc => ?_)
  have hal : acc.toList.length = (t.map (·.1)).length := by rw [Array.length_toList, hacc.1, hl, List.length_map]
  have hS : StrsAre acc.toList (t.map (·.1)) := strs_at hal fun j v e => by
    obtain ⟨en, e1, e2⟩ := hacc.2 j v (by rw [← Array.getElem?_toList]; exact e)
    obtain ⟨x, tk', g1, g2⟩ := T.at_.2 j en (by rw [Array.getElem?_toList]; exact e1)
    exact ⟨x, tk', g1, by rw [e2, g2]⟩
  have h64 : acc.toList.length < 64 := by rw [hal, List.length_map]; exact h64
  have I1 : Inv X pins σ H { s with heap := h', toks := tk } := I.kept hk
  refine wpAny_bind (wpAny_newList ?_ (by rw [sizeLine_eq]; omega))
  have hoL : (h'.push (seqObj "list" acc.toList.toArray 0)).get? h'.objs.size = some (seqObj "list" acc.toList.toArray 0) := Heap.get?_push_size _ rfl
  show wpAny _ _ _ _ _ { s with heap := h'.push (seqObj "list" acc.toList.toArray 0), toks := tk }
  refine wpAny_bind (wpAny_holding (wpAny_call_entry PyProof.Rows.slot_list_sort ⟨_, hoL, rfl⟩ PyProof.Rows.entry_list_sort
    (list_sort_treeK strKind_oneLt (s := { s with heap := h'.push (seqObj "list" acc.toList.toArray 0), toks := tk }) hoL hS.keysOf (fun v₁ v₂ rest e => keyKind_strs (by rw [← e]; exact hS)) h64 fun st' hp hs => ⟨_, rfl, ?_⟩)
    (PyProof.Rows.args_list_sort _)))
  obtain ⟨ys, g1, g2, g3⟩ := sorted_out_str hS hp hs
  obtain ⟨e', he'⟩ := PyProof.Rows.sortedHeap_at (vs := acc.toList) (out := (arrOf st').map (·.2)) hoL
  have hlen : (ys.map V.str).length ≤ sizeLine := by
    rw [List.length_map, g2.length_eq, ← hal]
    exact Nat.le_trans (Nat.le_of_lt h64) (by decide)
  refine wpAny_pure ⟨_, rfl, .ref h'.objs.size, upd H h'.objs.size (.lst (ys.map V.str)), I1.laid (t' := tk) (fun b u e => ?_) (Nat.le_refl _)
    (show ObjOk X.prog X.w _ _ _ (.lst (ys.map V.str)) from ⟨hlen, ((arrOf st').map (·.2)).toList, e', vals_of_strs g1, by rw [Array.toArray_toList]; exact he'⟩), rfl, q ys _ g2 g3 (I1.hok.fresh (Nat.le_refl _))⟩
  have hb : b < h'.objs.size := Heap.lt_size e
  rw [PyProof.Rows.sortedHeap_old (Nat.ne_of_lt hb) (by rw [size_push']; exact Nat.lt_succ_of_lt hb)]
  exact Heap.get?_push_of_some _ e
end
section
variable {X : Cx} {EC : ECl} {W : WX} {a b c e : Expr} {es : List Expr} {ma mb mc : M D} {mes : M (List D)} {pos p p2 sp_ : Pos} {x y : Str} {α : Type} {RR : Value → α → Prop} {t : List (Str × α)} {td : List (Str × D)}
theorem de_sortK (T : TabX X.K X.w X.mg x RR t) (hc : X.calm = true) (h64 : t.length < 64) (hs : sortedS (t.map (·.1)) = true) (hm : X.mg "sorted" = none) (hg1 : Gl X "sorted" := by rfl) (hg : Gl X x := by rfl) (hdb : (x == ("__debug__" : Str)) = false := by decide)
    (he : starEach [.Name x p2] X.env = (false, eval (.Name x p2) X.env) :: starEach [] X.env := by rfl) :
    DE X EC W (.Call (.Name "sorted" p) [.Name x p2] [] pos) (mC (.list (t.map fun q => .str q.1))) := by
  obtain ⟨ad, es, n, hmx, Dd, TT⟩ := T.ex
  refine ⟨_, pe_callB (call_sortedK hc Dd TT h64) hg1 hm (by decide +kernel) (pa_cons (pe_glob (v := .ref ad) hg hmx rfl hdb) pa_nil he) (by decide) (by decide) he (by rfl), fun C0 H0 B C H σ δ Q S h => ⟨rfl, fun ys p' g1 g2 g3 => ?_⟩⟩
  have e1 := sorted_uniq g1 g2 hs
  subst e1
  refine h (.ref p') _ _ (Ex.new (free_of S.ch g3)) (S.new g3) (.lst (SqL.of upd_same) ?_)
  have : ∀ l : List (Str × α), DqAll X.K (upd C p' (.lst ((t.map (·.1)).map V.str))) ((l.map (·.1)).map V.str) (l.map fun q => .str q.1) := fun l => by
    induction l with
    | nil => exact .nil
    | cons q r ih => exact .cons (.str _) ih
  exact this t

/-! ### calls with a star -/
theorem pe_starCall {f : Addr} {fd : FuncData} {ps : List Str} {k : Nat} {sp : Sp} {te : TE} {s : Shared} {pins : List (Addr × Obj)} {σ : L2.St} {H : Hp} {Q : VK} (F : FnOk X.prog X.w X.K X.mg X.base CX0 k f fd ps sp) (hr : Room k X.A) (hk : PySem.W.keepIn X.K (.ref f) = true) (hb : Binds X.K fd ps []) (he : PE X e te) (I : Inv X pins σ H s)
    (ht : te σ H fun y H1 => ∃ a xs, y = V.ref a ∧ (SqT X.K H1 a xs ∨ SqL X.K H1 a xs) ∧ sp xs H1 Q (fun _ _ _ => False)) (hst : starEach [.Starred e sp_] X.env = [(true, eval e X.env)]) :
    wpAny (model X.prog X.w) X.A (callWith pos (.ref f) [] (backTo pos (starEach [.Starred e sp_] X.env)) []) (EP X pins σ Q) X.xe s := by
  refine PySem.W.callWith_S (h₀ := X.base) I.ok.mod.kin hk (thn (he.run pins s σ _ _ I ht) fun v s2 ⟨y, H1, I2, ry, a, xs, ey, hxs, q⟩ => ?_) hst
  subst ey
  obtain rfl : v = Value.ref a := ry
  refine StX.star_any I2 hxs fun us s3 I3 rv => ⟨I3.kIn, ?_⟩
  have z := run_fn (dvs := []) (ds := []) (E := fun _ _ _ => False) F hr hb .nil pass0 I3 rv (by rw [List.append_nil]; exact q)
  exact z
/-- the mirror of a call of mf with all of a list's or a tuple's items -/
def starD (n : Nat) (mf : List D → R D) : D → Option D := fun d =>
  match (match d with | .list xs => some xs | .tuple xs => some xs | _ => none) with
  | some xs => if xs.length = n then (match mf xs with | .ok z _ => some z | _ => none) else none
  | none => none
theorem star_read {K : PySem.W.Frag} {n : Nat} {mf : List D → R D} {C0 H0 C H : Hp} {B : List (Nat × Addr)} {σ : L2.St} {δ : Dl} {Q : VK} {v : V} {d z : D} (S : SR K C0 H0 B C H σ δ) (hd : Dq K C v d) (hz : starD n mf d = some z) (q : PKe K C0 H0 B C σ Q z δ) :
    ∃ a xs, v = V.ref a ∧ (SqT K H a xs ∨ SqL K H a xs) ∧ SpP K n mf xs H Q (fun _ _ _ => False) := by
  have fin : ∀ {vs : List V} {ds : List D}, DqAll K C vs ds → (if ds.length = n then (match mf ds with | .ok z _ => some z | _ => none) else none) = some z → SpP K n mf vs H Q (fun _ _ _ => False) := by
    intro vs ds ha hz
    split at hz
    · rename_i hl
      refine ⟨C, ds, S.ch, ha, by rw [dpa_len ha]; exact hl, ?_⟩
      split at hz
      · rename_i z' δ' hm
        cases hz
        rw [hm]
        intro v C2 H2 e2 e3 e4 n2 dv
        exact q v C2 H2 e2 (S.step e2 e3 e4 n2) dv
      · cases hz
    · cases hz
  unfold starD at hz
  cases hd with
  | lst h1 h2 => exact ⟨_, _, rfl, .inr (ex_l S.ch h1), fin h2 hz⟩
  | tup h1 nd_h1 h2 => exact ⟨_, _, rfl, .inl (ex_t S.ch h1), fin h2 hz⟩
  | _ => cases hz
/-- x(*e), x a def of the module -/
theorem de_callSt {k n : Nat} {mf : List D → R D} (F : FnX X.prog X.w X.K X.mg X.base k x n mf) (hr : Room k X.A) (ha : DE X EC W a ma) (hg : Gl X x := by rfl) (hdb : (x == ("__debug__" : Str)) = false := by decide)
    (hst : starEach [.Starred a sp_] X.env = [(true, eval a X.env)] := by rfl) : DE X EC W (.Call (.Name x p) [.Starred a sp_] [] pos) (mUn (starD n mf) ma) := by
  obtain ⟨f, fd, ps, F, hm, hk, hb⟩ := F.ex
  obtain ⟨ta, pa, ra⟩ := ha.ex
  refine ⟨fun σ H Q => ta σ H fun y H1 => ∃ a xs, y = V.ref a ∧ (SqT X.K H1 a xs ∨ SqL X.K H1 a xs) ∧ SpP X.K n mf xs H1 Q (fun _ _ _ => False), ⟨fun pins s σ H Q I h => wpAny_Call_Name_kw (ld_glob I hg hm (pe_starCall F hr hk hb pa I h hst) hdb)⟩,
    fun C0 H0 B C H σ δ Q S h => ra C0 H0 B C H σ δ _ S (RP.imp (RP.bind h) (fun x δ1 h1 v C1 H1 e1 S1 d1 => ?_) fun c d δ h => h)⟩
  obtain ⟨z, hz, q⟩ := RP.lift h1
  exact star_read S1 d1 hz (PKe.mono e1 _ _ q)

/-! ### a def out of one of three written dicts, called -/
/-- act: by the def's name in the module -/
def mDisp {α : Type} (get : Str → Option α) (act : α → Option (Nat × (List D → R D))) (i v : Nat) : M Fl := fun δ => match δ[i]?, δ[v]? with
  | some (.val (.str z)), some (.val d) => (match (get z).bind act with
    | some (n, mf) => (match starD n mf d with
      | some r => .ok (.rt r) δ
      | none => .no)
    | none => .no)
  | _, _ => .no
def mDispJ {α : Type} (get : Str → Option α) (act : α → Option (Nat × (List D → R D))) (i v j : Nat) : M Fl := fun δ => match δ[j]? with
  | some .non => mDisp get act i v δ
  | _ => .no
abbrev NmR (mg : Str → Option Value) : Value → Str → Prop := fun u py => mg py = some u
theorem SR.free {K : PySem.W.Frag} {C0 H0 C H : Hp} {B : List (Nat × Addr)} {σ : L2.St} {δ : Dl} {j : Nat} {v : V} (S : SR K C0 H0 B C H σ δ) (hj : δ[j]? = some .non) : SR K C0 H0 B C H (σ.set j (some v)) δ := by
  have hl : j < δ.length := (List.getElem?_eq_some_iff.mp hj).1
  have z := S.setC (c := .non) (v := v) hl (fun ds q => by rw [hj] at q; cases q) (fun d q => by cases q) (fun b ds q => by cases q)
  have e : δ.set j .non = δ := by
    apply List.ext_getElem?
    intro i
    by_cases q : j = i
    · subst q; rw [List.getElem?_set_self hl, hj]
    · rw [List.getElem?_set_ne q]
  rw [e] at z
  exact z
theorem pe_callLS {k j : Nat} {te : TE} (hr : Room k X.A) (hN : X.N[j]? = some x) (hv : Vis X.env.scope x) (he : PE X e te) (hdb : (x == ("__debug__" : Str)) = false := by decide) (hcd : (x == ("__classdict__" : Str)) = false := by decide)
    (hst : starEach [.Starred e sp_] X.env = [(true, eval e X.env)] := by rfl) :
    PE X (.Call (.Name x p) [.Starred e sp_] [] pos) (fun σ H Q => ∃ f sp, σ[j]? = some (some (.ref f)) ∧ Held X.prog X.w X.K X.mg X.base k f sp ∧ te σ H fun y H1 => ∃ a xs, y = V.ref a ∧ (SqT X.K H1 a xs ∨ SqL X.K H1 a xs) ∧ sp xs H1 Q (fun _ _ _ => False)) := by
  refine ⟨fun pins s σ H Q I h => ?_⟩
  obtain ⟨f, sp, hs, hH, ht⟩ := h
  obtain ⟨fd, ps, F, hk, hb⟩ := hH.ex
  refine wpAny_Call_Name_kw (thn ((pe_var (pos := p) hN hv hdb hcd).run pins s σ H (fun v H1 => v = .ref f ∧ H1 = H) I ⟨.ref f, hs, rfl, rfl⟩) fun u s1 ⟨v, H1, I1, r1, q1⟩ => ?_)
  obtain ⟨rfl, rfl⟩ := q1
  cases r1
  exact pe_starCall F hr hk hb he I1 ht hst
/-- if z in D1: act = D1[z] elif z in D2: act = D2[z] else: act = D3[z]; return act(*vs) -/
theorem dss_disp {i v j k : Nat} {z vs act d1 d2 d3 : Str} {t1 t2 t3 : List (Str × Str)} {act' : Str → Option (Nat × (List D → R D))} {q1 q2 q3 q4 q5 q6 q7 q8 q9 q10 q11 q12 q13 q14 q15 q16 q17 q18 q19 q20 q21 q22 q23 q24 q25 : Pos}
    (T1 : TabX X.K X.w X.mg d1 (NmR X.mg) t1) (T2 : TabX X.K X.w X.mg d2 (NmR X.mg) t2) (T3 : TabX X.K X.w X.mg d3 (NmR X.mg) t3)
    (hA : ∀ py n mf, act' py = some (n, mf) → FnX X.prog X.w X.K X.mg X.base k py n mf) (hr : Room k X.A) (hnd : X.N.Nodup)
    (hi : X.N[i]? = some z := by rfl) (hv : X.N[v]? = some vs := by rfl) (hj : X.N[j]? = some act := by rfl)
    (vz : Vis X.env.scope z := by exact Or.inl rfl) (vv : Vis X.env.scope vs := by exact Or.inl rfl) (va : Vis X.env.scope act := by exact Or.inl rfl) (la : Loc X.env.scope act := by exact Or.inl rfl)
    (g1 : Gl X d1 := by rfl) (g2 : Gl X d2 := by rfl) (g3 : Gl X d3 := by rfl)
    (b1 : (d1 == ("__debug__" : Str)) = false := by decide) (b2 : (d2 == ("__debug__" : Str)) = false := by decide) (b3 : (d3 == ("__debug__" : Str)) = false := by decide) (b4 : (z == ("__debug__" : Str)) = false := by decide) (b5 : (z == ("__classdict__" : Str)) = false := by decide)
    (b6 : (vs == ("__debug__" : Str)) = false := by decide) (b7 : (vs == ("__classdict__" : Str)) = false := by decide) (b8 : (act == ("__debug__" : Str)) = false := by decide) (b9 : (act == ("__classdict__" : Str)) = false := by decide)
    (hf : X.fn act = true ∨ X.env.scope.names.lookup act = some .local := by first | exact .inl rfl | exact .inr rfl)
    (s1 : swapsWith (.Subscript (.Name d1 q3) (.Name z q4) q5) (some (.Name act q6)) q7.line X.env = pure false := by rfl)
    (s2 : swapsWith (.Subscript (.Name d2 q11) (.Name z q12) q13) (some (.Name act q14)) q15.line X.env = pure false := by rfl)
    (s3 : swapsWith (.Subscript (.Name d3 q16) (.Name z q17) q18) (some (.Name act q19)) q20.line X.env = pure false := by rfl)
    (hst : starEach [.Starred (.Name vs q22) q23] X.env = [(true, eval (.Name vs q22) X.env)] := by rfl) :
    DSs X EC W [.If (.Compare (.Name z q1) [.In] [.Name d1 q2] p) [.Assign [.Name act q6] (.Subscript (.Name d1 q3) (.Name z q4) q5) q7]
        [.If (.Compare (.Name z q8) [.In] [.Name d2 q9] q10) [.Assign [.Name act q14] (.Subscript (.Name d2 q11) (.Name z q12) q13) q15] [.Assign [.Name act q19] (.Subscript (.Name d3 q16) (.Name z q17) q18) q20] q24] pos,
      .Return (some (.Call (.Name act q21) [.Starred (.Name vs q22) q23] [] q25)) p2] (mDispJ (fun z => (getT t1 z).or ((getT t2 z).or (getT t3 z))) act' i v j) := by
  obtain ⟨a1, e1, n1, m1, D1, R1⟩ := T1.ex
  obtain ⟨a2, e2, n2, m2, D2, R2⟩ := T2.ex
  obtain ⟨a3, e3, n3, m3, D3, R3⟩ := T3.ex
  have pz : ∀ q : Pos, PE X (.Name z q) (tVar i) := fun q => pe_var hi vz b4 b5
  have pv : ∀ q : Pos, PE X (.Name vs q) (tVar v) := fun q => pe_var hv vv b6 b7
  have G1 : ∀ q : Pos, PE X (.Name d1 q) (tC (.ref a1)) := fun q => pe_glob g1 m1 rfl b1
  have G2 : ∀ q : Pos, PE X (.Name d2 q) (tC (.ref a2)) := fun q => pe_glob g2 m2 rfl b2
  have G3 : ∀ q : Pos, PE X (.Name d3 q) (tC (.ref a3)) := fun q => pe_glob g3 m3 rfl b3
  refine ⟨_, pss_cons (ps_if (pt_cmpR (op_in_kd D1) (pz q1) (G1 q2) rfl) (pss_one (ps_set hnd hj la (pe_ix ix_kdict (G1 q3) (pz q4) (by intro _ _; rfl)) s1 hf))
    (pss_one (ps_if (pt_cmpR (op_in_kd D2) (pz q8) (G2 q9) rfl) (pss_one (ps_set hnd hj la (pe_ix ix_kdict (G2 q11) (pz q12) (by intro _ _; rfl)) s2 hf))
      (pss_one (ps_set hnd hj la (pe_ix ix_kdict (G3 q16) (pz q17) (by intro _ _; rfl)) s3 hf)))))
    (pss_one (ps_ret (pe_callLS (p := q21) (pos := q25) (sp_ := q23) hr hj va (pv q22) b8 b9 hst))), fun C0 H0 B C H σ δ N S h => ?_⟩
  have h0 : δ[j]? = some .non ∧ RP (mDisp (fun z => (getT t1 z).or ((getT t2 z).or (getT t3 z))) act' i v δ) (PKs X.K C0 H0 B C N) (PXs X.K EC W C0 H0 B C) := by
    unfold mDispJ at h
    split at h
    · rename_i hq
      exact ⟨hq, h⟩
    · exact h.elim
  obtain ⟨hjn, h⟩ := h0
  unfold mDisp at h
  split at h
  case h_2 => exact h.elim
  rename_i zz dd hz hd
  split at h
  case h_2 => exact h.elim
  rename_i n mf hget
  split at h
  case h_2 => exact h.elim
  rename_i r hr'
  obtain ⟨vz', hz1, hz2⟩ := S.val i _ hz
  cases hz2
  obtain ⟨vd, hd1, hd2⟩ := S.val v _ hd
  have hij : i ≠ j := fun q => by rw [q, hjn] at hz; cases hz
  have hvj : v ≠ j := fun q => by rw [q, hjn] at hd; cases hd
  have hlj : j < σ.length := by rw [S.len]; exact (List.getElem?_eq_some_iff.mp hjn).1
  -- behind the choice
  have tail : ∀ (f : Addr) (py : Str), X.mg py = some (.ref f) → act' py = some (n, mf) →
      ∃ (f' : Addr) (sp : Sp), (σ.set j (some (.ref f)))[j]? = some (some (.ref f')) ∧ Held X.prog X.w X.K X.mg X.base k f' sp ∧ tVar v (σ.set j (some (.ref f))) H fun y H1 => ∃ a xs, y = V.ref a ∧ (SqT X.K H1 a xs ∨ SqL X.K H1 a xs) ∧ sp xs H1 (fun v H => N.rt v H) (fun _ _ _ => False) := by
    intro f py hm hp
    obtain ⟨f', fd, ps, F, hm', hk, hb⟩ := (hA py n mf hp).ex
    rw [hm] at hm'
    cases hm'
    refine ⟨f, SpP X.K n mf, List.getElem?_set_self hlj, ⟨fd, ps, F, hk, hb⟩, vd, by rw [List.getElem?_set_ne (Ne.symm hvj)]; exact hd1, ?_⟩
    exact star_read (S.free (v := .ref f) hjn) hd2 hr' fun u C2 H2 e2 S2 du => h _ C2 H2 e2 S2 u du
  have fin : ∀ {a : Addr} {e : Array DictEntry} {m : Nat} {t : List (Str × Str)} (D : KDict X.K X.w a e m) (T : TabR (NmR X.mg) e.toList t) (py : Str), getT t zz = some py → act' py = some (n, mf) →
      ∃ (f : Addr), (∃ u, PySem.W.nsIn X.K a zz = some (some u) ∧ RelV (.ref f) u) ∧ X.mg py = some (.ref f) := by
    intro a e m t D T py hg hp
    obtain ⟨f', fd, ps, F, hm', hk, hb⟩ := (hA py n mf hp).ex
    rcases tab_ns D T zz with ⟨u, d, g1, g2, g3⟩ | ⟨g1, g2⟩
    · rw [hg] at g2
      cases g2
      have g3 : X.mg py = some u := g3
      rw [hm'] at g3
      cases g3
      exact ⟨f', ⟨_, g1, rfl⟩, hm'⟩
    · rw [hg] at g2
      cases g2
  have no : ∀ {a : Addr} {e : Array DictEntry} {m : Nat} {t : List (Str × Str)} (D : KDict X.K X.w a e m) (T : TabR (NmR X.mg) e.toList t), getT t zz = none → PySem.W.nsIn X.K a zz = some none := by
    intro a e m t D T hg
    rcases tab_ns D T zz with ⟨u, d, g1, g2, g3⟩ | ⟨g1, g2⟩
    · rw [hg] at g2; cases g2
    · exact g1
  have hget : ((getT t1 zz).or ((getT t2 zz).or (getT t3 zz))).bind act' = some (n, mf) := hget
  cases hg1 : getT t1 zz with
  | some py =>
    rw [hg1] at hget
    have hp : act' py = some (n, mf) := hget
    obtain ⟨f, ⟨u, u1, u2⟩, hm⟩ := fin D1 R1 py hg1 hp
    exact ⟨.str zz, hz1, zz, some u, rfl, rfl, u1, true, rfl, ⟨.str zz, hz1, a1, zz, .ref f, rfl, rfl, ⟨e1, n1, u, D1.at_, D1.lit, u1, u2⟩, tail f py hm hp⟩⟩
  | none =>
    rw [hg1] at hget
    refine ⟨.str zz, hz1, zz, none, rfl, rfl, no D1 R1 hg1, false, rfl, ?_⟩
    cases hg2 : getT t2 zz with
    | some py =>
      rw [hg2] at hget
      have hp : act' py = some (n, mf) := hget
      obtain ⟨f, ⟨u, u1, u2⟩, hm⟩ := fin D2 R2 py hg2 hp
      exact ⟨.str zz, hz1, zz, some u, rfl, rfl, u1, true, rfl, ⟨.str zz, hz1, a2, zz, .ref f, rfl, rfl, ⟨e2, n2, u, D2.at_, D2.lit, u1, u2⟩, tail f py hm hp⟩⟩
    | none =>
      rw [hg2] at hget
      refine ⟨.str zz, hz1, zz, none, rfl, rfl, no D2 R2 hg2, false, rfl, ?_⟩
      cases hg3 : getT t3 zz with
      | some py =>
        rw [hg3] at hget
        have hp : act' py = some (n, mf) := hget
        obtain ⟨f, ⟨u, u1, u2⟩, hm⟩ := fin D3 R3 py hg3 hp
        exact ⟨.str zz, hz1, a3, zz, .ref f, rfl, rfl, ⟨e3, n3, u, D3.at_, D3.lit, u1, u2⟩, tail f py hm hp⟩
      | none =>
        rw [hg3] at hget
        cases hget

/-! ### x in xs, items of any depth -/
def dInG : D → D → Option D
  | x, .list ds => if SeqAt.shaped x && (SeqAt.shaped (.list ds) && decide (x.depth ≤ 60)) then some (.bool (ds.any fun z => PyData.eqv z x)) else none
  | x, .tuple ds => if SeqAt.shaped x && (SeqAt.shaped (.tuple ds) && decide (x.depth ≤ 60)) then some (.bool (ds.any fun z => PyData.eqv z x)) else none
  | _, _ => none
def rInG (K : PySem.W.Frag) (neg : Bool) : R2 := fun x y H Q => ∃ d ds, Dp K H x d ∧ (Dp K H y (.list ds) ∨ Dp K H y (.tuple ds)) ∧ SeqAt.shaped d = true ∧ (SeqAt.shaped (.list ds) = true ∨ SeqAt.shaped (.tuple ds) = true) ∧ d.depth ≤ 60 ∧ Q (.bl (if neg then !ds.any fun z => PyData.eqv z d else ds.any fun z => PyData.eqv z d)) H
theorem shaped_all {ds : List D} (h : SeqAt.shaped (.list ds) = true ∨ SeqAt.shaped (.tuple ds) = true) : PyData.canLayAll0 ds = true := by
  rcases h with h | h
  · exact SeqAt.canLay_of_shaped h
  · exact SeqAt.canLay_of_shaped h
theorem op_inG (hu : X.A.units + 64 < cLine) : OpR X (compareOp .In) (rInG X.K false) := by
  intro pins s σ H x y v u Q I rx ry h
  obtain ⟨d, ds, hd, he, sd, se, hdp, q⟩ := h
  obtain ⟨as, r1⟩ := Dp.reads I d x v hd rx
  have hroom : X.A.units + 1 + min (PyData.depthAll ds) d.depth < cLine := by
    have := Nat.min_le_right (PyData.depthAll ds) d.depth
    omega
  rcases he with he | he
  · obtain ⟨bs, r2⟩ := Dp.reads I (.list ds) y u he ry
    exact SeqAt.in_list_reads r2 r1 (shaped_all se) (SeqAt.canLay_of_shaped sd) hroom ⟨.bl _, H, I, rfl, q⟩
  · obtain ⟨bs, r2⟩ := Dp.reads I (.tuple ds) y u he ry
    exact SeqAt.in_tuple_reads r2 r1 (shaped_all se) (SeqAt.canLay_of_shaped sd) hroom ⟨.bl _, H, I, rfl, q⟩
theorem ro_inG {K : PySem.W.Frag} : RO K (rInG K false) dInG := by
  intro x y z hz v w C H Q e hv hw q
  unfold dInG at hz
  split at hz
  · split at hz
    · rename_i hc
      rw [Bool.and_eq_true, Bool.and_eq_true] at hc
      cases hz
      exact ⟨x, _, dq_dp _ _ (SeqAt.canLay_of_shaped hc.1) (dp_ex e _ _ hv), .inl (dq_dp _ _ (SeqAt.canLay_of_shaped hc.2.1) (dp_ex e _ _ hw)), hc.1, .inl hc.2.1, of_decide_eq_true hc.2.2, q.1 _ (.bl _)⟩
    · cases hz
  · split at hz
    · rename_i hc
      rw [Bool.and_eq_true, Bool.and_eq_true] at hc
      cases hz
      exact ⟨x, _, dq_dp _ _ (SeqAt.canLay_of_shaped hc.1) (dp_ex e _ _ hv), .inr (dq_dp _ _ (SeqAt.canLay_of_shaped hc.2.1) (dp_ex e _ _ hw)), hc.1, .inr hc.2.1, of_decide_eq_true hc.2.2, q.1 _ (.bl _)⟩
    · cases hz
  · cases hz

/-! ### zip of two lists, of two tuples -/
def zipD (xs ys : List D) : List D := (xs.zip ys).map fun q => .tuple [q.1, q.2]
theorem zip_at {xs ys : List D} {i : Nat} {d : D} (h : (zipD xs ys)[i]? = some d) : ∃ x y, xs[i]? = some x ∧ ys[i]? = some y ∧ d = .tuple [x, y] := by
  unfold zipD at h
  rw [List.getElem?_map] at h
  cases q : (xs.zip ys)[i]? with
  | none => rw [q] at h; cases h
  | some z =>
    rw [q] at h
    cases h
    obtain ⟨h1, h2⟩ := List.getElem?_zip_eq_some.mp q
    exact ⟨z.1, z.2, h1, h2, rfl⟩
theorem zip_len {xs ys : List D} : (zipD xs ys).length = min xs.length ys.length := by
  unfold zipD
  rw [List.length_map, List.length_zip]
theorem it_pair {K : PySem.W.Frag} {C : Hp} {J : It} {n : Nat} {G : Hp → Prop} {xs ys : List V} {ds es : List D} (w : Walk J n G (YPairF (fun i => xs[i]?) (fun i => ys[i]?))) (hn : n = (zipD ds es).length) (hG : ∀ H, Ex C H → G H) (h1 : DqAll K C xs ds) (h2 : DqAll K C ys es) : ItOk K C J (zipD ds es) := by
  subst hn
  refine ⟨G, _, w, hG, fun i d hi C2 H x H' Q e1 e2 y q => ?_⟩
  obtain ⟨T, o, a, b, hx, hT, ho, hH, ha, hb⟩ := y
  subst hx hH
  obtain ⟨u, v, hu, hv, rfl⟩ := zip_at hi
  obtain ⟨u', hu', du⟩ := dpa_get' h1 ha
  obtain ⟨v', hv', dv⟩ := dpa_get' h2 hb
  rw [hu] at hu'
  rw [hv] at hv'
  cases hu'
  cases hv'
  have hC : C2 T = none := free_of e2 hT
  refine q.2 T _ hT (.tup sqt_new (.new ho) ?_)
  have e3 : Ex C (upd C2 T (.frz o (.tup [a, b]))) := e1.trans (Ex.new hC)
  exact .cons (dp_ex e3 _ _ du) (.cons (dp_ex e3 _ _ dv) .nil)
def dZip : List D → Option (List D)
  | [.list xs, .list ys] => some (zipD xs ys)
  | [.tuple xs, .tuple ys] => some (zipD xs ys)
  | [.tuple xs, .list ys] => some (zipD xs ys)
  | _ => none
def mZip (a b : M D) : M (List D) := fun δ => (a δ).bind fun x δ => (b δ).bind fun y δ => R.lift (dZip [x, y]) δ
theorem di_zip {elts : List Expr} {kk : Nat} {tpos : Pos} (hg : Gl X "zip") (hm : X.mg "zip" = none) (h : DE X EC W a ma) (h2 : DE X EC W b mb) (hs' : starEach (a :: [b]) X.env = (false, eval a X.env) :: starEach [b] X.env := by rfl) (hs3 : starEach (b :: []) X.env = (false, eval b X.env) :: starEach [] X.env := by rfl) (hpl : (backTo pos (starEach [b] X.env)).any (·.1) = false := by rfl) :
    DI X EC W (.Tuple elts kk tpos) (.Call (.Name "zip" p) [a, b] [] pos) (mZip ma mb) := by
  obtain ⟨te, pe, re⟩ := h.ex
  obtain ⟨tb, pb, rb⟩ := h2.ex
  refine ⟨_, pi_zipF hg hm (pa_cons pe (pa_cons pb pa_nil hs3) hs') hs' hpl, fun C0 H0 B C H σ δ RR S h => re C0 H0 B C H σ δ _ S (RP.imp (RP.bind h) (fun x δ1 h1 v C1 H1 e1 S1 d1 => ?_) fun c d δ h => h)⟩
  refine rb C0 H0 B C1 H1 σ δ1 _ S1 (RP.imp (RP.bind h1) (fun y δ2 h2 w C2 H2 e2 S2 d2 => ?_) (PXe.mono e1))
  obtain ⟨items, hi, q⟩ := RP.lift h2
  have d1 := dp_ex e2 _ _ d1
  unfold dZip at hi
  split at hi
  · rename_i hq
    cases hq
    cases hi
    cases d1 with
    | lst l1 a1 =>
      cases d2 with
      | lst l2 a2 =>
        refine ⟨_, _, _, _, rfl, .inl ⟨ex_l S2.ch l1, ex_l S2.ch l2, q _ C2 H2 (e1.trans e2) S2 (it_pair (walk_zipFLL rfl) ?_ (fun H e => ⟨ex_l e l1, ex_l e l2⟩) a1 a2)⟩⟩
        rw [zip_len, dpa_len a1, dpa_len a2]
  · rename_i hq
    cases hq
    cases hi
    cases d1 with
    | tup l1 nd_l1 a1 =>
      cases d2 with
      | tup l2 nd_l2 a2 =>
        refine ⟨_, _, _, _, rfl, .inr (.inl ⟨ex_t S2.ch l1, ex_t S2.ch l2, q _ C2 H2 (e1.trans e2) S2 (it_pair (walk_zipFTT rfl) ?_ (fun H e => ⟨ex_t e l1, ex_t e l2⟩) a1 a2)⟩)⟩
        rw [zip_len, dpa_len a1, dpa_len a2]
  · rename_i hq
    cases hq
    cases hi
    cases d1 with
    | tup l1 nd_l1 a1 =>
      cases d2 with
      | lst l2 a2 =>
        refine ⟨_, _, _, _, rfl, .inr (.inr ⟨ex_t S2.ch l1, ex_l S2.ch l2, q _ C2 H2 (e1.trans e2) S2 (it_pair (walk_zipFTL rfl) ?_ (fun H e => ⟨ex_t e l1, ex_l e l2⟩) a1 a2)⟩)⟩
        rw [zip_len, dpa_len a1, dpa_len a2]
  · cases hi
end

/-! ### f'text{par}', par a text -/
def TStr : V → Prop := fun v => ∃ z : Str, v = .str z ∧ z.length ≤ 1000000
def tStr : D → Bool
  | .str z => decide (z.length ≤ 1000000)
  | _ => false
theorem tStr_ok {K : PySem.W.Frag} : ∀ C v d, Dq K C v d → tStr d = true → TStr v := by
  intro C v d h q
  cases h <;> first | (cases q; done) | skip
  rename_i z
  exact ⟨z, rfl, of_decide_eq_true q⟩
theorem fstr_heS {m par : Str} {j : Nat} {p q r s : Pos} (hm : m.length ≤ 1000) (X : Cx) (hN : X.N = [("self" : Str), par, "__class__"]) (hv : Vis X.env.scope par) (pd1 : (par == ("__debug__" : Str)) = false) (pd2 : (par == ("__classdict__" : Str)) = false) :
    ∃ te, PE X (.JoinedStr [.Constant (.str m) j p, .FormattedValue (.Name par q) (-1) none r] s) te ∧ ∀ (a : Addr) (y : V) H Q, TStr y → (∀ v, Q v H) → te [some (.ref a), some y, none] H Q := by
  refine ⟨_, pe_joined (.cons pe_str (.cons (pe_fmt (pe_var (i := 1) (by rw [hN] <;> rfl) hv pd1 pd2)) .nil)), fun a y H Q hy h => ?_⟩
  obtain ⟨z, rfl, hz⟩ := hy
  have ln : ∀ a b : Str, (a ++ b).length = a.length + b.length := fun a b => by
    show (a.cps ++ b.cps).size = _
    rw [Array.size_append]
    rfl
  refine ⟨m, rfl, ?_, .str z, rfl, .inl ⟨z, rfl, by rw [sizeLine_eq]; omega, _, rfl, ?_, h _⟩⟩
  · rw [ln, sizeLine_eq]
    show 0 + _ ≤ _
    omega
  · rw [ln, ln, sizeLine_eq]
    show 0 + _ + _ ≤ _
    omega
end DL
namespace DL
open PySem PySem.Spec PyProof.Rows L2 Evl
def AllFn (P : Program) (w : World) (K : PySem.W.Frag) (mg : Str → Option Value) (base : Heap) (k : Nat) : List (Str × (Nat × (List D → R D))) → Prop
  | [] => True
  | e :: r => FnX P w K mg base k e.1 e.2.1 e.2.2 ∧ AllFn P w K mg base k r
theorem acts_ok {P : Program} {w : World} {K : PySem.W.Frag} {mg : Str → Option Value} {base : Heap} {k : Nat} : ∀ {acts : List (Str × (Nat × (List D → R D)))}, AllFn P w K mg base k acts → ∀ py n mf, getT acts py = some (n, mf) → FnX P w K mg base k py n mf
  | [], _, py, n, mf, h => by cases h
  | e :: r, h, py, n, mf, hg => by
    by_cases q : (e.1 == py) = true
    · have hg : ((e :: r).find? fun p => p.1 == py).map (·.2) = some (n, mf) := hg
      rw [List.find?_cons, q] at hg
      have h2 : e.2 = (n, mf) := by simpa using hg
      have h1 := h.1
      rw [h2] at h1
      rw [← eq_of_beq q]
      exact h1
    · refine acts_ok h.2 py n mf ?_
      have hg : ((e :: r).find? fun p => p.1 == py).map (·.2) = some (n, mf) := hg
      rw [List.find?_cons] at hg
      have q' : (e.1 == py) = false := by simpa using q
      rw [q'] at hg
      exact hg
end DL
end Part_DW

section Part_DU
set_option Elab.async false
set_option linter.all false
set_option maxRecDepth 100000
set_option autoImplicit false
set_option maxHeartbeats 2000000
namespace DL
open PySem PySem.Spec PyProof.Rows L2 Evl
/-! ### [::-1] -/
section
variable {prog : Program} {w : World} {A : Around} {E : Value → Shared → Prop} {s : Shared}
theorem rev_places (n : Nat) : Builtin.Slice.slicePlaces ((n : Int) - 1) (-1) (-1) = n := by
  unfold Builtin.Slice.slicePlaces
  have h1 : ¬ ((-1 : Int) > 0) := by decide
  have h2 : (- -1 : Int) = 1 := rfl
  simp only [h1, if_false, h2, Int.ediv_one]
  split <;> omega
theorem rev_adjust (n : Nat) : Builtin.Slice.sliceAdjust none none (-1) (n : Int) = ((n : Int) - 1, -1) := by
  unfold Builtin.Slice.sliceAdjust
  have h1 : ((-1 : Int) < 0) := by decide
  simp only [h1, if_true]
theorem rev_applied {sl : Addr} {vs : Value} {n : Nat} {Q : Int × Int × Nat → Shared → Prop} (hs : s.heap.IsSliceOf sl .none .none vs) (ps : IsPart vs (some (-1))) (h : Q ((n : Int) - 1, -1, n) s) : wpAny (model prog w) A (Builtin.Slice.sliceApplied (.ref sl) (pure (n : Int))) Q E s := by
  obtain ⟨os, hos, hcs, hds⟩ := id hs
  cases ps with
  | int _ t =>
  unfold Builtin.Slice.sliceApplied Builtin.Slice.sliceFields
  refine wpAny_bind (wpAny_bind (wpAny_field hos hds (x := .none) rfl (wpAny_bind (wpAny_field hos hds (x := .none) rfl (wpAny_bind (wpAny_field hos hds (x := .int (-1) t) rfl (wpAny_pure ?_)))))))
  refine wpAny_bind (slicePart_int ?_)
  show wpAny _ _ (if ((-1 : Int) == 0) = true then _ else _) _ _ s
  rw [if_neg (by decide)]
  refine wpAny_bind (slicePart_none (wpAny_bind (slicePart_none (wpAny_bind (wpAny_pure ?_)))))
  show wpAny _ _ (match Builtin.Slice.sliceAdjust none none (-1) (n : Int) with | (lo, hi) => pure (lo, (-1 : Int), Builtin.Slice.slicePlaces lo hi (-1))) _ _ s
  rw [rev_adjust n]
  show wpAny _ _ (pure ((n : Int) - 1, (-1 : Int), Builtin.Slice.slicePlaces ((n : Int) - 1) (-1) (-1))) _ _ s
  rw [rev_places]
  exact wpAny_pure h
theorem rev_pick (xs : Array Value) : ((List.range xs.size).filterMap fun (m : Nat) => xs[(((xs.size : Int) - 1) + (m : Int) * (-1)).toNat]?).toArray = xs.toList.reverse.toArray := by
  have e : (fun (m : Nat) => xs[(((xs.size : Int) - 1) + (m : Int) * (-1)).toNat]?) = (fun x => xs[x]?) ∘ fun m => xs.size - 1 - m := by
    funext m
    have h1 : (((xs.size : Int) - 1) + (m : Int) * (-1)).toNat = xs.size - 1 - m := by omega
    rw [h1]
    rfl
  rw [e, ← List.filterMap_map, PySem.W.krv_range, List.filterMap_reverse, PySem.W.krv_all]
theorem getItem_tuple_rev {t sl : Addr} {items : Array Value} {vs : Value} {Q : Value → Shared → Prop} (ht : IsTup s.heap t items) (hs : s.heap.IsSliceOf sl .none .none vs) (ps : IsPart vs (some (-1)))
    (h : Q (.ref s.heap.objs.size) { s with heap := s.heap.push { cls := .type "tuple", data := .seq items.toList.reverse.toArray } }) (hsz : items.size ≤ sizeLine) : wpAny (model prog w) A (getItem (.ref t) (.ref sl)) Q E s := by
  have htake : sizeOk (.seq items.toList.reverse.toArray) := by
    show items.toList.reverse.toArray.size ≤ sizeLine
    rw [List.size_toArray, List.length_reverse, Array.length_toList]
    exact hsz
  obtain ⟨os, hos, hcs, hds⟩ := id hs
  have hTs : s.TypeIs (.ref sl) "slice" := ⟨os, hos, hcs⟩
  unfold getItem
  try with_reducible refine wpAny_holding ?_
  first | refine wpAny_bind (wpAny_pure ?_) | skip
  refine wpAny_bind (wpAny_sequenceKey ht.typeIs (by decide) ?_)
  refine wpAny_bind (wpAny_callSpecial?_slot (name := Str.ofString "__getitem__") ht.typeIs PyProof.Rows.slot_tuple_getitem
    (wpAny_call_entry PyProof.Rows.slot_tuple_getitem ht.typeIs entry_tuple_getitem ?_ (args_tuple_getitem _ _)))
  show wpAny _ _ (Builtin.Tuple.tupleItemsOf (.ref t) >>= _) _ _ s
  refine wpAny_bind (tupleItemsOf_ ht ?_)
  refine wpAny_bind (wpAny_typeOf hTs ?_)
  rw [if_pos (by decide)]
  refine wpAny_bind (rev_applied (n := items.size) hs ps ?_)
  have hno : ¬ ((((items.size : Int) - 1) == 0 && (-1 : Int) == 1 && items.size == items.size) = true) := by
    intro q
    rw [Bool.and_eq_true, Bool.and_eq_true] at q
    exact absurd q.1.2 (by decide)
  show wpAny _ _ (if (((items.size : Int) - 1) == 0 && (-1 : Int) == 1 && items.size == items.size) = true then _ else _) _ _ s
  rw [if_neg hno, rev_pick]
  first
    | exact wpAny_bind (m := Builtin.Tuple.tupleExact _) (wpAny_newObj_type (wpAny_pure ⟨_, rfl, wpAny_pure h⟩) htake)
    | exact wpAny_bind (m := Builtin.Tuple.tupleExact _) (wpAny_newObj_type (wpAny_bind (wpAny_pure (wpAny_pure ⟨_, rfl, wpAny_pure h⟩))) htake)
    | exact wpAny_bind (wpAny_bind (m := Builtin.Tuple.tupleExact _) (wpAny_newObj_type (wpAny_pure (wpAny_pure ⟨_, rfl, wpAny_pure h⟩)) htake))
    | exact wpAny_bind (wpAny_bind (m := Builtin.Tuple.tupleExact _) (wpAny_newObj_type (wpAny_pure ⟨_, rfl, wpAny_pure h⟩) htake))
end
def revS (z : Str) : Str := ⟨z.cps.toList.reverse.toArray⟩
theorem rev_made (x : Str) (t : Tok) (u : Tok) : sliceMade x t none none (some (-1, u)) = .str (revS x) := by
  unfold sliceMade
  have h0 : ((((some ((-1 : Int), u)).map (·.1)).getD 1 == 1) && (slicePicked x none none (some (-1, u))).length == x.length) = false := by
    rfl
  rw [h0, if_neg Bool.false_ne_true]
  have e : slicePicked x none none (some (-1, u)) = (List.range x.cps.size).map fun k => x.cps.size - 1 - k := PySem.W.krv_sliceRange x.cps.size
  rw [e, PySem.W.krv_range, List.filterMap_reverse, PySem.W.krv_all]
  rfl
theorem revS_len (z : Str) : (revS z).length = z.length := by
  show (z.cps.toList.reverse.toArray).size = z.cps.size
  rw [List.size_toArray, List.length_reverse, Array.length_toList]
def dRev : D → Option D
  | .str z => if z.length ≤ LINE then some (.str (revS z)) else none
  | .tuple xs => some (.tuple xs.reverse)
  | .list xs => some (.list xs.reverse)
  | _ => none
section
variable {X : Cx} {EC : ECl} {W : WX} {a b c e : Expr} {es : List Expr} {ma mb mc : M D} {mes : M (List D)} {pos p p1 p2 p3 p4 sp_ : Pos} {x y : Str}
def tRevA (K : PySem.W.Frag) (te : TE) : TE := fun σ H Q => te σ H fun x H1 => (∃ a xs, x = .ref a ∧ SqL K H1 a xs ∧ ∀ p, H1 p = none → Q (.ref p) (upd H1 p (.lst xs.reverse))) ∨
  ((∃ a xs, x = .ref a ∧ SqT K H1 a xs ∧ ∀ p o, H1 p = none → o.dict = none → Q (.ref p) (upd H1 p (.frz o (.tup xs.reverse)))) ∨ ∃ z, x = .str z ∧ z.length ≤ sizeLine ∧ Q (.str (revS z)) H1)
theorem pe_revA {te : TE} {k : Nat} (he : PE X e te) : PE X (.Subscript e (.Slice none none (some (.UnaryOp .USub (.Constant (.int 1) k p1) p2)) p3) pos) (tRevA X.K te) := by
  refine ⟨fun pins s σ H Q I h => ?_⟩
  refine Subscript_ (thn (he.run pins s σ H _ I h) fun v s1 ⟨x, H1, I1, r1, q1⟩ => ?_)
  have hst : PO X (some (.UnaryOp .USub (.Constant (.int 1) k p1) p2)) (tPart (tUn (rU fun i => .int (-i)) (tC (.int 1)))) := po_some (pe_un un_neg pe_int)
  refine wpAny_Slice (thn (po_none.run pins s1 σ H1 (fun o H2 => o = none ∧ H2 = H1) I1 ⟨rfl, rfl⟩) fun vl s2 ⟨l, H2, I2, pl, el, e2⟩ => ?_)
  subst el e2
  refine thn (po_none.run pins s2 σ H2 (fun o H3 => o = none ∧ H3 = H2) I2 ⟨rfl, rfl⟩) fun vu s3 ⟨u, H3, I3, pu, eu, e3⟩ => ?_
  subst eu e3
  refine thn (hst.run pins s3 σ H3 (fun o H4 => o = some (-1) ∧ H4 = H3) I3 ⟨1, rfl, -1, rfl, rfl, rfl⟩) fun vs s4 ⟨o, H4, I4, ps, eo, e4⟩ => ?_
  subst eo e4
  have I5 : Inv X pins σ H4 { s4 with heap := s4.heap.push { cls := .type "slice", data := .fields #[vl, vu, vs] } } := I4.kept (t' := s4.toks) fun b ob q => Heap.get?_push_of_some _ q
  show wpAny (model X.prog X.w) X.A (subscriptTail e (.Slice none none (some (.UnaryOp .USub (.Constant (.int 1) k p1) p2)) p3) v (.ref s4.heap.objs.size)) (EP X pins σ Q) X.xe { s4 with heap := s4.heap.push { cls := .type "slice", data := .fields #[vl, vu, vs] } }
  rcases q1 with ⟨a, xs, ex, hx, q⟩ | ⟨a, xs, ex, hx, q⟩ | ⟨z, ex, hz, q⟩
  · subst ex
    cases r1
    obtain ⟨its, r, ht, hz⟩ := I5.list hx
    have hlen := r.length
    refine tail_any (ops := [.ref a, .ref s4.heap.objs.size]) ht.isList.typeIs (PySem.slot_list_getitem.lookup) ?_ (by with_unfolding_all rfl)
    refine wpAny_getItem_list_slice ht.isList (Heap.IsSliceOf.new _ vl vu vs) pl pu ps (by decide) ?_ (by rw [List.size_toArray]; omega)
    rw [PySem.W.krv_pick]
    refine ⟨.ref _, _, I5.laid (t' := s4.toks) (o := .lst xs.reverse) (fun b ob q => Heap.get?_push_of_some _ q) (Nat.le_refl _) ?_, rfl, q _ (I5.hok.fresh (Nat.le_refl _))⟩
    exact ⟨by rw [List.length_reverse]; exact hz, _, 0, r.reverse, Heap.get?_push_size _ rfl⟩
  · subst ex
    cases r1
    cases pl
    cases pu
    obtain ⟨its, r, ht, hz⟩ := I5.tuple hx
    have hlen := r.length
    refine tail_any (ops := [.ref a, .ref s4.heap.objs.size]) ht.typeIs PyProof.Rows.slot_tuple_getitem.lookup ?_ (by with_unfolding_all rfl)
    refine getItem_tuple_rev ht (Heap.IsSliceOf.new _ .none .none vs) ps ?_ (by rw [List.size_toArray]; omega)
    exact ⟨.ref _, _, frz_laid (t' := s4.toks) (xs := xs.reverse) I5 (fun b ob q => Heap.get?_push_of_some _ q) (Nat.le_refl _) (Heap.get?_push_size _ rfl) (by rw [List.length_reverse]; exact hz) (by simpa using r.reverse), rfl, q _ _ (I5.hok.fresh (Nat.le_refl _)) rfl⟩
  · subst ex
    obtain ⟨t, rfl⟩ := r1
    cases pl
    cases pu
    cases ps with
    | int _ tk =>
    refine tail_any (ops := [.str z t, .ref s4.heap.objs.size]) (typeIs_str _ _ _) F.slot_str_getitem.lookup ?_ (by with_unfolding_all rfl)
    refine wpAny_getItem_str_slice (l := none) (u := none) (st := some (-1, tk)) ⟨_, Heap.get?_push_size _ rfl, rfl, rfl⟩ rfl ?_
    rw [rev_made]
    exact ⟨by rw [revS_len]; exact hz, .str _, H4, I5.tok _, ⟨_, rfl⟩, q⟩
theorem de_rev {k : Nat} (ha : DE X EC W a ma) : DE X EC W (.Subscript a (.Slice none none (some (.UnaryOp .USub (.Constant (.int 1) k p1) p2)) p3) pos) (mUn dRev ma) := by
  obtain ⟨ta, pa, ra⟩ := ha.ex
  refine ⟨_, pe_revA pa, fun C0 H0 B C H σ δ Q S h => ra C0 H0 B C H σ δ _ S (RP.imp (RP.bind h) (fun x δ1 h1 v C1 H1 e1 S1 d1 => ?_) fun c d δ h => h)⟩
  obtain ⟨z, hz, q⟩ := RP.lift h1
  have q := rs_of S1 (PKe.mono e1 _ _ q)
  unfold dRev at hz
  split at hz
  · split at hz
    · rename_i hl
      cases hz
      cases d1
      exact .inr (.inr ⟨_, rfl, by rw [line_eq]; exact hl, q.1 _ (.str _)⟩)
    · cases hz
  · cases hz
    cases d1 with
    | tup h1 nd_h1 h2 => exact .inr (.inl ⟨_, _, rfl, ex_t S1.ch h1, fun p o hp ho => q.2 p _ hp (.tup sqt_new (.new ho) (dpAll_ex (Ex.new (free_of S1.ch hp)) _ _ (dpa_rev h2)))⟩)
  · cases hz
    cases d1 with
    | lst h1 h2 => exact .inl ⟨_, _, rfl, ex_l S1.ch h1, fun p hp => q.2 p _ hp (.lst (SqL.of upd_same) (dpAll_ex (Ex.new (free_of S1.ch hp)) _ _ (dpa_rev h2)))⟩
  · cases hz

/-! ### sorted of a tuple or a list of ints -/
def ins (n : Int) : List Int → List Int
  | [] => [n]
  | m :: r => if n ≤ m then n :: m :: r else m :: ins n r
def isort : List Int → List Int
  | [] => []
  | n :: r => ins n (isort r)
theorem ins_perm (n : Int) : ∀ l : List Int, (ins n l).Perm (n :: l)
  | [] => List.Perm.refl _
  | m :: r => by
    unfold ins
    split
    · exact List.Perm.refl _
    · exact ((ins_perm n r).cons m).trans (List.Perm.swap n m r)
theorem isort_perm : ∀ l : List Int, (isort l).Perm l
  | [] => List.Perm.refl _
  | n :: r => (ins_perm n (isort r)).trans ((isort_perm r).cons n)
theorem ins_pw (n : Int) : ∀ l : List Int, l.Pairwise (· ≤ ·) → (ins n l).Pairwise (· ≤ ·)
  | [], _ => by simp [ins]
  | m :: r, h => by
    unfold ins
    obtain ⟨h1, h2⟩ := List.pairwise_cons.mp h
    split
    · rename_i hn
      refine List.pairwise_cons.mpr ⟨fun y hy => ?_, h⟩
      rcases List.mem_cons.mp hy with e | hy
      · omega
      · have := h1 y hy; omega
    · rename_i hn
      refine List.pairwise_cons.mpr ⟨fun y hy => ?_, ins_pw n r h2⟩
      have := (ins_perm n r).subset hy
      rcases List.mem_cons.mp this with e | hy
      · omega
      · exact h1 y hy
theorem isort_pw : ∀ l : List Int, (isort l).Pairwise (· ≤ ·)
  | [] => List.Pairwise.nil
  | n :: r => ins_pw n _ (isort_pw r)
theorem pwi_uniq : ∀ {l m : List Int}, l.Perm m → l.Pairwise (· ≤ ·) → m.Pairwise (· ≤ ·) → l = m := by
  intro l m p h1 h2
  induction l generalizing m with
  | nil => exact (List.nil_perm.mp p).symm
  | cons x r ih =>
    cases m with
    | nil => exact absurd p.symm.length_eq (by simp)
    | cons y t =>
      have hx : x = y := by
        have a1 : x ∈ y :: t := p.subset List.mem_cons_self
        have a2 : y ∈ x :: r := p.symm.subset List.mem_cons_self
        rcases List.mem_cons.mp a1 with e | a1
        · exact e
        rcases List.mem_cons.mp a2 with e | a2
        · exact e.symm
        have := (List.pairwise_cons.mp h2).1 x a1
        have := (List.pairwise_cons.mp h1).1 y a2
        omega
      subst hx
      rw [ih (List.Perm.cons_inv p) (List.pairwise_cons.mp h1).2 (List.pairwise_cons.mp h2).2]
theorem call_sortedTp : CallR X (.builtin "sorted") (fun xs H Q => ∃ (a : Addr) (ns : List Int), xs = [.ref a] ∧ SqT X.K H a (ns.map V.int) ∧ ns.length < 64 ∧ ∀ p, H p = none → Q (.ref p) (upd H p (.lst ((isort ns).map V.int)))) := by
  intro pins s σ H xs us Q I r q
  obtain ⟨a, ns, ex, hx, h64, q⟩ := q
  subst ex
  obtain ⟨u, eu, rx⟩ := vals1 r
  subst eu
  cases rx
  obtain ⟨its, rv, ⟨o, ho, hc, n, hd⟩, hz⟩ := I.tuple hx
  have hi := rv.ints
  have hil : its.length < 64 := by rw [hi.length]; exact h64
  refine Calls.call_function_entry PyProof.Rows.kind_sorted PyProof.Rows.plain_sorted PyProof.Rows.entry_sorted (PyProof.Rows.args_sorted1 _) ?_
  unfold Builtin.«sorted»
  refine wpAny_bind (m := checkCount "sorted" 1 1 _) (wpAny_pure ?_)
  refine wpAny_bind (wpAny_collect_seq a (.inr rfl) ho hc hd (fun h' hk => ?_) (by rw [List.size_toArray, sizeLine_eq]; omega))
  have e0 : its.toArray.toList = its := by simp
  rw [e0]
  have I1 : Inv X pins σ H { s with heap := h' } := I.kept (t' := s.toks) hk
  refine wpAny_bind (wpAny_newList ?_ (by rw [sizeLine_eq]; omega))
  have hoL : (h'.push (seqObj "list" its.toArray 0)).get? h'.objs.size = some (seqObj "list" its.toArray 0) := Heap.get?_push_size _ rfl
  show wpAny _ _ _ _ _ { s with heap := h'.push (seqObj "list" its.toArray 0) }
  refine wpAny_bind (wpAny_holding (wpAny_call_entry PyProof.Rows.slot_list_sort ⟨_, hoL, rfl⟩ PyProof.Rows.entry_list_sort
    (PyProof.Rows.list_sort_tree (s := { s with heap := h'.push (seqObj "list" its.toArray 0) }) hoL hi hil fun out ns' h1 h2 h3 => ⟨_, rfl, ?_⟩)
    (PyProof.Rows.args_list_sort _)))
  have en : ns' = isort ns := pwi_uniq (h2.trans (isort_perm ns).symm) h3 (isort_pw ns)
  subst en
  obtain ⟨e', he'⟩ := PyProof.Rows.sortedHeap_at (vs := its) (out := out) hoL
  have hlen : ((isort ns).map V.int).length ≤ sizeLine := by
    rw [List.length_map, (isort_perm ns).length_eq]
    exact Nat.le_trans (Nat.le_of_lt h64) (by decide)
  refine wpAny_pure ⟨_, rfl, .ref h'.objs.size, upd H h'.objs.size (.lst ((isort ns).map V.int)), I1.laid (t' := s.toks) (fun b u e => ?_) (Nat.le_refl _)
    (show ObjOk X.prog X.w _ _ _ (.lst ((isort ns).map V.int)) from ⟨hlen, out.toList, e', vals_of_ints h1, he'⟩), rfl, q _ (I1.hok.fresh (Nat.le_refl _))⟩
  have hb : b < h'.objs.size := Heap.lt_size e
  rw [PyProof.Rows.sortedHeap_old (Nat.ne_of_lt hb) (by rw [size_push']; exact Nat.lt_succ_of_lt hb)]
  exact Heap.get?_push_of_some _ e
def dSortT : List D → Option D
  | [.tuple xs] => match dInts xs with
    | some ns => if ns.length < 64 then some (.list ((isort ns).map .int)) else none
    | none => none
  | _ => none
theorem rc_sortT : RCf X.K (fun xs H Q => ∃ (a : Addr) (ns : List Int), xs = [.ref a] ∧ SqT X.K H a (ns.map V.int) ∧ ns.length < 64 ∧ ∀ p, H p = none → Q (.ref p) (upd H p (.lst ((isort ns).map V.int)))) dSortT := by
  intro xs z hz vs C H Q e hv q
  unfold dSortT at hz
  split at hz
  · rename_i ys
    split at hz
    · rename_i ns hn
      split at hz
      · rename_i hl
        cases hz
        cases hv with
        | cons h t =>
          cases t
          cases h with
          | tup h1 nd_h1 h2 =>
            have e1 := dInts_eq hn
            subst e1
            have e2 := dpa_ints h2
            subst e2
            exact ⟨_, ns, rfl, ex_t e h1, hl, fun p hp => q.2 p _ hp (.lst (SqL.of upd_same) ints_dpa)⟩
      · cases hz
    · cases hz
  · cases hz

/-! ### max, min of a tuple of ints -/
theorem alike_ints (ns : List Int) : PySem.W.AlikeAll (ns.map PyData.int) := by
  refine ⟨fun x hx y hy => ?_, fun x hx => ?_⟩
  · obtain ⟨i, _, rfl⟩ := List.mem_map.mp hx
    obtain ⟨j, _, rfl⟩ := List.mem_map.mp hy
    rfl
  · obtain ⟨i, _, rfl⟩ := List.mem_map.mp hx
    exact fun z => nomatch z
theorem depth_ints : ∀ ns : List Int, PyData.depthAll (ns.map .int) = 0
  | [] => rfl
  | n :: ns => by show max (PyData.depth (.int n)) (PyData.depthAll (ns.map .int)) = 0; rw [depth_ints ns]; rfl

theorem reads_int {h : Heap} {v : Value} {i : Int} {bs : List Addr} (r : Reads h v (.int i) bs) : ∃ t, v = .int i t := by
  cases r
  exact ⟨_, rfl⟩
theorem dp_ints {K : PySem.W.Frag} {H : Hp} : ∀ ns : List Int, DpAll K H (ns.map V.int) (ns.map .int)
  | [] => .nil
  | n :: ns => .cons (.int n) (dp_ints ns)
def rMaxT (K : PySem.W.Frag) (f : Int → Int → Int) : List V → Hp → VK → Prop := fun xs H Q => ∃ (a : Addr) (n : Int) (ns : List Int), xs = [.ref a] ∧ SqT K H a ((n :: ns).map V.int) ∧ Q (.int (ns.foldl f n)) H
theorem call_maxT (hc : X.calm = true) (hu : X.A.units + 64 < cLine) : CallR X (.builtin "max") (rMaxT X.K max) := by
  intro pins s σ H xs us Q I r h
  obtain ⟨a, n, ns, ex, hx, q⟩ := h
  subst ex
  obtain ⟨u, eu, rx⟩ := vals1 r
  subst eu
  cases rx
  obtain ⟨its, rv, ht, hz⟩ := I.tuple hx
  obtain ⟨as, hr⟩ := Dp.readsAll I ((n :: ns).map .int) ((n :: ns).map V.int) its (dp_ints _) rv
  refine PySem.W.max_tuple_data (x := .int n) (xs := ns.map .int) (as := as) (I.ok.hd hc) ht (by simpa using hr) (alike_ints (n :: ns)) (by have := depth_ints (n :: ns); show X.A.units + 1 + PyData.depthAll ((n :: ns).map .int) < cLine; rw [this]; omega) fun i v h' tk bs hi hv hk => ?_
  rw [PySem.W.maxD_ints] at hv
  obtain ⟨t, rfl⟩ := reads_int hv
  exact ⟨.int _, H, I.kept hk, ⟨t, rfl⟩, q⟩
theorem call_minT (hc : X.calm = true) (hu : X.A.units + 64 < cLine) : CallR X (.builtin "min") (rMaxT X.K min) := by
  intro pins s σ H xs us Q I r h
  obtain ⟨a, n, ns, ex, hx, q⟩ := h
  subst ex
  obtain ⟨u, eu, rx⟩ := vals1 r
  subst eu
  cases rx
  obtain ⟨its, rv, ht, hz⟩ := I.tuple hx
  obtain ⟨as, hr⟩ := Dp.readsAll I ((n :: ns).map .int) ((n :: ns).map V.int) its (dp_ints _) rv
  refine PySem.W.min_tuple_data (x := .int n) (xs := ns.map .int) (as := as) (I.ok.hd hc) ht (by simpa using hr) (alike_ints (n :: ns)) (by have := depth_ints (n :: ns); show X.A.units + 1 + PyData.depthAll ((n :: ns).map .int) < cLine; rw [this]; omega) fun i v h' tk bs hi hv hk => ?_
  rw [PySem.W.minD_ints] at hv
  obtain ⟨t, rfl⟩ := reads_int hv
  exact ⟨.int _, H, I.kept hk, ⟨t, rfl⟩, q⟩
def dMaxT (f : Int → Int → Int) : List D → Option D
  | [.tuple xs] => match dInts xs with
    | some (n :: ns) => some (.int (ns.foldl f n))
    | _ => none
  | _ => none
theorem rc_maxT {f : Int → Int → Int} : RCf X.K (rMaxT X.K f) (dMaxT f) := by
  intro xs z hz vs C H Q e hv q
  unfold dMaxT at hz
  split at hz
  · split at hz
    · rename_i n ns hn
      cases hz
      cases hv with
      | cons h t =>
        cases t
        cases h with
        | tup h1 nd_h1 h2 =>
          have e1 := dInts_eq hn
          subst e1
          have e2 := dpa_ints h2
          subst e2
          exact ⟨_, n, ns, rfl, ex_t e h1, q.1 _ (.int _)⟩
    · cases hz
  · cases hz
/-! ### t.count(n) -/
def rCntT (K : PySem.W.Frag) : V → List V → Hp → VK → Prop := fun x xs H Q => ∃ (a : Addr) (ns : List Int) (k : Int), x = .ref a ∧ xs = [.int k] ∧ SqT K H a (ns.map V.int) ∧ Q (.int (ns.count k : Nat)) H
theorem cnt_flat (k : Int) : ∀ ns : List Int, (ns.map V.int).countP (fun y => eqV y (.int k)) = ns.count k
  | [] => rfl
  | n :: ns => by
    rw [List.map_cons, List.countP_cons, List.count_cons, cnt_flat k ns]
    rfl
theorem cntU (k : Int) : ∀ {xs : List V} {us : List Value}, Vals xs us → xs.all flatV = true → us.countP (eqU (.int k)) = xs.countP fun y => eqV y (.int k)
  | _, _, .nil, _ => rfl
  | y :: xs, u :: us, .cons r t, f => by
    rw [List.all_cons, Bool.and_eq_true] at f
    rw [List.countP_cons, List.countP_cons, eqU_of r f.1, cntU k t f.2]
theorem mt_tcount : MtR X "tuple.count" (rCntT X.K) := by
  intro pins s σ H x xs v us Q I rx rxs h
  obtain ⟨a, ns, k, rfl, rfl, hs, q⟩ := h
  cases rx
  cases rxs with
  | cons ry rt =>
    rename_i uy ut
    cases rt
    obtain ⟨its, rv, ⟨⟨cls, dd, data, sl⟩, ho, hc, n, hd⟩, hlen⟩ := I.tuple hs
    simp only at hc hd
    subst hc hd
    have fl : (ns.map V.int).all flatV = true := by
      rw [List.all_eq_true]
      intro z hz
      obtain ⟨i, _, rfl⟩ := List.mem_map.mp hz
      rfl
    refine call_meets PySem.F.slot_tuple_count ⟨_, ho, rfl⟩ PySem.F.entry_tuple_count (PySem.F.args_tuple_count_2 _ _)
      (SeqAt.tuple_countAt a its.toArray n dd sl uy (eqU (.int k))) ⟨ho, fun u' hu' => mem_eqAt ry rfl rv fl u' (by simpa using hu'), ?_⟩
    refine ⟨.int _, H, I.tok _, ⟨_, rfl⟩, ?_⟩
    have e : its.toArray.toList.countP (eqU (.int k)) = ns.count k := by
      rw [show its.toArray.toList = its by simp, cntU k rv fl, cnt_flat]
    rw [e]
    exact q
def dCountT : D → List D → Option D
  | .tuple xs, [.int k] => (dInts xs).map fun ns => .int (ns.count k : Nat)
  | _, _ => none
theorem rm_countT : RMt X.K (rCntT X.K) dCountT := by
  intro x xs z hz v vs C H Q e hv hvs q
  unfold dCountT at hz
  split at hz
  · rename_i ys k
    cases hn : dInts ys with
    | none => rw [hn] at hz; cases hz
    | some ns =>
      rw [hn] at hz
      cases hz
      have e1 := dInts_eq hn
      subst e1
      cases hv with
      | tup h1 nd_h1 h2 =>
        have e2 := dpa_ints h2
        subst e2
        cases hvs with
        | cons h t =>
          cases t
          cases h
          exact ⟨_, ns, k, rfl, rfl, ex_t e h1, q.1 _ (.int _)⟩
  · cases hz
end
end DL
end Part_DU

section Part_DM
set_option Elab.async false
set_option linter.all false
set_option maxRecDepth 100000
set_option autoImplicit false
set_option maxHeartbeats 2000000
namespace DL
open PySem PySem.Spec PyProof.Rows L2 Evl
/-! ### lists that are changed: truth, pop, extend -/
section
variable {X : Cx} {EC : ECl} {W : WX} {a b c e : Expr} {es : List Expr} {ma mb mc : M D} {mes : M (List D)} {pos p p2 px apos : Pos} {x y : Str}
def mTrM (i : Nat) : M Bool := fun δ => match δ[i]? with
  | some (.var _ ds) => .ok (!ds.isEmpty) δ
  | _ => .no
theorem dt_trM (i : Nat) (hN : X.N[i]? = some x := by rfl) (hv : Vis X.env.scope x := by first | exact Or.inl rfl | exact Or.inr (Or.inl rfl) | exact Or.inr (Or.inr rfl)) (hd : (x == ("__debug__" : Str)) = false := by decide) (hcd : (x == ("__classdict__" : Str)) = false := by decide)
    (he : ∀ whole, isTrue (.Name x pos) X.env whole = (do let v ← whole; standAt (Expr.Name x pos).pos; holding [v] (truthy v)) := by intro _; rfl) : DT X EC W (.Name x pos) (mTrM i) := by
  refine ⟨_, pt_truth (pe_var hN hv hd hcd) he, fun C0 H0 B C H σ δ Q S h => ?_⟩
  unfold mTrM at h
  split at h
  case h_2 => exact h.elim
  rename_i b ds q
  obtain ⟨l, xs, k1, k2, k3, k4, _⟩ := S.chg q
  refine ⟨.ref l, k1, !xs.isEmpty, .inl ⟨xs, SqL.of k2, rfl⟩, ?_⟩
  have e : (!xs.isEmpty) = !ds.isEmpty := by
    have := dpa_len k3
    cases xs <;> cases ds <;> simp_all
  rw [e]
  exact h C H (Ex.refl C) S
def mPop (i : Nat) : M D := fun δ => match δ[i]? with
  | some (.var b ds) => (match ds[ds.length - 1]? with
    | some d => .ok d (δ.set i (.var b ds.dropLast))
    | none => .no)
  | _ => .no
theorem dpa_dropLast {K : PySem.W.Frag} {H : Hp} {vs : List V} {ds : List D} (h : DqAll K H vs ds) : DqAll K H vs.dropLast ds.dropLast := by
  rw [List.dropLast_eq_take, List.dropLast_eq_take, dpa_len h]
  exact dpa_take _ h
theorem de_pop (i : Nat) (hN : X.N[i]? = some x := by rfl) (hv : Vis X.env.scope x := by first | exact Or.inl rfl | exact Or.inr (Or.inl rfl) | exact Or.inr (Or.inr rfl)) (hd : (x == ("__debug__" : Str)) = false := by decide) (hcd : (x == ("__classdict__" : Str)) = false := by decide)
    (hbase : attributeBase (.Name x px) "pop" X.env (eval (.Name x px) X.env) = eval (.Name x px) X.env := by rfl) (hline : (apos.endLine == pos.line) = true := by rfl) :
    DE X EC W (.Call (.Attribute (.Name x px) "pop" apos) [] [] pos) (mPop i) := by
  refine ⟨_, pe_bm0 PySem.F.plainAttrs_list PySem.F.slot_list_pop PySem.F.type_list_pop mt_pop (pe_var hN hv hd hcd) hbase hline, fun C0 H0 B C H σ δ Q S h => ?_⟩
  unfold mPop at h
  split at h
  case h_2 => exact h.elim
  rename_i b ds q
  split at h
  case h_2 => exact h.elim
  rename_i d hq
  obtain ⟨l, xs, k1, k2, k3, k4, k5⟩ := S.chg q
  obtain ⟨v, hv1, hv2⟩ := dpa_get k3 hq
  refine ⟨.ref l, k1, .inl ⟨rfl, xs, SqL.of k2⟩, l, xs, v, rfl, rfl, k2, by rw [dpa_len k3]; exact hv1, ?_⟩
  exact h v C _ (Ex.refl C) (k5 _ _ (dpa_dropLast k3)) hv2
end
section
open PySem.AutoSeq1
set_option maxRecDepth 8000 in
theorem ext_tuple (l : Addr) (items : Array Value) (n : Nat) (b : Addr) (items2 : Array Value) (n2 : Nat) (dd : Option Addr) (sl : Array (Option Value)) (hs0 : ¬(!items.isEmpty && Builtin.List.listTooLong (items.size + items2.size)) = true) (hs1 : items.size ≤ sizeLine) (hs2 : items.size + items2.size ≤ sizeLine + 1) :
    Meets (Builtin.«list.extend» ⟨[.ref l, .ref b], []⟩) (fun _ RR s => s.heap.get? l = some { cls := .type "list", dict := none, data := .seq items n, slots := #[] } ∧ s.heap.get? b = some { cls := .type "tuple", dict := dd, data := .seq items2 n2, slots := sl } ∧
      RR (.ok (.ret Value.none)) { s with heap := s.heap.update l (Obj.mapSeq fun x => x ++ items2), toks := s.toks }) :=
  .of_wp fun prog w A RR s h => by
    obtain ⟨hp, g, d, tk, os⟩ := s
    obtain ⟨hl, hb, h⟩ := h
    have k1 := AutoSeq1.idx_int
    have k2 := AutoSeq1.sub_tuple_tuple
    have k3 := AutoSeq1.sub_list_list
    have k4 := AutoSeq1.sub_tuple_list
    have k5 := AutoSeq1.sub_list_tuple
    have hz' : (items ++ items2).size ≤ sizeLine + 1 := by rw [Array.size_append]; exact hs2
    wp_walk using (wpAny_updateSeq hl rfl (hz := hs1) (_hz' := hz')), wpAny_loadPart' hl, wpAny_loadPart' hb
    exact ⟨_, rfl, h⟩
set_option maxRecDepth 8000 in
theorem ext_list (l : Addr) (items : Array Value) (n : Nat) (b : Addr) (items2 : Array Value) (n2 : Nat) (dd : Option Addr) (sl : Array (Option Value)) (hs0 : ¬(!items.isEmpty && Builtin.List.listTooLong (items.size + items2.size)) = true) (hs1 : items.size ≤ sizeLine) (hs2 : items.size + items2.size ≤ sizeLine + 1) :
    Meets (Builtin.«list.extend» ⟨[.ref l, .ref b], []⟩) (fun _ RR s => s.heap.get? l = some { cls := .type "list", dict := none, data := .seq items n, slots := #[] } ∧ s.heap.get? b = some { cls := .type "list", dict := dd, data := .seq items2 n2, slots := sl } ∧
      RR (.ok (.ret Value.none)) { s with heap := s.heap.update l (Obj.mapSeq fun x => x ++ items2), toks := s.toks }) :=
  .of_wp fun prog w A RR s h => by
    obtain ⟨hp, g, d, tk, os⟩ := s
    obtain ⟨hl, hb, h⟩ := h
    have k1 := AutoSeq1.idx_int
    have k2 := AutoSeq1.sub_tuple_tuple
    have k3 := AutoSeq1.sub_list_list
    have k4 := AutoSeq1.sub_tuple_list
    have k5 := AutoSeq1.sub_list_tuple
    have hz' : (items ++ items2).size ≤ sizeLine + 1 := by rw [Array.size_append]; exact hs2
    wp_walk using (wpAny_updateSeq hl rfl (hz := hs1) (_hz' := hz')), wpAny_loadPart' hl, wpAny_loadPart' hb
    exact ⟨_, rfl, h⟩
end
def rExtA (K : PySem.W.Frag) : V → List V → Hp → VK → Prop := fun x vs H Q => ∃ l b xs zs, x = .ref l ∧ vs = [.ref b] ∧ H l = some (.lst xs) ∧ (SqL K H b zs ∨ SqT K H b zs) ∧ xs.length + zs.length ≤ sizeLine ∧ Q .non (upd H l (.lst (xs ++ zs)))
theorem mt_extA {X : Cx} : MtM X "list.extend" (rExtA X.K) := by
  intro pins s σ H x vs v us Q I rx rv h
  obtain ⟨l, b, xs, zs, rfl, rfl, hH, hB, hz, q⟩ := h
  cases rx
  obtain ⟨u, rfl, ru⟩ := rv.one
  cases ru
  obtain ⟨z, its, n, r, hl, e⟩ := I.lstM hH
  have hlong : ∀ its2 : List Value, its2.length = zs.length → ¬ (!its.toArray.isEmpty && Builtin.List.listTooLong (its.toArray.size + its2.toArray.size)) = true := fun its2 h2 => by
    rw [notLongL (by rw [List.size_toArray, List.size_toArray]; omega), Bool.and_false]
    exact Bool.false_ne_true
  have fin : ∀ its2 : List Value, Vals zs its2 → EP X pins σ Q .none { s with heap := s.heap.update l (Obj.mapSeq fun x => x ++ its2.toArray), toks := s.toks } := fun its2 r2 => by
    refine ⟨.non, _, I.lset (its' := its ++ its2) (t' := s.toks) hH e (by simp) (r.append r2) ?_, rfl, q⟩
    rw [List.length_append]
    have := r2.length
    omega
  rcases hB with hB | hB
  · obtain ⟨its2, r2, ⟨⟨cls, dd, data, sl⟩, n2, ho, hc, hdn, hd⟩, hlen⟩ := I.list hB
    simp only at hc hd
    subst hc hd
    have hl2 := r2.length
    exact call_meets PySem.F.slot_list_extend ⟨_, e, rfl⟩ PySem.F.entry_list_extend (PySem.F.args_list_extend_2 _ _)
      (ext_list l its.toArray n b its2.toArray n2 dd sl (hlong its2 hl2.symm) (by rw [List.size_toArray]; omega) (by rw [List.size_toArray, List.size_toArray]; omega)) ⟨e, ho, fin its2 r2⟩
  · obtain ⟨its2, r2, ⟨⟨cls, dd, data, sl⟩, ho, hc, n2, hd⟩, hlen⟩ := I.tuple hB
    simp only at hc hd
    subst hc hd
    have hl2 := r2.length
    exact call_meets PySem.F.slot_list_extend ⟨_, e, rfl⟩ PySem.F.entry_list_extend (PySem.F.args_list_extend_2 _ _)
      (ext_tuple l its.toArray n b its2.toArray n2 dd sl (hlong its2 hl2.symm) (by rw [List.size_toArray]; omega) (by rw [List.size_toArray, List.size_toArray]; omega)) ⟨e, ho, fin its2 r2⟩
section
variable {X : Cx} {EC : ECl} {W : WX} {a b c e : Expr} {es : List Expr} {ma mb mc : M D} {mes : M (List D)} {pos p p2 px apos : Pos} {x y : Str}
def seqD : D → Option (List D)
  | .list xs => some xs
  | .tuple xs => some xs
  | _ => none
def mExt (i : Nat) (a : M D) : M Fl := fun δ => match δ[i]? with
  | some (.var _ _) => (a δ).bind fun d δ => match δ[i]?, seqD d with
    | some (.var b ds), some zs => if ds.length + zs.length ≤ LINE then .ok .nx (δ.set i (.var b (ds ++ zs))) else .no
    | _, _ => .no
  | _ => .no
theorem ds_ext (i : Nat) (h : DE X EC W e ma) (hN : X.N[i]? = some x := by rfl) (hv : Vis X.env.scope x := by first | exact Or.inl rfl | exact Or.inr (Or.inl rfl) | exact Or.inr (Or.inr rfl)) (hd : (x == ("__debug__" : Str)) = false := by decide) (hcd : (x == ("__classdict__" : Str)) = false := by decide)
    (hbase : attributeBase (.Name x px) "extend" X.env (eval (.Name x px) X.env) = eval (.Name x px) X.env := by rfl)
    (hfew : ((backTo pos (starEach (e :: []) X.env)).all (fun x => !x.1) && (backToKw pos (keywordEach [] X.env)).all (fun x => x.1.isSome)
      && decide ((e :: []).length + ([] : List Keyword).length + (if ([] : List Keyword).isEmpty then 0 else 1) < 30)) = true := by rfl)
    (hline : (apos.endLine == pos.line) = true := by rfl) (hs : starEach (e :: []) X.env = (false, eval e X.env) :: starEach [] X.env := by rfl) (hplain : (backTo pos (starEach [] X.env)).any (·.1) = false := by rfl)
    (hsw : swapsWith (.Call (.Attribute (.Name x px) "extend" apos) [e] [] pos) none p2.line X.env = pure false := by rfl) :
    DS X EC W (.Expr (.Call (.Attribute (.Name x px) "extend" apos) [e] [] pos) p2) (mExt i ma) := by
  obtain ⟨t, p, r⟩ := h.ex
  refine ⟨_, ps_expr (pe_bm PySem.F.plainAttrs_list PySem.F.slot_list_extend PySem.F.type_list_extend mt_extA (pe_var hN hv hd hcd) (pa_cons p pa_nil hs) hbase hfew hline hs hplain) hsw, fun C0 H0 B C H σ δ N S h => ?_⟩
  unfold mExt at h
  split at h
  case h_2 => exact h.elim
  rename_i b0 ds0 hq
  obtain ⟨l0, xs0, k1, k2, k3, k4, _⟩ := S.chg hq
  refine ⟨.ref l0, k1, .inl ⟨rfl, xs0, SqL.of k2⟩, r C0 H0 B C H σ δ _ S (RP.imp (RP.bind h) (fun d δ1 h1 v C1 H1 e1 S1 d1 => ?_) PXs.of)⟩
  split at h1
  case h_2 => exact h1.elim
  rename_i b ds zs hq1 hz
  split at h1
  case isFalse => exact h1.elim
  rename_i hlen
  obtain ⟨l, xs, w1, w2, w3, w4, w5⟩ := S1.chg hq1
  rw [k1] at w1
  cases w1
  unfold seqD at hz
  split at hz
  · cases hz
    cases d1 with
    | lst g1 g2 => exact ⟨_, _, xs, _, rfl, rfl, w2, .inl (ex_l S1.ch g1), by rw [line_eq, dpa_len w3, dpa_len g2]; exact hlen, h1 σ C1 _ e1 (w5 _ _ (dpa_app w3 g2))⟩
  · cases hz
    cases d1 with
    | tup g1 nd_g1 g2 => exact ⟨_, _, xs, _, rfl, rfl, w2, .inr (ex_t S1.ch g1), by rw [line_eq, dpa_len w3, dpa_len g2]; exact hlen, h1 σ C1 _ e1 (w5 _ _ (dpa_app w3 g2))⟩
  · cases hz

/-! ### (a, b, c) = .. -/
def setT3 (g g2 g3 : D → Dl → Option Dl) : D → Dl → Option Dl := fun d δ => match d with
  | .tuple [x, y, z] => (g x δ).bind fun δ => (g2 y δ).bind (g3 z)
  | _ => none
theorem dg_tup3 {k : Nat} {ts us ws : List Nat} {g g2 g3 : D → Dl → Option Dl} (hc : X.calm = true) (h1 : DG X a ts g) (h2 : DG X b us g2) (h3 : DG X c ws g3) (hs1 : (assignEach (a :: [b, c]) X.env).map (·.2) = assign a X.env :: (assignEach [b, c] X.env).map (·.2) := by rfl)
    (hs2 : (assignEach (b :: [c]) X.env).map (·.2) = assign b X.env :: (assignEach [c] X.env).map (·.2) := by rfl) (hs3 : (assignEach (c :: []) X.env).map (·.2) = assign c X.env :: (assignEach [] X.env).map (·.2) := by rfl)
    (hn : (assignEach [a, b, c] X.env).length = 3 := by rfl) (hst : (assignEach [a, b, c] X.env).findIdx? (·.1) = none := by rfl) : DG X (.Tuple [a, b, c] k pos) (ts ++ (us ++ ws)) (setT3 g g2 g3) := by
  obtain ⟨t1, p1, r1⟩ := h1.ex
  obtain ⟨t2, p2, r2⟩ := h2.ex
  obtain ⟨t3, p3, r3⟩ := h3.ex
  refine ⟨_, pg_tup hc (pgs_cons p1 (pgs_cons p2 (pgs_cons p3 pgs_nil hs3) hs2) hs1) hn hst, fun C0 H0 B C H σ δ δ' v d Q S hd h k => ?_⟩
  unfold setT3 at h
  split at h
  · rename_i x y z
    cases q : g x δ with
    | none => rw [q] at h; cases h
    | some δ1 =>
      rw [q] at h
      have h : ((g2 y δ1).bind (g3 z)) = some δ' := h
      cases q2 : g2 y δ1 with
      | none => rw [q2] at h; cases h
      | some δ2 =>
        rw [q2] at h
        cases hd with
        | tup s nd_s t =>
          cases t with
          | cons d1 t =>
            cases t with
            | cons d2 t =>
              cases t with
              | cons d3 t =>
                cases t
                rename_i a v1 v2 v3
                refine ⟨a, _, rfl, ex_t S.ch s, rfl, v1, _, rfl, r1 C0 H0 B C H σ δ δ1 v1 x _ S d1 q fun σ1 S1 w1 => ⟨v2, _, rfl, r2 C0 H0 B C H σ1 δ1 δ2 v2 y _ S1 d2 q2 fun σ2 S2 w2 => ⟨v3, _, rfl, r3 C0 H0 B C H σ2 δ2 δ' v3 z _ S2 d3 h fun σ3 S3 w3 => ⟨rfl, k σ3 S3 fun vs hv => ?_⟩⟩⟩⟩
                rw [w3 vs fun k hk => hv k (List.mem_append_right _ (List.mem_append_right _ hk)), w2 vs fun k hk => hv k (List.mem_append_right _ (List.mem_append_left _ hk)), w1 vs fun k hk => hv k (List.mem_append_left _ hk)]
  · cases h
end

/-! ### a list that is lent to a def: its first argument -/
def mDefB (n : Nat) (body : M Fl) : List D → R D
  | .list es :: ds => (body (.var true es :: (ds.map .val ++ List.replicate (n - 1 - ds.length) .non))).bind fun (f : Fl) (δ : Dl) => match f, (List.head? δ : Option Cell) with
    | .rt d, some (.var true es') => R.ok d [.var true es']
    | .nx, some (.var true es') => R.ok .none [.var true es']
    | _, _ => R.no
  | _ => .no
def PKb (K : PySem.W.Frag) (C H : Hp) (l : Addr) (Q : VK) : D → Dl → Prop := fun d δ => ∀ es', δ = [.var true es'] → ∀ v C2 H2 xs', Ex C C2 → Ex C2 H2 → (∀ a o, H a = some o → a ≠ l → H2 a = some o) → (∀ a, H a ≠ none → C a = none → C2 a = none) → C2 l = none → H2 l = some (.lst xs') → DqAll K C2 xs' es' → Dq K C2 v d → Q v H2
def SpB (K : PySem.W.Frag) (n : Nat) (mf : List D → R D) : Sp := fun vs H Q _ => ∃ C l xs es vs' ds, vs = .ref l :: vs' ∧ Ex C H ∧ C l = none ∧ H l = some (.lst xs) ∧ DqAll K C xs es ∧ DqAll K C vs' ds ∧ vs.length = n ∧ RP (mf (.list es :: ds)) (PKb K C H l Q) (fun _ _ _ => False)
structure FnB (P : Program) (w : World) (K : PySem.W.Frag) (mg : Str → Option Value) (base : Heap) (k : Nat) (x : Str) (n : Nat) (mf : List D → R D) : Prop where
  ex : ∃ f fd ps, FnOk P w K mg base CX0 k f fd ps (SpB K n mf) ∧ mg x = some (.ref f) ∧ PySem.W.keepIn K (.ref f) = true ∧ Binds K fd ps []
theorem start_srB {K : PySem.W.Frag} {C H : Hp} {N : List Str} {l : Addr} {xs : List V} {es : List D} {vs : List V} {ds : List D} (e : Ex C H) (hC : C l = none) (hH : H l = some (.lst xs)) (hx : DqAll K C xs es) (h : DqAll K C vs ds) : SR K C H [(0, l)] C H (L2.start N (.ref l :: vs)) (.var true es :: (ds.map .val ++ List.replicate (N.length - 1 - ds.length) .non)) := by
  have hl := dpa_len h
  have nov : ∀ {i : Nat} {b : Bool} {fs : List D}, (ds.map Cell.val ++ List.replicate (N.length - 1 - ds.length) .non)[i]? ≠ some (.var b fs) := fun {i b fs} z => by
    have m := List.mem_of_getElem? z
    rcases List.mem_append.mp m with m | m
    · obtain ⟨d, _, q⟩ := List.mem_map.mp m
      cases q
    · have := List.eq_of_mem_replicate m
      cases this
  have only : ∀ {i : Nat} {b : Bool} {fs : List D}, (Cell.var true es :: (ds.map Cell.val ++ List.replicate (N.length - 1 - ds.length) .non))[i]? = some (.var b fs) → i = 0 ∧ b = true ∧ fs = es := fun {i b fs} z => by
    cases i with
    | zero => cases z; exact ⟨rfl, rfl, rfl⟩
    | succ i => exact absurd (by simpa using z) nov
  refine ⟨?_, Ex.refl C, e, fun a o z _ => z, fun a _ z => z, fun i d z => ?_, fun i fs z => ?_, fun p hp => ?_, fun i fs z => ?_, fun p hp q hq _ => ?_, fun p hp q hq _ => ?_, fun p hp => ?_, fun i j fs gs _ z _ => ?_⟩
  · unfold L2.start
    simp only [List.length_append, List.length_map, List.length_replicate, List.length_cons, hl]
    omega
  · cases i with
    | zero => cases z
    | succ i =>
      have z : (ds.map Cell.val ++ List.replicate (N.length - 1 - ds.length) .non)[i]? = some (.val d) := by simpa using z
      have hi : i < ds.length := by
        rcases Nat.lt_or_ge i ds.length with h | h
        · exact h
        · rw [List.getElem?_append_right (by simpa using h)] at z
          have := List.eq_of_mem_replicate (List.mem_of_getElem? z)
          cases this
      rw [List.getElem?_append_left (by simpa using hi), List.getElem?_map] at z
      cases q : ds[i]? with
      | none => rw [q] at z; cases z
      | some d' =>
        rw [q] at z
        cases z
        obtain ⟨v, h1, h2⟩ := dpa_get h q
        refine ⟨v, ?_, h2⟩
        unfold L2.start
        rw [List.map_cons, List.cons_append, List.getElem?_cons_succ, List.getElem?_append_left (by simpa [hl] using hi), List.getElem?_map, h1]
        rfl
  · obtain ⟨_, hb, _⟩ := only z
    cases hb
  · rw [List.mem_singleton.mp hp]
    exact ⟨es, xs, rfl, rfl, hC, hH, hx⟩
  · obtain ⟨h0, _, _⟩ := only z
    subst h0
    exact ⟨l, List.mem_singleton.mpr rfl⟩
  · rw [List.mem_singleton.mp hp, List.mem_singleton.mp hq]
  · rw [List.mem_singleton.mp hp, List.mem_singleton.mp hq]
  · rw [List.mem_singleton.mp hp]
    show H l ≠ none
    rw [hH]
    exact fun z => nomatch z
  · obtain ⟨_, hb, _⟩ := only z
    cases hb
section
variable {P : Program} {w : World} {K : PySem.W.Frag} {mg : Str → Option Value} {base : Heap}
theorem def_okB0 {x qual : Str} {st : Stmt} {f : Addr} {fd : FuncData} {N ps : List Str} {k : Nat} {EC : ECl} {m : M Fl} (F : Fun K x qual st f fd) (S : FnScope N ps (defScope st))
    (hb : ∀ (cdv : Value) (A : Around) (outer : List Env) (s : Shared) (H : Hp) (E : XK), Room k (A.deeper (envOfC qual (defScope st) s.heap.objs.size f cdv)) →
      DSs (cxOf CX0 P w K mg base N qual (defScope st) f cdv A outer s H E).nox EC (fun _ _ _ _ => False) (defBody st) m) : FnOk P w K mg base CX0 (k + 1) f fd ps (SpB K ps.length (mDefB N.length m)) := by
  refine F.ok S (fun vs H Q E h => ?_) (fun cdv A outer s H vs Q E hr h => ?_)
  · obtain ⟨C, l, xs, es, vs', ds, _, _, _, _, _, _, hl, _⟩ := h
    exact hl
  · obtain ⟨C, l, xs, es, vs', ds, ev, e, hC, hH, hx, hd, hl, q⟩ := h
    subst ev
    obtain ⟨t, p, r⟩ := (hb cdv A outer s H E hr).ex
    refine ⟨t, p, r C H [(0, l)] C H (L2.start N (.ref l :: vs')) _ _ (start_srB e hC hH hx hd) (RP.imp (RP.bind q) (fun f δ h1 σ C2 H2 e2 S2 => ?_) fun c d δ z => z.elim)⟩
    obtain ⟨es2, xs2, g1, g2, g3, g4, g5⟩ := S2.bor (0, l) (List.mem_singleton.mpr rfl)
    have g1 : List.head? δ = some (.var true es2) := by rw [List.head?_eq_getElem?]; exact g1
    have fr : ∀ a o, H a = some o → a ≠ l → H2 a = some o := fun a o z ne => S2.fr a o z fun p hp => by
      rw [List.mem_singleton.mp hp]
      exact fun q => ne q.symm
    cases f with
    | nx =>
      simp only [g1] at h1
      exact h1 es2 rfl .non C2 H2 xs2 e2 S2.ch fr S2.nw g3 g4 g5 .non
    | rt d =>
      simp only [g1] at h1
      exact fun v hv => h1 es2 rfl v C2 H2 xs2 e2 S2.ch fr S2.nw g3 g4 g5 hv
    | bk =>
      exact h1.elim
    | ct =>
      exact h1.elim
theorem def_okB {x : Str} {st : Stmt} {N ps : List Str} {k : Nat} {EC : ECl} {m : M Fl} (F : FunX K mg x st ps) (S : FnScope N ps (defScope st))
    (hb : ∀ (f : Addr) (cdv : Value) (A : Around) (outer : List Env) (s : Shared) (H : Hp) (E : XK), Room k (A.deeper (envOfC x (defScope st) s.heap.objs.size f cdv)) →
      DSs (cxOf CX0 P w K mg base N x (defScope st) f cdv A outer s H E).nox EC (fun _ _ _ _ => False) (defBody st) m) : FnB P w K mg base (k + 1) x ps.length (mDefB N.length m) := by
  obtain ⟨f, fd, F, hg, hbi⟩ := F.ex
  exact ⟨f, fd, ps, def_okB0 F S fun cdv A outer s H E hr => hb f cdv A outer s H E hr, hg, F.kp, binds_of hbi⟩
end
section
variable {X : Cx} {EC : ECl} {W : WX} {e : Expr} {es : List Expr} {mes : M (List D)} {pos p px : Pos} {k n : Nat} {mf : List D → R D} {x y : Str}
def mCallB (i : Nat) (mf : List D → R D) (mes : M (List D)) : M D := fun δ => match δ[i]? with
  | some (.var _ _) => (mes δ).bind fun ds δ1 => match δ1[i]? with
    | some (.var b es) => (match mf (.list es :: ds) with
      | .ok d [.var true es'] => .ok d (δ1.set i (.var b es'))
      | _ => .no)
    | _ => .no
  | _ => .no
theorem de_lend (i : Nat) (F : FnB X.prog X.w X.K X.mg X.base k x n mf) (hr : Room k X.A) (ha : DA X EC W es mes) (hn : es.length + 1 = n := by rfl) (hN : X.N[i]? = some y := by rfl) (hv : Vis X.env.scope y := by first | exact Or.inl rfl | exact Or.inr (Or.inl rfl) | exact Or.inr (Or.inr rfl)) (hd : (y == ("__debug__" : Str)) = false := by decide) (hcd : (y == ("__classdict__" : Str)) = false := by decide) (hg : Gl X x := by rfl)
    (hdb : (x == ("__debug__" : Str)) = false := by decide) (he : starEach (.Name y px :: es) X.env = (false, eval (.Name y px) X.env) :: starEach es X.env := by rfl) (hpl : (backTo pos (starEach es X.env)).any (·.1) = false := by rfl) :
    DE X EC W (.Call (.Name x p) (.Name y px :: es) [] pos) (mCallB i mf mes) := by
  obtain ⟨f, fd, ps, F, hm, hk, hb⟩ := F.ex
  obtain ⟨t, pa, ra⟩ := ha.ex
  refine ⟨_, pe_call (dvs := []) (ds := []) F hr hg hm hk hb .nil pass0 (pa_cons (pe_var hN hv hd hcd) pa he) hdb he hpl, fun C0 H0 B C H σ δ Q S h => ?_⟩
  unfold mCallB at h
  split at h
  case h_2 => exact h.elim
  rename_i b0 es0 q0
  obtain ⟨l, xs0, k1, k2, k3, k4, _⟩ := S.chg q0
  refine ⟨.ref l, k1, ?_⟩
  have hb := RP.bind h
  refine ra C0 H0 B C H σ δ _ S ?_
  cases q : mes δ with
  | no => rw [q] at hb; exact hb.elim
  | ex c d δ' => rw [q] at hb; exact hb
  | ok ds δ1 =>
    rw [q] at hb
    have hl := ha.len δ ds δ1 q
    intro vs C1 H1 e1 S1 d1
    have hb : RP (match δ1[i]? with
      | some (.var b es) => (match mf (.list es :: ds) with
        | .ok d [.var true es'] => .ok d (δ1.set i (.var b es'))
        | _ => .no)
      | _ => .no) (PKe X.K C0 H0 B C σ Q) (PXe X.K EC W C0 H0 B C σ) := hb
    split at hb
    case h_2 => exact hb.elim
    rename_i b es q1
    obtain ⟨l', xs, w1, w2, w3, w4, _⟩ := S1.chg q1
    rw [k1] at w1
    cases w1
    refine ⟨C1, l, xs, es, vs ++ [], ds, by rw [List.append_nil, List.append_nil], S1.ch, w4, w2, w3, by rw [List.append_nil]; exact d1, by rw [List.append_nil, List.length_cons, dpa_len d1, hl]; exact hn, ?_⟩
    split at hb
    case h_2 => exact hb.elim
    rename_i d es' q2
    rw [q2]
    intro es2 e0 v C2 H2 xs' e2 c2 fr nw c2l h2 a2 dv
    cases e0
    refine hb v C2 H2 (e1.trans e2) ?_ dv
    have hne : ∀ a o, H1 a = some o → a ≠ l → H2 a = some o := fr
    have S3 : SR X.K C0 H0 B C2 (upd H2 l (.lst xs)) σ δ1 := S1.step e2 (fun a o z => by
        by_cases q : a = l
        · subst q
          rw [upd_same, ← z, w2]
        · rw [upd_ne q]
          exact fr a o z q) (fun a o z => by
        have : a ≠ l := fun q => by rw [q, c2l] at z; cases z
        rw [upd_ne this]
        exact c2 a o z) nw
    obtain ⟨l2, xs2, u1, u2, u3, u4, u5⟩ := S3.chg q1
    rw [k1] at u1
    cases u1
    have S4 := u5 xs' es' a2
    have eH : upd (upd H2 l (.lst xs)) l (.lst xs') = H2 := by
      funext a
      by_cases q : a = l
      · subst q
        rw [upd_same, h2]
      · rw [upd_ne q, upd_ne q]
    rw [eH] at S4
    exact S4
end
end DL
end Part_DM

section Part_DN
set_option Elab.async false
set_option linter.all false
set_option maxRecDepth 100000
set_option autoImplicit false
set_option maxHeartbeats 2000000
namespace DL
open PySem PySem.Spec PyProof.Rows L2 Evl
/-! ### comprehensions while a lent list is changed -/
def Cell.isOwn : Cell → Bool
  | .var false _ => true
  | _ => false
def noOwn (δ : Dl) : Bool := δ.all fun c => !c.isOwn
theorem noOwn_at {δ : Dl} (h : noOwn δ = true) {i : Nat} {ds : List D} : δ[i]? ≠ some (.var false ds) := fun e => by
  have z := List.all_eq_true.mp h _ (List.mem_of_getElem? e)
  cases z
theorem noOwn_wipe {δ : Dl} (h : noOwn δ = true) (vs : List Nat) : noOwn (wipeD δ vs) = true := by
  refine List.all_eq_true.mpr fun c hc => ?_
  obtain ⟨i, hi⟩ := List.getElem?_of_mem hc
  cases c with
  | var b ds =>
    cases b with
    | true => rfl
    | false =>
      by_cases q : i ∈ vs
      · cases wipeD_in q hi
      · rw [wipeD_out q] at hi
        exact absurd hi (noOwn_at h)
  | non => rfl
  | val d => rfl
section
variable {K : PySem.W.Frag} {C0 H0 C H C2 H2 : Hp} {B : List (Nat × Addr)} {σ : L2.St} {δ : Dl}
theorem SR.hB (S : SR K C0 H0 B C H σ δ) {a : Addr} (ha : ∀ p ∈ B, p.2 ≠ a) {o : HO} (h : H0 a = some o) : H a = some o := S.fr a o h ha
theorem SR.there (S : SR K C0 H0 B C H σ δ) {a : Addr} (h : H0 a ≠ none) : H a ≠ none := by
  by_cases hb : ∃ p ∈ B, p.2 = a
  · obtain ⟨p, hp, rfl⟩ := hb
    obtain ⟨_, _, _, _, _, h, _⟩ := S.bor p hp
    rw [h]
    exact fun z => nomatch z
  · cases q : H0 a with
    | none => exact absurd q h
    | some o =>
      rw [S.fr a o q fun p hp e => hb ⟨p, hp, e⟩]
      exact fun z => nomatch z
theorem SR.rebaseB (S : SR K C0 H0 B C H σ δ) (h : noOwn δ = true) : SR K C H B C H σ δ where
  len := S.len
  c0 := Ex.refl C
  ch := S.ch
  fr := fun a o z _ => z
  nw := fun a _ z => z
  val := S.val
  own := fun i ds z => absurd z (noOwn_at h)
  bor := S.bor
  btr := S.btr
  bd1 := S.bd1
  bd2 := S.bd2
  bH0 := fun p hp => by
    obtain ⟨_, _, _, _, _, h, _⟩ := S.bor p hp
    rw [h]
    exact fun z => nomatch z
  odis := fun i j ds es _ z => absurd z (noOwn_at h)
theorem SR.unbaseB {σ2 : L2.St} {δ' : Dl} (S : SR K C0 H0 B C H σ δ) (T : SR K C H B C2 H2 σ2 δ') : SR K C0 H0 B C2 H2 σ2 δ' where
  len := T.len
  c0 := S.c0.trans T.c0
  ch := T.ch
  fr := fun a o z hb => T.fr a o (S.fr a o z hb) hb
  nw := fun a z1 z2 => T.nw a (S.there z1) (S.nw a z1 z2)
  val := T.val
  own := fun i ds z => by
    obtain ⟨l, xs, h1, h2, h3, h4, h5⟩ := T.own i ds z
    refine ⟨l, xs, h1, ?_, h3, h4, h5⟩
    cases q : H0 l with
    | none => rfl
    | some o => exact absurd h2 (S.there (by rw [q]; exact fun z => nomatch z))
  bor := T.bor
  btr := T.btr
  bd1 := T.bd1
  bd2 := T.bd2
  bH0 := S.bH0
  odis := T.odis
end
def mLcB (vs : List Nat) (g : D → Dl → Option Dl) (t : M Bool) (e : M D) : List D → M (List D)
  | [], δ => .ok [] δ
  | x :: xs, δ => match g x (wipeD δ vs) with
    | none => .no
    | some δ1 => (t δ1).noex.bind fun b δ2 => if b then (e δ2).noex.bind fun y δ3 => if noOwn δ3 then (mLcB vs g t e xs δ3).bind fun ys δ4 => .ok (y :: ys) δ4 else .no
      else if noOwn δ2 then mLcB vs g t e xs δ2 else .no
def mLcSB (vs : List Nat) (it : M (List D)) (g : D → Dl → Option Dl) (t : M Bool) (e : M D) : M (List D) := fun δ => (it δ).bind fun xs δ1 => if noOwn δ1 && (noMut δ1 vs && decide (xs.length ≤ LINE)) then (mLcB vs g t e xs δ1).bind fun ys δ2 => .ok ys (backD δ1 δ2 vs) else .no
section
variable {X : Cx} {EC : ECl} {W : WX}
theorem lc_readB {K : PySem.W.Frag} {wi : TI} {mi : M (List D)} {ts ws : List Nat} {g : D → Dl → Option Dl} {mt : M Bool} {me : M D} {W0 : WX} (hts : ∀ k ∈ ts, k ∈ ws)
    (ri : ∀ C0 H0 B C H σ δ (R : It → Hp → Prop), SR K C0 H0 B C H σ δ → RP (mi δ) (fun items δ => ∀ J C1 H1, Ex C C1 → SR K C0 H0 B C1 H1 σ δ → ItOk K C1 J items → R J H1) (PXe K EC W C0 H0 B C σ) → wi σ H R) :
    ∀ C0 H0 B C H σ δ Q, SR K C0 H0 B C H σ δ → RP (mLcSB ws mi g mt me δ) (PKl K C0 H0 B C σ Q) (PXe K EC W C0 H0 B C σ) → tLc wi (tGd K ts g) (tTd K EC W0 mt) (tE K EC W0 me) ws σ H Q := by
  intro C0 H0 B C H σ δ Q S h
  refine ri C0 H0 B C H σ δ _ S (RP.imp (RP.bind h) (fun items δ1 h1 J C1 H1 e1 S1 it => ?_) fun c d δ h => h)
  intro Dl hD
  obtain ⟨G, Y, wk, hG, hY⟩ := it.ex
  split at h1
  case isFalse => exact h1.elim
  rename_i hcond
  rw [Bool.and_eq_true, Bool.and_eq_true] at hcond
  obtain ⟨hnv, hnm, hlen⟩ := hcond
  have hlen := of_decide_eq_true hlen
  have hB : ∀ p ∈ B, p.1 ∉ ws := fun p hp q => by
    obtain ⟨ds, _, h1, _⟩ := S1.bor p hp
    exact noMut_at hnm q _ _ h1
  obtain ⟨h0D, nmD⟩ := S1.nm hD
  have hBD : ∀ p ∈ B, p.2 ≠ Dl := fun p hp e => S1.bH0 p hp (by rw [e]; exact h0D)
  have hvD : ∀ {C5 H5 : Hp} {σ5 : L2.St} {δ5 : List Cell}, SR K C0 H0 B C5 H5 σ5 δ5 → noOwn δ5 = true → ∀ (i : Nat) (b : Bool) (es : List D), δ5[i]? = some (.var b es) → σ5[i]? ≠ some (some (.ref Dl)) := fun {C5 H5 σ5 δ5} S5 hn i b es z hs => by
    cases b with
    | false => exact noOwn_at hn z
    | true =>
      obtain ⟨l, hl⟩ := S5.btr i es z
      obtain ⟨_, _, _, w2, _⟩ := S5.bor _ hl
      rw [hs] at w2
      cases w2
      exact hBD _ hl rfl
  have hfin := RP.bind h1
  refine lc_it wk (fun i H' => ∃ C' δ' acc vs, Ex C1 C' ∧ SR K C0 H0 B C' H' (wipe σ ws) (wipeD δ' ws) ∧ H' Dl = some (.lst vs) ∧ C' Dl = none ∧ noOwn δ' = true ∧ acc.length ≤ i ∧ DqAll K C' vs acc ∧
    RP (mLcB ws g mt me (items.drop i) δ') (fun ys δ2 => PKl K C0 H0 B C1 σ Q (acc ++ ys) (backD δ1 δ2 ws)) (PXe K EC W C0 H0 B C1 σ)) ⟨C1, δ1, [], [], Ex.refl _, (S1.newN hD).wipe hB, upd_same, free_of S1.ch hD, hnv, Nat.le_refl _, .nil, RP.imp hfin (fun ys δ2 z => PKl.mono e1 _ _ (show PKl K C0 H0 B C σ Q ys (backD δ1 δ2 ws) from z)) (PXe.mono e1)⟩
    (fun i H' _ ⟨C', δ', acc, vs, e2, S2, _⟩ => hG H' (e2.trans S2.ch)) ?_ ?_
  · rintro i x H2 H3 hi ⟨C', δ', acc, vs, e2, S2, hDl, hCD, hv, hacc, dacc, q⟩ y
    have hdrop : items.drop i = items[i] :: items.drop (i + 1) := List.drop_eq_getElem_cons hi
    have hget : items[i]? = some items[i] := List.getElem?_eq_getElem hi
    rw [hdrop] at q
    unfold mLcB at q
    have nw := noOwn_wipe hv ws
    have T2 := S2.rebaseB nw
    have hlong : vs.length ≤ i := by rw [dpa_len dacc]; exact hacc
    refine hY i _ hget C' H2 x H3 (fun x H3 => tGd K ts g x (wipe σ ws) H3 _) e2 S2.ch y (rs_of (C0 := C') (H0 := H2) (B := B) (σ := wipe σ ws) (δ := wipeD δ' ws) T2 fun v C3 H3 e3 T3 d3 => ?_)
    cases hg1 : g items[i] (wipeD δ' ws) with
    | none => rw [hg1] at q; exact q.elim
    | some δ1' =>
      rw [hg1] at q
      refine ⟨C', H2, B, C3, wipeD δ' ws, δ1', items[i], T3, d3, hg1, fun σ4 T4 w4 => ?_⟩
      have w4' : wipe σ4 ws = wipe σ ws := by
        have := w4 ws hts
        have z : ∀ (us : List Nat), wipe (wipe σ us) us = wipe σ us := by
          intro us
          apply List.ext_getElem?
          intro k
          by_cases hk : k ∈ us
          · cases k1 : (wipe (wipe σ us) us)[k]? with
            | none =>
              have := List.getElem?_eq_none_iff.mp k1
              rw [wipe_length] at this
              exact (List.getElem?_eq_none_iff.mpr this).symm
            | some c =>
              have hl := (List.getElem?_eq_some_iff.mp k1).1
              rw [wipe_length] at hl
              cases c with
              | some v => exact absurd hk (wipe_some k1).2
              | none =>
                cases k2 : (wipe σ us)[k]? with
                | none =>
                  have := List.getElem?_eq_none_iff.mp k2
                  omega
                | some c2 =>
                  cases c2 with
                  | none => rfl
                  | some v => exact absurd hk (wipe_some k2).2
          · rw [wipe_out' hk]
        rw [this, z]
      refine ⟨w4', C', H2, B, C3, δ1', T4, RP.imp (RP.noex (RP.bind q)) (fun b δ5 h5 C5 H5 e5 T5 => ?_) fun _ _ _ z => z⟩
      have hD5 : H5 Dl = some (.lst vs) := T5.fr Dl _ hDl hBD
      have hC5 : C5 Dl = none := T5.nw Dl (by rw [hDl]; exact fun z => nomatch z) hCD
      dsimp only
      cases b with
      | false =>
        rw [if_neg Bool.false_ne_true] at h5 ⊢
        split at h5
        case isFalse => exact h5.elim
        rename_i hv5
        have S5 := (S2.unbaseB T5).wipe (vs := ws) hB
        rw [w4'] at S5
        exact ⟨C5, δ5, acc, vs, e2.trans (e3.trans e5), S5, hD5, hC5, hv5, Nat.le_succ_of_le hacc, dpAll_ex (e3.trans e5) _ _ dacc, h5⟩
      | true =>
        rw [if_pos rfl] at h5 ⊢
        refine ⟨C', H2, B, C5, δ5, T5, RP.imp (RP.noex (RP.bind h5)) (fun yd δ6 h6 yv C6 H6 e6 T6 d6 => ?_) fun _ _ _ z => z⟩
        have hD6 : H6 Dl = some (.lst vs) := T6.fr Dl _ hDl hBD
        have hC6 : C6 Dl = none := T6.nw Dl (by rw [hDl]; exact fun z => nomatch z) hCD
        split at h6
        case isFalse => exact h6.elim
        rename_i hv6
        have S6 := (S2.unbaseB T6).wipe (vs := ws) hB
        rw [w4'] at S6
        have nv6 := noOwn_wipe hv6 ws
        have hszz : vs.length < sizeLine := by rw [line_eq]; omega
        have e36 := e3.trans (e5.trans e6)
        refine ⟨vs, hD6, hszz, C6, δ6, acc ++ [yd], vs ++ [yv], e2.trans e36, S6.mutN h0D hC6 (hvD S6 nv6), upd_same, hC6, hv6, by rw [List.length_append]; exact Nat.succ_le_succ hacc, dpa_app (dpAll_ex e36 _ _ dacc) (dpa_one d6), ?_⟩
        refine RP.imp (RP.bind h6) (fun ys δ7 h7 => ?_) fun _ _ _ z => z
        rw [List.append_assoc]
        exact h7
  · rintro H' ⟨C', δ', acc, vs, e2, S2, hDl, hCD, hv, hacc, dacc, q⟩
    rw [List.drop_length] at q
    have q : PKl K C0 H0 B C1 σ Q (acc ++ []) (backD δ1 δ' ws) := q
    rw [List.append_nil] at q
    have S3 := S1.back hnm e2 S2
    have hn3 : noOwn (backD δ1 δ' ws) = true := by
      refine List.all_eq_true.mpr fun c hc => ?_
      obtain ⟨i, hi⟩ := List.getElem?_of_mem hc
      cases c with
      | non => rfl
      | val d => rfl
      | var b es =>
        cases b with
        | true => rfl
        | false =>
          exfalso
          by_cases hk : i ∈ ws
          · have z1 := backD_in hk hi
            unfold List.getD at z1
            cases k : δ1[i]? with
            | none => rw [k] at z1; cases z1
            | some c =>
              rw [k] at z1
              have z1 : Cell.var false es = c := z1
              rw [← z1] at k
              exact noOwn_at hnv k
          · rw [backD_out hk] at hi
            exact noOwn_at hv hi
    exact q Dl vs C' H' e2 S3 hCD hDl h0D (hvD S3 hn3) dacc
theorem dl_lcB {elt tg iter : Expr} {ifs : List Expr} {scope : Scope} {own : List (Str × Nat)} {pos : Pos} {mi : M (List D)} {ts : List Nat} {g : D → Dl → Option Dl} {mt : M Bool} {me : M D} {W0 : WX} (hc : X.calm = true) (hN : X.N.Nodup) (hi : DI X EC W tg iter mi) (ok : BlkOk X.N X.env.scope scope own)
    (hg : ∀ (s : Shared) (H : Hp) (C : Addr) (cl : List (Str × Addr)) (fp : List Addr), DG (X.blk s H scope (compEnvC scope cl C X.env) fp) tg ts g) (hts : ∀ k ∈ ts, k ∈ own.map (·.2))
    (ht : ∀ (s : Shared) (H : Hp) (C : Addr) (cl : List (Str × Addr)) (fp : List Addr), DTs (X.blk s H scope (compEnvC scope cl C X.env) fp) EC W0 ifs mt)
    (he : ∀ (s : Shared) (H : Hp) (C : Addr) (cl : List (Str × Addr)) (fp : List Addr), DE (X.blk s H scope (compEnvC scope cl C X.env) fp) EC W0 elt me) (hs : ∀ x, foldedSetIterable iter X.env x = pure x := by intro _; rfl) :
    DL' X EC W (.ListComp elt [⟨tg, iter, ifs, 0⟩] scope pos) (mLcSB (own.map (·.2)) mi g mt me) := by
  obtain ⟨wi, pi, ri⟩ := hi.ex
  exact ⟨_, pe_lc (g := tGd X.K ts g) (tt := tTd X.K EC W0 mt) (te := tE X.K EC W0 me) hc hN pi ok (fun s H C cl fp => (hg s H C cl fp).pg) (fun s H C cl fp => (ht s H C cl fp).ex) (fun s H C cl fp => (he s H C cl fp).pe) hs, lc_readB hts ri⟩
end
end DL
end Part_DN

section Part_DOa
set_option Elab.async false
end Part_DOa

section Part_DOb
set_option Elab.async false
set_option linter.all false
set_option maxRecDepth 100000
set_option autoImplicit false
set_option maxHeartbeats 2000000
namespace DL
open PySem PySem.Spec PyProof.Rows L2 Evl
/-! ### own lists count as lent while an expression is walked -/
def Cell.lend : Cell → Cell
  | .var _ ds => .var true ds
  | c => c
def lendD (δ : Dl) : Dl := δ.map Cell.lend
def unl : Cell → Cell → Cell
  | .var false _, .var true ds => .var false ds
  | _, c => c
def unlendD : Dl → Dl → Dl
  | c :: cs, c' :: cs' => unl c c' :: unlendD cs cs'
  | [], δ => δ
  | _ :: _, [] => []
theorem lendD_at {δ : Dl} {i : Nat} : (lendD δ)[i]? = (δ[i]?).map Cell.lend := List.getElem?_map ..
theorem unlendD_at : ∀ (δ δ' : Dl) (i : Nat), (unlendD δ δ')[i]? = match δ[i]? with
    | some c => (δ'[i]?).map (unl c)
    | none => δ'[i]?
  | [], δ', i => by unfold unlendD; simp
  | c :: cs, [], i => by
    unfold unlendD
    cases h : (c :: cs)[i]? <;> simp
  | c :: cs, c' :: cs', 0 => by unfold unlendD; simp
  | c :: cs, c' :: cs', i + 1 => by
    unfold unlendD
    simp only [List.getElem?_cons_succ]
    exact unlendD_at cs cs' i
theorem unl_non {c c' : Cell} : unl c c' = .non → c' = .non := by
  intro h
  unfold unl at h
  split at h
  · cases h
  · exact h
theorem unl_val {c c' : Cell} {d : D} : unl c c' = .val d → c' = .val d := by
  intro h
  unfold unl at h
  split at h
  · cases h
  · exact h
theorem unl_true {c c' : Cell} {ds : List D} : unl c c' = .var true ds → c' = .var true ds ∧ ∀ es, c ≠ .var false es := by
  intro h
  unfold unl at h
  split at h
  · cases h
  · rename_i hn
    subst h
    exact ⟨rfl, fun es e => hn es ds e rfl⟩
theorem unl_false {c c' : Cell} {ds : List D} : unl c c' = .var false ds → (c' = .var false ds) ∨ (c' = .var true ds ∧ ∃ es, c = .var false es) := by
  intro h
  unfold unl at h
  split at h
  · cases h
    exact .inr ⟨rfl, _, rfl⟩
  · exact .inl h
/-- the own lists' places -/
def Owns (σ : L2.St) (δ : Dl) (B2 : List (Nat × Addr)) : Prop := (∀ p ∈ B2, ∃ ds, δ[p.1]? = some (.var false ds) ∧ σ[p.1]? = some (some (.ref p.2))) ∧ ∀ i ds l, δ[i]? = some (.var false ds) → σ[i]? = some (some (.ref l)) → (i, l) ∈ B2
theorem owns_ex (σ : L2.St) (δ : Dl) : ∃ B2, Owns σ δ B2 := by
  refine ⟨(List.range δ.length).filterMap fun i => match (δ[i]? : Option Cell), (σ[i]? : Option (Option V)) with
    | some (Cell.var false _), some (some (V.ref l)) => some (i, l)
    | _, _ => none, fun p hp => ?_, fun i ds l h1 h2 => ?_⟩
  · obtain ⟨i, _, h⟩ := List.mem_filterMap.mp hp
    split at h
    · rename_i q1 q2
      cases h
      exact ⟨_, q1, q2⟩
    · cases h
  · refine List.mem_filterMap.mpr ⟨i, List.mem_range.mpr (List.getElem?_eq_some_iff.mp h1).1, ?_⟩
    rw [h1, h2]
section
variable {K : PySem.W.Frag} {C0 H0 C H C2 H2 : Hp} {B B2 : List (Nat × Addr)} {σ σ2 : L2.St} {δ δ' : Dl}
theorem SR.ownB (S : SR K C0 H0 B C H σ δ) (O : Owns σ δ B2) {p : Nat × Addr} (hp : p ∈ B2) : ∃ ds xs, δ[p.1]? = some (.var false ds) ∧ σ[p.1]? = some (some (.ref p.2)) ∧ H0 p.2 = none ∧ C p.2 = none ∧ H p.2 = some (.lst xs) ∧ DqAll K C xs ds := by
  obtain ⟨ds, h1, h2⟩ := O.1 p hp
  obtain ⟨l, xs, g1, g2, g3, g4, g5⟩ := S.own _ ds h1
  rw [h2] at g1
  cases g1
  exact ⟨ds, xs, h1, h2, g2, g3, g4, g5⟩
theorem SR.lend (S : SR K C0 H0 B C H σ δ) (O : Owns σ δ B2) : SR K C H (B ++ B2) C H σ (lendD δ) where
  len := by unfold lendD; rw [List.length_map]; exact S.len
  c0 := Ex.refl C
  ch := S.ch
  fr := fun a o z _ => z
  nw := fun a _ z => z
  val := fun i d h => by
    rw [lendD_at] at h
    cases q : δ[i]? with
    | none => rw [q] at h; cases h
    | some c =>
      rw [q] at h
      cases c with
      | val d' => cases h; exact S.val i d q
      | non => cases h
      | var b ds => cases h
  own := fun i ds h => by
    rw [lendD_at] at h
    cases q : δ[i]? with
    | none => rw [q] at h; cases h
    | some c => rw [q] at h; cases c <;> cases h
  bor := fun p hp => by
    rcases List.mem_append.mp hp with hp | hp
    · obtain ⟨ds, xs, h1, h2, h3, h4, h5⟩ := S.bor p hp
      exact ⟨ds, xs, by rw [lendD_at, h1]; rfl, h2, h3, h4, h5⟩
    · obtain ⟨ds, xs, h1, h2, _, h3, h4, h5⟩ := S.ownB O hp
      exact ⟨ds, xs, by rw [lendD_at, h1]; rfl, h2, h3, h4, h5⟩
  btr := fun i ds h => by
    rw [lendD_at] at h
    cases q : δ[i]? with
    | none => rw [q] at h; cases h
    | some c =>
      rw [q] at h
      cases c with
      | val d' => cases h
      | non => cases h
      | var b es =>
        cases b with
        | true =>
          obtain ⟨l, hl⟩ := S.btr i es q
          exact ⟨l, List.mem_append_left _ hl⟩
        | false =>
          obtain ⟨l, xs, g1, _⟩ := S.own i es q
          exact ⟨l, List.mem_append_right _ (O.2 i es l q g1)⟩
  bd1 := fun p hp q hq e => by
    rcases List.mem_append.mp hp with hp | hp <;> rcases List.mem_append.mp hq with hq | hq
    · exact S.bd1 p hp q hq e
    · obtain ⟨_, _, _, _, h3, _⟩ := S.ownB O hq
      exact absurd (e ▸ h3) (S.bH0 p hp)
    · obtain ⟨_, _, _, _, h3, _⟩ := S.ownB O hp
      exact absurd (e ▸ h3) (S.bH0 q hq)
    · obtain ⟨d1, _, h1, h2, _⟩ := S.ownB O hp
      obtain ⟨d2, _, g1, g2, _⟩ := S.ownB O hq
      by_cases h : p.1 = q.1
      · exact h
      · exact absurd (by rw [g2, ← e]) (S.odis _ _ d1 d2 h h1 g1 p.2 h2)
  bd2 := fun p hp q hq e => by
    rcases List.mem_append.mp hp with hp | hp <;> rcases List.mem_append.mp hq with hq | hq
    · exact S.bd2 p hp q hq e
    · obtain ⟨_, _, h1, _⟩ := S.bor p hp
      obtain ⟨_, _, g1, _⟩ := S.ownB O hq
      rw [e, g1] at h1
      cases h1
    · obtain ⟨_, _, h1, _⟩ := S.ownB O hp
      obtain ⟨_, _, g1, _⟩ := S.bor q hq
      rw [e, g1] at h1
      cases h1
    · obtain ⟨_, _, _, h2, _⟩ := S.ownB O hp
      obtain ⟨_, _, _, g2, _⟩ := S.ownB O hq
      rw [e, g2] at h2
      injection h2 with h2
      injection h2 with h2
      injection h2 with h2
      exact h2.symm
  bH0 := fun p hp => by
    rcases List.mem_append.mp hp with hp | hp
    · obtain ⟨_, _, _, _, _, h, _⟩ := S.bor p hp
      rw [h]
      exact fun z => nomatch z
    · obtain ⟨_, _, _, _, _, _, h, _⟩ := S.ownB O hp
      rw [h]
      exact fun z => nomatch z
  odis := fun i j ds es _ h => by
    rw [lendD_at] at h
    cases q : δ[i]? with
    | none => rw [q] at h; cases h
    | some c => rw [q] at h; cases c <;> cases h
theorem unlend_some {i : Nat} {c : Cell} (h : (unlendD δ δ')[i]? = some c) : ∃ c', δ'[i]? = some c' ∧ ((δ[i]? = none ∧ c = c') ∨ ∃ c0, δ[i]? = some c0 ∧ c = unl c0 c') := by
  rw [unlendD_at] at h
  cases q : δ[i]? with
  | none => rw [q] at h; exact ⟨c, h, .inl ⟨rfl, rfl⟩⟩
  | some c0 =>
    rw [q] at h
    cases q2 : δ'[i]? with
    | none => rw [q2] at h; cases h
    | some c' =>
      rw [q2] at h
      cases h
      exact ⟨c', rfl, .inr ⟨c0, rfl, rfl⟩⟩
theorem unlend_var {i : Nat} {b : Bool} {ds : List D} (h : (unlendD δ δ')[i]? = some (.var b ds)) : ∃ b', δ'[i]? = some (.var b' ds) := by
  obtain ⟨c', h1, h2⟩ := unlend_some h
  rcases h2 with ⟨_, rfl⟩ | ⟨c0, _, h2⟩
  · exact ⟨b, h1⟩
  · cases b with
    | true => exact ⟨true, by rw [h1, (unl_true h2.symm).1]⟩
    | false =>
      rcases unl_false h2.symm with q | ⟨q, _⟩
      · exact ⟨false, by rw [h1, q]⟩
      · exact ⟨true, by rw [h1, q]⟩
theorem SR.unlend (S : SR K C0 H0 B C H σ δ) (O : Owns σ δ B2) (T : SR K C H (B ++ B2) C2 H2 σ2 δ') : SR K C0 H0 B C2 H2 σ2 (unlendD δ δ') := by
  have ow : ∀ {i : Nat} {ds : List D}, (unlendD δ δ')[i]? = some (.var false ds) → (∃ l xs, (i, l) ∈ B2 ∧ δ'[i]? = some (.var true ds) ∧ σ2[i]? = some (some (.ref l)) ∧ H0 l = none ∧ C2 l = none ∧ H2 l = some (.lst xs) ∧ DqAll K C2 xs ds) ∨ (δ'[i]? = some (.var false ds) ∧ ∃ l xs, σ2[i]? = some (some (.ref l)) ∧ H l = none ∧ H0 l = none ∧ C2 l = none ∧ H2 l = some (.lst xs) ∧ DqAll K C2 xs ds) := fun {i ds} h => by
    have two : ∀ z : δ'[i]? = some (.var false ds), (δ'[i]? = some (.var false ds) ∧ ∃ l xs, σ2[i]? = some (some (.ref l)) ∧ H l = none ∧ H0 l = none ∧ C2 l = none ∧ H2 l = some (.lst xs) ∧ DqAll K C2 xs ds) := fun z => by
      obtain ⟨l, xs, g1, g2, g3, g4, g5⟩ := T.own i ds z
      refine ⟨z, l, xs, g1, g2, ?_, g3, g4, g5⟩
      cases q : H0 l with
      | none => rfl
      | some o => exact absurd g2 (S.there (by rw [q]; exact fun z => nomatch z))
    obtain ⟨c', h1, h2⟩ := unlend_some h
    rcases h2 with ⟨_, rfl⟩ | ⟨c0, hc, h2⟩
    · exact .inr (two h1)
    · rcases unl_false h2.symm with q | ⟨q, es, q2⟩
      · subst q
        exact .inr (two h1)
      · subst q q2
        obtain ⟨l, hl⟩ := T.btr i ds h1
        obtain ⟨ds', xs, g1, g2, g3, g4, g5⟩ := T.bor _ hl
        rw [h1] at g1
        cases g1
        rcases List.mem_append.mp hl with hl | hl
        · obtain ⟨_, _, k1, _⟩ := S.bor _ hl
          rw [hc] at k1
          cases k1
        · obtain ⟨_, _, _, _, k3, _⟩ := S.ownB O hl
          exact .inl ⟨l, xs, hl, h1, g2, k3, g3, g4, g5⟩
  refine ⟨?_, S.c0.trans T.c0, T.ch, fun a o z hb => ?_, fun a z1 z2 => T.nw a (S.there z1) (S.nw a z1 z2), fun i d h => ?_, fun i ds h => ?_, fun p hp => ?_, fun i ds h => ?_, S.bd1, S.bd2, S.bH0, fun i j ds es ne hi hj l hl hs => ?_⟩
  · have hh : ∀ (a b : Dl), (unlendD a b).length = b.length := by
      intro a
      induction a with
      | nil => intro b; unfold unlendD; rfl
      | cons x xs ih =>
        intro b
        cases b with
        | nil => unfold unlendD; rfl
        | cons y ys => unfold unlendD; rw [List.length_cons, List.length_cons, ih]
    rw [hh]
    exact T.len
  · refine T.fr a o (S.fr a o z hb) fun p hp => ?_
    rcases List.mem_append.mp hp with hp | hp
    · exact hb p hp
    · obtain ⟨_, _, _, _, k3, _⟩ := S.ownB O hp
      intro e
      rw [e, z] at k3
      cases k3
  · obtain ⟨c', h1, h2⟩ := unlend_some h
    rcases h2 with ⟨_, rfl⟩ | ⟨c0, _, h2⟩
    · exact T.val i d h1
    · rw [unl_val h2.symm] at h1
      exact T.val i d h1
  · rcases ow h with ⟨l, xs, _, _, g1, g2, g3, g4, g5⟩ | ⟨_, l, xs, g1, _, g2, g3, g4, g5⟩
    · exact ⟨l, xs, g1, g2, g3, g4, g5⟩
    · exact ⟨l, xs, g1, g2, g3, g4, g5⟩
  · obtain ⟨ds, xs, g1, g2, g3, g4, g5⟩ := T.bor p (List.mem_append_left _ hp)
    obtain ⟨_, _, k1, _⟩ := S.bor p hp
    refine ⟨ds, xs, ?_, g2, g3, g4, g5⟩
    rw [unlendD_at, k1, g1]
    rfl
  · obtain ⟨c', h1, h2⟩ := unlend_some h
    have key : δ'[i]? = some (.var true ds) ∧ ∀ es, δ[i]? ≠ some (.var false es) := by
      rcases h2 with ⟨hn, rfl⟩ | ⟨c0, hc, h2⟩
      · exact ⟨h1, fun es e => by rw [hn] at e; cases e⟩
      · obtain ⟨q1, q2⟩ := unl_true h2.symm
        exact ⟨by rw [h1, q1], fun es e => by rw [hc] at e; cases e; exact q2 es rfl⟩
    obtain ⟨l, hl⟩ := T.btr i ds key.1
    rcases List.mem_append.mp hl with hl | hl
    · exact ⟨l, hl⟩
    · obtain ⟨es, _, k1, _⟩ := S.ownB O hl
      exact absurd k1 (key.2 es)
  · rcases ow hi with ⟨l1, xs1, m1, z1, g1, _⟩ | ⟨z1, l1, xs1, g1, n1, _⟩ <;> rcases ow hj with ⟨l2, xs2, m2, z2, g2, _⟩ | ⟨z2, l2, xs2, g2, n2, _⟩
    · rw [g1] at hl
      rw [g2] at hs
      cases hl
      cases hs
      exact ne (S.lend O |>.bd1 (i, l) (List.mem_append_right _ m1) (j, l) (List.mem_append_right _ m2) rfl)
    · rw [g1] at hl
      rw [g2] at hs
      cases hl
      cases hs
      obtain ⟨_, _, _, _, _, _, k, _⟩ := S.ownB O m1
      rw [n2] at k
      cases k
    · rw [g1] at hl
      rw [g2] at hs
      cases hl
      cases hs
      obtain ⟨_, _, _, _, _, _, k, _⟩ := S.ownB O m2
      rw [n1] at k
      cases k
    · exact T.odis i j ds es ne z1 z2 l hl hs
end
section
variable {X : Cx} {EC : ECl} {W : WX} {a b e : Expr} {m : M (List D)} {ma mb : M D} {pos : Pos}
def mLend {α : Type} (m : M α) : M α := fun δ => match m (lendD δ) with
  | .ok xs δ' => .ok xs (unlendD δ δ')
  | _ => .no
theorem dl_own (h : DL' X EC W e m) : DL' X EC W e (mLend m) := by
  obtain ⟨te, p, r⟩ := h.ex
  refine ⟨te, p, fun C0 H0 B C H σ δ Q S h => ?_⟩
  obtain ⟨B2, O⟩ := owns_ex σ δ
  refine r C H (B ++ B2) C H σ (lendD δ) Q (S.lend O) ?_
  unfold mLend at h
  cases q : m (lendD δ) with
  | no => rw [q] at h; exact h.elim
  | ex c d δ' => rw [q] at h; exact h.elim
  | ok ds δ' =>
    rw [q] at h
    intro p xs C2 H2 e2 S2 hC hH h0 hv hd
    refine h p xs C2 H2 e2 (S.unlend O S2) hC hH ?_ (fun i b es hi hs => ?_) hd
    · cases q : H0 p with
      | none => rfl
      | some o => exact absurd h0 (S.there (by rw [q]; exact fun z => nomatch z))
    · obtain ⟨b', hb⟩ := unlend_var hi
      exact hv i b' es hb hs
/-! ### a + b, a new list -/
def mCat (a b : M D) : M (List D) := fun δ => (a δ).bind fun x δ => (b δ).bind fun y δ => match x, y with
  | .list xs, .list ys => if xs.length + ys.length ≤ LINE then .ok (xs ++ ys) δ else .no
  | _, _ => .no
theorem dl_cat (ha : DE X EC W a ma) (hb : DE X EC W b mb) : DL' X EC W (.BinOp a .Add b pos) (mCat ma mb) := by
  obtain ⟨ta, pa, ra⟩ := ha.ex
  obtain ⟨tb, pb, rb⟩ := hb.ex
  refine ⟨_, pe_op op_catR pa pb, fun C0 H0 B C H σ δ Q S h => ra C0 H0 B C H σ δ _ S (RP.imp (RP.bind h) (fun x δ1 h1 v C1 H1 e1 S1 d1 => ?_) fun c d δ h => h)⟩
  refine rb C0 H0 B C1 H1 σ δ1 _ S1 (RP.imp (RP.bind h1) (fun y δ2 h2 w C2 H2 e2 S2 d2 => ?_) (PXe.mono e1))
  split at h2
  case h_2 => exact h2.elim
  rename_i xs ys
  split at h2
  case isFalse => exact h2.elim
  rename_i hl
  have d1 := dp_ex e2 _ _ d1
  cases d1 with
  | lst l1 a1 =>
    cases d2 with
    | lst l2 a2 =>
      refine ⟨_, _, _, _, rfl, rfl, ex_l S2.ch l1, ex_l S2.ch l2, by rw [line_eq, dpa_len a1, dpa_len a2]; exact hl, fun p hp => ?_⟩
      have nH0 : H0 p = none := by
        cases q : H0 p with
        | none => rfl
        | some o =>
          by_cases hb : ∃ k ∈ B, k.2 = p
          · obtain ⟨k, hk, rfl⟩ := hb
            obtain ⟨_, _, _, _, _, h4, _⟩ := S2.bor k hk
            rw [hp] at h4
            cases h4
          · have z := S2.fr p o q fun k hk e => hb ⟨k, hk, e⟩
            rw [hp] at z
            cases z
      refine h2 p _ C2 _ (e1.trans e2) (S2.newN hp) (free_of S2.ch hp) upd_same nH0 (fun i b ds hi hs => ?_) (dpa_app a1 a2)
      cases b with
      | false =>
        obtain ⟨l, ys, h2, _, _, h5, _⟩ := S2.own i ds hi
        rw [h2] at hs
        cases hs
        rw [hp] at h5
        cases h5
      | true =>
        obtain ⟨l, hl⟩ := S2.btr i ds hi
        obtain ⟨_, _, _, h3, _, h5, _⟩ := S2.bor _ hl
        rw [h3] at hs
        cases hs
        rw [hp] at h5
        cases h5
/-! ### max of a list of ints -/
def dMaxL : List D → Option D
  | [.list xs] => match dInts xs with
    | some (n :: ns) => some (.int (ns.foldl max n))
    | _ => none
  | _ => none
theorem foldl_max_le : ∀ (ns : List Int) (n : Int), n ≤ ns.foldl max n ∧ ∀ y ∈ ns, y ≤ ns.foldl max n
  | [], n => ⟨Int.le_refl _, fun y h => nomatch h⟩
  | z :: ns, n => by
    obtain ⟨h1, h2⟩ := foldl_max_le ns (max n z)
    refine ⟨by rw [List.foldl_cons]; omega, fun y hy => ?_⟩
    rw [List.foldl_cons]
    rcases List.mem_cons.mp hy with rfl | hy
    · omega
    · exact h2 y hy
theorem foldl_max_mem : ∀ (ns : List Int) (n : Int), ns.foldl max n = n ∨ ns.foldl max n ∈ ns
  | [], n => .inl rfl
  | z :: ns, n => by
    rw [List.foldl_cons]
    rcases foldl_max_mem ns (max n z) with h | h
    · rw [h]
      rcases Int.le_total n z with q | q
      · right
        rw [Int.max_eq_right q]
        exact List.mem_cons_self ..
      · left
        rw [Int.max_eq_left q]
    · exact .inr (List.mem_cons_of_mem _ h)
theorem rc_maxL : RCf X.K (rMax X.K) dMaxL := by
  intro xs z hz vs C H Q e hv q
  unfold dMaxL at hz
  split at hz
  · split at hz
    · rename_i n ns hn
      cases hz
      cases hv with
      | cons h t =>
        cases t
        cases h with
        | lst h1 h2 =>
          have e1 := dInts_eq hn
          subst e1
          have e2 := dpa_ints h2
          subst e2
          refine ⟨_, n :: ns, rfl, ex_l e h1, Nat.succ_pos _, fun m hm hle => ?_⟩
          have hm2 : ns.foldl max n = m := by
            have z1 := foldl_max_le ns n
            have z2 := foldl_max_mem ns n
            have z3 : m ≤ ns.foldl max n := by
              rcases List.mem_cons.mp hm with rfl | hm
              · exact z1.1
              · exact z1.2 m hm
            have z4 : ns.foldl max n ≤ m := by
              rcases z2 with h | h
              · rw [h]; exact hle _ (List.mem_cons_self ..)
              · exact hle _ (List.mem_cons_of_mem _ h)
            omega
          rw [← hm2]
          exact q.1 _ (.int _)
    · cases hz
  · cases hz
end
section
variable {X : Cx} {EC : ECl} {W : WX}
theorem ds_setLcB (i : Nat) {y : Str} {py : Pos} {elt tg iter : Expr} {ifs : List Expr} {scope : Scope} {own : List (Str × Nat)} {pos spos : Pos} {mi : M (List D)} {ts : List Nat} {g : D → Dl → Option Dl} {mt : M Bool} {me : M D} {W0 : WX} (hc : X.calm = true) (hN : X.N.Nodup) (hy : X.N[i]? = some y) (hyl : X.env.scope.names.lookup y = some .local)
    (hsw : swapsWith (.ListComp elt [⟨tg, iter, ifs, 0⟩] scope pos) (some (.Name y py)) spos.line X.env = pure true) (hi : DI X EC W tg iter mi) (ok : BlkOk X.N X.env.scope scope own)
    (hg : ∀ (s : Shared) (H : Hp) (C : Addr) (cl : List (Str × Addr)) (fp : List Addr), DG (X.blk s H scope (compEnvC scope cl C X.env) fp) tg ts g) (hts : ∀ k ∈ ts, k ∈ own.map (·.2))
    (ht : ∀ (s : Shared) (H : Hp) (C : Addr) (cl : List (Str × Addr)) (fp : List Addr), DTs (X.blk s H scope (compEnvC scope cl C X.env) fp) EC W0 ifs mt)
    (he : ∀ (s : Shared) (H : Hp) (C : Addr) (cl : List (Str × Addr)) (fp : List Addr), DE (X.blk s H scope (compEnvC scope cl C X.env) fp) EC W0 elt me) (hs : ∀ x, foldedSetIterable iter X.env x = pure x := by intro _; rfl) :
    DS X EC W (.Assign [.Name y py] (.ListComp elt [⟨tg, iter, ifs, 0⟩] scope pos) spos) (mSetL i (mLcSB (own.map (·.2)) mi g mt me)) := by
  obtain ⟨wi, pi, ri⟩ := hi.ex
  exact ⟨_, ps_setLc (g := tGd X.K ts g) (tt := tTd X.K EC W0 mt) (te := tE X.K EC W0 me) hc hN hy hyl hsw pi ok (fun s H C cl fp => (hg s H C cl fp).pg) (fun s H C cl fp => (ht s H C cl fp).ex) (fun s H C cl fp => (he s H C cl fp).pe) hs, set_readL (lc_readB hts ri)⟩
end
end DL
end Part_DOb

section Part_DP
set_option Elab.async false
set_option linter.all false
set_option maxRecDepth 100000
set_option autoImplicit false
set_option maxHeartbeats 2000000
namespace DL
open PySem PySem.Spec PyProof.Rows L2 Evl
/-! ### t.m(e), t a tuple -/
section
variable {X : Cx} {EC : ECl} {W : WX} {o e : Expr} {mo ma : M D} {pos apos : Pos}
def tBMT (K : PySem.W.Frag) (r : V → List V → Hp → VK → Prop) (to : TE) (t : TA) : TE := fun σ H Q => to σ H fun x H1 => ∃ a xs, x = .ref a ∧ SqT K H1 a xs ∧ ND K H1 a ∧ t σ H1 fun vs H2 => r x vs H2 Q
theorem pe_bmT {id : String} {name : Str} {r : V → List V → Hp → VK → Prop} {to : TE} {t : TA} (pa : PlainAttrs "tuple") (slot : Slot "tuple" name id) (hty : typeOf (.builtin id) = pure (.type "method_descriptor")) (hm : MtR X id r) (ho : PE X o to) (ha : PA X [e] t)
    (hbase : attributeBase o name X.env (eval o X.env) = eval o X.env := by rfl)
    (hfew : ((backTo pos (starEach [e] X.env)).all (fun x => !x.1) && (backToKw pos (keywordEach [] X.env)).all (fun x => x.1.isSome)
      && decide ([e].length + ([] : List Keyword).length + (if ([] : List Keyword).isEmpty then 0 else 1) < 30)) = true := by rfl)
    (hline : (apos.endLine == pos.line) = true := by rfl) (hs : starEach [e] X.env = (false, eval e X.env) :: starEach [] X.env := by rfl) (hplain : (backTo pos (starEach [] X.env)).any (·.1) = false := by rfl) :
    PE X (.Call (.Attribute o name apos) [e] [] pos) (tBMT X.K r to t) := by
  refine ⟨fun pins s σ H Q I h => ?_⟩
  refine wpAny_Call_method_late hbase hfew hline rfl (thn (ho.run pins s σ H _ I h) fun v s1 ⟨x, H1, I1, r1, q1⟩ => ?_)
  obtain ⟨a, xs, ex, sq, nd, q1⟩ := q1
  subst ex
  have r0 := r1
  cases r1
  obtain ⟨h1, h2⟩ := nd_is I1 sq nd
  refine ⟨"tuple", id, pa, slot, hty, h1, h2, ?_⟩
  have hA := ha.run pos pins s1 σ H1 _ I1 q1
  rw [hs] at hA ⊢
  refine Calls.callWith_builtin (by show (false || (backTo pos (starEach [] X.env)).any (·.1)) = false; rw [hplain] <;> rfl) (Calls.evalArgs_plain ?_)
  exact thn hA fun us s2 ⟨vs, H2, I2, r2, q2⟩ => hm pins s2 σ H2 _ vs _ us Q I2 r0 r2 q2
def mM1T (f : D → List D → Option D) (mo ma : M D) : M D := fun δ => (mo δ).bind fun x δ => match x with
  | .tuple xs => (ma δ).bind fun y δ => R.lift (f (.tuple xs) [y]) δ
  | _ => .no
theorem de_m1T {id : String} {name : Str} {r : V → List V → Hp → VK → Prop} {f : D → List D → Option D} (pa : PlainAttrs "tuple") (slot : Slot "tuple" name id) (ty : typeOf (.builtin id) = pure (.type "method_descriptor")) (rule : MtR X id r) (hf : RMt X.K r f) (ho : DE X EC W o mo) (he : DE X EC W e ma)
    (hbase : attributeBase o name X.env (eval o X.env) = eval o X.env := by rfl)
    (hfew : ((backTo pos (starEach [e] X.env)).all (fun x => !x.1) && (backToKw pos (keywordEach [] X.env)).all (fun x => x.1.isSome)
      && decide ([e].length + ([] : List Keyword).length + (if ([] : List Keyword).isEmpty then 0 else 1) < 30)) = true := by rfl)
    (hline : (apos.endLine == pos.line) = true := by rfl) (hs : starEach [e] X.env = (false, eval e X.env) :: starEach [] X.env := by rfl) (hplain : (backTo pos (starEach [] X.env)).any (·.1) = false := by rfl) :
    DE X EC W (.Call (.Attribute o name apos) [e] [] pos) (mM1T f mo ma) := by
  obtain ⟨ta, pa', ra⟩ := ho.ex
  obtain ⟨tb, pb, rb⟩ := he.ex
  refine ⟨_, pe_bmT pa slot ty rule pa' (pa_cons pb pa_nil hs) hbase hfew hline hs hplain, fun C0 H0 B C H σ δ Q S h => ra C0 H0 B C H σ δ _ S (RP.imp (RP.bind h) (fun x δ1 h1 v C1 H1 e1 S1 d1 => ?_) fun c d δ h => h)⟩
  split at h1
  · rename_i xs
    cases d1 with
    | tup s1 n1 a1 =>
      refine ⟨_, _, rfl, ex_t S1.ch s1, n1.ex S1.ch, rb C0 H0 B C1 H1 σ δ1 _ S1 (RP.imp (RP.bind h1) (fun y δ2 h2 w C2 H2 e2 S2 d2 => ?_) (PXe.mono e1))⟩
      obtain ⟨z, hz, q⟩ := RP.lift h2
      exact hf _ _ z hz _ _ C2 H2 Q S2.ch (dp_ex e2 _ _ (.tup s1 n1 a1)) (dpa_one d2) (rs_of S2 (PKe.mono (e1.trans e2) _ _ q))
  · exact h1.elim
end
end DL
end Part_DP

section Part_DQ
set_option Elab.async false
set_option linter.all false
set_option maxRecDepth 100000
set_option autoImplicit false
set_option maxHeartbeats 2000000
namespace DL
open PySem PySem.Spec PyProof.Rows L2 Evl
section
variable {X : Cx} {EC : ECl} {W : WX} {a b e : Expr} {ma mb : M D} {pos p p2 px sp_ : Pos} {x y : Str}
/-! ### (*a, e), (e, *a) -/
def mSE (ma mb : M D) : M D := fun δ => (ma δ).bind fun x δ => match seqD x with
  | some xs => (mb δ).bind fun y δ => if xs.length + 1 ≤ LINE then .ok (.tuple (xs ++ [y])) δ else .no
  | none => .no
def mES (ma mb : M D) : M D := fun δ => (ma δ).bind fun x δ => (mb δ).bind fun y δ => match seqD y with
  | some ys => if ys.length + 1 ≤ LINE then .ok (.tuple (x :: ys)) δ else .no
  | none => .no
theorem seq_dq {K : PySem.W.Frag} {C : Hp} {v : V} {d : D} {ds : List D} (h : Dq K C v d) (hs : seqD d = some ds) : ∃ (l : Addr) (xs : List V), v = V.ref l ∧ (SqT K C l xs ∨ SqL K C l xs) ∧ DqAll K C xs ds := by
  unfold seqD at hs
  split at hs
  · cases hs
    cases h with
    | lst h1 h2 => exact ⟨_, _, rfl, .inr h1, h2⟩
  · cases hs
    cases h with
    | tup h1 hn h2 => exact ⟨_, _, rfl, .inl h1, h2⟩
  · cases hs
theorem sq_ex {K : PySem.W.Frag} {C H : Hp} {l : Addr} {xs : List V} (e : Ex C H) (h : SqT K C l xs ∨ SqL K C l xs) : SqT K H l xs ∨ SqL K H l xs := by
  rcases h with h | h
  · exact .inl (ex_t e h)
  · exact .inr (ex_l e h)
theorem de_tupSE {x1} (ha : DE X EC W a ma) (hb : DE X EC W b mb) (h0 : starEach (b :: []) X.env = (false, eval b X.env) :: starEach [] X.env := by rfl) (hs : starEach (.Starred a sp_ :: [b]) X.env = (true, eval a X.env) :: starEach [b] X.env := by rfl) :
    DE X EC W (.Tuple [.Starred a sp_, b] x1 pos) (mSE ma mb) := by
  obtain ⟨ta, pa, ra⟩ := ha.ex
  obtain ⟨tb, pb, rb⟩ := hb.ex
  refine ⟨_, pe_tupF (StX.pa_star pa (pa_cons pb pa_nil h0) hs), fun C0 H0 B C H σ δ Q S h => ra C0 H0 B C H σ δ _ S (RP.imp (RP.bind h) (fun x δ1 h1 v C1 H1 e1 S1 d1 => ?_) fun c d δ h => h)⟩
  split at h1
  case h_2 => exact h1.elim
  rename_i xs q
  obtain ⟨l, vs, ev, sq, av⟩ := seq_dq d1 q
  refine ⟨l, vs, ev, sq_ex S1.ch sq, rb C0 H0 B C1 H1 σ δ1 _ S1 (RP.imp (RP.bind h1) (fun y δ2 h2 w C2 H2 e2 S2 d2 => ?_) (PXe.mono e1))⟩
  split at h2
  case isFalse => exact h2.elim
  rename_i hl
  refine ⟨?_, fun p o hp ho => ?_⟩
  · show (vs ++ (w :: [])).length ≤ sizeLine
    rw [List.length_append, List.length_singleton, line_eq, dpa_len av]
    exact hl
  · have e3 : Ex C2 (upd C2 p (.frz o (.tup (vs ++ [w])))) := Ex.new (free_of S2.ch hp)
    exact (rs_of S2 (PKe.mono (e1.trans e2) _ _ h2)).2 p _ hp (.tup sqt_new (.new ho) (dpAll_ex e3 _ _ (dpa_app (dpAll_ex e2 _ _ av) (dpa_one d2))))
theorem de_tupES {x1} (ha : DE X EC W a ma) (hb : DE X EC W b mb) (h0 : starEach (.Starred b sp_ :: []) X.env = (true, eval b X.env) :: starEach [] X.env := by rfl) (hs : starEach (a :: [.Starred b sp_]) X.env = (false, eval a X.env) :: starEach [.Starred b sp_] X.env := by rfl) :
    DE X EC W (.Tuple [a, .Starred b sp_] x1 pos) (mES ma mb) := by
  obtain ⟨ta, pa, ra⟩ := ha.ex
  obtain ⟨tb, pb, rb⟩ := hb.ex
  refine ⟨_, pe_tupF (pa_cons pa (StX.pa_star pb pa_nil h0) hs), fun C0 H0 B C H σ δ Q S h => ra C0 H0 B C H σ δ _ S (RP.imp (RP.bind h) (fun x δ1 h1 v C1 H1 e1 S1 d1 => ?_) fun c d δ h => h)⟩
  refine rb C0 H0 B C1 H1 σ δ1 _ S1 (RP.imp (RP.bind h1) (fun y δ2 h2 w C2 H2 e2 S2 d2 => ?_) (PXe.mono e1))
  split at h2
  case h_2 => exact h2.elim
  rename_i ys q
  split at h2
  case isFalse => exact h2.elim
  rename_i hl
  obtain ⟨l, vs, ev, sq, av⟩ := seq_dq d2 q
  refine ⟨l, vs, ev, sq_ex S2.ch sq, ?_, fun p o hp ho => ?_⟩
  · show (v :: (vs ++ [])).length ≤ sizeLine
    rw [List.append_nil, List.length_cons, line_eq, dpa_len av]
    exact hl
  · have e3 : Ex C2 (upd C2 p (.frz o (.tup (v :: (vs ++ []))))) := Ex.new (free_of S2.ch hp)
    refine (rs_of S2 (PKe.mono (e1.trans e2) _ _ h2)).2 p _ hp (.tup sqt_new (.new ho) ?_)
    rw [List.append_nil] at e3 ⊢
    exact .cons (dp_ex (e2.trans e3) _ _ d1) (dpAll_ex e3 _ _ av)
/-! ### x not in a list that is changed -/
def mNiM (i : Nat) (ma : M D) : M D := fun δ => (ma δ).bind fun x δ => match δ[i]? with
  | some (.var _ ds) => R.lift (dNotIn x (.list ds)) δ
  | _ => .no
theorem de_niM (i : Nat) (ha : DE X EC W a ma) (hN : X.N[i]? = some x := by rfl) (hv : Vis X.env.scope x := by first | exact Or.inl rfl | exact Or.inr (Or.inl rfl) | exact Or.inr (Or.inr rfl)) (hd : (x == ("__debug__" : Str)) = false := by decide) (hcd : (x == ("__classdict__" : Str)) = false := by decide)
    (hm : behindInMarks .NotIn (.Name x px) = false := by rfl) : DE X EC W (.Compare a [.NotIn] [.Name x px] pos) (mNiM i ma) := by
  obtain ⟨ta, pa, ra⟩ := ha.ex
  refine ⟨_, pe_cmpR op_niA pa (pe_var hN hv hd hcd) hm, fun C0 H0 B C H σ δ Q S h => ra C0 H0 B C H σ δ _ S (RP.imp (RP.bind h) (fun z δ1 h1 v C1 H1 e1 S1 d1 => ?_) fun c d δ h => h)⟩
  split at h1
  case h_2 => exact h1.elim
  rename_i b ds q
  obtain ⟨r, hz, qq⟩ := RP.lift h1
  obtain ⟨l, xs, k1, k2, k3, k4, _⟩ := S1.chg q
  refine ⟨.ref l, k1, ?_⟩
  have q1 := rs_of S1 (PKe.mono e1 _ _ qq)
  have hb : ∃ t, r = .bool t := by
    unfold dNotIn at hz
    split at hz
    · cases hz; exact ⟨_, rfl⟩
    · cases hz
  obtain ⟨t, rfl⟩ := hb
  have eu : Ex C1 (upd C1 l (.lst xs)) := Ex.new k4
  have eh : Ex (upd C1 l (.lst xs)) H1 := fun p o hp => by
    by_cases e : p = l
    · subst e
      rw [upd_same] at hp
      rw [← hp]
      exact k2
    · rw [upd_ne e] at hp
      exact S1.ch p o hp
  refine ro_ni z (.list ds) _ hz v (.ref l) (upd C1 l (.lst xs)) H1 Q eh (dp_ex eu _ _ d1) (.lst (SqL.of upd_same) (dpAll_ex eu _ _ k3)) ⟨fun u hu => ?_, fun p o hp hu => ?_⟩
  · cases hu
    exact q1.1 _ (.bl _)
  · cases hu
theorem dt_niM (i : Nat) (ha : DE X EC W a ma) (hN : X.N[i]? = some x := by rfl) (hv : Vis X.env.scope x := by first | exact Or.inl rfl | exact Or.inr (Or.inl rfl) | exact Or.inr (Or.inr rfl)) (hd : (x == ("__debug__" : Str)) = false := by decide) (hcd : (x == ("__classdict__" : Str)) = false := by decide)
    (hm : behindInMarks .NotIn (.Name x px) = false := by rfl) : DT X EC W (.Compare a [.NotIn] [.Name x px] pos) (mT (mNiM i ma)) := by
  obtain ⟨ta, pa, ra⟩ := ha.ex
  refine ⟨_, pt_cmpR op_niA pa (pe_var hN hv hd hcd) hm, fun C0 H0 B C H σ δ Q S h => ra C0 H0 B C H σ δ _ S (RP.imp (RP.bind (RP.bind h)) (fun z δ1 h1 v C1 H1 e1 S1 d1 => ?_) fun c d δ h => h)⟩
  split at h1
  case h_2 => exact h1.elim
  rename_i b ds q
  obtain ⟨r, hz, qq⟩ := RP.lift h1
  obtain ⟨l, xs, k1, k2, k3, k4, _⟩ := S1.chg q
  refine ⟨.ref l, k1, ?_⟩
  have hb : ∃ t, r = .bool t := by
    unfold dNotIn at hz
    split at hz
    · cases hz; exact ⟨_, rfl⟩
    · cases hz
  obtain ⟨t, rfl⟩ := hb
  have qq : PKt X.K C0 H0 B C σ Q t δ1 := qq
  have eu : Ex C1 (upd C1 l (.lst xs)) := Ex.new k4
  have eh : Ex (upd C1 l (.lst xs)) H1 := fun p o hp => by
    by_cases e : p = l
    · subst e
      rw [upd_same] at hp
      rw [← hp]
      exact k2
    · rw [upd_ne e] at hp
      exact S1.ch p o hp
  refine ro_ni z (.list ds) _ hz v (.ref l) (upd C1 l (.lst xs)) H1 (fun x H' => ∃ k, x = .bl k ∧ Q k H') eh (dp_ex eu _ _ d1) (.lst (SqL.of upd_same) (dpAll_ex eu _ _ k3)) ⟨fun u hu => ?_, fun p o hp hu => ?_⟩
  · cases hu
    exact ⟨t, rfl, qq C1 H1 e1 S1⟩
  · cases hu
/-! ### tuple(range(a, b)) -/
def mTupRg (ma mb : M D) : M D := fun δ => (ma δ).bind fun x δ => (mb δ).bind fun y δ => match x, y with
  | .int i, .int j => if 0 ≤ i ∧ i ≤ 1000 ∧ -1000000 ≤ j ∧ j ≤ 1000 then .ok (.tuple (rng i j)) δ else .no
  | _, _ => .no
def tTupRgF (te : L2.St → Hp → (Int → Int → Hp → Prop) → Prop) : TE := fun σ H Q => te σ H fun a b H1 => RgOk a b ∧ ∀ q o, H1 q = none → o.dict = none → Q (.ref q) (upd H1 q (.frz o (.tup (rgV a b))))
theorem pe_tupRgF {te : L2.St → Hp → (Int → Int → Hp → Prop) → Prop} (hc : X.calm = true) (hg : Gl X "tuple") (hm : X.mg "tuple" = none) (he : PRg X e te) (na : starEach [e] X.env = (false, eval e X.env) :: starEach [] X.env := by rfl) : PE X (.Call (.Name "tuple" p) [e] [] pos) (tTupRgF te) := by
  refine ⟨fun pins s σ H Q I h => ?_⟩
  refine Call_ (ld_blt I hg hm boot_tuple (PyProof.Rows.callWith_type1 (args_cons (thn (he pins s σ H _ I h) fun x s1 ⟨r, a, b, t, u, v, H1, ex, hr, I1, ok, q⟩ => args_nil ?_) na) na))
  subst ex
  obtain ⟨b1, b2, b3, b4, b5⟩ := ok
  refine call_tuple_range (n := (b - a).toNat) (I1.ok.hd hc) hr (small_one b1 b2 b3 b4) (rangeSize_nat a b) b5 fun h' tk acc hk hi => ?_
  have I2 : Inv X pins σ H1 { s1 with heap := h', toks := tk } := I1.kept hk
  exact ⟨.ref h'.objs.size, _, frz_laid (s := { s1 with heap := h', toks := tk }) (h' := h'.push { cls := .type "tuple", data := .seq acc }) (t' := tk) (p := h'.objs.size) (xs := rgV a b) (its := acc) I2 (fun c o e => Heap.get?_push_of_some _ e) (Nat.le_refl _) (Heap.get?_push_size _ rfl) (by rw [rgV_length, sizeLine_eq]; omega) (vals_rg hi), rfl, q _ _ (I2.hok.fresh (Nat.le_refl _)) rfl⟩
theorem rg_dq {K : PySem.W.Frag} {C : Hp} (i j : Int) : DqAll K C (rgV i j) (rng i j) := by
  unfold rgV rng
  generalize (List.range (j - i).toNat) = l
  induction l with
  | nil => exact .nil
  | cons n l ih => exact .cons (.int _) ih
theorem de_tupRg (hc : X.calm = true) (hg : Gl X "tuple") (hm : X.mg "tuple" = none) (hg2 : Gl X "range") (hm2 : X.mg "range" = none) (ha : DE X EC W a ma) (hb : DE X EC W b mb)
    (na : starEach [.Call (.Name "range" p2) [a, b] [] px] X.env = (false, eval (.Call (.Name "range" p2) [a, b] [] px) X.env) :: starEach [] X.env := by rfl) (n1 : starEach [a, b] X.env = (false, eval a X.env) :: starEach [b] X.env := by rfl)
    (n2 : starEach [b] X.env = (false, eval b X.env) :: starEach [] X.env := by rfl) (hp : (backTo px (starEach [b] X.env)).any (·.1) = false := by rfl) :
    DE X EC W (.Call (.Name "tuple" p) [.Call (.Name "range" p2) [a, b] [] px] [] pos) (mTupRg ma mb) := by
  obtain ⟨ta, pa, ra⟩ := ha.ex
  obtain ⟨tb, pb, rb⟩ := hb.ex
  refine ⟨_, pe_tupRgF hc hg hm (prg_2 hg2 hm2 pa pb n1 n2 hp) na, fun C0 H0 B C H σ δ Q S h => ra C0 H0 B C H σ δ _ S (RP.imp (RP.bind h) (fun z δ1 h1 v C1 H1 e1 S1 d1 => ?_) fun c d δ h => h)⟩
  refine rb C0 H0 B C1 H1 σ δ1 _ S1 (RP.imp (RP.bind h1) (fun z2 δ2 h2 w C2 H2 e2 S2 d2 => ?_) (PXe.mono e1))
  split at h2
  case h_2 => exact h2.elim
  rename_i i j
  split at h2
  case isFalse => exact h2.elim
  rename_i hb
  cases d1
  cases d2
  refine ⟨i, j, rfl, rfl, ⟨by omega, by omega, by omega, by omega, by omega⟩, fun q o hq ho => ?_⟩
  exact (rs_of S2 (PKe.mono (e1.trans e2) _ _ h2)).2 q _ hq (.tup sqt_new (.new ho) (rg_dq i j))
/-! ### sum of a tuple of ints -/
def rSumT (K : PySem.W.Frag) : List V → Hp → VK → Prop := fun vs H Q => ∃ (a : Addr) (ns : List Int), vs = [V.ref a] ∧ SqT K H a (ns.map V.int) ∧ Q (.int ns.sum) H
theorem cr_sumT (hc : X.calm = true) : CallR X (.builtin "sum") (rSumT X.K) := by
  intro pins s σ H vs us Q I r h
  obtain ⟨a, ns, ev, hs, q⟩ := h
  subst ev
  obtain ⟨its, rv, ht, _⟩ := I.tuple hs
  rw [Vals.ref1 r]
  have hi := rv.ints
  obtain ⟨xs, e⟩ := hi.allInts.items
  have hn : numsOf (intItems xs).toList = ns := by rw [← e]; exact hi.numsOf
  rw [nums_intItems] at hn
  have hl : s.heap.IsTuple a its.toArray := ht
  rw [e] at hl
  refine PySem.W.ktm_sumG (I.ok.hd hc) hl fun h' tk t' hk => ?_
  rw [preSum_eq, List.take_of_length_le (by simp), hn]
  exact ⟨.int _, H, I.kept hk, ⟨_, rfl⟩, q⟩
def dSumX : List D → Option D
  | [.list xs] => (dInts xs).map fun ns => .int ns.sum
  | [.tuple xs] => (dInts xs).map fun ns => .int ns.sum
  | _ => none
theorem rc_sumX : RCf X.K (fun vs H Q => rSum X.K vs H Q ∨ rSumT X.K vs H Q) dSumX := by
  intro xs z hz vs C H Q e hv q
  unfold dSumX at hz
  split at hz
  · rename_i ys
    exact .inl (rc_sum [.list ys] z hz vs C H Q e hv q)
  · rename_i ys
    cases k : dInts ys with
    | none => rw [k] at hz; cases hz
    | some bs =>
      rw [k] at hz
      cases hz
      have e1 := dInts_eq k
      subst e1
      cases hv with
      | cons h t =>
        cases t
        cases h with
        | tup h1 hn h2 =>
          have e2 := dpa_ints h2
          subst e2
          exact .inr ⟨_, bs, rfl, ex_t e h1, q.1 _ (.int _)⟩
  · cases hz
theorem cr_sumX (hc : X.calm = true) : CallR X (.builtin "sum") (fun vs H Q => rSum X.K vs H Q ∨ rSumT X.K vs H Q) := (cr_sum hc).or (cr_sumT hc)
end
end DL
end Part_DQ

section Part_DR
set_option Elab.async false
set_option linter.all false
set_option maxRecDepth 100000
set_option autoImplicit false
set_option maxHeartbeats 2000000
namespace DL
open PySem PySem.Spec PyProof.Rows L2 Evl
/-! ### a text times a number -/
def repL (l : List Nat) : Nat → List Nat
  | 0 => []
  | n + 1 => l ++ repL l n
def repS (i : Str) (n : Nat) : Str := ⟨(repL i.cps.toList n).toArray⟩
theorem repL_len (l : List Nat) : ∀ n, (repL l n).length = n * l.length
  | 0 => by rw [Nat.zero_mul]; rfl
  | n + 1 => by rw [repL, List.length_append, repL_len l n, Nat.succ_mul]; omega
theorem foldl_app (a : Array Nat) : ∀ (n : Nat) (b : Array Nat), ((List.replicate n a).foldl (· ++ ·) b).toList = b.toList ++ repL a.toList n
  | 0, b => by rw [repL, List.append_nil]; rfl
  | n + 1, b => by rw [List.replicate_succ, List.foldl_cons, foldl_app a n, repL, Array.toList_append, List.append_assoc]
theorem rep_eq (i : Str) (n : Nat) : (⟨(List.replicate n i.cps).foldl (· ++ ·) #[]⟩ : Str) = repS i n := by
  apply TL.ext_tl
  show ((List.replicate n i.cps).foldl (· ++ ·) #[]).toList = (repL i.cps.toList n).toArray.toList
  rw [foldl_app]
  rfl
theorem repS_len (i : Str) (n : Nat) : (repS i n).length = n * i.length := by
  show (repL i.cps.toList n).toArray.size = _
  rw [List.size_toArray, repL_len]
  rfl
def rMulS : R2 := fun x y H Q => ∃ (i : Str) (n : Int), x = .str i ∧ y = .int n ∧ 0 ≤ n ∧ n ≤ 1000000 ∧ i.length * n.toNat ≤ 1000 ∧ Q (.str (repS i n.toNat)) H
theorem op_mulS {X : Cx} : OpR X (binaryOp .Mult) rMulS := by
  intro pins s σ H x y v u Q I rx ry h
  obtain ⟨i, n, rfl, rfl, h0, h1, h2, q⟩ := h
  obtain ⟨t, rfl⟩ := rx
  obtain ⟨t', rfl⟩ := ry
  refine P.mul_str (by rw [decide_eq_false (by omega), decide_eq_false (by omega)]; rfl) (fun a b => ?_) (fun a b => ?_) ?_
  · have z : ((i.length * n.toNat : Nat) : Int) ≤ 1000 := by omega
    rw [Int.natCast_mul, Int.toNat_of_nonneg h0] at z
    have := Int.le_ediv_of_mul_le (by omega : (0 : Int) < n) (by omega : (i.length : Int) * n ≤ 2 ^ 63 - 1)
    omega
  · show decide (_ > sizeLine) = false
    rw [sizeLine_eq]
    exact decide_eq_false (by omega)
  · split
    · have e : n = 0 := by omega
      subst e
      exact ⟨by decide, .str Str.empty, H, I.tok _, ⟨_, rfl⟩, q⟩
    · split
      · rename_i a b
        have e : repS i n.toNat = i := by
          rw [Bool.or_eq_true, beq_iff_eq, beq_iff_eq] at b
          apply TL.ext_tl
          show repL i.cps.toList n.toNat = i.cps.toList
          rcases b with b | b
          · subst b
            show i.cps.toList ++ [] = _
            rw [List.append_nil]
          · have hz : i.cps.toList = [] := List.eq_nil_of_length_eq_zero b
            have : (repL i.cps.toList n.toNat).length = 0 := by rw [repL_len, hz]; rfl
            rw [List.eq_nil_of_length_eq_zero this, hz]
        rw [e] at q
        exact ⟨.str i, H, I, ⟨_, rfl⟩, q⟩
      · rw [rep_eq]
        refine ⟨?_, .str (repS i n.toNat), H, I.tok _, ⟨_, rfl⟩, q⟩
        rw [repS_len, sizeLine_eq, Nat.mul_comm]
        omega
def dMulS : D → D → Option D
  | .str i, .int n => if 0 ≤ n ∧ n ≤ 1000000 ∧ i.length * n.toNat ≤ 1000 then some (.str (repS i n.toNat)) else none
  | _, _ => none
theorem ro_mulS {K : PySem.W.Frag} : RO K rMulS dMulS := by
  intro x y z hz v w C H Q e hv hw q
  unfold dMulS at hz
  split at hz
  · split at hz
    · rename_i h
      cases hz; cases hv; cases hw
      exact ⟨_, _, rfl, rfl, h.1, h.2.1, h.2.2, q.1 _ (.str _)⟩
    · cases hz
  · cases hz
end DL
end Part_DR

section Part_DS
set_option Elab.async false
set_option linter.all false
set_option maxRecDepth 100000
set_option autoImplicit false
set_option maxHeartbeats 2000000
namespace DL
open PySem PySem.Spec PyProof.Rows L2 Evl
/-! ### dict(pairs), d[k] -/
def dPairs : List D → Option (List Str × List D)
  | [] => some ([], [])
  | .tuple [.str k, v] :: r => (dPairs r).map fun p => (k :: p.1, v :: p.2)
  | _ => none
def dDict : List D → Option D
  | [.list ps] => (dPairs ps).bind fun p => if p.1.Nodup then some (.dict [(.list (p.1.map .str), .list p.2)]) else none
  | _ => none
theorem zipK_not {ks : List Str} {k : Str} : ∀ {vs : List V}, k ∉ ks → valV (zipK ks vs) (Sum.inr k) = none := by
  induction ks with
  | nil => intro vs _; cases vs <;> rfl
  | cons j ks ih =>
    intro vs h
    cases vs with
    | nil => rfl
    | cons v vs =>
      have h1 : ¬ (Sum.inr j : Key) = Sum.inr k := fun e => h (by cases e; exact List.mem_cons_self)
      show valV ((Sum.inr j, v) :: zipK ks vs) _ = _
      rw [valV_neg (p := (Sum.inr j, v)) h1]
      exact ih fun z => h (List.mem_cons_of_mem _ z)
theorem zipK_app : ∀ {ks js : List Str} {vs ws : List V}, ks.length = vs.length → zipK (ks ++ js) (vs ++ ws) = zipK ks vs ++ zipK js ws
  | [], js, [], ws, _ => rfl
  | k :: ks, js, v :: vs, ws, h => by
    show (Sum.inr k, v) :: zipK (ks ++ js) (vs ++ ws) = _
    rw [zipK_app (by simpa using h)]
    rfl
theorem merge_zip : ∀ {ks js : List Str} {vs ws : List V}, ks.length = vs.length → js.length = ws.length → (ks ++ js).Nodup → mergeK (zipK ks vs) (zipK js ws) = zipK (ks ++ js) (vs ++ ws)
  | ks, [], vs, [], h, _, _ => by
    rw [List.append_nil, List.append_nil]
    rfl
  | ks, j :: js, vs, w :: ws, h, h2, hn => by
    have hj : j ∉ ks := fun z => by
      rw [List.nodup_append] at hn
      exact hn.2.2 j z j List.mem_cons_self rfl
    show mergeK (putK (zipK ks vs) (Sum.inr j) w) (zipK js ws) = _
    rw [putK_new w (zipK_not hj)]
    have e : zipK ks vs ++ [(Sum.inr j, w)] = zipK (ks ++ [j]) (vs ++ [w]) := by rw [zipK_app h]; rfl
    rw [e, merge_zip (by simp [h]) (by simpa using h2) (by rw [List.append_assoc]; exact hn), List.append_assoc, List.append_assoc]
    rfl
theorem pairs_dq {K : PySem.W.Frag} {C : Hp} : ∀ (ps : List D) {us : List V} {ks : List Str} {ds : List D}, dPairs ps = some (ks, ds) → DqAll K C us ps →
    ∃ (as : List Addr) (vs : List V), us = as.map V.ref ∧ ks.length = vs.length ∧ DqAll K C vs ds ∧ Paired (fun p kv => SqT K C p [kV kv.1, kv.2]) as (zipK ks vs) := by
  intro ps
  induction ps with
  | nil =>
    intro us ks ds h hu
    cases h
    cases hu
    exact ⟨[], [], rfl, rfl, .nil, .nil⟩
  | cons d r ih =>
    intro us ks ds h hu
    unfold dPairs at h
    split at h
    · rename_i heq
      cases heq
    · rename_i k v r' heq
      cases heq
      cases q : dPairs r with
      | none => rw [q] at h; cases h
      | some p =>
        rw [q] at h
        cases h
        cases hu with
        | cons h1 h2 =>
          obtain ⟨as, vs, e1, e2, e3, e4⟩ := ih (ks := p.1) (ds := p.2) q h2
          subst e1
          cases h1 with
          | tup s n a =>
            cases a with
            | cons a1 a2 =>
              cases a2 with
              | cons a2 a3 =>
                cases a3
                cases a1
                exact ⟨_ :: as, _ :: vs, rfl, by simp [e2], .cons a2 e3, .cons s e4⟩
    · cases h
theorem paired_imp {α β : Type} {F G : α → β → Prop} (h : ∀ a b, F a b → G a b) : ∀ {l : List α} {m : List β}, Paired F l m → Paired G l m
  | _, _, .nil => .nil
  | _, _, .cons a t => .cons (h _ _ a) (paired_imp h t)
def rDictA (K : PySem.W.Frag) : List V → Hp → VK → Prop := fun xs H Q => ∃ (a : Addr) (ps : List Addr) (kvs : List (Key × V)), xs = [.ref a] ∧ SqL K H a (ps.map V.ref) ∧ Paired (fun p kv => SqT K H p [kV kv.1, kv.2]) ps kvs ∧
    ∀ p, H p = none → Q (.ref p) (upd H p (.dK (mergeK [] kvs)))
theorem rc_dict {K : PySem.W.Frag} : RCf K (rDictA K) dDict := by
  intro xs z hz vs C H Q e hv q
  unfold dDict at hz
  split at hz
  case h_2 => cases hz
  rename_i ps
  cases w : dPairs ps with
  | none => rw [w] at hz; cases hz
  | some p =>
    rw [w] at hz
    have hz : (if p.1.Nodup then some (PyData.dict [(.list (p.1.map .str), .list p.2)]) else none) = some z := hz
    split at hz
    · rename_i hn
      cases hz
      cases hv with
      | cons h t =>
        cases t
        cases h with
        | lst s a =>
          obtain ⟨as, ws, rfl, e2, e3, e4⟩ := pairs_dq ps (ks := p.1) (ds := p.2) w a
          refine ⟨_, as, zipK p.1 ws, rfl, ex_l e s, paired_imp (fun p kv z => ex_t e z) e4, fun b hb => ?_⟩
          have hm : mergeK [] (zipK p.1 ws) = zipK p.1 ws := merge_zip (ks := []) (vs := []) rfl e2 (by rw [List.nil_append]; exact hn)
          rw [hm]
          exact q.2 b _ hb (.dct upd_same rfl e2 (dpAll_ex (Ex.new (free_of e hb)) _ _ e3))
    · cases hz
theorem hu1 {k : Nat} {A : Around} (r : Room k A) : A.units + 1 < cLine := by have := r.un; omega
def lookD : List D → List D → Str → Option D
  | .str k :: ks, d :: ds, x => if k = x then some d else lookD ks ds x
  | _, _, _ => none
theorem look_val {K : PySem.W.Frag} {C : Hp} : ∀ {ks : List Str} {ds : List D} {vs : List V} {x : Str} {d : D}, lookD (ks.map .str) ds x = some d → DqAll K C vs ds → ∃ v, valV (zipK ks vs) (Sum.inr x) = some v ∧ Dq K C v d
  | [], ds, vs, x, d, h, _ => by cases ds <;> cases h
  | k :: ks, [], vs, x, d, h, _ => by cases h
  | k :: ks, d0 :: ds, vs, x, d, h, hv => by
    have h : (if k = x then some d0 else lookD (ks.map .str) ds x) = some d := h
    cases hv with
    | cons h1 h2 =>
      rename_i v vs
      show ∃ w, valV ((Sum.inr k, v) :: zipK ks vs) (Sum.inr x) = some w ∧ _
      by_cases e : k = x
      · rw [if_pos e] at h
        cases h
        exact ⟨v, valV_pos (p := (Sum.inr k, v)) (by rw [e]), h1⟩
      · rw [if_neg e] at h
        obtain ⟨w, h3, h4⟩ := look_val h h2
        exact ⟨w, by rw [valV_neg (p := (Sum.inr k, v)) (fun z => e (Sum.inr.inj z))]; exact h3, h4⟩
def dGet : D → D → Option D
  | .dict [(.list ks, .list ds)], .str x => lookD ks ds x
  | _, _ => none
section
variable {X : Cx} {EC : ECl} {W : WX} {a b : Expr} {ma mb : M D} {pos : Pos}
theorem de_dget (hu : X.A.units + 1 < cLine) (ha : DE X EC W a ma) (hb : DE X EC W b mb) (hs : NoSl b := by exact fun _ _ => rfl) : DE X EC W (.Subscript a b pos) (mOp dGet ma mb) := by
  obtain ⟨ta, pa, ra⟩ := ha.ex
  obtain ⟨tb, pb, rb⟩ := hb.ex
  refine ⟨_, pe_dget hu pa pb hs, fun C0 H0 B C H σ δ Q S h => ra C0 H0 B C H σ δ _ S (RP.imp (RP.bind h) (fun x δ1 h1 v C1 H1 e1 S1 d1 => ?_) fun c d δ h => h)⟩
  refine rb C0 H0 B C1 H1 σ δ1 _ S1 (RP.imp (RP.bind h1) (fun y δ2 h2 w C2 H2 e2 S2 d2 => ?_) (PXe.mono e1))
  obtain ⟨z, hz, q⟩ := RP.lift h2
  unfold dGet at hz
  split at hz
  case h_2 => cases hz
  have d1 := dp_ex e2 _ _ d1
  cases d2
  cases d1 with
  | dct g1 g2 g3 g4 =>
    subst g2
    obtain ⟨u, hu', du⟩ := look_val hz g4
    exact ⟨_, u, rfl, (show DGet H2 _ (kV (Sum.inr _)) (some u) from hu' ▸ DGet.k (S2.ch _ _ g1)), q u C2 H2 (e1.trans e2) S2 du⟩
end
end DL
end Part_DS

section Part_DTn
set_option Elab.async false
set_option linter.all false
set_option maxRecDepth 100000
set_option autoImplicit false
set_option maxHeartbeats 4000000
namespace DL
open PySem PySem.SeqAt
open PySem.AutoSeq1 (wpAny_loadPart')

/-! ### a < b for nested tuples: only the first place that differs is compared -/
/-- what the places of two tuples must tell, so that the one is less than the other (k) -/
def Ranks (A : Around) (s : Shared) (fin k : Bool) : List (Value × Value) → Prop
  | [] => k = fin
  | p :: r => ∃ e, EqAt A s p.1 p.2 e ∧ (e = true → Ranks A s fin k r) ∧ (e = false → RcLt A s p.1 p.2 k)
theorem tuple_ranks (a b : Addr) (us vs : Array Value) (n m : Nat) (d d' : Option Addr) (sl sl' : Array (Option Value)) (k : Bool) :
    Meets (Builtin.«tuple.__lt__» ⟨[.ref a, .ref b], []⟩) (fun A R s => s.heap.get? a = some ⟨.type "tuple", d, .seq us n, sl⟩ ∧ s.heap.get? b = some ⟨.type "tuple", d', .seq vs m, sl'⟩ ∧
      Ranks A.in1 s (decide (us.size < vs.size)) k (us.toList.zip vs.toList) ∧ R (.ok (.ret (.bool k))) s) :=
  .of_wp fun prog w A R s hyp => by
    obtain ⟨hp, g, dd, tk, os⟩ := s
    obtain ⟨la, lb, go, done⟩ := hyp
    have subT := AutoSeq1.sub_tuple_tuple
    wp_walk using wpAny_loadPart' la, wpAny_loadPart' lb, wpAny_forIn_list _ (fun left acc st => acc.1 = none ∧ st = ⟨hp, g, dd, tk, os⟩ ∧ Ranks A.in1 ⟨hp, g, dd, tk, os⟩ (decide (us.size < vs.size)) k left) _
    case turn =>
      rintro ⟨p, q⟩ left acc st ⟨_, rfl, e, eq, yes, no⟩
      refine wpAny_bind (eq prog w _ _ ?_)
      cases e with
      | true =>
        wp_walk
        exact ⟨rfl, rfl, yes rfl⟩
      | false =>
        have no := no rfl prog w
        wp_walk using no
        exact ⟨_, rfl, done⟩
    case fin =>
      rintro ⟨acc, acc2⟩ st ⟨none_, rfl, last⟩
      simp only at none_
      subst none_
      have last : k = decide (us.size < vs.size) := last
      subst last
      wp_walk
      exact ⟨_, rfl, by simpa [Builtin.Tuple.tupleCompareSizes] using done⟩
    case h => exact ⟨rfl, rfl, go⟩
theorem rc_ranks {A : Around} {s : Shared} {a b : Addr} {us vs : Array Value} {k : Bool} (ta : s.heap.IsTuple a us) (tb : s.heap.IsTuple b vs) (room : A.units < cLine) (go : Ranks A.in1 s (decide (us.size < vs.size)) k (us.toList.zip vs.toList)) : RcLt A s (.ref a) (.ref b) k := fun prog w E Q q => by
  obtain ⟨⟨c1, d1, t1, l1⟩, o1, e1, n1, f1⟩ := id ta
  obtain ⟨⟨c2, d2, t2, l2⟩, o2, e2, n2, f2⟩ := id tb
  simp only at e1 f1 e2 f2
  subst e1 f1 e2 f2
  exact richCompare_meets_room (op := .Lt) ⟨_, o1, rfl⟩ ⟨_, o2, rfl⟩ F.slot_tuple_lt F.entry_tuple_lt (F.args_tuple_lt_2 _ _) (tuple_ranks a b us vs n1 n2 d1 d2 l1 l2 k) ⟨o1, o2, go, (show Value.bool k ≠ Value.notImplemented ∧ Q (.bool k) s from ⟨(fun x => nomatch x), q⟩)⟩ room
/-! the data that can be compared so -/
mutual
def ltD : PyData → PyData → Option Bool
  | .bool x, .bool y => some (!x && y)
  | .int x, .int y => some (decide (x < y))
  | .str x, .str y => some (decide (x.cps.toList < y.cps.toList))
  | .tuple xs, .tuple ys => ltAll xs ys
  | _, _ => none
def ltAll : List PyData → List PyData → Option Bool
  | x :: xs, y :: ys => if PyData.eqv x y then ltAll xs ys else ltD x y
  | xs, ys => some (decide (xs.length < ys.length))
end
theorem lay_cons {x : PyData} {xs : List PyData} (h : PyData.canLayAll0 (x :: xs) = true) : x.canLay0 = true ∧ PyData.canLayAll0 xs = true := by
  have h : (x.canLay0 && PyData.canLayAll0 xs) = true := h
  rw [Bool.and_eq_true] at h
  exact h
mutual
theorem rc_ltD : ∀ (x y : PyData) (A : Around) (s : Shared) (a b : Value) (as bs : List Addr) (k : Bool), Reads s.heap a x as → Reads s.heap b y bs → x.canLay0 = true → y.canLay0 = true → ltD x y = some k → A.units + min x.depth y.depth < cLine → RcLt A s a b k
  | .bool x, .bool y, A, s, a, b, as, bs, k, ra, rb, _, _, h, _ => by
    cases ra; cases rb; cases h
    exact fun prog w E Q q => PyProof.Rows.lt_bool (by cases x <;> cases y <;> exact q)
  | .int x, .int y, A, s, a, b, as, bs, k, ra, rb, _, _, h, _ => by
    cases ra; cases rb; cases h
    exact fun prog w E Q q => P.lt_int q
  | .str x, .str y, A, s, a, b, as, bs, k, ra, rb, _, _, h, _ => by
    cases ra; cases rb; cases h
    exact fun prog w E Q q => P.lt_str q
  | .tuple xs, .tuple ys, A, s, a, b, as, bs, k, ra, rb, la, lb, h, hu => by
    have la : PyData.canLayAll0 xs = true := la
    have lb : PyData.canLayAll0 ys = true := lb
    rw [ltD] at h
    cases ra with
    | tuple h1 h2 h3 h4 =>
      cases rb with
      | tuple k1 k2 k3 k4 =>
        have hu : A.units + min (PyData.depthAll xs + 1) (PyData.depthAll ys + 1) < cLine := hu
        have l1 := ReadsAll.length _ _ _ h4
        have l2 := ReadsAll.length _ _ _ k4
        refine rc_ranks ⟨_, h1, h2, _, h3⟩ ⟨_, k1, k2, _, k3⟩ (by omega) ?_
        have := rc_ltAll xs ys A.in1 s _ _ _ _ k h4 k4 la lb h (by show A.units + 1 + _ < cLine; omega)
        rw [← l1, ← l2] at this
        exact this
  | .none, y, _, _, _, _, _, _, _, _, _, _, _, h, _ => by cases y <;> cases h
  | .list _, y, _, _, _, _, _, _, _, _, _, _, _, h, _ => by cases y <;> cases h
  | .dict _, y, _, _, _, _, _, _, _, _, _, _, _, h, _ => by cases y <;> cases h
  | .bool _, .none, _, _, _, _, _, _, _, _, _, _, _, h, _ => by cases h
  | .bool _, .int _, _, _, _, _, _, _, _, _, _, _, _, h, _ => by cases h
  | .bool _, .str _, _, _, _, _, _, _, _, _, _, _, _, h, _ => by cases h
  | .bool _, .list _, _, _, _, _, _, _, _, _, _, _, _, h, _ => by cases h
  | .bool _, .tuple _, _, _, _, _, _, _, _, _, _, _, _, h, _ => by cases h
  | .bool _, .dict _, _, _, _, _, _, _, _, _, _, _, _, h, _ => by cases h
  | .int _, .none, _, _, _, _, _, _, _, _, _, _, _, h, _ => by cases h
  | .int _, .bool _, _, _, _, _, _, _, _, _, _, _, _, h, _ => by cases h
  | .int _, .str _, _, _, _, _, _, _, _, _, _, _, _, h, _ => by cases h
  | .int _, .list _, _, _, _, _, _, _, _, _, _, _, _, h, _ => by cases h
  | .int _, .tuple _, _, _, _, _, _, _, _, _, _, _, _, h, _ => by cases h
  | .int _, .dict _, _, _, _, _, _, _, _, _, _, _, _, h, _ => by cases h
  | .str _, .none, _, _, _, _, _, _, _, _, _, _, _, h, _ => by cases h
  | .str _, .bool _, _, _, _, _, _, _, _, _, _, _, _, h, _ => by cases h
  | .str _, .int _, _, _, _, _, _, _, _, _, _, _, _, h, _ => by cases h
  | .str _, .list _, _, _, _, _, _, _, _, _, _, _, _, h, _ => by cases h
  | .str _, .tuple _, _, _, _, _, _, _, _, _, _, _, _, h, _ => by cases h
  | .str _, .dict _, _, _, _, _, _, _, _, _, _, _, _, h, _ => by cases h
  | .tuple _, .none, _, _, _, _, _, _, _, _, _, _, _, h, _ => by cases h
  | .tuple _, .bool _, _, _, _, _, _, _, _, _, _, _, _, h, _ => by cases h
  | .tuple _, .int _, _, _, _, _, _, _, _, _, _, _, _, h, _ => by cases h
  | .tuple _, .str _, _, _, _, _, _, _, _, _, _, _, _, h, _ => by cases h
  | .tuple _, .list _, _, _, _, _, _, _, _, _, _, _, _, h, _ => by cases h
  | .tuple _, .dict _, _, _, _, _, _, _, _, _, _, _, _, h, _ => by cases h
theorem rc_ltAll : ∀ (xs ys : List PyData) (A : Around) (s : Shared) (vs ws : List Value) (as bs : List Addr) (k : Bool), ReadsAll s.heap vs xs as → ReadsAll s.heap ws ys bs → PyData.canLayAll0 xs = true → PyData.canLayAll0 ys = true → ltAll xs ys = some k →
    A.units + min (PyData.depthAll xs) (PyData.depthAll ys) < cLine → Ranks A s (decide (xs.length < ys.length)) k (vs.zip ws)
  | x :: xs, y :: ys, A, s, _, _, _, _, k, ra, rb, la, lb, h, hu => by
    obtain ⟨la1, la2⟩ := lay_cons la
    obtain ⟨lb1, lb2⟩ := lay_cons lb
    have h : (if PyData.eqv x y then ltAll xs ys else ltD x y) = some k := h
    have hu : A.units + min (max x.depth (PyData.depthAll xs)) (max y.depth (PyData.depthAll ys)) < cLine := hu
    cases ra with
    | cons r rs =>
      cases rb with
      | cons r' rs' =>
        refine ⟨PyData.eqv x y, eqAt_reads x y A s _ _ _ _ r r' la1 lb1 (by omega), fun e => ?_, fun e => ?_⟩
        · rw [if_pos e] at h
          have := rc_ltAll xs ys A s _ _ _ _ k rs rs' la2 lb2 h (by omega)
          have ed : decide ((x :: xs).length < (y :: ys).length) = decide (xs.length < ys.length) := by simp
          rw [ed]
          exact this
        · rw [if_neg (by rw [e]; exact Bool.false_ne_true)] at h
          exact rc_ltD x y A s _ _ _ _ k r r' la1 lb1 h (by omega)
  | [], ys, A, s, vs, ws, _, _, k, ra, rb, _, _, h, _ => by
    cases ra
    unfold ltAll at h
    cases h
    rfl
  | _ :: _, [], A, s, vs, ws, _, _, k, ra, rb, _, _, h, _ => by
    cases rb
    unfold ltAll at h
    cases h
    rw [List.zip_nil_right]
    rfl
end
end DL
end Part_DTn

section Part_DTk
set_option Elab.async false
set_option linter.all false
set_option maxRecDepth 100000
set_option autoImplicit false
set_option maxHeartbeats 2000000
namespace DL
open PySem PySem.Spec PyProof.Rows L2 Evl
/-! ### a < b, nested tuples -/
def dLtN (x y : D) : Option D := if SeqAt.shaped x && SeqAt.shaped y then (ltD x y).map .bool else none
def rLtN (K : PySem.W.Frag) : R2 := fun x y H Q => ∃ d e k, Dp K H x d ∧ Dp K H y e ∧ SeqAt.shaped d = true ∧ SeqAt.shaped e = true ∧ ltD d e = some k ∧ Q (.bl k) H
theorem sh_dep {d : D} (h : SeqAt.shaped d = true) : d.depth ≤ 64 := by
  have h : (d.canLay0 && decide (d.depth ≤ 64)) = true := h
  rw [Bool.and_eq_true] at h
  exact of_decide_eq_true h.2
theorem op_ltN {X : Cx} (hu : X.A.units + 64 < cLine) : OpR X (compareOp .Lt) (rLtN X.K) := by
  intro pins s σ H x y v u Q I rx ry h
  obtain ⟨d, e, k, hd, he, sd, se, hk, q⟩ := h
  obtain ⟨as, r1⟩ := Dp.reads I d x v hd rx
  obtain ⟨bs, r2⟩ := Dp.reads I e y u he ry
  have z1 := sh_dep sd
  have z2 := sh_dep se
  exact rc_ltD d e X.A s v u as bs k r1 r2 (SeqAt.canLay_of_shaped sd) (SeqAt.canLay_of_shaped se) hk (by omega) X.prog X.w _ _ ⟨.bl k, H, I, rfl, q⟩
theorem ro_ltN {K : PySem.W.Frag} : RO K (rLtN K) dLtN := by
  intro x y z hz v w C H Q e hv hw q
  unfold dLtN at hz
  split at hz
  · rename_i h
    rw [Bool.and_eq_true] at h
    cases hk : ltD x y with
    | none => rw [hk] at hz; cases hz
    | some k =>
      rw [hk] at hz
      cases hz
      exact ⟨x, y, k, dq_dp _ _ (SeqAt.canLay_of_shaped h.1) (dp_ex e _ _ hv), dq_dp _ _ (SeqAt.canLay_of_shaped h.2) (dp_ex e _ _ hw), h.1, h.2, hk, q.1 _ (.bl _)⟩
  · cases hz
theorem hu64 {k : Nat} {A : Around} (r : Room k A) : A.units + 64 < cLine := by have := r.units; omega
/-! ### tuples with starred parts -/
structure DAS (X : Cx) (EC : ECl) (W : WX) (es : List Expr) (m : M (List D)) : Prop where
  ex : ∃ te, PA X es te ∧ ∀ C0 H0 B C H σ δ Q, SR X.K C0 H0 B C H σ δ → RP (m δ) (PKa X.K C0 H0 B C σ Q) (PXe X.K EC W C0 H0 B C σ) → te σ H Q
section
variable {X : Cx} {EC : ECl} {W : WX} {a e f : Expr} {es : List Expr} {ma me mf : M D} {mes : M (List D)} {pos p p2 px sp_ apos cpos : Pos} {x : Str}
theorem DA.s (h : DA X EC W es mes) : DAS X EC W es mes := ⟨h.ex⟩
theorem das_cons (ha : DE X EC W e me) (hr : DAS X EC W es mes) (hs : starEach (e :: es) X.env = (false, eval e X.env) :: starEach es X.env := by rfl) : DAS X EC W (e :: es) (mCons me mes) := by
  obtain ⟨ta, pa, ra⟩ := ha.ex
  obtain ⟨tb, pb, rb⟩ := hr.ex
  refine ⟨_, pa_cons pa pb hs, fun C0 H0 B C H σ δ Q S h => ra C0 H0 B C H σ δ _ S (RP.imp (RP.bind h) (fun x δ1 h1 v C1 H1 e1 S1 d1 => ?_) fun c d δ h => h)⟩
  refine rb C0 H0 B C1 H1 σ δ1 _ S1 (RP.imp (RP.bind h1) (fun ys δ2 h2 ws C2 H2 e2 S2 d2 => ?_) (PXe.mono e1))
  exact h2 (v :: ws) C2 H2 (e1.trans e2) S2 (.cons (dp_ex e2 _ _ d1) d2)
def mStar (ma : M D) (mes : M (List D)) : M (List D) := fun δ => (ma δ).bind fun x δ => match seqD x with
  | some xs => (mes δ).bind fun ys δ => .ok (xs ++ ys) δ
  | none => .no
theorem das_star (ha : DE X EC W a ma) (hr : DAS X EC W es mes) (hs : starEach (.Starred a sp_ :: es) X.env = (true, eval a X.env) :: starEach es X.env := by rfl) : DAS X EC W (.Starred a sp_ :: es) (mStar ma mes) := by
  obtain ⟨ta, pa, ra⟩ := ha.ex
  obtain ⟨tb, pb, rb⟩ := hr.ex
  refine ⟨_, StX.pa_star pa pb hs, fun C0 H0 B C H σ δ Q S h => ra C0 H0 B C H σ δ _ S (RP.imp (RP.bind h) (fun x δ1 h1 v C1 H1 e1 S1 d1 => ?_) fun c d δ h => h)⟩
  split at h1
  case h_2 => exact h1.elim
  rename_i xs q
  obtain ⟨l, vs, ev, sq, av⟩ := seq_dq d1 q
  refine ⟨l, vs, ev, sq_ex S1.ch sq, rb C0 H0 B C1 H1 σ δ1 _ S1 (RP.imp (RP.bind h1) (fun ys δ2 h2 ws C2 H2 e2 S2 d2 => ?_) (PXe.mono e1))⟩
  exact h2 (vs ++ ws) C2 H2 (e1.trans e2) S2 (dpa_app (dpAll_ex e2 _ _ av) d2)
theorem de_tupS {x1} (ha : DAS X EC W es mes) : DE X EC W (.Tuple es x1 pos) (mCall dTup mes) := by
  obtain ⟨ta, pa, ra⟩ := ha.ex
  refine ⟨_, pe_tupF pa, fun C0 H0 B C H σ δ Q S h => ra C0 H0 B C H σ δ _ S (RP.imp (RP.bind h) (fun xs δ1 h1 vs C1 H1 e1 S1 d1 => ?_) fun c d δ h => h)⟩
  obtain ⟨z, hz, q⟩ := RP.lift h1
  unfold dTup at hz
  split at hz
  · rename_i hl
    cases hz
    exact ⟨by rw [dpa_len d1, line_eq]; exact hl, fun p o hp ho => (rs_of S1 (PKe.mono e1 _ _ q)).2 p _ hp (.tup sqt_new (.new ho) (dpAll_ex (Ex.new (free_of S1.ch hp)) _ _ d1))⟩
  · cases hz
/-! ### DICT.get(k, x), a written dict with texts as keys -/
def tKGet (K : PySem.W.Frag) (d : Addr) (ty tx : TE) : TE := fun σ H Q => ty σ H fun y H1 => tx σ H1 fun z H2 => ∃ (k : Str) (r : Option Value), y = .str k ∧ PySem.W.nsIn K d k = some r ∧ (r = none → Q z H2) ∧ ∀ u, r = some u → ∃ v, RelV v u ∧ Q v H2
theorem pe_kget {es : Array DictEntry} {n : Nat} {d : Addr} {ty tx : TE} (D : KDict X.K X.w d es n) (ho : PE X a (tC (.ref d))) (he : PE X e ty) (hf : PE X f tx) (m : M2 X a "get" apos e f cpos) : PE X (.Call (.Attribute a "get" apos) [e, f] [] cpos) (tKGet X.K d ty tx) := by
  refine ⟨fun pins s σ H Q I h => ?_⟩
  refine wpAny_Call_method m.base m.few m.line PySem.F.plainAttrs_dict PySem.F.slot_dict_get PySem.F.type_dict_get (thn (ho.run pins s σ H (fun x H' => x = .ref d ∧ H' = H) I ⟨rfl, rfl⟩) fun u s1 ⟨x, H1, I1, rx, ex, eH⟩ => ?_)
  subst ex eH
  obtain rfl : u = Value.ref d := rx
  refine ⟨kd_type D I1, fun b q => ?_, ?_⟩
  · cases q
    exact ⟨_, I1.kIn _ _ D.at_, rfl⟩
  rw [m.trees]
  refine Calls.callWith_builtin rfl (Calls.evalArgs_plain (Calls.spliced_cons (thn (he.run pins s1 σ H1 _ I1 h) fun iv s2 ⟨y, H2, I2, ry, q2⟩ =>
    Calls.spliced_cons (thn (hf.run pins s2 σ H2 _ I2 q2) fun fv s3 ⟨z, H3, I3, rz, k, r, ey, hk, q3, q4⟩ => Calls.spliced_nil ?_))))
  subst ey
  obtain ⟨t, rfl⟩ := ry
  have hm := PySem.W.mapOf_K (prog := X.prog) I3.kIn D.at_ D.lit
  refine call_meetsIn PySem.F.slot_dict_get (kd_type D I3) PySem.F.entry_dict_get (PySem.F.args_dict_get_3 _ _ _) (meets_dict_get_default (strKind X.prog X.w) d (strKind_is X.prog X.w k t) D.low fv) ⟨_, hm, ?_⟩
  have hf := PySem.W.find_K D.at_ hk
  rw [hf]
  cases r with
  | none => exact ⟨z, H3, I3.tok _, rz, q3 rfl⟩
  | some u =>
    obtain ⟨v, rv, q5⟩ := q4 u rfl
    exact ⟨v, H3, I3.tok _, rv, q5⟩
def mKGet (t : List (Str × D)) (me mf : M D) : M D := fun δ => (me δ).bind fun y δ => (mf δ).bind fun z δ => match y with
  | .str k => .ok ((getT t k).getD z) δ
  | _ => .no
theorem de_kget {td : List (Str × D)} (T : TabX X.K X.w X.mg x (Says X.K) td) (he : DE X EC W e me) (hf : DE X EC W f mf) (m : M2 X (.Name x p) "get" apos e f cpos := by exact ⟨rfl, rfl, rfl, rfl⟩) (hg : Gl X x := by rfl) (hdb : (x == ("__debug__" : Str)) = false := by decide) :
    DE X EC W (.Call (.Attribute (.Name x p) "get" apos) [e, f] [] cpos) (mKGet td me mf) := by
  obtain ⟨te, pe, re⟩ := he.ex
  obtain ⟨tf, pf, rf⟩ := hf.ex
  obtain ⟨ad, es, n, hm, D, TT⟩ := T.ex
  refine ⟨_, pe_kget D (pe_glob (v := .ref ad) hg hm rfl hdb) pe pf m, fun C0 H0 B C H σ δ Q S h => re C0 H0 B C H σ δ _ S (RP.imp (RP.bind h) (fun y δ1 h1 v C1 H1 e1 S1 d1 => ?_) fun c d δ h => h)⟩
  refine rf C0 H0 B C1 H1 σ δ1 _ S1 (RP.imp (RP.bind h1) (fun z δ2 h2 w C2 H2 e2 S2 d2 => ?_) (PXe.mono e1))
  split at h2
  case h_2 => exact h2.elim
  rename_i k
  cases d1
  rcases tab_ns D TT k with ⟨u, d, g1, g2, v', r', g3⟩ | ⟨g1, g2⟩
  · rw [g2] at h2
    refine ⟨k, _, rfl, g1, fun q => (nomatch q), fun u' q => ?_⟩
    cases q
    exact ⟨v', r', h2 v' C2 H2 (e1.trans e2) S2 (g3 C2)⟩
  · rw [g2] at h2
    exact ⟨k, _, rfl, g1, fun _ => h2 w C2 H2 (e1.trans e2) S2 d2, fun u' q => (nomatch q)⟩
end
end DL
end Part_DTk

section Part_K19d
set_option Elab.async false
set_option linter.all false
set_option maxRecDepth 100000
set_option autoImplicit false
set_option maxHeartbeats 2000000
namespace K19
open PySem PySem.Spec PyProof.Rows L2 DL
def top (i : Nat) : Stmt := PySem.Challenge.pw_leastfit_k19_rules_of_simplifying.main.body.getD i (.Pass ⟨0, 0, 0, 0⟩)
def W00 : WX := fun _ _ _ _ => False
abbrev EC0 (C : Addr) : ECl := fun _ => (C, "")
abbrev s__law_library : Stmt := top 25
abbrev N__law_library : List Str := ["rows", "row"]
theorem sc__law_library : FnScope N__law_library [] (defScope s__law_library) := ⟨rfl, rfl, rfl, by decide +kernel, rfl, by decide +kernel, by decide +kernel⟩
abbrev s__law_number : Stmt := top 27
abbrev N__law_number : List Str := ["cell", "kind"]
theorem sc__law_number : FnScope N__law_number ["cell"] (defScope s__law_number) := ⟨rfl, rfl, rfl, by decide +kernel, rfl, by decide +kernel, by decide +kernel⟩
abbrev s__law_draws : Stmt := top 24
abbrev N__law_draws : List Str := ["cell", "many", "limit", "draws", "rest", "k", "mixed"]
theorem sc__law_draws : FnScope N__law_draws ["cell", "many", "limit"] (defScope s__law_draws) := ⟨rfl, rfl, rfl, by decide +kernel, rfl, by decide +kernel, by decide +kernel⟩
abbrev s__law_value : Stmt := top 28
abbrev N__law_value : List Str := ["letter", "cell", "size", "k"]
theorem sc__law_value : FnScope N__law_value ["letter", "cell"] (defScope s__law_value) := ⟨rfl, rfl, rfl, by decide +kernel, rfl, by decide +kernel, by decide +kernel⟩
abbrev s__law_take : Stmt := top 29
abbrev N__law_take : List Str := ["numbers", "limit"]
theorem sc__law_take : FnScope N__law_take ["numbers", "limit"] (defScope s__law_take) := ⟨rfl, rfl, rfl, by decide +kernel, rfl, by decide +kernel, by decide +kernel⟩
abbrev s__law_leaf : Stmt := top 30
abbrev N__law_leaf : List Str := ["numbers", "letter", "kinds", "inputs", "k"]
theorem sc__law_leaf : FnScope N__law_leaf ["numbers", "letter", "kinds"] (defScope s__law_leaf) := ⟨rfl, rfl, rfl, by decide +kernel, rfl, by decide +kernel, by decide +kernel⟩
abbrev s__law_program : Stmt := top 31
abbrev N__law_program : List Str := ["numbers", "letter", "kinds", "depth", "library", "rows", "row", "one"]
theorem sc__law_program : FnScope N__law_program ["numbers", "letter", "kinds", "depth", "library"] (defScope s__law_program) := ⟨rfl, rfl, rfl, by decide +kernel, rfl, by decide +kernel, by decide +kernel⟩
abbrev s__law_cell : Stmt := top 23
abbrev N__law_cell : List Str := ["script", "k"]
theorem sc__law_cell : FnScope N__law_cell ["script", "k"] (defScope s__law_cell) := ⟨rfl, rfl, rfl, by decide +kernel, rfl, by decide +kernel, by decide +kernel⟩
abbrev s_is_leaf : Stmt := top 9
abbrev N_is_leaf : List Str := ["part"]
theorem sc_is_leaf : FnScope N_is_leaf ["part"] (defScope s_is_leaf) := ⟨rfl, rfl, rfl, by decide +kernel, rfl, by decide +kernel, by decide +kernel⟩
abbrev s__changed_unary : Stmt := top 18
abbrev N__changed_unary : List Str := ["name", "argument"]
theorem sc__changed_unary : FnScope N__changed_unary ["name", "argument"] (defScope s__changed_unary) := ⟨rfl, rfl, rfl, by decide +kernel, rfl, by decide +kernel, by decide +kernel⟩
abbrev s_is_component : Stmt := top 6
abbrev N_is_component : List Str := ["name"]
theorem sc_is_component : FnScope N_is_component ["name"] (defScope s_is_component) := ⟨rfl, rfl, rfl, by decide +kernel, rfl, by decide +kernel, by decide +kernel⟩
abbrev s_is_commutative : Stmt := top 7
abbrev N_is_commutative : List Str := ["name"]
theorem sc_is_commutative : FnScope N_is_commutative ["name"] (defScope s_is_commutative) := ⟨rfl, rfl, rfl, by decide +kernel, rfl, by decide +kernel, by decide +kernel⟩
abbrev s__place_of_kind : Stmt := top 21
abbrev N__place_of_kind : List Str := ["value"]
theorem sc__place_of_kind : FnScope N__place_of_kind ["value"] (defScope s__place_of_kind) := ⟨rfl, rfl, rfl, by decide +kernel, rfl, by decide +kernel, by decide +kernel⟩
abbrev s__place : Stmt := top 20
abbrev N__place : List Str := ["program", "argument"]
theorem sc__place : FnScope N__place ["program"] (defScope s__place) := ⟨rfl, rfl, rfl, by decide +kernel, rfl, by decide +kernel, by decide +kernel⟩
abbrev s_precedes : Stmt := top 16
abbrev N_precedes : List Str := ["first", "second"]
theorem sc_precedes : FnScope N_precedes ["first", "second"] (defScope s_precedes) := ⟨rfl, rfl, rfl, by decide +kernel, rfl, by decide +kernel, by decide +kernel⟩
abbrev s__changed_binary : Stmt := top 19
abbrev N__changed_binary : List Str := ["name", "first", "second", "index", "value"]
theorem sc__changed_binary : FnScope N__changed_binary ["name", "first", "second"] (defScope s__changed_binary) := ⟨rfl, rfl, rfl, by decide +kernel, rfl, by decide +kernel, by decide +kernel⟩
abbrev s__changed : Stmt := top 17
abbrev N__changed : List Str := ["part"]
theorem sc__changed : FnScope N__changed ["part"] (defScope s__changed) := ⟨rfl, rfl, rfl, by decide +kernel, rfl, by decide +kernel, by decide +kernel⟩
abbrev s_simplify : Stmt := top 15
abbrev N_simplify : List Str := ["program", "part", "changed", "argument"]
theorem sc_simplify : FnScope N_simplify ["program"] (defScope s_simplify) := ⟨rfl, rfl, rfl, by decide +kernel, rfl, by decide +kernel, by decide +kernel⟩
abbrev s__law_symbol : Stmt := top 34
abbrev N__law_symbol : List Str := ["part"]
theorem sc__law_symbol : FnScope N__law_symbol ["part"] (defScope s__law_symbol) := ⟨rfl, rfl, rfl, by decide +kernel, rfl, by decide +kernel, by decide +kernel⟩
abbrev s__law_parts : Stmt := top 32
abbrev N__law_parts : List Str := ["program", "found", "k"]
theorem sc__law_parts : FnScope N__law_parts ["program"] (defScope s__law_parts) := ⟨rfl, rfl, rfl, by decide +kernel, rfl, by decide +kernel, by decide +kernel⟩
abbrev s__law_precedes : Stmt := top 35
abbrev N__law_precedes : List Str := ["first", "second", "one", "two", "k", "part"]
theorem sc__law_precedes : FnScope N__law_precedes ["first", "second"] (defScope s__law_precedes) := ⟨rfl, rfl, rfl, by decide +kernel, rfl, by decide +kernel, by decide +kernel⟩
abbrev s__law_one_rule : Stmt := top 36
abbrev N__law_one_rule : List Str := ["program", "pair", "peeled", "swapped", "left", "row", "right"]
theorem sc__law_one_rule : FnScope N__law_one_rule ["program"] (defScope s__law_one_rule) := ⟨rfl, rfl, rfl, by decide +kernel, rfl, by decide +kernel, by decide +kernel⟩
abbrev s__law_simplified : Stmt := top 37
abbrev N__law_simplified : List Str := ["program", "present", "k", "other"]
theorem sc__law_simplified : FnScope N__law_simplified ["program"] (defScope s__law_simplified) := ⟨rfl, rfl, rfl, by decide +kernel, rfl, by decide +kernel, by decide +kernel⟩
abbrev s__law_wrapped : Stmt := top 33
abbrev N__law_wrapped : List Str := ["program", "letter", "number", "unary", "at", "neutral", "one", "names", "row", "name"]
theorem sc__law_wrapped : FnScope N__law_wrapped ["program", "letter", "number"] (defScope s__law_wrapped) := ⟨rfl, rfl, rfl, by decide +kernel, rfl, by decide +kernel, by decide +kernel⟩
abbrev s_law : Stmt := top 38
abbrev N_law : List Str := ["script", "first", "letters", "numbers", "letter", "library", "depth", "program", "k", "other", "pair", "actual", "cell"]
theorem sc_law : FnScope N_law ["script"] (defScope s_law) := ⟨rfl, rfl, rfl, by decide +kernel, rfl, by decide +kernel, by decide +kernel⟩
abbrev c_COMMUTATIVE : D := (.tuple [(.str "add"), (.str "both"), (.str "either"), (.str "equal"), (.str "max"), (.str "min"), (.str "mul"), (.str "same_list"), (.str "same_text"), (.str "zip_add")])
abbrev c_IDEMPOTENT : D := (.tuple [(.str "max"), (.str "min"), (.str "both"), (.str "either")])
abbrev c_SELF_INVERSE : D := (.tuple [(.str "neg"), (.str "negate"), (.str "reverse"), (.str "reverse_text")])
def d_NEUTRAL : List (Str × D) := ("add", (PyData.tuple [(PyData.tuple [(.int 0), (.int 0)])])) :: ("mul", (PyData.tuple [(PyData.tuple [(.int 0), (.int 1)])])) :: ("sub", (PyData.tuple [(PyData.tuple [(.int 1), (.int 0)])])) :: ("divide", (PyData.tuple [(PyData.tuple [(.int 1), (.int 1)])])) :: ("concat", (PyData.tuple [(PyData.tuple [(.int 0), (PyData.str "")]), (PyData.tuple [(.int 1), (PyData.str "")])])) :: ("join", (PyData.tuple [(PyData.tuple [(.int 0), (PyData.tuple [])]), (PyData.tuple [(.int 1), (PyData.tuple [])])])) :: ("drop", (PyData.tuple [(PyData.tuple [(.int 1), (.int 0)])])) :: ("skip", (PyData.tuple [(PyData.tuple [(.int 1), (.int 0)])])) :: ("add_each", (PyData.tuple [(PyData.tuple [(.int 1), (.int 0)])])) :: ("both", (PyData.tuple [(PyData.tuple [(.int 0), (.bool true)])])) :: ("either", (PyData.tuple [(PyData.tuple [(.int 0), (.bool false)])])) :: []
def d_SIGNATURES : List (Str × D) := ("abs", (PyData.tuple [(PyData.tuple [(PyData.str "number")]), (PyData.str "number")])) :: ("add", (PyData.tuple [(PyData.tuple [(PyData.str "number"), (PyData.str "number")]), (PyData.str "number")])) :: ("add_each", (PyData.tuple [(PyData.tuple [(PyData.str "list"), (PyData.str "number")]), (PyData.str "list")])) :: ("append", (PyData.tuple [(PyData.tuple [(PyData.str "list"), (PyData.str "number")]), (PyData.str "list")])) :: ("at", (PyData.tuple [(PyData.tuple [(PyData.str "list"), (PyData.str "number")]), (PyData.str "number")])) :: ("both", (PyData.tuple [(PyData.tuple [(PyData.str "truth"), (PyData.str "truth")]), (PyData.str "truth")])) :: ("choose_list", (PyData.tuple [(PyData.tuple [(PyData.str "truth"), (PyData.str "list"), (PyData.str "list")]), (PyData.str "list")])) :: ("choose_number", (PyData.tuple [(PyData.tuple [(PyData.str "truth"), (PyData.str "number"), (PyData.str "number")]), (PyData.str "number")])) :: ("choose_text", (PyData.tuple [(PyData.tuple [(PyData.str "truth"), (PyData.str "text"), (PyData.str "text")]), (PyData.str "text")])) :: ("concat", (PyData.tuple [(PyData.tuple [(PyData.str "text"), (PyData.str "text")]), (PyData.str "text")])) :: ("contains", (PyData.tuple [(PyData.tuple [(PyData.str "text"), (PyData.str "text")]), (PyData.str "truth")])) :: ("count_of", (PyData.tuple [(PyData.tuple [(PyData.str "list"), (PyData.str "number")]), (PyData.str "number")])) :: ("distinct", (PyData.tuple [(PyData.tuple [(PyData.str "list")]), (PyData.str "list")])) :: ("divide", (PyData.tuple [(PyData.tuple [(PyData.str "number"), (PyData.str "number")]), (PyData.str "number")])) :: ("double", (PyData.tuple [(PyData.tuple [(PyData.str "number")]), (PyData.str "number")])) :: ("drop", (PyData.tuple [(PyData.tuple [(PyData.str "list"), (PyData.str "number")]), (PyData.str "list")])) :: ("either", (PyData.tuple [(PyData.tuple [(PyData.str "truth"), (PyData.str "truth")]), (PyData.str "truth")])) :: ("equal", (PyData.tuple [(PyData.tuple [(PyData.str "number"), (PyData.str "number")]), (PyData.str "truth")])) :: ("first", (PyData.tuple [(PyData.tuple [(PyData.str "list")]), (PyData.str "number")])) :: ("greatest", (PyData.tuple [(PyData.tuple [(PyData.str "list")]), (PyData.str "number")])) :: ("half", (PyData.tuple [(PyData.tuple [(PyData.str "number")]), (PyData.str "number")])) :: ("is_empty", (PyData.tuple [(PyData.tuple [(PyData.str "list")]), (PyData.str "truth")])) :: ("is_even", (PyData.tuple [(PyData.tuple [(PyData.str "number")]), (PyData.str "truth")])) :: ("join", (PyData.tuple [(PyData.tuple [(PyData.str "list"), (PyData.str "list")]), (PyData.str "list")])) :: ("keep_above", (PyData.tuple [(PyData.tuple [(PyData.str "list"), (PyData.str "number")]), (PyData.str "list")])) :: ("keep_even", (PyData.tuple [(PyData.tuple [(PyData.str "list")]), (PyData.str "list")])) :: ("last", (PyData.tuple [(PyData.tuple [(PyData.str "list")]), (PyData.str "number")])) :: ("least", (PyData.tuple [(PyData.tuple [(PyData.str "list")]), (PyData.str "number")])) :: ("length", (PyData.tuple [(PyData.tuple [(PyData.str "text")]), (PyData.str "number")])) :: ("less", (PyData.tuple [(PyData.tuple [(PyData.str "number"), (PyData.str "number")]), (PyData.str "truth")])) :: ("max", (PyData.tuple [(PyData.tuple [(PyData.str "number"), (PyData.str "number")]), (PyData.str "number")])) :: ("min", (PyData.tuple [(PyData.tuple [(PyData.str "number"), (PyData.str "number")]), (PyData.str "number")])) :: ("mod", (PyData.tuple [(PyData.tuple [(PyData.str "number"), (PyData.str "number")]), (PyData.str "number")])) :: ("mul", (PyData.tuple [(PyData.tuple [(PyData.str "number"), (PyData.str "number")]), (PyData.str "number")])) :: ("neg", (PyData.tuple [(PyData.tuple [(PyData.str "number")]), (PyData.str "number")])) :: ("negate", (PyData.tuple [(PyData.tuple [(PyData.str "truth")]), (PyData.str "truth")])) :: ("number_text", (PyData.tuple [(PyData.tuple [(PyData.str "number")]), (PyData.str "text")])) :: ("prepend", (PyData.tuple [(PyData.tuple [(PyData.str "number"), (PyData.str "list")]), (PyData.str "list")])) :: ("product", (PyData.tuple [(PyData.tuple [(PyData.str "list")]), (PyData.str "number")])) :: ("repeat", (PyData.tuple [(PyData.tuple [(PyData.str "text"), (PyData.str "number")]), (PyData.str "text")])) :: ("rest", (PyData.tuple [(PyData.tuple [(PyData.str "list")]), (PyData.str "list")])) :: ("reverse", (PyData.tuple [(PyData.tuple [(PyData.str "list")]), (PyData.str "list")])) :: ("reverse_text", (PyData.tuple [(PyData.tuple [(PyData.str "text")]), (PyData.str "text")])) :: ("running", (PyData.tuple [(PyData.tuple [(PyData.str "list")]), (PyData.str "list")])) :: ("same_list", (PyData.tuple [(PyData.tuple [(PyData.str "list"), (PyData.str "list")]), (PyData.str "truth")])) :: ("same_text", (PyData.tuple [(PyData.tuple [(PyData.str "text"), (PyData.str "text")]), (PyData.str "truth")])) :: ("size", (PyData.tuple [(PyData.tuple [(PyData.str "list")]), (PyData.str "number")])) :: ("skip", (PyData.tuple [(PyData.tuple [(PyData.str "text"), (PyData.str "number")]), (PyData.str "text")])) :: ("sort", (PyData.tuple [(PyData.tuple [(PyData.str "list")]), (PyData.str "list")])) :: ("start", (PyData.tuple [(PyData.tuple [(PyData.str "text"), (PyData.str "number")]), (PyData.str "text")])) :: ("sub", (PyData.tuple [(PyData.tuple [(PyData.str "number"), (PyData.str "number")]), (PyData.str "number")])) :: ("sum", (PyData.tuple [(PyData.tuple [(PyData.str "list")]), (PyData.str "number")])) :: ("take", (PyData.tuple [(PyData.tuple [(PyData.str "list"), (PyData.str "number")]), (PyData.str "list")])) :: ("text_number", (PyData.tuple [(PyData.tuple [(PyData.str "text")]), (PyData.str "number")])) :: ("up_to", (PyData.tuple [(PyData.tuple [(PyData.str "number")]), (PyData.str "list")])) :: ("words", (PyData.tuple [(PyData.tuple [(PyData.str "text")]), (PyData.str "number")])) :: ("zip_add", (PyData.tuple [(PyData.tuple [(PyData.str "list"), (PyData.str "list")]), (PyData.str "list")])) :: []
def d_WITHOUT_EFFECT : List (Str × D) := ("abs", (PyData.tuple [(PyData.str "abs"), (PyData.str "neg")])) :: ("sort", (PyData.tuple [(PyData.str "sort"), (PyData.str "reverse")])) :: ("distinct", (PyData.tuple [(PyData.str "distinct")])) :: ("keep_even", (PyData.tuple [(PyData.str "keep_even")])) :: ("length", (PyData.tuple [(PyData.str "reverse_text")])) :: ("size", (PyData.tuple [(PyData.str "reverse"), (PyData.str "sort")])) :: ("sum", (PyData.tuple [(PyData.str "reverse"), (PyData.str "sort")])) :: ("product", (PyData.tuple [(PyData.str "reverse"), (PyData.str "sort")])) :: ("greatest", (PyData.tuple [(PyData.str "reverse"), (PyData.str "sort")])) :: ("least", (PyData.tuple [(PyData.str "reverse"), (PyData.str "sort")])) :: ("words", (PyData.tuple [(PyData.str "reverse_text")])) :: []
noncomputable def b__law_library_E1 : M D := (mM1 dSplit (mVar 1) (mC (.str " ")))
noncomputable def b__law_library : M Fl := (mSeq (mAsg (setV 0) (mOf (mNew (mCons (mC (.str "abs n n")) (mCons (mC (.str "add nn n")) (mCons (mC (.str "add_each ln l")) (mCons (mC (.str "append ln l")) (mCons (mC (.str "at ln n")) (mCons (mC (.str "both tt t")) (mCons (mC (.str "choose_list tll l")) (mCons (mC (.str "choose_number tnn n")) (mCons (mC (.str "choose_text tss s")) (mCons (mC (.str "concat ss s")) (mCons (mC (.str "contains ss t")) (mCons (mC (.str "count_of ln n")) (mCons (mC (.str "distinct l l")) (mCons (mC (.str "divide nn n")) (mCons (mC (.str "double n n")) (mCons (mC (.str "drop ln l")) (mCons (mC (.str "either tt t")) (mCons (mC (.str "equal nn t")) (mCons (mC (.str "first l n")) (mCons (mC (.str "greatest l n")) (mCons (mC (.str "half n n")) (mCons (mC (.str "is_empty l t")) (mCons (mC (.str "is_even n t")) (mCons (mC (.str "join ll l")) (mCons (mC (.str "keep_above ln l")) (mCons (mC (.str "keep_even l l")) (mCons (mC (.str "last l n")) (mCons (mC (.str "least l n")) (mCons (mC (.str "length s n")) (mCons (mC (.str "less nn t")) (mCons (mC (.str "max nn n")) (mCons (mC (.str "min nn n")) (mCons (mC (.str "mod nn n")) (mCons (mC (.str "mul nn n")) (mCons (mC (.str "neg n n")) (mCons (mC (.str "negate t t")) (mCons (mC (.str "number_text n s")) (mCons (mC (.str "prepend nl l")) (mCons (mC (.str "product l n")) (mCons (mC (.str "repeat sn s")) (mCons (mC (.str "rest l l")) (mCons (mC (.str "reverse l l")) (mCons (mC (.str "reverse_text s s")) (mCons (mC (.str "running l l")) (mCons (mC (.str "same_list ll t")) (mCons (mC (.str "same_text ss t")) (mCons (mC (.str "size l n")) (mCons (mC (.str "skip sn s")) (mCons (mC (.str "sort l l")) (mCons (mC (.str "start sn s")) (mCons (mC (.str "sub nn n")) (mCons (mC (.str "sum l n")) (mCons (mC (.str "take ln l")) (mCons (mC (.str "text_number s n")) (mCons (mC (.str "up_to n l")) (mCons (mC (.str "words s n")) (mCons (mC (.str "zip_add ll l")) mNil))))))))))))))))))))))))))))))))))))))))))))))))))))))))))))
    (mRet (mOf (mLcS [1] (mItems (mVar 0)) (setV 1) mYes b__law_library_E1))))
noncomputable def m__law_library : List D → R D := mDef 2 b__law_library
noncomputable def b__law_number : M Fl := (mSeq (mAsg (setV 1) (mOp dMod (mVar 0) (mC (.int 4))))
    (mSeq (mIf (mT (mOp dEq (mVar 1) (mC (.int 0))))
    (mRet (mOp dSub (mOp dMod (mOp dDiv (mVar 0) (mC (.int 4))) (mC (.int 7))) (mC (.int 3))))
    mSkip)
    (mSeq (mIf (mT (mOp dEq (mVar 1) (mC (.int 1))))
    (mRet (mOp dSub (mOp dMod (mOp dDiv (mVar 0) (mC (.int 4))) (mC (.int 61))) (mC (.int 30))))
    mSkip)
    (mSeq (mIf (mT (mOp dEq (mVar 1) (mC (.int 2))))
    (mRet (mOp dIx (mOf (mNew (mCons (mC (.int 1000000)) (mCons (mUn dNeg (mC (.int 1000000))) (mCons (mC (.int 999999)) (mCons (mC (.int 500000)) (mCons (mC (.int 500001)) (mCons (mUn dNeg (mC (.int 500000))) (mCons (mC (.int 1000)) (mCons (mUn dNeg (mC (.int 1000))) mNil)))))))))) (mOp dMod (mOp dDiv (mVar 0) (mC (.int 4))) (mC (.int 8)))))
    mSkip)
    (mRet (mOp dSub (mOp dMod (mOp dDiv (mVar 0) (mC (.int 4))) (mC (.int 2000001))) (mC (.int 1000000))))))))
noncomputable def m__law_number : List D → R D := mDef 2 b__law_number
noncomputable def b__law_draws_L1 : M Fl := (mIf (mAndT (mT (mOp dGe (mCall dAbs (mCons (mVar 0) mNil)) (mOp dPow (mC (.int 10)) (mC (.int 18))))) (mT (mOp dGt (mVar 4) (mC (.int 0)))))
    (mSeq (mApp 3 (mOp dMod (mCall dInt (mCons (mVar 4) mNil)) (mVar 2)))
    (mAsg (setV 4) (mOp dDiv (mVar 4) (mVar 2))))
    (mSeq (mAsg (setV 6) (mOp dMod (mCall dInt (mCons (mOp dAdd (mOp dAdd (mOp dMul (mCall dAbs (mCons (mVar 0) mNil)) (mC (.int 48271))) (mOp dMul (mVar 5) (mC (.int 69621)))) (mC (.int 7))) mNil)) (mC (.int 2147483647))))
    (mSeq (mAsg (setV 6) (mOp dMod (mCall dInt (mCons (mOp dAdd (mOp dAdd (mOp dMul (mVar 6) (mC (.int 16807))) (mOp dDiv (mVar 6) (mC (.int 127)))) (mOp dMul (mVar 5) (mC (.int 31)))) mNil)) (mC (.int 2147483629))))
    (mApp 3 (mOp dMod (mOp dDiv (mVar 6) (mC (.int 3))) (mVar 2))))))
noncomputable def b__law_draws : M Fl := (mSeq (mSetM 3 (mNew mNil))
    (mSeq (mAsg (setV 4) (mCall dAbs (mCons (mVar 0) mNil)))
    (mSeq (mForS (mRng1 (mVar 1)) (setV 5)
    b__law_draws_L1)
    (mFrz 3 (mRet (mVar 3))))))
noncomputable def m__law_draws : List D → R D := mDef 7 b__law_draws
noncomputable def b__law_value_E1 : M D := (mOp dIx (mC (.str "a b0 9z1")) (mOp dMod (mVar 3) (mC (.int 8))))
noncomputable def b__law_value_E2 : M D := (mCallF m__law_number (mCons (mVar 3) mNil))
noncomputable def b__law_value_E3 : M D := (mOp dSub (mOp dMod (mVar 3) (mC (.int 9))) (mC (.int 4)))
noncomputable def b__law_value : M Fl := (mSeq (mIf (mT (mOp dEq (mVar 0) (mC (.str "n"))))
    (mRet (mCallF m__law_number (mCons (mVar 1) mNil)))
    mSkip)
    (mSeq (mIf (mT (mOp dEq (mVar 0) (mC (.str "t"))))
    (mRet (mOp dEq (mOp dMod (mVar 1) (mC (.int 2))) (mC (.int 1))))
    mSkip)
    (mSeq (mIf (mT (mOp dEq (mVar 0) (mC (.str "s"))))
    (mSeq (mAsg (setV 2) (mOp dIx (mOf (mNew (mCons (mC (.int 0)) (mCons (mC (.int 1)) (mCons (mC (.int 2)) (mCons (mC (.int 3)) (mCons (mC (.int 5)) (mCons (mC (.int 15)) (mCons (mC (.int 16)) (mCons (mC (.int 30)) mNil)))))))))) (mOp dMod (mVar 1) (mC (.int 8)))))
    (mRet (mM1 dJoin (mC (.str "")) (mOf (mLcS [3] (mItems (mCallF m__law_draws (mCons (mOp dDiv (mVar 1) (mC (.int 8))) (mCons (mVar 2) (mCons (mC (.int 64)) mNil))))) (setV 3) mYes b__law_value_E1)))))
    mSkip)
    (mSeq (mAsg (setV 2) (mOp dIx (mOf (mNew (mCons (mC (.int 0)) (mCons (mC (.int 1)) (mCons (mC (.int 2)) (mCons (mC (.int 3)) (mCons (mC (.int 4)) (mCons (mC (.int 6)) (mCons (mC (.int 11)) (mCons (mC (.int 12)) mNil)))))))))) (mOp dMod (mVar 1) (mC (.int 8)))))
    (mSeq (mIf (mT (mOp dEq (mOp dMod (mOp dDiv (mVar 1) (mC (.int 8))) (mC (.int 3))) (mC (.int 0))))
    (mRet (mCall dTuple (mCons (mOf (mLcS [3] (mItems (mCallF m__law_draws (mCons (mOp dDiv (mVar 1) (mC (.int 24))) (mCons (mVar 2) (mCons (mC (.int 4000)) mNil))))) (setV 3) mYes b__law_value_E2)) mNil)))
    mSkip)
    (mRet (mCall dTuple (mCons (mOf (mLcS [3] (mItems (mCallF m__law_draws (mCons (mOp dDiv (mVar 1) (mC (.int 24))) (mCons (mVar 2) (mCons (mC (.int 63)) mNil))))) (setV 3) mYes b__law_value_E3)) mNil))))))))
noncomputable def m__law_value : List D → R D := mDef 4 b__law_value
noncomputable def b__law_take : M Fl := (mSeq (mIf (mT (mOp dEq (mLenM 0) (mC (.int 0))))
    (mRet (mC (.int 0)))
    mSkip)
    (mRet (mOp dMod (mCall dInt (mCons (mPop 0) mNil)) (mVar 1))))
noncomputable def m__law_take : List D → R D := mDefB 2 b__law_take
noncomputable def b__law_leaf_E1 : M D := (mVar 4)
noncomputable def b__law_leaf_T1 : M Bool := (mT (mOp dEq (mOp dIx (mVar 2) (mVar 4)) (mVar 1)))
noncomputable def b__law_leaf : M Fl := (mSeq (mSetL 3 (mLcSB [4] (mRng1 (mCall dLen (mCons (mVar 2) mNil))) (setV 4) b__law_leaf_T1 b__law_leaf_E1))
    (mSeq (mIf (mAndT (mT (mOp dGt (mCall dLen (mCons (mVar 3) mNil)) (mC (.int 0)))) (mT (mOp dGt (mCallB 0 m__law_take (mCons (mC (.int 3)) mNil)) (mC (.int 0)))))
    (mRet (mCall dTup (mCons (mC (.str "input")) (mCons (mOp dIx (mVar 3) (mCallB 0 m__law_take (mCons (mCall dLen (mCons (mVar 3) mNil)) mNil))) mNil))))
    mSkip)
    (mRet (mCall dTup (mCons (mC (.str "constant")) (mCons (mCallF m__law_value (mCons (mVar 1) (mCons (mCallB 0 m__law_take (mCons (mC (.int 100000)) mNil)) mNil))) mNil))))))
noncomputable def m__law_leaf : List D → R D := mDefB 5 b__law_leaf
noncomputable def b__law_program_E1 (mf : List D → R D) : M D := (mVar 6)
noncomputable def b__law_program_T1 (mf : List D → R D) : M Bool := (mT (mOp dEq (mOp dIx (mVar 6) (mC (.int 2))) (mVar 1)))
noncomputable def b__law_program_E2 (mf : List D → R D) : M D := (mCallB 0 mf (mCons (mVar 7) (mCons (mVar 2) (mCons (mOp dSub (mVar 3) (mC (.int 1))) (mCons (mVar 4) mNil)))))
noncomputable def b__law_program (mf : List D → R D) : M Fl := (mSeq (mIf (mOrT (mT (mOp dLt (mVar 3) (mC (.int 2)))) (mT (mOp dEq (mCallB 0 m__law_take (mCons (mC (.int 5)) mNil)) (mC (.int 0)))))
    (mRet (mCallB 0 m__law_leaf (mCons (mVar 1) (mCons (mVar 2) mNil))))
    mSkip)
    (mSeq (mSetL 5 (mLcSB [6] (mItems (mVar 4)) (setV 6) (b__law_program_T1 mf) (b__law_program_E1 mf)))
    (mSeq (mAsg (setV 6) (mOp dIx (mVar 5) (mCallB 0 m__law_take (mCons (mCall dLen (mCons (mVar 5) mNil)) mNil))))
    (mRet (mOp dAdd (mCall dTup (mCons (mOp dIx (mVar 6) (mC (.int 0))) mNil)) (mCall dTuple (mCons (mOf (mLcSB [7] (mItems (mOp dIx (mVar 6) (mC (.int 1)))) (setV 7) mYes (b__law_program_E2 mf))) mNil)))))))
noncomputable def m__law_program_n : Nat → List D → R D
  | 0 => mDefB 8 mNo
  | n + 1 => mDefB 8 (b__law_program (m__law_program_n n))
noncomputable def m__law_program : List D → R D := m__law_program_n 33
noncomputable def b__law_cell : M Fl := (mSeq (mIf (mT (mOp dLt (mVar 1) (mCall dLen (mCons (mVar 0) mNil))))
    (mRet (mCall dInt (mCons (mOp dIx (mVar 0) (mVar 1)) mNil)))
    mSkip)
    (mRet (mC (.int 0))))
noncomputable def m__law_cell : List D → R D := mDef 2 b__law_cell
noncomputable def b_is_leaf : M Fl := (mRet (mOr (mOp dEq (mOp dIx (mVar 0) (mC (.int 0))) (mC (.str "input"))) (mOp dEq (mOp dIx (mVar 0) (mC (.int 0))) (mC (.str "constant")))))
noncomputable def m_is_leaf : List D → R D := mDef 1 b_is_leaf
noncomputable def b__changed_unary : M Fl := (mSeq (mIf (mAndT (mT (mOp dIn (mVar 0) (mC c_SELF_INVERSE))) (mT (mOp dEq (mOp dIx (mVar 1) (mC (.int 0))) (mVar 0))))
    (mRet (mOp dIx (mVar 1) (mC (.int 1))))
    mSkip)
    (mSeq (mIf (mAndT (mT (mUn (dInK d_WITHOUT_EFFECT) (mVar 0))) (mT (mOp dIn (mOp dIx (mVar 1) (mC (.int 0))) (mUn (dGetK d_WITHOUT_EFFECT) (mVar 0)))))
    (mRet (mCall dTup (mCons (mVar 0) (mCons (mOp dIx (mVar 1) (mC (.int 1))) mNil))))
    mSkip)
    (mRet (mC .none))))
noncomputable def m__changed_unary : List D → R D := mDef 2 b__changed_unary
noncomputable def b_is_component : M Fl := (mRet (mAnd (mIs "str" (mVar 0)) (mUn (dInK d_SIGNATURES) (mVar 0))))
noncomputable def m_is_component : List D → R D := mDef 1 b_is_component
noncomputable def b_is_commutative : M Fl := (mSeq (mIf (mNotT (mTr (mCallF m_is_component (mCons (mVar 0) mNil))))
    mNo
    mSkip)
    (mRet (mOp dIn (mVar 0) (mC c_COMMUTATIVE))))
noncomputable def m_is_commutative : List D → R D := mDef 1 b_is_commutative
noncomputable def b__place_of_kind : M Fl := (mSeq (mIf (mTr (mIs "bool" (mVar 0)))
    (mRet (mC (.int 1)))
    mSkip)
    (mSeq (mIf (mTr (mIs "int" (mVar 0)))
    (mRet (mC (.int 0)))
    mSkip)
    (mRet (mIfE (mTr (mIs "str" (mVar 0))) (mC (.int 2)) (mC (.int 3))))))
noncomputable def m__place_of_kind : List D → R D := mDef 1 b__place_of_kind
noncomputable def b__place_E1 (mf : List D → R D) : M D := (mCallF mf (mCons (mVar 1) mNil))
noncomputable def b__place (mf : List D → R D) : M Fl := (mSeq (mIf (mT (mOp dEq (mOp dIx (mVar 0) (mC (.int 0))) (mC (.str "constant"))))
    (mRet (mCall dTup (mCons (mC (.int 0)) (mCons (mCallF m__place_of_kind (mCons (mOp dIx (mVar 0) (mC (.int 1))) mNil)) (mCons (mOp dIx (mVar 0) (mC (.int 1))) mNil)))))
    mSkip)
    (mSeq (mIf (mT (mOp dEq (mOp dIx (mVar 0) (mC (.int 0))) (mC (.str "input"))))
    (mRet (mCall dTup (mCons (mC (.int 1)) (mCons (mOp dIx (mVar 0) (mC (.int 1))) mNil))))
    mSkip)
    (mRet (mCall dTup (mCons (mC (.int 2)) (mCons (mOp dIx (mVar 0) (mC (.int 0))) (mStar (mOf (mLcS [1] (mItems (mSl (mVar 0) (mPart (mC (.int 1))) mNoPart)) (setV 1) mYes (b__place_E1 mf))) mNil)))))))
noncomputable def m__place_n : Nat → List D → R D
  | 0 => mDef 2 mNo
  | n + 1 => mDef 2 (b__place (m__place_n n))
noncomputable def m__place : List D → R D := m__place_n 33
noncomputable def b_precedes : M Fl := (mRet (mOp dLtN (mCallF m__place (mCons (mVar 0) mNil)) (mCallF m__place (mCons (mVar 1) mNil))))
noncomputable def m_precedes : List D → R D := mDef 2 b_precedes
noncomputable def b__changed_binary_L1 : M Fl := (mIf (mT (mOp dEq (mOp dIx (mCall dTup (mCons (mVar 1) (mCons (mVar 2) mNil))) (mVar 3)) (mCall dTup (mCons (mC (.str "constant")) (mCons (mVar 4) mNil)))))
    (mRet (mOp dIx (mCall dTup (mCons (mVar 2) (mCons (mVar 1) mNil))) (mVar 3)))
    mSkip)
noncomputable def b__changed_binary : M Fl := (mSeq (mIf (mAndT (mT (mOp dIn (mVar 0) (mC c_IDEMPOTENT))) (mT (mOp dEq (mVar 1) (mVar 2))))
    (mRet (mVar 1))
    mSkip)
    (mSeq (mIf (mAndT (mTr (mCallF m_is_commutative (mCons (mVar 0) mNil))) (mTr (mCallF m_precedes (mCons (mVar 2) (mCons (mVar 1) mNil)))))
    (mRet (mCall dTup (mCons (mVar 0) (mCons (mVar 2) (mCons (mVar 1) mNil)))))
    mSkip)
    (mSeq (mForS (mItems (mKGet d_NEUTRAL (mVar 0) (mCall dTup mNil))) (setT2 (setV 3) (setV 4))
    b__changed_binary_L1)
    (mRet (mC .none)))))
noncomputable def m__changed_binary : List D → R D := mDef 5 b__changed_binary
noncomputable def b__changed : M Fl := (mSeq (mIf (mTr (mCallF m_is_leaf (mCons (mVar 0) mNil)))
    (mRet (mC .none))
    mSkip)
    (mSeq (mIf (mT (mOp dEq (mCall dLen (mCons (mVar 0) mNil)) (mC (.int 2))))
    (mRet (mCallF m__changed_unary (mCons (mOp dIx (mVar 0) (mC (.int 0))) (mCons (mOp dIx (mVar 0) (mC (.int 1))) mNil))))
    mSkip)
    (mSeq (mIf (mT (mOp dEq (mCall dLen (mCons (mVar 0) mNil)) (mC (.int 3))))
    (mRet (mCallF m__changed_binary (mCons (mOp dIx (mVar 0) (mC (.int 0))) (mCons (mOp dIx (mVar 0) (mC (.int 1))) (mCons (mOp dIx (mVar 0) (mC (.int 2))) mNil)))))
    mSkip)
    (mRet (mC .none)))))
noncomputable def m__changed : List D → R D := mDef 1 b__changed
noncomputable def b_simplify_E1 (mf : List D → R D) : M D := (mCallF mf (mCons (mVar 3) mNil))
noncomputable def b_simplify_C1 (mf : List D → R D) : M Bool := (mT (mOp dNotN (mVar 2) (mC .none)))
noncomputable def b_simplify_L1 (mf : List D → R D) : M Fl := (mSeq (mAsg (setV 1) (mVar 2))
    (mAsg (setV 2) (mCallF m__changed (mCons (mVar 1) mNil))))
noncomputable def b_simplify (mf : List D → R D) : M Fl := (mSeq (mIf (mTr (mCallF m_is_leaf (mCons (mVar 0) mNil)))
    (mRet (mVar 0))
    mSkip)
    (mSeq (mAsg (setV 1) (mES (mOp dIx (mVar 0) (mC (.int 0))) (mOf (mLcS [3] (mItems (mSl (mVar 0) (mPart (mC (.int 1))) mNoPart)) (setV 3) mYes (b_simplify_E1 mf)))))
    (mSeq (mAsg (setV 2) (mCallF m__changed (mCons (mVar 1) mNil)))
    (mSeq (mWhileS (b_simplify_C1 mf)
    (b_simplify_L1 mf))
    (mRet (mVar 1))))))
noncomputable def m_simplify_n : Nat → List D → R D
  | 0 => mDef 4 mNo
  | n + 1 => mDef 4 (b_simplify (m_simplify_n n))
noncomputable def m_simplify : List D → R D := m_simplify_n 33
noncomputable def b__law_symbol : M Fl := (mSeq (mIf (mT (mOp dEq (mOp dIx (mVar 0) (mC (.int 0))) (mC (.str "input"))))
    (mRet (mCall dTup (mCons (mC (.int 1)) (mCons (mOp dIx (mVar 0) (mC (.int 1))) (mCons (mC (.int 0)) mNil)))))
    mSkip)
    (mSeq (mIf (mT (mOp dNe (mOp dIx (mVar 0) (mC (.int 0))) (mC (.str "constant"))))
    (mRet (mCall dTup (mCons (mC (.int 2)) (mCons (mOp dIx (mVar 0) (mC (.int 0))) (mCons (mC (.int 0)) mNil)))))
    mSkip)
    (mSeq (mIf (mTr (mIs "bool" (mOp dIx (mVar 0) (mC (.int 1)))))
    (mRet (mCall dTup (mCons (mC (.int 0)) (mCons (mC (.int 1)) (mCons (mCall dInt (mCons (mOp dIx (mVar 0) (mC (.int 1))) mNil)) mNil)))))
    mSkip)
    (mRet (mCall dTup (mCons (mC (.int 0)) (mCons (mOp dAdd (mOp dMul (mC (.int 2)) (mCall dInt (mCons (mIs "str" (mOp dIx (mVar 0) (mC (.int 1)))) mNil))) (mOp dMul (mC (.int 3)) (mCall dInt (mCons (mIs "tuple" (mOp dIx (mVar 0) (mC (.int 1)))) mNil)))) (mCons (mOp dIx (mVar 0) (mC (.int 1))) mNil))))))))
noncomputable def m__law_symbol : List D → R D := mDef 1 b__law_symbol
noncomputable def b__law_parts_L1 (mf : List D → R D) : M Fl := (mAsg (setV 1) (mOp dAdd (mVar 1) (mCallF mf (mCons (mOp dIx (mVar 0) (mVar 2)) mNil))))
noncomputable def b__law_parts (mf : List D → R D) : M Fl := (mSeq (mIf (mT (mOp dIn (mOp dIx (mVar 0) (mC (.int 0))) (mOf (mNew (mCons (mC (.str "input")) (mCons (mC (.str "constant")) mNil))))))
    (mRet (mOf (mNew (mCons (mVar 0) mNil))))
    mSkip)
    (mSeq (mAsg (setV 1) (mOf (mNew (mCons (mVar 0) mNil))))
    (mSeq (mForS (mRng2 (mC (.int 1)) (mCall dLen (mCons (mVar 0) mNil))) (setV 2)
    (b__law_parts_L1 mf))
    (mRet (mVar 1)))))
noncomputable def m__law_parts_n : Nat → List D → R D
  | 0 => mDef 3 mNo
  | n + 1 => mDef 3 (b__law_parts (m__law_parts_n n))
noncomputable def m__law_parts : List D → R D := m__law_parts_n 33
noncomputable def b__law_precedes_E1 : M D := (mCallF m__law_symbol (mCons (mVar 5) mNil))
noncomputable def b__law_precedes_E2 : M D := (mCallF m__law_symbol (mCons (mVar 5) mNil))
noncomputable def b__law_precedes_L1 : M Fl := (mIf (mT (mOp dNe (mOp dIx (mVar 2) (mVar 4)) (mOp dIx (mVar 3) (mVar 4))))
    (mRet (mOp dLtN (mOp dIx (mVar 2) (mVar 4)) (mOp dIx (mVar 3) (mVar 4))))
    mSkip)
noncomputable def b__law_precedes : M Fl := (mSeq (mSetL 2 (mLcS [5] (mItems (mCallF m__law_parts (mCons (mVar 0) mNil))) (setV 5) mYes b__law_precedes_E1))
    (mSeq (mSetL 3 (mLcS [5] (mItems (mCallF m__law_parts (mCons (mVar 1) mNil))) (setV 5) mYes b__law_precedes_E2))
    (mSeq (mForS (mRng1 (mCall dMin (mCons (mCall dLen (mCons (mVar 2) mNil)) (mCons (mCall dLen (mCons (mVar 3) mNil)) mNil)))) (setV 4)
    b__law_precedes_L1)
    (mRet (mC (.bool false))))))
noncomputable def m__law_precedes : List D → R D := mDef 6 b__law_precedes
noncomputable def b__law_one_rule_L1 : M Fl := (mIf (mAndT (mT (mOp dEq (mOp dIx (mVar 0) (mC (.int 0))) (mOp dIx (mVar 5) (mC (.int 0))))) (mT (mOp dEq (mOp dIx (mVar 0) (mC (.int 1))) (mCall dTup (mCons (mC (.str "constant")) (mCons (mOp dIx (mVar 5) (mC (.int 1))) mNil))))))
    (mRet (mOp dIx (mVar 0) (mC (.int 2))))
    mSkip)
noncomputable def b__law_one_rule_L2 : M Fl := (mIf (mAndT (mT (mOp dEq (mOp dIx (mVar 0) (mC (.int 0))) (mOp dIx (mVar 5) (mC (.int 0))))) (mT (mOp dEq (mOp dIx (mVar 0) (mC (.int 2))) (mCall dTup (mCons (mC (.str "constant")) (mCons (mOp dIx (mVar 5) (mC (.int 1))) mNil))))))
    (mRet (mOp dIx (mVar 0) (mC (.int 1))))
    mSkip)
noncomputable def b__law_one_rule : M Fl := (mSeq (mIf (mT (mOp dIn (mOp dIx (mVar 0) (mC (.int 0))) (mOf (mNew (mCons (mC (.str "input")) (mCons (mC (.str "constant")) mNil))))))
    (mRet (mVar 0))
    mSkip)
    (mSeq (mAsg (setV 1) (mOp dAdd (mOp dAdd (mOp dIx (mVar 0) (mC (.int 0))) (mC (.str " "))) (mOp dIx (mOp dIx (mVar 0) (mC (.int 1))) (mC (.int 0)))))
    (mSeq (mIf (mT (mOp dIn (mVar 1) (mOf (mNew (mCons (mC (.str "neg neg")) (mCons (mC (.str "negate negate")) (mCons (mC (.str "reverse reverse")) (mCons (mC (.str "reverse_text reverse_text")) mNil))))))))
    (mRet (mOp dIx (mOp dIx (mVar 0) (mC (.int 1))) (mC (.int 1))))
    mSkip)
    (mSeq (mAsg (setV 2) (mOf (mNew (mCons (mC (.str "abs abs")) (mCons (mC (.str "abs neg")) (mCons (mC (.str "sort sort")) (mCons (mC (.str "sort reverse")) (mCons (mC (.str "distinct distinct")) (mCons (mC (.str "keep_even keep_even")) mNil)))))))))
    (mSeq (mAsg (setV 2) (mOp dAdd (mVar 2) (mOf (mNew (mCons (mC (.str "length reverse_text")) (mCons (mC (.str "words reverse_text")) (mCons (mC (.str "size reverse")) (mCons (mC (.str "size sort")) (mCons (mC (.str "sum reverse")) (mCons (mC (.str "sum sort")) mNil))))))))))
    (mSeq (mAsg (setV 2) (mOp dAdd (mVar 2) (mOf (mNew (mCons (mC (.str "product reverse")) (mCons (mC (.str "product sort")) (mCons (mC (.str "greatest reverse")) (mCons (mC (.str "greatest sort")) (mCons (mC (.str "least reverse")) (mCons (mC (.str "least sort")) mNil))))))))))
    (mSeq (mIf (mT (mOp dIn (mVar 1) (mVar 2)))
    (mRet (mCall dTup (mCons (mOp dIx (mVar 0) (mC (.int 0))) (mCons (mOp dIx (mOp dIx (mVar 0) (mC (.int 1))) (mC (.int 1))) mNil))))
    mSkip)
    (mSeq (mIf (mT (mOp dNe (mCall dLen (mCons (mVar 0) mNil)) (mC (.int 3))))
    (mRet (mVar 0))
    mSkip)
    (mSeq (mIf (mAndT (mT (mOp dIn (mOp dIx (mVar 0) (mC (.int 0))) (mOf (mNew (mCons (mC (.str "max")) (mCons (mC (.str "min")) (mCons (mC (.str "both")) (mCons (mC (.str "either")) mNil)))))))) (mT (mOp dEq (mOp dIx (mVar 0) (mC (.int 1))) (mOp dIx (mVar 0) (mC (.int 2))))))
    (mRet (mOp dIx (mVar 0) (mC (.int 1))))
    mSkip)
    (mSeq (mAsg (setV 3) (mOf (mNew (mCons (mC (.str "add")) (mCons (mC (.str "both")) (mCons (mC (.str "either")) (mCons (mC (.str "equal")) (mCons (mC (.str "max")) (mCons (mC (.str "min")) (mCons (mC (.str "mul")) (mCons (mC (.str "same_list")) (mCons (mC (.str "same_text")) (mCons (mC (.str "zip_add")) mNil)))))))))))))
    (mSeq (mIf (mAndT (mT (mOp dIn (mOp dIx (mVar 0) (mC (.int 0))) (mVar 3))) (mTr (mCallF m__law_precedes (mCons (mOp dIx (mVar 0) (mC (.int 2))) (mCons (mOp dIx (mVar 0) (mC (.int 1))) mNil)))))
    (mRet (mCall dTup (mCons (mOp dIx (mVar 0) (mC (.int 0))) (mCons (mOp dIx (mVar 0) (mC (.int 2))) (mCons (mOp dIx (mVar 0) (mC (.int 1))) mNil)))))
    mSkip)
    (mSeq (mAsg (setV 4) (mOf (mNew (mCons (mCall dTup (mCons (mC (.str "add")) (mCons (mC (.int 0)) mNil))) (mCons (mCall dTup (mCons (mC (.str "mul")) (mCons (mC (.int 1)) mNil))) (mCons (mCall dTup (mCons (mC (.str "concat")) (mCons (mC (.str "")) mNil))) (mCons (mCall dTup (mCons (mC (.str "join")) (mCons (mCall dTup mNil) mNil))) (mCons (mCall dTup (mCons (mC (.str "both")) (mCons (mC (.bool true)) mNil))) (mCons (mCall dTup (mCons (mC (.str "either")) (mCons (mC (.bool false)) mNil))) mNil)))))))))
    (mSeq (mForS (mItems (mVar 4)) (setV 5)
    b__law_one_rule_L1)
    (mSeq (mAsg (setV 6) (mOf (mNew (mCons (mCall dTup (mCons (mC (.str "sub")) (mCons (mC (.int 0)) mNil))) (mCons (mCall dTup (mCons (mC (.str "divide")) (mCons (mC (.int 1)) mNil))) (mCons (mCall dTup (mCons (mC (.str "concat")) (mCons (mC (.str "")) mNil))) (mCons (mCall dTup (mCons (mC (.str "join")) (mCons (mCall dTup mNil) mNil))) (mCons (mCall dTup (mCons (mC (.str "drop")) (mCons (mC (.int 0)) mNil))) (mCons (mCall dTup (mCons (mC (.str "skip")) (mCons (mC (.int 0)) mNil))) (mCons (mCall dTup (mCons (mC (.str "add_each")) (mCons (mC (.int 0)) mNil))) mNil))))))))))
    (mSeq (mForS (mItems (mVar 6)) (setV 5)
    b__law_one_rule_L2)
    (mRet (mVar 0)))))))))))))))))
noncomputable def m__law_one_rule : List D → R D := mDef 7 b__law_one_rule
noncomputable def b__law_simplified_E1 (mf : List D → R D) : M D := (mCallF mf (mCons (mOp dIx (mVar 0) (mVar 2)) mNil))
noncomputable def b__law_simplified_L1 (mf : List D → R D) : M Fl := (mSeq (mAsg (setV 3) (mCallF m__law_one_rule (mCons (mVar 1) mNil)))
    (mSeq (mIf (mT (mOp dEq (mVar 3) (mVar 1)))
    mBk
    mSkip)
    (mAsg (setV 1) (mVar 3))))
noncomputable def b__law_simplified (mf : List D → R D) : M Fl := (mSeq (mIf (mT (mOp dIn (mOp dIx (mVar 0) (mC (.int 0))) (mOf (mNew (mCons (mC (.str "input")) (mCons (mC (.str "constant")) mNil))))))
    (mRet (mVar 0))
    mSkip)
    (mSeq (mAsg (setV 1) (mOp dAdd (mCall dTup (mCons (mOp dIx (mVar 0) (mC (.int 0))) mNil)) (mCall dTuple (mCons (mOf (mLcS [2] (mRng2 (mC (.int 1)) (mCall dLen (mCons (mVar 0) mNil))) (setV 2) mYes (b__law_simplified_E1 mf))) mNil))))
    (mSeq (mForS (mRng1 (mC (.int 70))) (setV 2)
    (b__law_simplified_L1 mf))
    (mRet (mVar 1)))))
noncomputable def m__law_simplified_n : Nat → List D → R D
  | 0 => mDef 4 mNo
  | n + 1 => mDef 4 (b__law_simplified (m__law_simplified_n n))
noncomputable def m__law_simplified : List D → R D := m__law_simplified_n 33
noncomputable def b__law_wrapped : M Fl := (mSeq (mAsg (setV 3) (mOf (mNew (mCons (mC (.str "neg")) (mCons (mC (.str "abs")) (mCons (mC (.str "negate")) (mCons (mC (.str "negate")) (mCons (mC (.str "reverse_text")) (mCons (mC (.str "reverse_text")) (mCons (mC (.str "reverse")) (mCons (mC (.str "sort")) (mCons (mC (.str "distinct")) (mCons (mC (.str "keep_even")) mNil)))))))))))))
    (mSeq (mAsg (setV 4) (mOp dAdd (mOp dMul (mM1 dIndexS (mC (.str "ntsl")) (mVar 1)) (mC (.int 2))) (mOp dMod (mVar 2) (mC (.int 2)))))
    (mSeq (mIf (mAndT (mT (mOp dEq (mVar 1) (mC (.str "l")))) (mT (mOp dGt (mOp dMod (mVar 2) (mC (.int 5))) (mC (.int 1)))))
    (mAsg (setV 4) (mOp dAdd (mC (.int 6)) (mOp dMod (mVar 2) (mC (.int 4)))))
    mSkip)
    (mSeq (mIf (mT (mOp dEq (mOp dMod (mOp dDiv (mVar 2) (mC (.int 5))) (mC (.int 3))) (mC (.int 0))))
    (mRet (mCall dTup (mCons (mOp dIx (mVar 3) (mVar 4)) (mCons (mVar 0) mNil))))
    mSkip)
    (mSeq (mAsg (setV 5) (mOf (mNew (mCons (mCall dTup (mCons (mC (.str "constant")) (mCons (mOp dMod (mOp dDiv (mVar 2) (mC (.int 15))) (mC (.int 2))) mNil))) (mCons (mCall dTup (mCons (mC (.str "constant")) (mCons (mOp dEq (mOp dMod (mOp dDiv (mVar 2) (mC (.int 15))) (mC (.int 2))) (mC (.int 1))) mNil))) (mCons (mCall dTup (mCons (mC (.str "constant")) (mCons (mC (.str "")) mNil))) (mCons (mCall dTup (mCons (mC (.str "constant")) (mCons (mCall dTup mNil) mNil))) mNil)))))))
    (mSeq (mAsg (setV 6) (mOp dIx (mVar 5) (mM1 dIndexS (mC (.str "ntsl")) (mVar 1))))
    (mSeq (mAsg (setV 7) (mOf (mNew (mCons (mOf (mNew (mCons (mC (.str "add")) (mCons (mC (.str "mul")) (mCons (mC (.str "max")) (mCons (mC (.str "min")) (mCons (mC (.str "sub")) (mCons (mC (.str "divide")) mNil)))))))) (mCons (mOf (mNew (mCons (mC (.str "both")) (mCons (mC (.str "either")) mNil)))) (mCons (mOf (mNew (mCons (mC (.str "concat")) mNil))) (mCons (mOf (mNew (mCons (mC (.str "join")) (mCons (mC (.str "zip_add")) mNil)))) mNil)))))))
    (mSeq (mAsg (setV 8) (mOp dIx (mVar 7) (mM1 dIndexS (mC (.str "ntsl")) (mVar 1))))
    (mSeq (mAsg (setV 9) (mOp dIx (mVar 8) (mOp dMod (mOp dDiv (mVar 2) (mC (.int 30))) (mCall dLen (mCons (mVar 8) mNil)))))
    (mSeq (mIf (mT (mOp dEq (mOp dMod (mOp dDiv (mVar 2) (mC (.int 5))) (mC (.int 3))) (mC (.int 1))))
    (mRet (mCall dTup (mCons (mVar 9) (mCons (mVar 0) (mCons (mVar 6) mNil)))))
    mSkip)
    (mRet (mCall dTup (mCons (mVar 9) (mCons (mOp dIx (mOf (mNew (mCons (mVar 6) (mCons (mVar 0) mNil)))) (mOp dMod (mOp dDiv (mVar 2) (mC (.int 200))) (mC (.int 2)))) (mCons (mVar 0) mNil)))))))))))))))
noncomputable def m__law_wrapped : List D → R D := mDef 10 b__law_wrapped
noncomputable def b_law_E1 : M D := (mOp dIx (mC (.str "ntsl")) (mOp dMod (mOp dDiv (mVar 1) (mOp dAdd (mC (.int 4)) (mOp dMul (mC (.int 3)) (mVar 8)))) (mC (.int 4))))
noncomputable def b_law_E2 : M D := (mOp dDiv (mCall dAbs (mCons (mCall dInt (mCons (mVar 12) mNil)) mNil)) (mC (.int 2)))
noncomputable def b_law_L1 : M Fl := (mIf (mT (mOp dLt (mCall dLen (mCons (mCallF m__law_parts (mCons (mVar 7) mNil)) mNil)) (mC (.int 25))))
    (mAsg (setV 7) (mCallF m__law_wrapped (mCons (mVar 7) (mCons (mVar 4) (mCons (mCall dAbs (mCons (mCallF m__law_cell (mCons (mVar 0) (mCons (mOp dAdd (mC (.int 6)) (mVar 8)) mNil))) mNil)) mNil)))))
    mSkip)
noncomputable def b_law_L2 : M Fl := (mSeq (mAsg (setV 11) (mCallF m_precedes (mCons (mOp dIx (mVar 10) (mC (.int 0))) (mCons (mOp dIx (mVar 10) (mC (.int 1))) mNil))))
    (mIf (mOrT (mNotT (mTr (mIs "bool" (mVar 11)))) (mT (mOp dNe (mVar 11) (mCallF m__law_precedes (mCons (mOp dIx (mVar 10) (mC (.int 0))) (mCons (mOp dIx (mVar 10) (mC (.int 1))) mNil))))))
    (mRet (mC (.bool false)))
    mSkip))
noncomputable def b_law : M Fl := (mSeq (mAsg (setV 1) (mCall dAbs (mCons (mCallF m__law_cell (mCons (mVar 0) (mCons (mC (.int 0)) mNil))) mNil)))
    (mSeq (mAsg (setV 2) (mM1 dJoin (mC (.str "")) (mOf (mLcS [8] (mRng1 (mOp dMod (mVar 1) (mC (.int 5)))) (setV 8) mYes b_law_E1))))
    (mSeq (mSetM 3 (mCat (mOf (mLcS [12] (mItems (mSl (mVar 0) (mPart (mC (.int 12))) (mPart (mC (.int 62))))) (setV 12) mYes b_law_E2)) (mCallF m__law_draws (mCons (mCallF m__law_cell (mCons (mVar 0) (mCons (mC (.int 1)) mNil))) (mCons (mC (.int 60)) (mCons (mC (.int 171000)) mNil))))))
    (mSeq (mAsg (setV 4) (mOp dIx (mC (.str "ntsl")) (mOp dMod (mCall dAbs (mCons (mCallF m__law_cell (mCons (mVar 0) (mCons (mC (.int 62)) mNil))) mNil)) (mC (.int 4)))))
    (mSeq (mAsg (setV 5) (mCallF m__law_library mNil))
    (mSeq (mAsg (setV 6) (mOp dAdd (mC (.int 1)) (mOp dMod (mOp dDiv (mCall dAbs (mCons (mCallF m__law_cell (mCons (mVar 0) (mCons (mC (.int 62)) mNil))) mNil)) (mC (.int 4))) (mC (.int 3)))))
    (mSeq (mAsg (setV 7) (mCallB 3 m__law_program (mCons (mVar 4) (mCons (mVar 2) (mCons (mVar 6) (mCons (mVar 5) mNil))))))
    (mSeq (mForS (mRng1 (mOp dMod (mOp dDiv (mVar 1) (mC (.int 5))) (mC (.int 6)))) (setV 8)
    b_law_L1)
    (mSeq (mIf (mT (mOp dGt (mCall dLen (mCons (mCallF m__law_parts (mCons (mVar 7) mNil)) mNil)) (mC (.int 60))))
    (mRet (mC (.bool true)))
    mSkip)
    (mSeq (mIf (mT (mOp dNe (mCallF m_simplify (mCons (mVar 7) mNil)) (mCallF m__law_simplified (mCons (mVar 7) mNil))))
    (mRet (mC (.bool false)))
    mSkip)
    (mSeq (mAsg (setV 9) (mCallB 3 m__law_program (mCons (mVar 4) (mCons (mVar 2) (mCons (mVar 6) (mCons (mVar 5) mNil))))))
    (mSeq (mIf (mT (mOp dGt (mCall dLen (mCons (mCallF m__law_parts (mCons (mVar 9) mNil)) mNil)) (mC (.int 60))))
    (mRet (mC (.bool true)))
    mSkip)
    (mSeq (mForS (mItems (mOf (mNew (mCons (mCall dTup (mCons (mVar 7) (mCons (mVar 9) mNil))) (mCons (mCall dTup (mCons (mVar 9) (mCons (mVar 7) mNil))) (mCons (mCall dTup (mCons (mVar 7) (mCons (mVar 7) mNil))) mNil)))))) (setV 10)
    b_law_L2)
    (mRet (mC (.bool true))))))))))))))))
noncomputable def m_law : List D → R D := mDef 13 b_law
end K19
end Part_K19d

section Part_K19o
set_option Elab.async false
set_option linter.all false
set_option maxRecDepth 100000
set_option autoImplicit false
set_option maxHeartbeats 2000000
namespace K19
open PySem PySem.Spec PyProof.Rows L2 DL
/-- what the top has written -/
structure Txt (P : Program) (w : World) (K : PySem.W.Frag) (mg : Str → Option Value) (C : Addr) : Prop where
  f__law_library : FunX K mg "_law_library" s__law_library []
  f__law_number : FunX K mg "_law_number" s__law_number ["cell"]
  f__law_draws : FunX K mg "_law_draws" s__law_draws ["cell", "many", "limit"]
  f__law_value : FunX K mg "_law_value" s__law_value ["letter", "cell"]
  f__law_take : FunX K mg "_law_take" s__law_take ["numbers", "limit"]
  f__law_leaf : FunX K mg "_law_leaf" s__law_leaf ["numbers", "letter", "kinds"]
  f__law_program : FunX K mg "_law_program" s__law_program ["numbers", "letter", "kinds", "depth", "library"]
  f__law_cell : FunX K mg "_law_cell" s__law_cell ["script", "k"]
  f_is_leaf : FunX K mg "is_leaf" s_is_leaf ["part"]
  f__changed_unary : FunX K mg "_changed_unary" s__changed_unary ["name", "argument"]
  f_is_component : FunX K mg "is_component" s_is_component ["name"]
  f_is_commutative : FunX K mg "is_commutative" s_is_commutative ["name"]
  f__place_of_kind : FunX K mg "_place_of_kind" s__place_of_kind ["value"]
  f__place : FunX K mg "_place" s__place ["program"]
  f_precedes : FunX K mg "precedes" s_precedes ["first", "second"]
  f__changed_binary : FunX K mg "_changed_binary" s__changed_binary ["name", "first", "second"]
  f__changed : FunX K mg "_changed" s__changed ["part"]
  f_simplify : FunX K mg "simplify" s_simplify ["program"]
  f__law_symbol : FunX K mg "_law_symbol" s__law_symbol ["part"]
  f__law_parts : FunX K mg "_law_parts" s__law_parts ["program"]
  f__law_precedes : FunX K mg "_law_precedes" s__law_precedes ["first", "second"]
  f__law_one_rule : FunX K mg "_law_one_rule" s__law_one_rule ["program"]
  f__law_simplified : FunX K mg "_law_simplified" s__law_simplified ["program"]
  f__law_wrapped : FunX K mg "_law_wrapped" s__law_wrapped ["program", "letter", "number"]
  f_law : FunX K mg "law" s_law ["script"]
  c_COMMUTATIVE : ConX K mg "COMMUTATIVE" c_COMMUTATIVE
  c_IDEMPOTENT : ConX K mg "IDEMPOTENT" c_IDEMPOTENT
  c_SELF_INVERSE : ConX K mg "SELF_INVERSE" c_SELF_INVERSE
  d_NEUTRAL : TabX K w mg "NEUTRAL" (Says K) d_NEUTRAL
  d_SIGNATURES : TabX K w mg "SIGNATURES" (Says K) d_SIGNATURES
  d_WITHOUT_EFFECT : TabX K w mg "WITHOUT_EFFECT" (Says K) d_WITHOUT_EFFECT
  z_abs : mg "abs" = none
  z_bool : mg "bool" = none
  z_int : mg "int" = none
  z_isinstance : mg "isinstance" = none
  z_len : mg "len" = none
  z_min : mg "min" = none
  z_range : mg "range" = none
  z_str : mg "str" = none
  z_tuple : mg "tuple" = none
section
variable {P : Program} {w : World} {K : PySem.W.Frag} {mg : Str → Option Value} {base : Heap} {C : Addr}
theorem ok__law_library (T : Txt P w K mg C) : FnX P w K mg base 1 "_law_library" 0 m__law_library :=
  def_okX (k := 0) (EC := EC0 C) T.f__law_library sc__law_library fun f cdv A outer s H E hr => (show DSs _ _ _ _ b__law_library from
  (dss_cons (ds_set 0 sc__law_library.nd (de_lst (da_cons de_str (da_cons de_str (da_cons de_str (da_cons de_str (da_cons de_str (da_cons de_str (da_cons de_str (da_cons de_str (da_cons de_str (da_cons de_str (da_cons de_str (da_cons de_str (da_cons de_str (da_cons de_str (da_cons de_str (da_cons de_str (da_cons de_str (da_cons de_str (da_cons de_str (da_cons de_str (da_cons de_str (da_cons de_str (da_cons de_str (da_cons de_str (da_cons de_str (da_cons de_str (da_cons de_str (da_cons de_str (da_cons de_str (da_cons de_str (da_cons de_str (da_cons de_str (da_cons de_str (da_cons de_str (da_cons de_str (da_cons de_str (da_cons de_str (da_cons de_str (da_cons de_str (da_cons de_str (da_cons de_str (da_cons de_str (da_cons de_str (da_cons de_str (da_cons de_str (da_cons de_str (da_cons de_str (da_cons de_str (da_cons de_str (da_cons de_str (da_cons de_str (da_cons de_str (da_cons de_str (da_cons de_str (da_cons de_str (da_cons de_str (da_cons de_str da_nil)))))))))))))))))))))))))))))))))))))))))))))))))))))))))))
    (dss_one (ds_ret (de_of (dl_lc (own := [(("row" : Str), 1)]) (W0 := W00) rfl sc__law_library.nd (di_seq (de_var 0)) (blkOk_by (N := N__law_library) (sc := defScope s__law_library) (by decide +kernel)) (fun _ _ _ _ _ => (dg_name (j := 1) sc__law_library.nd rfl (by first | exact Or.inl rfl | exact Or.inr rfl))) (by simp) (fun _ _ _ _ _ => dts_nil) (fun _ _ _ _ _ => (de_m1 PySem.F.slot_str_split PySem.F.type_str_split mt_split rm_split (de_var 1) de_str))))))))
theorem ok__law_number (T : Txt P w K mg C) : FnX P w K mg base 1 "_law_number" 1 m__law_number :=
  def_okX (k := 0) (EC := EC0 C) T.f__law_number sc__law_number fun f cdv A outer s H E hr => (show DSs _ _ _ _ b__law_number from
  (dss_cons (ds_set 1 sc__law_number.nd (de_op op_modN ro_mod (de_var 0) de_int))
    (dss_cons (ds_if (dt_cmp (op_eqD hr.units) ro_eq (de_var 1) de_int (nomark _))
    (dss_one (ds_ret (de_op op_sub ro_sub (de_op op_modN ro_mod (de_op op_divA ro_div (de_var 0) de_int) de_int) de_int)))
    dss_nil)
    (dss_cons (ds_if (dt_cmp (op_eqD hr.units) ro_eq (de_var 1) de_int (nomark _))
    (dss_one (ds_ret (de_op op_sub ro_sub (de_op op_modN ro_mod (de_op op_divA ro_div (de_var 0) de_int) de_int) de_int)))
    dss_nil)
    (dss_cons (ds_if (dt_cmp (op_eqD hr.units) ro_eq (de_var 1) de_int (nomark _))
    (dss_one (ds_ret (de_ix (de_lst (da_cons de_int (da_cons (de_un un_neg ro_neg de_int) (da_cons de_int (da_cons de_int (da_cons de_int (da_cons (de_un un_neg ro_neg de_int) (da_cons de_int (da_cons (de_un un_neg ro_neg de_int) da_nil))))))))) (de_op op_modN ro_mod (de_op op_divA ro_div (de_var 0) de_int) de_int))))
    dss_nil)
    (dss_one (ds_ret (de_op op_sub ro_sub (de_op op_modN ro_mod (de_op op_divA ro_div (de_var 0) de_int) de_int) de_int))))))))
theorem ok__law_draws (T : Txt P w K mg C) : FnX P w K mg base 1 "_law_draws" 3 m__law_draws :=
  def_okX (k := 0) (EC := EC0 C) T.f__law_draws sc__law_draws fun f cdv A outer s H E hr => (show DSs _ _ _ _ b__law_draws from
  (dss_cons (ds_setM 3 sc__law_draws.nd (dl_lst da_nil))
    (dss_cons (ds_set 4 sc__law_draws.nd (de_callB call_abs rc_abs (by rfl) T.z_abs (by decide +kernel) (da_cons (de_var 0) da_nil)))
    (dss_cons (ds_for PassesOwn.never rfl (di_rng1 (by rfl) T.z_range (de_var 1)) (dg_name (j := 5) sc__law_draws.nd rfl (by first | exact Or.inl rfl | exact Or.inr rfl))
    (dss_one (ds_if (dw_and (dt_cmp op_ge ro_ge (de_callB call_abs rc_abs (by rfl) T.z_abs (by decide +kernel) (da_cons (de_var 0) da_nil)) (de_op op_pow ro_pow de_int de_int) (nomark _)) (dw_and1 (dt_cmp (op_gtA hr.units0) ro_gt (de_var 4) de_int (nomark _)))).dt
    (dss_cons (ds_app 3 (de_op op_modN ro_mod (de_callTy call_intA rc_int (by rfl) T.z_int (by decide +kernel) (da_cons (de_var 4) da_nil)) (de_var 2)))
    (dss_one (ds_set 4 sc__law_draws.nd (de_op op_divA ro_div (de_var 4) (de_var 2)))))
    (dss_cons (ds_set 6 sc__law_draws.nd (de_op op_modN ro_mod (de_callTy call_intA rc_int (by rfl) T.z_int (by decide +kernel) (da_cons (de_op op_addA ro_add (de_op op_addA ro_add (de_op op_mulA ro_mul (de_callB call_abs rc_abs (by rfl) T.z_abs (by decide +kernel) (da_cons (de_var 0) da_nil)) de_int) (de_op op_mulA ro_mul (de_var 5) de_int)) de_int) da_nil)) de_int))
    (dss_cons (ds_set 6 sc__law_draws.nd (de_op op_modN ro_mod (de_callTy call_intA rc_int (by rfl) T.z_int (by decide +kernel) (da_cons (de_op op_addA ro_add (de_op op_addA ro_add (de_op op_mulA ro_mul (de_var 6) de_int) (de_op op_divA ro_div (de_var 6) de_int)) (de_op op_mulA ro_mul (de_var 5) de_int)) da_nil)) de_int))
    (dss_one (ds_app 3 (de_op op_modN ro_mod (de_op op_divA ro_div (de_var 6) de_int) (de_var 2)))))))))
    (dss_frz 3 (dss_one (ds_ret (de_var 3))))))))
theorem ok__law_value (T : Txt P w K mg C) : FnX P w K mg base 2 "_law_value" 2 m__law_value :=
  def_okX (k := 1) (EC := EC0 C) T.f__law_value sc__law_value fun f cdv A outer s H E hr => (show DSs _ _ _ _ b__law_value from
  (dss_cons (ds_if (dt_cmp (op_eqD hr.units) ro_eq (de_var 0) de_str (nomark _))
    (dss_one (ds_ret (de_callX (ok__law_number T) (hr.mono (by decide)) (da_cons (de_var 1) da_nil))))
    dss_nil)
    (dss_cons (ds_if (dt_cmp (op_eqD hr.units) ro_eq (de_var 0) de_str (nomark _))
    (dss_one (ds_ret (de_cmp (op_eqD hr.units) ro_eq (de_op op_modN ro_mod (de_var 1) de_int) de_int (nomark _))))
    dss_nil)
    (dss_cons (ds_if (dt_cmp (op_eqD hr.units) ro_eq (de_var 0) de_str (nomark _))
    (dss_cons (ds_set 2 sc__law_value.nd (de_ix (de_lst (da_cons de_int (da_cons de_int (da_cons de_int (da_cons de_int (da_cons de_int (da_cons de_int (da_cons de_int (da_cons de_int da_nil))))))))) (de_op op_modN ro_mod (de_var 1) de_int)))
    (dss_one (ds_ret (de_m1 PySem.F.slot_str_join PySem.F.type_str_join mt_join rm_join de_str (de_of (dl_lc (own := [(("k" : Str), 3)]) (W0 := W00) rfl sc__law_value.nd (di_seq (de_callX (ok__law_draws T) (hr.mono (by decide)) (da_cons (de_op op_divA ro_div (de_var 1) de_int) (da_cons (de_var 2) (da_cons de_int da_nil))))) (blkOk_by (N := N__law_value) (sc := defScope s__law_value) (by decide +kernel)) (fun _ _ _ _ _ => (dg_name (j := 3) sc__law_value.nd rfl (by first | exact Or.inl rfl | exact Or.inr rfl))) (by simp) (fun _ _ _ _ _ => dts_nil) (fun _ _ _ _ _ => (de_ix de_str (de_op op_modN ro_mod (de_var 3) de_int)))))))))
    dss_nil)
    (dss_cons (ds_set 2 sc__law_value.nd (de_ix (de_lst (da_cons de_int (da_cons de_int (da_cons de_int (da_cons de_int (da_cons de_int (da_cons de_int (da_cons de_int (da_cons de_int da_nil))))))))) (de_op op_modN ro_mod (de_var 1) de_int)))
    (dss_cons (ds_if (dt_cmp (op_eqD hr.units) ro_eq (de_op op_modN ro_mod (de_op op_divA ro_div (de_var 1) de_int) de_int) de_int (nomark _))
    (dss_one (ds_ret (de_callTy call_tupleF rc_tuple (by rfl) T.z_tuple (by decide +kernel) (da_cons (de_of (dl_lc (own := [(("k" : Str), 3)]) (W0 := W00) rfl sc__law_value.nd (di_seq (de_callX (ok__law_draws T) (hr.mono (by decide)) (da_cons (de_op op_divA ro_div (de_var 1) de_int) (da_cons (de_var 2) (da_cons de_int da_nil))))) (blkOk_by (N := N__law_value) (sc := defScope s__law_value) (by decide +kernel)) (fun _ _ _ _ _ => (dg_name (j := 3) sc__law_value.nd rfl (by first | exact Or.inl rfl | exact Or.inr rfl))) (by simp) (fun _ _ _ _ _ => dts_nil) (fun _ _ _ _ _ => (de_callX (ok__law_number T) (hr.mono (by decide)) (da_cons (de_var 3) da_nil))))) da_nil))))
    dss_nil)
    (dss_one (ds_ret (de_callTy call_tupleF rc_tuple (by rfl) T.z_tuple (by decide +kernel) (da_cons (de_of (dl_lc (own := [(("k" : Str), 3)]) (W0 := W00) rfl sc__law_value.nd (di_seq (de_callX (ok__law_draws T) (hr.mono (by decide)) (da_cons (de_op op_divA ro_div (de_var 1) de_int) (da_cons (de_var 2) (da_cons de_int da_nil))))) (blkOk_by (N := N__law_value) (sc := defScope s__law_value) (by decide +kernel)) (fun _ _ _ _ _ => (dg_name (j := 3) sc__law_value.nd rfl (by first | exact Or.inl rfl | exact Or.inr rfl))) (by simp) (fun _ _ _ _ _ => dts_nil) (fun _ _ _ _ _ => (de_op op_sub ro_sub (de_op op_modN ro_mod (de_var 3) de_int) de_int)))) da_nil))))))))))
theorem ok__law_take (T : Txt P w K mg C) : FnB P w K mg base 1 "_law_take" 2 m__law_take :=
  def_okB (k := 0) (EC := EC0 C) T.f__law_take sc__law_take fun f cdv A outer s H E hr => (show DSs _ _ _ _ b__law_take from
  (dss_cons (ds_if (dt_cmp (op_eqD hr.units) ro_eq (de_lenM 0 (by rfl) T.z_len) de_int (nomark _))
    (dss_one (ds_ret de_int))
    dss_nil)
    (dss_one (ds_ret (de_op op_modN ro_mod (de_callTy call_intA rc_int (by rfl) T.z_int (by decide +kernel) (da_cons (de_pop 0) da_nil)) (de_var 1))))))
theorem ok__law_leaf (T : Txt P w K mg C) : FnB P w K mg base 3 "_law_leaf" 3 m__law_leaf :=
  def_okB (k := 2) (EC := EC0 C) T.f__law_leaf sc__law_leaf fun f cdv A outer s H E hr => (show DSs _ _ _ _ b__law_leaf from
  (dss_cons (ds_setLcB 3 (own := [(("k" : Str), 4)]) (W0 := W00) rfl sc__law_leaf.nd rfl rfl (sw_true rfl rfl rfl (by decide +kernel)) (di_rng1 (by rfl) T.z_range (de_callB call_len rc_len (by rfl) T.z_len (by decide +kernel) (da_cons (de_var 2) da_nil))) (blkOk_by (N := N__law_leaf) (sc := defScope s__law_leaf) (by decide +kernel)) (fun _ _ _ _ _ => (dg_name (j := 4) sc__law_leaf.nd rfl (by first | exact Or.inl rfl | exact Or.inr rfl))) (by simp) (fun _ _ _ _ _ => (dts_one (dt_cmp (op_eqD hr.units) ro_eq (de_ix (de_var 2) (de_var 4)) (de_var 1) (nomark _)))) (fun _ _ _ _ _ => (de_var 4)))
    (dss_cons (ds_if (dw_and (dt_cmp (op_gtA hr.units0) ro_gt (de_callB call_len rc_len (by rfl) T.z_len (by decide +kernel) (da_cons (de_var 3) da_nil)) de_int (nomark _)) (dw_and1 (dt_cmp (op_gtA hr.units0) ro_gt (de_lend 0 (ok__law_take T) (hr.mono (by decide)) (da_cons de_int da_nil)) de_int (nomark _)))).dt
    (dss_one (ds_ret (de_tup (da_cons de_str (da_cons (de_ix (de_var 3) (de_lend 0 (ok__law_take T) (hr.mono (by decide)) (da_cons (de_callB call_len rc_len (by rfl) T.z_len (by decide +kernel) (da_cons (de_var 3) da_nil)) da_nil))) da_nil)))))
    dss_nil)
    (dss_one (ds_ret (de_tup (da_cons de_str (da_cons (de_callX (ok__law_value T) (hr.mono (by decide)) (da_cons (de_var 1) (da_cons (de_lend 0 (ok__law_take T) (hr.mono (by decide)) (da_cons de_int da_nil)) da_nil))) da_nil))))))))
theorem ok__law_program_n (T : Txt P w K mg C) : ∀ n : Nat, FnB P w K mg base (4 + n) "_law_program" 5 (m__law_program_n n)
  | 0 => def_okB (k := 3) (EC := EC0 C) T.f__law_program sc__law_program fun f cdv A outer s H E hr => dss_no
  | n + 1 =>
    have ih := ok__law_program_n T n
    def_okB (k := 4 + n) (EC := EC0 C) T.f__law_program sc__law_program fun f cdv A outer s H E hr => (show DSs _ _ _ _ (b__law_program (m__law_program_n n)) from
  (dss_cons (ds_if (dw_or (dt_cmp (op_ltA hr.units0) ro_lt (de_var 3) de_int (nomark _)) (dw_or1 (dt_cmp (op_eqD hr.units) ro_eq (de_lend 0 (ok__law_take T) (hr.mono (by omega)) (da_cons de_int da_nil)) de_int (nomark _)))).dt
    (dss_one (ds_ret (de_lend 0 (ok__law_leaf T) (hr.mono (by omega)) (da_cons (de_var 1) (da_cons (de_var 2) da_nil)))))
    dss_nil)
    (dss_cons (ds_setLcB 5 (own := [(("row" : Str), 6)]) (W0 := W00) rfl sc__law_program.nd rfl rfl (sw_true rfl rfl rfl (by decide +kernel)) (di_seq (de_var 4)) (blkOk_by (N := N__law_program) (sc := defScope s__law_program) (by decide +kernel)) (fun _ _ _ _ _ => (dg_name (j := 6) sc__law_program.nd rfl (by first | exact Or.inl rfl | exact Or.inr rfl))) (by simp) (fun _ _ _ _ _ => (dts_one (dt_cmp (op_eqD hr.units) ro_eq (de_ix (de_var 6) de_int) (de_var 1) (nomark _)))) (fun _ _ _ _ _ => (de_var 6)))
    (dss_cons (ds_set 6 sc__law_program.nd (de_ix (de_var 5) (de_lend 0 (ok__law_take T) (hr.mono (by omega)) (da_cons (de_callB call_len rc_len (by rfl) T.z_len (by decide +kernel) (da_cons (de_var 5) da_nil)) da_nil))))
    (dss_one (ds_ret (de_op op_addA ro_add (de_tup (da_cons (de_ix (de_var 6) de_int) da_nil)) (de_callTy call_tupleF rc_tuple (by rfl) T.z_tuple (by decide +kernel) (da_cons (de_of (dl_lcB (own := [(("one" : Str), 7)]) (W0 := W00) rfl sc__law_program.nd (di_seq (de_ix (de_var 6) de_int)) (blkOk_by (N := N__law_program) (sc := defScope s__law_program) (by decide +kernel)) (fun _ _ _ _ _ => (dg_name (j := 7) sc__law_program.nd rfl (by first | exact Or.inl rfl | exact Or.inr rfl))) (by simp) (fun _ _ _ _ _ => dts_nil) (fun _ _ _ _ _ => (de_lend 0 ih (hr.mono (by omega)) (da_cons (de_var 7) (da_cons (de_var 2) (da_cons (de_op op_sub ro_sub (de_var 3) de_int) (da_cons (de_var 4) da_nil)))))))) da_nil)))))))))
theorem ok__law_program (T : Txt P w K mg C) : FnB P w K mg base 37 "_law_program" 5 m__law_program := ok__law_program_n T 33
theorem ok__law_cell (T : Txt P w K mg C) : FnX P w K mg base 1 "_law_cell" 2 m__law_cell :=
  def_okX (k := 0) (EC := EC0 C) T.f__law_cell sc__law_cell fun f cdv A outer s H E hr => (show DSs _ _ _ _ b__law_cell from
  (dss_cons (ds_if (dt_cmp (op_ltA hr.units0) ro_lt (de_var 1) (de_callB call_len rc_len (by rfl) T.z_len (by decide +kernel) (da_cons (de_var 0) da_nil)) (nomark _))
    (dss_one (ds_ret (de_callTy call_intA rc_int (by rfl) T.z_int (by decide +kernel) (da_cons (de_ix (de_var 0) (de_var 1)) da_nil))))
    dss_nil)
    (dss_one (ds_ret de_int))))
theorem ok_is_leaf (T : Txt P w K mg C) : FnX P w K mg base 1 "is_leaf" 1 m_is_leaf :=
  def_okX (k := 0) (EC := EC0 C) T.f_is_leaf sc_is_leaf fun f cdv A outer s H E hr => (show DSs _ _ _ _ b_is_leaf from
  (dss_one (ds_ret (de_or (de_cmp (op_eqD hr.units) ro_eq (de_ix (de_var 0) de_int) de_str (nomark _)) (de_one (de_cmp (op_eqD hr.units) ro_eq (de_ix (de_var 0) de_int) de_str (nomark _)))))))
theorem ok__changed_unary (T : Txt P w K mg C) : FnX P w K mg base 1 "_changed_unary" 2 m__changed_unary :=
  def_okX (k := 0) (EC := EC0 C) T.f__changed_unary sc__changed_unary fun f cdv A outer s H E hr => (show DSs _ _ _ _ b__changed_unary from
  (dss_cons (ds_if (dw_and (dt_cmp op_inA ro_in (de_var 0) (de_conX T.c_SELF_INVERSE) rfl) (dw_and1 (dt_cmp (op_eqD hr.units) ro_eq (de_ix (de_var 1) de_int) (de_var 0) (nomark _)))).dt
    (dss_one (ds_ret (de_ix (de_var 1) de_int)))
    dss_nil)
    (dss_cons (ds_if (dw_and (dt_inK T.d_WITHOUT_EFFECT (de_var 0)) (dw_and1 (dt_cmp op_inA ro_in (de_ix (de_var 1) de_int) (de_getK T.d_WITHOUT_EFFECT (de_var 0)) rfl))).dt
    (dss_one (ds_ret (de_tup (da_cons (de_var 0) (da_cons (de_ix (de_var 1) de_int) da_nil)))))
    dss_nil)
    (dss_one (ds_ret de_non)))))
theorem ok_is_component (T : Txt P w K mg C) : FnX P w K mg base 1 "is_component" 1 m_is_component :=
  def_okX (k := 0) (EC := EC0 C) T.f_is_component sc_is_component fun f cdv A outer s H E hr => (show DSs _ _ _ _ b_is_component from
  (dss_one (ds_ret (de_and (de_isi (T := "str") (by unfold TyKnown; decide) (de_var 0) (by rfl) T.z_isinstance (by rfl) T.z_str (by decide +kernel)) (de_one (de_inK T.d_SIGNATURES (de_var 0)))))))
theorem ok_is_commutative (T : Txt P w K mg C) : FnX P w K mg base 2 "is_commutative" 1 m_is_commutative :=
  def_okX (k := 1) (EC := EC0 C) T.f_is_commutative sc_is_commutative fun f cdv A outer s H E hr => (show DSs _ _ _ _ b_is_commutative from
  (dss_cons (ds_if (dt_not (dt_truth (de_callX (ok_is_component T) (hr.mono (by decide)) (da_cons (de_var 0) da_nil))))
    (dss_one ds_no)
    dss_nil)
    (dss_one (ds_ret (de_cmp op_inA ro_in (de_var 0) (de_conX T.c_COMMUTATIVE) rfl)))))
theorem ok__place_of_kind (T : Txt P w K mg C) : FnX P w K mg base 1 "_place_of_kind" 1 m__place_of_kind :=
  def_okX (k := 0) (EC := EC0 C) T.f__place_of_kind sc__place_of_kind fun f cdv A outer s H E hr => (show DSs _ _ _ _ b__place_of_kind from
  (dss_cons (ds_if (dt_truth (de_isi (T := "bool") (by unfold TyKnown; decide) (de_var 0) (by rfl) T.z_isinstance (by rfl) T.z_bool (by decide +kernel)))
    (dss_one (ds_ret de_int))
    dss_nil)
    (dss_cons (ds_if (dt_truth (de_isi (T := "int") (by unfold TyKnown; decide) (de_var 0) (by rfl) T.z_isinstance (by rfl) T.z_int (by decide +kernel)))
    (dss_one (ds_ret de_int))
    dss_nil)
    (dss_one (ds_ret (de_ifE (dt_truth (de_isi (T := "str") (by unfold TyKnown; decide) (de_var 0) (by rfl) T.z_isinstance (by rfl) T.z_str (by decide +kernel))) de_int de_int))))))
theorem ok__place_n (T : Txt P w K mg C) : ∀ n : Nat, FnX P w K mg base (2 + n) "_place" 1 (m__place_n n)
  | 0 => def_okX (k := 1) (EC := EC0 C) T.f__place sc__place fun f cdv A outer s H E hr => dss_no
  | n + 1 =>
    have ih := ok__place_n T n
    def_okX (k := 2 + n) (EC := EC0 C) T.f__place sc__place fun f cdv A outer s H E hr => (show DSs _ _ _ _ (b__place (m__place_n n)) from
  (dss_cons (ds_if (dt_cmp (op_eqD hr.units) ro_eq (de_ix (de_var 0) de_int) de_str (nomark _))
    (dss_one (ds_ret (de_tup (da_cons de_int (da_cons (de_callX (ok__place_of_kind T) (hr.mono (by omega)) (da_cons (de_ix (de_var 0) de_int) da_nil)) (da_cons (de_ix (de_var 0) de_int) da_nil))))))
    dss_nil)
    (dss_cons (ds_if (dt_cmp (op_eqD hr.units) ro_eq (de_ix (de_var 0) de_int) de_str (nomark _))
    (dss_one (ds_ret (de_tup (da_cons de_int (da_cons (de_ix (de_var 0) de_int) da_nil)))))
    dss_nil)
    (dss_one (ds_ret (de_tupS (das_cons de_int (das_cons (de_ix (de_var 0) de_int) (das_star (de_of (dl_lc (own := [(("argument" : Str), 1)]) (W0 := W00) rfl sc__place.nd (di_seq (de_sl (de_var 0) (do_some de_int) do_none)) (blkOk_by (N := N__place) (sc := defScope s__place) (by decide +kernel)) (fun _ _ _ _ _ => (dg_name (j := 1) sc__place.nd rfl (by first | exact Or.inl rfl | exact Or.inr rfl))) (by simp) (fun _ _ _ _ _ => dts_nil) (fun _ _ _ _ _ => (de_callX ih (hr.mono (by omega)) (da_cons (de_var 1) da_nil))))) da_nil.s)))))))))
theorem ok__place (T : Txt P w K mg C) : FnX P w K mg base 35 "_place" 1 m__place := ok__place_n T 33
theorem ok_precedes (T : Txt P w K mg C) : FnX P w K mg base 36 "precedes" 2 m_precedes :=
  def_okX (k := 35) (EC := EC0 C) T.f_precedes sc_precedes fun f cdv A outer s H E hr => (show DSs _ _ _ _ b_precedes from
  (dss_one (ds_ret (de_cmp (op_ltN hr.units) ro_ltN (de_callX (ok__place T) (hr.mono (by decide)) (da_cons (de_var 0) da_nil)) (de_callX (ok__place T) (hr.mono (by decide)) (da_cons (de_var 1) da_nil)) (nomark _)))))
theorem ok__changed_binary (T : Txt P w K mg C) : FnX P w K mg base 37 "_changed_binary" 3 m__changed_binary :=
  def_okX (k := 36) (EC := EC0 C) T.f__changed_binary sc__changed_binary fun f cdv A outer s H E hr => (show DSs _ _ _ _ b__changed_binary from
  (dss_cons (ds_if (dw_and (dt_cmp op_inA ro_in (de_var 0) (de_conX T.c_IDEMPOTENT) rfl) (dw_and1 (dt_cmp (op_eqD hr.units) ro_eq (de_var 1) (de_var 2) (nomark _)))).dt
    (dss_one (ds_ret (de_var 1)))
    dss_nil)
    (dss_cons (ds_if (dw_and (dt_truth (de_callX (ok_is_commutative T) (hr.mono (by decide)) (da_cons (de_var 0) da_nil))) (dw_and1 (dt_truth (de_callX (ok_precedes T) (hr.mono (by decide)) (da_cons (de_var 2) (da_cons (de_var 1) da_nil)))))).dt
    (dss_one (ds_ret (de_tup (da_cons (de_var 0) (da_cons (de_var 2) (da_cons (de_var 1) da_nil))))))
    dss_nil)
    (dss_cons (ds_for PassesOwn.never rfl (di_seq (de_kget T.d_NEUTRAL (de_var 0) (de_tup da_nil))) (dg_tup2 rfl (dg_name (j := 3) sc__changed_binary.nd rfl (by first | exact Or.inl rfl | exact Or.inr rfl)) (dg_name (j := 4) sc__changed_binary.nd rfl (by first | exact Or.inl rfl | exact Or.inr rfl)))
    (dss_one (ds_if (dt_cmp (op_eqD hr.units) ro_eq (de_ix (de_tup (da_cons (de_var 1) (da_cons (de_var 2) da_nil))) (de_var 3)) (de_tup (da_cons de_str (da_cons (de_var 4) da_nil))) (nomark _))
    (dss_one (ds_ret (de_ix (de_tup (da_cons (de_var 2) (da_cons (de_var 1) da_nil))) (de_var 3))))
    dss_nil)))
    (dss_one (ds_ret de_non))))))
theorem ok__changed (T : Txt P w K mg C) : FnX P w K mg base 38 "_changed" 1 m__changed :=
  def_okX (k := 37) (EC := EC0 C) T.f__changed sc__changed fun f cdv A outer s H E hr => (show DSs _ _ _ _ b__changed from
  (dss_cons (ds_if (dt_truth (de_callX (ok_is_leaf T) (hr.mono (by decide)) (da_cons (de_var 0) da_nil)))
    (dss_one (ds_ret de_non))
    dss_nil)
    (dss_cons (ds_if (dt_cmp (op_eqD hr.units) ro_eq (de_callB call_len rc_len (by rfl) T.z_len (by decide +kernel) (da_cons (de_var 0) da_nil)) de_int (nomark _))
    (dss_one (ds_ret (de_callX (ok__changed_unary T) (hr.mono (by decide)) (da_cons (de_ix (de_var 0) de_int) (da_cons (de_ix (de_var 0) de_int) da_nil)))))
    dss_nil)
    (dss_cons (ds_if (dt_cmp (op_eqD hr.units) ro_eq (de_callB call_len rc_len (by rfl) T.z_len (by decide +kernel) (da_cons (de_var 0) da_nil)) de_int (nomark _))
    (dss_one (ds_ret (de_callX (ok__changed_binary T) (hr.mono (by decide)) (da_cons (de_ix (de_var 0) de_int) (da_cons (de_ix (de_var 0) de_int) (da_cons (de_ix (de_var 0) de_int) da_nil))))))
    dss_nil)
    (dss_one (ds_ret de_non))))))
theorem ok_simplify_n (T : Txt P w K mg C) : ∀ n : Nat, FnX P w K mg base (39 + n) "simplify" 1 (m_simplify_n n)
  | 0 => def_okX (k := 38) (EC := EC0 C) T.f_simplify sc_simplify fun f cdv A outer s H E hr => dss_no
  | n + 1 =>
    have ih := ok_simplify_n T n
    def_okX (k := 39 + n) (EC := EC0 C) T.f_simplify sc_simplify fun f cdv A outer s H E hr => (show DSs _ _ _ _ (b_simplify (m_simplify_n n)) from
  (dss_cons (ds_if (dt_truth (de_callX (ok_is_leaf T) (hr.mono (by omega)) (da_cons (de_var 0) da_nil)))
    (dss_one (ds_ret (de_var 0)))
    dss_nil)
    (dss_cons (ds_set 1 sc_simplify.nd (de_tupES (de_ix (de_var 0) de_int) (de_of (dl_lc (own := [(("argument" : Str), 3)]) (W0 := W00) rfl sc_simplify.nd (di_seq (de_sl (de_var 0) (do_some de_int) do_none)) (blkOk_by (N := N_simplify) (sc := defScope s_simplify) (by decide +kernel)) (fun _ _ _ _ _ => (dg_name (j := 3) sc_simplify.nd rfl (by first | exact Or.inl rfl | exact Or.inr rfl))) (by simp) (fun _ _ _ _ _ => dts_nil) (fun _ _ _ _ _ => (de_callX ih (hr.mono (by omega)) (da_cons (de_var 3) da_nil)))))))
    (dss_cons (ds_set 2 sc_simplify.nd (de_callX (ok__changed T) (hr.mono (by omega)) (da_cons (de_var 1) da_nil)))
    (dss_cons (ds_while PassesOwn.never (dt_cmp op_notN ro_notN (de_var 2) de_non (nomark _))
    (dss_cons (ds_set 1 sc_simplify.nd (de_var 2))
    (dss_one (ds_set 2 sc_simplify.nd (de_callX (ok__changed T) (hr.mono (by omega)) (da_cons (de_var 1) da_nil))))))
    (dss_one (ds_ret (de_var 1))))))))
theorem ok_simplify (T : Txt P w K mg C) : FnX P w K mg base 72 "simplify" 1 m_simplify := ok_simplify_n T 33
theorem ok__law_symbol (T : Txt P w K mg C) : FnX P w K mg base 1 "_law_symbol" 1 m__law_symbol :=
  def_okX (k := 0) (EC := EC0 C) T.f__law_symbol sc__law_symbol fun f cdv A outer s H E hr => (show DSs _ _ _ _ b__law_symbol from
  (dss_cons (ds_if (dt_cmp (op_eqD hr.units) ro_eq (de_ix (de_var 0) de_int) de_str (nomark _))
    (dss_one (ds_ret (de_tup (da_cons de_int (da_cons (de_ix (de_var 0) de_int) (da_cons de_int da_nil))))))
    dss_nil)
    (dss_cons (ds_if (dt_cmp (op_neD hr.units) ro_ne (de_ix (de_var 0) de_int) de_str (nomark _))
    (dss_one (ds_ret (de_tup (da_cons de_int (da_cons (de_ix (de_var 0) de_int) (da_cons de_int da_nil))))))
    dss_nil)
    (dss_cons (ds_if (dt_truth (de_isi (T := "bool") (by unfold TyKnown; decide) (de_ix (de_var 0) de_int) (by rfl) T.z_isinstance (by rfl) T.z_bool (by decide +kernel)))
    (dss_one (ds_ret (de_tup (da_cons de_int (da_cons de_int (da_cons (de_callTy call_intA rc_int (by rfl) T.z_int (by decide +kernel) (da_cons (de_ix (de_var 0) de_int) da_nil)) da_nil))))))
    dss_nil)
    (dss_one (ds_ret (de_tup (da_cons de_int (da_cons (de_op op_addA ro_add (de_op op_mulA ro_mul de_int (de_callTy call_intA rc_int (by rfl) T.z_int (by decide +kernel) (da_cons (de_isi (T := "str") (by unfold TyKnown; decide) (de_ix (de_var 0) de_int) (by rfl) T.z_isinstance (by rfl) T.z_str (by decide +kernel)) da_nil))) (de_op op_mulA ro_mul de_int (de_callTy call_intA rc_int (by rfl) T.z_int (by decide +kernel) (da_cons (de_isi (T := "tuple") (by unfold TyKnown; decide) (de_ix (de_var 0) de_int) (by rfl) T.z_isinstance (by rfl) T.z_tuple (by decide +kernel)) da_nil)))) (da_cons (de_ix (de_var 0) de_int) da_nil))))))))))
theorem ok__law_parts_n (T : Txt P w K mg C) : ∀ n : Nat, FnX P w K mg base (1 + n) "_law_parts" 1 (m__law_parts_n n)
  | 0 => def_okX (k := 0) (EC := EC0 C) T.f__law_parts sc__law_parts fun f cdv A outer s H E hr => dss_no
  | n + 1 =>
    have ih := ok__law_parts_n T n
    def_okX (k := 1 + n) (EC := EC0 C) T.f__law_parts sc__law_parts fun f cdv A outer s H E hr => (show DSs _ _ _ _ (b__law_parts (m__law_parts_n n)) from
  (dss_cons (ds_if (dt_cmp op_inA ro_in (de_ix (de_var 0) de_int) (de_lst (da_cons de_str (da_cons de_str da_nil))) rfl)
    (dss_one (ds_ret (de_lst (da_cons (de_var 0) da_nil))))
    dss_nil)
    (dss_cons (ds_set 1 sc__law_parts.nd (de_lst (da_cons (de_var 0) da_nil)))
    (dss_cons (ds_for PassesOwn.never rfl (di_rng2 (by rfl) T.z_range de_int (de_callB call_len rc_len (by rfl) T.z_len (by decide +kernel) (da_cons (de_var 0) da_nil))) (dg_name (j := 2) sc__law_parts.nd rfl (by first | exact Or.inl rfl | exact Or.inr rfl))
    (dss_one (ds_set 1 sc__law_parts.nd (de_op op_addA ro_add (de_var 1) (de_callX ih (hr.mono (by omega)) (da_cons (de_ix (de_var 0) (de_var 2)) da_nil))))))
    (dss_one (ds_ret (de_var 1)))))))
theorem ok__law_parts (T : Txt P w K mg C) : FnX P w K mg base 34 "_law_parts" 1 m__law_parts := ok__law_parts_n T 33
theorem ok__law_precedes (T : Txt P w K mg C) : FnX P w K mg base 35 "_law_precedes" 2 m__law_precedes :=
  def_okX (k := 34) (EC := EC0 C) T.f__law_precedes sc__law_precedes fun f cdv A outer s H E hr => (show DSs _ _ _ _ b__law_precedes from
  (dss_cons (ds_setLc 2 (own := [(("part" : Str), 5)]) (W0 := W00) rfl sc__law_precedes.nd rfl rfl (sw_true rfl rfl rfl (by decide +kernel)) (di_seq (de_callX (ok__law_parts T) (hr.mono (by decide)) (da_cons (de_var 0) da_nil))) (blkOk_by (N := N__law_precedes) (sc := defScope s__law_precedes) (by decide +kernel)) (fun _ _ _ _ _ => (dg_name (j := 5) sc__law_precedes.nd rfl (by first | exact Or.inl rfl | exact Or.inr rfl))) (by simp) (fun _ _ _ _ _ => dts_nil) (fun _ _ _ _ _ => (de_callX (ok__law_symbol T) (hr.mono (by decide)) (da_cons (de_var 5) da_nil))))
    (dss_cons (ds_setLc 3 (own := [(("part" : Str), 5)]) (W0 := W00) rfl sc__law_precedes.nd rfl rfl (sw_true rfl rfl rfl (by decide +kernel)) (di_seq (de_callX (ok__law_parts T) (hr.mono (by decide)) (da_cons (de_var 1) da_nil))) (blkOk_by (N := N__law_precedes) (sc := defScope s__law_precedes) (by decide +kernel)) (fun _ _ _ _ _ => (dg_name (j := 5) sc__law_precedes.nd rfl (by first | exact Or.inl rfl | exact Or.inr rfl))) (by simp) (fun _ _ _ _ _ => dts_nil) (fun _ _ _ _ _ => (de_callX (ok__law_symbol T) (hr.mono (by decide)) (da_cons (de_var 5) da_nil))))
    (dss_cons (ds_for PassesOwn.never rfl (di_rng1 (by rfl) T.z_range (de_callB (call_minA (by rfl)) rc_m2 (by rfl) T.z_min (by decide +kernel) (da_cons (de_callB call_len rc_len (by rfl) T.z_len (by decide +kernel) (da_cons (de_var 2) da_nil)) (da_cons (de_callB call_len rc_len (by rfl) T.z_len (by decide +kernel) (da_cons (de_var 3) da_nil)) da_nil)))) (dg_name (j := 4) sc__law_precedes.nd rfl (by first | exact Or.inl rfl | exact Or.inr rfl))
    (dss_one (ds_if (dt_cmp (op_neD hr.units) ro_ne (de_ix (de_var 2) (de_var 4)) (de_ix (de_var 3) (de_var 4)) (nomark _))
    (dss_one (ds_ret (de_cmp (op_ltN hr.units) ro_ltN (de_ix (de_var 2) (de_var 4)) (de_ix (de_var 3) (de_var 4)) (nomark _))))
    dss_nil)))
    (dss_one (ds_ret de_bl))))))
theorem ok__law_one_rule (T : Txt P w K mg C) : FnX P w K mg base 36 "_law_one_rule" 1 m__law_one_rule :=
  def_okX (k := 35) (EC := EC0 C) T.f__law_one_rule sc__law_one_rule fun f cdv A outer s H E hr => (show DSs _ _ _ _ b__law_one_rule from
  (dss_cons (ds_if (dt_cmp op_inA ro_in (de_ix (de_var 0) de_int) (de_lst (da_cons de_str (da_cons de_str da_nil))) rfl)
    (dss_one (ds_ret (de_var 0)))
    dss_nil)
    (dss_cons (ds_set 1 sc__law_one_rule.nd (de_op op_addA ro_add (de_op op_addA ro_add (de_ix (de_var 0) de_int) de_str) (de_ix (de_ix (de_var 0) de_int) de_int)))
    (dss_cons (ds_if (dt_cmp op_inA ro_in (de_var 1) (de_lst (da_cons de_str (da_cons de_str (da_cons de_str (da_cons de_str da_nil))))) rfl)
    (dss_one (ds_ret (de_ix (de_ix (de_var 0) de_int) de_int)))
    dss_nil)
    (dss_cons (ds_set 2 sc__law_one_rule.nd (de_lst (da_cons de_str (da_cons de_str (da_cons de_str (da_cons de_str (da_cons de_str (da_cons de_str da_nil))))))))
    (dss_cons (ds_set 2 sc__law_one_rule.nd (de_op op_addA ro_add (de_var 2) (de_lst (da_cons de_str (da_cons de_str (da_cons de_str (da_cons de_str (da_cons de_str (da_cons de_str da_nil)))))))))
    (dss_cons (ds_set 2 sc__law_one_rule.nd (de_op op_addA ro_add (de_var 2) (de_lst (da_cons de_str (da_cons de_str (da_cons de_str (da_cons de_str (da_cons de_str (da_cons de_str da_nil)))))))))
    (dss_cons (ds_if (dt_cmp op_inA ro_in (de_var 1) (de_var 2) rfl)
    (dss_one (ds_ret (de_tup (da_cons (de_ix (de_var 0) de_int) (da_cons (de_ix (de_ix (de_var 0) de_int) de_int) da_nil)))))
    dss_nil)
    (dss_cons (ds_if (dt_cmp (op_neD hr.units) ro_ne (de_callB call_len rc_len (by rfl) T.z_len (by decide +kernel) (da_cons (de_var 0) da_nil)) de_int (nomark _))
    (dss_one (ds_ret (de_var 0)))
    dss_nil)
    (dss_cons (ds_if (dw_and (dt_cmp op_inA ro_in (de_ix (de_var 0) de_int) (de_lst (da_cons de_str (da_cons de_str (da_cons de_str (da_cons de_str da_nil))))) rfl) (dw_and1 (dt_cmp (op_eqD hr.units) ro_eq (de_ix (de_var 0) de_int) (de_ix (de_var 0) de_int) (nomark _)))).dt
    (dss_one (ds_ret (de_ix (de_var 0) de_int)))
    dss_nil)
    (dss_cons (ds_set 3 sc__law_one_rule.nd (de_lst (da_cons de_str (da_cons de_str (da_cons de_str (da_cons de_str (da_cons de_str (da_cons de_str (da_cons de_str (da_cons de_str (da_cons de_str (da_cons de_str da_nil))))))))))))
    (dss_cons (ds_if (dw_and (dt_cmp op_inA ro_in (de_ix (de_var 0) de_int) (de_var 3) rfl) (dw_and1 (dt_truth (de_callX (ok__law_precedes T) (hr.mono (by decide)) (da_cons (de_ix (de_var 0) de_int) (da_cons (de_ix (de_var 0) de_int) da_nil)))))).dt
    (dss_one (ds_ret (de_tup (da_cons (de_ix (de_var 0) de_int) (da_cons (de_ix (de_var 0) de_int) (da_cons (de_ix (de_var 0) de_int) da_nil))))))
    dss_nil)
    (dss_cons (ds_set 4 sc__law_one_rule.nd (de_lst (da_cons (de_tup (da_cons de_str (da_cons de_int da_nil))) (da_cons (de_tup (da_cons de_str (da_cons de_int da_nil))) (da_cons (de_tup (da_cons de_str (da_cons de_str da_nil))) (da_cons (de_tup (da_cons de_str (da_cons (de_tup da_nil) da_nil))) (da_cons (de_tup (da_cons de_str (da_cons de_bl da_nil))) (da_cons (de_tup (da_cons de_str (da_cons de_bl da_nil))) da_nil))))))))
    (dss_cons (ds_for PassesOwn.never rfl (di_seq (de_var 4)) (dg_name (j := 5) sc__law_one_rule.nd rfl (by first | exact Or.inl rfl | exact Or.inr rfl))
    (dss_one (ds_if (dw_and (dt_cmp (op_eqD hr.units) ro_eq (de_ix (de_var 0) de_int) (de_ix (de_var 5) de_int) (nomark _)) (dw_and1 (dt_cmp (op_eqD hr.units) ro_eq (de_ix (de_var 0) de_int) (de_tup (da_cons de_str (da_cons (de_ix (de_var 5) de_int) da_nil))) (nomark _)))).dt
    (dss_one (ds_ret (de_ix (de_var 0) de_int)))
    dss_nil)))
    (dss_cons (ds_set 6 sc__law_one_rule.nd (de_lst (da_cons (de_tup (da_cons de_str (da_cons de_int da_nil))) (da_cons (de_tup (da_cons de_str (da_cons de_int da_nil))) (da_cons (de_tup (da_cons de_str (da_cons de_str da_nil))) (da_cons (de_tup (da_cons de_str (da_cons (de_tup da_nil) da_nil))) (da_cons (de_tup (da_cons de_str (da_cons de_int da_nil))) (da_cons (de_tup (da_cons de_str (da_cons de_int da_nil))) (da_cons (de_tup (da_cons de_str (da_cons de_int da_nil))) da_nil)))))))))
    (dss_cons (ds_for PassesOwn.never rfl (di_seq (de_var 6)) (dg_name (j := 5) sc__law_one_rule.nd rfl (by first | exact Or.inl rfl | exact Or.inr rfl))
    (dss_one (ds_if (dw_and (dt_cmp (op_eqD hr.units) ro_eq (de_ix (de_var 0) de_int) (de_ix (de_var 5) de_int) (nomark _)) (dw_and1 (dt_cmp (op_eqD hr.units) ro_eq (de_ix (de_var 0) de_int) (de_tup (da_cons de_str (da_cons (de_ix (de_var 5) de_int) da_nil))) (nomark _)))).dt
    (dss_one (ds_ret (de_ix (de_var 0) de_int)))
    dss_nil)))
    (dss_one (ds_ret (de_var 0)))))))))))))))))))
theorem ok__law_simplified_n (T : Txt P w K mg C) : ∀ n : Nat, FnX P w K mg base (37 + n) "_law_simplified" 1 (m__law_simplified_n n)
  | 0 => def_okX (k := 36) (EC := EC0 C) T.f__law_simplified sc__law_simplified fun f cdv A outer s H E hr => dss_no
  | n + 1 =>
    have ih := ok__law_simplified_n T n
    def_okX (k := 37 + n) (EC := EC0 C) T.f__law_simplified sc__law_simplified fun f cdv A outer s H E hr => (show DSs _ _ _ _ (b__law_simplified (m__law_simplified_n n)) from
  (dss_cons (ds_if (dt_cmp op_inA ro_in (de_ix (de_var 0) de_int) (de_lst (da_cons de_str (da_cons de_str da_nil))) rfl)
    (dss_one (ds_ret (de_var 0)))
    dss_nil)
    (dss_cons (ds_set 1 sc__law_simplified.nd (de_op op_addA ro_add (de_tup (da_cons (de_ix (de_var 0) de_int) da_nil)) (de_callTy call_tupleF rc_tuple (by rfl) T.z_tuple (by decide +kernel) (da_cons (de_of (dl_lc (own := [(("k" : Str), 2)]) (W0 := W00) rfl sc__law_simplified.nd (di_rng2 (by rfl) T.z_range de_int (de_callB call_len rc_len (by rfl) T.z_len (by decide +kernel) (da_cons (de_var 0) da_nil))) (blkOk_by (N := N__law_simplified) (sc := defScope s__law_simplified) (by decide +kernel)) (fun _ _ _ _ _ => (dg_name (j := 2) sc__law_simplified.nd rfl (by first | exact Or.inl rfl | exact Or.inr rfl))) (by simp) (fun _ _ _ _ _ => dts_nil) (fun _ _ _ _ _ => (de_callX ih (hr.mono (by omega)) (da_cons (de_ix (de_var 0) (de_var 2)) da_nil))))) da_nil))))
    (dss_cons (ds_for PassesOwn.never rfl (di_rng1 (by rfl) T.z_range de_int) (dg_name (j := 2) sc__law_simplified.nd rfl (by first | exact Or.inl rfl | exact Or.inr rfl))
    (dss_cons (ds_set 3 sc__law_simplified.nd (de_callX (ok__law_one_rule T) (hr.mono (by omega)) (da_cons (de_var 1) da_nil)))
    (dss_cons (ds_if (dt_cmp (op_eqD hr.units) ro_eq (de_var 3) (de_var 1) (nomark _))
    (dss_one ds_break)
    dss_nil)
    (dss_one (ds_set 1 sc__law_simplified.nd (de_var 3))))))
    (dss_one (ds_ret (de_var 1)))))))
theorem ok__law_simplified (T : Txt P w K mg C) : FnX P w K mg base 70 "_law_simplified" 1 m__law_simplified := ok__law_simplified_n T 33
theorem ok__law_wrapped (T : Txt P w K mg C) : FnX P w K mg base 1 "_law_wrapped" 3 m__law_wrapped :=
  def_okX (k := 0) (EC := EC0 C) T.f__law_wrapped sc__law_wrapped fun f cdv A outer s H E hr => (show DSs _ _ _ _ b__law_wrapped from
  (dss_cons (ds_set 3 sc__law_wrapped.nd (de_lst (da_cons de_str (da_cons de_str (da_cons de_str (da_cons de_str (da_cons de_str (da_cons de_str (da_cons de_str (da_cons de_str (da_cons de_str (da_cons de_str da_nil))))))))))))
    (dss_cons (ds_set 4 sc__law_wrapped.nd (de_op op_addA ro_add (de_op op_mulA ro_mul (de_m1 PySem.F.slot_str_index PySem.F.type_str_index mt_indexS rm_indexS de_str (de_var 1)) de_int) (de_op op_modN ro_mod (de_var 2) de_int)))
    (dss_cons (ds_if (dw_and (dt_cmp (op_eqD hr.units) ro_eq (de_var 1) de_str (nomark _)) (dw_and1 (dt_cmp (op_gtA hr.units0) ro_gt (de_op op_modN ro_mod (de_var 2) de_int) de_int (nomark _)))).dt
    (dss_one (ds_set 4 sc__law_wrapped.nd (de_op op_addA ro_add de_int (de_op op_modN ro_mod (de_var 2) de_int))))
    dss_nil)
    (dss_cons (ds_if (dt_cmp (op_eqD hr.units) ro_eq (de_op op_modN ro_mod (de_op op_divA ro_div (de_var 2) de_int) de_int) de_int (nomark _))
    (dss_one (ds_ret (de_tup (da_cons (de_ix (de_var 3) (de_var 4)) (da_cons (de_var 0) da_nil)))))
    dss_nil)
    (dss_cons (ds_set 5 sc__law_wrapped.nd (de_lst (da_cons (de_tup (da_cons de_str (da_cons (de_op op_modN ro_mod (de_op op_divA ro_div (de_var 2) de_int) de_int) da_nil))) (da_cons (de_tup (da_cons de_str (da_cons (de_cmp (op_eqD hr.units) ro_eq (de_op op_modN ro_mod (de_op op_divA ro_div (de_var 2) de_int) de_int) de_int (nomark _)) da_nil))) (da_cons (de_tup (da_cons de_str (da_cons de_str da_nil))) (da_cons (de_tup (da_cons de_str (da_cons (de_tup da_nil) da_nil))) da_nil))))))
    (dss_cons (ds_set 6 sc__law_wrapped.nd (de_ix (de_var 5) (de_m1 PySem.F.slot_str_index PySem.F.type_str_index mt_indexS rm_indexS de_str (de_var 1))))
    (dss_cons (ds_set 7 sc__law_wrapped.nd (de_lst (da_cons (de_lst (da_cons de_str (da_cons de_str (da_cons de_str (da_cons de_str (da_cons de_str (da_cons de_str da_nil))))))) (da_cons (de_lst (da_cons de_str (da_cons de_str da_nil))) (da_cons (de_lst (da_cons de_str da_nil)) (da_cons (de_lst (da_cons de_str (da_cons de_str da_nil))) da_nil))))))
    (dss_cons (ds_set 8 sc__law_wrapped.nd (de_ix (de_var 7) (de_m1 PySem.F.slot_str_index PySem.F.type_str_index mt_indexS rm_indexS de_str (de_var 1))))
    (dss_cons (ds_set 9 sc__law_wrapped.nd (de_ix (de_var 8) (de_op op_modN ro_mod (de_op op_divA ro_div (de_var 2) de_int) (de_callB call_len rc_len (by rfl) T.z_len (by decide +kernel) (da_cons (de_var 8) da_nil)))))
    (dss_cons (ds_if (dt_cmp (op_eqD hr.units) ro_eq (de_op op_modN ro_mod (de_op op_divA ro_div (de_var 2) de_int) de_int) de_int (nomark _))
    (dss_one (ds_ret (de_tup (da_cons (de_var 9) (da_cons (de_var 0) (da_cons (de_var 6) da_nil))))))
    dss_nil)
    (dss_one (ds_ret (de_tup (da_cons (de_var 9) (da_cons (de_ix (de_lst (da_cons (de_var 6) (da_cons (de_var 0) da_nil))) (de_op op_modN ro_mod (de_op op_divA ro_div (de_var 2) de_int) de_int)) (da_cons (de_var 0) da_nil)))))))))))))))))
theorem body_law (T : Txt P w K mg C) {f : Addr} {cdv : Value} {A : Around} {outer : List Env} {s : Shared} {H : Hp} {E : XK} (hr : Room 72 (A.deeper (envOfC "law" (defScope s_law) s.heap.objs.size f cdv))) :
    DSs (cxOf CX0 P w K mg base N_law "law" (defScope s_law) f cdv A outer s H E).nox (EC0 C) (fun _ _ _ _ => False) (defBody s_law) b_law :=
  (dss_cons (ds_set 1 sc_law.nd (de_callB call_abs rc_abs (by rfl) T.z_abs (by decide +kernel) (da_cons (de_callX (ok__law_cell T) (hr.mono (by decide)) (da_cons (de_var 0) (da_cons de_int da_nil))) da_nil)))
    (dss_cons (ds_set 2 sc_law.nd (de_m1 PySem.F.slot_str_join PySem.F.type_str_join mt_join rm_join de_str (de_of (dl_lc (own := [(("k" : Str), 8)]) (W0 := W00) rfl sc_law.nd (di_rng1 (by rfl) T.z_range (de_op op_modN ro_mod (de_var 1) de_int)) (blkOk_by (N := N_law) (sc := defScope s_law) (by decide +kernel)) (fun _ _ _ _ _ => (dg_name (j := 8) sc_law.nd rfl (by first | exact Or.inl rfl | exact Or.inr rfl))) (by simp) (fun _ _ _ _ _ => dts_nil) (fun _ _ _ _ _ => (de_ix de_str (de_op op_modN ro_mod (de_op op_divA ro_div (de_var 1) (de_op op_addA ro_add de_int (de_op op_mulA ro_mul de_int (de_var 8)))) de_int)))))))
    (dss_cons (ds_setM 3 sc_law.nd (dl_cat (de_of (dl_lc (own := [(("cell" : Str), 12)]) (W0 := W00) rfl sc_law.nd (di_seq (de_sl (de_var 0) (do_some de_int) (do_some de_int))) (blkOk_by (N := N_law) (sc := defScope s_law) (by decide +kernel)) (fun _ _ _ _ _ => (dg_name (j := 12) sc_law.nd rfl (by first | exact Or.inl rfl | exact Or.inr rfl))) (by simp) (fun _ _ _ _ _ => dts_nil) (fun _ _ _ _ _ => (de_op op_divA ro_div (de_callB call_abs rc_abs (by rfl) T.z_abs (by decide +kernel) (da_cons (de_callTy call_intA rc_int (by rfl) T.z_int (by decide +kernel) (da_cons (de_var 12) da_nil)) da_nil)) de_int)))) (de_callX (ok__law_draws T) (hr.mono (by decide)) (da_cons (de_callX (ok__law_cell T) (hr.mono (by decide)) (da_cons (de_var 0) (da_cons de_int da_nil))) (da_cons de_int (da_cons de_int da_nil))))))
    (dss_cons (ds_set 4 sc_law.nd (de_ix de_str (de_op op_modN ro_mod (de_callB call_abs rc_abs (by rfl) T.z_abs (by decide +kernel) (da_cons (de_callX (ok__law_cell T) (hr.mono (by decide)) (da_cons (de_var 0) (da_cons de_int da_nil))) da_nil)) de_int)))
    (dss_cons (ds_set 5 sc_law.nd (de_callX0 (ok__law_library T) (hr.mono (by decide))))
    (dss_cons (ds_set 6 sc_law.nd (de_op op_addA ro_add de_int (de_op op_modN ro_mod (de_op op_divA ro_div (de_callB call_abs rc_abs (by rfl) T.z_abs (by decide +kernel) (da_cons (de_callX (ok__law_cell T) (hr.mono (by decide)) (da_cons (de_var 0) (da_cons de_int da_nil))) da_nil)) de_int) de_int)))
    (dss_cons (ds_set 7 sc_law.nd (de_lend 3 (ok__law_program T) (hr.mono (by decide)) (da_cons (de_var 4) (da_cons (de_var 2) (da_cons (de_var 6) (da_cons (de_var 5) da_nil))))))
    (dss_cons (ds_for PassesOwn.never rfl (di_rng1 (by rfl) T.z_range (de_op op_modN ro_mod (de_op op_divA ro_div (de_var 1) de_int) de_int)) (dg_name (j := 8) sc_law.nd rfl (by first | exact Or.inl rfl | exact Or.inr rfl))
    (dss_one (ds_if (dt_cmp (op_ltA hr.units0) ro_lt (de_callB call_len rc_len (by rfl) T.z_len (by decide +kernel) (da_cons (de_callX (ok__law_parts T) (hr.mono (by decide)) (da_cons (de_var 7) da_nil)) da_nil)) de_int (nomark _))
    (dss_one (ds_set 7 sc_law.nd (de_callX (ok__law_wrapped T) (hr.mono (by decide)) (da_cons (de_var 7) (da_cons (de_var 4) (da_cons (de_callB call_abs rc_abs (by rfl) T.z_abs (by decide +kernel) (da_cons (de_callX (ok__law_cell T) (hr.mono (by decide)) (da_cons (de_var 0) (da_cons (de_op op_addA ro_add de_int (de_var 8)) da_nil))) da_nil)) da_nil))))))
    dss_nil)))
    (dss_cons (ds_if (dt_cmp (op_gtA hr.units0) ro_gt (de_callB call_len rc_len (by rfl) T.z_len (by decide +kernel) (da_cons (de_callX (ok__law_parts T) (hr.mono (by decide)) (da_cons (de_var 7) da_nil)) da_nil)) de_int (nomark _))
    (dss_one (ds_ret de_bl))
    dss_nil)
    (dss_cons (ds_if (dt_cmp (op_neD hr.units) ro_ne (de_callX (ok_simplify T) (hr.mono (by decide)) (da_cons (de_var 7) da_nil)) (de_callX (ok__law_simplified T) (hr.mono (by decide)) (da_cons (de_var 7) da_nil)) (nomark _))
    (dss_one (ds_ret de_bl))
    dss_nil)
    (dss_cons (ds_set 9 sc_law.nd (de_lend 3 (ok__law_program T) (hr.mono (by decide)) (da_cons (de_var 4) (da_cons (de_var 2) (da_cons (de_var 6) (da_cons (de_var 5) da_nil))))))
    (dss_cons (ds_if (dt_cmp (op_gtA hr.units0) ro_gt (de_callB call_len rc_len (by rfl) T.z_len (by decide +kernel) (da_cons (de_callX (ok__law_parts T) (hr.mono (by decide)) (da_cons (de_var 9) da_nil)) da_nil)) de_int (nomark _))
    (dss_one (ds_ret de_bl))
    dss_nil)
    (dss_cons (ds_for PassesOwn.never rfl (di_seq (de_lst (da_cons (de_tup (da_cons (de_var 7) (da_cons (de_var 9) da_nil))) (da_cons (de_tup (da_cons (de_var 9) (da_cons (de_var 7) da_nil))) (da_cons (de_tup (da_cons (de_var 7) (da_cons (de_var 7) da_nil))) da_nil))))) (dg_name (j := 10) sc_law.nd rfl (by first | exact Or.inl rfl | exact Or.inr rfl))
    (dss_cons (ds_set 11 sc_law.nd (de_callX (ok_precedes T) (hr.mono (by decide)) (da_cons (de_ix (de_var 10) de_int) (da_cons (de_ix (de_var 10) de_int) da_nil))))
    (dss_one (ds_if (dw_or (dt_not (dt_truth (de_isi (T := "bool") (by unfold TyKnown; decide) (de_var 11) (by rfl) T.z_isinstance (by rfl) T.z_bool (by decide +kernel)))) (dw_or1 (dt_cmp (op_neD hr.units) ro_ne (de_var 11) (de_callX (ok__law_precedes T) (hr.mono (by decide)) (da_cons (de_ix (de_var 10) de_int) (da_cons (de_ix (de_var 10) de_int) da_nil))) (nomark _)))).dt
    (dss_one (ds_ret de_bl))
    dss_nil))))
    (dss_one (ds_ret de_bl)))))))))))))))
theorem fin (T : Txt P w K mg C) : FunX K mg "law" s_law ["script"] ∧ ∀ (base : Heap) (f : Addr) (cdv : Value) (A : Around) (outer : List Env) (s : Shared) (H : Hp) (E : XK), Room 72 (A.deeper (envOfC "law" (defScope s_law) s.heap.objs.size f cdv)) →
    DSs (cxOf CX0 P w K mg base N_law "law" (defScope s_law) f cdv A outer s H E).nox (EC0 C) (fun _ _ _ _ => False) (defBody s_law) b_law := ⟨T.f_law, fun base f cdv A outer s H E hr => body_law T hr⟩
end
end K19
end Part_K19o

section Part_MA
set_option Elab.async false
set_option linter.all false
set_option maxRecDepth 100000
set_option autoImplicit false
set_option maxHeartbeats 2000000
namespace DL
open PySem PySem.Spec PyProof.Rows L2 Evl SX
/-! ### texts as lists of code points -/
theorem sh_S {l : List Nat} (h : ∀ c ∈ l, c < 1000) : SeqAt.shaped (.str (S l)) = true := by
  show (PyData.strOk (S l) && decide ((PyData.str (S l)).depth ≤ 64)) = true
  rw [Bool.and_eq_true]
  refine ⟨?_, by rfl⟩
  show (S l).cps.all (· < 0x110000) = true
  rw [← Array.all_toList, List.all_eq_true]
  intro c hc
  have := h c hc
  exact decide_eq_true (by omega)
theorem sh_ints (ns : List Int) : SeqAt.shaped (.tuple (ns.map .int)) = true := by
  have h : ∀ ns : List Int, PyData.canLayAll0 (ns.map .int) = true ∧ PyData.depthAll (ns.map .int) = 0 := by
    intro ns
    induction ns with
    | nil => exact ⟨rfl, rfl⟩
    | cons n ns ih =>
      refine ⟨?_, ?_⟩
      · show (PyData.canLay0 (.int n) && PyData.canLayAll0 (ns.map .int)) = true
        rw [ih.1]; rfl
      · show max (PyData.depth (.int n)) (PyData.depthAll (ns.map .int)) = 0
        rw [ih.2]; rfl
  show (PyData.canLayAll0 (ns.map .int) && decide (PyData.depthAll (ns.map .int) + 1 ≤ 64)) = true
  rw [(h ns).1, (h ns).2]
  rfl
theorem len_S {l : List Nat} (h : l.length ≤ 16777216) : dLen [.str (S l)] = some (.int l.length) := by
  rw [len_s (by rw [S_len]; exact h), S_len]
theorem cat_S {l m : List Nat} (h : l.length + m.length ≤ 16777216) : dAdd (.str (S l)) (.str (S m)) = some (.str (S (l ++ m))) := by
  show (if (S l).length + (S m).length ≤ LINE then some (PyData.str (S l ++ S m)) else none) = _
  rw [S_len, S_len, if_pos h, S_cat]
theorem ix_S {l : List Nat} {k : Nat} (h : l.length ≤ 16777216) : dIx (.str (S l)) (.int k) = (l[k]?).map fun c => .str (S [c]) := by
  show (if (S l).length ≤ LINE then (atI l k).map fun c => PyData.str ⟨#[c]⟩ else none) = _
  rw [S_len, if_pos h, at_nat]
theorem sl_S {l : List Nat} {a b : Nat} (h : l.length ≤ 16777216) : dSl (.str (S l)) (some a) (some b) = some (.str (S ((l.drop a).take (b - a)))) := by
  show (if (S l).length ≤ LINE then some (PyData.str (cutS (S l) (some a) (some b))) else none) = _
  rw [S_len, if_pos h]
  unfold cutS
  rw [S_len, HT.sIx_nat, HT.sIx_nat]
  show some (PyData.str (S ((l.drop _).take _))) = _
  congr 3
  rcases Nat.le_total a l.length with q | q
  · rw [Nat.min_eq_left q]
    rcases Nat.le_total b l.length with q2 | q2
    · rw [Nat.min_eq_left q2]
    · rw [Nat.min_eq_right q2, List.take_of_length_le (by rw [List.length_drop]; omega), List.take_of_length_le (by rw [List.length_drop]; omega)]
  · rw [Nat.min_eq_right q, List.drop_of_length_le (Nat.le_refl _), List.drop_of_length_le q]
    simp
theorem eq_S {l m : List Nat} (h : ∀ c ∈ l, c < 1000) (h' : ∀ c ∈ m, c < 1000) : dEq (.str (S l)) (.str (S m)) = some (.bool (decide (l = m))) := by
  unfold dEq
  rw [sh_S h, sh_S h', ← S_beq_eq]
  rfl
theorem ne_S {l m : List Nat} (h : ∀ c ∈ l, c < 1000) (h' : ∀ c ∈ m, c < 1000) : dNe (.str (S l)) (.str (S m)) = some (.bool (!decide (l = m))) := by
  unfold dNe
  rw [sh_S h, sh_S h', ← S_beq_eq]
  rfl
theorem in_S (c : Nat) (m : List Nat) : dIn (.str (S [c])) (.str (S m)) = some (.bool (decide (c ∈ m))) := rfl
theorem items_S (l : List Nat) : dItems (.str (S l)) = some (l.map fun c => .str (S [c])) := rfl
theorem join_S' {a : List Nat} {ls : List (List Nat)} (h : (ls.map (·.length)).sum + ls.length * a.length ≤ 16777216) : dJoin (.str (S a)) [.list (ls.map fun l => .str (S l))] = some (.str (S (TL.joinL a ls))) := by
  have e : (ls.map fun l => PyData.str (S l)) = (ls.map S).map PyData.str := by rw [List.map_map]; rfl
  show (dStrs _).bind (joinOk (S a)) = _
  rw [e, dStrs_map]
  show joinOk (S a) (ls.map S) = _
  unfold joinOk
  rw [lens, List.length_map, S_len, if_pos h, join_S]
theorem int_dig {c : Nat} (h1 : 48 ≤ c) (h2 : c ≤ 57) : dInt [.str (S [c])] = some (.int ((c - 48 : Nat) : Int)) := by
  show (if (S [c]).length ≤ 640 then (PySem.intText? (S [c])).map PyData.int else none) = _
  rw [S_len, if_pos (by simp), int_S (by simp; omega) (by simp) (by simp)]
  show some (PyData.int ((0 * 10 + (c - 48) : Nat) : Int)) = _
  rw [Nat.zero_mul, Nat.zero_add]
/-- the text of an int -/
def iL (i : Int) : List Nat := if 0 ≤ i then TL.numL i.toNat else 45 :: TL.numL (-i).toNat
theorem iL_eq (i : Int) : Str.ofString (toString i) = S (iL i) := by
  unfold iL
  split
  · rename_i h
    obtain ⟨n, rfl⟩ := Int.eq_ofNat_of_zero_le h
    exact num_S n
  · rename_i h
    obtain ⟨n, hn⟩ : ∃ n : Nat, i = -((n + 1 : Nat) : Int) := ⟨(-i).toNat - 1, by omega⟩
    subst hn
    have e : (-(-((n + 1 : Nat) : Int))).toNat = n + 1 := by omega
    rw [e]
    apply TL.ext_tl
    rw [TL.tl_ofString]
    show (Int.repr (Int.negSucc n)).toList.map Char.toNat = 45 :: TL.numL (n + 1)
    show (("-" ++ Nat.repr (n + 1)) : String).toList.map Char.toNat = _
    rw [String.toList_append, List.map_append]
    show 45 :: (Nat.repr (n + 1)).toList.map Char.toNat = _
    rw [Nat.toList_repr]
    rfl
theorem str_i {i : Int} (h1 : -1000000 ≤ i) (h2 : i ≤ 1000000) : dStr [.int i] = some (.str (S (iL i))) := by
  show (if i.natAbs.log2 < 1920 then some (PyData.str (Str.ofString (toString i))) else none) = _
  rw [if_pos, iL_eq]
  have h : i.natAbs < 2 ^ 1920 := Nat.lt_of_le_of_lt (show i.natAbs ≤ 1000000 by omega) (by decide +kernel)
  by_cases q : i.natAbs = 0
  · rw [q]; decide
  · exact (Nat.log2_lt q).mpr h
theorem lt_S (l m : List Nat) : dLt (.str (S l)) (.str (S m)) = some (.bool (decide (l < m))) := rfl
theorem gt_S (l m : List Nat) : dGt (.str (S l)) (.str (S m)) = some (.bool (decide (m < l))) := rfl
theorem lt_T (l m : List Int) : dLt (.tuple (l.map .int)) (.tuple (m.map .int)) = some (.bool (HT.lexLt l m)) := by
  show (match dInts (l.map .int), dInts (m.map .int) with | some ns, some ms => some (PyData.bool (HT.lexLt ns ms)) | _, _ => none) = _
  rw [dInts_map, dInts_map]
theorem gt_T (l m : List Int) : dGt (.tuple (l.map .int)) (.tuple (m.map .int)) = some (.bool (HT.lexLt m l)) := by
  show (match dInts (l.map .int), dInts (m.map .int) with | some ns, some ms => some (PyData.bool (HT.lexLt ms ns)) | _, _ => none) = _
  rw [dInts_map, dInts_map]
theorem eqv_ints : ∀ l m : List Int, PyData.eqvAll (l.map .int) (m.map .int) = decide (l = m)
  | [], [] => rfl
  | [], _ :: _ => rfl
  | _ :: _, [] => rfl
  | x :: xs, y :: ys => by
    show ((x == y) && PyData.eqvAll (xs.map .int) (ys.map .int)) = _
    rw [eqv_ints xs ys]
    by_cases h : x = y <;> by_cases h2 : xs = ys <;> simp [h, h2]
theorem eq_T (l m : List Int) : dEq (.tuple (l.map .int)) (.tuple (m.map .int)) = some (.bool (decide (l = m))) := by
  unfold dEq
  rw [sh_ints, sh_ints, ← eqv_ints]
  rfl
theorem ne_T (l m : List Int) : dNe (.tuple (l.map .int)) (.tuple (m.map .int)) = some (.bool (!decide (l = m))) := by
  unfold dNe
  rw [sh_ints, sh_ints, ← eqv_ints]
  rfl
/-! ### cells that are known to be no borrowed list -/
theorem setV_s {δ : Dl} {j : Nat} {d : D} (h : (δ[j]?).map Cell.isVar = some false) : setV j d δ = some (δ.set j (.val d)) := by
  unfold setV
  cases q : δ[j]? with
  | none => rw [q] at h; cases h
  | some c =>
    rw [q] at h
    cases c with
    | var b ds => cases h
    | non => rfl
    | val d => rfl
/-! ### for -/
theorem mFor_inv {g : D → Dl → Option Dl} {body : M Fl} {items : List D} (Inv : Nat → Dl → Prop) (step : ∀ i x δ, items[i]? = some x → Inv i δ → ∃ δ1, g x δ = some δ1 ∧ ∃ δ2, body δ1 = .ok .nx δ2 ∧ Inv (i + 1) δ2) : ∀ {δ : Dl}, Inv 0 δ → ∃ δ', mFor g body items δ = .ok .nx δ' ∧ Inv items.length δ' := by
  have H : ∀ (r : List D) (k : Nat), items.drop k = r → k ≤ items.length → ∀ δ : Dl, Inv k δ → ∃ δ', mFor g body r δ = .ok .nx δ' ∧ Inv items.length δ' := by
    intro r
    induction r with
    | nil =>
      intro k hk hl δ h
      have e : k = items.length := by
        have := congrArg List.length hk
        rw [List.length_drop, List.length_nil] at this
        omega
      subst e
      exact ⟨δ, rfl, h⟩
    | cons x r ih =>
      intro k hk hl δ h
      have hx : items[k]? = some x := by
        have := congrArg (fun l => l[0]?) hk
        simpa using this
      have hl2 : k < items.length := by
        rcases Nat.lt_or_ge k items.length with q | q
        · exact q
        · rw [List.drop_of_length_le q] at hk; cases hk
      obtain ⟨δ1, h1, δ2, h2, h3⟩ := step k x δ hx h
      obtain ⟨δ', h4, h5⟩ := ih (k + 1) (by rw [← List.drop_drop, hk]; rfl) hl2 δ2 h3
      refine ⟨δ', ?_, h5⟩
      unfold mFor
      rw [h1]
      simp only [h2, bind_ok]
      exact h4
  exact fun {δ} h => H items 0 rfl (Nat.zero_le _) δ h
/-- .. with an early return -/
theorem mFor_ret {g : D → Dl → Option Dl} {body : M Fl} {items : List D} (Inv : Nat → Dl → Prop) (P : D → Prop) (step : ∀ i x δ, items[i]? = some x → Inv i δ → ∃ δ1, g x δ = some δ1 ∧ ∃ δ2, (body δ1 = .ok .nx δ2 ∧ Inv (i + 1) δ2 ∨ ∃ d, body δ1 = .ok (.rt d) δ2 ∧ P d)) : ∀ {δ : Dl}, Inv 0 δ → (∃ δ', mFor g body items δ = .ok .nx δ' ∧ Inv items.length δ') ∨ ∃ d δ', mFor g body items δ = .ok (.rt d) δ' ∧ P d := by
  have H : ∀ (r : List D) (k : Nat), items.drop k = r → k ≤ items.length → ∀ δ : Dl, Inv k δ → (∃ δ', mFor g body r δ = .ok .nx δ' ∧ Inv items.length δ') ∨ ∃ d δ', mFor g body r δ = .ok (.rt d) δ' ∧ P d := by
    intro r
    induction r with
    | nil =>
      intro k hk hl δ h
      have e : k = items.length := by
        have := congrArg List.length hk
        rw [List.length_drop, List.length_nil] at this
        omega
      subst e
      exact .inl ⟨δ, rfl, h⟩
    | cons x r ih =>
      intro k hk hl δ h
      have hx : items[k]? = some x := by
        have := congrArg (fun l => l[0]?) hk
        simpa using this
      have hl2 : k < items.length := by
        rcases Nat.lt_or_ge k items.length with q | q
        · exact q
        · rw [List.drop_of_length_le q] at hk; cases hk
      obtain ⟨δ1, h1, δ2, h⟩ := step k x δ hx h
      rcases h with ⟨h2, h3⟩ | ⟨d, h2, h3⟩
      · rcases ih (k + 1) (by rw [← List.drop_drop, hk]; rfl) hl2 δ2 h3 with ⟨δ', h4, h5⟩ | ⟨d, δ', h4, h5⟩
        · refine .inl ⟨δ', ?_, h5⟩
          unfold mFor
          rw [h1]
          simp only [h2, bind_ok]
          exact h4
        · refine .inr ⟨d, δ', ?_, h5⟩
          unfold mFor
          rw [h1]
          simp only [h2, bind_ok]
          exact h4
      · refine .inr ⟨d, δ2, ?_, h3⟩
        unfold mFor
        rw [h1]
        simp only [h2, bind_ok]
  exact fun {δ} h => H items 0 rfl (Nat.zero_le _) δ h
theorem rng_at {lo hi : Int} {k : Nat} {d : D} (h : (rng lo hi)[k]? = some d) : d = .int (lo + k) ∧ lo + k < hi := by
  unfold rng at h
  rw [List.getElem?_map] at h
  cases q : (List.range (hi - lo).toNat)[k]? with
  | none => rw [q] at h; cases h
  | some n =>
    rw [q] at h
    cases h
    obtain ⟨h1, h2⟩ := List.getElem?_eq_some_iff.mp q
    rw [List.getElem_range] at h2
    rw [List.length_range] at h1
    subst h2
    exact ⟨rfl, by omega⟩
/-- one turn of a while -/
theorem mWhile_turn {t : M Bool} {body : M Fl} {n : Nat} {δ δ1 : Dl} (h1 : t δ = .ok true δ) (h2 : body δ = .ok .nx δ1) : mWhile t body (n + 1) δ = mWhile t body n δ1 := by
  rw [mWhile]
  simp only [h1, h2, bind_ok, if_true]
theorem mWhile_end {t : M Bool} {body : M Fl} {n : Nat} {δ : Dl} (h1 : t δ = .ok false δ) : mWhile t body (n + 1) δ = .ok .nx δ := by
  rw [mWhile]
  simp only [h1, bind_ok, Bool.false_eq_true, if_false]
theorem mWhile_get {t : M Bool} {body : M Fl} {n : Nat} {δ δ1 : Dl} {f : Fl} (h : mWhile t body n δ = .ok f δ1) : mWhileS t body δ = .ok f δ1 := by
  rw [mWhileS_eq (n := n) (by rw [h]; intro e; cases e), h]
end DL
end Part_MA

section Part_YA
set_option Elab.async false
set_option linter.all false
set_option maxRecDepth 100000
set_option autoImplicit false
set_option maxHeartbeats 2000000
namespace K19
open PySem PySem.Spec PyProof.Rows L2 DL SX
theorem iv_non : Cell.isVar .non = false := rfl
theorem iv_val (d : D) : Cell.isVar (.val d) = false := rfl
/-- a cell that is no borrowed list -/
def cO : Option D → Cell
  | none => .non
  | some d => .val d
theorem iv_cO (o : Option D) : Cell.isVar (cO o) = false := by cases o <;> rfl
theorem setV_zn (d : D) (δ : Dl) : setV 0 d (.non :: δ) = some (.val d :: δ) := rfl
theorem setV_zv (d x : D) (δ : Dl) : setV 0 d (.val x :: δ) = some (.val d :: δ) := rfl
theorem setV_zo (d : D) (o : Option D) (δ : Dl) : setV 0 d (cO o :: δ) = some (.val d :: δ) := by cases o <;> rfl
theorem setV_succ (j : Nat) (d : D) (c : Cell) (δ : Dl) : setV (j + 1) d (c :: δ) = (setV j d δ).map (c :: ·) := by
  unfold setV
  rw [List.getElem?_cons_succ]
  cases q : δ[j]? with
  | none => rfl
  | some x => cases x with
    | var b ds => cases b <;> rfl
    | non => rfl
    | val d => rfl
local macro_rules | `(tactic| walk_at "ev") => `(tactic| try simp -implicitDefEqProofs only [mDef, mSeq, mIf, mT, mTr, mOp, mUn, mVar, mC, mCall, mCons, mNil, mRet, mSkip, mAsg, mSl, mPart, mNoPart, mAndT, mOrT, mNotT, mAnd, mOr, mNot, mIfE, mChain, mIs, mIs2, mOf, mNew, mCallF, mM1, mM0, mIxM, mLenM, mApp, mSetM, mSetIx, mAug, mFrz, mForS, mRng1, mRng2, mItems, setV_zn, setV_zv, setV_zo, setV_succ, setM, frz, setT2, mBk, mCt, mNo, 
  DL.bind_ok, DL.bind_no, DL.bind_ite, lift_some, lift_none, List.map_cons, List.map_nil, List.length_cons, List.length_nil, List.replicate_succ, List.replicate_zero, List.cons_append, List.nil_append, List.append_nil, List.getElem?_cons_zero, List.getElem?_cons_succ, List.set_cons_zero, List.set_cons_succ, Nat.reduceAdd, Nat.reduceSub, Nat.zero_add, Nat.sub_self, decide_eq_true_eq,
  add_ii, sub_ii, neg_i, mul_r, mul_l, div_s, mod_s, eq_ii, ne_ii, eq_bb, ne_bb, lt_ii, gt_ii, le_ii, ge_ii, len_l, len_t, int_i, int_b, abs_i, max_ii, min_ii, tuple_l, ix_l, ix_t, tr_b, Nat.reduceLeDiff, if_true, if_false, Option.map_some, Option.bind_some, reduceIte, Int.reduceLT, Int.reduceNeg, Int.reduceMul, Nat.reduceLT, Nat.le_refl, LINE, Bool.false_eq_true, Bool.not_true, Bool.not_false, Bool.true_eq_false])
local macro_rules | `(tactic| walk_at "ev*") => `(tactic| try simp -implicitDefEqProofs only [mDef, mSeq, mIf, mT, mTr, mOp, mUn, mVar, mC, mCall, mCons, mNil, mRet, mSkip, mAsg, mSl, mPart, mNoPart, mAndT, mOrT, mNotT, mAnd, mOr, mNot, mIfE, mChain, mIs, mIs2, mOf, mNew, mCallF, mM1, mM0, mIxM, mLenM, mApp, mSetM, mSetIx, mAug, mFrz, mForS, mRng1, mRng2, mItems, setV_zn, setV_zv, setV_zo, setV_succ, setM, frz, setT2, mBk, mCt, mNo, 
  DL.bind_ok, DL.bind_no, DL.bind_ite, lift_some, lift_none, List.map_cons, List.map_nil, List.length_cons, List.length_nil, List.replicate_succ, List.replicate_zero, List.cons_append, List.nil_append, List.append_nil, List.getElem?_cons_zero, List.getElem?_cons_succ, List.set_cons_zero, List.set_cons_succ, Nat.reduceAdd, Nat.reduceSub, Nat.zero_add, Nat.sub_self, decide_eq_true_eq,
  add_ii, sub_ii, neg_i, mul_r, mul_l, div_s, mod_s, eq_ii, ne_ii, eq_bb, ne_bb, lt_ii, gt_ii, le_ii, ge_ii, len_l, len_t, int_i, int_b, abs_i, max_ii, min_ii, tuple_l, ix_l, ix_t, tr_b, Nat.reduceLeDiff, if_true, if_false, Option.map_some, Option.bind_some, reduceIte, Int.reduceLT, Int.reduceNeg, Int.reduceMul, Nat.reduceLT, Nat.le_refl, LINE, Bool.false_eq_true, Bool.not_true, Bool.not_false, Bool.true_eq_false, *])
theorem cell_eq (ns : List Int) (k : Nat) : m__law_cell [.list (ns.map .int), .int k] = .ok (.int (ns.getD k 0)) [] := by
  unfold m__law_cell b__law_cell
  walk_at "ev"
  rw [at_nat]
  by_cases h : k < ns.length
  · rw [if_pos (by rw [List.length_map]; omega)]
    simp [h]
    walk_at "ev"
  · rw [if_neg (by rw [List.length_map]; omega)]
    simp [h]
theorem number_eq (c : Int) : ∃ v : Int, m__law_number [.int c] = .ok (.int v) [] ∧ -1000000 ≤ v ∧ v ≤ 1000000 := by
  unfold m__law_number b__law_number
  walk_at "ev"
  split
  · exact ⟨_, rfl, by omega, by omega⟩
  split
  · exact ⟨_, rfl, by omega, by omega⟩
  split
  · obtain ⟨d, hd, e⟩ := at_ex [PyData.int 1000000, PyData.int (-1000000), PyData.int 999999, PyData.int 500000, PyData.int 500001, PyData.int (-500000), PyData.int 1000, PyData.int (-1000)] (i := c / 4 % 8) (by omega) (by show _ < (8 : Int); omega)
    rw [e]
    walk_at "ev"
    simp only [List.mem_cons, List.not_mem_nil, or_false] at hd
    rcases hd with rfl | rfl | rfl | rfl | rfl | rfl | rfl | rfl <;> exact ⟨_, rfl, by decide, by decide⟩
  · exact ⟨_, rfl, by omega, by omega⟩
theorem pow18 : dPow (.int 10) (.int 18) = some (.int 1000000000000000000) := by
  show (if CPow 10 18 then some (PyData.int (10 ^ (18 : Int).toNat)) else none) = _
  rw [if_pos (by decide +kernel)]
  rfl
/-- what a turn of the draws keeps -/
def DrI (c : Int) (n l : Int) (i : Nat) (δ : Dl) : Prop := ∃ (xs : List Int) (rest : Int) (o5 o6 : Option D), δ = [.val (.int c), .val (.int n), .val (.int l), .var false (xs.map .int), .val (.int rest), cO o5, cO o6] ∧ xs.length = i ∧ ∀ x ∈ xs, 0 ≤ x ∧ x < l
theorem draws_step {c n l : Int} {i : Nat} {δ : Dl} (h0 : 0 < l) (h1 : l < 1073741824) (I : DrI c n l i δ) (hi : i < 64) : ∃ δ1, setV 5 (.int i) δ = some δ1 ∧ ∃ δ2, b__law_draws_L1 δ1 = .ok .nx δ2 ∧ DrI c n l (i + 1) δ2 := by
  obtain ⟨xs, rest, o5, o6, rfl, hl, hr⟩ := I
  refine ⟨_, by walk_at "ev"; rfl, ?_⟩
  unfold b__law_draws_L1
  walk_at "ev"
  rw [pow18]
  walk_at "ev"
  have e1 : ∀ x : Int, dMod (.int x) (.int l) = some (.int (x % l)) := fun x => mod_s h0
  have e2 : ∀ x : Int, dDiv (.int x) (.int l) = some (.int (x / l)) := fun x => div_s h0 h1
  have e3 : ((xs.map PyData.int).length < 16777216) = True := by rw [List.length_map, hl]; exact eq_true (by omega)
  have hx : ∀ y : Int, ∀ x ∈ xs ++ [y % l], 0 ≤ x ∧ x < l := by
    intro y x hx
    rcases List.mem_append.mp hx with h | h
    · exact hr x h
    · rw [List.mem_singleton.mp h]
      exact ⟨Int.emod_nonneg _ (by omega), Int.emod_lt_of_pos _ h0⟩
  have em : ∀ y : Int, xs.map PyData.int ++ [.int y] = (xs ++ [y]).map .int := fun y => by rw [List.map_append]; rfl
  simp only [e1, e2]
  walk_at "ev"
  simp only [e3, if_true, e2]
  walk_at "ev"
  simp only [em, e2]
  walk_at "ev"
  generalize (if c < 0 then -c else c) = a
  split
  · split
    · exact ⟨_, rfl, _, _, some _, o6, rfl, by simp [hl], hx _⟩
    · exact ⟨_, rfl, _, _, some _, some _, rfl, by simp [hl], hx _⟩
  · exact ⟨_, rfl, _, _, some _, some _, rfl, by simp [hl], hx _⟩
theorem draws_eq (c : Int) {n : Nat} {l : Int} (hn : n ≤ 64) (h0 : 0 < l) (h1 : l < 1073741824) : ∃ xs : List Int, m__law_draws [.int c, .int n, .int l] = .ok (.list (xs.map .int)) [] ∧ xs.length = n ∧ ∀ x ∈ xs, 0 ≤ x ∧ x < l := by
  have A : DrI c n l 0 [.val (.int c), .val (.int n), .val (.int l), .var false [], .val (.int (if c < 0 then -c else c)), .non, .non] := ⟨[], _, none, none, rfl, rfl, by simp⟩
  obtain ⟨δ', e, xs, rest, o5, o6, rfl, hl, hx⟩ := mFor_inv (g := setV 5) (body := b__law_draws_L1) (items := rng 0 (n : Int)) (DrI c n l) (fun i x δ hx I => by
    obtain ⟨rfl, hi⟩ := rng_at hx
    rw [Int.zero_add]
    exact draws_step h0 h1 I (by omega)) A
  unfold m__law_draws b__law_draws
  walk_at "ev"
  rw [if_pos (big_of (by omega) (by omega))]
  walk_at "ev"
  rw [e]
  walk_at "ev"
  rw [rng_len] at hl
  exact ⟨xs, rfl, by omega, hx⟩
/-! ### values -/
inductive Kd where | n | t | s | l
/-- the signs of a text, in order -/
def AL : List Nat := [32, 48, 49, 50, 51, 52, 53, 54, 55, 56, 57, 97, 98, 99, 100, 101, 102, 103, 104, 105, 106, 107, 108, 109, 110, 111, 112, 113, 114, 115, 116, 117, 118, 119, 120, 121, 122]
def Rg (i : Int) : Prop := -1000000 ≤ i ∧ i ≤ 1000000
inductive Vk : Kd → D → Prop
  | n {i : Int} (h : Rg i) : Vk .n (.int i)
  | t (b : Bool) : Vk .t (.bool b)
  | s {l : List Nat} (h : l.length ≤ 30) (a : ∀ c ∈ l, c ∈ AL) : Vk .s (.str (S l))
  | l {ns : List Int} (h : ns.length ≤ 12) (a : ∀ i ∈ ns, Rg i) : Vk .l (.tuple (ns.map .int))
def letter : Kd → Str
  | .n => "n" | .t => "t" | .s => "s" | .l => "l"
theorem eq_lit {a b : Str} {r : Bool} (h : (SeqAt.shaped (.str a) && SeqAt.shaped (.str b)) = true) (e : (a == b) = r) : dEq (.str a) (.str b) = some (.bool r) := by
  unfold dEq
  rw [h]
  show some (PyData.bool (a == b)) = _
  rw [e]
theorem e_nn : dEq (.str "n") (.str "n") = some (.bool true) := eq_lit (by decide +kernel) (by decide +kernel)
theorem e_tn : dEq (.str "t") (.str "n") = some (.bool false) := eq_lit (by decide +kernel) (by decide +kernel)
theorem e_tt : dEq (.str "t") (.str "t") = some (.bool true) := eq_lit (by decide +kernel) (by decide +kernel)
theorem e_sn : dEq (.str "s") (.str "n") = some (.bool false) := eq_lit (by decide +kernel) (by decide +kernel)
theorem e_st : dEq (.str "s") (.str "t") = some (.bool false) := eq_lit (by decide +kernel) (by decide +kernel)
theorem e_ss : dEq (.str "s") (.str "s") = some (.bool true) := eq_lit (by decide +kernel) (by decide +kernel)
theorem e_ln : dEq (.str "l") (.str "n") = some (.bool false) := eq_lit (by decide +kernel) (by decide +kernel)
theorem e_lt : dEq (.str "l") (.str "t") = some (.bool false) := eq_lit (by decide +kernel) (by decide +kernel)
theorem e_ls : dEq (.str "l") (.str "s") = some (.bool false) := eq_lit (by decide +kernel) (by decide +kernel)
local macro_rules | `(tactic| walk_at "ev") => `(tactic| try simp -implicitDefEqProofs only [mDef, mSeq, mIf, mT, mTr, mOp, mUn, mVar, mC, mCall, mCons, mNil, mRet, mSkip, mAsg, mSl, mPart, mNoPart, mAndT, mOrT, mNotT, mAnd, mOr, mNot, mIfE, mChain, mIs, mIs2, mOf, mNew, mCallF, mM1, mM0, mIxM, mLenM, mApp, mSetM, mSetIx, mAug, mFrz, mForS, mRng1, mRng2, mItems, setV_zn, setV_zv, setV_zo, setV_succ, setM, frz, setT2, mBk, mCt, mNo, 
  DL.bind_ok, DL.bind_no, DL.bind_ite, lift_some, lift_none, List.map_cons, List.map_nil, List.length_cons, List.length_nil, List.replicate_succ, List.replicate_zero, List.cons_append, List.nil_append, List.append_nil, List.getElem?_cons_zero, List.getElem?_cons_succ, List.set_cons_zero, List.set_cons_succ, Nat.reduceAdd, Nat.reduceSub, Nat.zero_add, Nat.sub_self, decide_eq_true_eq,
  add_ii, sub_ii, neg_i, mul_r, mul_l, div_s, mod_s, eq_ii, ne_ii, eq_bb, ne_bb, lt_ii, gt_ii, le_ii, ge_ii, len_l, len_t, int_i, int_b, abs_i, max_ii, min_ii, tuple_l, ix_l, ix_t, tr_b, Nat.reduceLeDiff, if_true, if_false, Option.map_some, Option.bind_some, reduceIte, Int.reduceLT, Int.reduceNeg, Int.reduceMul, Nat.reduceLT, Nat.le_refl, LINE, Bool.false_eq_true, Bool.not_true, Bool.not_false, Bool.true_eq_false, e_nn, e_tn, e_tt, e_sn, e_st, e_ss, e_ln, e_lt, e_ls])
local macro_rules | `(tactic| walk_at "ev*") => `(tactic| try simp -implicitDefEqProofs only [mDef, mSeq, mIf, mT, mTr, mOp, mUn, mVar, mC, mCall, mCons, mNil, mRet, mSkip, mAsg, mSl, mPart, mNoPart, mAndT, mOrT, mNotT, mAnd, mOr, mNot, mIfE, mChain, mIs, mIs2, mOf, mNew, mCallF, mM1, mM0, mIxM, mLenM, mApp, mSetM, mSetIx, mAug, mFrz, mForS, mRng1, mRng2, mItems, setV_zn, setV_zv, setV_zo, setV_succ, setM, frz, setT2, mBk, mCt, mNo, 
  DL.bind_ok, DL.bind_no, DL.bind_ite, lift_some, lift_none, List.map_cons, List.map_nil, List.length_cons, List.length_nil, List.replicate_succ, List.replicate_zero, List.cons_append, List.nil_append, List.append_nil, List.getElem?_cons_zero, List.getElem?_cons_succ, List.set_cons_zero, List.set_cons_succ, Nat.reduceAdd, Nat.reduceSub, Nat.zero_add, Nat.sub_self, decide_eq_true_eq,
  add_ii, sub_ii, neg_i, mul_r, mul_l, div_s, mod_s, eq_ii, ne_ii, eq_bb, ne_bb, lt_ii, gt_ii, le_ii, ge_ii, len_l, len_t, int_i, int_b, abs_i, max_ii, min_ii, tuple_l, ix_l, ix_t, tr_b, Nat.reduceLeDiff, if_true, if_false, Option.map_some, Option.bind_some, reduceIte, Int.reduceLT, Int.reduceNeg, Int.reduceMul, Nat.reduceLT, Nat.le_refl, LINE, Bool.false_eq_true, Bool.not_true, Bool.not_false, Bool.true_eq_false, e_nn, e_tn, e_tt, e_sn, e_st, e_ss, e_ln, e_lt, e_ls, *])
theorem value_n {c : Int} (h : 0 ≤ c) : ∃ x, m__law_value [.str "n", .int c] = .ok x [] ∧ Vk .n x := by
  obtain ⟨v, e, h1, h2⟩ := number_eq c
  unfold m__law_value b__law_value
  walk_at "ev*"
  exact ⟨_, rfl, .n ⟨h1, h2⟩⟩
theorem value_t {c : Int} (h : 0 ≤ c) : ∃ x, m__law_value [.str "t", .int c] = .ok x [] ∧ Vk .t x := by
  unfold m__law_value b__law_value
  walk_at "ev"
  exact ⟨_, rfl, .t _⟩
theorem menu : ("a b0 9z1" : Str) = S [97, 32, 98, 48, 32, 57, 122, 49] := by decide +kernel
theorem empty_S : ("" : Str) = S [] := by decide +kernel
theorem nv_list {δ : Dl} (h : δ.all (fun c => !c.isVar) = true) : noVar δ = true := h
theorem map_pick {α β : Type} {g : α → β} {Q : α → Prop} : ∀ {ys : List β}, (∀ y ∈ ys, ∃ k, y = g k ∧ Q k) → ∃ ks : List α, ys = ks.map g ∧ ∀ k ∈ ks, Q k
  | [], _ => ⟨[], rfl, by simp⟩
  | y :: ys, h => by
    obtain ⟨k, rfl, hk⟩ := h y List.mem_cons_self
    obtain ⟨ks, e, hs⟩ := map_pick (ys := ys) fun z hz => h z (List.mem_cons_of_mem _ hz)
    exact ⟨k :: ks, by rw [e]; rfl, fun z hz => by
      rcases List.mem_cons.mp hz with rfl | hz
      · exact hk
      · exact hs z hz⟩
theorem joinL_ones : ∀ ks : List Nat, TL.joinL [] (ks.map fun k => [k]) = ks
  | [] => rfl
  | [k] => rfl
  | k :: k2 :: ks => by
    have ih := joinL_ones (k2 :: ks)
    show [k] ++ ([] ++ TL.joinL [] ((k2 :: ks).map fun k => [k])) = _
    rw [ih]
    rfl
theorem join_ones {ks : List Nat} (h : ks.length ≤ 30) : dJoin (.str "") [.list (ks.map fun k => .str (S [k]))] = some (.str (S ks)) := by
  have e := join_S' (a := []) (ls := ks.map fun k => [k]) (by
    have : (ks.map fun k => [k]).map (·.length) = ks.map fun _ => 1 := by rw [List.map_map]; rfl
    rw [this, List.length_map]
    have q : ∀ l : List Nat, (l.map fun _ => 1).sum = l.length := fun l => by induction l with
      | nil => rfl
      | cons a l ih => rw [List.map_cons, List.sum_cons, ih, List.length_cons]; omega
    rw [q]
    simp
    omega)
  rw [joinL_ones, List.map_map] at e
  rw [empty_S]
  exact e
theorem value_s {c : Int} (h : 0 ≤ c) : ∃ x, m__law_value [.str "s", .int c] = .ok x [] ∧ Vk .s x := by
  unfold m__law_value b__law_value
  walk_at "ev"
  obtain ⟨d, hd, e⟩ := at_ex [PyData.int 0, PyData.int 1, PyData.int 2, PyData.int 3, PyData.int 5, PyData.int 15, PyData.int 16, PyData.int 30] (i := c % 8) (by omega) (by show _ < (8 : Int); omega)
  rw [e]
  walk_at "ev"
  obtain ⟨n, rfl, hn⟩ : ∃ n : Nat, d = .int n ∧ n ≤ 30 := by
    simp only [List.mem_cons, List.not_mem_nil, or_false] at hd
    rcases hd with rfl | rfl | rfl | rfl | rfl | rfl | rfl | rfl <;> exact ⟨_, rfl, by decide⟩
  obtain ⟨xs, e2, hl, hx⟩ := draws_eq (c / 8) (n := n) (by omega) (l := 64) (by decide) (by decide)
  obtain ⟨f, e3, hf⟩ := lcS_ex (j := 3) (it := mItems (mCallF m__law_draws (mCons (mOp dDiv (mVar 1) (mC (.int 8))) (mCons (mVar 2) (mCons (mC (.int 64)) mNil))))) (e := b__law_value_E1) (δ := [.val (.str "s"), .val (.int c), .val (.int n), .non]) (δ' := [.val (.str "s"), .val (.int c), .val (.int n), .non]) (items := xs.map .int) (P := fun _ y => ∃ k, y = .str (S [k]) ∧ k ∈ AL) (by
    walk_at "ev"
    rw [e2]
    rfl) (by simp) rfl (by rw [List.length_map]; omega) (fun x hx' => by
    obtain ⟨i, hi, rfl⟩ := List.mem_map.mp hx'
    obtain ⟨k, hk⟩ : ∃ k : Nat, i % 8 = k := ⟨(i % 8).toNat, by omega⟩
    unfold b__law_value_E1
    walk_at "ev"
    rw [hk, menu, ix_S (by decide)]
    have hk8 : k < 8 := by omega
    have q : ∀ k < 8, ∃ m, [97, 32, 98, 48, 32, 57, 122, 49][k]? = some m ∧ m ∈ AL := by decide
    obtain ⟨m, e4, hm⟩ := q k hk8
    exact ⟨_, by rw [e4]; rfl, m, rfl, hm⟩)
  rw [e3]
  walk_at "ev"
  obtain ⟨ks, e4, hk⟩ := map_pick (ys := (xs.map PyData.int).map f) (g := fun k => PyData.str (S [k])) (Q := fun k => k ∈ AL) (fun y hy => by
    obtain ⟨x, hx', rfl⟩ := List.mem_map.mp hy
    exact hf x hx')
  have hl2 := congrArg List.length e4
  rw [List.length_map, List.length_map, List.length_map, hl] at hl2
  rw [e4, join_ones (by omega)]
  walk_at "ev"
  exact ⟨_, rfl, .s (by omega) hk⟩
theorem value_l {c : Int} (h : 0 ≤ c) : ∃ x, m__law_value [.str "l", .int c] = .ok x [] ∧ Vk .l x := by
  unfold m__law_value b__law_value
  walk_at "ev"
  obtain ⟨d, hd, e⟩ := at_ex [PyData.int 0, PyData.int 1, PyData.int 2, PyData.int 3, PyData.int 4, PyData.int 6, PyData.int 11, PyData.int 12] (i := c % 8) (by omega) (by show _ < (8 : Int); omega)
  rw [e]
  walk_at "ev"
  obtain ⟨n, rfl, hn⟩ : ∃ n : Nat, d = .int n ∧ n ≤ 12 := by
    simp only [List.mem_cons, List.not_mem_nil, or_false] at hd
    rcases hd with rfl | rfl | rfl | rfl | rfl | rfl | rfl | rfl <;> exact ⟨_, rfl, by decide⟩
  have A : ∀ (l : Int) (e : M D), 0 < l → l < 1073741824 → (∀ i : Int, 0 ≤ i → i < l → ∃ y, e [.val (.str "l"), .val (.int c), .val (.int n), .val (.int i)] = .ok y [.val (.str "l"), .val (.int c), .val (.int n), .val (.int i)] ∧ ∃ k, y = .int k ∧ Rg k) →
      ∃ ks : List Int, mLcS [3] (mItems (mCallF m__law_draws (mCons (mOp dDiv (mVar 1) (mC (.int 24))) (mCons (mVar 2) (mCons (mC (.int l)) mNil))))) (setV 3) mYes e [.val (.str "l"), .val (.int c), .val (.int n), .non] = .ok (ks.map .int) [.val (.str "l"), .val (.int c), .val (.int n), .non] ∧ ks.length ≤ 12 ∧ ∀ k ∈ ks, Rg k := by
    intro l e h0 h1 he
    obtain ⟨xs, e2, hl, hx⟩ := draws_eq (c / 24) (n := n) (l := l) (by omega) h0 h1
    obtain ⟨f, e3, hf⟩ := lcS_ex (j := 3) (it := mItems (mCallF m__law_draws (mCons (mOp dDiv (mVar 1) (mC (.int 24))) (mCons (mVar 2) (mCons (mC (.int l)) mNil))))) (e := e) (δ := [.val (.str "l"), .val (.int c), .val (.int n), .non]) (δ' := [.val (.str "l"), .val (.int c), .val (.int n), .non]) (items := xs.map .int) (P := fun _ y => ∃ k, y = .int k ∧ Rg k) (by
      walk_at "ev"
      rw [e2]
      rfl) (by simp) rfl (by rw [List.length_map]; omega) (fun x hx' => by
      obtain ⟨i, hi, rfl⟩ := List.mem_map.mp hx'
      exact he i (hx i hi).1 (hx i hi).2)
    obtain ⟨ks, e4, hk⟩ := map_pick (ys := (xs.map PyData.int).map f) (g := fun k => PyData.int k) (Q := Rg) (fun y hy => by
      obtain ⟨x, hx', rfl⟩ := List.mem_map.mp hy
      exact hf x hx')
    have hl2 := congrArg List.length e4
    rw [List.length_map, List.length_map, List.length_map, hl] at hl2
    rw [e4] at e3
    exact ⟨ks, e3, by omega, hk⟩
  obtain ⟨ks, e1, e2, e3⟩ := A 4000 b__law_value_E2 (by decide) (by decide) (fun i h1 h2 => by
    obtain ⟨v, ev, q⟩ := number_eq i
    unfold b__law_value_E2
    walk_at "ev*"
    exact ⟨_, rfl, v, rfl, q⟩)
  obtain ⟨ks', e1', e2', e3'⟩ := A 63 b__law_value_E3 (by decide) (by decide) (fun i h1 h2 => by
    unfold b__law_value_E3
    walk_at "ev"
    exact ⟨_, rfl, _, rfl, by constructor <;> omega⟩)
  clear A
  simp only [e1, e1']
  walk_at "ev"
  split
  · exact ⟨_, rfl, .l e2 e3⟩
  · exact ⟨_, rfl, .l e2' e3'⟩
theorem value_eq (k : Kd) {c : Int} (h : 0 ≤ c) : ∃ x, m__law_value [.str (letter k), .int c] = .ok x [] ∧ Vk k x := by
  cases k
  · exact value_n h
  · exact value_t h
  · exact value_s h
  · exact value_l h
theorem _root_.DL.R.bind_ex {α β : Type} {c : Nat} {d : D} {δ : Dl} {f : α → Dl → R β} : R.bind (.ex c d δ) f = .ex c d δ := rfl
theorem is_bool_n (i : Int) : isD "bool" (.int i) = false := by show isT "bool" "int" = _; decide
theorem is_bool_t (i : Bool) : isD "bool" (.bool i) = true := by show isT "bool" "bool" = _; decide
theorem is_bool_s (i : Str) : isD "bool" (.str i) = false := by show isT "bool" "str" = _; decide
theorem is_bool_l (i : List D) : isD "bool" (.tuple i) = false := by show isT "bool" "tuple" = _; decide
theorem is_int_n (i : Int) : isD "int" (.int i) = true := by show isT "int" "int" = _; decide
theorem is_int_t (i : Bool) : isD "int" (.bool i) = true := by show isT "int" "bool" = _; decide
theorem is_int_s (i : Str) : isD "int" (.str i) = false := by show isT "int" "str" = _; decide
theorem is_int_l (i : List D) : isD "int" (.tuple i) = false := by show isT "int" "tuple" = _; decide
theorem is_str_n (i : Int) : isD "str" (.int i) = false := by show isT "str" "int" = _; decide
theorem is_str_t (i : Bool) : isD "str" (.bool i) = false := by show isT "str" "bool" = _; decide
theorem is_str_s (i : Str) : isD "str" (.str i) = true := by show isT "str" "str" = _; decide
theorem is_str_l (i : List D) : isD "str" (.tuple i) = false := by show isT "str" "tuple" = _; decide
theorem is_tuple_n (i : Int) : isD "tuple" (.int i) = false := by show isT "tuple" "int" = _; decide
theorem is_tuple_t (i : Bool) : isD "tuple" (.bool i) = false := by show isT "tuple" "bool" = _; decide
theorem is_tuple_s (i : Str) : isD "tuple" (.str i) = false := by show isT "tuple" "str" = _; decide
theorem is_tuple_l (i : List D) : isD "tuple" (.tuple i) = true := by show isT "tuple" "tuple" = _; decide
theorem is_list_n (i : Int) : isD "list" (.int i) = false := by show isT "list" "int" = _; decide
theorem is_list_t (i : Bool) : isD "list" (.bool i) = false := by show isT "list" "bool" = _; decide
theorem is_list_s (i : Str) : isD "list" (.str i) = false := by show isT "list" "str" = _; decide
theorem is_list_l (i : List D) : isD "list" (.tuple i) = false := by show isT "list" "tuple" = _; decide
end K19
end Part_YA

section Part_YB
set_option Elab.async false
set_option linter.all false
set_option maxRecDepth 100000
set_option autoImplicit false
set_option maxHeartbeats 2000000
namespace K19
open PySem PySem.Spec PyProof.Rows L2 DL SX
def LIB : List (Str × Str × Str) := ("abs", "n", "n") :: ("add", "nn", "n") :: ("add_each", "ln", "l") :: ("append", "ln", "l") :: ("at", "ln", "n") :: ("both", "tt", "t") :: ("choose_list", "tll", "l") :: ("choose_number", "tnn", "n") :: ("choose_text", "tss", "s") :: ("concat", "ss", "s") :: ("contains", "ss", "t") :: ("count_of", "ln", "n") :: ("distinct", "l", "l") :: ("divide", "nn", "n") :: ("double", "n", "n") :: ("drop", "ln", "l") :: ("either", "tt", "t") :: ("equal", "nn", "t") :: ("first", "l", "n") :: ("greatest", "l", "n") :: ("half", "n", "n") :: ("is_empty", "l", "t") :: ("is_even", "n", "t") :: ("join", "ll", "l") :: ("keep_above", "ln", "l") :: ("keep_even", "l", "l") :: ("last", "l", "n") :: ("least", "l", "n") :: ("length", "s", "n") :: ("less", "nn", "t") :: ("max", "nn", "n") :: ("min", "nn", "n") :: ("mod", "nn", "n") :: ("mul", "nn", "n") :: ("neg", "n", "n") :: ("negate", "t", "t") :: ("number_text", "n", "s") :: ("prepend", "nl", "l") :: ("product", "l", "n") :: ("repeat", "sn", "s") :: ("rest", "l", "l") :: ("reverse", "l", "l") :: ("reverse_text", "s", "s") :: ("running", "l", "l") :: ("same_list", "ll", "t") :: ("same_text", "ss", "t") :: ("size", "l", "n") :: ("skip", "sn", "s") :: ("sort", "l", "l") :: ("start", "sn", "s") :: ("sub", "nn", "n") :: ("sum", "l", "n") :: ("take", "ln", "l") :: ("text_number", "s", "n") :: ("up_to", "n", "l") :: ("words", "s", "n") :: ("zip_add", "ll", "l") :: []
def rowD (r : Str × Str × Str) : D := .list [.str r.1, .str r.2.1, .str r.2.2]
theorem lib_eq : m__law_library [] = .ok (.list (LIB.map rowD)) [] := by kernel_rfl
end K19
end Part_YB

section Part_YC
set_option Elab.async false
set_option linter.all false
set_option maxRecDepth 100000
set_option autoImplicit false
set_option maxHeartbeats 2000000
namespace K19
open PySem PySem.Spec PyProof.Rows L2 DL SX
theorem e_number_number : dEq (.str "number") (.str "number") = some (.bool true) := eq_lit (by decide +kernel) (by decide +kernel)
theorem e_number_truth : dEq (.str "number") (.str "truth") = some (.bool false) := eq_lit (by decide +kernel) (by decide +kernel)
theorem e_number_text : dEq (.str "number") (.str "text") = some (.bool false) := eq_lit (by decide +kernel) (by decide +kernel)
theorem e_number_list : dEq (.str "number") (.str "list") = some (.bool false) := eq_lit (by decide +kernel) (by decide +kernel)
theorem e_truth_number : dEq (.str "truth") (.str "number") = some (.bool false) := eq_lit (by decide +kernel) (by decide +kernel)
theorem e_truth_truth : dEq (.str "truth") (.str "truth") = some (.bool true) := eq_lit (by decide +kernel) (by decide +kernel)
theorem e_truth_text : dEq (.str "truth") (.str "text") = some (.bool false) := eq_lit (by decide +kernel) (by decide +kernel)
theorem e_truth_list : dEq (.str "truth") (.str "list") = some (.bool false) := eq_lit (by decide +kernel) (by decide +kernel)
theorem e_text_number : dEq (.str "text") (.str "number") = some (.bool false) := eq_lit (by decide +kernel) (by decide +kernel)
theorem e_text_truth : dEq (.str "text") (.str "truth") = some (.bool false) := eq_lit (by decide +kernel) (by decide +kernel)
theorem e_text_text : dEq (.str "text") (.str "text") = some (.bool true) := eq_lit (by decide +kernel) (by decide +kernel)
theorem e_text_list : dEq (.str "text") (.str "list") = some (.bool false) := eq_lit (by decide +kernel) (by decide +kernel)
theorem e_list_number : dEq (.str "list") (.str "number") = some (.bool false) := eq_lit (by decide +kernel) (by decide +kernel)
theorem e_list_truth : dEq (.str "list") (.str "truth") = some (.bool false) := eq_lit (by decide +kernel) (by decide +kernel)
theorem e_list_text : dEq (.str "list") (.str "text") = some (.bool false) := eq_lit (by decide +kernel) (by decide +kernel)
theorem e_list_list : dEq (.str "list") (.str "list") = some (.bool true) := eq_lit (by decide +kernel) (by decide +kernel)
local macro_rules | `(tactic| walk_at "ev") => `(tactic| try simp -implicitDefEqProofs only [mDef, mSeq, mIf, mT, mTr, mOp, mUn, mVar, mC, mCall, mCons, mNil, mRet, mSkip, mAsg, mSl, mPart, mNoPart, mAndT, mOrT, mNotT, mAnd, mOr, mNot, mIfE, mChain, mIs, mIs2, mOf, mNew, mCallF, mM1, mM0, mIxM, mLenM, mApp, mSetM, mSetIx, mAug, mFrz, mForS, mRng1, mRng2, mItems, setV_zn, setV_zv, setV_zo, setV_succ, setM, frz, setT2, mBk, mCt, mNo, 
  DL.bind_ok, DL.bind_no, DL.bind_ite, lift_some, lift_none, List.map_cons, List.map_nil, List.length_cons, List.length_nil, List.replicate_succ, List.replicate_zero, List.cons_append, List.nil_append, List.append_nil, List.getElem?_cons_zero, List.getElem?_cons_succ, List.set_cons_zero, List.set_cons_succ, Nat.reduceAdd, Nat.reduceSub, Nat.zero_add, Nat.sub_self, decide_eq_true_eq,
  add_ii, sub_ii, neg_i, mul_r, mul_l, div_s, mod_s, eq_ii, ne_ii, eq_bb, ne_bb, lt_ii, gt_ii, le_ii, ge_ii, len_l, len_t, int_i, int_b, abs_i, max_ii, min_ii, tuple_l, ix_l, ix_t, tr_b, Nat.reduceLeDiff, if_true, if_false, Option.map_some, Option.bind_some, reduceIte, Int.reduceLT, Int.reduceNeg, Int.reduceMul, Nat.reduceLT, Nat.le_refl, LINE, Bool.false_eq_true, Bool.not_true, Bool.not_false, Bool.true_eq_false, R.bind_ex, Int.reduceEq, e_number_number, e_number_truth, e_number_text, e_number_list, e_truth_number, e_truth_truth, e_truth_text, e_truth_list, e_text_number, e_text_truth, e_text_text, e_text_list, e_list_number, e_list_truth, e_list_text, e_list_list, is_bool_n, is_bool_t, is_bool_s, is_bool_l, is_int_n, is_int_t, is_int_s, is_int_l, is_str_n, is_str_t, is_str_s, is_str_l, is_tuple_n, is_tuple_t, is_tuple_s, is_tuple_l])
local macro_rules | `(tactic| walk_at "ev*") => `(tactic| try simp -implicitDefEqProofs only [mDef, mSeq, mIf, mT, mTr, mOp, mUn, mVar, mC, mCall, mCons, mNil, mRet, mSkip, mAsg, mSl, mPart, mNoPart, mAndT, mOrT, mNotT, mAnd, mOr, mNot, mIfE, mChain, mIs, mIs2, mOf, mNew, mCallF, mM1, mM0, mIxM, mLenM, mApp, mSetM, mSetIx, mAug, mFrz, mForS, mRng1, mRng2, mItems, setV_zn, setV_zv, setV_zo, setV_succ, setM, frz, setT2, mBk, mCt, mNo, 
  DL.bind_ok, DL.bind_no, DL.bind_ite, lift_some, lift_none, List.map_cons, List.map_nil, List.length_cons, List.length_nil, List.replicate_succ, List.replicate_zero, List.cons_append, List.nil_append, List.append_nil, List.getElem?_cons_zero, List.getElem?_cons_succ, List.set_cons_zero, List.set_cons_succ, Nat.reduceAdd, Nat.reduceSub, Nat.zero_add, Nat.sub_self, decide_eq_true_eq,
  add_ii, sub_ii, neg_i, mul_r, mul_l, div_s, mod_s, eq_ii, ne_ii, eq_bb, ne_bb, lt_ii, gt_ii, le_ii, ge_ii, len_l, len_t, int_i, int_b, abs_i, max_ii, min_ii, tuple_l, ix_l, ix_t, tr_b, Nat.reduceLeDiff, if_true, if_false, Option.map_some, Option.bind_some, reduceIte, Int.reduceLT, Int.reduceNeg, Int.reduceMul, Nat.reduceLT, Nat.le_refl, LINE, Bool.false_eq_true, Bool.not_true, Bool.not_false, Bool.true_eq_false, R.bind_ex, Int.reduceEq, e_number_number, e_number_truth, e_number_text, e_number_list, e_truth_number, e_truth_truth, e_truth_text, e_truth_list, e_text_number, e_text_truth, e_text_text, e_text_list, e_list_number, e_list_truth, e_list_text, e_list_list, is_bool_n, is_bool_t, is_bool_s, is_bool_l, is_int_n, is_int_t, is_int_s, is_int_l, is_str_n, is_str_t, is_str_s, is_str_l, is_tuple_n, is_tuple_t, is_tuple_s, is_tuple_l, *])
theorem all_of {α β : Type} {f g : α → β} {l : List α} (h : l.map f = l.map g) : ∀ a ∈ l, f a = g a := List.map_inj_left.mp h
def kdOf (c : Nat) : Kd := if c = 110 then .n else if c = 116 then .t else if c = 115 then .s else .l
def kdsOf (s : Str) : List Kd := s.cps.toList.map kdOf
def resOf (s : Str) : Kd := kdOf (s.cps.toList.headD 0)
def nameOf : Kd → Str
  | .n => "number" | .t => "truth" | .s => "text" | .l => "list"
theorem res_letter (k : Kd) : resOf (letter k) = k := by cases k <;> kernel_rfl
theorem kds_letter (k : Kd) : kdsOf (letter k) = [k] := by cases k <;> kernel_rfl
/-! ### the library's facts -/
theorem f_comp : ∀ r ∈ LIB, m_is_component [.str r.1] = .ok (.bool true) [] := all_of (g := fun _ : Str × Str × Str => R.ok (PyData.bool true) []) (by kernel_rfl)
theorem f_lay : ∀ r ∈ LIB, PyData.canLay0 (.str r.1) = true := all_of (g := fun _ : Str × Str × Str => true) (by kernel_rfl)
theorem f_pos : ∀ r ∈ LIB, (decide (1 ≤ (kdsOf r.2.1).length) && decide ((kdsOf r.2.1).length ≤ 3)) = true := all_of (g := fun _ : Str × Str × Str => true) (by kernel_rfl)
/-! ### values and their kinds -/
def sameK : Kd → Kd → Bool
  | .n, .n => true | .t, .t => true | .s, .s => true | .l, .l => true | _, _ => false
end K19
end Part_YC

section Part_YY
set_option Elab.async false
set_option linter.all false
set_option maxRecDepth 100000
set_option autoImplicit false
set_option maxHeartbeats 2000000
namespace K19
open PySem PySem.Spec PyProof.Rows L2 DL SX
theorem f_inp : ∀ r ∈ LIB, dEq (.str r.1) (.str "input") = some (.bool false) := all_of (g := fun _ : Str × Str × Str => some (PyData.bool false)) (by kernel_rfl)
theorem f_con : ∀ r ∈ LIB, dEq (.str r.1) (.str "constant") = some (.bool false) := all_of (g := fun _ : Str × Str × Str => some (PyData.bool false)) (by kernel_rfl)
theorem f_in2 : ∀ r ∈ LIB, dIn (.str r.1) (.list [.str "input", .str "constant"]) = some (.bool false) := all_of (g := fun _ : Str × Str × Str => some (PyData.bool false)) (by kernel_rfl)
theorem i_in2 : dIn (.str "input") (.list [.str "input", .str "constant"]) = some (.bool true) := by kernel_rfl
theorem c_in2 : dIn (.str "constant") (.list [.str "input", .str "constant"]) = some (.bool true) := by kernel_rfl
theorem i_inp : dEq (.str "input") (.str "input") = some (.bool true) := by kernel_rfl
theorem i_con : dEq (.str "input") (.str "constant") = some (.bool false) := by kernel_rfl
theorem c_inp : dEq (.str "constant") (.str "input") = some (.bool false) := by kernel_rfl
theorem c_con : dEq (.str "constant") (.str "constant") = some (.bool true) := by kernel_rfl
theorem f_items : ∀ r ∈ LIB, dItems (.str r.2.1) = some ((kdsOf r.2.1).map fun k => .str (letter k)) := all_of (g := fun r : Str × Str × Str => some ((kdsOf r.2.1).map fun k => PyData.str (letter k))) (by kernel_rfl)
theorem f_some (k : Kd) : decide (1 ≤ (LIB.filter fun r => r.2.2 == letter k).length) = true := by cases k <;> kernel_rfl
theorem f_few (k : Kd) : decide ((LIB.filter fun r => r.2.2 == letter k).length ≤ 57) = true := by cases k <;> kernel_rfl
theorem f_let (k : Kd) : ∀ r ∈ LIB, dEq (.str r.2.2) (.str (letter k)) = some (.bool (r.2.2 == letter k)) := by
  cases k <;> exact all_of (g := fun r : Str × Str × Str => some (PyData.bool (r.2.2 == letter _))) (by kernel_rfl)
end K19
end Part_YY

section Part_YD
set_option Elab.async false
set_option linter.all false
set_option maxRecDepth 100000
set_option autoImplicit false
set_option maxHeartbeats 2000000
namespace K19.PG
open K19 PySem PySem.Spec PyProof.Rows L2 DL SX

/-! ### programs -/
def All2 (p : Kd → D → Prop) : List Kd → List D → Prop
  | [], [] => True
  | k :: ks, d :: ds => p k d ∧ All2 p ks ds
  | _, _ => False
theorem All2.mono {p q : Kd → D → Prop} (h : ∀ k d, p k d → q k d) : ∀ {ks : List Kd} {ds : List D}, All2 p ks ds → All2 q ks ds
  | [], [], _ => trivial
  | _ :: _, _ :: _, z => ⟨h _ _ z.1, All2.mono h z.2⟩
theorem All2.len {p : Kd → D → Prop} : ∀ {ks : List Kd} {ds : List D}, All2 p ks ds → ks.length = ds.length
  | [], [], _ => rfl
  | _ :: _, _ :: _, z => by rw [List.length_cons, List.length_cons, All2.len z.2]
theorem All2.mem {p : Kd → D → Prop} : ∀ {ks : List Kd} {ds : List D} {d : D}, All2 p ks ds → d ∈ ds → ∃ k, p k d
  | _ :: _, x :: _, d, z, h => by
    rcases List.mem_cons.mp h with rfl | h
    · exact ⟨_, z.1⟩
    · exact All2.mem z.2 h
  | [], [], d, _, h => nomatch h
inductive GP1 (ks : List Kd) (p : Kd → D → Prop) : Kd → D → Prop
  | inp {i : Nat} {k : Kd} (h : ks[i]? = some k) : GP1 ks p k (.tuple [.str "input", .int i])
  | con {k : Kd} {v : D} (h : Vk k v) : GP1 ks p k (.tuple [.str "constant", v])
  | app {r : Str × Str × Str} {as : List D} {k : Kd} (hr : r ∈ LIB) (hk : r.2.2 = letter k) (ha : All2 p (kdsOf r.2.1) as) : GP1 ks p k (.tuple (.str r.1 :: as))
/-- a program of a kind, not deeper than n -/
def GP (ks : List Kd) : Nat → Kd → D → Prop
  | 0 => fun _ _ => False
  | n + 1 => GP1 ks (GP ks n)
theorem GP.succ {ks : List Kd} : ∀ {n : Nat} {k : Kd} {d : D}, GP ks n k d → GP ks (n + 1) k d
  | n + 1, k, d, h => by
    cases h with
    | inp h => exact .inp h
    | con h => exact .con h
    | app hr hk ha => exact .app hr hk (ha.mono fun _ _ z => GP.succ z)
theorem GP.le {ks : List Kd} {n m : Nat} {k : Kd} {d : D} (h : GP ks n k d) (hl : n ≤ m) : GP ks m k d := by
  obtain ⟨j, rfl⟩ : ∃ j, m = n + j := ⟨m - n, by omega⟩
  clear hl
  induction j with
  | zero => exact h
  | succ j ih => exact ih.succ
def leafS (s : Str) : Bool := s == "input" || s == "constant"
def leafD : D → Bool
  | .tuple (.str s :: _) => leafS s
  | _ => true
def argsD : D → List D
  | .tuple (.str s :: as) => if leafS s then [] else as
  | _ => []
def symD (d : D) : D := match d with
  | .tuple (.str s :: _) => if leafS s then d else .str s
  | _ => d
theorem leaf_i : leafS "input" = true := by kernel_rfl
theorem leaf_c : leafS "constant" = true := by kernel_rfl
theorem f_leaf : ∀ r ∈ LIB, leafS r.1 = false := all_of (g := fun _ : Str × Str × Str => false) (by kernel_rfl)
def partsN : Nat → D → List D
  | 0, _ => []
  | n + 1, d => d :: (argsD d).flatMap (partsN n)
def depN : Nat → D → Int
  | 0, _ => 0
  | n + 1, d => match (argsD d).map (depN n) with
    | [] => 1
    | a :: as => 1 + as.foldl max a
theorem sym_i {v : D} : symD (.tuple [.str "input", v]) = .tuple [.str "input", v] := by show (if leafS "input" = true then (PyData.tuple [.str "input", v]) else .str "input") = _; rw [leaf_i]; rfl
theorem sym_c {v : D} : symD (.tuple [.str "constant", v]) = .tuple [.str "constant", v] := by show (if leafS "constant" = true then (PyData.tuple [.str "constant", v]) else .str "constant") = _; rw [leaf_c]; rfl
theorem sym_a {r : Str × Str × Str} (hr : r ∈ LIB) {as : List D} : symD (.tuple (.str r.1 :: as)) = .str r.1 := by show (if leafS r.1 = true then (PyData.tuple (.str r.1 :: as)) else .str r.1) = _; rw [f_leaf r hr]; rfl
theorem args_i {v : D} : argsD (.tuple [.str "input", v]) = [] := by show (if leafS "input" = true then [] else [v]) = _; rw [leaf_i]; rfl
theorem args_c {v : D} : argsD (.tuple [.str "constant", v]) = [] := by show (if leafS "constant" = true then [] else [v]) = _; rw [leaf_c]; rfl
theorem args_a {r : Str × Str × Str} (hr : r ∈ LIB) {as : List D} : argsD (.tuple (.str r.1 :: as)) = as := by show (if leafS r.1 = true then [] else as) = _; rw [f_leaf r hr]; rfl
theorem GP.args {ks : List Kd} {n : Nat} {k : Kd} {d : D} (h : GP ks (n + 1) k d) : ∀ a ∈ argsD d, ∃ k', GP ks n k' a := by
  cases h with
  | inp h => rw [args_i]; exact fun a z => nomatch z
  | con h => rw [args_c]; exact fun a z => nomatch z
  | app hr hk ha => rw [args_a hr]; exact fun a z => ha.mem z
theorem flat_congr {α β : Type} {f g : α → List β} : ∀ {l : List α}, (∀ x ∈ l, f x = g x) → l.flatMap f = l.flatMap g
  | [], _ => rfl
  | x :: l, h => by rw [List.flatMap_cons, List.flatMap_cons, h x List.mem_cons_self, flat_congr fun y hy => h y (List.mem_cons_of_mem _ hy)]
theorem parts_more {ks : List Kd} (m : Nat) : ∀ {n : Nat} {k : Kd} {d : D}, GP ks n k d → partsN (n + m) d = partsN n d
  | n + 1, k, d, h => by
    rw [show n + 1 + m = (n + m) + 1 by omega]
    show d :: _ = d :: _
    rw [flat_congr fun a ha => by
      obtain ⟨k', h'⟩ := h.args a ha
      exact parts_more m h']
theorem dep_more {ks : List Kd} (m : Nat) : ∀ {n : Nat} {k : Kd} {d : D}, GP ks n k d → depN (n + m) d = depN n d
  | n + 1, k, d, h => by
    rw [show n + 1 + m = (n + m) + 1 by omega]
    have e : (argsD d).map (depN (n + m)) = (argsD d).map (depN n) := List.map_congr_left fun a ha => by
      obtain ⟨k', h'⟩ := h.args a ha
      exact dep_more m h'
    unfold depN
    rw [e]
def P (d : D) : List D := partsN 33 d
def Dp (d : D) : Int := depN 33 d
/-- a program -/
def Gd (ks : List Kd) (d : D) : Prop := ∃ k, GP ks 33 k d
section
variable {ks : List Kd} {d : D}
theorem Gd.args (h : Gd ks d) : ∀ a ∈ argsD d, Gd ks a ∧ partsN 32 a = P a ∧ depN 32 a = Dp a := fun a ha => by
  obtain ⟨k, h⟩ := h
  obtain ⟨k', h'⟩ := GP.args (n := 32) h a ha
  exact ⟨⟨k', h'.succ⟩, (parts_more 1 h').symm, (dep_more 1 h').symm⟩
theorem P_eq (h : Gd ks d) : P d = d :: (argsD d).flatMap P := by
  show d :: (argsD d).flatMap (partsN 32) = _
  rw [flat_congr fun a ha => (h.args a ha).2.1]
theorem Dp_eq (h : Gd ks d) : Dp d = match (argsD d).map Dp with
    | [] => 1
    | a :: as => 1 + as.foldl max a := by
  have e : (argsD d).map (depN 32) = (argsD d).map Dp := List.map_congr_left fun a ha => (h.args a ha).2.2
  show (match (argsD d).map (depN 32) with | [] => 1 | a :: as => 1 + as.foldl max a) = _
  rw [e]
theorem foldl_le : ∀ (l : List Int) (a b : Int), l.foldl max a ≤ b ↔ a ≤ b ∧ ∀ x ∈ l, x ≤ b
  | [], a, b => by simp
  | y :: l, a, b => by
    rw [List.foldl_cons, foldl_le l]
    constructor
    · rintro ⟨h1, h2⟩
      refine ⟨by omega, fun x hx => ?_⟩
      rcases List.mem_cons.mp hx with rfl | hx
      · omega
      · exact h2 x hx
    · rintro ⟨h1, h2⟩
      have := h2 y List.mem_cons_self
      exact ⟨by omega, fun x hx => h2 x (List.mem_cons_of_mem _ hx)⟩
theorem Dp_le (h : Gd ks d) (h1 : ∀ a ∈ argsD d, 1 ≤ Dp a) (b : Int) : Dp d ≤ b ↔ 1 ≤ b ∧ ∀ a ∈ argsD d, 1 + Dp a ≤ b := by
  rw [Dp_eq h]
  cases q : argsD d with
  | nil => simp
  | cons a as =>
    rw [q] at h1
    show 1 + (as.map Dp).foldl max (Dp a) ≤ b ↔ _
    have z := foldl_le (as.map Dp) (Dp a) (b - 1)
    constructor
    · intro h
      obtain ⟨z1, z2⟩ := z.mp (by omega)
      have := h1 a List.mem_cons_self
      refine ⟨by omega, fun x hx => ?_⟩
      rcases List.mem_cons.mp hx with rfl | hx
      · omega
      · have := z2 (Dp x) (List.mem_map.mpr ⟨x, hx, rfl⟩)
        omega
    · rintro ⟨h1, h2⟩
      have := z.mpr ⟨by have := h2 a List.mem_cons_self; omega, fun x hx => by
        obtain ⟨y, hy, rfl⟩ := List.mem_map.mp hx
        have := h2 y (List.mem_cons_of_mem _ hy)
        omega⟩
      omega
end
theorem dep_pos {ks : List Kd} : ∀ {n : Nat} {k : Kd} {d : D}, GP ks n k d → n ≤ 33 → 1 ≤ Dp d
  | n + 1, k, d, h, hn => by
    have g : Gd ks d := ⟨k, h.le hn⟩
    rw [Dp_eq g]
    cases q : argsD d with
    | nil => exact Int.le_refl _
    | cons a as =>
      obtain ⟨k', h'⟩ := h.args a (by rw [q]; exact List.mem_cons_self)
      have z := dep_pos h' (by omega)
      have := (foldl_max_le (as.map Dp) (Dp a)).1
      show 1 ≤ 1 + (as.map Dp).foldl max (Dp a)
      omega
theorem Gd.pos {ks : List Kd} {d : D} (h : Gd ks d) : 1 ≤ Dp d := by
  obtain ⟨k, h⟩ := h
  exact dep_pos h (Nat.le_refl _)
theorem dep_max {ks : List Kd} : ∀ {n : Nat} {k : Kd} {d : D}, GP ks n k d → n ≤ 33 → Dp d ≤ n
  | n + 1, k, d, h, hn => by
    have g : Gd ks d := ⟨k, h.le hn⟩
    refine (Dp_le g (fun a ha => (g.args a ha).1.pos) _).mpr ⟨by omega, fun a ha => ?_⟩
    obtain ⟨k', h'⟩ := h.args a ha
    have := dep_max h' (by omega)
    omega
theorem flat_len {α : Type} {f : D → List α} {b : Nat} : ∀ {l : List D}, (∀ x ∈ l, (f x).length ≤ b) → (l.flatMap f).length ≤ l.length * b
  | [], _ => by simp
  | x :: l, h => by
    rw [List.flatMap_cons, List.length_append, List.length_cons, Nat.succ_mul]
    have h1 := h x List.mem_cons_self
    have h2 := flat_len (f := f) (b := b) (l := l) fun y hy => h y (List.mem_cons_of_mem _ hy)
    omega
theorem parts_few {ks : List Kd} : ∀ {n : Nat} {k : Kd} {d : D}, GP ks n k d → (partsN n d).length ≤ 4 ^ n
  | n + 1, k, d, h => by
    have ha : (argsD d).length ≤ 3 := by
      cases h with
      | inp h => rw [args_i]; decide
      | con h => rw [args_c]; decide
      | @app r as k hr hk ha =>
        rw [args_a hr, ← ha.len]
        have z := f_pos r hr
        rw [Bool.and_eq_true] at z
        exact of_decide_eq_true z.2
    have z := flat_len (f := partsN n) (b := 4 ^ n) (l := argsD d) fun a hx => by
      obtain ⟨k', h'⟩ := h.args a hx
      exact parts_few h'
    show (d :: (argsD d).flatMap (partsN n)).length ≤ 4 ^ (n + 1)
    rw [List.length_cons, Nat.pow_succ]
    have : (argsD d).length * 4 ^ n ≤ 3 * 4 ^ n := Nat.mul_le_mul_right _ ha
    have : 1 ≤ 4 ^ n := Nat.one_le_pow _ _ (by decide)
    omega
theorem P_few {ks : List Kd} {n : Nat} {k : Kd} {d : D} (h : GP ks n k d) (hn : n ≤ 33) : (P d).length ≤ 4 ^ n := by
  have e : P d = partsN n d := by
    have := parts_more (33 - n) h
    rw [show n + (33 - n) = 33 by omega] at this
    exact this
  rw [e]
  exact parts_few h
/-! ### what is laid out -/
theorem lay_v {k : Kd} {x : D} (h : Vk k x) : x.canLay0 = true ∧ x.depth ≤ 1 := by
  cases h with
  | n h => exact ⟨rfl, Nat.zero_le _⟩
  | t b => exact ⟨rfl, Nat.zero_le _⟩
  | s h a =>
    rename_i l
    refine ⟨SeqAt.canLay_of_shaped (sh_S fun c hc => ?_), by show 0 ≤ 1; decide⟩
    have := a c hc
    unfold AL at this
    simp only [List.mem_cons, List.not_mem_nil, or_false] at this
    omega
  | l h a =>
    rename_i ns
    have z := sh_ints ns
    have z : (PyData.canLay0 (.tuple (ns.map .int)) && decide ((PyData.tuple (ns.map .int)).depth ≤ 64)) = true := z
    rw [Bool.and_eq_true] at z
    refine ⟨z.1, ?_⟩
    have q : ∀ ns : List Int, PyData.depthAll (ns.map .int) = 0 := by
      intro ns
      induction ns with
      | nil => rfl
      | cons n ns ih => show max (PyData.depth (.int n)) (PyData.depthAll (ns.map .int)) = 0; rw [ih]; rfl
    show PyData.depthAll (ns.map .int) + 1 ≤ 1
    rw [q]
    decide
theorem lay_all : ∀ {ds : List D} {b : Nat}, (∀ d ∈ ds, d.canLay0 = true ∧ d.depth ≤ b) → PyData.canLayAll0 ds = true ∧ PyData.depthAll ds ≤ b
  | [], b, _ => ⟨rfl, Nat.zero_le _⟩
  | d :: ds, b, h => by
    obtain ⟨h1, h2⟩ := h d List.mem_cons_self
    obtain ⟨h3, h4⟩ := lay_all fun x hx => h x (List.mem_cons_of_mem _ hx)
    refine ⟨?_, ?_⟩
    · show (d.canLay0 && PyData.canLayAll0 ds) = true
      rw [h1, h3]; rfl
    · show max d.depth (PyData.depthAll ds) ≤ b
      omega
theorem lay_p {ks : List Kd} : ∀ {n : Nat} {k : Kd} {d : D}, GP ks n k d → d.canLay0 = true ∧ d.depth ≤ n + 1
  | n + 1, k, d, h => by
    cases h with
    | @inp i k h => exact ⟨by show (PyData.canLay0 (.str "input") && (PyData.canLay0 (.int i) && true)) = true; rw [show PyData.canLay0 (.str "input") = true from by kernel_rfl]; rfl, by show max 0 (max 0 0) + 1 ≤ _; omega⟩
    | @con k v h =>
      obtain ⟨h1, h2⟩ := lay_v h
      exact ⟨by show (PyData.canLay0 (.str "constant") && (v.canLay0 && true)) = true; rw [show PyData.canLay0 (.str "constant") = true from by kernel_rfl, h1]; rfl, by show max 0 (max v.depth 0) + 1 ≤ _; omega⟩
    | @app r as k hr hk ha =>
      obtain ⟨h1, h2⟩ := lay_all (ds := as) (b := n + 1) fun x hx => by
        obtain ⟨k', h'⟩ := ha.mem hx
        exact lay_p h'
      refine ⟨?_, ?_⟩
      · show (PyData.canLay0 (.str r.1) && PyData.canLayAll0 as) = true
        rw [f_lay r hr, h1]; rfl
      · show max 0 (PyData.depthAll as) + 1 ≤ _
        omega
theorem lay_g {ks : List Kd} {d : D} (h : Gd ks d) : d.canLay0 = true ∧ d.depth ≤ 34 := by
  obtain ⟨k, h⟩ := h
  exact lay_p h
theorem eq_self {d : D} (h1 : d.canLay0 = true) (h2 : d.depth ≤ 64) : dEq d d = some (.bool true) := by
  unfold dEq
  have s : SeqAt.shaped d = true := by
    show (d.canLay0 && decide (d.depth ≤ 64)) = true
    rw [h1, decide_eq_true h2]; rfl
  rw [s, SeqAt.eqv_refl_plain d (PyData.plain_of_canLay0 d h1)]
  rfl
theorem ne_self {d : D} (h1 : d.canLay0 = true) (h2 : d.depth ≤ 64) : dNe d d = some (.bool false) := by
  unfold dNe
  have s : SeqAt.shaped d = true := by
    show (d.canLay0 && decide (d.depth ≤ 64)) = true
    rw [h1, decide_eq_true h2]; rfl
  rw [s, SeqAt.eqv_refl_plain d (PyData.plain_of_canLay0 d h1)]
  rfl
theorem parts_gd {ks : List Kd} : ∀ {n : Nat} {k : Kd} {d : D}, GP ks n k d → n ≤ 33 → ∀ x ∈ P d, Gd ks x
  | n + 1, k, d, h, hn, x, hx => by
    have g : Gd ks d := ⟨k, h.le hn⟩
    rw [P_eq g] at hx
    rcases List.mem_cons.mp hx with rfl | hx
    · exact g
    · obtain ⟨a, ha, hx⟩ := List.mem_flatMap.mp hx
      obtain ⟨k', h'⟩ := h.args a ha
      exact parts_gd h' (by omega) x hx
theorem lay_P {ks : List Kd} {d : D} (h : Gd ks d) : PyData.canLay0 (.list (P d)) = true ∧ PyData.depth (.list (P d)) ≤ 64 := by
  obtain ⟨k, h⟩ := h
  obtain ⟨h1, h2⟩ := lay_all (ds := P d) (b := 34) fun x hx => lay_g (parts_gd h (Nat.le_refl _) x hx)
  exact ⟨h1, by show PyData.depthAll (P d) + 1 ≤ 64; omega⟩
theorem lay_sym {ks : List Kd} {d : D} (h : Gd ks d) : (symD d).canLay0 = true ∧ (symD d).depth ≤ 34 := by
  have g := lay_g h
  obtain ⟨k, h⟩ := h
  cases h with
  | inp h => rw [sym_i]; exact g
  | con h => rw [sym_c]; exact g
  | @app r as k hr hk ha => rw [sym_a hr]; exact ⟨f_lay r hr, Nat.zero_le _⟩
theorem lay_S {ks : List Kd} {d : D} (h : Gd ks d) : PyData.canLay0 (.list ((P d).map symD)) = true ∧ PyData.depth (.list ((P d).map symD)) ≤ 64 := by
  obtain ⟨k, h⟩ := h
  obtain ⟨h1, h2⟩ := lay_all (ds := (P d).map symD) (b := 34) fun x hx => by
    obtain ⟨y, hy, rfl⟩ := List.mem_map.mp hx
    exact lay_sym (parts_gd h (Nat.le_refl _) y hy)
  exact ⟨h1, by show PyData.depthAll ((P d).map symD) + 1 ≤ 64; omega⟩
end K19.PG
end Part_YD

section Part_YE
set_option Elab.async false
set_option linter.all false
set_option maxRecDepth 100000
set_option autoImplicit false
set_option maxHeartbeats 2000000
namespace K19.PG
open K19 PySem PySem.Spec PyProof.Rows L2 DL SX

theorem at_z (x : D) (xs : List D) : atI (x :: xs) 0 = some x := by
  have := at_nat (x :: xs) 0
  exact this
theorem at_o (x y : D) (xs : List D) : atI (x :: y :: xs) 1 = some y := by
  have := at_nat (x :: y :: xs) 1
  exact this
theorem sl_tail (x : D) (xs : List D) : dSl (.tuple (x :: xs)) (some 1) none = some (.tuple xs) := by
  show some (PyData.tuple (cutL (x :: xs) (some 1) none)) = _
  unfold cutL
  have e1 : HT.sIx (x :: xs).length 0 (some 1) = 1 := by
    have := HT.sIx_nat (x :: xs).length 0 1
    rw [List.length_cons] at this ⊢
    exact this.trans (by omega)
  rw [e1]
  show some (PyData.tuple (((x :: xs).drop 1).take ((x :: xs).length - 1))) = _
  rw [List.drop_succ_cons, List.drop_zero, List.take_of_length_le (by rw [List.length_cons]; omega)]
theorem tup_n {xs : List D} (h : xs.length ≤ 16777216) : dTup xs = some (.tuple xs) := if_pos h
theorem tup_0 : dTup [] = some (.tuple []) := rfl
theorem tup_1 (a : D) : dTup [a] = some (.tuple [a]) := rfl
theorem tup_2 (a b : D) : dTup [a, b] = some (.tuple [a, b]) := rfl
theorem tup_3 (a b c : D) : dTup [a, b, c] = some (.tuple [a, b, c]) := rfl
theorem rev_t (xs : List D) : dRev (.tuple xs) = some (.tuple xs.reverse) := rfl
theorem rev_l (xs : List D) : dRev (.list xs) = some (.list xs.reverse) := rfl
theorem pop_at {i : Nat} {δ : Dl} {b : Bool} {w : List D} {x : D} (h : δ[i]? = some (.var b (w ++ [x]))) : mPop i δ = .ok x (δ.set i (.var b w)) := by
  have e : (w ++ [x])[(w ++ [x]).length - 1]? = some x := by
    rw [List.length_append, List.length_singleton, Nat.add_sub_cancel, List.getElem?_append_right (Nat.le_refl _), Nat.sub_self]; rfl
  unfold mPop
  simp only [h, e, List.dropLast_concat]
theorem trM_t {i : Nat} {δ : Dl} {b : Bool} {w : List D} {x : D} (h : δ[i]? = some (.var b (w ++ [x]))) : mTrM i δ = .ok true δ := by
  unfold mTrM
  simp only [h]
  cases w <;> rfl
theorem trM_f {i : Nat} {δ : Dl} {b : Bool} (h : δ[i]? = some (.var b [])) : mTrM i δ = .ok false δ := by
  unfold mTrM
  simp only [h]
  rfl
theorem ext_at {i : Nat} {δ δ1 : Dl} {a : M D} {d : D} {b b0 : Bool} {ds ds0 zs : List D} (h0 : δ[i]? = some (.var b0 ds0)) (h1 : a δ = .ok d δ1) (h : δ1[i]? = some (.var b ds)) (hz : seqD d = some zs) (hl : ds.length + zs.length ≤ 16777216) : mExt i a δ = .ok .nx (δ1.set i (.var b (ds ++ zs))) := by
  unfold mExt
  simp only [h0, h1, bind_ok, h, hz]
  exact if_pos hl
theorem app_at {i : Nat} {δ δ1 : Dl} {a : M D} {d : D} {b b0 : Bool} {ds ds0 : List D} (h0 : δ[i]? = some (.var b0 ds0)) (h1 : a δ = .ok d δ1) (h : δ1[i]? = some (.var b ds)) (hl : ds.length < 16777216) : mApp i a δ = .ok .nx (δ1.set i (.var b (ds ++ [d]))) := by
  unfold mApp
  simp only [h0, h1, bind_ok, h]
  exact if_pos hl
theorem rng1_at (n : Nat) : rng 1 (n + 1 : Int) = (List.range n).map fun k => PyData.int (1 + (k : Nat) : Int) := by
  unfold rng
  rw [show ((n : Int) + 1 - 1).toNat = n by omega]
local macro_rules | `(tactic| walk_at "ev") => `(tactic| try simp -implicitDefEqProofs only [mDef, mSeq, mIf, mT, mTr, mOp, mUn, mVar, mC, mCall, mCons, mNil, mRet, mSkip, mAsg, mSl, mPart, mNoPart, mAndT, mOrT, mNotT, mAnd, mOr, mNot, mIfE, mChain, mIs, mIs2, mOf, mNew, mCallF, mM1, mM0, mIxM, mLenM, mApp, mSetM, mSetIx, mAug, mFrz, mForS, mRng1, mRng2, mItems, setV_zn, setV_zv, setV_zo, setV_succ, setM, frz, setT2, mBk, mCt, mNo, 
  DL.bind_ok, DL.bind_no, DL.bind_ite, lift_some, lift_none, List.map_cons, List.map_nil, List.length_cons, List.length_nil, List.replicate_succ, List.replicate_zero, List.cons_append, List.nil_append, List.append_nil, List.getElem?_cons_zero, List.getElem?_cons_succ, List.set_cons_zero, List.set_cons_succ, Nat.reduceAdd, Nat.reduceSub, Nat.zero_add, Nat.sub_self, decide_eq_true_eq,
  add_ii, sub_ii, neg_i, mul_r, mul_l, div_s, mod_s, eq_ii, ne_ii, eq_bb, ne_bb, lt_ii, gt_ii, le_ii, ge_ii, len_l, len_t, int_i, int_b, abs_i, max_ii, min_ii, tuple_l, ix_l, ix_t, tr_b, Nat.reduceLeDiff, if_true, if_false, Option.map_some, Option.bind_some, reduceIte, Int.reduceLT, Int.reduceNeg, Int.reduceMul, Nat.reduceLT, Nat.le_refl, LINE, Bool.false_eq_true, Bool.not_true, Bool.not_false, Bool.true_eq_false, R.bind_ex, Int.reduceEq, e_number_number, e_number_truth, e_number_text, e_number_list, e_truth_number, e_truth_truth, e_truth_text, e_truth_list, e_text_number, e_text_truth, e_text_text, e_text_list, e_list_number, e_list_truth, e_list_text, e_list_list, is_bool_n, is_bool_t, is_bool_s, is_bool_l, is_int_n, is_int_t, is_int_s, is_int_l, is_str_n, is_str_t, is_str_s, is_str_l, is_tuple_n, is_tuple_t, is_tuple_s, is_tuple_l, at_z, at_o, sl_tail, tup_0, tup_1, tup_2, tup_3, rev_t, rev_l])
local macro_rules | `(tactic| walk_at "ev*") => `(tactic| try simp -implicitDefEqProofs only [mDef, mSeq, mIf, mT, mTr, mOp, mUn, mVar, mC, mCall, mCons, mNil, mRet, mSkip, mAsg, mSl, mPart, mNoPart, mAndT, mOrT, mNotT, mAnd, mOr, mNot, mIfE, mChain, mIs, mIs2, mOf, mNew, mCallF, mM1, mM0, mIxM, mLenM, mApp, mSetM, mSetIx, mAug, mFrz, mForS, mRng1, mRng2, mItems, setV_zn, setV_zv, setV_zo, setV_succ, setM, frz, setT2, mBk, mCt, mNo, 
  DL.bind_ok, DL.bind_no, DL.bind_ite, lift_some, lift_none, List.map_cons, List.map_nil, List.length_cons, List.length_nil, List.replicate_succ, List.replicate_zero, List.cons_append, List.nil_append, List.append_nil, List.getElem?_cons_zero, List.getElem?_cons_succ, List.set_cons_zero, List.set_cons_succ, Nat.reduceAdd, Nat.reduceSub, Nat.zero_add, Nat.sub_self, decide_eq_true_eq,
  add_ii, sub_ii, neg_i, mul_r, mul_l, div_s, mod_s, eq_ii, ne_ii, eq_bb, ne_bb, lt_ii, gt_ii, le_ii, ge_ii, len_l, len_t, int_i, int_b, abs_i, max_ii, min_ii, tuple_l, ix_l, ix_t, tr_b, Nat.reduceLeDiff, if_true, if_false, Option.map_some, Option.bind_some, reduceIte, Int.reduceLT, Int.reduceNeg, Int.reduceMul, Nat.reduceLT, Nat.le_refl, LINE, Bool.false_eq_true, Bool.not_true, Bool.not_false, Bool.true_eq_false, R.bind_ex, Int.reduceEq, e_number_number, e_number_truth, e_number_text, e_number_list, e_truth_number, e_truth_truth, e_truth_text, e_truth_list, e_text_number, e_text_truth, e_text_text, e_text_list, e_list_number, e_list_truth, e_list_text, e_list_list, is_bool_n, is_bool_t, is_bool_s, is_bool_l, is_int_n, is_int_t, is_int_s, is_int_l, is_str_n, is_str_t, is_str_s, is_str_l, is_tuple_n, is_tuple_t, is_tuple_s, is_tuple_l, at_z, at_o, sl_tail, tup_0, tup_1, tup_2, tup_3, rev_t, rev_l, *])
/-! ### small ones -/
theorem b1 : big 1 = true := by decide
theorem law_parts_eq {ks : List Kd} : ∀ {n : Nat} {k : Kd} {d : D}, GP ks n k d → n ≤ 33 → ∀ {m : Nat}, n ≤ m → (P d).length ≤ 16777216 → m__law_parts_n m [d] = .ok (.list (P d)) []
  | n + 1, k, d, h, hn, m, hm, hl => by
    have g : Gd ks d := ⟨k, h.le hn⟩
    obtain ⟨m, rfl⟩ : ∃ m', m = m' + 1 := ⟨m - 1, by omega⟩
    show mDef 3 (b__law_parts (m__law_parts_n m)) [d] = _
    unfold b__law_parts
    have pe := P_eq g
    cases h with
    | @inp i k h =>
      have e2 := i_in2
      rw [args_i] at pe
      iterate 4 ((try simp only [e2, truthD]); walk_at "ev")
      rw [pe]
      rfl
    | @con k v h =>
      have e2 := c_in2
      rw [args_c] at pe
      iterate 4 ((try simp only [e2, truthD]); walk_at "ev")
      rw [pe]
      rfl
    | @app r as k hr hk ha =>
      have e2 := f_in2 r hr
      rw [args_a hr] at pe
      rw [pe] at hl ⊢
      rw [List.length_cons] at hl
      obtain ⟨δ', e4, o, rfl⟩ := mFor_inv (g := setV 2) (body := b__law_parts_L1 (m__law_parts_n m)) (items := rng 1 (as.length + 1 : Int)) (fun i δ => ∃ o, δ = [.val (.tuple (.str r.1 :: as)), .val (.list (.tuple (.str r.1 :: as) :: (as.take i).flatMap P)), cO o]) (fun i x δ hx I => by
        obtain ⟨o, rfl⟩ := I
        obtain ⟨rfl, hi⟩ := rng_at hx
        have hi : i < as.length := by omega
        refine ⟨_, by walk_at "ev"; rfl, ?_⟩
        obtain ⟨k', h'⟩ := ha.mem (List.getElem_mem hi)
        have e5 : atI (PyData.str r.1 :: as) (1 + (i : Int)) = some as[i] := by
          have := at_nat (PyData.str r.1 :: as) (i + 1)
          rw [show ((i + 1 : Nat) : Int) = 1 + (i : Int) by omega] at this
          rw [this, List.getElem?_cons_succ, List.getElem?_eq_getElem hi]
        have hsub : (as.take (i + 1)).flatMap P = (as.take i).flatMap P ++ P as[i] := by
          rw [List.take_succ_eq_append_getElem hi, List.flatMap_append]
          simp
        have hle : ((as.take (i + 1)).flatMap P).length ≤ (as.flatMap P).length := by
          have : as.flatMap P = (as.take (i + 1)).flatMap P ++ (as.drop (i + 1)).flatMap P := by rw [← List.flatMap_append, List.take_append_drop]
          rw [this, List.length_append]
          omega
        rw [hsub, List.length_append] at hle
        have e6 := law_parts_eq h' (by omega) (m := m) (by omega) (by omega)
        have e7 : dAdd (.list (.tuple (.str r.1 :: as) :: (as.take i).flatMap P)) (.list (P as[i])) = some (.list (.tuple (.str r.1 :: as) :: (as.take (i + 1)).flatMap P)) := by
          show (if _ then _ else _) = _
          rw [if_pos (by rw [List.length_cons]; show _ ≤ 16777216; omega), hsub]
          rfl
        unfold b__law_parts_L1
        iterate 4 ((try simp only [e5, e6, e7]); walk_at "ev")
        exact ⟨_, rfl, some _, rfl⟩) (δ := [.val (.tuple (.str r.1 :: as)), .val (.list [.tuple (.str r.1 :: as)]), .non]) ⟨none, by simp [cO]⟩
      rw [rng_len] at e4
      have e8 : (as.take (as.length + 1 - 1 : Int).toNat) = as := by rw [show ((as.length : Int) + 1 - 1).toNat = as.length by omega, List.take_length]
      rw [e8] at e4
      iterate 5 ((try simp only [e2, truthD]); walk_at "ev")
      have b2 : big ((as.length : Int) + 1) = true := big_of (by omega) (by
        have : as.length ≤ 3 := by
          rw [← ha.len]
          have z := f_pos r hr
          rw [Bool.and_eq_true] at z
          exact of_decide_eq_true z.2
        omega)
      rw [show (((as.length + 1 : Nat) : Int)) = (as.length : Int) + 1 by omega]
      iterate 3 ((try simp only [b1, b2, e4, Bool.and_self]); walk_at "ev")
end K19.PG
end Part_YE

section Part_YF
set_option Elab.async false
set_option linter.all false
set_option maxRecDepth 100000
set_option autoImplicit false
set_option maxHeartbeats 2000000
namespace K19.PG
open K19 PySem PySem.Spec PyProof.Rows L2 DL SX
local macro_rules | `(tactic| walk_at "ev") => `(tactic| try simp -implicitDefEqProofs only [mDef, mSeq, mIf, mT, mTr, mOp, mUn, mVar, mC, mCall, mCons, mNil, mRet, mSkip, mAsg, mSl, mPart, mNoPart, mAndT, mOrT, mNotT, mAnd, mOr, mNot, mIfE, mChain, mIs, mIs2, mOf, mNew, mCallF, mM1, mM0, mIxM, mLenM, mApp, mSetM, mSetIx, mAug, mFrz, mForS, mRng1, mRng2, mItems, setV_zn, setV_zv, setV_zo, setV_succ, setM, frz, setT2, mBk, mCt, mNo, 
  DL.bind_ok, DL.bind_no, DL.bind_ite, lift_some, lift_none, List.map_cons, List.map_nil, List.length_cons, List.length_nil, List.replicate_succ, List.replicate_zero, List.cons_append, List.nil_append, List.append_nil, List.getElem?_cons_zero, List.getElem?_cons_succ, List.set_cons_zero, List.set_cons_succ, Nat.reduceAdd, Nat.reduceSub, Nat.zero_add, Nat.sub_self, decide_eq_true_eq,
  add_ii, sub_ii, neg_i, mul_r, mul_l, div_s, mod_s, eq_ii, ne_ii, eq_bb, ne_bb, lt_ii, gt_ii, le_ii, ge_ii, len_l, len_t, int_i, int_b, abs_i, max_ii, min_ii, tuple_l, ix_l, ix_t, tr_b, Nat.reduceLeDiff, if_true, if_false, Option.map_some, Option.bind_some, reduceIte, Int.reduceLT, Int.reduceNeg, Int.reduceMul, Nat.reduceLT, Nat.le_refl, LINE, Bool.false_eq_true, Bool.not_true, Bool.not_false, Bool.true_eq_false, R.bind_ex, Int.reduceEq, e_number_number, e_number_truth, e_number_text, e_number_list, e_truth_number, e_truth_truth, e_truth_text, e_truth_list, e_text_number, e_text_truth, e_text_text, e_text_list, e_list_number, e_list_truth, e_list_text, e_list_list, is_bool_n, is_bool_t, is_bool_s, is_bool_l, is_int_n, is_int_t, is_int_s, is_int_l, is_str_n, is_str_t, is_str_s, is_str_l, is_tuple_n, is_tuple_t, is_tuple_s, is_tuple_l, at_z, at_o, sl_tail, tup_0, tup_1, tup_2, tup_3, rev_t, rev_l, len_l])
local macro_rules | `(tactic| walk_at "ev*") => `(tactic| try simp -implicitDefEqProofs only [mDef, mSeq, mIf, mT, mTr, mOp, mUn, mVar, mC, mCall, mCons, mNil, mRet, mSkip, mAsg, mSl, mPart, mNoPart, mAndT, mOrT, mNotT, mAnd, mOr, mNot, mIfE, mChain, mIs, mIs2, mOf, mNew, mCallF, mM1, mM0, mIxM, mLenM, mApp, mSetM, mSetIx, mAug, mFrz, mForS, mRng1, mRng2, mItems, setV_zn, setV_zv, setV_zo, setV_succ, setM, frz, setT2, mBk, mCt, mNo, 
  DL.bind_ok, DL.bind_no, DL.bind_ite, lift_some, lift_none, List.map_cons, List.map_nil, List.length_cons, List.length_nil, List.replicate_succ, List.replicate_zero, List.cons_append, List.nil_append, List.append_nil, List.getElem?_cons_zero, List.getElem?_cons_succ, List.set_cons_zero, List.set_cons_succ, Nat.reduceAdd, Nat.reduceSub, Nat.zero_add, Nat.sub_self, decide_eq_true_eq,
  add_ii, sub_ii, neg_i, mul_r, mul_l, div_s, mod_s, eq_ii, ne_ii, eq_bb, ne_bb, lt_ii, gt_ii, le_ii, ge_ii, len_l, len_t, int_i, int_b, abs_i, max_ii, min_ii, tuple_l, ix_l, ix_t, tr_b, Nat.reduceLeDiff, if_true, if_false, Option.map_some, Option.bind_some, reduceIte, Int.reduceLT, Int.reduceNeg, Int.reduceMul, Nat.reduceLT, Nat.le_refl, LINE, Bool.false_eq_true, Bool.not_true, Bool.not_false, Bool.true_eq_false, R.bind_ex, Int.reduceEq, e_number_number, e_number_truth, e_number_text, e_number_list, e_truth_number, e_truth_truth, e_truth_text, e_truth_list, e_text_number, e_text_truth, e_text_text, e_text_list, e_list_number, e_list_truth, e_list_text, e_list_list, is_bool_n, is_bool_t, is_bool_s, is_bool_l, is_int_n, is_int_t, is_int_s, is_int_l, is_str_n, is_str_t, is_str_s, is_str_l, is_tuple_n, is_tuple_t, is_tuple_s, is_tuple_l, at_z, at_o, sl_tail, tup_0, tup_1, tup_2, tup_3, rev_t, rev_l, len_l, *])
theorem seq_ok {a b : M Fl} {δ δ1 : Dl} (h : a δ = .ok .nx δ1) : mSeq a b δ = b δ1 := by
  unfold mSeq
  rw [h]
  rfl
theorem noOwn_set {δ : Dl} (h : noOwn δ = true) {j : Nat} {c : Cell} (hc : c.isOwn = false) : noOwn (δ.set j c) = true := by
  refine List.all_eq_true.mpr fun x hx => ?_
  rcases List.mem_or_eq_of_mem_set hx with hx | rfl
  · exact List.all_eq_true.mp h x hx
  · rw [hc]; rfl
theorem setV_wiped {δ : Dl} {j : Nat} {x : D} (hj : j < δ.length) : setV j x (δ.set j .non) = some (δ.set j (.val x)) := by
  unfold setV
  rw [List.getElem?_set_self hj]
  show some ((δ.set j .non).set j (.val x)) = _
  rw [List.set_set]
theorem mLcB_pure {j : Nat} {t : M Bool} {e : M D} {δ : Dl} (hj : j < δ.length) (hn : noOwn δ = true) (p : D → Bool) (f : D → D) : ∀ (items : List D), (∀ x ∈ items, t (δ.set j (.val x)) = .ok (p x) (δ.set j (.val x)) ∧ (p x = true → e (δ.set j (.val x)) = .ok (f x) (δ.set j (.val x)))) →
    ∀ δ0 : Dl, δ0.set j .non = δ.set j .non → ∃ δ1 : Dl, mLcB [j] (setV j) t e items δ0 = .ok ((items.filter p).map f) δ1 ∧ δ1.set j .non = δ.set j .non
  | [], _, δ0, h1 => ⟨δ0, rfl, h1⟩
  | x :: xs, he, δ0, h1 => by
    obtain ⟨ht, hx⟩ := he x List.mem_cons_self
    have hs : wipeD δ0 [j] = δ.set j .non := h1
    have e1 : setV j x (wipeD δ0 [j]) = some (δ.set j (.val x)) := by
      rw [hs, setV_wiped hj]
    have e2 : (δ.set j (.val x)).set j .non = δ.set j .non := List.set_set _
    have nx : noOwn (δ.set j (.val x)) = true := noOwn_set hn rfl
    obtain ⟨δ1, ih1, ih2⟩ := mLcB_pure hj hn p f xs (fun y hy => he y (List.mem_cons_of_mem _ hy)) _ e2
    refine ⟨δ1, ?_, ih2⟩
    unfold mLcB
    rw [e1]
    simp only [ht, noex_ok, DL.bind_ok]
    cases hp : p x with
    | true =>
      rw [if_pos rfl]
      simp only [hx hp, noex_ok, DL.bind_ok, nx, if_true, ih1]
      rw [List.filter_cons_of_pos hp, List.map_cons]
    | false =>
      rw [if_neg Bool.false_ne_true, if_pos nx, ih1, List.filter_cons_of_neg (by rw [hp]; exact Bool.false_ne_true)]
theorem back_self {δ' δ1 : Dl} {j : Nat} (hj : j < δ'.length) (h2 : δ1.set j .non = δ'.set j .non) : backD δ' δ1 [j] = δ' := by
  show δ1.set j (δ'.getD j .non) = δ'
  have e0 : δ1.set j (δ'.getD j .non) = (δ1.set j .non).set j (δ'.getD j .non) := (List.set_set _).symm
  rw [e0, h2, List.set_set]
  apply List.ext_getElem?
  intro i
  by_cases q : j = i
  · subst q
    rw [List.getElem?_set_self hj, List.getElem?_eq_getElem hj]
    simp [List.getD, hj]
  · rw [List.getElem?_set_ne q]
theorem noMut1 {δ : Dl} {j : Nat} (h : (δ[j]?).map Cell.isVar = some false) : noMut δ [j] = true := by
  unfold noMut
  rw [List.all_cons, List.all_nil, Bool.and_true]
  cases q : δ[j]? with
  | none => rfl
  | some c =>
    rw [q] at h
    cases c with
    | var b ds => cases h
    | non => rfl
    | val d => rfl
theorem lcSB_pure {j : Nat} {it : M (List D)} {t : M Bool} {e : M D} {δ δ' : Dl} {items : List D} (p : D → Bool) (f : D → D) (hit : it δ = .ok items δ') (hv : (δ'[j]?).map Cell.isVar = some false) (hn : noOwn δ' = true) (hl : items.length ≤ 16777216)
    (he : ∀ x ∈ items, t (δ'.set j (.val x)) = .ok (p x) (δ'.set j (.val x)) ∧ (p x = true → e (δ'.set j (.val x)) = .ok (f x) (δ'.set j (.val x)))) :
    mLcSB [j] it (setV j) t e δ = .ok ((items.filter p).map f) δ' := by
  have hj : j < δ'.length := by
    rcases Nat.lt_or_ge j δ'.length with q | q
    · exact q
    · rw [List.getElem?_eq_none q] at hv; cases hv
  obtain ⟨δ1, h1, h2⟩ := mLcB_pure hj hn p f items he δ' rfl
  unfold mLcSB
  rw [hit, DL.bind_ok, hn, noMut1 hv, Bool.true_and, Bool.true_and, if_pos (decide_eq_true hl), h1, DL.bind_ok, back_self hj h2]
theorem lcSB_map {j : Nat} {it : M (List D)} {e : M D} {δ δ' : Dl} {items : List D} (f : D → D) (hit : it δ = .ok items δ') (hv : (δ'[j]?).map Cell.isVar = some false) (hn : noOwn δ' = true) (hl : items.length ≤ 16777216)
    (he : ∀ x ∈ items, e (δ'.set j (.val x)) = .ok (f x) (δ'.set j (.val x))) : mLcSB [j] it (setV j) mYes e δ = .ok (items.map f) δ' := by
  have h := lcSB_pure (t := mYes) (fun _ => true) f hit hv hn hl fun x hx => ⟨rfl, fun _ => he x hx⟩
  rw [filter_true] at h
  exact h
end K19.PG
end Part_YF

section Part_YI
set_option Elab.async false
set_option linter.all false
set_option maxRecDepth 100000
set_option autoImplicit false
set_option maxHeartbeats 2000000
namespace K19.PG
open K19 PySem PySem.Spec PyProof.Rows L2 DL SX
local macro_rules | `(tactic| walk_at "ev") => `(tactic| try simp -implicitDefEqProofs only [mDef, mSeq, mIf, mT, mTr, mOp, mUn, mVar, mC, mCall, mCons, mNil, mRet, mSkip, mAsg, mSl, mPart, mNoPart, mAndT, mOrT, mNotT, mAnd, mOr, mNot, mIfE, mChain, mIs, mIs2, mOf, mNew, mCallF, mM1, mM0, mIxM, mLenM, mApp, mSetM, mSetIx, mAug, mFrz, mForS, mRng1, mRng2, mItems, setV_zn, setV_zv, setV_zo, setV_succ, setM, frz, setT2, mBk, mCt, mNo, 
  DL.bind_ok, DL.bind_no, DL.bind_ite, lift_some, lift_none, List.map_cons, List.map_nil, List.length_cons, List.length_nil, List.replicate_succ, List.replicate_zero, List.cons_append, List.nil_append, List.append_nil, List.getElem?_cons_zero, List.getElem?_cons_succ, List.set_cons_zero, List.set_cons_succ, Nat.reduceAdd, Nat.reduceSub, Nat.zero_add, Nat.sub_self, decide_eq_true_eq,
  add_ii, sub_ii, neg_i, mul_r, mul_l, div_s, mod_s, eq_ii, ne_ii, eq_bb, ne_bb, lt_ii, gt_ii, le_ii, ge_ii, len_l, len_t, int_i, int_b, abs_i, max_ii, min_ii, tuple_l, ix_l, ix_t, tr_b, Nat.reduceLeDiff, if_true, if_false, Option.map_some, Option.bind_some, reduceIte, Int.reduceLT, Int.reduceNeg, Int.reduceMul, Nat.reduceLT, Nat.le_refl, LINE, Bool.false_eq_true, Bool.not_true, Bool.not_false, Bool.true_eq_false, R.bind_ex, Int.reduceEq, e_number_number, e_number_truth, e_number_text, e_number_list, e_truth_number, e_truth_truth, e_truth_text, e_truth_list, e_text_number, e_text_truth, e_text_text, e_text_list, e_list_number, e_list_truth, e_list_text, e_list_list, is_bool_n, is_bool_t, is_bool_s, is_bool_l, is_int_n, is_int_t, is_int_s, is_int_l, is_str_n, is_str_t, is_str_s, is_str_l, is_tuple_n, is_tuple_t, is_tuple_s, is_tuple_l, at_z, at_o, sl_tail, tup_0, tup_1, tup_2, tup_3, rev_t, rev_l, len_l])
local macro_rules | `(tactic| walk_at "ev*") => `(tactic| try simp -implicitDefEqProofs only [mDef, mSeq, mIf, mT, mTr, mOp, mUn, mVar, mC, mCall, mCons, mNil, mRet, mSkip, mAsg, mSl, mPart, mNoPart, mAndT, mOrT, mNotT, mAnd, mOr, mNot, mIfE, mChain, mIs, mIs2, mOf, mNew, mCallF, mM1, mM0, mIxM, mLenM, mApp, mSetM, mSetIx, mAug, mFrz, mForS, mRng1, mRng2, mItems, setV_zn, setV_zv, setV_zo, setV_succ, setM, frz, setT2, mBk, mCt, mNo, 
  DL.bind_ok, DL.bind_no, DL.bind_ite, lift_some, lift_none, List.map_cons, List.map_nil, List.length_cons, List.length_nil, List.replicate_succ, List.replicate_zero, List.cons_append, List.nil_append, List.append_nil, List.getElem?_cons_zero, List.getElem?_cons_succ, List.set_cons_zero, List.set_cons_succ, Nat.reduceAdd, Nat.reduceSub, Nat.zero_add, Nat.sub_self, decide_eq_true_eq,
  add_ii, sub_ii, neg_i, mul_r, mul_l, div_s, mod_s, eq_ii, ne_ii, eq_bb, ne_bb, lt_ii, gt_ii, le_ii, ge_ii, len_l, len_t, int_i, int_b, abs_i, max_ii, min_ii, tuple_l, ix_l, ix_t, tr_b, Nat.reduceLeDiff, if_true, if_false, Option.map_some, Option.bind_some, reduceIte, Int.reduceLT, Int.reduceNeg, Int.reduceMul, Nat.reduceLT, Nat.le_refl, LINE, Bool.false_eq_true, Bool.not_true, Bool.not_false, Bool.true_eq_false, R.bind_ex, Int.reduceEq, e_number_number, e_number_truth, e_number_text, e_number_list, e_truth_number, e_truth_truth, e_truth_text, e_truth_list, e_text_number, e_text_truth, e_text_text, e_text_list, e_list_number, e_list_truth, e_list_text, e_list_list, is_bool_n, is_bool_t, is_bool_s, is_bool_l, is_int_n, is_int_t, is_int_s, is_int_l, is_str_n, is_str_t, is_str_s, is_str_l, is_tuple_n, is_tuple_t, is_tuple_s, is_tuple_l, at_z, at_o, sl_tail, tup_0, tup_1, tup_2, tup_3, rev_t, rev_l, len_l, *])
theorem callB_ok {i : Nat} {δ : Dl} {mf : List D → R D} {mes : M (List D)} {b : Bool} {es es' ds : List D} {d : D} (h : δ[i]? = some (.var b es)) (hm : mes δ = .ok ds δ) (hf : mf (.list es :: ds) = .ok d [.var true es']) : mCallB i mf mes δ = .ok d (δ.set i (.var b es')) := by
  unfold mCallB
  simp only [h, hm, DL.bind_ok, hf]
theorem seq_rt {a b : M Fl} {δ δ1 : Dl} {d : D} (h : a δ = .ok (.rt d) δ1) : mSeq a b δ = .ok (.rt d) δ1 := by
  unfold mSeq
  rw [h]
  rfl
theorem if_t {t : M Bool} {a b : M Fl} {δ δ1 : Dl} (h : t δ = .ok true δ1) : mIf t a b δ = a δ1 := by
  unfold mIf
  rw [h]
  rfl
theorem if_f {t : M Bool} {a b : M Fl} {δ δ1 : Dl} (h : t δ = .ok false δ1) : mIf t a b δ = b δ1 := by
  unfold mIf
  rw [h]
  rfl
theorem and_f {a b : M Bool} {δ δ1 : Dl} (h : a δ = .ok false δ1) : mAndT a b δ = .ok false δ1 := by
  unfold mAndT
  rw [h]
  rfl
theorem and_t {a b : M Bool} {δ δ1 : Dl} (h : a δ = .ok true δ1) : mAndT a b δ = b δ1 := by
  unfold mAndT
  rw [h]
  rfl
theorem or_t {a b : M Bool} {δ δ1 : Dl} (h : a δ = .ok true δ1) : mOrT a b δ = .ok true δ1 := by
  unfold mOrT
  rw [h]
  rfl
theorem or_f {a b : M Bool} {δ δ1 : Dl} (h : a δ = .ok false δ1) : mOrT a b δ = b δ1 := by
  unfold mOrT
  rw [h]
  rfl
theorem defB_rt {n : Nat} {body : M Fl} {es es' ds : List D} {d : D} {δ' : Dl} (h : body (.var true es :: (ds.map .val ++ List.replicate (n - 1 - ds.length) .non)) = .ok (.rt d) (.var true es' :: δ')) : mDefB n body (.list es :: ds) = .ok d [.var true es'] := by
  show R.bind (body (.var true es :: (ds.map .val ++ List.replicate (n - 1 - ds.length) .non))) _ = _
  rw [h]
  rfl
theorem ret_ok {a : M D} {δ δ1 : Dl} {d : D} (h : a δ = .ok d δ1) : mRet a δ = .ok (.rt d) δ1 := by
  unfold mRet
  rw [h]
  rfl
/-! ### taking -/
theorem take_eq (ns : List Int) {l : Int} (hl : 0 < l) : ∃ (r : Int) (ns' : List Int), m__law_take [.list (ns.map .int), .int l] = .ok (.int r) [.var true (ns'.map .int)] ∧ 0 ≤ r ∧ r < l := by
  have e1 : ∀ x : Int, dMod (.int x) (.int l) = some (.int (x % l)) := fun x => mod_s hl
  rcases List.eq_nil_or_concat ns with rfl | ⟨ns', n, rfl⟩
  · refine ⟨0, [], ?_, Int.le_refl _, hl⟩
    unfold m__law_take b__law_take mDefB
    iterate 4 walk_at "ev"
    rfl
  · refine ⟨n % l, ns', ?_, Int.emod_nonneg _ (by omega), Int.emod_lt_of_pos _ hl⟩
    have em : (ns'.concat n).map PyData.int = ns'.map PyData.int ++ [.int n] := by rw [List.concat_eq_append, List.map_append]; rfl
    rw [em]
    have e2 : mPop 0 [.var true (ns'.map PyData.int ++ [.int n]), .val (.int l)] = .ok (.int n) [.var true (ns'.map .int), .val (.int l)] := pop_at (i := 0) (w := ns'.map .int) (x := .int n) rfl
    have e3 : decide (((ns'.map PyData.int ++ [PyData.int n]).length : Int) = 0) = false := decide_eq_false (by rw [List.length_append, List.length_singleton]; omega)
    have e4 : (((ns'.map PyData.int ++ [PyData.int n]).length : Int) = 0) = False := eq_false (by rw [List.length_append, List.length_singleton]; omega)
    unfold m__law_take b__law_take mDefB
    iterate 6 ((try simp only [e1, e2, e3, e4, truthD]); walk_at "ev")
    try rfl
/-! ### leaves -/
def code : Kd → Nat
  | .n => 110 | .t => 116 | .s => 115 | .l => 108
def lettersD (ks : List Kd) : D := .str (S (ks.map code))
theorem same_eq {j k : Kd} (h : sameK j k = true) : j = k := by cases j <;> cases k <;> first | rfl | cases h
theorem e_code (j k : Kd) : dEq (.str (S [code j])) (.str (letter k)) = some (.bool (sameK j k)) := by cases j <;> cases k <;> kernel_rfl
theorem letter_S (k : Kd) : (.str (letter k) : D) = .str (S [code k]) := by cases k <;> kernel_rfl
def pL (ks : List Kd) (k : Kd) : D → Bool
  | .int i => match ks[i.toNat]? with
    | some j => sameK j k
    | none => false
  | _ => false
theorem leaf_lc {ks : List Kd} (hk : ks.length ≤ 4) {k : Kd} {w : List D} : mLcSB [4] (mRng1 (mCall dLen (mCons (mVar 2) mNil))) (setV 4) b__law_leaf_T1 b__law_leaf_E1 [.var true w, .val (.str (letter k)), .val (lettersD ks), .non, .non] = .ok ((rng 0 ks.length).filter (pL ks k)) [.var true w, .val (.str (letter k)), .val (lettersD ks), .non, .non] := by
  have el : dLen [lettersD ks] = some (.int ks.length) := by
    have := len_S (l := ks.map code) (by rw [List.length_map]; omega)
    rw [List.length_map] at this
    exact this
  have z := lcSB_pure (j := 4) (it := mRng1 (mCall dLen (mCons (mVar 2) mNil))) (t := b__law_leaf_T1) (e := b__law_leaf_E1) (δ := [.var true w, .val (.str (letter k)), .val (lettersD ks), .non, .non]) (δ' := [.var true w, .val (.str (letter k)), .val (lettersD ks), .non, .non]) (items := rng 0 ks.length) (pL ks k) (fun x => x) (by
    have b2 : big ((ks.length : Nat) : Int) = true := big_of (by omega) (by omega)
    iterate 3 ((try simp only [el, b2]); walk_at "ev")) rfl rfl (by rw [rng_len]; omega) (fun x hx => by
    obtain ⟨i, rfl, h0, h1⟩ := rng_int hx
    obtain ⟨n, rfl⟩ := Int.eq_ofNat_of_zero_le h0
    have hn : n < ks.length := by omega
    have e1 : dIx (lettersD ks) (.int (n : Int)) = some (.str (S [code ks[n]])) := by
      show dIx (.str (S (ks.map code))) (.int (n : Int)) = _
      rw [ix_S (by rw [List.length_map]; omega), List.getElem?_map, List.getElem?_eq_getElem hn]
      rfl
    have e2 := e_code ks[n] k
    have e3 : pL ks k (.int (n : Int)) = sameK ks[n] k := by
      show (match ks[(n : Int).toNat]? with | some j => sameK j k | none => false) = _
      rw [Int.toNat_natCast, List.getElem?_eq_getElem hn]
    refine ⟨?_, fun _ => ?_⟩
    · unfold b__law_leaf_T1
      rw [e3]
      iterate 3 ((try simp only [e1, e2]); walk_at "ev")
    · rfl)
  rw [show (fun x : D => x) = id from rfl, List.map_id] at z
  exact z
theorem leaf_eq (ns : List Int) {ks : List Kd} (hk : ks.length ≤ 4) (k : Kd) : ∃ (d : D) (ns' : List Int), m__law_leaf [.list (ns.map .int), .str (letter k), lettersD ks] = .ok d [.var true (ns'.map .int)] ∧ GP ks 1 k d := by
  have e1 := leaf_lc hk (k := k) (w := ns.map .int)
  have con : ∀ (ns2 : List Int) (c3 : D), ∃ (d : D) (ns' : List Int), (mRet (mCall dTup (mCons (mC (.str "constant")) (mCons (mCallF m__law_value (mCons (mVar 1) (mCons (mCallB 0 m__law_take (mCons (mC (.int 100000)) mNil)) mNil))) mNil)))) [.var true (ns2.map .int), .val (.str (letter k)), .val (lettersD ks), .val c3, .non] = .ok (.rt d) [.var true (ns'.map .int), .val (.str (letter k)), .val (lettersD ks), .val c3, .non] ∧ GP ks 1 k d := fun ns2 c3 => by
    obtain ⟨r, ns', t1, t2, t3⟩ := take_eq ns2 (l := 100000) (by decide)
    obtain ⟨v, v1, v2⟩ := value_eq k t2
    have t4 : mCallB 0 m__law_take (mCons (mC (.int 100000)) mNil) [.var true (ns2.map .int), .val (.str (letter k)), .val (lettersD ks), .val c3, .non] = .ok (.int r) [.var true (ns'.map .int), .val (.str (letter k)), .val (lettersD ks), .val c3, .non] := callB_ok (i := 0) (b := true) (es := ns2.map .int) rfl rfl t1
    refine ⟨.tuple [.str "constant", v], ns', ?_, .con v2⟩
    iterate 5 ((try simp only [t4, v1]); walk_at "ev")
  generalize hin : (rng 0 ks.length).filter (pL ks k) = inputs at e1
  have hI : ∀ x ∈ inputs, ∃ i : Nat, x = .int i ∧ ks[i]? = some k := fun x hx => by
    rw [← hin] at hx
    obtain ⟨h1, h2⟩ := List.mem_filter.mp hx
    obtain ⟨i, rfl, h0, h3⟩ := rng_int h1
    obtain ⟨n, rfl⟩ := Int.eq_ofNat_of_zero_le h0
    have h2 : (match ks[(n : Int).toNat]? with | some j => sameK j k | none => false) = true := h2
    rw [Int.toNat_natCast, List.getElem?_eq_getElem (show n < ks.length by omega)] at h2
    exact ⟨n, rfl, by rw [List.getElem?_eq_getElem (show n < ks.length by omega), same_eq h2]⟩
  have hlen : inputs.length ≤ 4 := by
    rw [← hin]
    have := List.length_filter_le (pL ks k) (rng 0 ks.length)
    rw [rng_len] at this
    omega
  have h1 : mSetL 3 (mLcSB [4] (mRng1 (mCall dLen (mCons (mVar 2) mNil))) (setV 4) b__law_leaf_T1 b__law_leaf_E1) [.var true (ns.map .int), .val (.str (letter k)), .val (lettersD ks), .non, .non] = .ok .nx [.var true (ns.map .int), .val (.str (letter k)), .val (lettersD ks), .val (.list inputs), .non] := by
    unfold mSetL
    rw [e1]
    rfl
  have hA : (mT (mOp dGt (mCall dLen (mCons (mVar 3) mNil)) (mC (.int 0)))) [.var true (ns.map .int), .val (.str (letter k)), .val (lettersD ks), .val (.list inputs), .non] = .ok (decide ((0 : Int) < (inputs.length : Nat))) [.var true (ns.map .int), .val (.str (letter k)), .val (lettersD ks), .val (.list inputs), .non] := rfl
  by_cases q : inputs.length = 0
  · rw [decide_eq_false (show ¬ (0 : Int) < (inputs.length : Nat) by omega)] at hA
    obtain ⟨d, ns', c1, c2⟩ := con ns (.list inputs)
    refine ⟨d, ns', defB_rt (n := 5) (body := b__law_leaf) (δ' := [.val (.str (letter k)), .val (lettersD ks), .val (.list inputs), .non]) ?_, c2⟩
    show b__law_leaf [.var true (ns.map .int), .val (.str (letter k)), .val (lettersD ks), .non, .non] = _
    unfold b__law_leaf
    rw [seq_ok h1, seq_ok (by rw [if_f (and_f hA)]; rfl), c1]
  · rw [decide_eq_true (show (0 : Int) < (inputs.length : Nat) by omega)] at hA
    obtain ⟨r, ns1, t1, t2, t3⟩ := take_eq ns (l := 3) (by decide)
    have hB : (mT (mOp dGt (mCallB 0 m__law_take (mCons (mC (.int 3)) mNil)) (mC (.int 0)))) [.var true (ns.map .int), .val (.str (letter k)), .val (lettersD ks), .val (.list inputs), .non] = .ok (decide (0 < r)) [.var true (ns1.map .int), .val (.str (letter k)), .val (lettersD ks), .val (.list inputs), .non] := by
      have t4 : mCallB 0 m__law_take (mCons (mC (.int 3)) mNil) [.var true (ns.map .int), .val (.str (letter k)), .val (lettersD ks), .val (.list inputs), .non] = .ok (.int r) [.var true (ns1.map .int), .val (.str (letter k)), .val (lettersD ks), .val (.list inputs), .non] := callB_ok (i := 0) (b := true) (es := ns.map .int) rfl rfl t1
      unfold mT mOp
      rw [t4]
      rfl
    by_cases hr : 0 < r
    · rw [decide_eq_true hr] at hB
      obtain ⟨r2, ns2, u1, u2, u3⟩ := take_eq ns1 (l := (inputs.length : Nat)) (by omega)
      obtain ⟨x, hx, ex⟩ := at_ex inputs u2 u3
      obtain ⟨i, rfl, hi⟩ := hI x hx
      refine ⟨.tuple [.str "input", .int i], ns2, defB_rt (n := 5) (body := b__law_leaf) (δ' := [.val (.str (letter k)), .val (lettersD ks), .val (.list inputs), .non]) ?_, .inp hi⟩
      show b__law_leaf [.var true (ns.map .int), .val (.str (letter k)), .val (lettersD ks), .non, .non] = _
      have u4 : mCallB 0 m__law_take (mCons (mCall dLen (mCons (mVar 3) mNil)) mNil) [.var true (ns1.map .int), .val (.str (letter k)), .val (lettersD ks), .val (.list inputs), .non] = .ok (.int r2) [.var true (ns2.map .int), .val (.str (letter k)), .val (lettersD ks), .val (.list inputs), .non] := callB_ok (i := 0) (b := true) (es := ns1.map .int) rfl rfl u1
      unfold b__law_leaf
      rw [seq_ok h1, seq_rt (d := .tuple [.str "input", .int i]) (δ1 := [.var true (ns2.map .int), .val (.str (letter k)), .val (lettersD ks), .val (.list inputs), .non]) (by
        rw [if_t ((and_t hA).trans hB)]
        iterate 4 ((try simp only [u4, ex]); walk_at "ev"))]
    · rw [decide_eq_false hr] at hB
      obtain ⟨d, ns', c1, c2⟩ := con ns1 (.list inputs)
      refine ⟨d, ns', defB_rt (n := 5) (body := b__law_leaf) (δ' := [.val (.str (letter k)), .val (lettersD ks), .val (.list inputs), .non]) ?_, c2⟩
      show b__law_leaf [.var true (ns.map .int), .val (.str (letter k)), .val (lettersD ks), .non, .non] = _
      unfold b__law_leaf
      rw [seq_ok h1, seq_ok (by rw [if_f ((and_t hA).trans hB)]; rfl), c1]
/-! ### programs that are drawn -/
def LIBD : D := .list (LIB.map rowD)
def pR (k : Kd) : D → Bool
  | .list [_, _, .str s] => s == letter k
  | _ => false
theorem rows_lc {k : Kd} {w : List D} {c2 c3 : D} {mf : List D → R D} : mLcSB [6] (mItems (mVar 4)) (setV 6) (b__law_program_T1 mf) (b__law_program_E1 mf) [.var true w, .val (.str (letter k)), .val c2, .val c3, .val LIBD, .non, .non, .non] = .ok ((LIB.filter fun r => r.2.2 == letter k).map rowD) [.var true w, .val (.str (letter k)), .val c2, .val c3, .val LIBD, .non, .non, .non] := by
  have z := lcSB_pure (j := 6) (it := mItems (mVar 4)) (t := b__law_program_T1 mf) (e := b__law_program_E1 mf) (δ := [.var true w, .val (.str (letter k)), .val c2, .val c3, .val LIBD, .non, .non, .non]) (δ' := [.var true w, .val (.str (letter k)), .val c2, .val c3, .val LIBD, .non, .non, .non]) (items := LIB.map rowD) (pR k) (fun x => x) rfl rfl rfl (by rw [List.length_map]; decide) (fun x hx => by
    obtain ⟨r, hr, rfl⟩ := List.mem_map.mp hx
    have e1 : dIx (rowD r) (.int 2) = some (.str r.2.2) := rfl
    have e2 := f_let k r hr
    refine ⟨?_, fun _ => ?_⟩
    · unfold b__law_program_T1
      iterate 3 ((try simp only [e1, e2]); walk_at "ev")
      rfl
    · rfl)
  rw [show (fun x : D => x) = id from rfl, List.map_id, List.filter_map] at z
  exact z
theorem args_lc {ks : List Kd} {g : Nat} {mf : List D → R D} {deep : Int} {c1 c4 c5 c6 : D} (ih : ∀ (ns : List Int) (k : Kd), ∃ (d : D) (ns' : List Int), mf [.list (ns.map .int), .str (letter k), lettersD ks, .int (deep - 1), c4] = .ok d [.var true (ns'.map .int)] ∧ GP ks g k d) : ∀ (kk : List Kd) (ns : List Int) (o : Option D), ∃ (as : List D) (ns' : List Int) (o' : Option D),
    mLcB [7] (setV 7) mYes (b__law_program_E2 mf) (kk.map fun k => .str (letter k)) [.var true (ns.map .int), .val c1, .val (lettersD ks), .val (.int deep), .val c4, .val c5, .val c6, cO o] = .ok as [.var true (ns'.map .int), .val c1, .val (lettersD ks), .val (.int deep), .val c4, .val c5, .val c6, cO o'] ∧ All2 (GP ks g) kk as
  | [], ns, o => ⟨[], ns, o, rfl, trivial⟩
  | k :: kk, ns, o => by
    obtain ⟨d, ns1, e1, g1⟩ := ih ns k
    obtain ⟨as, ns2, o2, e2, g2⟩ := args_lc ih kk ns1 (some (.str (letter k)))
    refine ⟨d :: as, ns2, o2, ?_, g1, g2⟩
    have w : wipeD [.var true (ns.map .int), .val c1, .val (lettersD ks), .val (.int deep), .val c4, .val c5, .val c6, cO o] [7] = [.var true (ns.map .int), .val c1, .val (lettersD ks), .val (.int deep), .val c4, .val c5, .val c6, .non] := rfl
    have s : setV 7 (.str (letter k)) [.var true (ns.map .int), .val c1, .val (lettersD ks), .val (.int deep), .val c4, .val c5, .val c6, .non] = some [.var true (ns.map .int), .val c1, .val (lettersD ks), .val (.int deep), .val c4, .val c5, .val c6, .val (.str (letter k))] := rfl
    have f : b__law_program_E2 mf [.var true (ns.map .int), .val c1, .val (lettersD ks), .val (.int deep), .val c4, .val c5, .val c6, .val (.str (letter k))] = .ok d [.var true (ns1.map .int), .val c1, .val (lettersD ks), .val (.int deep), .val c4, .val c5, .val c6, .val (.str (letter k))] :=
      callB_ok (i := 0) (b := true) (es := ns.map .int) (ds := [.str (letter k), lettersD ks, .int (deep - 1), c4]) rfl rfl e1
    have v : noOwn [.var true (ns1.map .int), .val c1, .val (lettersD ks), .val (.int deep), .val c4, .val c5, .val c6, .val (.str (letter k))] = true := rfl
    have e2 : mLcB [7] (setV 7) mYes (b__law_program_E2 mf) (kk.map fun k => .str (letter k)) [.var true (ns1.map .int), .val c1, .val (lettersD ks), .val (.int deep), .val c4, .val c5, .val c6, .val (.str (letter k))] = _ := e2
    rw [List.map_cons, mLcB, w, s]
    simp only [mYes, noex_ok, DL.bind_ok, if_true, f, v, e2]
theorem program_eq {ks : List Kd} (hk : ks.length ≤ 4) : ∀ (g m : Nat) (deep : Int) (ns : List Int) (k : Kd), deep ≤ g + 1 → g + 1 ≤ m → ∃ (d : D) (ns' : List Int), m__law_program_n m [.list (ns.map .int), .str (letter k), lettersD ks, .int deep, LIBD] = .ok d [.var true (ns'.map .int)] ∧ GP ks (g + 1) k d := by
  intro g
  induction g with
  | zero =>
    intro m deep ns k hd hm
    obtain ⟨m, rfl⟩ : ∃ m', m = m' + 1 := ⟨m - 1, by omega⟩
    obtain ⟨d, ns', e, hg⟩ := leaf_eq ns hk k
    refine ⟨d, ns', defB_rt (n := 8) (body := b__law_program (m__law_program_n m)) (δ' := [.val (.str (letter k)), .val (lettersD ks), .val (.int deep), .val LIBD, .non, .non, .non]) ?_, hg⟩
    show b__law_program (m__law_program_n m) [.var true (ns.map .int), .val (.str (letter k)), .val (lettersD ks), .val (.int deep), .val LIBD, .non, .non, .non] = _
    unfold b__law_program
    have hA : (mT (mOp dLt (mVar 3) (mC (.int 2)))) [.var true (ns.map .int), .val (.str (letter k)), .val (lettersD ks), .val (.int deep), .val LIBD, .non, .non, .non] = .ok true [.var true (ns.map .int), .val (.str (letter k)), .val (lettersD ks), .val (.int deep), .val LIBD, .non, .non, .non] := by
      show R.ok (decide (deep < 2)) _ = _
      rw [decide_eq_true (by omega)]
    rw [seq_rt (d := d) (δ1 := [.var true (ns'.map .int), .val (.str (letter k)), .val (lettersD ks), .val (.int deep), .val LIBD, .non, .non, .non]) (by
      rw [if_t (or_t hA)]
      exact ret_ok (callB_ok (i := 0) (b := true) (es := ns.map .int) rfl rfl e))]
  | succ g ih =>
    intro m deep ns k hd hm
    obtain ⟨m, rfl⟩ : ∃ m', m = m' + 1 := ⟨m - 1, by omega⟩
    have leaf : ∀ ns1 : List Int, ∃ (d : D) (ns' : List Int), (mRet (mCallB 0 m__law_leaf (mCons (mVar 1) (mCons (mVar 2) mNil)))) [.var true (ns1.map .int), .val (.str (letter k)), .val (lettersD ks), .val (.int deep), .val LIBD, .non, .non, .non] = .ok (.rt d) [.var true (ns'.map .int), .val (.str (letter k)), .val (lettersD ks), .val (.int deep), .val LIBD, .non, .non, .non] ∧ GP ks (g + 1 + 1) k d := fun ns1 => by
      obtain ⟨d, ns', e, hg⟩ := leaf_eq ns1 hk k
      exact ⟨d, ns', ret_ok (callB_ok (i := 0) (b := true) (es := ns1.map .int) rfl rfl e), hg.le (by omega)⟩
    have hA : (mT (mOp dLt (mVar 3) (mC (.int 2)))) [.var true (ns.map .int), .val (.str (letter k)), .val (lettersD ks), .val (.int deep), .val LIBD, .non, .non, .non] = .ok (decide (deep < 2)) [.var true (ns.map .int), .val (.str (letter k)), .val (lettersD ks), .val (.int deep), .val LIBD, .non, .non, .non] := rfl
    by_cases q : deep < 2
    · rw [decide_eq_true q] at hA
      obtain ⟨d, ns', e, hg⟩ := leaf ns
      refine ⟨d, ns', defB_rt (n := 8) (body := b__law_program (m__law_program_n m)) (δ' := [.val (.str (letter k)), .val (lettersD ks), .val (.int deep), .val LIBD, .non, .non, .non]) ?_, hg⟩
      show b__law_program (m__law_program_n m) [.var true (ns.map .int), .val (.str (letter k)), .val (lettersD ks), .val (.int deep), .val LIBD, .non, .non, .non] = _
      unfold b__law_program
      rw [seq_rt (by rw [if_t (or_t hA)]; exact e)]
    · rw [decide_eq_false q] at hA
      obtain ⟨r, ns1, t1, t2, t3⟩ := take_eq ns (l := 5) (by decide)
      have hB : (mT (mOp dEq (mCallB 0 m__law_take (mCons (mC (.int 5)) mNil)) (mC (.int 0)))) [.var true (ns.map .int), .val (.str (letter k)), .val (lettersD ks), .val (.int deep), .val LIBD, .non, .non, .non] = .ok (decide (r = 0)) [.var true (ns1.map .int), .val (.str (letter k)), .val (lettersD ks), .val (.int deep), .val LIBD, .non, .non, .non] := by
        have t4 : mCallB 0 m__law_take (mCons (mC (.int 5)) mNil) [.var true (ns.map .int), .val (.str (letter k)), .val (lettersD ks), .val (.int deep), .val LIBD, .non, .non, .non] = .ok (.int r) [.var true (ns1.map .int), .val (.str (letter k)), .val (lettersD ks), .val (.int deep), .val LIBD, .non, .non, .non] := callB_ok (i := 0) (b := true) (es := ns.map .int) rfl rfl t1
        iterate 3 ((try simp only [t4]); walk_at "ev")
      by_cases q2 : r = 0
      · rw [decide_eq_true q2] at hB
        obtain ⟨d, ns', e, hg⟩ := leaf ns1
        refine ⟨d, ns', defB_rt (n := 8) (body := b__law_program (m__law_program_n m)) (δ' := [.val (.str (letter k)), .val (lettersD ks), .val (.int deep), .val LIBD, .non, .non, .non]) ?_, hg⟩
        show b__law_program (m__law_program_n m) [.var true (ns.map .int), .val (.str (letter k)), .val (lettersD ks), .val (.int deep), .val LIBD, .non, .non, .non] = _
        unfold b__law_program
        rw [seq_rt (by rw [if_t ((or_f hA).trans hB)]; exact e)]
      · rw [decide_eq_false q2] at hB
        have h1 : mSetL 5 (mLcSB [6] (mItems (mVar 4)) (setV 6) (b__law_program_T1 (m__law_program_n m)) (b__law_program_E1 (m__law_program_n m))) [.var true (ns1.map .int), .val (.str (letter k)), .val (lettersD ks), .val (.int deep), .val LIBD, .non, .non, .non] = .ok .nx [.var true (ns1.map .int), .val (.str (letter k)), .val (lettersD ks), .val (.int deep), .val LIBD, .val (.list ((LIB.filter fun r => r.2.2 == letter k).map rowD)), .non, .non] := by
          unfold mSetL
          rw [rows_lc]
          rfl
        have hf := f_some k
        have hf := of_decide_eq_true hf
        obtain ⟨r2, ns2, u1, u2, u3⟩ := take_eq ns1 (l := ((((LIB.filter fun r => r.2.2 == letter k).map rowD).length : Nat) : Int)) (by rw [List.length_map]; omega)
        obtain ⟨x, hx, ex⟩ := at_ex ((LIB.filter fun r => r.2.2 == letter k).map rowD) u2 u3
        obtain ⟨row, hrow, rfl⟩ := List.mem_map.mp hx
        obtain ⟨hr, hl⟩ := List.mem_filter.mp hrow
        have hl : row.2.2 = letter k := eq_of_beq hl
        generalize hrows : (PyData.list ((LIB.filter fun r => r.2.2 == letter k).map rowD)) = rows at h1
        have u4 : mCallB 0 m__law_take (mCons (mCall dLen (mCons (mVar 5) mNil)) mNil) [.var true (ns1.map .int), .val (.str (letter k)), .val (lettersD ks), .val (.int deep), .val LIBD, .val rows, .non, .non] = .ok (.int r2) [.var true (ns2.map .int), .val (.str (letter k)), .val (lettersD ks), .val (.int deep), .val LIBD, .val rows, .non, .non] := by
          rw [← hrows]
          exact callB_ok (i := 0) (b := true) (es := ns1.map .int) rfl rfl u1
        have h2 : mAsg (setV 6) (mOp dIx (mVar 5) (mCallB 0 m__law_take (mCons (mCall dLen (mCons (mVar 5) mNil)) mNil))) [.var true (ns1.map .int), .val (.str (letter k)), .val (lettersD ks), .val (.int deep), .val LIBD, .val rows, .non, .non] = .ok .nx [.var true (ns2.map .int), .val (.str (letter k)), .val (lettersD ks), .val (.int deep), .val LIBD, .val rows, .val (rowD row), .non] := by
          have ex : dIx rows (.int r2) = some (rowD row) := by rw [← hrows]; exact ex
          iterate 3 ((try simp only [u4, ex]); walk_at "ev")
        obtain ⟨as, ns3, o', w1, w2⟩ := args_lc (ks := ks) (g := g + 1) (mf := m__law_program_n m) (deep := deep) (c1 := .str (letter k)) (c4 := LIBD) (c5 := rows) (c6 := rowD row) (fun ns k => ih m (deep - 1) ns k (by omega) (by omega)) (kdsOf row.2.1) ns2 none
        have hp := f_pos row hr
        rw [Bool.and_eq_true] at hp
        have hp := of_decide_eq_true hp.2
        have h3 : mLcSB [7] (mItems (mOp dIx (mVar 6) (mC (.int 1)))) (setV 7) mYes (b__law_program_E2 (m__law_program_n m)) [.var true (ns2.map .int), .val (.str (letter k)), .val (lettersD ks), .val (.int deep), .val LIBD, .val rows, .val (rowD row), .non] = .ok as [.var true (ns3.map .int), .val (.str (letter k)), .val (lettersD ks), .val (.int deep), .val LIBD, .val rows, .val (rowD row), .non] := by
          have e1 : mItems (mOp dIx (mVar 6) (mC (.int 1))) [.var true (ns2.map .int), .val (.str (letter k)), .val (lettersD ks), .val (.int deep), .val LIBD, .val rows, .val (rowD row), .non] = .ok ((kdsOf row.2.1).map fun k => .str (letter k)) [.var true (ns2.map .int), .val (.str (letter k)), .val (lettersD ks), .val (.int deep), .val LIBD, .val rows, .val (rowD row), .non] := by
            have e1 : dIx (rowD row) (.int 1) = some (.str row.2.1) := rfl
            have e2 := f_items row hr
            iterate 3 ((try simp only [e1, e2]); walk_at "ev")
          unfold mLcSB
          rw [e1]
          have w1 : mLcB [7] (setV 7) mYes (b__law_program_E2 (m__law_program_n m)) ((kdsOf row.2.1).map fun k => .str (letter k)) [.var true (ns2.map .int), .val (.str (letter k)), .val (lettersD ks), .val (.int deep), .val LIBD, .val rows, .val (rowD row), .non] = _ := w1
          rw [DL.bind_ok, if_pos (by
            show (true && (true && decide (((kdsOf row.2.1).map fun k => PyData.str (letter k)).length ≤ LINE))) = true
            rw [decide_eq_true (show ((kdsOf row.2.1).map fun k => PyData.str (letter k)).length ≤ LINE by rw [List.length_map]; show _ ≤ 16777216; omega)]
            rfl), w1]
          rfl
        refine ⟨.tuple (.str row.1 :: as), ns3, defB_rt (n := 8) (body := b__law_program (m__law_program_n m)) (δ' := [.val (.str (letter k)), .val (lettersD ks), .val (.int deep), .val LIBD, .val rows, .val (rowD row), .non]) ?_, .app hr hl w2⟩
        show b__law_program (m__law_program_n m) [.var true (ns.map .int), .val (.str (letter k)), .val (lettersD ks), .val (.int deep), .val LIBD, .non, .non, .non] = _
        unfold b__law_program
        rw [seq_ok (by rw [if_f ((or_f hA).trans hB)]; rfl), seq_ok h1, seq_ok h2]
        have e4 : dIx (rowD row) (.int 0) = some (.str row.1) := rfl
        have e5 : dAdd (.tuple [.str row.1]) (.tuple as) = some (.tuple (.str row.1 :: as)) := by
          show (if _ then _ else _) = _
          rw [if_pos (by rw [← w2.len]; show [PyData.str row.1].length + _ ≤ 16777216; rw [List.length_singleton]; omega)]
          rfl
        iterate 5 ((try simp only [h3, e4, e5]); walk_at "ev")
end K19.PG
end Part_YI

section Part_YS
set_option Elab.async false
set_option linter.all false
set_option maxRecDepth 100000
set_option autoImplicit false
set_option maxHeartbeats 2000000
namespace K19.PG
open K19 PySem PySem.Spec PyProof.Rows L2 DL SX
local macro_rules | `(tactic| walk_at "ev") => `(tactic| try simp -implicitDefEqProofs only [mDef, mSeq, mIf, mT, mTr, mOp, mUn, mVar, mC, mCall, mCons, mNil, mRet, mSkip, mAsg, mSl, mPart, mNoPart, mAndT, mOrT, mNotT, mAnd, mOr, mNot, mIfE, mChain, mIs, mIs2, mOf, mNew, mCallF, mM1, mM0, mIxM, mLenM, mApp, mSetM, mSetIx, mAug, mFrz, mForS, mRng1, mRng2, mItems, setV_zn, setV_zv, setV_zo, setV_succ, setM, frz, setT2, mBk, mCt, mNo, 
  DL.bind_ok, DL.bind_no, DL.bind_ite, lift_some, lift_none, List.map_cons, List.map_nil, List.length_cons, List.length_nil, List.replicate_succ, List.replicate_zero, List.cons_append, List.nil_append, List.append_nil, List.getElem?_cons_zero, List.getElem?_cons_succ, List.set_cons_zero, List.set_cons_succ, Nat.reduceAdd, Nat.reduceSub, Nat.zero_add, Nat.sub_self, decide_eq_true_eq,
  add_ii, sub_ii, neg_i, mul_r, mul_l, div_s, mod_s, eq_ii, ne_ii, eq_bb, ne_bb, lt_ii, gt_ii, le_ii, ge_ii, len_l, len_t, int_i, int_b, abs_i, max_ii, min_ii, tuple_l, ix_l, ix_t, tr_b, Nat.reduceLeDiff, if_true, if_false, Option.map_some, Option.bind_some, reduceIte, Int.reduceLT, Int.reduceNeg, Int.reduceMul, Nat.reduceLT, Nat.le_refl, LINE, Bool.false_eq_true, Bool.not_true, Bool.not_false, Bool.true_eq_false, R.bind_ex, Int.reduceEq, e_number_number, e_number_truth, e_number_text, e_number_list, e_truth_number, e_truth_truth, e_truth_text, e_truth_list, e_text_number, e_text_truth, e_text_text, e_text_list, e_list_number, e_list_truth, e_list_text, e_list_list, is_bool_n, is_bool_t, is_bool_s, is_bool_l, is_int_n, is_int_t, is_int_s, is_int_l, is_str_n, is_str_t, is_str_s, is_str_l, is_tuple_n, is_tuple_t, is_tuple_s, is_tuple_l, at_z, at_o, sl_tail, tup_0, tup_1, tup_2, tup_3, rev_t, rev_l, len_l])
local macro_rules | `(tactic| walk_at "ev*") => `(tactic| try simp -implicitDefEqProofs only [mDef, mSeq, mIf, mT, mTr, mOp, mUn, mVar, mC, mCall, mCons, mNil, mRet, mSkip, mAsg, mSl, mPart, mNoPart, mAndT, mOrT, mNotT, mAnd, mOr, mNot, mIfE, mChain, mIs, mIs2, mOf, mNew, mCallF, mM1, mM0, mIxM, mLenM, mApp, mSetM, mSetIx, mAug, mFrz, mForS, mRng1, mRng2, mItems, setV_zn, setV_zv, setV_zo, setV_succ, setM, frz, setT2, mBk, mCt, mNo, 
  DL.bind_ok, DL.bind_no, DL.bind_ite, lift_some, lift_none, List.map_cons, List.map_nil, List.length_cons, List.length_nil, List.replicate_succ, List.replicate_zero, List.cons_append, List.nil_append, List.append_nil, List.getElem?_cons_zero, List.getElem?_cons_succ, List.set_cons_zero, List.set_cons_succ, Nat.reduceAdd, Nat.reduceSub, Nat.zero_add, Nat.sub_self, decide_eq_true_eq,
  add_ii, sub_ii, neg_i, mul_r, mul_l, div_s, mod_s, eq_ii, ne_ii, eq_bb, ne_bb, lt_ii, gt_ii, le_ii, ge_ii, len_l, len_t, int_i, int_b, abs_i, max_ii, min_ii, tuple_l, ix_l, ix_t, tr_b, Nat.reduceLeDiff, if_true, if_false, Option.map_some, Option.bind_some, reduceIte, Int.reduceLT, Int.reduceNeg, Int.reduceMul, Nat.reduceLT, Nat.le_refl, LINE, Bool.false_eq_true, Bool.not_true, Bool.not_false, Bool.true_eq_false, R.bind_ex, Int.reduceEq, e_number_number, e_number_truth, e_number_text, e_number_list, e_truth_number, e_truth_truth, e_truth_text, e_truth_list, e_text_number, e_text_truth, e_text_text, e_text_list, e_list_number, e_list_truth, e_list_text, e_list_list, is_bool_n, is_bool_t, is_bool_s, is_bool_l, is_int_n, is_int_t, is_int_s, is_int_l, is_str_n, is_str_t, is_str_s, is_str_l, is_tuple_n, is_tuple_t, is_tuple_s, is_tuple_l, at_z, at_o, sl_tail, tup_0, tup_1, tup_2, tup_3, rev_t, rev_l, len_l, *])


/-! ### equal programs -/
theorem eqv_s (a b : Str) : PyData.eqv (.str a) (.str b) = (a == b) := rfl
theorem eqv_i (a b : Int) : PyData.eqv (.int a) (.int b) = (a == b) := rfl
theorem eqv_t (xs ys : List D) : PyData.eqv (.tuple xs) (.tuple ys) = PyData.eqvAll xs ys := rfl
theorem eqvA_c (x y : D) (xs ys : List D) : PyData.eqvAll (x :: xs) (y :: ys) = (PyData.eqv x y && PyData.eqvAll xs ys) := rfl
theorem eqv_vk {k : Kd} {v w : D} (hv : Vk k v) (hw : Vk k w) (h : PyData.eqv v w = true) : v = w := by
  cases hv with
  | @n i _ => cases hw with | @n j _ =>
    have h : (i == j) = true := h
    rw [beq_iff_eq.mp h]
  | t b => cases hw with | t c =>
    cases b <;> cases c <;> first | rfl | cases h
  | @s l _ _ => cases hw with | @s m _ _ =>
    have h : (S l == S m) = true := h
    rw [beq_iff_eq.mp h]
  | @l ns _ _ => cases hw with | @l ms _ _ =>
    have h : PyData.eqvAll (ns.map .int) (ms.map .int) = true := h
    rw [eqv_ints] at h
    rw [of_decide_eq_true h]
def allB {α : Type} (p : α → α → Bool) (l : List α) : Bool := l.all fun a => l.all fun b => p a b
theorem lib_uniq : ∀ r ∈ LIB, ∀ q ∈ LIB, r.1 = q.1 → r = q := by
  have h : allB (fun a b : Str × Str × Str => !(a.1 == b.1) || (a.2.1 == b.2.1 && a.2.2 == b.2.2)) LIB = true := by kernel_rfl
  intro r hr q hq e
  have z := List.all_eq_true.mp (List.all_eq_true.mp h r hr) q hq
  have z : (!(r.1 == q.1) || (r.2.1 == q.2.1 && r.2.2 == q.2.2)) = true := z
  rw [beq_iff_eq.mpr e] at z
  simp only [Bool.not_true, Bool.false_or, Bool.and_eq_true, beq_iff_eq] at z
  exact Prod.ext e (Prod.ext z.1 z.2)
theorem str_ne {a b : Str} (h : leafS a = true) (h2 : leafS b = false) : (a == b) = false ∧ (b == a) = false := by
  constructor
  · refine Bool.eq_false_iff.mpr fun z => ?_
    rw [beq_iff_eq.mp z, h2] at h; cases h
  · refine Bool.eq_false_iff.mpr fun z => ?_
    rw [← beq_iff_eq.mp z, h2] at h; cases h
theorem ic_ne : (("input" : Str) == "constant") = false ∧ (("constant" : Str) == "input") = false := ⟨by kernel_rfl, by kernel_rfl⟩
theorem and_t2 {a b : Bool} (h : (a && b) = true) : a = true ∧ b = true := by cases a <;> cases b <;> first | exact ⟨rfl, rfl⟩ | cases h
theorem eqv_gp {ks : List Kd} : ∀ {n : Nat} {k : Kd} {x y : D}, GP ks n k x → GP ks n k y → PyData.eqv x y = true → x = y := by
  intro n
  induction n with
  | zero => intro k x y h; exact h.elim
  | succ n ih =>
    have L : ∀ {kk : List Kd} {as bs : List D}, All2 (GP ks n) kk as → All2 (GP ks n) kk bs → PyData.eqvAll as bs = true → as = bs := by
      intro kk
      induction kk with
      | nil =>
        intro as bs ha hb _
        match as, bs, ha, hb with
        | [], [], _, _ => rfl
      | cons k kk ihk =>
        intro as bs ha hb h
        match as, bs, ha, hb, h with
        | a :: as, b :: bs, ha, hb, h =>
          rw [eqvA_c] at h
          have h := and_t2 h
          rw [ih ha.1 hb.1 h.1, ihk ha.2 hb.2 h.2]
    intro k x y hx hy h
    have ne : ∀ {a b : Str} {as bs : List D} {P : Prop}, (a == b) = false → PyData.eqv (.tuple (.str a :: as)) (.tuple (.str b :: bs)) = true → P := fun {a b as bs P} h h2 => by
      rw [eqv_t, eqvA_c, eqv_s, h, Bool.false_and] at h2
      cases h2
    cases hx with
    | @inp i _ hi =>
      cases hy with
      | @inp j _ hj =>
        have h : (("input" : Str) == "input" && ((((i : Nat) : Int) == ((j : Nat) : Int)) && true)) = true := h
        rw [beq_iff_eq.mp (and_t2 (and_t2 h).2).1]
      | con hw => exact ne ic_ne.1 h
      | app hr hk ha => exact ne (str_ne leaf_i (f_leaf _ hr)).1 h
    | @con _ v hv =>
      cases hy with
      | inp hj => exact ne ic_ne.2 h
      | @con _ w hw =>
        have h : (("constant" : Str) == "constant" && (PyData.eqv v w && true)) = true := h
        rw [eqv_vk hv hw (and_t2 (and_t2 h).2).1]
      | app hr hk ha => exact ne (str_ne leaf_c (f_leaf _ hr)).1 h
    | @app r as _ hr hk ha =>
      cases hy with
      | inp hj => exact ne (str_ne leaf_i (f_leaf _ hr)).2 h
      | con hw => exact ne (str_ne leaf_c (f_leaf _ hr)).2 h
      | @app q bs _ hq hk' hb =>
        rw [eqv_t, eqvA_c, eqv_s] at h
        have h := and_t2 h
        have e := lib_uniq r hr q hq (beq_iff_eq.mp h.1)
        subst e
        rw [L ha hb h.2]
theorem gp_sh {ks : List Kd} {k : Kd} {x : D} (hx : GP ks 33 k x) : SeqAt.shaped x = true := by
  obtain ⟨a1, a2⟩ := lay_p hx
  show (x.canLay0 && decide (x.depth ≤ 64)) = true
  rw [a1, decide_eq_true (by omega)]
  rfl
theorem eq_gp {ks : List Kd} {j k : Kd} {x y : D} (hx : GP ks 33 j x) (hy : GP ks 33 k y) : dEq x y = some (.bool (PyData.eqv x y)) := by
  unfold dEq
  rw [gp_sh hx, gp_sh hy]
  rfl
theorem eqv_self {ks : List Kd} {k : Kd} {x : D} (hx : GP ks 33 k x) : PyData.eqv x x = true := PySem.SeqAt.eqv_refl x (lay_p hx).1
/-! ### an order that is asymmetric -/
def Tri (x y : D) : Prop := ∃ b c, ltD x y = some b ∧ ltD y x = some c ∧ (b && c) = false ∧ PyData.eqv y x = PyData.eqv x y ∧ (PyData.eqv x y = true → b = false)
def TriL (xs ys : List D) : Prop := ∃ b c, ltAll xs ys = some b ∧ ltAll ys xs = some c ∧ (b && c) = false ∧ PyData.eqvAll ys xs = PyData.eqvAll xs ys ∧ (PyData.eqvAll xs ys = true → b = false)
theorem lta_c (x y : D) (xs ys : List D) : ltAll (x :: xs) (y :: ys) = if PyData.eqv x y then ltAll xs ys else ltD x y := by rw [ltAll]
theorem triL_c {x y : D} {xs ys : List D} (h : Tri x y) (t : PyData.eqv x y = true → TriL xs ys) : TriL (x :: xs) (y :: ys) := by
  obtain ⟨b, c, h1, h2, h3, h4, h5⟩ := h
  cases q : PyData.eqv x y with
  | true =>
    obtain ⟨b', c', t1, t2, t3, t4, t5⟩ := t q
    refine ⟨b', c', ?_, ?_, t3, ?_, ?_⟩
    · rw [lta_c, q]; exact t1
    · rw [lta_c, h4, q]; exact t2
    · rw [eqvA_c, eqvA_c, h4, t4]
    · rw [eqvA_c, q, Bool.true_and]; exact t5
  | false =>
    refine ⟨b, c, ?_, ?_, h3, ?_, ?_⟩
    · rw [lta_c, q]; exact h1
    · rw [lta_c, h4, q]; exact h2
    · rw [eqvA_c, eqvA_c, h4, q, Bool.false_and, Bool.false_and]
    · rw [eqvA_c, q, Bool.false_and]
      exact fun z => by cases z
theorem tri_t {xs ys : List D} (h : TriL xs ys) : Tri (.tuple xs) (.tuple ys) := by
  obtain ⟨b, c, h1, h2, h3, h4, h5⟩ := h
  exact ⟨b, c, by rw [ltD]; exact h1, by rw [ltD]; exact h2, h3, h4, h5⟩
theorem triL_n : TriL [] [] := ⟨false, false, by rw [ltAll]; rfl; intros; contradiction, by rw [ltAll]; rfl; intros; contradiction, rfl, rfl, fun _ => rfl⟩
theorem tri_i (a b : Int) : Tri (.int a) (.int b) := by
  refine ⟨decide (a < b), decide (b < a), by rw [ltD], by rw [ltD], ?_, ?_, ?_⟩
  · by_cases h : a < b
    · rw [decide_eq_false (by omega : ¬ b < a), Bool.and_false]
    · rw [decide_eq_false h, Bool.false_and]
  · show (b == a) = (a == b)
    rw [Bool.eq_iff_iff, beq_iff_eq, beq_iff_eq]; exact eq_comm
  · intro h
    have h : (a == b) = true := h
    rw [beq_iff_eq] at h
    exact decide_eq_false (by omega)
theorem tri_b (a b : Bool) : Tri (.bool a) (.bool b) := by
  refine ⟨!a && b, !b && a, by rw [ltD], by rw [ltD], ?_, ?_, ?_⟩ <;> cases a <;> cases b <;> decide
theorem lt_asymN : ∀ (l m : List Nat), l < m → m < l → False := fun l m h1 h2 => absurd h2 (List.lt_asymm h1)
theorem lt_irrN (l : List Nat) : ¬ l < l := List.lt_irrefl l
theorem tri_s (a b : Str) : Tri (.str a) (.str b) := by
  refine ⟨decide (a.cps.toList < b.cps.toList), decide (b.cps.toList < a.cps.toList), by rw [ltD], by rw [ltD], ?_, ?_, ?_⟩
  · by_cases h : a.cps.toList < b.cps.toList
    · rw [decide_eq_false (fun z => lt_asymN _ _ h z), Bool.and_false]
    · rw [decide_eq_false h, Bool.false_and]
  · show (b == a) = (a == b)
    rw [Bool.eq_iff_iff, beq_iff_eq, beq_iff_eq]; exact eq_comm
  · intro h
    have h : (a == b) = true := h
    rw [beq_iff_eq] at h
    subst h
    exact decide_eq_false (lt_irrN _)
theorem triL_ints : ∀ ns ms : List Int, TriL (ns.map .int) (ms.map .int)
  | [], [] => triL_n
  | n :: ns, m :: ms => triL_c (tri_i n m) fun _ => triL_ints ns ms
  | [], m :: ms => ⟨true, false, by show ltAll [] (_ :: _) = _; rw [ltAll]; simp; intros; contradiction, by show ltAll (_ :: _) [] = _; rw [ltAll]; simp; intros; contradiction, rfl, rfl, fun z => by cases z⟩
  | n :: ns, [] => ⟨false, true, by show ltAll (_ :: _) [] = _; rw [ltAll]; simp; intros; contradiction, by show ltAll [] (_ :: _) = _; rw [ltAll]; simp; intros; contradiction, rfl, rfl, fun _ => rfl⟩
theorem tri_vk {k : Kd} {v w : D} (hv : Vk k v) (hw : Vk k w) : Tri v w := by
  cases hv with
  | n _ => cases hw with | n _ => exact tri_i _ _
  | t b => cases hw with | t c => exact tri_b _ _
  | s _ _ => cases hw with | s _ _ => exact tri_s _ _
  | l _ _ => cases hw with | l _ _ => exact tri_t (triL_ints _ _)
end K19.PG
end Part_YS

section Part_YT
set_option Elab.async false
set_option linter.all false
set_option maxRecDepth 100000
set_option autoImplicit false
set_option maxHeartbeats 2000000
namespace K19.PG
open K19 PySem PySem.Spec PyProof.Rows L2 DL SX
local macro_rules | `(tactic| walk_at "ev") => `(tactic| try simp -implicitDefEqProofs only [mDef, mSeq, mIf, mT, mTr, mOp, mUn, mVar, mC, mCall, mCons, mNil, mRet, mSkip, mAsg, mSl, mPart, mNoPart, mAndT, mOrT, mNotT, mAnd, mOr, mNot, mIfE, mChain, mIs, mIs2, mOf, mNew, mCallF, mM1, mM0, mIxM, mLenM, mApp, mSetM, mSetIx, mAug, mFrz, mForS, mRng1, mRng2, mItems, setV_zn, setV_zv, setV_zo, setV_succ, setM, frz, setT2, mBk, mCt, mNo, 
  DL.bind_ok, DL.bind_no, DL.bind_ite, lift_some, lift_none, List.map_cons, List.map_nil, List.length_cons, List.length_nil, List.replicate_succ, List.replicate_zero, List.cons_append, List.nil_append, List.append_nil, List.getElem?_cons_zero, List.getElem?_cons_succ, List.set_cons_zero, List.set_cons_succ, Nat.reduceAdd, Nat.reduceSub, Nat.zero_add, Nat.sub_self, decide_eq_true_eq,
  add_ii, sub_ii, neg_i, mul_r, mul_l, div_s, mod_s, eq_ii, ne_ii, eq_bb, ne_bb, lt_ii, gt_ii, le_ii, ge_ii, len_l, len_t, int_i, int_b, abs_i, max_ii, min_ii, tuple_l, ix_l, ix_t, tr_b, Nat.reduceLeDiff, if_true, if_false, Option.map_some, Option.bind_some, reduceIte, Int.reduceLT, Int.reduceNeg, Int.reduceMul, Nat.reduceLT, Nat.le_refl, LINE, Bool.false_eq_true, Bool.not_true, Bool.not_false, Bool.true_eq_false, R.bind_ex, Int.reduceEq, e_number_number, e_number_truth, e_number_text, e_number_list, e_truth_number, e_truth_truth, e_truth_text, e_truth_list, e_text_number, e_text_truth, e_text_text, e_text_list, e_list_number, e_list_truth, e_list_text, e_list_list, is_bool_n, is_bool_t, is_bool_s, is_bool_l, is_int_n, is_int_t, is_int_s, is_int_l, is_str_n, is_str_t, is_str_s, is_str_l, is_tuple_n, is_tuple_t, is_tuple_s, is_tuple_l, at_z, at_o, sl_tail, tup_0, tup_1, tup_2, tup_3, rev_t, rev_l, len_l])
local macro_rules | `(tactic| walk_at "ev*") => `(tactic| try simp -implicitDefEqProofs only [mDef, mSeq, mIf, mT, mTr, mOp, mUn, mVar, mC, mCall, mCons, mNil, mRet, mSkip, mAsg, mSl, mPart, mNoPart, mAndT, mOrT, mNotT, mAnd, mOr, mNot, mIfE, mChain, mIs, mIs2, mOf, mNew, mCallF, mM1, mM0, mIxM, mLenM, mApp, mSetM, mSetIx, mAug, mFrz, mForS, mRng1, mRng2, mItems, setV_zn, setV_zv, setV_zo, setV_succ, setM, frz, setT2, mBk, mCt, mNo, 
  DL.bind_ok, DL.bind_no, DL.bind_ite, lift_some, lift_none, List.map_cons, List.map_nil, List.length_cons, List.length_nil, List.replicate_succ, List.replicate_zero, List.cons_append, List.nil_append, List.append_nil, List.getElem?_cons_zero, List.getElem?_cons_succ, List.set_cons_zero, List.set_cons_succ, Nat.reduceAdd, Nat.reduceSub, Nat.zero_add, Nat.sub_self, decide_eq_true_eq,
  add_ii, sub_ii, neg_i, mul_r, mul_l, div_s, mod_s, eq_ii, ne_ii, eq_bb, ne_bb, lt_ii, gt_ii, le_ii, ge_ii, len_l, len_t, int_i, int_b, abs_i, max_ii, min_ii, tuple_l, ix_l, ix_t, tr_b, Nat.reduceLeDiff, if_true, if_false, Option.map_some, Option.bind_some, reduceIte, Int.reduceLT, Int.reduceNeg, Int.reduceMul, Nat.reduceLT, Nat.le_refl, LINE, Bool.false_eq_true, Bool.not_true, Bool.not_false, Bool.true_eq_false, R.bind_ex, Int.reduceEq, e_number_number, e_number_truth, e_number_text, e_number_list, e_truth_number, e_truth_truth, e_truth_text, e_truth_list, e_text_number, e_text_truth, e_text_text, e_text_list, e_list_number, e_list_truth, e_list_text, e_list_list, is_bool_n, is_bool_t, is_bool_s, is_bool_l, is_int_n, is_int_t, is_int_s, is_int_l, is_str_n, is_str_t, is_str_s, is_str_l, is_tuple_n, is_tuple_t, is_tuple_s, is_tuple_l, at_z, at_o, sl_tail, tup_0, tup_1, tup_2, tup_3, rev_t, rev_l, len_l, *])


/-! ### places -/
def kp : D → Int
  | .bool _ => 1
  | .int _ => 0
  | .str _ => 2
  | _ => 3
def plN : Nat → D → D
  | 0, _ => .none
  | n + 1, .tuple (.str s :: as) => if s == "constant" then .tuple (.int 0 :: .int (kp (as.headD .none)) :: as) else if s == "input" then .tuple (.int 1 :: as) else .tuple (.int 2 :: .str s :: as.map (plN n))
  | _, _ => .none
theorem cc_t : (("constant" : Str) == "constant") = true := by kernel_rfl
theorem ii_t : (("input" : Str) == "input") = true := by kernel_rfl
theorem pl_i (n : Nat) (v : D) : plN (n + 1) (.tuple [.str "input", v]) = .tuple [.int 1, v] := by
  rw [plN, ic_ne.1, ii_t]
  rfl
theorem pl_c (n : Nat) (v : D) : plN (n + 1) (.tuple [.str "constant", v]) = .tuple [.int 0, .int (kp v), v] := by
  rw [plN, cc_t]
  rfl
theorem pl_a (n : Nat) {r : Str × Str × Str} (hr : r ∈ LIB) (as : List D) : plN (n + 1) (.tuple (.str r.1 :: as)) = .tuple (.int 2 :: .str r.1 :: as.map (plN n)) := by
  rw [plN, (str_ne leaf_c (f_leaf _ hr)).2, (str_ne leaf_i (f_leaf _ hr)).2]
  rfl
theorem pok_eq {k : Kd} {v : D} (h : Vk k v) : m__place_of_kind [v] = .ok (.int (kp v)) [] := by
  unfold m__place_of_kind b__place_of_kind
  cases h with
  | n _ => iterate 4 ((try simp only [truthD]); walk_at "ev"); try rfl
  | t _ => iterate 4 ((try simp only [truthD]); walk_at "ev"); try rfl
  | s _ _ => iterate 4 ((try simp only [truthD]); walk_at "ev"); try rfl
  | l _ _ => iterate 4 ((try simp only [truthD]); walk_at "ev"); try rfl
theorem place_eq {ks : List Kd} : ∀ {n : Nat} {k : Kd} {d : D}, GP ks n k d → ∀ {m : Nat}, n ≤ m → m__place_n m [d] = .ok (plN n d) [] := by
  intro n
  induction n with
  | zero => intro k d h; exact h.elim
  | succ n ih =>
    intro k d h m hm
    obtain ⟨m, rfl⟩ : ∃ m', m = m' + 1 := ⟨m - 1, by omega⟩
    have hm : n ≤ m := by omega
    show mDef 2 (b__place (m__place_n m)) [d] = _
    cases h with
    | @inp i _ hk =>
      have e0 : dIx (.tuple [.str "input", .int i]) (.int 0) = some (.str "input") := rfl
      have e1 : dIx (.tuple [.str "input", .int i]) (.int 1) = some (.int i) := rfl
      have c1 := i_inp
      have c2 := i_con
      rw [pl_i]
      unfold b__place
      generalize PyData.tuple [.str "input", .int i] = d at e0 e1
      iterate 9 ((try simp only [e0, e1, c1, c2]); walk_at "ev")
    | @con _ v hk =>
      have e0 : dIx (.tuple [.str "constant", v]) (.int 0) = some (.str "constant") := rfl
      have e1 : dIx (.tuple [.str "constant", v]) (.int 1) = some v := rfl
      have c2 := c_con
      have e2 := pok_eq hk
      rw [pl_c]
      unfold b__place
      generalize PyData.tuple [.str "constant", v] = d at e0 e1
      iterate 9 ((try simp only [e0, e1, e2, c2]); walk_at "ev")
    | @app r as _ hr hl ha =>
      have e0 : dIx (.tuple (.str r.1 :: as)) (.int 0) = some (.str r.1) := by rw [ix_t]; exact at_z _ _
      have c1 := f_inp r hr
      have c2 := f_con r hr
      have hlen := ha.len
      have hp := f_pos r hr
      rw [Bool.and_eq_true] at hp
      have hp := of_decide_eq_true hp.2
      have lp := lcS_map (j := 1) (it := mItems (mSl (mVar 0) (mPart (mC (.int 1))) mNoPart)) (e := b__place_E1 (m__place_n m)) (δ := [.val (.tuple (.str r.1 :: as)), .non]) (δ' := [.val (.tuple (.str r.1 :: as)), .non]) (items := as) (plN n) (by
        have es := sl_tail (.str r.1) as
        iterate 3 ((try simp only [es, dItems]); walk_at "ev")
        try rfl) (by simp) rfl (by omega) (fun x hx => by
        obtain ⟨k', hk'⟩ := ha.mem hx
        have e1 := ih hk' hm
        unfold b__place_E1
        iterate 3 ((try simp only [e1]); walk_at "ev"))
      have et : dTup (.int 2 :: .str r.1 :: as.map (plN n)) = some (.tuple (.int 2 :: .str r.1 :: as.map (plN n))) := tup_n (by rw [List.length_cons, List.length_cons, List.length_map]; omega)
      rw [pl_a n hr]
      unfold b__place
      generalize PyData.tuple (.str r.1 :: as) = d at e0 lp
      generalize as.map (plN n) = zs at lp et
      iterate 10 ((try simp only [e0, c1, c2, lp, et, mStar, seqD]); walk_at "ev")
theorem kp_vk {k : Kd} {v w : D} (hv : Vk k v) (hw : Vk k w) : kp v = kp w := by
  cases hv <;> cases hw <;> rfl
theorem tri_ne {a b : Int} (h : a ≠ b) (xs ys : List D) : TriL (.int a :: xs) (.int b :: ys) := triL_c (tri_i a b) fun z => absurd (beq_iff_eq.mp (show (a == b) = true from z)) h
theorem ne_both {a b : Int} {u v : Str} {xs ys us vs : List D} (h : (a == b) = false) (h2 : (u == v) = false) : PyData.eqv (.tuple (.int a :: xs)) (.tuple (.int b :: ys)) = PyData.eqv (.tuple (.str u :: us)) (.tuple (.str v :: vs)) := by
  rw [eqv_t, eqv_t, eqvA_c, eqvA_c, eqv_i, eqv_s, h, h2, Bool.false_and, Bool.false_and]
/-- the places of programs of one kind can be compared; equal ones are those of equal programs -/
theorem tri_pl {ks : List Kd} : ∀ {n : Nat} {k : Kd} {x y : D}, GP ks n k x → GP ks n k y → Tri (plN n x) (plN n y) ∧ PyData.eqv (plN n x) (plN n y) = PyData.eqv x y := by
  intro n
  induction n with
  | zero => intro k x y h; exact h.elim
  | succ n ih =>
    have L : ∀ {kk : List Kd} {as bs : List D}, All2 (GP ks n) kk as → All2 (GP ks n) kk bs → TriL (as.map (plN n)) (bs.map (plN n)) ∧ PyData.eqvAll (as.map (plN n)) (bs.map (plN n)) = PyData.eqvAll as bs := by
      intro kk
      induction kk with
      | nil =>
        intro as bs ha hb
        match as, bs, ha, hb with
        | [], [], _, _ => exact ⟨triL_n, rfl⟩
      | cons k kk ihk =>
        intro as bs ha hb
        match as, bs, ha, hb with
        | a :: as, b :: bs, ha, hb =>
          obtain ⟨h1, h2⟩ := ih ha.1 hb.1
          obtain ⟨h3, h4⟩ := ihk ha.2 hb.2
          exact ⟨triL_c h1 fun _ => h3, by rw [List.map_cons, List.map_cons, eqvA_c, eqvA_c, h2, h4]⟩
    intro k x y hx hy
    cases hx with
    | @inp i _ hi =>
      rw [pl_i]
      cases hy with
      | @inp j _ hj =>
        rw [pl_i]
        refine ⟨tri_t (triL_c (tri_i _ _) fun _ => triL_c (tri_i _ _) fun _ => triL_n), ?_⟩
        show ((1 : Int) == 1 && _) = (("input" : Str) == "input" && _)
        rw [ii_t]
        rfl
      | @con _ w hw =>
        rw [pl_c]
        exact ⟨tri_t (tri_ne (by decide) _ _), ne_both (by decide) ic_ne.1⟩
      | @app q bs _ hq hk hb =>
        rw [pl_a n hq]
        exact ⟨tri_t (tri_ne (by decide) _ _), ne_both (by decide) (str_ne leaf_i (f_leaf _ hq)).1⟩
    | @con _ v hv =>
      rw [pl_c]
      cases hy with
      | @inp j _ hj =>
        rw [pl_i]
        exact ⟨tri_t (tri_ne (by decide) _ _), ne_both (by decide) ic_ne.2⟩
      | @con _ w hw =>
        rw [pl_c]
        refine ⟨tri_t (triL_c (tri_i _ _) fun _ => triL_c (tri_i _ _) fun _ => triL_c (tri_vk hv hw) fun _ => triL_n), ?_⟩
        show ((0 : Int) == 0 && (kp v == kp w && (PyData.eqv v w && true))) = (("constant" : Str) == "constant" && (PyData.eqv v w && true))
        rw [cc_t, kp_vk hv hw]
        simp
      | @app q bs _ hq hk hb =>
        rw [pl_a n hq]
        exact ⟨tri_t (tri_ne (by decide) _ _), ne_both (by decide) (str_ne leaf_c (f_leaf _ hq)).1⟩
    | @app r as _ hr hk ha =>
      rw [pl_a n hr]
      cases hy with
      | @inp j _ hj =>
        rw [pl_i]
        exact ⟨tri_t (tri_ne (by decide) _ _), ne_both (by decide) (str_ne leaf_i (f_leaf _ hr)).2⟩
      | @con _ w hw =>
        rw [pl_c]
        exact ⟨tri_t (tri_ne (by decide) _ _), ne_both (by decide) (str_ne leaf_c (f_leaf _ hr)).2⟩
      | @app q bs _ hq hk' hb =>
        rw [pl_a n hq]
        by_cases h : r.1 = q.1
        · have h := lib_uniq r hr q hq h
          subst h
          obtain ⟨h1, h2⟩ := L ha hb
          refine ⟨tri_t (triL_c (tri_i _ _) fun _ => triL_c (tri_s _ _) fun _ => h1), ?_⟩
          rw [eqv_t, eqv_t, eqvA_c, eqvA_c, eqvA_c, h2]
          rfl
        · have h0 : (r.1 == q.1) = false := beq_eq_false_iff_ne.mpr h
          refine ⟨tri_t (triL_c (tri_i _ _) fun _ => triL_c (tri_s _ _) fun z => absurd (beq_iff_eq.mp (show (r.1 == q.1) = true from z)) h), ?_⟩
          rw [eqv_t, eqv_t, eqvA_c, eqvA_c, eqvA_c, eqv_s, h0, Bool.false_and, Bool.false_and, Bool.and_false]
def prec (x y : D) : Bool := (ltD (plN 33 x) (plN 33 y)).getD false
theorem pl_lay {ks : List Kd} : ∀ {n : Nat} {k : Kd} {d : D}, GP ks n k d → (plN n d).canLay0 = true ∧ (plN n d).depth ≤ n + 1 := by
  intro n
  induction n with
  | zero => intro k d h; exact h.elim
  | succ n ih =>
    intro k d h
    cases h with
    | inp hi => rw [pl_i]; exact ⟨rfl, by show max 0 (max 0 0) + 1 ≤ _; omega⟩
    | @con _ v hv =>
      obtain ⟨a1, a2⟩ := lay_v hv
      rw [pl_c]
      refine ⟨?_, ?_⟩
      · show (true && (true && (v.canLay0 && true))) = true
        rw [a1]; rfl
      · show max 0 (max 0 (max v.depth 0)) + 1 ≤ _; omega
    | @app r as _ hr hk ha =>
      rw [pl_a n hr]
      obtain ⟨a1, a2⟩ := lay_all (ds := as.map (plN n)) (b := n + 1) (fun d hd => by
        obtain ⟨x, hx, rfl⟩ := List.mem_map.mp hd
        obtain ⟨k', hk'⟩ := ha.mem hx
        exact ih hk')
      refine ⟨?_, ?_⟩
      · show (true && (PyData.canLay0 (.str r.1) && PyData.canLayAll0 (as.map (plN n)))) = true
        rw [a1, f_lay r hr]; rfl
      · show max 0 (max 0 (PyData.depthAll (as.map (plN n)))) + 1 ≤ _; omega
theorem precedes_eq {ks : List Kd} {k : Kd} {x y : D} (hx : GP ks 33 k x) (hy : GP ks 33 k y) : m_precedes [x, y] = .ok (.bool (prec x y)) [] := by
  have e1 : m__place [x] = .ok (plN 33 x) [] := place_eq hx (Nat.le_refl 33)
  have e2 : m__place [y] = .ok (plN 33 y) [] := place_eq hy (Nat.le_refl 33)
  obtain ⟨⟨b, c, h1, h2, h3, h4, h5⟩, _⟩ := tri_pl hx hy
  have e3 : dLtN (plN 33 x) (plN 33 y) = some (.bool (prec x y)) := by
    obtain ⟨a1, a2⟩ := pl_lay hx
    obtain ⟨b1, b2⟩ := pl_lay hy
    have s1 : SeqAt.shaped (plN 33 x) = true := by show ((plN 33 x).canLay0 && decide ((plN 33 x).depth ≤ 64)) = true; rw [a1, decide_eq_true (by omega)]; rfl
    have s2 : SeqAt.shaped (plN 33 y) = true := by show ((plN 33 y).canLay0 && decide ((plN 33 y).depth ≤ 64)) = true; rw [b1, decide_eq_true (by omega)]; rfl
    unfold dLtN prec
    rw [s1, s2, h1]
    rfl
  unfold m_precedes b_precedes
  generalize plN 33 x = p at e1 e3
  generalize plN 33 y = q at e2 e3
  iterate 4 ((try simp only [e1, e2, e3]); walk_at "ev")
theorem prec_asym {ks : List Kd} {k : Kd} {x y : D} (hx : GP ks 33 k x) (hy : GP ks 33 k y) (h : prec x y = true) : prec y x = false ∧ PyData.eqv x y = false := by
  obtain ⟨⟨b, c, h1, h2, h3, h4, h5⟩, h6⟩ := tri_pl hx hy
  unfold prec at h ⊢
  rw [h1] at h
  have h : b = true := h
  subst h
  rw [h2]
  refine ⟨?_, ?_⟩
  · cases c
    · rfl
    · cases h3
  · rw [h6] at h5
    cases q : PyData.eqv x y with
    | false => rfl
    | true => exact absurd (h5 q) (by decide)
end K19.PG
end Part_YT

section Part_YU
set_option Elab.async false
set_option linter.all false
set_option maxRecDepth 100000
set_option autoImplicit false
set_option maxHeartbeats 2000000
namespace K19.PG
open K19 PySem PySem.Spec PyProof.Rows L2 DL SX
local macro_rules | `(tactic| walk_at "ev") => `(tactic| try simp -implicitDefEqProofs only [mDef, mSeq, mIf, mT, mTr, mOp, mUn, mVar, mC, mCall, mCons, mNil, mRet, mSkip, mAsg, mSl, mPart, mNoPart, mAndT, mOrT, mNotT, mAnd, mOr, mNot, mIfE, mChain, mIs, mIs2, mOf, mNew, mCallF, mM1, mM0, mIxM, mLenM, mApp, mSetM, mSetIx, mAug, mFrz, mForS, mRng1, mRng2, mItems, setV_zn, setV_zv, setV_zo, setV_succ, setM, frz, setT2, mBk, mCt, mNo, 
  DL.bind_ok, DL.bind_no, DL.bind_ite, lift_some, lift_none, List.map_cons, List.map_nil, List.length_cons, List.length_nil, List.replicate_succ, List.replicate_zero, List.cons_append, List.nil_append, List.append_nil, List.getElem?_cons_zero, List.getElem?_cons_succ, List.set_cons_zero, List.set_cons_succ, Nat.reduceAdd, Nat.reduceSub, Nat.zero_add, Nat.sub_self, decide_eq_true_eq,
  add_ii, sub_ii, neg_i, mul_r, mul_l, div_s, mod_s, eq_ii, ne_ii, eq_bb, ne_bb, lt_ii, gt_ii, le_ii, ge_ii, len_l, len_t, int_i, int_b, abs_i, max_ii, min_ii, tuple_l, ix_l, ix_t, tr_b, Nat.reduceLeDiff, if_true, if_false, Option.map_some, Option.bind_some, reduceIte, Int.reduceLT, Int.reduceNeg, Int.reduceMul, Nat.reduceLT, Nat.le_refl, LINE, Bool.false_eq_true, Bool.not_true, Bool.not_false, Bool.true_eq_false, R.bind_ex, Int.reduceEq, e_number_number, e_number_truth, e_number_text, e_number_list, e_truth_number, e_truth_truth, e_truth_text, e_truth_list, e_text_number, e_text_truth, e_text_text, e_text_list, e_list_number, e_list_truth, e_list_text, e_list_list, is_bool_n, is_bool_t, is_bool_s, is_bool_l, is_int_n, is_int_t, is_int_s, is_int_l, is_str_n, is_str_t, is_str_s, is_str_l, is_tuple_n, is_tuple_t, is_tuple_s, is_tuple_l, at_z, at_o, sl_tail, tup_0, tup_1, tup_2, tup_3, rev_t, rev_l, len_l])
local macro_rules | `(tactic| walk_at "ev*") => `(tactic| try simp -implicitDefEqProofs only [mDef, mSeq, mIf, mT, mTr, mOp, mUn, mVar, mC, mCall, mCons, mNil, mRet, mSkip, mAsg, mSl, mPart, mNoPart, mAndT, mOrT, mNotT, mAnd, mOr, mNot, mIfE, mChain, mIs, mIs2, mOf, mNew, mCallF, mM1, mM0, mIxM, mLenM, mApp, mSetM, mSetIx, mAug, mFrz, mForS, mRng1, mRng2, mItems, setV_zn, setV_zv, setV_zo, setV_succ, setM, frz, setT2, mBk, mCt, mNo, 
  DL.bind_ok, DL.bind_no, DL.bind_ite, lift_some, lift_none, List.map_cons, List.map_nil, List.length_cons, List.length_nil, List.replicate_succ, List.replicate_zero, List.cons_append, List.nil_append, List.append_nil, List.getElem?_cons_zero, List.getElem?_cons_succ, List.set_cons_zero, List.set_cons_succ, Nat.reduceAdd, Nat.reduceSub, Nat.zero_add, Nat.sub_self, decide_eq_true_eq,
  add_ii, sub_ii, neg_i, mul_r, mul_l, div_s, mod_s, eq_ii, ne_ii, eq_bb, ne_bb, lt_ii, gt_ii, le_ii, ge_ii, len_l, len_t, int_i, int_b, abs_i, max_ii, min_ii, tuple_l, ix_l, ix_t, tr_b, Nat.reduceLeDiff, if_true, if_false, Option.map_some, Option.bind_some, reduceIte, Int.reduceLT, Int.reduceNeg, Int.reduceMul, Nat.reduceLT, Nat.le_refl, LINE, Bool.false_eq_true, Bool.not_true, Bool.not_false, Bool.true_eq_false, R.bind_ex, Int.reduceEq, e_number_number, e_number_truth, e_number_text, e_number_list, e_truth_number, e_truth_truth, e_truth_text, e_truth_list, e_text_number, e_text_truth, e_text_text, e_text_list, e_list_number, e_list_truth, e_list_text, e_list_list, is_bool_n, is_bool_t, is_bool_s, is_bool_l, is_int_n, is_int_t, is_int_s, is_int_l, is_str_n, is_str_t, is_str_s, is_str_l, is_tuple_n, is_tuple_t, is_tuple_s, is_tuple_l, at_z, at_o, sl_tail, tup_0, tup_1, tup_2, tup_3, rev_t, rev_l, len_l, *])


/-! ### one rule -/
def tupD : D → List D
  | .tuple ys => ys
  | _ => []
def isInv (f : Str) : Bool := inD (.str f) (tupD c_SELF_INVERSE)
def isIdm (f : Str) : Bool := inD (.str f) (tupD c_IDEMPOTENT)
def isCom (f : Str) : Bool := inD (.str f) (tupD c_COMMUTATIVE)
def effs (f : Str) : List D := match getT d_WITHOUT_EFFECT f with | some d => tupD d | none => []
def nts (f : Str) : List D := match getT d_NEUTRAL f with | some d => tupD d | none => []
def isEff (f h : Str) : Bool := inD (.str h) (effs f)
def stepU (f h : Str) (x : D) : Option D := if isInv f && (h == f) then some x else if isEff f h then some (.tuple [.str f, x]) else none
def ntStep (a b : D) : List D → Option D
  | .tuple [.int i, v] :: r => if PyData.eqv (if i = 0 then a else b) (.tuple [.str "constant", v]) then some (if i = 0 then b else a) else ntStep a b r
  | _ => none
def stepB (f : Str) (a b : D) : Option D := if isIdm f && PyData.eqv a b then some a else if isCom f && prec b a then some (.tuple [.str f, b, a]) else ntStep a b (nts f)
def headX : D → Option (Str × D)
  | .tuple (.str h :: x :: _) => some (h, x)
  | _ => none
def stepD : D → Option D
  | .tuple [.str f, a] => if leafS f then none else (headX a).bind fun p => stepU f p.1 p.2
  | .tuple [.str f, a, b] => stepB f a b
  | _ => none
theorem stepD_leaf {f : Str} {a : D} (h : leafS f = true) : stepD (.tuple [.str f, a]) = none := by
  rw [stepD, if_pos h]
theorem stepD_un {f s : Str} {x : D} {rest : List D} (h : leafS f = false) : stepD (.tuple [.str f, .tuple (.str s :: x :: rest)]) = stepU f s x := by
  rw [stepD, if_neg (by rw [h]; exact Bool.false_ne_true)]
  rfl
theorem inv_eq (f : Str) : dIn (.str f) c_SELF_INVERSE = some (.bool (isInv f)) := rfl
theorem idm_eq (f : Str) : dIn (.str f) c_IDEMPOTENT = some (.bool (isIdm f)) := rfl
theorem com_eq (f : Str) : dIn (.str f) c_COMMUTATIVE = some (.bool (isCom f)) := rfl
/-! what is written -/
def isTup : D → Bool
  | .tuple ys => ys.all flatD
  | _ => false
theorem w_eff : ∀ r ∈ LIB, (match getT d_WITHOUT_EFFECT r.1 with | some d => isTup d && !(tupD d).isEmpty | none => true) = true := all_of (g := fun _ : Str × Str × Str => true) (by kernel_rfl)
def vkB : Kd → D → Bool
  | .n, .int i => decide (-1000000 ≤ i) && decide (i ≤ 1000000)
  | .t, .bool _ => true
  | .s, .str s => s == ""
  | .l, .tuple [] => true
  | _, _ => false
theorem vkB_ok {k : Kd} {v : D} (h : vkB k v = true) : Vk k v := by
  unfold vkB at h
  split at h
  · have h := and_t2 h
    exact .n ⟨of_decide_eq_true h.1, of_decide_eq_true h.2⟩
  · exact .t _
  · rw [beq_iff_eq.mp h, empty_S]
    exact .s (by decide) (fun c hc => nomatch hc)
  · exact .l (ns := []) (by decide) (fun c hc => nomatch hc)
  · cases h
def kB : Kd → Kd → Bool
  | .n, .n | .t, .t | .s, .s | .l, .l => true
  | _, _ => false
theorem kB_ok {j k : Kd} (h : kB j k = true) : j = k := by cases j <;> cases k <;> first | rfl | cases h
def ntOk (r : Str × Str × Str) : D → Bool
  | .tuple [.int i, v] => (decide (i = 0) && (vkB ((kdsOf r.2.1).getD 0 .n) v && kB ((kdsOf r.2.1).getD 1 .n) (resOf r.2.2))) || (decide (i = 1) && (vkB ((kdsOf r.2.1).getD 1 .n) v && kB ((kdsOf r.2.1).getD 0 .n) (resOf r.2.2)))
  | _ => false
theorem w_nt : ∀ r ∈ LIB, (match getT d_NEUTRAL r.1 with | some d => (match d with | .tuple _ => true | _ => false) && ((tupD d).all (ntOk r) && (decide ((kdsOf r.2.1).length = 2) && decide ((tupD d).length ≤ 2))) | none => true) = true := all_of (g := fun _ : Str × Str × Str => true) (by kernel_rfl)
theorem w_com : ∀ r ∈ LIB, (!isCom r.1 || (decide ((kdsOf r.2.1).length = 2) && kB ((kdsOf r.2.1).getD 0 .n) ((kdsOf r.2.1).getD 1 .t))) = true := all_of (g := fun _ : Str × Str × Str => true) (by kernel_rfl)
theorem w_idm : ∀ r ∈ LIB, (!isIdm r.1 || (decide ((kdsOf r.2.1).length = 2) && (kB ((kdsOf r.2.1).getD 0 .n) ((kdsOf r.2.1).getD 1 .t) && kB ((kdsOf r.2.1).getD 0 .n) (resOf r.2.2)))) = true := all_of (g := fun _ : Str × Str × Str => true) (by kernel_rfl)
theorem w_inv : ∀ r ∈ LIB, (!isInv r.1 || (decide ((kdsOf r.2.1).length = 1) && kB ((kdsOf r.2.1).getD 0 .n) (resOf r.2.2))) = true := all_of (g := fun _ : Str × Str × Str => true) (by kernel_rfl)
theorem w_ef2 : ∀ r ∈ LIB, LIB.all (fun q => !isEff r.1 q.1 || (decide ((kdsOf q.2.1).length = 1) && (decide ((kdsOf r.2.1).length = 1) && kB ((kdsOf q.2.1).getD 0 .n) ((kdsOf r.2.1).getD 0 .t)))) = true := all_of (g := fun _ : Str × Str × Str => true) (by kernel_rfl)
theorem w_ef3 : ∀ r ∈ LIB, (isEff r.1 "input" || isEff r.1 "constant") = false := all_of (g := fun _ : Str × Str × Str => false) (by kernel_rfl)
theorem w_kin : ∀ r ∈ LIB, m_is_commutative [.str r.1] = .ok (.bool (isCom r.1)) [] := all_of (g := fun r : Str × Str × Str => R.ok (PyData.bool (isCom r.1)) []) (by kernel_rfl)
theorem eff_eq {r : Str × Str × Str} (hr : r ∈ LIB) : ∃ b, dInK d_WITHOUT_EFFECT (.str r.1) = some (.bool b) ∧ (b = true → dGetK d_WITHOUT_EFFECT (.str r.1) = some (.tuple (effs r.1)) ∧ (effs r.1).all flatD = true) ∧ (b = false → effs r.1 = []) := by
  have h := w_eff r hr
  cases q : getT d_WITHOUT_EFFECT r.1 with
  | none =>
    refine ⟨false, ?_, ?_, ?_⟩
    · show some (PyData.bool (getT d_WITHOUT_EFFECT r.1).isSome) = _
      rw [q]
      rfl
    · intro z; cases z
    · intro _
      unfold effs
      rw [q]
  | some d =>
    rw [q] at h
    have h := (and_t2 h).1
    have e : effs r.1 = tupD d := by unfold effs; rw [q]
    refine ⟨true, ?_, ?_, ?_⟩
    · show some (PyData.bool (getT d_WITHOUT_EFFECT r.1).isSome) = _
      rw [q]
      rfl
    · intro _
      rw [e]
      show getT d_WITHOUT_EFFECT r.1 = _ ∧ _
      rw [q]
      unfold isTup at h
      split at h
      · exact ⟨rfl, h⟩
      · cases h
    · intro z; cases z
theorem nt_eq {r : Str × Str × Str} (hr : r ∈ LIB) : (getT d_NEUTRAL r.1).getD (.tuple []) = .tuple (nts r.1) ∧ (nts r.1).all (ntOk r) = true ∧ (nts r.1 ≠ [] → (kdsOf r.2.1).length = 2) ∧ (nts r.1).length ≤ 2 := by
  have h := w_nt r hr
  unfold nts
  cases q : getT d_NEUTRAL r.1 with
  | none => exact ⟨rfl, rfl, fun z => absurd rfl z, by decide⟩
  | some d =>
    rw [q] at h
    have h := and_t2 h
    have h2 := and_t2 h.2
    have h3 := and_t2 h2.2
    refine ⟨?_, h2.1, fun _ => of_decide_eq_true h3.1, of_decide_eq_true h3.2⟩
    have h := h.1
    split at h
    · rfl
    · cases h
theorem gp_head {ks : List Kd} {n : Nat} {k : Kd} {a : D} (h : GP ks (n + 1) k a) : ∃ (s : Str) (x : D) (rest : List D), a = .tuple (.str s :: x :: rest) ∧ SeqAt.shaped (.str s) = true := by
  cases h with
  | inp hi => exact ⟨_, _, _, rfl, by kernel_rfl⟩
  | con hv => exact ⟨_, _, _, rfl, by kernel_rfl⟩
  | @app r as _ hr hk ha =>
    have hp := f_pos r hr
    rw [Bool.and_eq_true] at hp
    have hp := of_decide_eq_true hp.1
    have hl := ha.len
    match as, hl with
    | x :: rest, _ =>
      refine ⟨r.1, x, rest, rfl, ?_⟩
      show (PyData.canLay0 (.str r.1) && decide (0 ≤ 64)) = true
      rw [f_lay r hr]
      rfl
    | [], hl => rw [hl] at hp; exact absurd hp (by decide)
theorem eq_str {a b : Str} (h : SeqAt.shaped (.str a) = true) (h2 : SeqAt.shaped (.str b) = true) : dEq (.str a) (.str b) = some (.bool (a == b)) := by
  unfold dEq
  rw [h, h2]
  rfl
theorem unary_eq {ks : List Kd} {n : Nat} {k : Kd} {r : Str × Str × Str} (hr : r ∈ LIB) {s : Str} {x : D} {rest : List D} (hs : SeqAt.shaped (.str s) = true) : m__changed_unary [.str r.1, .tuple (.str s :: x :: rest)] = .ok ((stepU r.1 s x).getD .none) [] := by
  have e0 : dIx (.tuple (.str s :: x :: rest)) (.int 0) = some (.str s) := by rw [ix_t]; exact at_z _ _
  have e1 : dIx (.tuple (.str s :: x :: rest)) (.int 1) = some x := by rw [ix_t]; exact at_o _ _ _
  have sr : SeqAt.shaped (.str r.1) = true := by
    show (PyData.canLay0 (.str r.1) && decide (0 ≤ 64)) = true
    rw [f_lay r hr]
    rfl
  have e2 := eq_str hs sr
  have e3 := inv_eq r.1
  obtain ⟨b, e4, e5, e6⟩ := eff_eq hr
  unfold stepU
  unfold m__changed_unary b__changed_unary
  generalize PyData.tuple (.str s :: x :: rest) = a at e0 e1
  generalize hI : isInv r.1 = I at e3 ⊢
  generalize hE : (s == r.1) = E at e2 ⊢
  cases b with
  | false =>
    have e7 : isEff r.1 s = false := by unfold isEff; rw [e6 rfl]; rfl
    rw [e7]
    cases I <;> cases E <;> (iterate 9 ((try simp only [e0, e1, e2, e3, e4]); walk_at "ev")) <;> try rfl
  | true =>
    obtain ⟨e7, e8⟩ := e5 rfl
    have e9 : dIn (.str s) (.tuple (effs r.1)) = some (.bool (isEff r.1 s)) := by
      show (if (true && (effs r.1).all flatD) = true then some (PyData.bool (inD (.str s) (effs r.1))) else none) = _
      rw [e8]
      rfl
    generalize PyData.tuple (effs r.1) = ef at e7 e9
    generalize isEff r.1 s = F at e9 ⊢
    cases I <;> cases E <;> cases F <;> (iterate 10 ((try simp only [e0, e1, e2, e3, e4, e7, e9]); walk_at "ev")) <;> try rfl
theorem const_sh {k : Kd} {v : D} (h : Vk k v) : SeqAt.shaped (.tuple [.str "constant", v]) = true := gp_sh (ks := []) (k := k) (GP.le (n := 1) (.con h) (by decide))
theorem nt_loop {ks : List Kd} {r : Str × Str × Str} {k1 k2 : Kd} {a b f : D} (hk1 : (kdsOf r.2.1).getD 0 .n = k1) (hk2 : (kdsOf r.2.1).getD 1 .n = k2) (ha : GP ks 33 k1 a) (hb : GP ks 33 k2 b) : ∀ (l : List D), l.all (ntOk r) = true → ∀ o3 o4 : Option D, ∃ o3' o4', mFor (setT2 (setV 3) (setV 4)) b__changed_binary_L1 l [.val f, .val a, .val b, cO o3, cO o4] = (match ntStep a b l with | some z => R.ok (Fl.rt z) [.val f, .val a, .val b, cO o3', cO o4'] | none => R.ok Fl.nx [.val f, .val a, .val b, cO o3', cO o4'])
  | [], _, o3, o4 => ⟨o3, o4, rfl⟩
  | y :: l, h, o3, o4 => by
    rw [List.all_cons] at h
    have h := and_t2 h
    have hy := h.1
    unfold ntOk at hy
    split at hy
    case h_2 => cases hy
    rename_i i v hyp
    have e0 : setT2 (setV 3) (setV 4) (.tuple [.int i, v]) [.val f, .val a, .val b, cO o3, cO o4] = some [.val f, .val a, .val b, .val (.int i), .val v] := by cases o3 <;> cases o4 <;> rfl
    have c : dTup [a, b] = some (.tuple [a, b]) := rfl
    have c2 : dTup [b, a] = some (.tuple [b, a]) := rfl
    have c3 : dTup [.str "constant", v] = some (.tuple [.str "constant", v]) := rfl
    obtain ⟨o3', o4', ih⟩ := nt_loop (f := f) hk1 hk2 ha hb l h.2 (some (.int i)) (some v)
    rw [mFor]
    simp only [e0]
    rw [hk1, hk2] at hy
    have key : ∃ (p q : D), (if i = 0 then a else b) = p ∧ (if i = 0 then b else a) = q ∧ atI [a, b] i = some p ∧ atI [b, a] i = some q ∧ SeqAt.shaped p = true ∧ SeqAt.shaped (.tuple [.str "constant", v]) = true := by
      rw [Bool.or_eq_true] at hy
      rcases hy with hy | hy
      · have hy := and_t2 hy
        have e := of_decide_eq_true hy.1
        subst e
        exact ⟨a, b, rfl, rfl, rfl, rfl, gp_sh ha, const_sh (vkB_ok (and_t2 hy.2).1)⟩
      · have hy := and_t2 hy
        have e := of_decide_eq_true hy.1
        subst e
        exact ⟨b, a, rfl, rfl, rfl, rfl, gp_sh hb, const_sh (vkB_ok (and_t2 hy.2).1)⟩
    obtain ⟨p, q, hp, hq, e1, e2, s1, s2⟩ := key
    have e3 : dEq p (.tuple [.str "constant", v]) = some (.bool (PyData.eqv p (.tuple [.str "constant", v]))) := by
      unfold dEq
      rw [s1, s2]
      rfl
    rw [ntStep, hp, hq]
    cases hE : PyData.eqv p (.tuple [.str "constant", v]) with
    | true =>
      rw [hE] at e3
      refine ⟨some (.int i), some v, ?_⟩
      have e4 : b__changed_binary_L1 [.val f, .val a, .val b, .val (.int i), .val v] = .ok (.rt q) [.val f, .val a, .val b, .val (.int i), .val v] := by
        unfold b__changed_binary_L1
        iterate 6 ((try simp only [c, c2, c3, e1, e2, e3]); walk_at "ev")
      simp only [e4, DL.bind_ok]
      rfl
    | false =>
      rw [hE] at e3
      refine ⟨o3', o4', ?_⟩
      have e4 : b__changed_binary_L1 [.val f, .val a, .val b, .val (.int i), .val v] = .ok .nx [.val f, .val a, .val b, .val (.int i), .val v] := by
        unfold b__changed_binary_L1
        iterate 6 ((try simp only [c, c2, c3, e1, e2, e3]); walk_at "ev")
      simp only [e4, DL.bind_ok]
      exact ih
theorem binary_eq {ks : List Kd} {r : Str × Str × Str} (hr : r ∈ LIB) {k1 k2 : Kd} {a b : D} (hk : kdsOf r.2.1 = [k1, k2]) (ha : GP ks 33 k1 a) (hb : GP ks 33 k2 b) : m__changed_binary [.str r.1, a, b] = .ok ((stepB r.1 a b).getD .none) [] := by
  have e1 := idm_eq r.1
  have e2 := w_kin r hr
  have e3 := eq_gp ha hb
  have e4 : isCom r.1 = true → m_precedes [b, a] = .ok (.bool (prec b a)) [] := fun h => by
    have z := w_com r hr
    rw [h, hk] at z
    have z := kB_ok (and_t2 (show (decide ([k1, k2].length = 2) && kB ([k1, k2].getD 0 .n) ([k1, k2].getD 1 .t)) = true from z)).2
    have z : k1 = k2 := z
    subst z
    exact precedes_eq hb ha
  obtain ⟨n1, n2, _, n4⟩ := nt_eq hr
  obtain ⟨o3, o4, e5⟩ := nt_loop (f := .str r.1) (r := r) (by rw [hk]; rfl) (by rw [hk]; rfl) ha hb (nts r.1) n2 none none
  simp only [cO] at e5
  have e6 : mItems (mKGet d_NEUTRAL (mVar 0) (mCall dTup mNil)) [.val (.str r.1), .val a, .val b, .non, .non] = .ok (nts r.1) [.val (.str r.1), .val a, .val b, .non, .non] := by
    show R.lift (dItems ((getT d_NEUTRAL r.1).getD (.tuple []))) _ = _
    rw [n1]
    rfl
  unfold stepB
  unfold m__changed_binary b__changed_binary mForS
  generalize mItems (mKGet d_NEUTRAL (mVar 0) (mCall dTup mNil)) = it at e6 ⊢
  generalize hI : isIdm r.1 = I at e1 ⊢
  generalize hE : PyData.eqv a b = E at e3 ⊢
  generalize hC : isCom r.1 = C at e2 e4 ⊢
  generalize ntStep a b (nts r.1) = N at e5 ⊢
  generalize prec b a = pr at e4 ⊢
  have ct : dTup [.str r.1, b, a] = some (.tuple [.str r.1, b, a]) := rfl
  cases C with
  | false =>
    cases I <;> cases E <;> cases N <;> (simp only [] at e5) <;> (iterate 10 ((try simp only [e1, e2, e3, e5, e6]); walk_at "ev")) <;> try rfl
  | true =>
    have e4 := e4 rfl
    cases I <;> cases E <;> cases pr <;> cases N <;> (simp only [] at e5) <;> (iterate 10 ((try simp only [e1, e2, e3, e4, e5, e6, ct]); walk_at "ev")) <;> try rfl
theorem args_123 {p : Kd → D → Prop} {kk : List Kd} {as : List D} (h : All2 p kk as) (h1 : 1 ≤ kk.length) (h2 : kk.length ≤ 3) : (∃ k1 a, kk = [k1] ∧ as = [a] ∧ p k1 a) ∨ (∃ k1 k2 a b, kk = [k1, k2] ∧ as = [a, b] ∧ p k1 a ∧ p k2 b) ∨ ∃ k1 k2 k3 a b c, kk = [k1, k2, k3] ∧ as = [a, b, c] ∧ p k1 a ∧ p k2 b ∧ p k3 c := by
  cases kk with
  | nil => exact absurd h1 (by decide)
  | cons k1 kk =>
    cases as with
    | nil => exact h.elim
    | cons a as =>
      cases kk with
      | nil =>
        cases as with
        | nil => exact .inl ⟨k1, a, rfl, rfl, h.1⟩
        | cons b as => exact h.2.elim
      | cons k2 kk =>
        cases as with
        | nil => exact h.2.elim
        | cons b as =>
          cases kk with
          | nil =>
            cases as with
            | nil => exact .inr (.inl ⟨k1, k2, a, b, rfl, rfl, h.1, h.2.1⟩)
            | cons c as => exact h.2.2.elim
          | cons k3 kk =>
            cases as with
            | nil => exact h.2.2.elim
            | cons c as =>
              cases kk with
              | nil =>
                cases as with
                | nil => exact .inr (.inr ⟨k1, k2, k3, a, b, c, rfl, rfl, h.1, h.2.1, h.2.2.1⟩)
                | cons d as => exact h.2.2.2.elim
              | cons k4 kk => exact absurd h2 (by simp only [List.length_cons]; omega)
theorem changed_eq {ks : List Kd} {k : Kd} {d : D} (h : GP ks 33 k d) : m__changed [d] = .ok ((stepD d).getD .none) [] := by
  unfold m__changed b__changed
  have h : GP1 ks (GP ks 32) k d := h
  cases h with
  | @inp i _ hi =>
    have e0 : dIx (.tuple [.str "input", .int i]) (.int 0) = some (.str "input") := rfl
    have e1 : m_is_leaf [.tuple [.str "input", .int i]] = .ok (.bool true) [] := by
      have c1 := i_inp
      unfold m_is_leaf b_is_leaf
      generalize PyData.tuple [.str "input", .int i] = d at e0
      iterate 5 ((try simp only [e0, c1, truthD]); walk_at "ev")
    have e2 : stepD (.tuple [.str "input", .int i]) = none := stepD_leaf leaf_i
    rw [e2]
    generalize PyData.tuple [.str "input", .int i] = d at e1
    iterate 5 ((try simp only [e1, truthD]); walk_at "ev")
    try rfl
  | @con _ v hv =>
    have e0 : dIx (.tuple [.str "constant", v]) (.int 0) = some (.str "constant") := rfl
    have e1 : m_is_leaf [.tuple [.str "constant", v]] = .ok (.bool true) [] := by
      have c1 := c_inp
      have c2 := c_con
      unfold m_is_leaf b_is_leaf
      generalize PyData.tuple [.str "constant", v] = d at e0
      iterate 5 ((try simp only [e0, c1, c2, truthD]); walk_at "ev")
    have e2 : stepD (.tuple [.str "constant", v]) = none := stepD_leaf leaf_c
    rw [e2]
    generalize PyData.tuple [.str "constant", v] = d at e1
    iterate 5 ((try simp only [e1, truthD]); walk_at "ev")
    try rfl
  | @app r as _ hr hk ha =>
    have e0 : dIx (.tuple (.str r.1 :: as)) (.int 0) = some (.str r.1) := by rw [ix_t]; exact at_z _ _
    have e1 : m_is_leaf [.tuple (.str r.1 :: as)] = .ok (.bool false) [] := by
      have c1 := f_inp r hr
      have c2 := f_con r hr
      unfold m_is_leaf b_is_leaf
      generalize PyData.tuple (.str r.1 :: as) = d at e0
      iterate 5 ((try simp only [e0, c1, c2, truthD]); walk_at "ev")
    have hp := f_pos r hr
    rw [Bool.and_eq_true] at hp
    have hp1 := of_decide_eq_true hp.1
    have hp2 := of_decide_eq_true hp.2
    generalize hkk : kdsOf r.2.1 = kk at ha hp1 hp2
    rcases args_123 ha hp1 hp2 with ⟨k1, a, rfl, rfl, ha1⟩ | ⟨k1, k2, a, b, rfl, rfl, ha1, hb1⟩ | ⟨k1, k2, k3, a, b, c, rfl, rfl, ha1, hb1, hc1⟩
    · obtain ⟨s, x, rest, rfl, hs⟩ := gp_head ha1
      have e2 := unary_eq (ks := ks) (n := 0) (k := k1) hr (x := x) (rest := rest) hs
      have e3 : stepD (.tuple [.str r.1, .tuple (.str s :: x :: rest)]) = stepU r.1 s x := stepD_un (f_leaf r hr)
      have e4 : dIx (.tuple [.str r.1, .tuple (.str s :: x :: rest)]) (.int 1) = some (.tuple (.str s :: x :: rest)) := rfl
      have e5 : dLen [.tuple [.str r.1, .tuple (.str s :: x :: rest)]] = some (.int 2) := rfl
      rw [e3]
      generalize PyData.tuple [.str r.1, .tuple (.str s :: x :: rest)] = d at e0 e1 e4 e5
      generalize PyData.tuple (.str s :: x :: rest) = a at e2 e4
      generalize (stepU r.1 s x).getD .none = z at e2 ⊢
      iterate 8 ((try simp only [e0, e1, e2, e4, e5, truthD]); walk_at "ev")
    · have e2 := binary_eq hr hkk ha1.succ hb1.succ
      have e3 : stepD (.tuple [.str r.1, a, b]) = stepB r.1 a b := rfl
      have e4 : dIx (.tuple [.str r.1, a, b]) (.int 1) = some a := rfl
      have e6 : dIx (.tuple [.str r.1, a, b]) (.int 2) = some b := rfl
      have e5 : dLen [.tuple [.str r.1, a, b]] = some (.int 3) := rfl
      rw [e3]
      generalize PyData.tuple [.str r.1, a, b] = d at e0 e1 e4 e5 e6
      generalize (stepB r.1 a b).getD .none = z at e2 ⊢
      iterate 10 ((try simp only [e0, e1, e2, e4, e5, e6, truthD]); walk_at "ev")
    · have e3 : stepD (.tuple [.str r.1, a, b, c]) = none := rfl
      have e5 : dLen [.tuple [.str r.1, a, b, c]] = some (.int 4) := rfl
      rw [e3]
      generalize PyData.tuple [.str r.1, a, b, c] = d at e0 e1 e5
      iterate 10 ((try simp only [e0, e1, e5, truthD]); walk_at "ev")
      try rfl
end K19.PG
end Part_YU

section Part_YV
set_option Elab.async false
set_option linter.all false
set_option maxRecDepth 100000
set_option autoImplicit false
set_option maxHeartbeats 2000000
namespace K19.PG
open K19 PySem PySem.Spec PyProof.Rows L2 DL SX
local macro_rules | `(tactic| walk_at "ev") => `(tactic| try simp -implicitDefEqProofs only [mDef, mSeq, mIf, mT, mTr, mOp, mUn, mVar, mC, mCall, mCons, mNil, mRet, mSkip, mAsg, mSl, mPart, mNoPart, mAndT, mOrT, mNotT, mAnd, mOr, mNot, mIfE, mChain, mIs, mIs2, mOf, mNew, mCallF, mM1, mM0, mIxM, mLenM, mApp, mSetM, mSetIx, mAug, mFrz, mForS, mRng1, mRng2, mItems, setV_zn, setV_zv, setV_zo, setV_succ, setM, frz, setT2, mBk, mCt, mNo, 
  DL.bind_ok, DL.bind_no, DL.bind_ite, lift_some, lift_none, List.map_cons, List.map_nil, List.length_cons, List.length_nil, List.replicate_succ, List.replicate_zero, List.cons_append, List.nil_append, List.append_nil, List.getElem?_cons_zero, List.getElem?_cons_succ, List.set_cons_zero, List.set_cons_succ, Nat.reduceAdd, Nat.reduceSub, Nat.zero_add, Nat.sub_self, decide_eq_true_eq,
  add_ii, sub_ii, neg_i, mul_r, mul_l, div_s, mod_s, eq_ii, ne_ii, eq_bb, ne_bb, lt_ii, gt_ii, le_ii, ge_ii, len_l, len_t, int_i, int_b, abs_i, max_ii, min_ii, tuple_l, ix_l, ix_t, tr_b, Nat.reduceLeDiff, if_true, if_false, Option.map_some, Option.bind_some, reduceIte, Int.reduceLT, Int.reduceNeg, Int.reduceMul, Nat.reduceLT, Nat.le_refl, LINE, Bool.false_eq_true, Bool.not_true, Bool.not_false, Bool.true_eq_false, R.bind_ex, Int.reduceEq, e_number_number, e_number_truth, e_number_text, e_number_list, e_truth_number, e_truth_truth, e_truth_text, e_truth_list, e_text_number, e_text_truth, e_text_text, e_text_list, e_list_number, e_list_truth, e_list_text, e_list_list, is_bool_n, is_bool_t, is_bool_s, is_bool_l, is_int_n, is_int_t, is_int_s, is_int_l, is_str_n, is_str_t, is_str_s, is_str_l, is_tuple_n, is_tuple_t, is_tuple_s, is_tuple_l, at_z, at_o, sl_tail, tup_0, tup_1, tup_2, tup_3, rev_t, rev_l, len_l])
local macro_rules | `(tactic| walk_at "ev*") => `(tactic| try simp -implicitDefEqProofs only [mDef, mSeq, mIf, mT, mTr, mOp, mUn, mVar, mC, mCall, mCons, mNil, mRet, mSkip, mAsg, mSl, mPart, mNoPart, mAndT, mOrT, mNotT, mAnd, mOr, mNot, mIfE, mChain, mIs, mIs2, mOf, mNew, mCallF, mM1, mM0, mIxM, mLenM, mApp, mSetM, mSetIx, mAug, mFrz, mForS, mRng1, mRng2, mItems, setV_zn, setV_zv, setV_zo, setV_succ, setM, frz, setT2, mBk, mCt, mNo, 
  DL.bind_ok, DL.bind_no, DL.bind_ite, lift_some, lift_none, List.map_cons, List.map_nil, List.length_cons, List.length_nil, List.replicate_succ, List.replicate_zero, List.cons_append, List.nil_append, List.append_nil, List.getElem?_cons_zero, List.getElem?_cons_succ, List.set_cons_zero, List.set_cons_succ, Nat.reduceAdd, Nat.reduceSub, Nat.zero_add, Nat.sub_self, decide_eq_true_eq,
  add_ii, sub_ii, neg_i, mul_r, mul_l, div_s, mod_s, eq_ii, ne_ii, eq_bb, ne_bb, lt_ii, gt_ii, le_ii, ge_ii, len_l, len_t, int_i, int_b, abs_i, max_ii, min_ii, tuple_l, ix_l, ix_t, tr_b, Nat.reduceLeDiff, if_true, if_false, Option.map_some, Option.bind_some, reduceIte, Int.reduceLT, Int.reduceNeg, Int.reduceMul, Nat.reduceLT, Nat.le_refl, LINE, Bool.false_eq_true, Bool.not_true, Bool.not_false, Bool.true_eq_false, R.bind_ex, Int.reduceEq, e_number_number, e_number_truth, e_number_text, e_number_list, e_truth_number, e_truth_truth, e_truth_text, e_truth_list, e_text_number, e_text_truth, e_text_text, e_text_list, e_list_number, e_list_truth, e_list_text, e_list_list, is_bool_n, is_bool_t, is_bool_s, is_bool_l, is_int_n, is_int_t, is_int_s, is_int_l, is_str_n, is_str_t, is_str_s, is_str_l, is_tuple_n, is_tuple_t, is_tuple_s, is_tuple_l, at_z, at_o, sl_tail, tup_0, tup_1, tup_2, tup_3, rev_t, rev_l, len_l, *])


/-! ### sizes -/
def sz (d : D) : Nat := (P d).length
theorem gd_of {ks : List Kd} {n : Nat} {k : Kd} {d : D} (h : GP ks n k d) (hn : n ≤ 33) : Gd ks d := ⟨k, h.le hn⟩
theorem P_self {ks : List Kd} {d : D} (h : Gd ks d) : d ∈ P d := by rw [P_eq h]; exact List.mem_cons_self
theorem P_arg {ks : List Kd} {d a x : D} (h : Gd ks d) (ha : a ∈ argsD d) (hx : x ∈ P a) : x ∈ P d := by
  rw [P_eq h]
  exact List.mem_cons_of_mem _ (List.mem_flatMap.mpr ⟨a, ha, hx⟩)
theorem flat_mem_le {f : D → List D} : ∀ {l : List D} {a : D}, a ∈ l → (f a).length ≤ (l.flatMap f).length
  | b :: l, a, h => by
    rw [List.flatMap_cons, List.length_append]
    rcases List.mem_cons.mp h with rfl | h
    · omega
    · have := flat_mem_le (f := f) h
      omega
theorem sz_arg {ks : List Kd} {d a : D} (h : Gd ks d) (ha : a ∈ argsD d) : sz a < sz d := by
  unfold sz
  rw [P_eq h, List.length_cons]
  have := flat_mem_le (f := P) ha
  omega
theorem sz_part {ks : List Kd} : ∀ {n : Nat} {k : Kd} {d : D}, GP ks n k d → n ≤ 33 → ∀ x ∈ P d, sz x ≤ sz d ∧ (∀ y ∈ P x, y ∈ P d) := by
  intro n
  induction n with
  | zero => intro k d h; exact h.elim
  | succ n ih =>
    intro k d h hn x hx
    have g := gd_of h hn
    rw [P_eq g] at hx
    rcases List.mem_cons.mp hx with rfl | hx
    · exact ⟨Nat.le_refl _, fun y hy => hy⟩
    · obtain ⟨a, ha, hx⟩ := List.mem_flatMap.mp hx
      obtain ⟨k', hk'⟩ := h.args a ha
      obtain ⟨h1, h2⟩ := ih hk' (by omega) x hx
      exact ⟨Nat.le_trans h1 (Nat.le_of_lt (sz_arg g ha)), fun y hy => P_arg g ha (h2 y hy)⟩
theorem sz_pos {ks : List Kd} {d : D} (h : Gd ks d) : 1 ≤ sz d := by
  unfold sz
  rw [P_eq h, List.length_cons]
  omega
theorem sz_app {ks : List Kd} {r : Str × Str × Str} (hr : r ∈ LIB) {as : List D} (h : Gd ks (.tuple (.str r.1 :: as))) : sz (.tuple (.str r.1 :: as)) = 1 + (as.flatMap P).length := by
  unfold sz
  rw [P_eq h, args_a hr, List.length_cons]
  omega
/-! ### what a rule gives -/
/-- where the result of a rule comes from -/
inductive Rel : D → D → Prop
  | sub {d a e : D} (h : a ∈ argsD d) (he : e ∈ P a) : Rel d e
  | eff {r q : Str × Str × Str} {x : D} (hr : r ∈ LIB) (hq : q ∈ LIB) : Rel (.tuple [.str r.1, .tuple [.str q.1, x]]) (.tuple [.str r.1, x])
  | swp {r : Str × Str × Str} {a b : D} (hr : r ∈ LIB) (h : prec b a = true) (h2 : prec a b = false) (h3 : PyData.eqv b a = false) : Rel (.tuple [.str r.1, a, b]) (.tuple [.str r.1, b, a])
theorem len1 {kk : List Kd} (h : kk.length = 1) : kk = [kk.getD 0 .n] := by
  match kk, h with
  | [k], _ => rfl
theorem len2 {kk : List Kd} (h : kk.length = 2) : kk = [kk.getD 0 .n, kk.getD 1 .n] := by
  match kk, h with
  | [k, j], _ => rfl
theorem leaf_head {s : Str} (h : s = "input" ∨ s = "constant") : leafS s = true := by
  rcases h with rfl | rfl
  · exact leaf_i
  · exact leaf_c
/-- the head of an argument is that of a leaf or a component's -/
theorem arg_cases {ks : List Kd} {n : Nat} {k : Kd} {s : Str} {x : D} {rest : List D} (h : GP ks (n + 1) k (.tuple (.str s :: x :: rest))) : (s = "input" ∨ s = "constant") ∨ ∃ q ∈ LIB, s = q.1 ∧ q.2.2 = letter k ∧ All2 (GP ks n) (kdsOf q.2.1) (x :: rest) := by
  generalize hd : PyData.tuple (.str s :: x :: rest) = d at h
  cases h with
  | inp hi => exact .inl (.inl (PyData.str.inj (List.cons.inj (PyData.tuple.inj hd)).1))
  | con hv => exact .inl (.inr (PyData.str.inj (List.cons.inj (PyData.tuple.inj hd)).1))
  | @app q as _ hq hk ha =>
    have z := List.cons.inj (PyData.tuple.inj hd)
    rw [← z.2] at ha
    exact .inr ⟨q, hq, PyData.str.inj z.1, hk, ha⟩
theorem stepU_ok {ks : List Kd} {n : Nat} {k k1 : Kd} {r : Str × Str × Str} (hr : r ∈ LIB) (hk : r.2.2 = letter k) (hkk : kdsOf r.2.1 = [k1]) {s : Str} {x e : D} {rest : List D} (h : GP ks n k1 (.tuple (.str s :: x :: rest))) (hn : n + 1 ≤ 33)
    (hs : stepU r.1 s x = some e) : GP ks (n + 1) k e ∧ Rel (.tuple [.str r.1, .tuple (.str s :: x :: rest)]) e := by
  obtain ⟨n, rfl⟩ : ∃ m, n = m + 1 := by
    cases n with
    | zero => exact h.elim
    | succ m => exact ⟨m, rfl⟩
  have hin : ∀ {a : D}, a ∈ argsD (.tuple [.str r.1, a]) := fun {a} => by rw [args_a hr]; exact List.mem_cons_self
  unfold stepU at hs
  by_cases c1 : (isInv r.1 && (s == r.1)) = true
  · rw [if_pos c1] at hs
    cases hs
    obtain ⟨c2, c3⟩ := and_t2 c1
    have c3 := beq_iff_eq.mp c3
    have hl : ¬ (s = "input" ∨ s = "constant") := fun z => by
      have := leaf_head z
      rw [c3, f_leaf r hr] at this
      cases this
    rcases arg_cases h with z | ⟨q, hq, hs, hqk, ha⟩
    · exact absurd z hl
    · have e := lib_uniq q hq r hr (hs.symm.trans c3)
      subst e
      rw [hkk] at ha
      have w := w_inv q hr
      rw [c2, hkk] at w
      have w : k1 = resOf q.2.2 := kB_ok (and_t2 (show (decide ([k1].length = 1) && kB ([k1].getD 0 .n) (resOf q.2.2)) = true from w)).2
      have w2 : resOf q.2.2 = k := by rw [hk]; exact res_letter k
      match rest, ha with
      | [], ha =>
        have hx : GP ks n k x := by rw [← w2, ← w]; exact ha.1
        refine ⟨hx.le (by omega), .sub hin ?_⟩
        have g := gd_of h (by omega)
        subst hs
        refine P_arg g ?_ (P_self (gd_of hx (by omega)))
        rw [args_a hq]
        exact List.mem_cons_self
      | _ :: _, ha => exact ha.2.elim
  · rw [if_neg c1] at hs
    by_cases c2 : isEff r.1 s = true
    · rw [if_pos c2] at hs
      cases hs
      have w := w_ef3 r hr
      rw [Bool.or_eq_false_iff] at w
      have hl : ¬ (s = "input" ∨ s = "constant") := fun z => by
        rcases z with rfl | rfl
        · rw [w.1] at c2; cases c2
        · rw [w.2] at c2; cases c2
      rcases arg_cases h with z | ⟨q, hq, rfl, hqk, ha⟩
      · exact absurd z hl
      · have w := List.all_eq_true.mp (w_ef2 r hr) q hq
        rw [c2] at w
        have w := and_t2 (show (decide ((kdsOf q.2.1).length = 1) && (decide ((kdsOf r.2.1).length = 1) && kB ((kdsOf q.2.1).getD 0 .n) ((kdsOf r.2.1).getD 0 .t))) = true from w)
        have w2 := kB_ok (and_t2 w.2).2
        have l1 := len1 (of_decide_eq_true w.1)
        rw [hkk] at w2
        have w2 : (kdsOf q.2.1).getD 0 .n = k1 := w2
        rw [w2] at l1
        rw [l1] at ha
        match rest, ha with
        | [], ha =>
          exact ⟨.app hr hk (by rw [hkk]; exact ⟨ha.1.succ, trivial⟩), .eff hr hq⟩
        | _ :: _, ha => exact ha.2.elim
    · rw [if_neg c2] at hs
      cases hs
theorem nt_ok {ks : List Kd} {n : Nat} {r : Str × Str × Str} {k1 k2 k : Kd} {a b e : D} (hk1 : (kdsOf r.2.1).getD 0 .n = k1) (hk2 : (kdsOf r.2.1).getD 1 .n = k2) (hk : resOf r.2.2 = k) (ha : GP ks n k1 a) (hb : GP ks n k2 b) : ∀ (l : List D), l.all (ntOk r) = true → ntStep a b l = some e → GP ks n k e ∧ (e = a ∨ e = b)
  | [], _, h => by cases h
  | y :: l, h, hs => by
    rw [List.all_cons] at h
    have h := and_t2 h
    have hy := h.1
    unfold ntOk at hy
    split at hy
    case h_2 => cases hy
    rename_i i v hyp
    rw [ntStep] at hs
    rw [hk1, hk2, hk] at hy
    by_cases c : PyData.eqv (if i = 0 then a else b) (.tuple [.str "constant", v]) = true
    · rw [if_pos c] at hs
      cases hs
      rw [Bool.or_eq_true] at hy
      rcases hy with hy | hy
      · have hy := and_t2 hy
        have z := of_decide_eq_true hy.1
        subst z
        have w := kB_ok (and_t2 hy.2).2
        subst w
        exact ⟨hb, .inr rfl⟩
      · have hy := and_t2 hy
        have z := of_decide_eq_true hy.1
        subst z
        have w := kB_ok (and_t2 hy.2).2
        subst w
        exact ⟨ha, .inl rfl⟩
    · rw [if_neg c] at hs
      exact nt_ok hk1 hk2 hk ha hb l h.2 hs
theorem stepB_ok {ks : List Kd} {n : Nat} {k k1 k2 : Kd} {r : Str × Str × Str} (hr : r ∈ LIB) (hk : r.2.2 = letter k) (hkk : kdsOf r.2.1 = [k1, k2]) {a b e : D} (ha : GP ks n k1 a) (hb : GP ks n k2 b) (hn : n + 1 ≤ 33)
    (hs : stepB r.1 a b = some e) : GP ks (n + 1) k e ∧ Rel (.tuple [.str r.1, a, b]) e := by
  have hres : resOf r.2.2 = k := by rw [hk]; exact res_letter k
  have hina : a ∈ argsD (.tuple [.str r.1, a, b]) := by rw [args_a hr]; exact List.mem_cons_self
  have hinb : b ∈ argsD (.tuple [.str r.1, a, b]) := by rw [args_a hr]; exact List.mem_cons_of_mem _ List.mem_cons_self
  unfold stepB at hs
  by_cases c1 : (isIdm r.1 && PyData.eqv a b) = true
  · rw [if_pos c1] at hs
    cases hs
    have w := w_idm r hr
    rw [(and_t2 c1).1, hkk] at w
    have w := and_t2 (show (decide ([k1, k2].length = 2) && (kB ([k1, k2].getD 0 .n) ([k1, k2].getD 1 .t) && kB ([k1, k2].getD 0 .n) (resOf r.2.2))) = true from w)
    have w2 : k1 = resOf r.2.2 := kB_ok (and_t2 w.2).2
    rw [hres] at w2
    subst w2
    exact ⟨ha.succ, .sub hina (P_self (gd_of ha (by omega)))⟩
  · rw [if_neg c1] at hs
    by_cases c2 : (isCom r.1 && prec b a) = true
    · rw [if_pos c2] at hs
      cases hs
      have w := w_com r hr
      rw [(and_t2 c2).1, hkk] at w
      have w := and_t2 (show (decide ([k1, k2].length = 2) && kB ([k1, k2].getD 0 .n) ([k1, k2].getD 1 .t)) = true from w)
      have w2 : k1 = k2 := kB_ok w.2
      subst w2
      obtain ⟨z1, z2⟩ := prec_asym (hb.le (by omega)) (ha.le (by omega)) (and_t2 c2).2
      exact ⟨.app hr hk (by rw [hkk]; exact ⟨hb, ha, trivial⟩), .swp hr (and_t2 c2).2 z1 z2⟩
    · rw [if_neg c2] at hs
      obtain ⟨_, n2, _, _⟩ := nt_eq hr
      obtain ⟨g, z⟩ := nt_ok (k := k) (by rw [hkk]; rfl) (by rw [hkk]; rfl) hres ha hb (nts r.1) n2 hs
      refine ⟨g.succ, ?_⟩
      rcases z with rfl | rfl
      · exact .sub hina (P_self (gd_of ha (by omega)))
      · exact .sub hinb (P_self (gd_of hb (by omega)))
theorem step_ok {ks : List Kd} {n : Nat} {k : Kd} {d e : D} (h : GP ks (n + 1) k d) (hn : n + 1 ≤ 33) (hs : stepD d = some e) : GP ks (n + 1) k e ∧ Rel d e := by
  have h : GP1 ks (GP ks n) k d := h
  cases h with
  | inp hi => rw [stepD_leaf leaf_i] at hs; cases hs
  | con hv => rw [stepD_leaf leaf_c] at hs; cases hs
  | @app r as _ hr hk ha =>
    have hp := f_pos r hr
    rw [Bool.and_eq_true] at hp
    have hp1 := of_decide_eq_true hp.1
    have hp2 := of_decide_eq_true hp.2
    generalize hkk : kdsOf r.2.1 = kk at ha hp1 hp2
    rcases args_123 ha hp1 hp2 with ⟨k1, a, rfl, rfl, ha1⟩ | ⟨k1, k2, a, b, rfl, rfl, ha1, hb1⟩ | ⟨k1, k2, k3, a, b, c, rfl, rfl, ha1, hb1, hc1⟩
    · cases n with
      | zero => exact ha1.elim
      | succ n =>
        obtain ⟨s, x, rest, rfl, _⟩ := gp_head ha1
        rw [stepD_un (f_leaf r hr)] at hs
        exact stepU_ok hr hk hkk ha1 hn hs
    · exact stepB_ok hr hk hkk ha1 hb1 hn hs
    · cases hs
/-! ### the rules come to an end -/
def sw : D → Bool
  | .tuple [.str _, a, b] => prec b a
  | _ => false
def mu (d : D) : Nat := 2 * sz d + (if sw d then 1 else 0)
theorem rel_mu {ks : List Kd} {n : Nat} {k j : Kd} {d e : D} (h : GP ks n k d) (he : GP ks n j e) (hn : n ≤ 33) (r : Rel d e) : mu e < mu d ∧ sz e ≤ sz d := by
  have g := gd_of h hn
  have lt : sz e < sz d → mu e < mu d ∧ sz e ≤ sz d := fun z => by
    unfold mu
    constructor
    · split <;> split <;> omega
    · omega
  cases r with
  | sub ha he' =>
    rename_i a
    refine lt ?_
    obtain ⟨k', hk'⟩ : ∃ k', GP ks (n - 1) k' a := by
      cases n with
      | zero => exact h.elim
      | succ n => exact h.args a ha
    have := (sz_part hk' (by omega) e he').1
    have := sz_arg g ha
    omega
  | @eff r q x hr hq =>
    refine lt ?_
    have g2 := gd_of he hn
    rw [sz_app hr g, sz_app hr g2]
    have ga := (Gd.args g _ (by rw [args_a hr]; exact List.mem_cons_self)).1
    have : sz (.tuple [.str q.1, x]) = 1 + ([x].flatMap P).length := sz_app hq ga
    unfold sz at this
    rw [List.flatMap_cons, List.flatMap_nil, List.append_nil] at this ⊢
    rw [List.flatMap_cons, List.flatMap_nil, List.append_nil]
    omega
  | @swp r a b hr p1 p2 p3 =>
    have g2 := gd_of he hn
    have e1 : sz (.tuple [.str r.1, b, a]) = sz (.tuple [.str r.1, a, b]) := by
      rw [sz_app hr g, sz_app hr g2]
      simp only [List.flatMap_cons, List.flatMap_nil, List.append_nil, List.length_append]
      omega
    unfold mu
    rw [e1, show sw (.tuple [.str r.1, b, a]) = prec a b from rfl, show sw (.tuple [.str r.1, a, b]) = prec b a from rfl, p1, p2]
    simp
def normN : Nat → D → D
  | 0, d => d
  | n + 1, d => match stepD d with
    | none => d
    | some e => normN n e
theorem gp_nn {ks : List Kd} {n : Nat} {k : Kd} {d : D} (h : GP ks n k d) : dNotN d .none = some (.bool true) := by
  cases n with
  | zero => exact h.elim
  | succ n => cases h <;> rfl
theorem while_ok {ks : List Kd} {n : Nat} {k : Kd} (hn : n ≤ 33) {mf : List D → R D} {c0 c3 : Cell} : ∀ (N : Nat) (d : D), GP ks n k d → mu d ≤ N → mWhile (b_simplify_C1 mf) (b_simplify_L1 mf) (N + 1) [c0, .val d, .val ((stepD d).getD .none), c3] = .ok .nx [c0, .val (normN N d), .val .none, c3] ∧ GP ks n k (normN N d) ∧ stepD (normN N d) = none ∧ sz (normN N d) ≤ sz d := by
  intro N
  induction N with
  | zero =>
    intro d h hm
    have := sz_pos (gd_of h hn)
    unfold mu at hm
    omega
  | succ N ih =>
    intro d h hm
    cases hs : stepD d with
    | none =>
      have e1 : normN (N + 1) d = d := by rw [normN, hs]
      rw [e1]
      refine ⟨mWhile_end ?_, h, hs, Nat.le_refl _⟩
      unfold b_simplify_C1
      rfl
    | some e =>
      have e1 : normN (N + 1) d = normN N e := by rw [normN, hs]
      obtain ⟨n', rfl⟩ : ∃ m, n = m + 1 := by
        cases n with
        | zero => exact h.elim
        | succ m => exact ⟨m, rfl⟩
      obtain ⟨g, r⟩ := step_ok h hn hs
      obtain ⟨m1, m2⟩ := rel_mu h g hn r
      obtain ⟨i1, i2, i3, i4⟩ := ih e g (by omega)
      rw [e1]
      refine ⟨?_, i2, i3, by omega⟩
      have t1 : b_simplify_C1 mf [c0, .val d, .val e, c3] = .ok true [c0, .val d, .val e, c3] := by
        have z := gp_nn g
        unfold b_simplify_C1
        iterate 3 ((try simp only [z]); walk_at "ev")
      have t2 : b_simplify_L1 mf [c0, .val d, .val e, c3] = .ok .nx [c0, .val e, .val ((stepD e).getD .none), c3] := by
        have z := changed_eq (g.le hn)
        unfold b_simplify_L1
        cases c0 <;> (iterate 4 ((try simp only [z, setV]); walk_at "ev")) <;> try rfl
      exact (mWhile_turn t1 t2).trans i1
end K19.PG
end Part_YV

section Part_YW
set_option Elab.async false
set_option linter.all false
set_option maxRecDepth 100000
set_option autoImplicit false
set_option maxHeartbeats 2000000
namespace K19.PG
open K19 PySem PySem.Spec PyProof.Rows L2 DL SX
local macro_rules | `(tactic| walk_at "ev") => `(tactic| try simp -implicitDefEqProofs only [mDef, mSeq, mIf, mT, mTr, mOp, mUn, mVar, mC, mCall, mCons, mNil, mRet, mSkip, mAsg, mSl, mPart, mNoPart, mAndT, mOrT, mNotT, mAnd, mOr, mNot, mIfE, mChain, mIs, mIs2, mOf, mNew, mCallF, mM1, mM0, mIxM, mLenM, mApp, mSetM, mSetIx, mAug, mFrz, mForS, mRng1, mRng2, mItems, setV_zn, setV_zv, setV_zo, setV_succ, setM, frz, setT2, mBk, mCt, mNo, 
  DL.bind_ok, DL.bind_no, DL.bind_ite, lift_some, lift_none, List.map_cons, List.map_nil, List.length_cons, List.length_nil, List.replicate_succ, List.replicate_zero, List.cons_append, List.nil_append, List.append_nil, List.getElem?_cons_zero, List.getElem?_cons_succ, List.set_cons_zero, List.set_cons_succ, Nat.reduceAdd, Nat.reduceSub, Nat.zero_add, Nat.sub_self, decide_eq_true_eq,
  add_ii, sub_ii, neg_i, mul_r, mul_l, div_s, mod_s, eq_ii, ne_ii, eq_bb, ne_bb, lt_ii, gt_ii, le_ii, ge_ii, len_l, len_t, int_i, int_b, abs_i, max_ii, min_ii, tuple_l, ix_l, ix_t, tr_b, Nat.reduceLeDiff, if_true, if_false, Option.map_some, Option.bind_some, reduceIte, Int.reduceLT, Int.reduceNeg, Int.reduceMul, Nat.reduceLT, Nat.le_refl, LINE, Bool.false_eq_true, Bool.not_true, Bool.not_false, Bool.true_eq_false, R.bind_ex, Int.reduceEq, e_number_number, e_number_truth, e_number_text, e_number_list, e_truth_number, e_truth_truth, e_truth_text, e_truth_list, e_text_number, e_text_truth, e_text_text, e_text_list, e_list_number, e_list_truth, e_list_text, e_list_list, is_bool_n, is_bool_t, is_bool_s, is_bool_l, is_int_n, is_int_t, is_int_s, is_int_l, is_str_n, is_str_t, is_str_s, is_str_l, is_tuple_n, is_tuple_t, is_tuple_s, is_tuple_l, at_z, at_o, sl_tail, tup_0, tup_1, tup_2, tup_3, rev_t, rev_l, len_l])
local macro_rules | `(tactic| walk_at "ev*") => `(tactic| try simp -implicitDefEqProofs only [mDef, mSeq, mIf, mT, mTr, mOp, mUn, mVar, mC, mCall, mCons, mNil, mRet, mSkip, mAsg, mSl, mPart, mNoPart, mAndT, mOrT, mNotT, mAnd, mOr, mNot, mIfE, mChain, mIs, mIs2, mOf, mNew, mCallF, mM1, mM0, mIxM, mLenM, mApp, mSetM, mSetIx, mAug, mFrz, mForS, mRng1, mRng2, mItems, setV_zn, setV_zv, setV_zo, setV_succ, setM, frz, setT2, mBk, mCt, mNo, 
  DL.bind_ok, DL.bind_no, DL.bind_ite, lift_some, lift_none, List.map_cons, List.map_nil, List.length_cons, List.length_nil, List.replicate_succ, List.replicate_zero, List.cons_append, List.nil_append, List.append_nil, List.getElem?_cons_zero, List.getElem?_cons_succ, List.set_cons_zero, List.set_cons_succ, Nat.reduceAdd, Nat.reduceSub, Nat.zero_add, Nat.sub_self, decide_eq_true_eq,
  add_ii, sub_ii, neg_i, mul_r, mul_l, div_s, mod_s, eq_ii, ne_ii, eq_bb, ne_bb, lt_ii, gt_ii, le_ii, ge_ii, len_l, len_t, int_i, int_b, abs_i, max_ii, min_ii, tuple_l, ix_l, ix_t, tr_b, Nat.reduceLeDiff, if_true, if_false, Option.map_some, Option.bind_some, reduceIte, Int.reduceLT, Int.reduceNeg, Int.reduceMul, Nat.reduceLT, Nat.le_refl, LINE, Bool.false_eq_true, Bool.not_true, Bool.not_false, Bool.true_eq_false, R.bind_ex, Int.reduceEq, e_number_number, e_number_truth, e_number_text, e_number_list, e_truth_number, e_truth_truth, e_truth_text, e_truth_list, e_text_number, e_text_truth, e_text_text, e_text_list, e_list_number, e_list_truth, e_list_text, e_list_list, is_bool_n, is_bool_t, is_bool_s, is_bool_l, is_int_n, is_int_t, is_int_s, is_int_l, is_str_n, is_str_t, is_str_s, is_str_l, is_tuple_n, is_tuple_t, is_tuple_s, is_tuple_l, at_z, at_o, sl_tail, tup_0, tup_1, tup_2, tup_3, rev_t, rev_l, len_l, *])


/-! ### programs to which no rule applies -/
def St (d : D) : Prop := ∀ p ∈ P d, stepD p = none
theorem St.part {ks : List Kd} {n : Nat} {k : Kd} {d x : D} (h : St d) (g : GP ks n k d) (hn : n ≤ 33) (hx : x ∈ P d) : St x := fun p hp => h p ((sz_part g hn x hx).2 p hp)
theorem St.self {ks : List Kd} {d : D} (h : St d) (g : Gd ks d) : stepD d = none := h d (P_self g)
theorem norm_none {d : D} (h : stepD d = none) : ∀ N, normN N d = d
  | 0 => rfl
  | N + 1 => by rw [normN, h]
theorem norm_some {d e : D} (h : stepD d = some e) (N : Nat) : normN (N + 1) d = normN N e := by rw [normN, h]
theorem st_of {ks : List Kd} {d : D} (g : Gd ks d) (h : stepD d = none) (ha : ∀ a ∈ argsD d, St a) : St d := fun p hp => by
  rw [P_eq g] at hp
  rcases List.mem_cons.mp hp with rfl | hp
  · exact h
  · obtain ⟨a, h1, h2⟩ := List.mem_flatMap.mp hp
    exact ha a h1 p h2
/-- the parts behind one rule -/
theorem rel_st {ks : List Kd} {n : Nat} {k j : Kd} {d e : D} (h : GP ks (n + 1) k d) (he : GP ks (n + 1) j e) (hn : n + 1 ≤ 33) (r : Rel d e) (ha : ∀ a ∈ argsD d, St a) : St e ∨ ((∀ a ∈ argsD e, St a) ∧ sz e + (if sw e then 1 else 0) < sz d + (if sw d then 1 else 0)) := by
  have g := gd_of h hn
  cases r with
  | sub hs he' =>
    rename_i a
    obtain ⟨k', hk'⟩ := h.args a hs
    exact .inl ((ha a hs).part hk' (by omega) he')
  | @eff r q x hr hq =>
    refine .inr ⟨fun a h2 => ?_, ?_⟩
    · rw [args_a hr] at h2
      have h2 := List.mem_singleton.mp h2
      subst h2
      have z : (PyData.tuple [.str q.1, a]) ∈ argsD (.tuple [.str r.1, .tuple [.str q.1, a]]) := by rw [args_a hr]; exact List.mem_cons_self
      obtain ⟨k', hk'⟩ := h.args _ z
      have hx : a ∈ argsD (.tuple [.str q.1, a]) := by rw [args_a hq]; exact List.mem_cons_self
      obtain ⟨k2, hk2⟩ : ∃ k2, GP ks (n - 1) k2 a := by
        cases n with
        | zero => exact hk'.elim
        | succ n => exact hk'.args _ hx
      exact (ha _ z).part hk' (by omega) (P_arg (gd_of hk' (by omega)) hx (P_self (gd_of hk2 (by omega))))
    · have := (rel_mu h he hn (.eff hr hq)).1
      unfold mu at this
      have s1 : sw (.tuple [.str r.1, x]) = false := rfl
      have s2 : sw (.tuple [.str r.1, .tuple [.str q.1, x]]) = false := rfl
      rw [s1, s2] at this ⊢
      simp only [Bool.false_eq_true, if_false] at this ⊢
      omega
  | @swp r a b hr p1 p2 p3 =>
    refine .inr ⟨fun x h2 => ?_, ?_⟩
    · rw [args_a hr] at h2
      refine ha x ?_
      rw [args_a hr]
      simp only [List.mem_cons, List.not_mem_nil, or_false] at h2 ⊢
      exact h2.symm
    · have z := rel_mu h he hn (.swp hr p1 p2 p3)
      have s1 : sw (.tuple [.str r.1, b, a]) = false := p2
      have s2 : sw (.tuple [.str r.1, a, b]) = true := p1
      rw [s1, s2]
      have := z.2
      simp
      omega
theorem norm_st {ks : List Kd} {n : Nat} {k : Kd} (hn : n + 1 ≤ 33) : ∀ (N : Nat) (d : D), GP ks (n + 1) k d → (∀ a ∈ argsD d, St a) → sz d + (if sw d then 1 else 0) ≤ N → St (normN N d) := by
  intro N
  induction N with
  | zero =>
    intro d h ha hm
    have := sz_pos (gd_of h hn)
    omega
  | succ N ih =>
    intro d h ha hm
    have g := gd_of h hn
    cases hs : stepD d with
    | none =>
      rw [norm_none hs]
      exact st_of g hs ha
    | some e =>
      rw [norm_some hs]
      obtain ⟨ge, r⟩ := step_ok h hn hs
      rcases rel_st h ge hn r ha with z | ⟨z1, z2⟩
      · rw [norm_none (z.self (gd_of ge hn))]
        exact z
      · exact ih e ge z1 (by omega)
theorem norm_more {d : D} : ∀ (N : Nat) (d : D), stepD (normN N d) = none → ∀ j, normN (N + j) d = normN N d
  | 0, d, h, j => by
    rw [Nat.zero_add]
    exact norm_none h j
  | N + 1, d, h, j => by
    rw [show N + 1 + j = (N + j) + 1 by omega]
    cases hs : stepD d with
    | none => rw [norm_none hs, norm_none hs]
    | some e =>
      rw [norm_some hs] at h ⊢
      rw [norm_some hs]
      exact norm_more (d := d) N e h j
theorem gp_norm {ks : List Kd} {n : Nat} {k : Kd} (hn : n + 1 ≤ 33) : ∀ (N : Nat) (d : D), GP ks (n + 1) k d → GP ks (n + 1) k (normN N d)
  | 0, d, h => h
  | N + 1, d, h => by
    cases hs : stepD d with
    | none => rw [norm_none hs]; exact h
    | some e => rw [norm_some hs]; exact gp_norm hn N e (step_ok h hn hs).1
/-- .. and so any number of turns that suffices gives the same -/
theorem norm_same {ks : List Kd} {n : Nat} {k : Kd} (hn : n + 1 ≤ 33) {N M : Nat} {d : D} (h : GP ks (n + 1) k d) (ha : ∀ a ∈ argsD d, St a) (h1 : sz d + 1 ≤ N) (h2 : sz d + 1 ≤ M) : normN N d = normN M d := by
  have q : sz d + (if sw d then 1 else 0) ≤ sz d + 1 := by split <;> omega
  have s := norm_st hn (sz d + 1) d h ha q
  have z := s.self (gd_of (gp_norm hn _ d h) hn)
  obtain ⟨i, rfl⟩ : ∃ i, N = sz d + 1 + i := ⟨N - (sz d + 1), by omega⟩
  obtain ⟨j, rfl⟩ : ∃ j, M = sz d + 1 + j := ⟨M - (sz d + 1), by omega⟩
  rw [norm_more (d := d) _ d z i, norm_more (d := d) _ d z j]
/-! ### simplify -/
def simpF : Nat → D → D
  | 0, d => d
  | m + 1, d => match d with
    | .tuple (.str s :: as) => if leafS s then .tuple (.str s :: as) else normN (mu (.tuple (.str s :: as.map (simpF m)))) (.tuple (.str s :: as.map (simpF m)))
    | d => d
theorem simp_leaf {m : Nat} {s : Str} {as : List D} (h : leafS s = true) : simpF (m + 1) (.tuple (.str s :: as)) = .tuple (.str s :: as) := by
  rw [simpF, if_pos h]
theorem simp_app {m : Nat} {s : Str} {as : List D} (h : leafS s = false) : simpF (m + 1) (.tuple (.str s :: as)) = normN (mu (.tuple (.str s :: as.map (simpF m)))) (.tuple (.str s :: as.map (simpF m))) := by
  rw [simpF, if_neg (by rw [h]; exact Bool.false_ne_true)]
theorem flat_le {f g : D → D} : ∀ {l : List D}, (∀ x ∈ l, sz (f x) ≤ sz x) → ((l.map f).flatMap P).length ≤ (l.flatMap P).length
  | [], _ => Nat.le_refl _
  | x :: l, h => by
    rw [List.map_cons, List.flatMap_cons, List.flatMap_cons, List.length_append, List.length_append]
    have h1 := h x List.mem_cons_self
    have h2 := flat_le (f := f) (g := g) fun y hy => h y (List.mem_cons_of_mem _ hy)
    unfold sz at h1
    omega
theorem All2.map {p q : Kd → D → Prop} {f : D → D} (h : ∀ k d, p k d → q k (f d)) : ∀ {ks : List Kd} {ds : List D}, All2 p ks ds → All2 q ks (ds.map f)
  | [], [], _ => trivial
  | k :: ks, d :: ds, a => ⟨h k d a.1, All2.map h a.2⟩
  | [], _ :: _, a => a.elim
  | _ :: _, [], a => a.elim
theorem leaf_eq' {ks : List Kd} {n : Nat} {k : Kd} {d : D} (h : GP ks n k d) : m_is_leaf [d] = .ok (.bool (leafD d)) [] := by
  cases n with
  | zero => exact h.elim
  | succ n =>
  cases h with
  | @inp i _ hi =>
    have e0 : dIx (.tuple [.str "input", .int i]) (.int 0) = some (.str "input") := rfl
    have c1 := i_inp
    have e2 : leafD (.tuple [.str "input", .int i]) = true := leaf_i
    rw [e2]
    unfold m_is_leaf b_is_leaf
    generalize PyData.tuple [.str "input", .int i] = d at e0
    iterate 5 ((try simp only [e0, c1, truthD]); walk_at "ev")
  | @con _ v hv =>
    have e0 : dIx (.tuple [.str "constant", v]) (.int 0) = some (.str "constant") := rfl
    have c1 := c_inp
    have c2 := c_con
    have e2 : leafD (.tuple [.str "constant", v]) = true := leaf_c
    rw [e2]
    unfold m_is_leaf b_is_leaf
    generalize PyData.tuple [.str "constant", v] = d at e0
    iterate 5 ((try simp only [e0, c1, c2, truthD]); walk_at "ev")
  | @app r as _ hr hk ha =>
    have e0 : dIx (.tuple (.str r.1 :: as)) (.int 0) = some (.str r.1) := by rw [ix_t]; exact at_z _ _
    have c1 := f_inp r hr
    have c2 := f_con r hr
    have e2 : leafD (.tuple (.str r.1 :: as)) = false := f_leaf r hr
    rw [e2]
    unfold m_is_leaf b_is_leaf
    generalize PyData.tuple (.str r.1 :: as) = d at e0
    iterate 5 ((try simp only [e0, c1, c2, truthD]); walk_at "ev")
theorem simplify_eq {ks : List Kd} : ∀ {n : Nat} {k : Kd} {d : D}, GP ks n k d → n ≤ 33 → ∀ {m : Nat}, n ≤ m → m_simplify_n m [d] = .ok (simpF n d) [] ∧ GP ks n k (simpF n d) ∧ sz (simpF n d) ≤ sz d ∧ St (simpF n d) := by
  intro n
  induction n with
  | zero => intro k d h; exact h.elim
  | succ n ih =>
    intro k d h hn m hm
    obtain ⟨m, rfl⟩ : ∃ m', m = m' + 1 := ⟨m - 1, by omega⟩
    have hm : n ≤ m := by omega
    have e0 := leaf_eq' h
    have g := gd_of h hn
    show mDef 4 (b_simplify (m_simplify_n m)) [d] = _ ∧ _
    have leaf : leafD d = true → simpF (n + 1) d = d → stepD d = none → argsD d = [] → mDef 4 (b_simplify (m_simplify_n m)) [d] = .ok (simpF (n + 1) d) [] ∧ GP ks (n + 1) k (simpF (n + 1) d) ∧ sz (simpF (n + 1) d) ≤ sz d ∧ St (simpF (n + 1) d) := fun h1 h2 h3 h4 => by
      rw [h1] at e0
      rw [h2]
      refine ⟨?_, h, Nat.le_refl _, st_of g h3 (fun a ha => by rw [h4] at ha; cases ha)⟩
      unfold b_simplify
      iterate 5 ((try simp only [e0, truthD]); walk_at "ev")
    have h' : GP1 ks (GP ks n) k d := h
    cases h' with
    | inp hi => exact leaf leaf_i (simp_leaf leaf_i) (stepD_leaf leaf_i) args_i
    | con hv => exact leaf leaf_c (simp_leaf leaf_c) (stepD_leaf leaf_c) args_c
    | @app r as _ hr hk ha =>
      have e1 : leafD (.tuple (.str r.1 :: as)) = false := f_leaf r hr
      rw [e1] at e0
      have hlen := ha.len
      have hp := f_pos r hr
      rw [Bool.and_eq_true] at hp
      have hp := of_decide_eq_true hp.2
      rw [simp_app (f_leaf r hr)]
      have hA : GP ks (n + 1) k (.tuple (.str r.1 :: as.map (simpF n))) := .app hr hk (All2.map (q := GP ks n) (f := simpF n) (fun k' x hx => (ih hx (by omega) (Nat.le_refl n)).2.1) ha)
      have gA := gd_of hA hn
      have stA : ∀ a ∈ argsD (.tuple (.str r.1 :: as.map (simpF n))), St a := fun a h2 => by
        rw [args_a hr] at h2
        obtain ⟨x, hx, rfl⟩ := List.mem_map.mp h2
        obtain ⟨k', hk'⟩ := ha.mem hx
        exact (ih hk' (by omega) (Nat.le_refl n)).2.2.2
      have szA : sz (.tuple (.str r.1 :: as.map (simpF n))) ≤ sz (.tuple (.str r.1 :: as)) := by
        rw [sz_app hr gA, sz_app hr g]
        have := flat_le (f := simpF n) (g := simpF n) (l := as) fun x hx => by
          obtain ⟨k', hk'⟩ := ha.mem hx
          exact (ih hk' (by omega) (Nat.le_refl n)).2.2.1
        omega
      have lp := lcS_map (j := 3) (it := mItems (mSl (mVar 0) (mPart (mC (.int 1))) mNoPart)) (e := b_simplify_E1 (m_simplify_n m)) (δ := [.val (.tuple (.str r.1 :: as)), .non, .non, .non]) (δ' := [.val (.tuple (.str r.1 :: as)), .non, .non, .non]) (items := as) (simpF n) (by
        have es := sl_tail (.str r.1) as
        iterate 3 ((try simp only [es, dItems]); walk_at "ev")
        try rfl) (by simp) rfl (by omega) (fun x hx => by
        obtain ⟨k', hk'⟩ := ha.mem hx
        have e1 := (ih hk' (by omega) hm).1
        unfold b_simplify_E1
        iterate 3 ((try simp only [e1]); walk_at "ev"))
      have e2 : dIx (.tuple (.str r.1 :: as)) (.int 0) = some (.str r.1) := by rw [ix_t]; exact at_z _ _
      have hl2 : (as.map (simpF n)).length + 1 ≤ LINE := by rw [List.length_map]; show _ ≤ 16777216; omega
      generalize hB : PyData.tuple (.str r.1 :: as.map (simpF n)) = B at hA gA stA szA ⊢
      have e3 : mES (mOp dIx (mVar 0) (mC (.int 0))) (mOf (mLcS [3] (mItems (mSl (mVar 0) (mPart (mC (.int 1))) mNoPart)) (setV 3) mYes (b_simplify_E1 (m_simplify_n m)))) [.val (.tuple (.str r.1 :: as)), .non, .non, .non] = .ok B [.val (.tuple (.str r.1 :: as)), .non, .non, .non] := by
        rw [← hB]
        generalize PyData.tuple (.str r.1 :: as) = d0 at lp e2 ⊢
        unfold mES mOf
        generalize as.map (simpF n) = zs at lp hl2 ⊢
        generalize mLcS [3] (mItems (mSl (mVar 0) (mPart (mC (.int 1))) mNoPart)) (setV 3) mYes (b_simplify_E1 (m_simplify_n m)) = lc at lp ⊢
        have e9 : (mOp dIx (mVar 0) (mC (.int 0))) [.val d0, .non, .non, .non] = .ok (.str r.1) [.val d0, .non, .non, .non] := by
          show R.lift (dIx d0 (.int 0)) _ = _
          rw [e2]
          rfl
        rw [e9]
        simp only [DL.bind_ok, lp, seqD]
        rw [if_pos hl2]
      obtain ⟨w1, w2, w3, w4⟩ := while_ok hn (mf := m_simplify_n m) (c0 := .val (.tuple (.str r.1 :: as))) (c3 := .non) (mu B) B hA (Nat.le_refl _)
      have w1 := mWhile_get w1
      have e4 := changed_eq (hA.le (by omega : n + 1 ≤ 33))
      refine ⟨?_, w2, by omega, ?_⟩
      · unfold b_simplify
        show R.bind ((mSeq _ _) [.val (.tuple (.str r.1 :: as)), .non, .non, .non]) _ = _
        generalize PyData.tuple (.str r.1 :: as) = d0 at e0 e3 w1 ⊢
        rw [seq_ok (δ1 := [.val d0, .non, .non, .non]) (by iterate 5 ((try simp only [e0, truthD]); walk_at "ev"))]
        rw [seq_ok (δ1 := [.val d0, .val B, .non, .non]) (by
          unfold mAsg
          rw [e3]
          rfl)]
        rw [seq_ok (δ1 := [.val d0, .val B, .val ((stepD B).getD .none), .non]) (by iterate 5 ((try simp only [e4]); walk_at "ev"))]
        rw [seq_ok w1]
        rfl
      · have q : sz B + (if sw B then 1 else 0) ≤ mu B := by unfold mu; omega
        exact norm_st hn _ B hA stA q
/-- nothing is left to be done for what is simplified -/
theorem simp_st {ks : List Kd} : ∀ {n : Nat} {k : Kd} {d : D}, GP ks n k d → n ≤ 33 → St d → simpF n d = d := by
  intro n
  induction n with
  | zero => intro k d h; exact h.elim
  | succ n ih =>
    intro k d h hn hs
    have g := gd_of h hn
    have h' : GP1 ks (GP ks n) k d := h
    cases h' with
    | inp hi => exact simp_leaf leaf_i
    | con hv => exact simp_leaf leaf_c
    | @app r as _ hr hk ha =>
      rw [simp_app (f_leaf r hr)]
      have e : as.map (simpF n) = as := by
        conv => rhs; rw [← List.map_id as]
        apply List.map_congr_left
        intro x hx
        obtain ⟨k', hk'⟩ := ha.mem hx
        exact ih hk' (by omega) (hs.part h hn (P_arg g (by rw [args_a hr]; exact hx) (P_self (gd_of hk' (by omega)))))
      rw [e]
      exact norm_none (hs.self g) _
end K19.PG
end Part_YW

section Part_YX
set_option Elab.async false
set_option linter.all false
set_option maxRecDepth 100000
set_option autoImplicit false
set_option maxHeartbeats 2000000
namespace K19.PG
open K19 PySem PySem.Spec PyProof.Rows L2 DL SX
local macro_rules | `(tactic| walk_at "ev") => `(tactic| try simp -implicitDefEqProofs only [mDef, mSeq, mIf, mT, mTr, mOp, mUn, mVar, mC, mCall, mCons, mNil, mRet, mSkip, mAsg, mSl, mPart, mNoPart, mAndT, mOrT, mNotT, mAnd, mOr, mNot, mIfE, mChain, mIs, mIs2, mOf, mNew, mCallF, mM1, mM0, mIxM, mLenM, mApp, mSetM, mSetIx, mAug, mFrz, mForS, mRng1, mRng2, mItems, setV_zn, setV_zv, setV_zo, setV_succ, setM, frz, setT2, mBk, mCt, mNo, 
  DL.bind_ok, DL.bind_no, DL.bind_ite, lift_some, lift_none, List.map_cons, List.map_nil, List.length_cons, List.length_nil, List.replicate_succ, List.replicate_zero, List.cons_append, List.nil_append, List.append_nil, List.getElem?_cons_zero, List.getElem?_cons_succ, List.set_cons_zero, List.set_cons_succ, Nat.reduceAdd, Nat.reduceSub, Nat.zero_add, Nat.sub_self, decide_eq_true_eq,
  add_ii, sub_ii, neg_i, mul_r, mul_l, div_s, mod_s, eq_ii, ne_ii, eq_bb, ne_bb, lt_ii, gt_ii, le_ii, ge_ii, len_l, len_t, int_i, int_b, abs_i, max_ii, min_ii, tuple_l, ix_l, ix_t, tr_b, Nat.reduceLeDiff, if_true, if_false, Option.map_some, Option.bind_some, reduceIte, Int.reduceLT, Int.reduceNeg, Int.reduceMul, Nat.reduceLT, Nat.le_refl, LINE, Bool.false_eq_true, Bool.not_true, Bool.not_false, Bool.true_eq_false, R.bind_ex, Int.reduceEq, e_number_number, e_number_truth, e_number_text, e_number_list, e_truth_number, e_truth_truth, e_truth_text, e_truth_list, e_text_number, e_text_truth, e_text_text, e_text_list, e_list_number, e_list_truth, e_list_text, e_list_list, is_bool_n, is_bool_t, is_bool_s, is_bool_l, is_int_n, is_int_t, is_int_s, is_int_l, is_str_n, is_str_t, is_str_s, is_str_l, is_tuple_n, is_tuple_t, is_tuple_s, is_tuple_l, at_z, at_o, sl_tail, tup_0, tup_1, tup_2, tup_3, rev_t, rev_l, len_l])
local macro_rules | `(tactic| walk_at "ev*") => `(tactic| try simp -implicitDefEqProofs only [mDef, mSeq, mIf, mT, mTr, mOp, mUn, mVar, mC, mCall, mCons, mNil, mRet, mSkip, mAsg, mSl, mPart, mNoPart, mAndT, mOrT, mNotT, mAnd, mOr, mNot, mIfE, mChain, mIs, mIs2, mOf, mNew, mCallF, mM1, mM0, mIxM, mLenM, mApp, mSetM, mSetIx, mAug, mFrz, mForS, mRng1, mRng2, mItems, setV_zn, setV_zv, setV_zo, setV_succ, setM, frz, setT2, mBk, mCt, mNo, 
  DL.bind_ok, DL.bind_no, DL.bind_ite, lift_some, lift_none, List.map_cons, List.map_nil, List.length_cons, List.length_nil, List.replicate_succ, List.replicate_zero, List.cons_append, List.nil_append, List.append_nil, List.getElem?_cons_zero, List.getElem?_cons_succ, List.set_cons_zero, List.set_cons_succ, Nat.reduceAdd, Nat.reduceSub, Nat.zero_add, Nat.sub_self, decide_eq_true_eq,
  add_ii, sub_ii, neg_i, mul_r, mul_l, div_s, mod_s, eq_ii, ne_ii, eq_bb, ne_bb, lt_ii, gt_ii, le_ii, ge_ii, len_l, len_t, int_i, int_b, abs_i, max_ii, min_ii, tuple_l, ix_l, ix_t, tr_b, Nat.reduceLeDiff, if_true, if_false, Option.map_some, Option.bind_some, reduceIte, Int.reduceLT, Int.reduceNeg, Int.reduceMul, Nat.reduceLT, Nat.le_refl, LINE, Bool.false_eq_true, Bool.not_true, Bool.not_false, Bool.true_eq_false, R.bind_ex, Int.reduceEq, e_number_number, e_number_truth, e_number_text, e_number_list, e_truth_number, e_truth_truth, e_truth_text, e_truth_list, e_text_number, e_text_truth, e_text_text, e_text_list, e_list_number, e_list_truth, e_list_text, e_list_list, is_bool_n, is_bool_t, is_bool_s, is_bool_l, is_int_n, is_int_t, is_int_s, is_int_l, is_str_n, is_str_t, is_str_s, is_str_l, is_tuple_n, is_tuple_t, is_tuple_s, is_tuple_l, at_z, at_o, sl_tail, tup_0, tup_1, tup_2, tup_3, rev_t, rev_l, len_l, *])


/-! ### the law's order -/
def syC : D → D
  | .bool b => .tuple [.int 0, .int 1, .int (if b then 1 else 0)]
  | v => .tuple [.int 0, .int (kp v), v]
def syD : D → D
  | .tuple (.str s :: as) => if s == "input" then .tuple [.int 1, as.headD .none, .int 0] else if s == "constant" then syC (as.headD .none) else .tuple [.int 2, .str s, .int 0]
  | _ => .none
theorem sy_i (v : D) : syD (.tuple [.str "input", v]) = .tuple [.int 1, v, .int 0] := by
  rw [syD, ii_t]
  rfl
theorem sy_c (v : D) : syD (.tuple [.str "constant", v]) = syC v := by
  rw [syD, ic_ne.2, cc_t]
  rfl
theorem sy_a {r : Str × Str × Str} (hr : r ∈ LIB) (as : List D) : syD (.tuple (.str r.1 :: as)) = .tuple [.int 2, .str r.1, .int 0] := by
  rw [syD, (str_ne leaf_i (f_leaf _ hr)).2, (str_ne leaf_c (f_leaf _ hr)).2]
  rfl
theorem symbol_eq {ks : List Kd} {n : Nat} {k : Kd} {d : D} (h : GP ks n k d) : m__law_symbol [d] = .ok (syD d) [] := by
  cases n with
  | zero => exact h.elim
  | succ n =>
  unfold m__law_symbol b__law_symbol
  cases h with
  | @inp i _ hi =>
    have e0 : dIx (.tuple [.str "input", .int i]) (.int 0) = some (.str "input") := rfl
    have e1 : dIx (.tuple [.str "input", .int i]) (.int 1) = some (.int i) := rfl
    have c1 := i_inp
    rw [sy_i]
    generalize PyData.tuple [.str "input", .int i] = d at e0 e1
    iterate 8 ((try simp only [e0, e1, c1]); walk_at "ev")
  | @con _ v hv =>
    have e0 : dIx (.tuple [.str "constant", v]) (.int 0) = some (.str "constant") := rfl
    have e1 : dIx (.tuple [.str "constant", v]) (.int 1) = some v := rfl
    have c1 := c_inp
    have c2 : dNe (.str "constant") (.str "constant") = some (.bool false) := by kernel_rfl
    rw [sy_c]
    generalize PyData.tuple [.str "constant", v] = d at e0 e1
    have m20 : ∀ b : Bool, dMul (.int 2) (.int (if b = true then 1 else 0)) = some (.int (2 * (if b = true then 1 else 0))) := fun b => mul_l (by decide) (by decide)
    have m30 : ∀ b : Bool, dMul (.int 3) (.int (if b = true then 1 else 0)) = some (.int (3 * (if b = true then 1 else 0))) := fun b => mul_l (by decide) (by decide)
    cases hv with
    | n _ => (iterate 12 ((try simp only [e0, e1, c1, c2, truthD]); walk_at "ev")) <;> try rfl
    | t b => cases b <;> (iterate 12 ((try simp only [e0, e1, c1, c2, truthD]); walk_at "ev")) <;> try rfl
    | s _ _ => (iterate 12 ((try simp only [e0, e1, c1, c2, truthD]); walk_at "ev")) <;> try rfl
    | l _ _ => (iterate 12 ((try simp only [e0, e1, c1, c2, truthD]); walk_at "ev")) <;> try rfl
  | @app r as _ hr hk ha =>
    have e0 : dIx (.tuple (.str r.1 :: as)) (.int 0) = some (.str r.1) := by rw [ix_t]; exact at_z _ _
    have c1 := f_inp r hr
    have c2 : dNe (.str r.1) (.str "constant") = some (.bool true) := (all_of (g := fun _ : Str × Str × Str => some (PyData.bool true)) (by kernel_rfl) : ∀ r ∈ LIB, dNe (.str r.1) (.str "constant") = some (.bool true)) r hr
    rw [sy_a hr]
    generalize PyData.tuple (.str r.1 :: as) = d at e0
    iterate 8 ((try simp only [e0, c1, c2]); walk_at "ev")
theorem tri_syC {k : Kd} {v w : D} (hv : Vk k v) (hw : Vk k w) : Tri (syC v) (syC w) ∧ PyData.eqv (syC v) (syC w) = PyData.eqv v w ∧ (ltD (syC v) (syC w)).getD false = (if PyData.eqv v w then false else (ltD v w).getD false) := by
  have gen : ∀ {v w : D} (_ : Tri v w) (hk : kp v = kp w), Tri (.tuple [.int 0, .int (kp v), v]) (.tuple [.int 0, .int (kp w), w]) ∧ PyData.eqv (.tuple [.int 0, .int (kp v), v]) (.tuple [.int 0, .int (kp w), w]) = PyData.eqv v w ∧ (ltD (.tuple [.int 0, .int (kp v), v]) (.tuple [.int 0, .int (kp w), w])).getD false = (if PyData.eqv v w then false else (ltD v w).getD false) := fun {v w} t hk => by
    refine ⟨tri_t (triL_c (tri_i _ _) fun _ => triL_c (tri_i _ _) fun _ => triL_c t fun _ => triL_n), ?_, ?_⟩
    · show ((0 : Int) == 0 && (kp v == kp w && (PyData.eqv v w && true))) = _
      rw [hk]
      simp
    · rw [ltD, lta_c, lta_c, lta_c, eqv_i, eqv_i, hk]
      simp only [beq_self_eq_true, if_true]
      cases PyData.eqv v w with
      | true =>
        obtain ⟨b, c, h1, h2, h3, h4, h5⟩ := triL_n
        have := h5 rfl
        subst this
        rw [if_pos rfl, if_pos rfl, h1]
        rfl
      | false => rw [if_neg Bool.false_ne_true, if_neg Bool.false_ne_true]
  cases hv with
  | n a => cases hw with | n b => exact gen (tri_vk (.n a) (.n b)) rfl
  | t b =>
    cases hw with
    | t c =>
      refine ⟨tri_t (triL_c (tri_i _ _) fun _ => triL_c (tri_i _ _) fun _ => triL_c (tri_i _ _) fun _ => triL_n), ?_, ?_⟩
      · cases b <;> cases c <;> decide
      · cases b <;> cases c <;> decide
  | s a b => cases hw with | s c d => exact gen (tri_vk (.s a b) (.s c d)) rfl
  | l a b => cases hw with | l c d => exact gen (tri_vk (.l a b) (.l c d)) rfl
theorem syC_head {k : Kd} {v : D} (h : Vk k v) : ∃ (j : Int) (w : D), syC v = .tuple [.int 0, .int j, w] ∧ (w.canLay0 = true ∧ w.depth ≤ 1) ∧ j = kp v := by
  obtain ⟨a1, a2⟩ := lay_v h
  cases h with
  | n _ => exact ⟨_, _, rfl, ⟨a1, a2⟩, rfl⟩
  | t b => exact ⟨_, _, rfl, ⟨rfl, Nat.zero_le _⟩, rfl⟩
  | s _ _ => exact ⟨_, _, rfl, ⟨a1, a2⟩, rfl⟩
  | l _ _ => exact ⟨_, _, rfl, ⟨a1, a2⟩, rfl⟩
/-- symbols can be compared -/
theorem tri_sy {ks : List Kd} {n m : Nat} {j k : Kd} {x y : D} (hx : GP ks n j x) (hy : GP ks m k y) : Tri (syD x) (syD y) := by
  cases n with
  | zero => exact hx.elim
  | succ n =>
  cases m with
  | zero => exact hy.elim
  | succ m =>
  cases hx with
  | inp hi =>
    rw [sy_i]
    cases hy with
    | inp hj =>
      rw [sy_i]
      exact tri_t (triL_c (tri_i _ _) fun _ => triL_c (tri_i _ _) fun _ => triL_c (tri_i _ _) fun _ => triL_n)
    | con hw =>
      rw [sy_c]
      obtain ⟨a, b, e, _⟩ := syC_head hw
      rw [e]
      exact tri_t (tri_ne (by decide) _ _)
    | app hq hk' hb =>
      rw [sy_a hq]
      exact tri_t (tri_ne (by decide) _ _)
  | @con _ v hv =>
    rw [sy_c]
    obtain ⟨a, b, e, _, e'⟩ := syC_head hv
    cases hy with
    | inp hj =>
      rw [sy_i, e]
      exact tri_t (tri_ne (by decide) _ _)
    | @con _ w hw =>
      rw [sy_c]
      obtain ⟨a2, b2, f, _, f'⟩ := syC_head hw
      by_cases z : kp v = kp w
      · have zk : j = k := by cases hv <;> cases hw <;> first | rfl | (simp [kp] at z)
        subst zk
        exact (tri_syC hv hw).1
      · rw [e, f]
        refine tri_t (triL_c (tri_i _ _) fun _ => triL_c (tri_i _ _) fun q => absurd (beq_iff_eq.mp (show (a == a2) = true from q)) ?_)
        rw [e', f']
        exact z
    | app hq hk' hb =>
      rw [sy_a hq, e]
      exact tri_t (tri_ne (by decide) _ _)
  | app hr hk ha =>
    rw [sy_a hr]
    cases hy with
    | inp hj =>
      rw [sy_i]
      exact tri_t (tri_ne (by decide) _ _)
    | con hw =>
      rw [sy_c]
      obtain ⟨a, b, e, _⟩ := syC_head hw
      rw [e]
      exact tri_t (tri_ne (by decide) _ _)
    | app hq hk' hb =>
      rw [sy_a hq]
      exact tri_t (triL_c (tri_i _ _) fun _ => triL_c (tri_s _ _) fun _ => triL_c (tri_i _ _) fun _ => triL_n)
theorem sy_sh {ks : List Kd} {n : Nat} {k : Kd} {x : D} (hx : GP ks n k x) : SeqAt.shaped (syD x) = true := by
  cases n with
  | zero => exact hx.elim
  | succ n =>
  cases hx with
  | inp hi => rw [sy_i]; rfl
  | con hv =>
    rw [sy_c]
    obtain ⟨a, b, e, ⟨f, g⟩, _⟩ := syC_head hv
    rw [e]
    show ((true && (true && (b.canLay0 && true))) && decide (max 0 (max 0 (max b.depth 0)) + 1 ≤ 64)) = true
    rw [f, decide_eq_true (by omega)]
    rfl
  | app hr hk ha =>
    rename_i r as
    rw [sy_a hr]
    show ((true && (PyData.canLay0 (.str r.1) && (true && true))) && decide (0 + 1 ≤ 64)) = true
    rw [f_lay r hr]
    rfl
def cmpL : List D → List D → Bool
  | a :: as, b :: bs => if PyData.eqv a b then cmpL as bs else (ltD a b).getD false
  | _, _ => false
theorem cmp_c (a b : D) (as bs : List D) : cmpL (a :: as) (b :: bs) = if PyData.eqv a b then cmpL as bs else (ltD a b).getD false := by rw [cmpL]
/-- the symbols are compared as the places are -/
theorem cmp_pl {ks : List Kd} : ∀ {n : Nat} {k : Kd} {x y : D}, GP ks n k x → GP ks n k y → n ≤ 33 → ∀ s t : List D, cmpL ((P x).map syD ++ s) ((P y).map syD ++ t) = if PyData.eqv x y then cmpL s t else (ltD (plN n x) (plN n y)).getD false := by
  intro n
  induction n with
  | zero => intro k x y h; exact h.elim
  | succ n ih =>
    have L : ∀ {kk : List Kd} {as bs : List D}, All2 (GP ks n) kk as → All2 (GP ks n) kk bs → n ≤ 33 → ∀ s t : List D, cmpL ((as.flatMap P).map syD ++ s) ((bs.flatMap P).map syD ++ t) = if PyData.eqvAll as bs then cmpL s t else (ltAll (as.map (plN n)) (bs.map (plN n))).getD false := by
      intro kk
      induction kk with
      | nil =>
        intro as bs ha hb hn s t
        match as, bs, ha, hb with
        | [], [], _, _ => rfl
      | cons k kk ihk =>
        intro as bs ha hb hn s t
        match as, bs, ha, hb with
        | a :: as, b :: bs, ha, hb =>
          rw [List.flatMap_cons, List.flatMap_cons, List.map_append, List.map_append, List.append_assoc, List.append_assoc, ih ha.1 hb.1 hn, ihk ha.2 hb.2 hn, eqvA_c, List.map_cons, List.map_cons, lta_c, (tri_pl ha.1 hb.1).2]
          cases PyData.eqv a b with
          | true => rw [if_pos rfl, Bool.true_and, if_pos rfl]
          | false => rw [if_neg Bool.false_ne_true, Bool.false_and, if_neg Bool.false_ne_true, if_neg Bool.false_ne_true]
    intro k x y hx hy hn s t
    have gx := gd_of hx hn
    have gy := gd_of hy hn
    rw [P_eq gx, P_eq gy]
    have one : ∀ {a b : Int} (h : (a == b) = false) (us vs : List D) (us' vs' : List D) (b1 : Bool), PyData.eqv x y = false → ltD (plN (n + 1) x) (plN (n + 1) y) = ltD (.tuple (.int a :: us)) (.tuple (.int b :: vs)) → syD x = .tuple (.int a :: us') → syD y = .tuple (.int b :: vs') →
        cmpL ((x :: (argsD x).flatMap P).map syD ++ s) ((y :: (argsD y).flatMap P).map syD ++ t) = if PyData.eqv x y then cmpL s t else (ltD (plN (n + 1) x) (plN (n + 1) y)).getD false := fun {a b} h us vs us' vs' _ h1 h2 h3 h4 => by
      rw [List.map_cons, List.map_cons, List.cons_append, List.cons_append, cmp_c, h3, h4, eqv_t, eqvA_c, eqv_i, h, Bool.false_and, if_neg Bool.false_ne_true, h1, if_neg Bool.false_ne_true, h2, ltD, ltD, lta_c, lta_c, eqv_i, h, if_neg Bool.false_ne_true, if_neg Bool.false_ne_true]
    cases hx with
    | @inp i _ hi =>
      cases hy with
      | @inp j _ hj =>
        simp only [args_i, List.flatMap_nil, List.map_cons, List.map_nil, List.cons_append, List.nil_append]
        rw [cmp_c, sy_i, sy_i, pl_i, pl_i]
        have e1 : PyData.eqv (.tuple [.int 1, .int (i : Int), .int 0]) (.tuple [.int 1, .int (j : Int), .int 0]) = ((i : Int) == (j : Int)) := by
          show ((1 : Int) == 1 && (((i : Int) == (j : Int)) && ((0 : Int) == 0 && true))) = _
          simp
        have e2 : PyData.eqv (.tuple [.str "input", .int (i : Int)]) (.tuple [.str "input", .int (j : Int)]) = ((i : Int) == (j : Int)) := by
          show (("input" : Str) == "input" && (((i : Int) == (j : Int)) && true)) = _
          rw [ii_t]
          simp
        rw [e1, e2]
        cases q : ((i : Int) == (j : Int)) with
        | true => rfl
        | false => rw [if_neg Bool.false_ne_true, if_neg Bool.false_ne_true, ltD, ltD, lta_c, lta_c, lta_c, lta_c, eqv_i, eqv_i, q]; simp; rw [lta_c, eqv_i, q]; rfl
      | con hw =>
        obtain ⟨a, b, e, _⟩ := syC_head hw
        exact one (a := 1) (b := 0) (by decide) _ _ _ _ true (by rw [eqv_t, eqvA_c, eqv_s, ic_ne.1, Bool.false_and]) (by rw [pl_i, pl_c]) (sy_i _) (by rw [sy_c]; exact e)
      | app hq hk' hb => exact one (a := 1) (b := 2) (by decide) _ _ _ _ true (by rw [eqv_t, eqvA_c, eqv_s, (str_ne leaf_i (f_leaf _ hq)).1, Bool.false_and]) (by rw [pl_i, pl_a n hq]) (sy_i _) (sy_a hq _)
    | @con _ v hv =>
      obtain ⟨a, b, e, _⟩ := syC_head hv
      cases hy with
      | inp hj => exact one (a := 0) (b := 1) (by decide) _ _ _ _ true (by rw [eqv_t, eqvA_c, eqv_s, ic_ne.2, Bool.false_and]) (by rw [pl_i, pl_c]) (by rw [sy_c]; exact e) (sy_i _)
      | @con _ w hw =>
        obtain ⟨t1, t2, t3⟩ := tri_syC hv hw
        have e2 : PyData.eqv (.tuple [.str "constant", v]) (.tuple [.str "constant", w]) = PyData.eqv v w := by
          show (("constant" : Str) == "constant" && (PyData.eqv v w && true)) = _
          rw [cc_t]
          simp
        simp only [args_c, List.flatMap_nil, List.map_cons, List.map_nil, List.cons_append, List.nil_append]
        rw [cmp_c, sy_c, sy_c, pl_c, pl_c, t2, t3, e2]
        cases q : PyData.eqv v w with
        | true => rfl
        | false =>
          rw [if_neg Bool.false_ne_true, if_neg Bool.false_ne_true, if_neg Bool.false_ne_true, ltD, lta_c, lta_c, lta_c, eqv_i, eqv_i, kp_vk hv hw, q]
          simp
      | app hq hk' hb => exact one (a := 0) (b := 2) (by decide) _ _ _ _ true (by rw [eqv_t, eqvA_c, eqv_s, (str_ne leaf_c (f_leaf _ hq)).1, Bool.false_and]) (by rw [pl_c, pl_a n hq]) (by rw [sy_c]; exact e) (sy_a hq _)
    | @app r as _ hr hk ha =>
      cases hy with
      | inp hj => exact one (a := 2) (b := 1) (by decide) _ _ _ _ true (by rw [eqv_t, eqvA_c, eqv_s, (str_ne leaf_i (f_leaf _ hr)).2, Bool.false_and]) (by rw [pl_i, pl_a n hr]) (sy_a hr _) (sy_i _)
      | con hw =>
        obtain ⟨a, b, e, _⟩ := syC_head hw
        exact one (a := 2) (b := 0) (by decide) _ _ _ _ true (by rw [eqv_t, eqvA_c, eqv_s, (str_ne leaf_c (f_leaf _ hr)).2, Bool.false_and]) (by rw [pl_c, pl_a n hr]) (sy_a hr _) (by rw [sy_c]; exact e)
      | @app q bs _ hq hk' hb =>
        rw [args_a hr, args_a hq, List.map_cons, List.map_cons, List.cons_append, List.cons_append, cmp_c, sy_a hr, sy_a hq, pl_a n hr, pl_a n hq]
        simp only [eqv_t, eqvA_c, eqv_i, eqv_s, ltD, lta_c]
        by_cases h : r.1 = q.1
        · have h := lib_uniq r hr q hq h
          subst h
          rw [L ha hb (by omega)]
          simp only [beq_self_eq_true, Bool.true_and, if_true]
          rfl
        · have h0 : (r.1 == q.1) = false := beq_eq_false_iff_ne.mpr h
          simp [h0]
theorem rngs (i m : Nat) : (List.range (m + 1)).map (fun k => PyData.int ((i + k : Nat) : Int)) = .int (i : Int) :: (List.range m).map fun k => PyData.int ((i + 1 + k : Nat) : Int) := by
  rw [List.range_succ_eq_map, List.map_cons, List.map_map]
  congr 1
  apply List.map_congr_left
  intro k _
  show PyData.int ((i + (k + 1) : Nat) : Int) = _
  rw [show i + (k + 1) = i + 1 + k by omega]
/-- the law's loop -/
theorem prec_loop {c0 c1 c5 : Cell} {one two : List D} (H : ∀ a ∈ one, ∀ b ∈ two, Tri a b) (S1 : ∀ a ∈ one, SeqAt.shaped a = true) (S2 : ∀ a ∈ two, SeqAt.shaped a = true) : ∀ (as bs : List D) (i : Nat) (o : Option D), one.drop i = as → two.drop i = bs →
    ∃ o' f, mFor (setV 4) b__law_precedes_L1 ((List.range (min as.length bs.length)).map fun k => PyData.int ((i + k : Nat) : Int)) [c0, c1, .val (.list one), .val (.list two), cO o, c5] = .ok f [c0, c1, .val (.list one), .val (.list two), cO o', c5] ∧ (f = .nx ∧ cmpL as bs = false ∨ f = .rt (.bool (cmpL as bs)))
  | [], bs, i, o, _, _ => ⟨o, .nx, by rw [List.length_nil, Nat.zero_min]; rfl, .inl ⟨rfl, by cases bs <;> rfl⟩⟩
  | a :: as, [], i, o, _, _ => ⟨o, .nx, by rw [List.length_nil, Nat.min_zero]; rfl, .inl ⟨rfl, rfl⟩⟩
  | a :: as, b :: bs, i, o, h1, h2 => by
    have g1 : one[i]? = some a := by have := congrArg (fun l => l[0]?) h1; simpa using this
    have g2 : two[i]? = some b := by have := congrArg (fun l => l[0]?) h2; simpa using this
    have d1 : one.drop (i + 1) = as := by rw [← List.drop_drop, h1]; rfl
    have d2 : two.drop (i + 1) = bs := by rw [← List.drop_drop, h2]; rfl
    have ma := List.mem_of_getElem? g1
    have mb := List.mem_of_getElem? g2
    obtain ⟨x, y, t1, t2, t3, t4, t5⟩ := H a ma b mb
    have e1 : dIx (.list one) (.int (i : Int)) = some a := by rw [ix_l, at_nat]; exact g1
    have e2 : dIx (.list two) (.int (i : Int)) = some b := by rw [ix_l, at_nat]; exact g2
    have e3 : dNe a b = some (.bool (!PyData.eqv a b)) := by unfold dNe; rw [S1 a ma, S2 b mb]; rfl
    have e4 : dLtN a b = some (.bool x) := by unfold dLtN; rw [S1 a ma, S2 b mb, t1]; rfl
    obtain ⟨o', f, ih, hf⟩ := prec_loop (c0 := c0) (c1 := c1) (c5 := c5) H S1 S2 as bs (i + 1) (some (.int i)) d1 d2
    have hm : min (a :: as).length (b :: bs).length = min as.length bs.length + 1 := by rw [List.length_cons, List.length_cons]; omega
    rw [hm, rngs, mFor]
    have e0 : setV 4 (.int (i : Int)) [c0, c1, .val (.list one), .val (.list two), cO o, c5] = some [c0, c1, .val (.list one), .val (.list two), .val (.int (i : Int)), c5] := by cases o <;> rfl
    simp only [e0]
    rw [cmp_c]
    cases q : PyData.eqv a b with
    | true =>
      rw [q] at e3
      have e5 : b__law_precedes_L1 [c0, c1, .val (.list one), .val (.list two), .val (.int (i : Int)), c5] = .ok .nx [c0, c1, .val (.list one), .val (.list two), .val (.int (i : Int)), c5] := by
        unfold b__law_precedes_L1
        generalize PyData.list one = U at e1
        generalize PyData.list two = V at e2
        iterate 6 ((try simp only [e1, e2, e3]); walk_at "ev")
      simp only [e5, DL.bind_ok]
      refine ⟨o', f, ih, ?_⟩
      simpa using hf
    | false =>
      rw [q] at e3
      refine ⟨some (.int (i : Int)), .rt (.bool x), ?_, .inr ?_⟩
      · have e5 : b__law_precedes_L1 [c0, c1, .val (.list one), .val (.list two), .val (.int (i : Int)), c5] = .ok (.rt (.bool x)) [c0, c1, .val (.list one), .val (.list two), .val (.int (i : Int)), c5] := by
          unfold b__law_precedes_L1
          generalize PyData.list one = U at e1
          generalize PyData.list two = V at e2
          iterate 6 ((try simp only [e1, e2, e3, e4]); walk_at "ev")
          rw [e4]
          rfl
        simp only [e5, DL.bind_ok]
        rfl
      · rw [if_neg Bool.false_ne_true, t1]
        rfl
theorem law_precedes_eq {ks : List Kd} {k : Kd} {x y : D} (hx : GP ks 33 k x) (hy : GP ks 33 k y) (sx : sz x ≤ 1000) (sy : sz y ≤ 1000) : m__law_precedes [x, y] = .ok (.bool (prec x y)) [] := by
  have px : m__law_parts [x] = .ok (.list (P x)) [] := law_parts_eq hx (Nat.le_refl 33) (Nat.le_refl 33) (by unfold sz at sx; omega)
  have py : m__law_parts [y] = .ok (.list (P y)) [] := law_parts_eq hy (Nat.le_refl 33) (Nat.le_refl 33) (by unfold sz at sy; omega)
  have gx := parts_gd hx (Nat.le_refl 33)
  have gy := parts_gd hy (Nat.le_refl 33)
  have l1 := lcS_map (j := 5) (it := mItems (mCallF m__law_parts (mCons (mVar 0) mNil))) (e := b__law_precedes_E1) (δ := [.val x, .val y, .non, .non, .non, .non]) (δ' := [.val x, .val y, .non, .non, .non, .non]) (items := P x) syD (by iterate 3 ((try simp only [px, dItems]); walk_at "ev"); try rfl) (by simp) rfl (by unfold sz at sx; omega) (fun p hp => by
    obtain ⟨k', hk'⟩ := gx p hp
    have e := symbol_eq hk'
    unfold b__law_precedes_E1
    iterate 3 ((try simp only [e]); walk_at "ev"))
  have l2 := lcS_map (j := 5) (it := mItems (mCallF m__law_parts (mCons (mVar 1) mNil))) (e := b__law_precedes_E2) (δ := [.val x, .val y, .val (.list ((P x).map syD)), .non, .non, .non]) (δ' := [.val x, .val y, .val (.list ((P x).map syD)), .non, .non, .non]) (items := P y) syD (by
    generalize PyData.list ((P x).map syD) = U
    iterate 3 ((try simp only [py, dItems]); walk_at "ev")
    try rfl) (by simp) rfl (by unfold sz at sy; omega) (fun p hp => by
    obtain ⟨k', hk'⟩ := gy p hp
    have e := symbol_eq hk'
    unfold b__law_precedes_E2
    generalize PyData.list ((P x).map syD) = U
    iterate 3 ((try simp only [e]); walk_at "ev"))
  have H : ∀ a ∈ (P x).map syD, ∀ b ∈ (P y).map syD, Tri a b := fun a ha b hb => by
    obtain ⟨p, hp, rfl⟩ := List.mem_map.mp ha
    obtain ⟨q, hq, rfl⟩ := List.mem_map.mp hb
    obtain ⟨k1, h1⟩ := gx p hp
    obtain ⟨k2, h2⟩ := gy q hq
    exact tri_sy h1 h2
  have S : ∀ (z : D) (_ : ∀ p ∈ P z, Gd ks p), ∀ a ∈ (P z).map syD, SeqAt.shaped a = true := fun z hz a ha => by
    obtain ⟨p, hp, rfl⟩ := List.mem_map.mp ha
    obtain ⟨k1, h1⟩ := hz p hp
    exact sy_sh h1
  obtain ⟨o', f, e3, hf⟩ := prec_loop (c0 := .val x) (c1 := .val y) (c5 := .non) H (S x gx) (S y gy) _ _ 0 none rfl rfl
  have hc : cmpL ((P x).map syD) ((P y).map syD) = prec x y := by
    have z := cmp_pl hx hy (Nat.le_refl 33) [] []
    rw [List.append_nil, List.append_nil] at z
    rw [z]
    unfold prec
    obtain ⟨⟨b, c, h1, h2, h3, h4, h5⟩, h6⟩ := tri_pl hx hy
    cases q : PyData.eqv x y with
    | true =>
      rw [h6, q] at h5
      rw [h1, h5 rfl]
      rfl
    | false => rw [if_neg Bool.false_ne_true]
  have e4 : ∀ n : Nat, rng 0 (n : Int) = (List.range n).map fun k => PyData.int ((0 + k : Nat) : Int) := fun n => by
    unfold rng
    rw [show ((n : Int) - 0).toNat = n by omega]
    apply List.map_congr_left
    intro k _
    rw [Int.zero_add, Nat.zero_add]
  unfold m__law_precedes b__law_precedes
  show R.bind ((mSeq _ _) [.val x, .val y, .non, .non, .non, .non]) _ = _
  rw [seq_ok (δ1 := [.val x, .val y, .val (.list ((P x).map syD)), .non, .non, .non]) (by
    unfold mSetL
    rw [l1]
    rfl)]
  rw [seq_ok (δ1 := [.val x, .val y, .val (.list ((P x).map syD)), .val (.list ((P y).map syD)), .non, .non]) (by
    unfold mSetL
    rw [l2]
    rfl)]
  rw [List.drop_zero, List.drop_zero] at hf e3
  rw [hc] at hf
  have hx' : ((P x).map syD).length ≤ 1000 := by rw [List.length_map]; exact sx
  have hy' : ((P y).map syD).length ≤ 1000 := by rw [List.length_map]; exact sy
  generalize (P x).map syD = U at e3 hx' ⊢
  generalize (P y).map syD = V at e3 hy' ⊢
  have hmin : (if ((V.length : Nat) : Int) < ((U.length : Nat) : Int) then ((V.length : Nat) : Int) else ((U.length : Nat) : Int)) = ((min U.length V.length : Nat) : Int) := by split <;> omega
  have hb : big ((min U.length V.length : Nat) : Int) = true := big_of (by omega) (by omega)
  have e5 : mForS (mRng1 (mCall dMin (mCons (mCall dLen (mCons (mVar 2) mNil)) (mCons (mCall dLen (mCons (mVar 3) mNil)) mNil)))) (setV 4) b__law_precedes_L1 [.val x, .val y, .val (.list U), .val (.list V), .non, .non] = .ok f [.val x, .val y, .val (.list U), .val (.list V), cO o', .non] := by
    have z : mRng1 (mCall dMin (mCons (mCall dLen (mCons (mVar 2) mNil)) (mCons (mCall dLen (mCons (mVar 3) mNil)) mNil))) [.val x, .val y, .val (.list U), .val (.list V), .non, .non] = .ok (rng 0 ((min U.length V.length : Nat) : Int)) [.val x, .val y, .val (.list U), .val (.list V), .non, .non] := by
      generalize hn : min U.length V.length = nn at hmin hb
      iterate 4 ((try simp only [hmin, hb]); walk_at "ev")
    unfold mForS
    rw [z, DL.bind_ok, e4]
    exact e3
  unfold mSeq
  rw [e5]
  rcases hf with ⟨rfl, h⟩ | rfl
  · rw [h]
    rfl
  · rfl
end K19.PG
end Part_YX

section Part_YZ
set_option Elab.async false
set_option linter.all false
set_option maxRecDepth 100000
set_option autoImplicit false
set_option maxHeartbeats 2000000
namespace K19.PG
open K19 PySem PySem.Spec PyProof.Rows L2 DL SX
local macro_rules | `(tactic| walk_at "ev") => `(tactic| try simp -implicitDefEqProofs only [mDef, mSeq, mIf, mT, mTr, mOp, mUn, mVar, mC, mCall, mCons, mNil, mRet, mSkip, mAsg, mSl, mPart, mNoPart, mAndT, mOrT, mNotT, mAnd, mOr, mNot, mIfE, mChain, mIs, mIs2, mOf, mNew, mCallF, mM1, mM0, mIxM, mLenM, mApp, mSetM, mSetIx, mAug, mFrz, mForS, mRng1, mRng2, mItems, setV_zn, setV_zv, setV_zo, setV_succ, setM, frz, setT2, mBk, mCt, mNo, 
  DL.bind_ok, DL.bind_no, DL.bind_ite, lift_some, lift_none, List.map_cons, List.map_nil, List.length_cons, List.length_nil, List.replicate_succ, List.replicate_zero, List.cons_append, List.nil_append, List.append_nil, List.getElem?_cons_zero, List.getElem?_cons_succ, List.set_cons_zero, List.set_cons_succ, Nat.reduceAdd, Nat.reduceSub, Nat.zero_add, Nat.sub_self, decide_eq_true_eq,
  add_ii, sub_ii, neg_i, mul_r, mul_l, div_s, mod_s, eq_ii, ne_ii, eq_bb, ne_bb, lt_ii, gt_ii, le_ii, ge_ii, len_l, len_t, int_i, int_b, abs_i, max_ii, min_ii, tuple_l, ix_l, ix_t, tr_b, Nat.reduceLeDiff, if_true, if_false, Option.map_some, Option.bind_some, reduceIte, Int.reduceLT, Int.reduceNeg, Int.reduceMul, Nat.reduceLT, Nat.le_refl, LINE, Bool.false_eq_true, Bool.not_true, Bool.not_false, Bool.true_eq_false, R.bind_ex, Int.reduceEq, e_number_number, e_number_truth, e_number_text, e_number_list, e_truth_number, e_truth_truth, e_truth_text, e_truth_list, e_text_number, e_text_truth, e_text_text, e_text_list, e_list_number, e_list_truth, e_list_text, e_list_list, is_bool_n, is_bool_t, is_bool_s, is_bool_l, is_int_n, is_int_t, is_int_s, is_int_l, is_str_n, is_str_t, is_str_s, is_str_l, is_tuple_n, is_tuple_t, is_tuple_s, is_tuple_l, at_z, at_o, sl_tail, tup_0, tup_1, tup_2, tup_3, rev_t, rev_l, len_l])
local macro_rules | `(tactic| walk_at "ev*") => `(tactic| try simp -implicitDefEqProofs only [mDef, mSeq, mIf, mT, mTr, mOp, mUn, mVar, mC, mCall, mCons, mNil, mRet, mSkip, mAsg, mSl, mPart, mNoPart, mAndT, mOrT, mNotT, mAnd, mOr, mNot, mIfE, mChain, mIs, mIs2, mOf, mNew, mCallF, mM1, mM0, mIxM, mLenM, mApp, mSetM, mSetIx, mAug, mFrz, mForS, mRng1, mRng2, mItems, setV_zn, setV_zv, setV_zo, setV_succ, setM, frz, setT2, mBk, mCt, mNo, 
  DL.bind_ok, DL.bind_no, DL.bind_ite, lift_some, lift_none, List.map_cons, List.map_nil, List.length_cons, List.length_nil, List.replicate_succ, List.replicate_zero, List.cons_append, List.nil_append, List.append_nil, List.getElem?_cons_zero, List.getElem?_cons_succ, List.set_cons_zero, List.set_cons_succ, Nat.reduceAdd, Nat.reduceSub, Nat.zero_add, Nat.sub_self, decide_eq_true_eq,
  add_ii, sub_ii, neg_i, mul_r, mul_l, div_s, mod_s, eq_ii, ne_ii, eq_bb, ne_bb, lt_ii, gt_ii, le_ii, ge_ii, len_l, len_t, int_i, int_b, abs_i, max_ii, min_ii, tuple_l, ix_l, ix_t, tr_b, Nat.reduceLeDiff, if_true, if_false, Option.map_some, Option.bind_some, reduceIte, Int.reduceLT, Int.reduceNeg, Int.reduceMul, Nat.reduceLT, Nat.le_refl, LINE, Bool.false_eq_true, Bool.not_true, Bool.not_false, Bool.true_eq_false, R.bind_ex, Int.reduceEq, e_number_number, e_number_truth, e_number_text, e_number_list, e_truth_number, e_truth_truth, e_truth_text, e_truth_list, e_text_number, e_text_truth, e_text_text, e_text_list, e_list_number, e_list_truth, e_list_text, e_list_list, is_bool_n, is_bool_t, is_bool_s, is_bool_l, is_int_n, is_int_t, is_int_s, is_int_l, is_str_n, is_str_t, is_str_s, is_str_l, is_tuple_n, is_tuple_t, is_tuple_s, is_tuple_l, at_z, at_o, sl_tail, tup_0, tup_1, tup_2, tup_3, rev_t, rev_l, len_l, *])


/-! ### the law's rule -/
def HEADS : List Str := "input" :: "constant" :: LIB.map fun r => r.1
def PS : List ((Str × Str × Str) × Str) := LIB.flatMap fun r => HEADS.map fun s => (r, s)
theorem ps_mem {r : Str × Str × Str} {s : Str} (hr : r ∈ LIB) (hs : s ∈ HEADS) : (r, s) ∈ PS := List.mem_flatMap.mpr ⟨r, hr, List.mem_map.mpr ⟨s, hs, rfl⟩⟩
def c1 (f : Str) : D := (dAdd (.str f) (.str " ")).getD .none
def c2 (f s : Str) : D := (dAdd (c1 f) (.str s)).getD .none
def L4 : List D := [.str "neg neg", .str "negate negate", .str "reverse reverse", .str "reverse_text reverse_text"]
def L6a : List D := [.str "abs abs", .str "abs neg", .str "sort sort", .str "sort reverse", .str "distinct distinct", .str "keep_even keep_even"]
def L6b : List D := [.str "length reverse_text", .str "words reverse_text", .str "size reverse", .str "size sort", .str "sum reverse", .str "sum sort"]
def L6c : List D := [.str "product reverse", .str "product sort", .str "greatest reverse", .str "greatest sort", .str "least reverse", .str "least sort"]
theorem q_c1 : ∀ r ∈ LIB, dAdd (.str r.1) (.str " ") = some (c1 r.1) := all_of (g := fun r : Str × Str × Str => some (c1 r.1)) (by kernel_rfl)
theorem q_c2 : ∀ p ∈ PS, dAdd (c1 p.1.1) (.str p.2) = some (c2 p.1.1 p.2) := all_of (g := fun p : (Str × Str × Str) × Str => some (c2 p.1.1 p.2)) (by kernel_rfl)
def PC (i : Nat) : List ((Str × Str × Str) × Str) := ((LIB.drop (4 * i)).take 4).flatMap fun r => HEADS.map fun s => (r, s)
theorem c18_0 : ∀ p ∈ PC 0, dIn (c2 p.1.1 p.2) (.list (L6a ++ L6b ++ L6c)) = some (.bool (isEff p.1.1 p.2)) := all_of (g := fun p : (Str × Str × Str) × Str => some (PyData.bool (isEff p.1.1 p.2))) (by kernel_rfl)
theorem c4_0 : ∀ p ∈ PC 0, dIn (c2 p.1.1 p.2) (.list L4) = some (.bool (isInv p.1.1 && (p.2 == p.1.1))) := all_of (g := fun p : (Str × Str × Str) × Str => some (PyData.bool (isInv p.1.1 && (p.2 == p.1.1)))) (by kernel_rfl)
theorem c18_1 : ∀ p ∈ PC 1, dIn (c2 p.1.1 p.2) (.list (L6a ++ L6b ++ L6c)) = some (.bool (isEff p.1.1 p.2)) := all_of (g := fun p : (Str × Str × Str) × Str => some (PyData.bool (isEff p.1.1 p.2))) (by kernel_rfl)
theorem c4_1 : ∀ p ∈ PC 1, dIn (c2 p.1.1 p.2) (.list L4) = some (.bool (isInv p.1.1 && (p.2 == p.1.1))) := all_of (g := fun p : (Str × Str × Str) × Str => some (PyData.bool (isInv p.1.1 && (p.2 == p.1.1)))) (by kernel_rfl)
theorem c18_2 : ∀ p ∈ PC 2, dIn (c2 p.1.1 p.2) (.list (L6a ++ L6b ++ L6c)) = some (.bool (isEff p.1.1 p.2)) := all_of (g := fun p : (Str × Str × Str) × Str => some (PyData.bool (isEff p.1.1 p.2))) (by kernel_rfl)
theorem c4_2 : ∀ p ∈ PC 2, dIn (c2 p.1.1 p.2) (.list L4) = some (.bool (isInv p.1.1 && (p.2 == p.1.1))) := all_of (g := fun p : (Str × Str × Str) × Str => some (PyData.bool (isInv p.1.1 && (p.2 == p.1.1)))) (by kernel_rfl)
theorem c18_3 : ∀ p ∈ PC 3, dIn (c2 p.1.1 p.2) (.list (L6a ++ L6b ++ L6c)) = some (.bool (isEff p.1.1 p.2)) := all_of (g := fun p : (Str × Str × Str) × Str => some (PyData.bool (isEff p.1.1 p.2))) (by kernel_rfl)
theorem c4_3 : ∀ p ∈ PC 3, dIn (c2 p.1.1 p.2) (.list L4) = some (.bool (isInv p.1.1 && (p.2 == p.1.1))) := all_of (g := fun p : (Str × Str × Str) × Str => some (PyData.bool (isInv p.1.1 && (p.2 == p.1.1)))) (by kernel_rfl)
theorem c18_4 : ∀ p ∈ PC 4, dIn (c2 p.1.1 p.2) (.list (L6a ++ L6b ++ L6c)) = some (.bool (isEff p.1.1 p.2)) := all_of (g := fun p : (Str × Str × Str) × Str => some (PyData.bool (isEff p.1.1 p.2))) (by kernel_rfl)
theorem c4_4 : ∀ p ∈ PC 4, dIn (c2 p.1.1 p.2) (.list L4) = some (.bool (isInv p.1.1 && (p.2 == p.1.1))) := all_of (g := fun p : (Str × Str × Str) × Str => some (PyData.bool (isInv p.1.1 && (p.2 == p.1.1)))) (by kernel_rfl)
theorem c18_5 : ∀ p ∈ PC 5, dIn (c2 p.1.1 p.2) (.list (L6a ++ L6b ++ L6c)) = some (.bool (isEff p.1.1 p.2)) := all_of (g := fun p : (Str × Str × Str) × Str => some (PyData.bool (isEff p.1.1 p.2))) (by kernel_rfl)
theorem c4_5 : ∀ p ∈ PC 5, dIn (c2 p.1.1 p.2) (.list L4) = some (.bool (isInv p.1.1 && (p.2 == p.1.1))) := all_of (g := fun p : (Str × Str × Str) × Str => some (PyData.bool (isInv p.1.1 && (p.2 == p.1.1)))) (by kernel_rfl)
theorem c18_6 : ∀ p ∈ PC 6, dIn (c2 p.1.1 p.2) (.list (L6a ++ L6b ++ L6c)) = some (.bool (isEff p.1.1 p.2)) := all_of (g := fun p : (Str × Str × Str) × Str => some (PyData.bool (isEff p.1.1 p.2))) (by kernel_rfl)
theorem c4_6 : ∀ p ∈ PC 6, dIn (c2 p.1.1 p.2) (.list L4) = some (.bool (isInv p.1.1 && (p.2 == p.1.1))) := all_of (g := fun p : (Str × Str × Str) × Str => some (PyData.bool (isInv p.1.1 && (p.2 == p.1.1)))) (by kernel_rfl)
theorem c18_7 : ∀ p ∈ PC 7, dIn (c2 p.1.1 p.2) (.list (L6a ++ L6b ++ L6c)) = some (.bool (isEff p.1.1 p.2)) := all_of (g := fun p : (Str × Str × Str) × Str => some (PyData.bool (isEff p.1.1 p.2))) (by kernel_rfl)
theorem c4_7 : ∀ p ∈ PC 7, dIn (c2 p.1.1 p.2) (.list L4) = some (.bool (isInv p.1.1 && (p.2 == p.1.1))) := all_of (g := fun p : (Str × Str × Str) × Str => some (PyData.bool (isInv p.1.1 && (p.2 == p.1.1)))) (by kernel_rfl)
theorem c18_8 : ∀ p ∈ PC 8, dIn (c2 p.1.1 p.2) (.list (L6a ++ L6b ++ L6c)) = some (.bool (isEff p.1.1 p.2)) := all_of (g := fun p : (Str × Str × Str) × Str => some (PyData.bool (isEff p.1.1 p.2))) (by kernel_rfl)
theorem c4_8 : ∀ p ∈ PC 8, dIn (c2 p.1.1 p.2) (.list L4) = some (.bool (isInv p.1.1 && (p.2 == p.1.1))) := all_of (g := fun p : (Str × Str × Str) × Str => some (PyData.bool (isInv p.1.1 && (p.2 == p.1.1)))) (by kernel_rfl)
theorem c18_9 : ∀ p ∈ PC 9, dIn (c2 p.1.1 p.2) (.list (L6a ++ L6b ++ L6c)) = some (.bool (isEff p.1.1 p.2)) := all_of (g := fun p : (Str × Str × Str) × Str => some (PyData.bool (isEff p.1.1 p.2))) (by kernel_rfl)
theorem c4_9 : ∀ p ∈ PC 9, dIn (c2 p.1.1 p.2) (.list L4) = some (.bool (isInv p.1.1 && (p.2 == p.1.1))) := all_of (g := fun p : (Str × Str × Str) × Str => some (PyData.bool (isInv p.1.1 && (p.2 == p.1.1)))) (by kernel_rfl)
theorem c18_10 : ∀ p ∈ PC 10, dIn (c2 p.1.1 p.2) (.list (L6a ++ L6b ++ L6c)) = some (.bool (isEff p.1.1 p.2)) := all_of (g := fun p : (Str × Str × Str) × Str => some (PyData.bool (isEff p.1.1 p.2))) (by kernel_rfl)
theorem c4_10 : ∀ p ∈ PC 10, dIn (c2 p.1.1 p.2) (.list L4) = some (.bool (isInv p.1.1 && (p.2 == p.1.1))) := all_of (g := fun p : (Str × Str × Str) × Str => some (PyData.bool (isInv p.1.1 && (p.2 == p.1.1)))) (by kernel_rfl)
theorem c18_11 : ∀ p ∈ PC 11, dIn (c2 p.1.1 p.2) (.list (L6a ++ L6b ++ L6c)) = some (.bool (isEff p.1.1 p.2)) := all_of (g := fun p : (Str × Str × Str) × Str => some (PyData.bool (isEff p.1.1 p.2))) (by kernel_rfl)
theorem c4_11 : ∀ p ∈ PC 11, dIn (c2 p.1.1 p.2) (.list L4) = some (.bool (isInv p.1.1 && (p.2 == p.1.1))) := all_of (g := fun p : (Str × Str × Str) × Str => some (PyData.bool (isInv p.1.1 && (p.2 == p.1.1)))) (by kernel_rfl)
theorem c18_12 : ∀ p ∈ PC 12, dIn (c2 p.1.1 p.2) (.list (L6a ++ L6b ++ L6c)) = some (.bool (isEff p.1.1 p.2)) := all_of (g := fun p : (Str × Str × Str) × Str => some (PyData.bool (isEff p.1.1 p.2))) (by kernel_rfl)
theorem c4_12 : ∀ p ∈ PC 12, dIn (c2 p.1.1 p.2) (.list L4) = some (.bool (isInv p.1.1 && (p.2 == p.1.1))) := all_of (g := fun p : (Str × Str × Str) × Str => some (PyData.bool (isInv p.1.1 && (p.2 == p.1.1)))) (by kernel_rfl)
theorem c18_13 : ∀ p ∈ PC 13, dIn (c2 p.1.1 p.2) (.list (L6a ++ L6b ++ L6c)) = some (.bool (isEff p.1.1 p.2)) := all_of (g := fun p : (Str × Str × Str) × Str => some (PyData.bool (isEff p.1.1 p.2))) (by kernel_rfl)
theorem c4_13 : ∀ p ∈ PC 13, dIn (c2 p.1.1 p.2) (.list L4) = some (.bool (isInv p.1.1 && (p.2 == p.1.1))) := all_of (g := fun p : (Str × Str × Str) × Str => some (PyData.bool (isInv p.1.1 && (p.2 == p.1.1)))) (by kernel_rfl)
theorem c18_14 : ∀ p ∈ PC 14, dIn (c2 p.1.1 p.2) (.list (L6a ++ L6b ++ L6c)) = some (.bool (isEff p.1.1 p.2)) := all_of (g := fun p : (Str × Str × Str) × Str => some (PyData.bool (isEff p.1.1 p.2))) (by kernel_rfl)
theorem c4_14 : ∀ p ∈ PC 14, dIn (c2 p.1.1 p.2) (.list L4) = some (.bool (isInv p.1.1 && (p.2 == p.1.1))) := all_of (g := fun p : (Str × Str × Str) × Str => some (PyData.bool (isInv p.1.1 && (p.2 == p.1.1)))) (by kernel_rfl)
theorem pc_mem {p : (Str × Str × Str) × Str} (h : p ∈ PS) : ∃ i < 15, p ∈ PC i := by
  obtain ⟨r, hr, hs⟩ := List.mem_flatMap.mp h
  obtain ⟨k, hk, rfl⟩ := List.getElem_of_mem hr
  have hl : LIB.length = 57 := by kernel_rfl
  refine ⟨k / 4, by omega, List.mem_flatMap.mpr ⟨LIB[k], ?_, hs⟩⟩
  refine List.mem_of_getElem? (i := k % 4) ?_
  rw [List.getElem?_take, if_pos (by omega), List.getElem?_drop, show 4 * (k / 4) + k % 4 = k by omega, List.getElem?_eq_getElem hk]
theorem q_in4 : ∀ p ∈ PS, dIn (c2 p.1.1 p.2) (.list L4) = some (.bool (isInv p.1.1 && (p.2 == p.1.1))) := fun p hp => by
  obtain ⟨i, hi, h⟩ := pc_mem hp
  match i, hi, h with
  | 0, _, h => exact c4_0 p h
  | 1, _, h => exact c4_1 p h
  | 2, _, h => exact c4_2 p h
  | 3, _, h => exact c4_3 p h
  | 4, _, h => exact c4_4 p h
  | 5, _, h => exact c4_5 p h
  | 6, _, h => exact c4_6 p h
  | 7, _, h => exact c4_7 p h
  | 8, _, h => exact c4_8 p h
  | 9, _, h => exact c4_9 p h
  | 10, _, h => exact c4_10 p h
  | 11, _, h => exact c4_11 p h
  | 12, _, h => exact c4_12 p h
  | 13, _, h => exact c4_13 p h
  | 14, _, h => exact c4_14 p h
  | i + 15, hi, _ => omega
theorem q_in18 : ∀ p ∈ PS, dIn (c2 p.1.1 p.2) (.list (L6a ++ L6b ++ L6c)) = some (.bool (isEff p.1.1 p.2)) := fun p hp => by
  obtain ⟨i, hi, h⟩ := pc_mem hp
  match i, hi, h with
  | 0, _, h => exact c18_0 p h
  | 1, _, h => exact c18_1 p h
  | 2, _, h => exact c18_2 p h
  | 3, _, h => exact c18_3 p h
  | 4, _, h => exact c18_4 p h
  | 5, _, h => exact c18_5 p h
  | 6, _, h => exact c18_6 p h
  | 7, _, h => exact c18_7 p h
  | 8, _, h => exact c18_8 p h
  | 9, _, h => exact c18_9 p h
  | 10, _, h => exact c18_10 p h
  | 11, _, h => exact c18_11 p h
  | 12, _, h => exact c18_12 p h
  | 13, _, h => exact c18_13 p h
  | 14, _, h => exact c18_14 p h
  | i + 15, hi, _ => omega
theorem q_un : ∀ p ∈ PS, (decide ((kdsOf p.1.2.1).length = 1) || (!isInv p.1.1 && !isEff p.1.1 p.2)) = true := all_of (g := fun _ : (Str × Str × Str) × Str => true) (by kernel_rfl)
def LFT : List D := [.tuple [.str "add", .int 0], .tuple [.str "mul", .int 1], .tuple [.str "concat", .str ""], .tuple [.str "join", .tuple []], .tuple [.str "both", .bool true], .tuple [.str "either", .bool false]]
def RGT : List D := [.tuple [.str "sub", .int 0], .tuple [.str "divide", .int 1], .tuple [.str "concat", .str ""], .tuple [.str "join", .tuple []], .tuple [.str "drop", .int 0], .tuple [.str "skip", .int 0], .tuple [.str "add_each", .int 0]]
def vOf (f : Str) : D → Option D
  | .tuple [.str g, v] => if f == g then some v else none
  | _ => none
def valsOf (f : Str) (l : List D) : List D := l.filterMap (vOf f)
def rowOk (f : Str) (k : Kd) : D → Bool
  | .tuple [.str g, v] => SeqAt.shaped (.str g) && (!(f == g) || vkB k v)
  | _ => false
theorem q_rows : ∀ r ∈ LIB, (!decide ((kdsOf r.2.1).length = 2) || (LFT.all (rowOk r.1 ((kdsOf r.2.1).getD 0 .n)) && RGT.all (rowOk r.1 ((kdsOf r.2.1).getD 1 .n)))) = true := all_of (g := fun _ : Str × Str × Str => true) (by kernel_rfl)
theorem q_nts : ∀ r ∈ LIB, nts r.1 = (valsOf r.1 LFT).map (fun v => PyData.tuple [.int 0, v]) ++ (valsOf r.1 RGT).map (fun v => PyData.tuple [.int 1, v]) := all_of (g := fun r : Str × Str × Str => (valsOf r.1 LFT).map (fun v => PyData.tuple [.int 0, v]) ++ (valsOf r.1 RGT).map (fun v => PyData.tuple [.int 1, v])) (by kernel_rfl)
end K19.PG
end Part_YZ

section Part_YP
set_option Elab.async false
set_option linter.all false
set_option maxRecDepth 100000
set_option autoImplicit false
set_option maxHeartbeats 2000000
namespace K19.PG
open K19 PySem PySem.Spec PyProof.Rows L2 DL SX
local macro_rules | `(tactic| walk_at "ev") => `(tactic| try simp -implicitDefEqProofs only [mDef, mSeq, mIf, mT, mTr, mOp, mUn, mVar, mC, mCall, mCons, mNil, mRet, mSkip, mAsg, mSl, mPart, mNoPart, mAndT, mOrT, mNotT, mAnd, mOr, mNot, mIfE, mChain, mIs, mIs2, mOf, mNew, mCallF, mM1, mM0, mIxM, mLenM, mApp, mSetM, mSetIx, mAug, mFrz, mForS, mRng1, mRng2, mItems, setV_zn, setV_zv, setV_zo, setV_succ, setM, frz, setT2, mBk, mCt, mNo, 
  DL.bind_ok, DL.bind_no, DL.bind_ite, lift_some, lift_none, List.map_cons, List.map_nil, List.length_cons, List.length_nil, List.replicate_succ, List.replicate_zero, List.cons_append, List.nil_append, List.append_nil, List.getElem?_cons_zero, List.getElem?_cons_succ, List.set_cons_zero, List.set_cons_succ, Nat.reduceAdd, Nat.reduceSub, Nat.zero_add, Nat.sub_self, decide_eq_true_eq,
  add_ii, sub_ii, neg_i, mul_r, mul_l, div_s, mod_s, eq_ii, ne_ii, eq_bb, ne_bb, lt_ii, gt_ii, le_ii, ge_ii, len_l, len_t, int_i, int_b, abs_i, max_ii, min_ii, tuple_l, ix_l, ix_t, tr_b, Nat.reduceLeDiff, if_true, if_false, Option.map_some, Option.bind_some, reduceIte, Int.reduceLT, Int.reduceNeg, Int.reduceMul, Nat.reduceLT, Nat.le_refl, LINE, Bool.false_eq_true, Bool.not_true, Bool.not_false, Bool.true_eq_false, R.bind_ex, Int.reduceEq, e_number_number, e_number_truth, e_number_text, e_number_list, e_truth_number, e_truth_truth, e_truth_text, e_truth_list, e_text_number, e_text_truth, e_text_text, e_text_list, e_list_number, e_list_truth, e_list_text, e_list_list, is_bool_n, is_bool_t, is_bool_s, is_bool_l, is_int_n, is_int_t, is_int_s, is_int_l, is_str_n, is_str_t, is_str_s, is_str_l, is_tuple_n, is_tuple_t, is_tuple_s, is_tuple_l, at_z, at_o, sl_tail, tup_0, tup_1, tup_2, tup_3, rev_t, rev_l, len_l])
local macro_rules | `(tactic| walk_at "ev*") => `(tactic| try simp -implicitDefEqProofs only [mDef, mSeq, mIf, mT, mTr, mOp, mUn, mVar, mC, mCall, mCons, mNil, mRet, mSkip, mAsg, mSl, mPart, mNoPart, mAndT, mOrT, mNotT, mAnd, mOr, mNot, mIfE, mChain, mIs, mIs2, mOf, mNew, mCallF, mM1, mM0, mIxM, mLenM, mApp, mSetM, mSetIx, mAug, mFrz, mForS, mRng1, mRng2, mItems, setV_zn, setV_zv, setV_zo, setV_succ, setM, frz, setT2, mBk, mCt, mNo, 
  DL.bind_ok, DL.bind_no, DL.bind_ite, lift_some, lift_none, List.map_cons, List.map_nil, List.length_cons, List.length_nil, List.replicate_succ, List.replicate_zero, List.cons_append, List.nil_append, List.append_nil, List.getElem?_cons_zero, List.getElem?_cons_succ, List.set_cons_zero, List.set_cons_succ, Nat.reduceAdd, Nat.reduceSub, Nat.zero_add, Nat.sub_self, decide_eq_true_eq,
  add_ii, sub_ii, neg_i, mul_r, mul_l, div_s, mod_s, eq_ii, ne_ii, eq_bb, ne_bb, lt_ii, gt_ii, le_ii, ge_ii, len_l, len_t, int_i, int_b, abs_i, max_ii, min_ii, tuple_l, ix_l, ix_t, tr_b, Nat.reduceLeDiff, if_true, if_false, Option.map_some, Option.bind_some, reduceIte, Int.reduceLT, Int.reduceNeg, Int.reduceMul, Nat.reduceLT, Nat.le_refl, LINE, Bool.false_eq_true, Bool.not_true, Bool.not_false, Bool.true_eq_false, R.bind_ex, Int.reduceEq, e_number_number, e_number_truth, e_number_text, e_number_list, e_truth_number, e_truth_truth, e_truth_text, e_truth_list, e_text_number, e_text_truth, e_text_text, e_text_list, e_list_number, e_list_truth, e_list_text, e_list_list, is_bool_n, is_bool_t, is_bool_s, is_bool_l, is_int_n, is_int_t, is_int_s, is_int_l, is_str_n, is_str_t, is_str_s, is_str_l, is_tuple_n, is_tuple_t, is_tuple_s, is_tuple_l, at_z, at_o, sl_tail, tup_0, tup_1, tup_2, tup_3, rev_t, rev_l, len_l, *])


def isC (a : D) (l : List D) : Bool := l.any fun v => PyData.eqv a (.tuple [.str "constant", v])
theorem nt_right (a b : D) : ∀ m : List D, ntStep a b (m.map fun v => PyData.tuple [.int 1, v]) = if isC b m then some a else none
  | [] => rfl
  | v :: m => by
    have e : ntStep a b (.tuple [.int 1, v] :: m.map fun v => PyData.tuple [.int 1, v]) = if PyData.eqv b (.tuple [.str "constant", v]) then some a else ntStep a b (m.map fun v => PyData.tuple [.int 1, v]) := rfl
    rw [List.map_cons, e, nt_right a b m]
    unfold isC
    rw [List.any_cons]
    cases PyData.eqv b (.tuple [.str "constant", v]) <;> rfl
theorem nt_both (a b : D) (m : List D) : ∀ l : List D, ntStep a b ((l.map fun v => PyData.tuple [.int 0, v]) ++ m.map fun v => PyData.tuple [.int 1, v]) = if isC a l then some b else if isC b m then some a else none
  | [] => by rw [List.map_nil, List.nil_append, nt_right]; rfl
  | v :: l => by
    have e : ntStep a b (.tuple [.int 0, v] :: ((l.map fun v => PyData.tuple [.int 0, v]) ++ m.map fun v => PyData.tuple [.int 1, v])) = if PyData.eqv a (.tuple [.str "constant", v]) then some b else ntStep a b ((l.map fun v => PyData.tuple [.int 0, v]) ++ m.map fun v => PyData.tuple [.int 1, v]) := rfl
    rw [List.map_cons, List.cons_append, e, nt_both a b m l]
    unfold isC
    rw [List.any_cons]
    cases PyData.eqv a (.tuple [.str "constant", v]) <;> rfl
theorem row_of {f : Str} {k : Kd} {y : D} (h : rowOk f k y = true) : ∃ g v, y = .tuple [.str g, v] ∧ SeqAt.shaped (.str g) = true ∧ ((f == g) = true → vkB k v = true) := by
  unfold rowOk at h
  split at h
  · rename_i g v
    have h := and_t2 h
    refine ⟨g, v, rfl, h.1, fun e => ?_⟩
    have h := h.2
    rw [e] at h
    exact h
  · cases h

theorem lp_L1 {ks : List Kd} {k : Kd} {d a b : D} {f : Str} {c1 c2 c3 c4 c6 : Cell} (h0 : dIx d (.int 0) = some (.str f)) (h1 : dIx d (.int 1) = some a) (h2 : dIx d (.int 2) = some b) (sf : SeqAt.shaped (.str f) = true) (hx : GP ks 33 k a) : ∀ (l : List D), l.all (rowOk f k) = true → ∀ o : Option D, ∃ o', mFor (setV 5) b__law_one_rule_L1 l [.val d, c1, c2, c3, c4, cO o, c6] = .ok (if isC a (valsOf f l) then Fl.rt b else Fl.nx) [.val d, c1, c2, c3, c4, cO o', c6]
  | [], _, o => ⟨o, rfl⟩
  | y :: l, h, o => by
    rw [List.all_cons] at h
    have h := and_t2 h
    obtain ⟨g, v, rfl, sg, hv⟩ := row_of h.1
    obtain ⟨o', ih⟩ := lp_L1 (c1 := c1) (c2 := c2) (c3 := c3) (c4 := c4) (c6 := c6) h0 h1 h2 sf hx l h.2 (some (.tuple [.str g, v]))
    have e0 : setV 5 (.tuple [.str g, v]) [.val d, c1, c2, c3, c4, cO o, c6] = some [.val d, c1, c2, c3, c4, .val (.tuple [.str g, v]), c6] := by cases o <;> rfl
    have r0 : dIx (.tuple [.str g, v]) (.int 0) = some (.str g) := rfl
    have r1 : dIx (.tuple [.str g, v]) (.int 1) = some v := rfl
    have c3' : dTup [.str "constant", v] = some (.tuple [.str "constant", v]) := rfl
    have e1 := eq_str sf sg
    rw [mFor]
    simp only [e0]
    have hval : valsOf f (.tuple [.str g, v] :: l) = match (if (f == g) = true then some v else none) with | none => valsOf f l | some w => w :: valsOf f l := by
      have hv0 : vOf f (.tuple [.str g, v]) = if (f == g) = true then some v else none := rfl
      unfold valsOf
      rw [List.filterMap_cons, hv0]
      cases f == g <;> rfl
    cases q : f == g with
    | false =>
      rw [q] at e1 hval
      have hval : valsOf f (.tuple [.str g, v] :: l) = valsOf f l := hval
      rw [hval]
      have e4 : b__law_one_rule_L1 [.val d, c1, c2, c3, c4, .val (.tuple [.str g, v]), c6] = .ok .nx [.val d, c1, c2, c3, c4, .val (.tuple [.str g, v]), c6] := by
        unfold b__law_one_rule_L1
        generalize PyData.tuple [.str g, v] = row at r0 r1 ⊢
        iterate 6 ((try simp only [h0, h1, h2, r0, r1, e1]); walk_at "ev")
      simp only [e4, DL.bind_ok]
      exact ⟨o', ih⟩
    | true =>
      rw [q] at e1 hval
      have hval : valsOf f (.tuple [.str g, v] :: l) = v :: valsOf f l := hval
      rw [hval]
      have e2 : dEq a (.tuple [.str "constant", v]) = some (.bool (PyData.eqv a (.tuple [.str "constant", v]))) := by
        unfold dEq
        rw [gp_sh hx, const_sh (vkB_ok (hv q))]
        rfl
      cases z : PyData.eqv a (.tuple [.str "constant", v]) with
      | true =>
        rw [z] at e2
        have e4 : b__law_one_rule_L1 [.val d, c1, c2, c3, c4, .val (.tuple [.str g, v]), c6] = .ok (.rt b) [.val d, c1, c2, c3, c4, .val (.tuple [.str g, v]), c6] := by
          unfold b__law_one_rule_L1
          generalize PyData.tuple [.str g, v] = row at r0 r1 ⊢
          iterate 9 ((try simp only [h0, h1, h2, r0, r1, e1, e2, c3']); walk_at "ev")
        simp only [e4, DL.bind_ok]
        refine ⟨some (.tuple [.str g, v]), ?_⟩
        have w : isC a (v :: valsOf f l) = true := by
          unfold isC
          rw [List.any_cons, z]
          rfl
        rw [w]
        rfl
      | false =>
        rw [z] at e2
        have e4 : b__law_one_rule_L1 [.val d, c1, c2, c3, c4, .val (.tuple [.str g, v]), c6] = .ok .nx [.val d, c1, c2, c3, c4, .val (.tuple [.str g, v]), c6] := by
          unfold b__law_one_rule_L1
          generalize PyData.tuple [.str g, v] = row at r0 r1 ⊢
          iterate 9 ((try simp only [h0, h1, h2, r0, r1, e1, e2, c3']); walk_at "ev")
        simp only [e4, DL.bind_ok]
        have w : isC a (v :: valsOf f l) = isC a (valsOf f l) := by
          unfold isC
          rw [List.any_cons, z]
          rfl
        rw [w]
        exact ⟨o', ih⟩

theorem lp_L2 {ks : List Kd} {k : Kd} {d a b : D} {f : Str} {c1 c2 c3 c4 c6 : Cell} (h0 : dIx d (.int 0) = some (.str f)) (h1 : dIx d (.int 1) = some a) (h2 : dIx d (.int 2) = some b) (sf : SeqAt.shaped (.str f) = true) (hx : GP ks 33 k b) : ∀ (l : List D), l.all (rowOk f k) = true → ∀ o : Option D, ∃ o', mFor (setV 5) b__law_one_rule_L2 l [.val d, c1, c2, c3, c4, cO o, c6] = .ok (if isC b (valsOf f l) then Fl.rt a else Fl.nx) [.val d, c1, c2, c3, c4, cO o', c6]
  | [], _, o => ⟨o, rfl⟩
  | y :: l, h, o => by
    rw [List.all_cons] at h
    have h := and_t2 h
    obtain ⟨g, v, rfl, sg, hv⟩ := row_of h.1
    obtain ⟨o', ih⟩ := lp_L2 (c1 := c1) (c2 := c2) (c3 := c3) (c4 := c4) (c6 := c6) h0 h1 h2 sf hx l h.2 (some (.tuple [.str g, v]))
    have e0 : setV 5 (.tuple [.str g, v]) [.val d, c1, c2, c3, c4, cO o, c6] = some [.val d, c1, c2, c3, c4, .val (.tuple [.str g, v]), c6] := by cases o <;> rfl
    have r0 : dIx (.tuple [.str g, v]) (.int 0) = some (.str g) := rfl
    have r1 : dIx (.tuple [.str g, v]) (.int 1) = some v := rfl
    have c3' : dTup [.str "constant", v] = some (.tuple [.str "constant", v]) := rfl
    have e1 := eq_str sf sg
    rw [mFor]
    simp only [e0]
    have hval : valsOf f (.tuple [.str g, v] :: l) = match (if (f == g) = true then some v else none) with | none => valsOf f l | some w => w :: valsOf f l := by
      have hv0 : vOf f (.tuple [.str g, v]) = if (f == g) = true then some v else none := rfl
      unfold valsOf
      rw [List.filterMap_cons, hv0]
      cases f == g <;> rfl
    cases q : f == g with
    | false =>
      rw [q] at e1 hval
      have hval : valsOf f (.tuple [.str g, v] :: l) = valsOf f l := hval
      rw [hval]
      have e4 : b__law_one_rule_L2 [.val d, c1, c2, c3, c4, .val (.tuple [.str g, v]), c6] = .ok .nx [.val d, c1, c2, c3, c4, .val (.tuple [.str g, v]), c6] := by
        unfold b__law_one_rule_L2
        generalize PyData.tuple [.str g, v] = row at r0 r1 ⊢
        iterate 6 ((try simp only [h0, h1, h2, r0, r1, e1]); walk_at "ev")
      simp only [e4, DL.bind_ok]
      exact ⟨o', ih⟩
    | true =>
      rw [q] at e1 hval
      have hval : valsOf f (.tuple [.str g, v] :: l) = v :: valsOf f l := hval
      rw [hval]
      have e2 : dEq b (.tuple [.str "constant", v]) = some (.bool (PyData.eqv b (.tuple [.str "constant", v]))) := by
        unfold dEq
        rw [gp_sh hx, const_sh (vkB_ok (hv q))]
        rfl
      cases z : PyData.eqv b (.tuple [.str "constant", v]) with
      | true =>
        rw [z] at e2
        have e4 : b__law_one_rule_L2 [.val d, c1, c2, c3, c4, .val (.tuple [.str g, v]), c6] = .ok (.rt a) [.val d, c1, c2, c3, c4, .val (.tuple [.str g, v]), c6] := by
          unfold b__law_one_rule_L2
          generalize PyData.tuple [.str g, v] = row at r0 r1 ⊢
          iterate 9 ((try simp only [h0, h1, h2, r0, r1, e1, e2, c3']); walk_at "ev")
        simp only [e4, DL.bind_ok]
        refine ⟨some (.tuple [.str g, v]), ?_⟩
        have w : isC b (v :: valsOf f l) = true := by
          unfold isC
          rw [List.any_cons, z]
          rfl
        rw [w]
        rfl
      | false =>
        rw [z] at e2
        have e4 : b__law_one_rule_L2 [.val d, c1, c2, c3, c4, .val (.tuple [.str g, v]), c6] = .ok .nx [.val d, c1, c2, c3, c4, .val (.tuple [.str g, v]), c6] := by
          unfold b__law_one_rule_L2
          generalize PyData.tuple [.str g, v] = row at r0 r1 ⊢
          iterate 9 ((try simp only [h0, h1, h2, r0, r1, e1, e2, c3']); walk_at "ev")
        simp only [e4, DL.bind_ok]
        have w : isC b (v :: valsOf f l) = isC b (valsOf f l) := by
          unfold isC
          rw [List.any_cons, z]
          rfl
        rw [w]
        exact ⟨o', ih⟩
end K19.PG
end Part_YP

section Part_YQ
set_option Elab.async false
set_option linter.all false
set_option maxRecDepth 100000
set_option autoImplicit false
set_option maxHeartbeats 2000000
namespace K19.PG
open K19 PySem PySem.Spec PyProof.Rows L2 DL SX
local macro_rules | `(tactic| walk_at "ev") => `(tactic| try simp -implicitDefEqProofs only [mDef, mSeq, mIf, mT, mTr, mOp, mUn, mVar, mC, mCall, mCons, mNil, mRet, mSkip, mAsg, mSl, mPart, mNoPart, mAndT, mOrT, mNotT, mAnd, mOr, mNot, mIfE, mChain, mIs, mIs2, mOf, mNew, mCallF, mM1, mM0, mIxM, mLenM, mApp, mSetM, mSetIx, mAug, mFrz, mForS, mRng1, mRng2, mItems, setV_zn, setV_zv, setV_zo, setV_succ, setM, frz, setT2, mBk, mCt, mNo, 
  DL.bind_ok, DL.bind_no, DL.bind_ite, lift_some, lift_none, List.map_cons, List.map_nil, List.length_cons, List.length_nil, List.replicate_succ, List.replicate_zero, List.cons_append, List.nil_append, List.append_nil, List.getElem?_cons_zero, List.getElem?_cons_succ, List.set_cons_zero, List.set_cons_succ, Nat.reduceAdd, Nat.reduceSub, Nat.zero_add, Nat.sub_self, decide_eq_true_eq,
  add_ii, sub_ii, neg_i, mul_r, mul_l, div_s, mod_s, eq_ii, ne_ii, eq_bb, ne_bb, lt_ii, gt_ii, le_ii, ge_ii, len_l, len_t, int_i, int_b, abs_i, max_ii, min_ii, tuple_l, ix_l, ix_t, tr_b, Nat.reduceLeDiff, if_true, if_false, Option.map_some, Option.bind_some, reduceIte, Int.reduceLT, Int.reduceNeg, Int.reduceMul, Nat.reduceLT, Nat.le_refl, LINE, Bool.false_eq_true, Bool.not_true, Bool.not_false, Bool.true_eq_false, R.bind_ex, Int.reduceEq, e_number_number, e_number_truth, e_number_text, e_number_list, e_truth_number, e_truth_truth, e_truth_text, e_truth_list, e_text_number, e_text_truth, e_text_text, e_text_list, e_list_number, e_list_truth, e_list_text, e_list_list, is_bool_n, is_bool_t, is_bool_s, is_bool_l, is_int_n, is_int_t, is_int_s, is_int_l, is_str_n, is_str_t, is_str_s, is_str_l, is_tuple_n, is_tuple_t, is_tuple_s, is_tuple_l, at_z, at_o, sl_tail, tup_0, tup_1, tup_2, tup_3, rev_t, rev_l, len_l])
local macro_rules | `(tactic| walk_at "ev*") => `(tactic| try simp -implicitDefEqProofs only [mDef, mSeq, mIf, mT, mTr, mOp, mUn, mVar, mC, mCall, mCons, mNil, mRet, mSkip, mAsg, mSl, mPart, mNoPart, mAndT, mOrT, mNotT, mAnd, mOr, mNot, mIfE, mChain, mIs, mIs2, mOf, mNew, mCallF, mM1, mM0, mIxM, mLenM, mApp, mSetM, mSetIx, mAug, mFrz, mForS, mRng1, mRng2, mItems, setV_zn, setV_zv, setV_zo, setV_succ, setM, frz, setT2, mBk, mCt, mNo, 
  DL.bind_ok, DL.bind_no, DL.bind_ite, lift_some, lift_none, List.map_cons, List.map_nil, List.length_cons, List.length_nil, List.replicate_succ, List.replicate_zero, List.cons_append, List.nil_append, List.append_nil, List.getElem?_cons_zero, List.getElem?_cons_succ, List.set_cons_zero, List.set_cons_succ, Nat.reduceAdd, Nat.reduceSub, Nat.zero_add, Nat.sub_self, decide_eq_true_eq,
  add_ii, sub_ii, neg_i, mul_r, mul_l, div_s, mod_s, eq_ii, ne_ii, eq_bb, ne_bb, lt_ii, gt_ii, le_ii, ge_ii, len_l, len_t, int_i, int_b, abs_i, max_ii, min_ii, tuple_l, ix_l, ix_t, tr_b, Nat.reduceLeDiff, if_true, if_false, Option.map_some, Option.bind_some, reduceIte, Int.reduceLT, Int.reduceNeg, Int.reduceMul, Nat.reduceLT, Nat.le_refl, LINE, Bool.false_eq_true, Bool.not_true, Bool.not_false, Bool.true_eq_false, R.bind_ex, Int.reduceEq, e_number_number, e_number_truth, e_number_text, e_number_list, e_truth_number, e_truth_truth, e_truth_text, e_truth_list, e_text_number, e_text_truth, e_text_text, e_text_list, e_list_number, e_list_truth, e_list_text, e_list_list, is_bool_n, is_bool_t, is_bool_s, is_bool_l, is_int_n, is_int_t, is_int_s, is_int_l, is_str_n, is_str_t, is_str_s, is_str_l, is_tuple_n, is_tuple_t, is_tuple_s, is_tuple_l, at_z, at_o, sl_tail, tup_0, tup_1, tup_2, tup_3, rev_t, rev_l, len_l, *])


/-! ### the law's one rule is the program's -/
theorem in_i : dIn (.str "input") (.list [.str "input", .str "constant"]) = some (.bool true) := by kernel_rfl
theorem in_c : dIn (.str "constant") (.list [.str "input", .str "constant"]) = some (.bool true) := by kernel_rfl
theorem q_ic : ∀ r ∈ LIB, dIn (.str r.1) (.list [.str "input", .str "constant"]) = some (.bool false) := all_of (g := fun _ : Str × Str × Str => some (PyData.bool false)) (by kernel_rfl)
def L18 : D := .list (L6a ++ L6b ++ L6c)
def IDM : D := .list [.str "max", .str "min", .str "both", .str "either"]
def COM : D := .list [.str "add", .str "both", .str "either", .str "equal", .str "max", .str "min", .str "mul", .str "same_list", .str "same_text", .str "zip_add"]
theorem one_leaf {d : D} {s : Str} (e0 : dIx d (.int 0) = some (.str s)) (e1 : dIn (.str s) (.list [.str "input", .str "constant"]) = some (.bool true)) : m__law_one_rule [d] = .ok d [] := by
  unfold m__law_one_rule b__law_one_rule
  show R.bind ((mSeq _ _) [.val d, .non, .non, .non, .non, .non, .non]) _ = _
  rw [seq_rt (δ1 := [.val d, .non, .non, .non, .non, .non, .non]) (d := d) (by iterate 4 ((try simp only [e0, e1]); walk_at "ev"))]
  rfl
theorem one_pre {r : Str × Str × Str} {s : Str} {d a x : D} (hr : r ∈ LIB) (hs : s ∈ HEADS) (e0 : dIx d (.int 0) = some (.str r.1)) (e1 : dIx d (.int 1) = some a) (a0 : dIx a (.int 0) = some (.str s)) (a1 : (isInv r.1 && (s == r.1)) = true ∨ isEff r.1 s = true → dIx a (.int 1) = some x) (n : Int) (e2 : dLen [d] = some (.int n)) (b : D) (e3 : n = 3 → dIx d (.int 2) = some b) (out : D)
    (h1 : (isInv r.1 && (s == r.1)) = true → out = x) (h2 : (isInv r.1 && (s == r.1)) = false → isEff r.1 s = true → out = .tuple [.str r.1, x]) (h3 : (isInv r.1 && (s == r.1)) = false → isEff r.1 s = false → n ≠ 3 → out = d)
    (h4 : (isInv r.1 && (s == r.1)) = false → isEff r.1 s = false → n = 3 →
      (isIdm r.1 = true → dEq a b = some (.bool (PyData.eqv a b))) ∧ (isCom r.1 = true → m__law_precedes [b, a] = .ok (.bool (prec b a)) []) ∧ out = ((stepB r.1 a b).getD d)
      ∧ (∃ k : Kd, ∃ ks, GP ks 33 k a ∧ LFT.all (rowOk r.1 k) = true) ∧ (∃ k : Kd, ∃ ks, GP ks 33 k b ∧ RGT.all (rowOk r.1 k) = true)) : m__law_one_rule [d] = .ok out [] := by
  have q0 := q_ic r hr
  have q1 := q_c1 r hr
  have q2 := q_c2 (r, s) (ps_mem hr hs)
  have q3 := q_in4 (r, s) (ps_mem hr hs)
  have q4 := q_in18 (r, s) (ps_mem hr hs)
  simp only [] at q2 q3 q4
  have sf : SeqAt.shaped (.str r.1) = true := by
    show (PyData.canLay0 (.str r.1) && decide (0 ≤ 64)) = true
    rw [f_lay r hr]
    rfl
  generalize c2 r.1 s = z at q2 q3 q4
  generalize c1 r.1 = z1 at q1 q2
  unfold m__law_one_rule b__law_one_rule
  show R.bind ((mSeq _ _) [.val d, .non, .non, .non, .non, .non, .non]) _ = _
  rw [seq_ok (δ1 := [.val d, .non, .non, .non, .non, .non, .non]) (by iterate 4 ((try simp only [e0, q0]); walk_at "ev"))]
  rw [seq_ok (δ1 := [.val d, .val z, .non, .non, .non, .non, .non]) (by iterate 6 ((try simp only [e0, e1, a0, q1, q2]); walk_at "ev"))]
  have q3 : dIn z (.list [.str "neg neg", .str "negate negate", .str "reverse reverse", .str "reverse_text reverse_text"]) = some (.bool (isInv r.1 && (s == r.1))) := q3
  cases g1 : isInv r.1 && (s == r.1) with
  | true =>
    rw [g1] at q3
    have a1 := a1 (.inl g1)
    rw [h1 g1]
    rw [seq_rt (δ1 := [.val d, .val z, .non, .non, .non, .non, .non]) (d := x) (by iterate 6 ((try simp only [e0, e1, a1, q3]); walk_at "ev"))]
    rfl
  | false =>
    rw [g1] at q3
    rw [seq_ok (δ1 := [.val d, .val z, .non, .non, .non, .non, .non]) (by iterate 6 ((try simp only [e0, e1, q3]); walk_at "ev"))]
    rw [seq_ok (δ1 := [.val d, .val z, .val (.list L6a), .non, .non, .non, .non]) (by (iterate 3 (walk_at "ev")); rfl)]
    rw [seq_ok (δ1 := [.val d, .val z, .val (.list (L6a ++ L6b)), .non, .non, .non, .non]) (by rfl)]
    rw [seq_ok (δ1 := [.val d, .val z, .val L18, .non, .non, .non, .non]) (by rfl)]
    have q4 : dIn z L18 = some (.bool (isEff r.1 s)) := q4
    generalize L18 = l18 at q4
    cases g2 : isEff r.1 s with
    | true =>
      rw [g2] at q4
      have a1 := a1 (.inr g2)
      rw [h2 g1 g2]
      have c0 : dTup [.str r.1, x] = some (.tuple [.str r.1, x]) := rfl
      rw [seq_rt (δ1 := [.val d, .val z, .val l18, .non, .non, .non, .non]) (d := .tuple [.str r.1, x]) (by iterate 8 ((try simp only [e0, e1, a1, q4, c0]); walk_at "ev"))]
      rfl
    | false =>
      rw [g2] at q4
      rw [seq_ok (δ1 := [.val d, .val z, .val l18, .non, .non, .non, .non]) (by iterate 6 ((try simp only [e0, e1, q4]); walk_at "ev"))]
      by_cases g3 : n = 3
      · obtain ⟨i1, i2, i3, ⟨ka, ksa, wa, wl⟩, ⟨kb, ksb, wb, wr⟩⟩ := h4 g1 g2 g3
        rw [i3]
        subst g3
        have e3 := e3 rfl
        rw [seq_ok (δ1 := [.val d, .val z, .val l18, .non, .non, .non, .non]) (by
          iterate 6 ((try simp only [e2]); walk_at "ev")
          rfl)]
        unfold stepB
        have u1 : dIn (.str r.1) (.list [.str "max", .str "min", .str "both", .str "either"]) = some (.bool (isIdm r.1)) := idm_eq r.1
        have u2 : dIn (.str r.1) COM = some (.bool (isCom r.1)) := com_eq r.1
        have key : ∀ pr : Bool, (isCom r.1 = true → m__law_precedes [b, a] = .ok (.bool pr) []) → True := fun _ _ => trivial
        cases g5 : isIdm r.1 && PyData.eqv a b with
        | true =>
          have g6 := and_t2 g5
          have i1 := i1 g6.1
          rw [g6.1] at u1
          rw [g6.2] at i1
          rw [seq_rt (δ1 := [.val d, .val z, .val l18, .non, .non, .non, .non]) (d := a) (by iterate 7 ((try simp only [e0, e1, e3, u1, i1]); walk_at "ev"))]
          rw [if_pos rfl]
          rfl
        | false =>
          rw [seq_ok (δ1 := [.val d, .val z, .val l18, .non, .non, .non, .non]) (by
            cases g6 : isIdm r.1 with
            | false =>
              rw [g6] at u1
              iterate 7 ((try simp only [e0, e1, e3, u1]); walk_at "ev")
            | true =>
              rw [g6, Bool.true_and] at g5
              rw [g6] at u1
              have i1 := i1 g6
              rw [g5] at i1
              iterate 7 ((try simp only [e0, e1, e3, u1, i1]); walk_at "ev"))]
          rw [seq_ok (δ1 := [.val d, .val z, .val l18, .val COM, .non, .non, .non]) (by (iterate 3 (walk_at "ev")); rfl)]
          rw [if_neg Bool.false_ne_true]
          generalize hcom : COM = com at u2
          cases g7 : isCom r.1 && prec b a with
          | true =>
            have g8 := and_t2 g7
            have i2 := i2 g8.1
            rw [g8.1] at u2
            rw [g8.2] at i2
            have c0 : dTup [.str r.1, b, a] = some (.tuple [.str r.1, b, a]) := rfl
            rw [seq_rt (δ1 := [.val d, .val z, .val l18, .val com, .non, .non, .non]) (d := .tuple [.str r.1, b, a]) (by iterate 9 ((try simp only [e0, e1, e3, u2, i2, truthD, c0]); walk_at "ev"))]
            rw [if_pos rfl]
            rfl
          | false =>
            rw [seq_ok (δ1 := [.val d, .val z, .val l18, .val com, .non, .non, .non]) (by
              cases g8 : isCom r.1 with
              | false =>
                rw [g8] at u2
                iterate 7 ((try simp only [e0, e1, e3, u2]); walk_at "ev")
              | true =>
                rw [g8, Bool.true_and] at g7
                rw [g8] at u2
                have i2 := i2 g8
                rw [g7] at i2
                iterate 9 ((try simp only [e0, e1, e3, u2, i2, truthD]); walk_at "ev"))]
            rw [if_neg Bool.false_ne_true, q_nts r hr, nt_both]
            rw [seq_ok (δ1 := [.val d, .val z, .val l18, .val com, .val (.list LFT), .non, .non]) (by (iterate 3 (walk_at "ev")); rfl)]
            obtain ⟨o1, lp1⟩ := lp_L1 (c1 := .val z) (c2 := .val l18) (c3 := .val com) (c4 := .val (.list LFT)) (c6 := .non) e0 e1 e3 sf wa LFT wl none
            have m1 : mForS (mItems (mVar 4)) (setV 5) b__law_one_rule_L1 [.val d, .val z, .val l18, .val com, .val (.list LFT), .non, .non] = .ok (if isC a (valsOf r.1 LFT) then Fl.rt b else Fl.nx) [.val d, .val z, .val l18, .val com, .val (.list LFT), cO o1, .non] := lp1
            cases g9 : isC a (valsOf r.1 LFT) with
            | true =>
              rw [g9] at m1
              rw [seq_rt (d := b) m1]
              rw [if_pos rfl]
              rfl
            | false =>
              rw [g9] at m1
              rw [seq_ok m1]
              rw [if_neg Bool.false_ne_true]
              rw [seq_ok (δ1 := [.val d, .val z, .val l18, .val com, .val (.list LFT), cO o1, .val (.list RGT)]) (by cases o1 <;> rfl)]
              obtain ⟨o2, lp2⟩ := lp_L2 (c1 := .val z) (c2 := .val l18) (c3 := .val com) (c4 := .val (.list LFT)) (c6 := .val (.list RGT)) e0 e1 e3 sf wb RGT wr o1
              have m2 : mForS (mItems (mVar 6)) (setV 5) b__law_one_rule_L2 [.val d, .val z, .val l18, .val com, .val (.list LFT), cO o1, .val (.list RGT)] = .ok (if isC b (valsOf r.1 RGT) then Fl.rt a else Fl.nx) [.val d, .val z, .val l18, .val com, .val (.list LFT), cO o2, .val (.list RGT)] := lp2
              cases g10 : isC b (valsOf r.1 RGT) with
              | true =>
                rw [g10] at m2
                rw [seq_rt (d := a) m2]
                rw [if_pos rfl]
                rfl
              | false =>
                rw [g10] at m2
                rw [seq_ok m2]
                rw [if_neg Bool.false_ne_true]
                rfl
      · have e4 := decide_eq_false g3
        rw [h3 g1 g2 g3]
        rw [seq_rt (δ1 := [.val d, .val z, .val l18, .non, .non, .non, .non]) (d := d) (by iterate 6 ((try simp only [e2, e4]); walk_at "ev"))]
        rfl
end K19.PG
end Part_YQ

section Part_YR
set_option Elab.async false
set_option linter.all false
set_option maxRecDepth 100000
set_option autoImplicit false
set_option maxHeartbeats 2000000
namespace K19.PG
open K19 PySem PySem.Spec PyProof.Rows L2 DL SX
local macro_rules | `(tactic| walk_at "ev") => `(tactic| try simp -implicitDefEqProofs only [mDef, mSeq, mIf, mT, mTr, mOp, mUn, mVar, mC, mCall, mCons, mNil, mRet, mSkip, mAsg, mSl, mPart, mNoPart, mAndT, mOrT, mNotT, mAnd, mOr, mNot, mIfE, mChain, mIs, mIs2, mOf, mNew, mCallF, mM1, mM0, mIxM, mLenM, mApp, mSetM, mSetIx, mAug, mFrz, mForS, mRng1, mRng2, mItems, setV_zn, setV_zv, setV_zo, setV_succ, setM, frz, setT2, mBk, mCt, mNo, 
  DL.bind_ok, DL.bind_no, DL.bind_ite, lift_some, lift_none, List.map_cons, List.map_nil, List.length_cons, List.length_nil, List.replicate_succ, List.replicate_zero, List.cons_append, List.nil_append, List.append_nil, List.getElem?_cons_zero, List.getElem?_cons_succ, List.set_cons_zero, List.set_cons_succ, Nat.reduceAdd, Nat.reduceSub, Nat.zero_add, Nat.sub_self, decide_eq_true_eq,
  add_ii, sub_ii, neg_i, mul_r, mul_l, div_s, mod_s, eq_ii, ne_ii, eq_bb, ne_bb, lt_ii, gt_ii, le_ii, ge_ii, len_l, len_t, int_i, int_b, abs_i, max_ii, min_ii, tuple_l, ix_l, ix_t, tr_b, Nat.reduceLeDiff, if_true, if_false, Option.map_some, Option.bind_some, reduceIte, Int.reduceLT, Int.reduceNeg, Int.reduceMul, Nat.reduceLT, Nat.le_refl, LINE, Bool.false_eq_true, Bool.not_true, Bool.not_false, Bool.true_eq_false, R.bind_ex, Int.reduceEq, e_number_number, e_number_truth, e_number_text, e_number_list, e_truth_number, e_truth_truth, e_truth_text, e_truth_list, e_text_number, e_text_truth, e_text_text, e_text_list, e_list_number, e_list_truth, e_list_text, e_list_list, is_bool_n, is_bool_t, is_bool_s, is_bool_l, is_int_n, is_int_t, is_int_s, is_int_l, is_str_n, is_str_t, is_str_s, is_str_l, is_tuple_n, is_tuple_t, is_tuple_s, is_tuple_l, at_z, at_o, sl_tail, tup_0, tup_1, tup_2, tup_3, rev_t, rev_l, len_l])
local macro_rules | `(tactic| walk_at "ev*") => `(tactic| try simp -implicitDefEqProofs only [mDef, mSeq, mIf, mT, mTr, mOp, mUn, mVar, mC, mCall, mCons, mNil, mRet, mSkip, mAsg, mSl, mPart, mNoPart, mAndT, mOrT, mNotT, mAnd, mOr, mNot, mIfE, mChain, mIs, mIs2, mOf, mNew, mCallF, mM1, mM0, mIxM, mLenM, mApp, mSetM, mSetIx, mAug, mFrz, mForS, mRng1, mRng2, mItems, setV_zn, setV_zv, setV_zo, setV_succ, setM, frz, setT2, mBk, mCt, mNo, 
  DL.bind_ok, DL.bind_no, DL.bind_ite, lift_some, lift_none, List.map_cons, List.map_nil, List.length_cons, List.length_nil, List.replicate_succ, List.replicate_zero, List.cons_append, List.nil_append, List.append_nil, List.getElem?_cons_zero, List.getElem?_cons_succ, List.set_cons_zero, List.set_cons_succ, Nat.reduceAdd, Nat.reduceSub, Nat.zero_add, Nat.sub_self, decide_eq_true_eq,
  add_ii, sub_ii, neg_i, mul_r, mul_l, div_s, mod_s, eq_ii, ne_ii, eq_bb, ne_bb, lt_ii, gt_ii, le_ii, ge_ii, len_l, len_t, int_i, int_b, abs_i, max_ii, min_ii, tuple_l, ix_l, ix_t, tr_b, Nat.reduceLeDiff, if_true, if_false, Option.map_some, Option.bind_some, reduceIte, Int.reduceLT, Int.reduceNeg, Int.reduceMul, Nat.reduceLT, Nat.le_refl, LINE, Bool.false_eq_true, Bool.not_true, Bool.not_false, Bool.true_eq_false, R.bind_ex, Int.reduceEq, e_number_number, e_number_truth, e_number_text, e_number_list, e_truth_number, e_truth_truth, e_truth_text, e_truth_list, e_text_number, e_text_truth, e_text_text, e_text_list, e_list_number, e_list_truth, e_list_text, e_list_list, is_bool_n, is_bool_t, is_bool_s, is_bool_l, is_int_n, is_int_t, is_int_s, is_int_l, is_str_n, is_str_t, is_str_s, is_str_l, is_tuple_n, is_tuple_t, is_tuple_s, is_tuple_l, at_z, at_o, sl_tail, tup_0, tup_1, tup_2, tup_3, rev_t, rev_l, len_l, *])


theorem one_rule_eq {ks : List Kd} {k : Kd} {d : D} (h : GP ks 33 k d) (hz : sz d ≤ 1000) : m__law_one_rule [d] = .ok ((stepD d).getD d) [] := by
  have h0 := h
  have g := gd_of h (Nat.le_refl 33)
  have h : GP1 ks (GP ks 32) k d := h
  cases h with
  | @inp i _ hi =>
    rw [stepD_leaf leaf_i]
    exact one_leaf (s := "input") rfl in_i
  | @con _ v hv =>
    rw [stepD_leaf leaf_c]
    exact one_leaf (s := "constant") rfl in_c
  | @app r as _ hr hk ha =>
    have hp := f_pos r hr
    rw [Bool.and_eq_true] at hp
    have hp1 := of_decide_eq_true hp.1
    have hp2 := of_decide_eq_true hp.2
    have hd : ∀ {kk : Kd} {s : Str} {x : D} {rest : List D}, GP ks 32 kk (.tuple (.str s :: x :: rest)) → s ∈ HEADS := fun h => by
      rcases arg_cases (n := 31) h with (rfl | rfl) | ⟨q, hq, rfl, _⟩
      · exact List.mem_cons_self
      · exact List.mem_cons_of_mem _ List.mem_cons_self
      · exact List.mem_cons_of_mem _ (List.mem_cons_of_mem _ (List.mem_map.mpr ⟨q, hq, rfl⟩))
    have e0 : dIx (.tuple (.str r.1 :: as)) (.int 0) = some (.str r.1) := by rw [ix_t]; exact at_z _ _
    generalize hkk : kdsOf r.2.1 = kk at ha hp1 hp2
    rcases args_123 ha hp1 hp2 with ⟨k1, a, rfl, rfl, ha1⟩ | ⟨k1, k2, a, b, rfl, rfl, ha1, hb1⟩ | ⟨k1, k2, k3, a, b, c, rfl, rfl, ha1, hb1, hc1⟩
    · obtain ⟨s, x, rest, rfl, hs⟩ := gp_head ha1
      have hs := hd ha1
      have e3 : stepD (.tuple [.str r.1, .tuple (.str s :: x :: rest)]) = stepU r.1 s x := stepD_un (f_leaf r hr)
      rw [e3]
      refine one_pre (x := x) (b := .none) hr hs e0 (a := .tuple (.str s :: x :: rest)) rfl (by rw [ix_t]; exact at_z _ _) (fun _ => by rw [ix_t]; exact at_o _ _ _) 2 rfl (fun h => absurd h (by decide)) _ ?_ ?_ ?_ ?_
      · intro h
        unfold stepU
        rw [h]
        rfl
      · intro h h'
        unfold stepU
        rw [h, h']
        rfl
      · intro h h' _
        unfold stepU
        rw [h, h']
        rfl
      · intro _ _ h
        exact absurd h (by decide)
    · obtain ⟨s, x, rest, rfl, hs⟩ := gp_head ha1
      have hs := hd ha1
      have q := q_un (r, s) (ps_mem hr hs)
      simp only [hkk] at q
      have q : (!isInv r.1 && !isEff r.1 s) = true := q
      have q := and_t2 q
      have q1 : isInv r.1 = false := by have := q.1; cases hh : isInv r.1 <;> rw [hh] at this <;> first | rfl | cases this
      have q2 : isEff r.1 s = false := by have := q.2; cases hh : isEff r.1 s <;> rw [hh] at this <;> first | rfl | cases this
      generalize ha0 : PyData.tuple (.str s :: x :: rest) = a at ha1
      rw [ha0] at e0 g h0 hz
      refine one_pre (x := x) (b := b) hr hs e0 (a := a) rfl (by rw [← ha0, ix_t]; exact at_z _ _) (fun _ => by rw [← ha0, ix_t]; exact at_o _ _ _) 3 rfl (fun _ => rfl) _ ?_ ?_ ?_ ?_
      · intro h
        rw [q1] at h
        cases h
      · intro _ h
        rw [q2] at h
        cases h
      · intro _ _ h
        exact absurd rfl h
      · intro _ _ _
        have ga := ha1.le (show 32 ≤ 33 by decide)
        have gb := hb1.le (show 32 ≤ 33 by decide)
        have ma : a ∈ argsD (.tuple [.str r.1, a, b]) := by rw [args_a hr]; exact List.mem_cons_self
        have mb : b ∈ argsD (.tuple [.str r.1, a, b]) := by rw [args_a hr]; exact List.mem_cons_of_mem _ List.mem_cons_self
        have sa := sz_arg g ma
        have sb := sz_arg g mb
        have z := q_rows r hr
        rw [hkk] at z
        have z : (LFT.all (rowOk r.1 k1) && RGT.all (rowOk r.1 k2)) = true := z
        have z := and_t2 z
        refine ⟨fun _ => eq_gp ga gb, fun hc => ?_, rfl, ⟨k1, ks, ga, z.1⟩, ⟨k2, ks, gb, z.2⟩⟩
        have z := w_com r hr
        rw [hc, hkk] at z
        have z := kB_ok (and_t2 (show (decide ([k1, k2].length = 2) && kB ([k1, k2].getD 0 .n) ([k1, k2].getD 1 .t)) = true from z)).2
        have z : k1 = k2 := z
        subst z
        exact law_precedes_eq gb ga (by omega) (by omega)
    · obtain ⟨s, x, rest, rfl, hs⟩ := gp_head ha1
      have hs := hd ha1
      have q := q_un (r, s) (ps_mem hr hs)
      simp only [hkk] at q
      have q : (!isInv r.1 && !isEff r.1 s) = true := q
      have q := and_t2 q
      have q1 : isInv r.1 = false := by have := q.1; cases hh : isInv r.1 <;> rw [hh] at this <;> first | rfl | cases this
      have q2 : isEff r.1 s = false := by have := q.2; cases hh : isEff r.1 s <;> rw [hh] at this <;> first | rfl | cases this
      refine one_pre (x := x) (b := .none) hr hs e0 (a := .tuple (.str s :: x :: rest)) rfl (by rw [ix_t]; exact at_z _ _) (fun _ => by rw [ix_t]; exact at_o _ _ _) 4 rfl (fun h => absurd h (by decide)) _ ?_ ?_ ?_ ?_
      · intro h
        rw [q1] at h
        cases h
      · intro _ h
        rw [q2] at h
        cases h
      · intro _ _ _
        rfl
      · intro _ _ h
        exact absurd h (by decide)
/-- the law's loop of seventy -/
theorem loop70 {ks : List Kd} {n : Nat} {k : Kd} (hn : n + 1 ≤ 33) {mf : List D → R D} {c0 : Cell} : ∀ (items : List D) (e : D) (o2 o3 : Option D), GP ks (n + 1) k e → sz e ≤ 60 → ∃ o2' o3', mFor (setV 2) (b__law_simplified_L1 mf) items [c0, .val e, cO o2, cO o3] = .ok .nx [c0, .val (normN items.length e), cO o2', cO o3']
  | [], e, o2, o3, _, _ => ⟨o2, o3, rfl⟩
  | i :: items, e, o2, o3, h, hz => by
    have g33 := h.le hn
    have r := one_rule_eq g33 (by omega)
    have e0 : setV 2 i [c0, .val e, cO o2, cO o3] = some [c0, .val e, .val i, cO o3] := by cases o2 <;> rfl
    rw [mFor]
    simp only [e0]
    cases hs : stepD e with
    | none =>
      rw [hs] at r
      have r : m__law_one_rule [e] = .ok e [] := r
      have l := lay_g (gd_of h hn)
      have e1 := eq_self l.1 (by omega)
      have e4 : b__law_simplified_L1 mf [c0, .val e, .val i, cO o3] = .ok .bk [c0, .val e, .val i, .val e] := by
        unfold b__law_simplified_L1
        cases o3 <;> (iterate 6 ((try simp only [r, e1, cO]); walk_at "ev")) <;> try rfl
      simp only [e4, DL.bind_ok]
      exact ⟨some i, some e, by rw [norm_none hs]; rfl⟩
    | some e' =>
      obtain ⟨h', rel⟩ := step_ok h hn hs
      have m := rel_mu h h' hn rel
      rw [hs] at r
      have r : m__law_one_rule [e] = .ok e' [] := r
      have e1 := eq_gp (h'.le hn) g33
      have q : PyData.eqv e' e = false := by
        cases z : PyData.eqv e' e with
        | false => rfl
        | true =>
          have := eqv_gp h' h z
          rw [this] at m
          omega
      rw [q] at e1
      have e4 : b__law_simplified_L1 mf [c0, .val e, .val i, cO o3] = .ok .nx [c0, .val e', .val i, .val e'] := by
        unfold b__law_simplified_L1
        cases o3 <;> (iterate 6 ((try simp only [r, e1, cO]); walk_at "ev")) <;> try rfl
      simp only [e4, DL.bind_ok]
      obtain ⟨o2', o3', ih⟩ := loop70 hn (mf := mf) (c0 := c0) items e' (some i) (some e') h' (by omega)
      exact ⟨o2', o3', by rw [List.length_cons, norm_some hs]; exact ih⟩
def fiX (g : D → D) (as : List D) : D → D
  | .int j => g (as.getD (j.toNat - 1) .none)
  | _ => .none
theorem fi_map (g : D → D) (as : List D) : (rng 1 ((as.length + 1 : Nat) : Int)).map (fiX g as) = as.map g := by
  unfold rng
  rw [List.map_map, show (((as.length + 1 : Nat) : Int) - 1).toNat = as.length by omega]
  apply List.ext_getElem
  · simp
  · intro i h1 h2
    have h3 : i < as.length := by simpa using h2
    simp only [List.getElem_map, List.getElem_range, Function.comp, fiX]
    rw [show ((1 : Int) + ((i : Nat) : Int)).toNat - 1 = i by omega]
    rw [List.getD_eq_getElem?_getD, List.getElem?_eq_getElem h3]
    rfl
theorem simplified_eq {ks : List Kd} : ∀ {n : Nat} {k : Kd} {d : D}, GP ks n k d → n ≤ 33 → sz d ≤ 60 → ∀ {m : Nat}, n ≤ m → m__law_simplified_n m [d] = .ok (simpF n d) [] := by
  intro n
  induction n with
  | zero => intro k d h; exact h.elim
  | succ n ih =>
    intro k d h hn hz m hm
    obtain ⟨m, rfl⟩ : ∃ m', m = m' + 1 := ⟨m - 1, by omega⟩
    have hm : n ≤ m := by omega
    have g := gd_of h hn
    show mDef 4 (b__law_simplified (m__law_simplified_n m)) [d] = _
    have leaf : ∀ {s : Str}, dIx d (.int 0) = some (.str s) → dIn (.str s) (.list [.str "input", .str "constant"]) = some (.bool true) → simpF (n + 1) d = d → mDef 4 (b__law_simplified (m__law_simplified_n m)) [d] = .ok (simpF (n + 1) d) [] := fun {s} e0 e1 h2 => by
      rw [h2]
      unfold b__law_simplified
      show R.bind ((mSeq _ _) [.val d, .non, .non, .non]) _ = _
      rw [seq_rt (δ1 := [.val d, .non, .non, .non]) (d := d) (by iterate 4 ((try simp only [e0, e1]); walk_at "ev"))]
      rfl
    have h' : GP1 ks (GP ks n) k d := h
    cases h' with
    | inp hi => exact leaf rfl in_i (simp_leaf leaf_i)
    | con hv => exact leaf rfl in_c (simp_leaf leaf_c)
    | @app r as _ hr hk ha =>
      have hlen := ha.len
      have hp := f_pos r hr
      rw [Bool.and_eq_true] at hp
      have hp := of_decide_eq_true hp.2
      rw [simp_app (f_leaf r hr)]
      have hA : GP ks (n + 1) k (.tuple (.str r.1 :: as.map (simpF n))) := .app hr hk (All2.map (q := GP ks n) (f := simpF n) (fun k' x hx => (simplify_eq hx (by omega) (Nat.le_refl n)).2.1) ha)
      have gA := gd_of hA hn
      have stA : ∀ a ∈ argsD (.tuple (.str r.1 :: as.map (simpF n))), St a := fun a h2 => by
        rw [args_a hr] at h2
        obtain ⟨x, hx, rfl⟩ := List.mem_map.mp h2
        obtain ⟨k', hk'⟩ := ha.mem hx
        exact (simplify_eq hk' (by omega) (Nat.le_refl n)).2.2.2
      have szA : sz (.tuple (.str r.1 :: as.map (simpF n))) ≤ sz (.tuple (.str r.1 :: as)) := by
        rw [sz_app hr gA, sz_app hr g]
        have := flat_le (f := simpF n) (g := simpF n) (l := as) fun x hx => by
          obtain ⟨k', hk'⟩ := ha.mem hx
          exact (simplify_eq hk' (by omega) (Nat.le_refl n)).2.2.1
        omega
      have szx : ∀ x ∈ as, sz x ≤ 60 := fun x hx => by
        have := sz_arg g (show x ∈ argsD (.tuple (.str r.1 :: as)) by rw [args_a hr]; exact hx)
        omega
      have hL : dLen [.tuple (.str r.1 :: as)] = some (.int ((as.length + 1 : Nat) : Int)) := by
        show some (PyData.int (((PyData.str r.1 :: as).length : Nat) : Int)) = _
        rw [List.length_cons]
      have lp := lcS_map (j := 2) (it := mRng2 (mC (.int 1)) (mCall dLen (mCons (mVar 0) mNil))) (e := b__law_simplified_E1 (m__law_simplified_n m)) (δ := [.val (.tuple (.str r.1 :: as)), .non, .non, .non]) (δ' := [.val (.tuple (.str r.1 :: as)), .non, .non, .non]) (items := rng 1 ((as.length + 1 : Nat) : Int)) (fiX (simpF n) as) (by
        have b1 : big 1 = true := big_of (by omega) (by omega)
        have b2 : big ((as.length + 1 : Nat) : Int) = true := big_of (by omega) (by omega)
        generalize PyData.tuple (.str r.1 :: as) = d0 at hL ⊢
        generalize ((as.length + 1 : Nat) : Int) = L at hL b2 ⊢
        iterate 4 ((try simp only [hL, b1, b2]); walk_at "ev")
        try rfl) (by simp) rfl (by unfold rng; simp; omega) (fun x hx => by
        unfold rng at hx
        obtain ⟨i, hi, rfl⟩ := List.mem_map.mp hx
        have hi := List.mem_range.mp hi
        have hi : i < as.length := by omega
        have e1 : dIx (.tuple (.str r.1 :: as)) (.int (1 + (i : Int))) = some as[i] := by
          rw [ix_t, show (1 : Int) + ((i : Nat) : Int) = ((i + 1 : Nat) : Int) by omega, at_nat, List.getElem?_cons_succ, List.getElem?_eq_getElem hi]
        obtain ⟨k', hk'⟩ := ha.mem (List.getElem_mem hi)
        have e2 := ih hk' (by omega) (szx _ (List.getElem_mem hi)) hm
        have e3 : fiX (simpF n) as (.int (1 + (i : Int))) = simpF n as[i] := by
          show simpF n (as.getD ((1 + (i : Int)).toNat - 1) .none) = _
          rw [show ((1 : Int) + ((i : Nat) : Int)).toNat - 1 = i by omega, List.getD_eq_getElem?_getD, List.getElem?_eq_getElem hi]
          rfl
        rw [e3]
        unfold b__law_simplified_E1
        generalize PyData.tuple (.str r.1 :: as) = d0 at e1 ⊢
        generalize PyData.int (1 + (i : Int)) = ii at e1 ⊢
        generalize simpF n as[i] = w at e2 ⊢
        generalize as[i] = y at e1 e2
        iterate 4 ((try simp only [e1, e2]); walk_at "ev"))
      rw [fi_map] at lp
      have e2 : dIx (.tuple (.str r.1 :: as)) (.int 0) = some (.str r.1) := by rw [ix_t]; exact at_z _ _
      have e1 := q_ic r hr
      have hl2 : [PyData.str r.1].length + (as.map (simpF n)).length ≤ LINE := by rw [List.length_map]; show 1 + _ ≤ 16777216; omega
      have hcat : dAdd (.tuple [.str r.1]) (.tuple (as.map (simpF n))) = some (.tuple (.str r.1 :: as.map (simpF n))) := by
        show (if [PyData.str r.1].length + (as.map (simpF n)).length ≤ LINE then some (PyData.tuple ([.str r.1] ++ as.map (simpF n))) else none) = _
        rw [if_pos hl2]
        rfl
      generalize hB : PyData.tuple (.str r.1 :: as.map (simpF n)) = B at hA gA stA szA hcat ⊢
      obtain ⟨o2, o3, w1⟩ := loop70 hn (mf := m__law_simplified_n m) (c0 := .val (.tuple (.str r.1 :: as))) (rng 0 70) B none none hA (by omega)
      have hl : (rng 0 70).length = 70 := rfl
      rw [hl] at w1
      have hs := norm_same hn (N := 70) (M := mu B) hA stA (by omega) (by
        have := sz_pos gA
        unfold mu
        omega)
      rw [hs] at w1
      unfold b__law_simplified
      show R.bind ((mSeq _ _) [.val (.tuple (.str r.1 :: as)), .non, .non, .non]) _ = _
      generalize PyData.tuple (.str r.1 :: as) = d0 at e2 w1 lp ⊢
      generalize as.map (simpF n) = zs at lp hcat ⊢
      rw [seq_ok (δ1 := [.val d0, .non, .non, .non]) (by iterate 5 ((try simp only [e1, e2]); walk_at "ev"))]
      rw [seq_ok (δ1 := [.val d0, .val B, .non, .non]) (by
        generalize mLcS [2] (mRng2 (mC (.int 1)) (mCall dLen (mCons (mVar 0) mNil))) (setV 2) mYes (b__law_simplified_E1 (m__law_simplified_n m)) = lc at lp ⊢
        have e9 : mOf lc [.val d0, .non, .non, .non] = .ok (.list zs) [.val d0, .non, .non, .non] := by
          unfold mOf
          rw [lp]
          rfl
        have c0 : dTup [.str r.1] = some (.tuple [.str r.1]) := rfl
        have c1 : dTuple [.list zs] = some (.tuple zs) := rfl
        generalize mOf lc = lc2 at e9 ⊢
        iterate 6 ((try simp only [e2, e9, c0, c1, hcat]); walk_at "ev"))]
      have w2 : mForS (mRng1 (mC (.int 70))) (setV 2) (b__law_simplified_L1 (m__law_simplified_n m)) [.val d0, .val B, .non, .non] = .ok .nx [.val d0, .val (normN (mu B) B), cO o2, cO o3] := w1
      rw [seq_ok w2]
      rfl
end K19.PG
end Part_YR

section Part_YL
set_option Elab.async false
set_option linter.all false
set_option maxRecDepth 100000
set_option autoImplicit false
set_option maxHeartbeats 2000000
namespace K19.PG
open K19 PySem PySem.Spec PyProof.Rows L2 DL SX
local macro_rules | `(tactic| walk_at "ev") => `(tactic| try simp -implicitDefEqProofs only [mDef, mSeq, mIf, mT, mTr, mOp, mUn, mVar, mC, mCall, mCons, mNil, mRet, mSkip, mAsg, mSl, mPart, mNoPart, mAndT, mOrT, mNotT, mAnd, mOr, mNot, mIfE, mChain, mIs, mIs2, mOf, mNew, mCallF, mM1, mM0, mIxM, mLenM, mApp, mSetM, mSetIx, mAug, mFrz, mForS, mRng1, mRng2, mItems, setV_zn, setV_zv, setV_zo, setV_succ, setM, frz, setT2, mBk, mCt, mNo, 
  DL.bind_ok, DL.bind_no, DL.bind_ite, lift_some, lift_none, List.map_cons, List.map_nil, List.length_cons, List.length_nil, List.replicate_succ, List.replicate_zero, List.cons_append, List.nil_append, List.append_nil, List.getElem?_cons_zero, List.getElem?_cons_succ, List.set_cons_zero, List.set_cons_succ, Nat.reduceAdd, Nat.reduceSub, Nat.zero_add, Nat.sub_self, decide_eq_true_eq,
  add_ii, sub_ii, neg_i, mul_r, mul_l, div_s, mod_s, eq_ii, ne_ii, eq_bb, ne_bb, lt_ii, gt_ii, le_ii, ge_ii, len_l, len_t, int_i, int_b, abs_i, max_ii, min_ii, tuple_l, ix_l, ix_t, tr_b, Nat.reduceLeDiff, if_true, if_false, Option.map_some, Option.bind_some, reduceIte, Int.reduceLT, Int.reduceNeg, Int.reduceMul, Nat.reduceLT, Nat.le_refl, LINE, Bool.false_eq_true, Bool.not_true, Bool.not_false, Bool.true_eq_false, R.bind_ex, Int.reduceEq, e_number_number, e_number_truth, e_number_text, e_number_list, e_truth_number, e_truth_truth, e_truth_text, e_truth_list, e_text_number, e_text_truth, e_text_text, e_text_list, e_list_number, e_list_truth, e_list_text, e_list_list, is_bool_n, is_bool_t, is_bool_s, is_bool_l, is_int_n, is_int_t, is_int_s, is_int_l, is_str_n, is_str_t, is_str_s, is_str_l, is_tuple_n, is_tuple_t, is_tuple_s, is_tuple_l, at_z, at_o, sl_tail, tup_0, tup_1, tup_2, tup_3, rev_t, rev_l, len_l])
local macro_rules | `(tactic| walk_at "ev*") => `(tactic| try simp -implicitDefEqProofs only [mDef, mSeq, mIf, mT, mTr, mOp, mUn, mVar, mC, mCall, mCons, mNil, mRet, mSkip, mAsg, mSl, mPart, mNoPart, mAndT, mOrT, mNotT, mAnd, mOr, mNot, mIfE, mChain, mIs, mIs2, mOf, mNew, mCallF, mM1, mM0, mIxM, mLenM, mApp, mSetM, mSetIx, mAug, mFrz, mForS, mRng1, mRng2, mItems, setV_zn, setV_zv, setV_zo, setV_succ, setM, frz, setT2, mBk, mCt, mNo, 
  DL.bind_ok, DL.bind_no, DL.bind_ite, lift_some, lift_none, List.map_cons, List.map_nil, List.length_cons, List.length_nil, List.replicate_succ, List.replicate_zero, List.cons_append, List.nil_append, List.append_nil, List.getElem?_cons_zero, List.getElem?_cons_succ, List.set_cons_zero, List.set_cons_succ, Nat.reduceAdd, Nat.reduceSub, Nat.zero_add, Nat.sub_self, decide_eq_true_eq,
  add_ii, sub_ii, neg_i, mul_r, mul_l, div_s, mod_s, eq_ii, ne_ii, eq_bb, ne_bb, lt_ii, gt_ii, le_ii, ge_ii, len_l, len_t, int_i, int_b, abs_i, max_ii, min_ii, tuple_l, ix_l, ix_t, tr_b, Nat.reduceLeDiff, if_true, if_false, Option.map_some, Option.bind_some, reduceIte, Int.reduceLT, Int.reduceNeg, Int.reduceMul, Nat.reduceLT, Nat.le_refl, LINE, Bool.false_eq_true, Bool.not_true, Bool.not_false, Bool.true_eq_false, R.bind_ex, Int.reduceEq, e_number_number, e_number_truth, e_number_text, e_number_list, e_truth_number, e_truth_truth, e_truth_text, e_truth_list, e_text_number, e_text_truth, e_text_text, e_text_list, e_list_number, e_list_truth, e_list_text, e_list_list, is_bool_n, is_bool_t, is_bool_s, is_bool_l, is_int_n, is_int_t, is_int_s, is_int_l, is_str_n, is_str_t, is_str_s, is_str_l, is_tuple_n, is_tuple_t, is_tuple_s, is_tuple_l, at_z, at_o, sl_tail, tup_0, tup_1, tup_2, tup_3, rev_t, rev_l, len_l, *])


/-! ### wrapping a program -/
def kdsB : List Kd → List Kd → Bool
  | [], [] => true
  | a :: as, b :: bs => kB a b && kdsB as bs
  | _, _ => false
theorem kdsB_ok : ∀ {as bs : List Kd}, kdsB as bs = true → as = bs
  | [], [], _ => rfl
  | a :: as, b :: bs, h => by
    have h := and_t2 (show (kB a b && kdsB as bs) = true from h)
    rw [kB_ok h.1, kdsB_ok h.2]
def fnd (f : Str) (kk : List Kd) (k : Kd) : Bool := LIB.any fun r => (r.1 == f) && (kdsB (kdsOf r.2.1) kk && (r.2.2 == letter k))
theorem fnd_ok {f : Str} {kk : List Kd} {k : Kd} (h : fnd f kk k = true) : ∃ r ∈ LIB, r.1 = f ∧ kdsOf r.2.1 = kk ∧ r.2.2 = letter k := by
  obtain ⟨r, hr, e⟩ := List.any_eq_true.mp h
  have e1 := and_t2 e
  have e2 := and_t2 e1.2
  exact ⟨r, hr, beq_iff_eq.mp e1.1, kdsB_ok e2.1, beq_iff_eq.mp e2.2⟩
def UNL : D := .list [.str "neg", .str "abs", .str "negate", .str "negate", .str "reverse_text", .str "reverse_text", .str "reverse", .str "sort", .str "distinct", .str "keep_even"]
def OpOk (row : D) (kk : List Kd) (k : Kd) (A : Int) : Prop := ∃ r ∈ LIB, dIx row (.int A) = some (.str r.1) ∧ kdsOf r.2.1 = kk ∧ r.2.2 = letter k
theorem op_ok {row : D} {kk : List Kd} {k : Kd} {A : Int} (f : Str) (h : fnd f kk k = true) (e : dIx row (.int A) = some (.str f)) : OpOk row kk k A := by
  obtain ⟨r, hr, e1, h1, h2⟩ := fnd_ok h
  exact ⟨r, hr, by rw [e1]; exact e, h1, h2⟩
theorem un_n {A : Int} (h0 : 0 ≤ A) (h1 : A ≤ 1) : OpOk UNL [.n] .n A := by
  obtain rfl | rfl : A = 0 ∨ A = 1 := by omega
  · exact op_ok "neg" (by kernel_rfl) (by kernel_rfl)
  · exact op_ok "abs" (by kernel_rfl) (by kernel_rfl)
def ROWn : D := .list [.str "add", .str "mul", .str "max", .str "min", .str "sub", .str "divide"]
theorem bi_n {A : Int} (h0 : 0 ≤ A) (h1 : A < 6) : OpOk ROWn [.n, .n] .n A := by
  obtain rfl | rfl | rfl | rfl | rfl | rfl : A = 0 ∨ A = 1 ∨ A = 2 ∨ A = 3 ∨ A = 4 ∨ A = 5 := by omega
  · exact op_ok "add" (by kernel_rfl) (by kernel_rfl)
  · exact op_ok "mul" (by kernel_rfl) (by kernel_rfl)
  · exact op_ok "max" (by kernel_rfl) (by kernel_rfl)
  · exact op_ok "min" (by kernel_rfl) (by kernel_rfl)
  · exact op_ok "sub" (by kernel_rfl) (by kernel_rfl)
  · exact op_ok "divide" (by kernel_rfl) (by kernel_rfl)
theorem un_t {A : Int} (h0 : 2 ≤ A) (h1 : A ≤ 3) : OpOk UNL [.t] .t A := by
  obtain rfl | rfl : A = 2 ∨ A = 3 := by omega
  · exact op_ok "negate" (by kernel_rfl) (by kernel_rfl)
  · exact op_ok "negate" (by kernel_rfl) (by kernel_rfl)
def ROWt : D := .list [.str "both", .str "either"]
theorem bi_t {A : Int} (h0 : 0 ≤ A) (h1 : A < 2) : OpOk ROWt [.t, .t] .t A := by
  obtain rfl | rfl : A = 0 ∨ A = 1 := by omega
  · exact op_ok "both" (by kernel_rfl) (by kernel_rfl)
  · exact op_ok "either" (by kernel_rfl) (by kernel_rfl)
theorem un_s {A : Int} (h0 : 4 ≤ A) (h1 : A ≤ 5) : OpOk UNL [.s] .s A := by
  obtain rfl | rfl : A = 4 ∨ A = 5 := by omega
  · exact op_ok "reverse_text" (by kernel_rfl) (by kernel_rfl)
  · exact op_ok "reverse_text" (by kernel_rfl) (by kernel_rfl)
def ROWs : D := .list [.str "concat"]
theorem bi_s {A : Int} (h0 : 0 ≤ A) (h1 : A < 1) : OpOk ROWs [.s, .s] .s A := by
  obtain rfl : A = 0 := by omega
  · exact op_ok "concat" (by kernel_rfl) (by kernel_rfl)
theorem un_l {A : Int} (h0 : 6 ≤ A) (h1 : A ≤ 9) : OpOk UNL [.l] .l A := by
  obtain rfl | rfl | rfl | rfl : A = 6 ∨ A = 7 ∨ A = 8 ∨ A = 9 := by omega
  · exact op_ok "reverse" (by kernel_rfl) (by kernel_rfl)
  · exact op_ok "sort" (by kernel_rfl) (by kernel_rfl)
  · exact op_ok "distinct" (by kernel_rfl) (by kernel_rfl)
  · exact op_ok "keep_even" (by kernel_rfl) (by kernel_rfl)
def ROWl : D := .list [.str "join", .str "zip_add"]
theorem bi_l {A : Int} (h0 : 0 ≤ A) (h1 : A < 2) : OpOk ROWl [.l, .l] .l A := by
  obtain rfl | rfl : A = 0 ∨ A = 1 := by omega
  · exact op_ok "join" (by kernel_rfl) (by kernel_rfl)
  · exact op_ok "zip_add" (by kernel_rfl) (by kernel_rfl)
def NAMES : D := .list [ROWn, ROWt, ROWs, ROWl]
def NEUL (N : Int) : D := .list [.tuple [.str "constant", .int (N / 15 % 2)], .tuple [.str "constant", .bool (decide (N / 15 % 2 = 1))], .tuple [.str "constant", .str ""], .tuple [.str "constant", .tuple []]]

theorem wrapped_n {ks : List Kd} {n : Nat} {d : D} {N : Int} (hd : GP ks n .n d) (hN : 0 ≤ N) : ∃ e, m__law_wrapped [d, .str (letter .n), .int N] = .ok e [] ∧ GP ks (n + 1) .n e := by
  have ix : dIndexS (.str "ntsl") [.str (letter .n)] = some (.int 0) := by kernel_rfl
  have el : dEq (.str (letter .n)) (.str "l") = some (.bool false) := by kernel_rfl
  generalize PyData.str (letter .n) = lk at ix el ⊢
  have hv : Vk .n (.int (N / 15 % 2)) := .n ⟨by omega, by omega⟩
  have h1v : 1 ≤ n := by
    cases n with
    | zero => exact hd.elim
    | succ n => omega
  have hone : GP ks n .n (.tuple [.str "constant", .int (N / 15 % 2)]) := GP.le (n := 1) (.con hv) h1v
  unfold m__law_wrapped b__law_wrapped
  show ∃ e, R.bind ((mSeq _ _) [.val d, .val lk, .val (.int N), .non, .non, .non, .non, .non, .non, .non]) _ = _ ∧ _
  rw [seq_ok (δ1 := [.val d, .val lk, .val (.int N), .val UNL, .non, .non, .non, .non, .non, .non]) (by (iterate 3 (walk_at "ev")); rfl)]
  rw [seq_ok (δ1 := [.val d, .val lk, .val (.int N), .val UNL, .val (.int (0 + N % 2)), .non, .non, .non, .non, .non]) (by
    generalize UNL = un
    iterate 6 ((try simp only [ix]); walk_at "ev")
    try rfl)]
  rw [seq_ok (δ1 := [.val d, .val lk, .val (.int N), .val UNL, .val (.int (0 + N % 2)), .non, .non, .non, .non, .non]) (by
    generalize UNL = un
    iterate 6 ((try simp only [el]); walk_at "ev")
    try rfl)]
  have hA : OpOk UNL [.n] .n (0 + N % 2) := un_n (by omega) (by omega)
  generalize (0 : Int) + N % 2 = A at hA ⊢

  obtain ⟨r, hr, u1, u2, u3⟩ := hA
  generalize UNL = un at u1 ⊢
  by_cases h0 : N / 5 % 3 = 0
  · have z0 : decide (N / 5 % 3 = 0) = true := decide_eq_true h0
    rw [seq_rt (δ1 := [.val d, .val lk, .val (.int N), .val un, .val (.int A), .non, .non, .non, .non, .non]) (d := .tuple [.str r.1, d]) (by
      iterate 7 ((try simp only [z0, h0, u1, decide_true]); walk_at "ev")
      try rfl)]
    exact ⟨_, rfl, .app hr u3 (by rw [u2]; exact ⟨hd, trivial⟩)⟩
  · have z0 : decide (N / 5 % 3 = 0) = false := decide_eq_false h0
    rw [seq_ok (δ1 := [.val d, .val lk, .val (.int N), .val un, .val (.int A), .non, .non, .non, .non, .non]) (by
      iterate 7 ((try simp only [z0, h0, decide_false]); walk_at "ev")
      try rfl)]
    rw [seq_ok (δ1 := [.val d, .val lk, .val (.int N), .val un, .val (.int A), .val (NEUL N), .non, .non, .non, .non]) (by
      unfold NEUL
      iterate 8 (walk_at "ev")
      try rfl)]
    have n1 : dIx (NEUL N) (.int 0) = some (.tuple [.str "constant", .int (N / 15 % 2)]) := rfl
    generalize NEUL N = nl at n1 ⊢
    generalize hO : PyData.tuple [.str "constant", .int (N / 15 % 2)] = O at n1 hone
    rw [seq_ok (δ1 := [.val d, .val lk, .val (.int N), .val un, .val (.int A), .val nl, .val O, .non, .non, .non]) (by
      iterate 6 ((try simp only [ix, n1]); walk_at "ev")
      try rfl)]
    rw [seq_ok (δ1 := [.val d, .val lk, .val (.int N), .val un, .val (.int A), .val nl, .val O, .val NAMES, .non, .non]) (by (iterate 3 (walk_at "ev")); rfl)]
    have n2 : dIx NAMES (.int 0) = some ROWn := rfl
    generalize NAMES = nm at n2 ⊢
    rw [seq_ok (δ1 := [.val d, .val lk, .val (.int N), .val un, .val (.int A), .val nl, .val O, .val nm, .val ROWn, .non]) (by
      generalize ROWn = rw0 at n2
      iterate 6 ((try simp only [ix, n2]); walk_at "ev")
      try rfl)]
    have n3 : dLen [ROWn] = some (.int 6) := rfl
    obtain ⟨q, hq, v1, v2, v3⟩ := bi_n (A := N / 30 % 6) (by omega) (by omega)
    generalize ROWn = rw0 at n3 v1 ⊢
    rw [seq_ok (δ1 := [.val d, .val lk, .val (.int N), .val un, .val (.int A), .val nl, .val O, .val nm, .val rw0, .val (.str q.1)]) (by
      iterate 7 ((try simp only [n3, v1]); walk_at "ev")
      try rfl)]
    by_cases h1 : N / 5 % 3 = 1
    · have z1 : decide (N / 5 % 3 = 1) = true := decide_eq_true h1
      rw [seq_rt (δ1 := [.val d, .val lk, .val (.int N), .val un, .val (.int A), .val nl, .val O, .val nm, .val rw0, .val (.str q.1)]) (d := .tuple [.str q.1, d, O]) (by
        iterate 7 ((try simp only [z1, h1, decide_true]); walk_at "ev")
        try rfl)]
      exact ⟨_, rfl, .app hq v3 (by rw [v2]; exact ⟨hd, hone, trivial⟩)⟩
    · have z1 : decide (N / 5 % 3 = 1) = false := decide_eq_false h1
      rw [seq_ok (δ1 := [.val d, .val lk, .val (.int N), .val un, .val (.int A), .val nl, .val O, .val nm, .val rw0, .val (.str q.1)]) (by
        iterate 7 ((try simp only [z1, h1, decide_false]); walk_at "ev")
        try rfl)]
      obtain ⟨X, hX, gX⟩ : ∃ X : D, atI [O, d] (N / 200 % 2) = some X ∧ GP ks n .n X := by
        obtain e | e : N / 200 % 2 = 0 ∨ N / 200 % 2 = 1 := by omega
        · exact ⟨O, by rw [e]; rfl, hone⟩
        · exact ⟨d, by rw [e]; rfl, hd⟩
      refine ⟨.tuple [.str q.1, X, d], ?_, .app hq v3 (by rw [v2]; exact ⟨gX, hd, trivial⟩)⟩
      have fin : (mRet (mCall dTup (mCons (mVar 9) (mCons (mOp dIx (mOf (mNew (mCons (mVar 6) (mCons (mVar 0) mNil)))) (mOp dMod (mOp dDiv (mVar 2) (mC (.int 200))) (mC (.int 2)))) (mCons (mVar 0) mNil))))) [.val d, .val lk, .val (.int N), .val un, .val (.int A), .val nl, .val O, .val nm, .val rw0, .val (.str q.1)] = .ok (.rt (.tuple [.str q.1, X, d])) [.val d, .val lk, .val (.int N), .val un, .val (.int A), .val nl, .val O, .val nm, .val rw0, .val (.str q.1)] := by
        iterate 8 ((try simp only [hX]); walk_at "ev")
        try rfl
      rw [fin]
      rfl

theorem wrapped_t {ks : List Kd} {n : Nat} {d : D} {N : Int} (hd : GP ks n .t d) (hN : 0 ≤ N) : ∃ e, m__law_wrapped [d, .str (letter .t), .int N] = .ok e [] ∧ GP ks (n + 1) .t e := by
  have ix : dIndexS (.str "ntsl") [.str (letter .t)] = some (.int 1) := by kernel_rfl
  have el : dEq (.str (letter .t)) (.str "l") = some (.bool false) := by kernel_rfl
  generalize PyData.str (letter .t) = lk at ix el ⊢
  have hv : Vk .t (.bool (decide (N / 15 % 2 = 1))) := .t _
  have h1v : 1 ≤ n := by
    cases n with
    | zero => exact hd.elim
    | succ n => omega
  have hone : GP ks n .t (.tuple [.str "constant", .bool (decide (N / 15 % 2 = 1))]) := GP.le (n := 1) (.con hv) h1v
  unfold m__law_wrapped b__law_wrapped
  show ∃ e, R.bind ((mSeq _ _) [.val d, .val lk, .val (.int N), .non, .non, .non, .non, .non, .non, .non]) _ = _ ∧ _
  rw [seq_ok (δ1 := [.val d, .val lk, .val (.int N), .val UNL, .non, .non, .non, .non, .non, .non]) (by (iterate 3 (walk_at "ev")); rfl)]
  rw [seq_ok (δ1 := [.val d, .val lk, .val (.int N), .val UNL, .val (.int (2 + N % 2)), .non, .non, .non, .non, .non]) (by
    generalize UNL = un
    iterate 6 ((try simp only [ix]); walk_at "ev")
    try rfl)]
  rw [seq_ok (δ1 := [.val d, .val lk, .val (.int N), .val UNL, .val (.int (2 + N % 2)), .non, .non, .non, .non, .non]) (by
    generalize UNL = un
    iterate 6 ((try simp only [el]); walk_at "ev")
    try rfl)]
  have hA : OpOk UNL [.t] .t (2 + N % 2) := un_t (by omega) (by omega)
  generalize (2 : Int) + N % 2 = A at hA ⊢

  obtain ⟨r, hr, u1, u2, u3⟩ := hA
  generalize UNL = un at u1 ⊢
  by_cases h0 : N / 5 % 3 = 0
  · have z0 : decide (N / 5 % 3 = 0) = true := decide_eq_true h0
    rw [seq_rt (δ1 := [.val d, .val lk, .val (.int N), .val un, .val (.int A), .non, .non, .non, .non, .non]) (d := .tuple [.str r.1, d]) (by
      iterate 7 ((try simp only [z0, h0, u1, decide_true]); walk_at "ev")
      try rfl)]
    exact ⟨_, rfl, .app hr u3 (by rw [u2]; exact ⟨hd, trivial⟩)⟩
  · have z0 : decide (N / 5 % 3 = 0) = false := decide_eq_false h0
    rw [seq_ok (δ1 := [.val d, .val lk, .val (.int N), .val un, .val (.int A), .non, .non, .non, .non, .non]) (by
      iterate 7 ((try simp only [z0, h0, decide_false]); walk_at "ev")
      try rfl)]
    rw [seq_ok (δ1 := [.val d, .val lk, .val (.int N), .val un, .val (.int A), .val (NEUL N), .non, .non, .non, .non]) (by
      unfold NEUL
      iterate 8 (walk_at "ev")
      try rfl)]
    have n1 : dIx (NEUL N) (.int 1) = some (.tuple [.str "constant", .bool (decide (N / 15 % 2 = 1))]) := rfl
    generalize NEUL N = nl at n1 ⊢
    generalize hO : PyData.tuple [.str "constant", .bool (decide (N / 15 % 2 = 1))] = O at n1 hone
    rw [seq_ok (δ1 := [.val d, .val lk, .val (.int N), .val un, .val (.int A), .val nl, .val O, .non, .non, .non]) (by
      iterate 6 ((try simp only [ix, n1]); walk_at "ev")
      try rfl)]
    rw [seq_ok (δ1 := [.val d, .val lk, .val (.int N), .val un, .val (.int A), .val nl, .val O, .val NAMES, .non, .non]) (by (iterate 3 (walk_at "ev")); rfl)]
    have n2 : dIx NAMES (.int 1) = some ROWt := rfl
    generalize NAMES = nm at n2 ⊢
    rw [seq_ok (δ1 := [.val d, .val lk, .val (.int N), .val un, .val (.int A), .val nl, .val O, .val nm, .val ROWt, .non]) (by
      generalize ROWt = rw0 at n2
      iterate 6 ((try simp only [ix, n2]); walk_at "ev")
      try rfl)]
    have n3 : dLen [ROWt] = some (.int 2) := rfl
    obtain ⟨q, hq, v1, v2, v3⟩ := bi_t (A := N / 30 % 2) (by omega) (by omega)
    generalize ROWt = rw0 at n3 v1 ⊢
    rw [seq_ok (δ1 := [.val d, .val lk, .val (.int N), .val un, .val (.int A), .val nl, .val O, .val nm, .val rw0, .val (.str q.1)]) (by
      iterate 7 ((try simp only [n3, v1]); walk_at "ev")
      try rfl)]
    by_cases h1 : N / 5 % 3 = 1
    · have z1 : decide (N / 5 % 3 = 1) = true := decide_eq_true h1
      rw [seq_rt (δ1 := [.val d, .val lk, .val (.int N), .val un, .val (.int A), .val nl, .val O, .val nm, .val rw0, .val (.str q.1)]) (d := .tuple [.str q.1, d, O]) (by
        iterate 7 ((try simp only [z1, h1, decide_true]); walk_at "ev")
        try rfl)]
      exact ⟨_, rfl, .app hq v3 (by rw [v2]; exact ⟨hd, hone, trivial⟩)⟩
    · have z1 : decide (N / 5 % 3 = 1) = false := decide_eq_false h1
      rw [seq_ok (δ1 := [.val d, .val lk, .val (.int N), .val un, .val (.int A), .val nl, .val O, .val nm, .val rw0, .val (.str q.1)]) (by
        iterate 7 ((try simp only [z1, h1, decide_false]); walk_at "ev")
        try rfl)]
      obtain ⟨X, hX, gX⟩ : ∃ X : D, atI [O, d] (N / 200 % 2) = some X ∧ GP ks n .t X := by
        obtain e | e : N / 200 % 2 = 0 ∨ N / 200 % 2 = 1 := by omega
        · exact ⟨O, by rw [e]; rfl, hone⟩
        · exact ⟨d, by rw [e]; rfl, hd⟩
      refine ⟨.tuple [.str q.1, X, d], ?_, .app hq v3 (by rw [v2]; exact ⟨gX, hd, trivial⟩)⟩
      have fin : (mRet (mCall dTup (mCons (mVar 9) (mCons (mOp dIx (mOf (mNew (mCons (mVar 6) (mCons (mVar 0) mNil)))) (mOp dMod (mOp dDiv (mVar 2) (mC (.int 200))) (mC (.int 2)))) (mCons (mVar 0) mNil))))) [.val d, .val lk, .val (.int N), .val un, .val (.int A), .val nl, .val O, .val nm, .val rw0, .val (.str q.1)] = .ok (.rt (.tuple [.str q.1, X, d])) [.val d, .val lk, .val (.int N), .val un, .val (.int A), .val nl, .val O, .val nm, .val rw0, .val (.str q.1)] := by
        iterate 8 ((try simp only [hX]); walk_at "ev")
        try rfl
      rw [fin]
      rfl

theorem wrapped_s {ks : List Kd} {n : Nat} {d : D} {N : Int} (hd : GP ks n .s d) (hN : 0 ≤ N) : ∃ e, m__law_wrapped [d, .str (letter .s), .int N] = .ok e [] ∧ GP ks (n + 1) .s e := by
  have ix : dIndexS (.str "ntsl") [.str (letter .s)] = some (.int 2) := by kernel_rfl
  have el : dEq (.str (letter .s)) (.str "l") = some (.bool false) := by kernel_rfl
  generalize PyData.str (letter .s) = lk at ix el ⊢
  have hv : Vk .s (.str "") := vkB_ok rfl
  have h1v : 1 ≤ n := by
    cases n with
    | zero => exact hd.elim
    | succ n => omega
  have hone : GP ks n .s (.tuple [.str "constant", .str ""]) := GP.le (n := 1) (.con hv) h1v
  unfold m__law_wrapped b__law_wrapped
  show ∃ e, R.bind ((mSeq _ _) [.val d, .val lk, .val (.int N), .non, .non, .non, .non, .non, .non, .non]) _ = _ ∧ _
  rw [seq_ok (δ1 := [.val d, .val lk, .val (.int N), .val UNL, .non, .non, .non, .non, .non, .non]) (by (iterate 3 (walk_at "ev")); rfl)]
  rw [seq_ok (δ1 := [.val d, .val lk, .val (.int N), .val UNL, .val (.int (4 + N % 2)), .non, .non, .non, .non, .non]) (by
    generalize UNL = un
    iterate 6 ((try simp only [ix]); walk_at "ev")
    try rfl)]
  rw [seq_ok (δ1 := [.val d, .val lk, .val (.int N), .val UNL, .val (.int (4 + N % 2)), .non, .non, .non, .non, .non]) (by
    generalize UNL = un
    iterate 6 ((try simp only [el]); walk_at "ev")
    try rfl)]
  have hA : OpOk UNL [.s] .s (4 + N % 2) := un_s (by omega) (by omega)
  generalize (4 : Int) + N % 2 = A at hA ⊢

  obtain ⟨r, hr, u1, u2, u3⟩ := hA
  generalize UNL = un at u1 ⊢
  by_cases h0 : N / 5 % 3 = 0
  · have z0 : decide (N / 5 % 3 = 0) = true := decide_eq_true h0
    rw [seq_rt (δ1 := [.val d, .val lk, .val (.int N), .val un, .val (.int A), .non, .non, .non, .non, .non]) (d := .tuple [.str r.1, d]) (by
      iterate 7 ((try simp only [z0, h0, u1, decide_true]); walk_at "ev")
      try rfl)]
    exact ⟨_, rfl, .app hr u3 (by rw [u2]; exact ⟨hd, trivial⟩)⟩
  · have z0 : decide (N / 5 % 3 = 0) = false := decide_eq_false h0
    rw [seq_ok (δ1 := [.val d, .val lk, .val (.int N), .val un, .val (.int A), .non, .non, .non, .non, .non]) (by
      iterate 7 ((try simp only [z0, h0, decide_false]); walk_at "ev")
      try rfl)]
    rw [seq_ok (δ1 := [.val d, .val lk, .val (.int N), .val un, .val (.int A), .val (NEUL N), .non, .non, .non, .non]) (by
      unfold NEUL
      iterate 8 (walk_at "ev")
      try rfl)]
    have n1 : dIx (NEUL N) (.int 2) = some (.tuple [.str "constant", .str ""]) := rfl
    generalize NEUL N = nl at n1 ⊢
    generalize hO : PyData.tuple [.str "constant", .str ""] = O at n1 hone
    rw [seq_ok (δ1 := [.val d, .val lk, .val (.int N), .val un, .val (.int A), .val nl, .val O, .non, .non, .non]) (by
      iterate 6 ((try simp only [ix, n1]); walk_at "ev")
      try rfl)]
    rw [seq_ok (δ1 := [.val d, .val lk, .val (.int N), .val un, .val (.int A), .val nl, .val O, .val NAMES, .non, .non]) (by (iterate 3 (walk_at "ev")); rfl)]
    have n2 : dIx NAMES (.int 2) = some ROWs := rfl
    generalize NAMES = nm at n2 ⊢
    rw [seq_ok (δ1 := [.val d, .val lk, .val (.int N), .val un, .val (.int A), .val nl, .val O, .val nm, .val ROWs, .non]) (by
      generalize ROWs = rw0 at n2
      iterate 6 ((try simp only [ix, n2]); walk_at "ev")
      try rfl)]
    have n3 : dLen [ROWs] = some (.int 1) := rfl
    obtain ⟨q, hq, v1, v2, v3⟩ := bi_s (A := N / 30 % 1) (by omega) (by omega)
    generalize ROWs = rw0 at n3 v1 ⊢
    rw [seq_ok (δ1 := [.val d, .val lk, .val (.int N), .val un, .val (.int A), .val nl, .val O, .val nm, .val rw0, .val (.str q.1)]) (by
      iterate 7 ((try simp only [n3, v1]); walk_at "ev")
      try rfl)]
    by_cases h1 : N / 5 % 3 = 1
    · have z1 : decide (N / 5 % 3 = 1) = true := decide_eq_true h1
      rw [seq_rt (δ1 := [.val d, .val lk, .val (.int N), .val un, .val (.int A), .val nl, .val O, .val nm, .val rw0, .val (.str q.1)]) (d := .tuple [.str q.1, d, O]) (by
        iterate 7 ((try simp only [z1, h1, decide_true]); walk_at "ev")
        try rfl)]
      exact ⟨_, rfl, .app hq v3 (by rw [v2]; exact ⟨hd, hone, trivial⟩)⟩
    · have z1 : decide (N / 5 % 3 = 1) = false := decide_eq_false h1
      rw [seq_ok (δ1 := [.val d, .val lk, .val (.int N), .val un, .val (.int A), .val nl, .val O, .val nm, .val rw0, .val (.str q.1)]) (by
        iterate 7 ((try simp only [z1, h1, decide_false]); walk_at "ev")
        try rfl)]
      obtain ⟨X, hX, gX⟩ : ∃ X : D, atI [O, d] (N / 200 % 2) = some X ∧ GP ks n .s X := by
        obtain e | e : N / 200 % 2 = 0 ∨ N / 200 % 2 = 1 := by omega
        · exact ⟨O, by rw [e]; rfl, hone⟩
        · exact ⟨d, by rw [e]; rfl, hd⟩
      refine ⟨.tuple [.str q.1, X, d], ?_, .app hq v3 (by rw [v2]; exact ⟨gX, hd, trivial⟩)⟩
      have fin : (mRet (mCall dTup (mCons (mVar 9) (mCons (mOp dIx (mOf (mNew (mCons (mVar 6) (mCons (mVar 0) mNil)))) (mOp dMod (mOp dDiv (mVar 2) (mC (.int 200))) (mC (.int 2)))) (mCons (mVar 0) mNil))))) [.val d, .val lk, .val (.int N), .val un, .val (.int A), .val nl, .val O, .val nm, .val rw0, .val (.str q.1)] = .ok (.rt (.tuple [.str q.1, X, d])) [.val d, .val lk, .val (.int N), .val un, .val (.int A), .val nl, .val O, .val nm, .val rw0, .val (.str q.1)] := by
        iterate 8 ((try simp only [hX]); walk_at "ev")
        try rfl
      rw [fin]
      rfl

theorem wrapped_l {ks : List Kd} {n : Nat} {d : D} {N : Int} (hd : GP ks n .l d) (hN : 0 ≤ N) : ∃ e, m__law_wrapped [d, .str (letter .l), .int N] = .ok e [] ∧ GP ks (n + 1) .l e := by
  have ix : dIndexS (.str "ntsl") [.str (letter .l)] = some (.int 3) := by kernel_rfl
  have el : dEq (.str (letter .l)) (.str "l") = some (.bool true) := by kernel_rfl
  generalize PyData.str (letter .l) = lk at ix el ⊢
  have hv : Vk .l (.tuple []) := vkB_ok rfl
  have h1v : 1 ≤ n := by
    cases n with
    | zero => exact hd.elim
    | succ n => omega
  have hone : GP ks n .l (.tuple [.str "constant", .tuple []]) := GP.le (n := 1) (.con hv) h1v
  unfold m__law_wrapped b__law_wrapped
  show ∃ e, R.bind ((mSeq _ _) [.val d, .val lk, .val (.int N), .non, .non, .non, .non, .non, .non, .non]) _ = _ ∧ _
  rw [seq_ok (δ1 := [.val d, .val lk, .val (.int N), .val UNL, .non, .non, .non, .non, .non, .non]) (by (iterate 3 (walk_at "ev")); rfl)]
  rw [seq_ok (δ1 := [.val d, .val lk, .val (.int N), .val UNL, .val (.int (6 + N % 2)), .non, .non, .non, .non, .non]) (by
    generalize UNL = un
    iterate 6 ((try simp only [ix]); walk_at "ev")
    try rfl)]
  obtain ⟨A, hA, eA⟩ : ∃ A : Int, OpOk UNL [.l] .l A ∧ (mIf (mAndT (mT (mOp dEq (mVar 1) (mC (.str "l")))) (mT (mOp dGt (mOp dMod (mVar 2) (mC (.int 5))) (mC (.int 1))))) (mAsg (setV 4) (mOp dAdd (mC (.int 6)) (mOp dMod (mVar 2) (mC (.int 4))))) mSkip) [.val d, .val lk, .val (.int N), .val UNL, .val (.int (6 + N % 2)), .non, .non, .non, .non, .non] = .ok .nx [.val d, .val lk, .val (.int N), .val UNL, .val (.int A), .non, .non, .non, .non, .non] := by
    by_cases hq : 1 < N % 5
    · refine ⟨6 + N % 4, un_l (by omega) (by omega), ?_⟩
      have z1 : decide (1 < N % 5) = true := decide_eq_true hq
      have z2 : (1 < N % 5) = True := eq_true hq
      generalize UNL = un
      iterate 7 ((try simp only [el, z1, z2, decide_true]); walk_at "ev")
      try rfl
    · refine ⟨6 + N % 2, un_l (by omega) (by omega), ?_⟩
      have z1 : decide (1 < N % 5) = false := decide_eq_false hq
      have z2 : (1 < N % 5) = False := eq_false hq
      generalize UNL = un
      iterate 7 ((try simp only [el, z1, z2, decide_false]); walk_at "ev")
      try rfl
  rw [seq_ok eA]

  obtain ⟨r, hr, u1, u2, u3⟩ := hA
  generalize UNL = un at u1 ⊢
  by_cases h0 : N / 5 % 3 = 0
  · have z0 : decide (N / 5 % 3 = 0) = true := decide_eq_true h0
    rw [seq_rt (δ1 := [.val d, .val lk, .val (.int N), .val un, .val (.int A), .non, .non, .non, .non, .non]) (d := .tuple [.str r.1, d]) (by
      iterate 7 ((try simp only [z0, h0, u1, decide_true]); walk_at "ev")
      try rfl)]
    exact ⟨_, rfl, .app hr u3 (by rw [u2]; exact ⟨hd, trivial⟩)⟩
  · have z0 : decide (N / 5 % 3 = 0) = false := decide_eq_false h0
    rw [seq_ok (δ1 := [.val d, .val lk, .val (.int N), .val un, .val (.int A), .non, .non, .non, .non, .non]) (by
      iterate 7 ((try simp only [z0, h0, decide_false]); walk_at "ev")
      try rfl)]
    rw [seq_ok (δ1 := [.val d, .val lk, .val (.int N), .val un, .val (.int A), .val (NEUL N), .non, .non, .non, .non]) (by
      unfold NEUL
      iterate 8 (walk_at "ev")
      try rfl)]
    have n1 : dIx (NEUL N) (.int 3) = some (.tuple [.str "constant", .tuple []]) := rfl
    generalize NEUL N = nl at n1 ⊢
    generalize hO : PyData.tuple [.str "constant", .tuple []] = O at n1 hone
    rw [seq_ok (δ1 := [.val d, .val lk, .val (.int N), .val un, .val (.int A), .val nl, .val O, .non, .non, .non]) (by
      iterate 6 ((try simp only [ix, n1]); walk_at "ev")
      try rfl)]
    rw [seq_ok (δ1 := [.val d, .val lk, .val (.int N), .val un, .val (.int A), .val nl, .val O, .val NAMES, .non, .non]) (by (iterate 3 (walk_at "ev")); rfl)]
    have n2 : dIx NAMES (.int 3) = some ROWl := rfl
    generalize NAMES = nm at n2 ⊢
    rw [seq_ok (δ1 := [.val d, .val lk, .val (.int N), .val un, .val (.int A), .val nl, .val O, .val nm, .val ROWl, .non]) (by
      generalize ROWl = rw0 at n2
      iterate 6 ((try simp only [ix, n2]); walk_at "ev")
      try rfl)]
    have n3 : dLen [ROWl] = some (.int 2) := rfl
    obtain ⟨q, hq, v1, v2, v3⟩ := bi_l (A := N / 30 % 2) (by omega) (by omega)
    generalize ROWl = rw0 at n3 v1 ⊢
    rw [seq_ok (δ1 := [.val d, .val lk, .val (.int N), .val un, .val (.int A), .val nl, .val O, .val nm, .val rw0, .val (.str q.1)]) (by
      iterate 7 ((try simp only [n3, v1]); walk_at "ev")
      try rfl)]
    by_cases h1 : N / 5 % 3 = 1
    · have z1 : decide (N / 5 % 3 = 1) = true := decide_eq_true h1
      rw [seq_rt (δ1 := [.val d, .val lk, .val (.int N), .val un, .val (.int A), .val nl, .val O, .val nm, .val rw0, .val (.str q.1)]) (d := .tuple [.str q.1, d, O]) (by
        iterate 7 ((try simp only [z1, h1, decide_true]); walk_at "ev")
        try rfl)]
      exact ⟨_, rfl, .app hq v3 (by rw [v2]; exact ⟨hd, hone, trivial⟩)⟩
    · have z1 : decide (N / 5 % 3 = 1) = false := decide_eq_false h1
      rw [seq_ok (δ1 := [.val d, .val lk, .val (.int N), .val un, .val (.int A), .val nl, .val O, .val nm, .val rw0, .val (.str q.1)]) (by
        iterate 7 ((try simp only [z1, h1, decide_false]); walk_at "ev")
        try rfl)]
      obtain ⟨X, hX, gX⟩ : ∃ X : D, atI [O, d] (N / 200 % 2) = some X ∧ GP ks n .l X := by
        obtain e | e : N / 200 % 2 = 0 ∨ N / 200 % 2 = 1 := by omega
        · exact ⟨O, by rw [e]; rfl, hone⟩
        · exact ⟨d, by rw [e]; rfl, hd⟩
      refine ⟨.tuple [.str q.1, X, d], ?_, .app hq v3 (by rw [v2]; exact ⟨gX, hd, trivial⟩)⟩
      have fin : (mRet (mCall dTup (mCons (mVar 9) (mCons (mOp dIx (mOf (mNew (mCons (mVar 6) (mCons (mVar 0) mNil)))) (mOp dMod (mOp dDiv (mVar 2) (mC (.int 200))) (mC (.int 2)))) (mCons (mVar 0) mNil))))) [.val d, .val lk, .val (.int N), .val un, .val (.int A), .val nl, .val O, .val nm, .val rw0, .val (.str q.1)] = .ok (.rt (.tuple [.str q.1, X, d])) [.val d, .val lk, .val (.int N), .val un, .val (.int A), .val nl, .val O, .val nm, .val rw0, .val (.str q.1)] := by
        iterate 8 ((try simp only [hX]); walk_at "ev")
        try rfl
      rw [fin]
      rfl

theorem wrapped_eq {ks : List Kd} {n : Nat} {k : Kd} {d : D} {N : Int} (hd : GP ks n k d) (hN : 0 ≤ N) : ∃ e, m__law_wrapped [d, .str (letter k), .int N] = .ok e [] ∧ GP ks (n + 1) k e := by
  cases k with
  | n => exact wrapped_n hd hN
  | t => exact wrapped_t hd hN
  | s => exact wrapped_s hd hN
  | l => exact wrapped_l hd hN
end K19.PG
end Part_YL

section Part_YM
set_option Elab.async false
set_option linter.all false
set_option maxRecDepth 100000
set_option autoImplicit false
set_option maxHeartbeats 2000000
namespace K19.PG
open K19 PySem PySem.Spec PyProof.Rows L2 DL SX
local macro_rules | `(tactic| walk_at "ev") => `(tactic| try simp -implicitDefEqProofs only [mDef, mSeq, mIf, mT, mTr, mOp, mUn, mVar, mC, mCall, mCons, mNil, mRet, mSkip, mAsg, mSl, mPart, mNoPart, mAndT, mOrT, mNotT, mAnd, mOr, mNot, mIfE, mChain, mIs, mIs2, mOf, mNew, mCallF, mM1, mM0, mIxM, mLenM, mApp, mSetM, mSetIx, mAug, mFrz, mForS, mRng1, mRng2, mItems, setV_zn, setV_zv, setV_zo, setV_succ, setM, frz, setT2, mBk, mCt, mNo, 
  DL.bind_ok, DL.bind_no, DL.bind_ite, lift_some, lift_none, List.map_cons, List.map_nil, List.length_cons, List.length_nil, List.replicate_succ, List.replicate_zero, List.cons_append, List.nil_append, List.append_nil, List.getElem?_cons_zero, List.getElem?_cons_succ, List.set_cons_zero, List.set_cons_succ, Nat.reduceAdd, Nat.reduceSub, Nat.zero_add, Nat.sub_self, decide_eq_true_eq,
  add_ii, sub_ii, neg_i, mul_r, mul_l, div_s, mod_s, eq_ii, ne_ii, eq_bb, ne_bb, lt_ii, gt_ii, le_ii, ge_ii, len_l, len_t, int_i, int_b, abs_i, max_ii, min_ii, tuple_l, ix_l, ix_t, tr_b, Nat.reduceLeDiff, if_true, if_false, Option.map_some, Option.bind_some, reduceIte, Int.reduceLT, Int.reduceNeg, Int.reduceMul, Nat.reduceLT, Nat.le_refl, LINE, Bool.false_eq_true, Bool.not_true, Bool.not_false, Bool.true_eq_false, R.bind_ex, Int.reduceEq, e_number_number, e_number_truth, e_number_text, e_number_list, e_truth_number, e_truth_truth, e_truth_text, e_truth_list, e_text_number, e_text_truth, e_text_text, e_text_list, e_list_number, e_list_truth, e_list_text, e_list_list, is_bool_n, is_bool_t, is_bool_s, is_bool_l, is_int_n, is_int_t, is_int_s, is_int_l, is_str_n, is_str_t, is_str_s, is_str_l, is_tuple_n, is_tuple_t, is_tuple_s, is_tuple_l, at_z, at_o, sl_tail, tup_0, tup_1, tup_2, tup_3, rev_t, rev_l, len_l])
local macro_rules | `(tactic| walk_at "ev*") => `(tactic| try simp -implicitDefEqProofs only [mDef, mSeq, mIf, mT, mTr, mOp, mUn, mVar, mC, mCall, mCons, mNil, mRet, mSkip, mAsg, mSl, mPart, mNoPart, mAndT, mOrT, mNotT, mAnd, mOr, mNot, mIfE, mChain, mIs, mIs2, mOf, mNew, mCallF, mM1, mM0, mIxM, mLenM, mApp, mSetM, mSetIx, mAug, mFrz, mForS, mRng1, mRng2, mItems, setV_zn, setV_zv, setV_zo, setV_succ, setM, frz, setT2, mBk, mCt, mNo, 
  DL.bind_ok, DL.bind_no, DL.bind_ite, lift_some, lift_none, List.map_cons, List.map_nil, List.length_cons, List.length_nil, List.replicate_succ, List.replicate_zero, List.cons_append, List.nil_append, List.append_nil, List.getElem?_cons_zero, List.getElem?_cons_succ, List.set_cons_zero, List.set_cons_succ, Nat.reduceAdd, Nat.reduceSub, Nat.zero_add, Nat.sub_self, decide_eq_true_eq,
  add_ii, sub_ii, neg_i, mul_r, mul_l, div_s, mod_s, eq_ii, ne_ii, eq_bb, ne_bb, lt_ii, gt_ii, le_ii, ge_ii, len_l, len_t, int_i, int_b, abs_i, max_ii, min_ii, tuple_l, ix_l, ix_t, tr_b, Nat.reduceLeDiff, if_true, if_false, Option.map_some, Option.bind_some, reduceIte, Int.reduceLT, Int.reduceNeg, Int.reduceMul, Nat.reduceLT, Nat.le_refl, LINE, Bool.false_eq_true, Bool.not_true, Bool.not_false, Bool.true_eq_false, R.bind_ex, Int.reduceEq, e_number_number, e_number_truth, e_number_text, e_number_list, e_truth_number, e_truth_truth, e_truth_text, e_truth_list, e_text_number, e_text_truth, e_text_text, e_text_list, e_list_number, e_list_truth, e_list_text, e_list_list, is_bool_n, is_bool_t, is_bool_s, is_bool_l, is_int_n, is_int_t, is_int_s, is_int_l, is_str_n, is_str_t, is_str_s, is_str_l, is_tuple_n, is_tuple_t, is_tuple_s, is_tuple_l, at_z, at_o, sl_tail, tup_0, tup_1, tup_2, tup_3, rev_t, rev_l, len_l, *])

theorem ntsl_S : ("ntsl" : Str) = S [110, 116, 115, 108] := by decide +kernel
theorem ntsl_at {i : Int} (h0 : 0 ≤ i) (h1 : i < 4) : ∃ k : Kd, dIx (.str "ntsl") (.int i) = some (.str (S [code k])) := by
  obtain ⟨n, rfl⟩ := Int.eq_ofNat_of_zero_le h0
  have hn : n < 4 := by omega
  rw [ntsl_S]
  rw [ix_S (by decide)]
  have q : ∀ n < 4, ∃ c, [110, 116, 115, 108][n]? = some c ∧ (c = 110 ∨ c = 116 ∨ c = 115 ∨ c = 108) := by decide
  obtain ⟨c, e, h⟩ := q n hn
  rw [e]
  rcases h with rfl | rfl | rfl | rfl
  · exact ⟨.n, rfl⟩
  · exact ⟨.t, rfl⟩
  · exact ⟨.s, rfl⟩
  · exact ⟨.l, rfl⟩
theorem letters_eq {sc : D} {f : Int} (hf : 0 ≤ f) : ∃ ks : List Kd, ks.length ≤ 4 ∧ (mM1 dJoin (mC (.str "")) (mOf (mLcS [8] (mRng1 (mOp dMod (mVar 1) (mC (.int 5)))) (setV 8) mYes b_law_E1))) [.val sc, .val (.int f), .non, .non, .non, .non, .non, .non, .non, .non, .non, .non, .non] = .ok (lettersD ks) [.val sc, .val (.int f), .non, .non, .non, .non, .non, .non, .non, .non, .non, .non, .non] := by
  obtain ⟨g, e, hg⟩ := lcS_ex (j := 8) (it := mRng1 (mOp dMod (mVar 1) (mC (.int 5)))) (e := b_law_E1) (δ := [.val sc, .val (.int f), .non, .non, .non, .non, .non, .non, .non, .non, .non, .non, .non]) (δ' := [.val sc, .val (.int f), .non, .non, .non, .non, .non, .non, .non, .non, .non, .non, .non]) (items := rng 0 (f % 5)) (P := fun _ y => ∃ k : Kd, y = .str (S [code k]) ∧ True) (by
    have b2 : big (f % 5) = true := big_of (by omega) (by omega)
    iterate 3 ((try simp only [b2]); walk_at "ev")) (by simp) rfl (by rw [rng_len]; omega) (fun x hx => by
    obtain ⟨i, rfl, h0, h1⟩ := rng_int hx
    obtain ⟨k, hk⟩ := ntsl_at (i := f / (4 + 3 * i) % 4) (by omega) (by omega)
    have e1 : dMul (.int 3) (.int i) = some (.int (3 * i)) := mul_l (by decide) (by decide)
    have e2 : dDiv (.int f) (.int (4 + 3 * i)) = some (.int (f / (4 + 3 * i))) := div_s (by omega) (by omega)
    refine ⟨.str (S [code k]), ?_, k, rfl, trivial⟩
    unfold b_law_E1
    iterate 5 ((try simp only [e1, e2, hk]); walk_at "ev"))
  obtain ⟨ks, e4, _⟩ := map_pick (ys := (rng 0 (f % 5)).map g) (g := fun k : Kd => PyData.str (S [code k])) (Q := fun _ => True) (fun y hy => by
    obtain ⟨x, hx', rfl⟩ := List.mem_map.mp hy
    exact hg x hx')
  have hl2 := congrArg List.length e4
  rw [List.length_map, List.length_map, rng_len] at hl2
  have e5 : dJoin (.str "") [.list (ks.map fun k : Kd => PyData.str (S [code k]))] = some (lettersD ks) := by
    have := join_ones (ks := ks.map code) (by rw [List.length_map]; omega)
    rw [List.map_map] at this
    exact this
  rw [e4] at e
  refine ⟨ks, by omega, ?_⟩
  iterate 3 ((try simp only [e, e5]); walk_at "ev")
theorem cut_map (ns : List Int) (lo hi : Option Int) : cutL (ns.map PyData.int) lo hi = (cutL ns lo hi).map .int := by
  unfold cutL
  rw [List.length_map, List.map_take, List.map_drop]
theorem cut_len (ns : List Int) (lo hi : Option Int) : (cutL ns lo hi).length ≤ ns.length := by
  unfold cutL
  rw [List.length_take, List.length_drop]
  omega
theorem numbers_eq {ns : List Int} (hl : ns.length ≤ 72) {c1 c2 : D} : ∃ zs : List Int, (mCat (mOf (mLcS [12] (mItems (mSl (mVar 0) (mPart (mC (.int 12))) (mPart (mC (.int 62))))) (setV 12) mYes b_law_E2)) (mCallF m__law_draws (mCons (mCallF m__law_cell (mCons (mVar 0) (mCons (mC (.int 1)) mNil))) (mCons (mC (.int 60)) (mCons (mC (.int 171000)) mNil))))) [.val (.list (ns.map .int)), .val c1, .val c2, .non, .non, .non, .non, .non, .non, .non, .non, .non, .non] = .ok (zs.map .int) [.val (.list (ns.map .int)), .val c1, .val c2, .non, .non, .non, .non, .non, .non, .non, .non, .non, .non] := by
  have hcl := cut_len ns (some 12) (some 62)
  obtain ⟨g, e, hg⟩ := lcS_ex (j := 12) (it := mItems (mSl (mVar 0) (mPart (mC (.int 12))) (mPart (mC (.int 62))))) (e := b_law_E2) (δ := [.val (.list (ns.map .int)), .val c1, .val c2, .non, .non, .non, .non, .non, .non, .non, .non, .non, .non]) (δ' := [.val (.list (ns.map .int)), .val c1, .val c2, .non, .non, .non, .non, .non, .non, .non, .non, .non, .non]) (items := (cutL ns (some 12) (some 62)).map .int) (P := fun _ y => ∃ i : Int, y = .int i ∧ True) (by
    rw [← cut_map]
    rfl) (by simp) rfl (by rw [List.length_map]; omega) (fun x hx => by
    obtain ⟨i, hi, rfl⟩ := List.mem_map.mp hx
    refine ⟨.int ((if i < 0 then -i else i) / 2), ?_, _, rfl, trivial⟩
    unfold b_law_E2
    iterate 3 walk_at "ev")
  obtain ⟨us, e4, _⟩ := map_pick (ys := ((cutL ns (some 12) (some 62)).map PyData.int).map g) (g := fun i : Int => PyData.int i) (Q := fun _ => True) (fun y hy => by
    obtain ⟨x, hx', rfl⟩ := List.mem_map.mp hy
    exact hg x hx')
  have hl2 := congrArg List.length e4
  rw [List.length_map, List.length_map, List.length_map] at hl2
  rw [e4] at e
  have c1 : m__law_cell [.list (ns.map .int), .int 1] = .ok (.int (ns.getD 1 0)) [] := cell_eq ns 1
  obtain ⟨xs, d1, d2, _⟩ := draws_eq (ns.getD 1 0) (n := 60) (l := 171000) (by decide) (by decide) (by decide)
  have d1 : m__law_draws [.int (ns.getD 1 0), .int 60, .int 171000] = .ok (.list (xs.map .int)) [] := d1
  refine ⟨us ++ xs, ?_⟩
  unfold mCat
  iterate 4 ((try simp only [e, c1, d1]); walk_at "ev")
  rw [if_pos (by rw [List.length_map, List.length_map, d2]; show _ ≤ 16777216; omega), List.map_append]

theorem few {ks : List Kd} {n : Nat} {k : Kd} {d : D} (h : GP ks n k d) (hn : n ≤ 9) : (P d).length ≤ 16777216 := Nat.le_trans (P_few (h.le hn) (by decide)) (by decide)
theorem parts_of {ks : List Kd} {n : Nat} {k : Kd} {d : D} (h : GP ks n k d) (hn : n ≤ 9) : m__law_parts [d] = .ok (.list (P d)) [] := law_parts_eq (h.le (show n ≤ 33 by omega)) (Nat.le_refl 33) (Nat.le_refl 33) (few h hn)
/-- up to five wraps -/
theorem wrap_loop {ns : List Int} {ks : List Kd} {k : Kd} {d0 : D} (h0 : GP ks 4 k d0) {n : Nat} (hn : n ≤ 5) {f : Int} {L LB dp : D} {w : List D} : ∃ (d : D) (o8 : Option D), mFor (setV 8) b_law_L1 (rng 0 (n : Int)) [.val (.list (ns.map .int)), .val (.int f), .val L, .var false w, .val (.str (letter k)), .val LB, .val dp, .val d0, .non, .non, .non, .non, .non] = .ok .nx [.val (.list (ns.map .int)), .val (.int f), .val L, .var false w, .val (.str (letter k)), .val LB, .val dp, .val d, cO o8, .non, .non, .non, .non] ∧ GP ks 9 k d := by
  obtain ⟨δ', e, d, o8, rfl, hd⟩ := mFor_inv (g := setV 8) (body := b_law_L1) (items := rng 0 (n : Int)) (fun i δ => ∃ (d : D) (o8 : Option D), δ = [.val (.list (ns.map .int)), .val (.int f), .val L, .var false w, .val (.str (letter k)), .val LB, .val dp, .val d, cO o8, .non, .non, .non, .non] ∧ GP ks (4 + i) k d) (fun i x δ hx I => by
    obtain ⟨rfl, hi⟩ := rng_at hx
    rw [Int.zero_add] at hi ⊢
    obtain ⟨d, o8, rfl, hd⟩ := I
    have hc := cell_eq ns (6 + i)
    rw [show (((6 + i : Nat)) : Int) = 6 + (i : Int) by omega] at hc
    have ha0 : ∀ v : Int, (if v < 0 then -v else v) = (v.natAbs : Int) := fun v => by split <;> omega
    have hp := parts_of hd (by omega)
    obtain ⟨e, hw, he⟩ := wrapped_eq (N := ((ns.getD (6 + i) 0).natAbs : Int)) hd (by omega)
    refine ⟨[.val (.list (ns.map .int)), .val (.int f), .val L, .var false w, .val (.str (letter k)), .val LB, .val dp, .val d, .val (.int i), .non, .non, .non, .non], by cases o8 <;> rfl, ?_⟩
    by_cases hq : (P d).length < 25
    · have z1 : decide ((((P d).length : Nat) : Int) < 25) = true := decide_eq_true (by omega)
      have z2 : ((((P d).length : Nat) : Int) < 25) = True := eq_true (by omega)
      refine ⟨[.val (.list (ns.map .int)), .val (.int f), .val L, .var false w, .val (.str (letter k)), .val LB, .val dp, .val e, .val (.int i), .non, .non, .non, .non], ?_, e, some (.int i), rfl, he⟩
      unfold b_law_L1
      generalize PyData.list (ns.map .int) = sc at hc ⊢
      generalize ns.getD (6 + i) 0 = v at hc hw ⊢
      generalize PyData.str (letter k) = lk at hw ⊢
      generalize P d = pd at hp z1 z2
      iterate 8 ((try simp only [hc, ha0, hp, hw, z1, z2, decide_true]); walk_at "ev")
      try rfl
    · have z1 : decide ((((P d).length : Nat) : Int) < 25) = false := decide_eq_false (by omega)
      have z2 : ((((P d).length : Nat) : Int) < 25) = False := eq_false (by omega)
      refine ⟨[.val (.list (ns.map .int)), .val (.int f), .val L, .var false w, .val (.str (letter k)), .val LB, .val dp, .val d, .val (.int i), .non, .non, .non, .non], ?_, d, some (.int i), rfl, hd.succ⟩
      unfold b_law_L1
      generalize PyData.list (ns.map .int) = sc at hc ⊢
      generalize PyData.str (letter k) = lk
      generalize P d = pd at hp z1 z2
      iterate 8 ((try simp only [hp, z1, z2, decide_false]); walk_at "ev")
      try rfl) (δ := [.val (.list (ns.map .int)), .val (.int f), .val L, .var false w, .val (.str (letter k)), .val LB, .val dp, .val d0, .non, .non, .non, .non, .non]) ⟨d0, none, rfl, h0⟩
  rw [rng_len] at hd
  exact ⟨d, o8, e, hd.le (by omega)⟩

theorem pair_ok {ks : List Kd} {k : Kd} {x y : D} (hx : GP ks 33 k x) (hy : GP ks 33 k y) (sx : sz x ≤ 60) (sy : sz y ≤ 60) {c0 c1 c2 c3 c4 c5 c6 c7 c8 c9 : Cell} (o11 : Option D) : b_law_L2 [c0, c1, c2, c3, c4, c5, c6, c7, c8, c9, .val (.tuple [x, y]), cO o11, .non] = .ok .nx [c0, c1, c2, c3, c4, c5, c6, c7, c8, c9, .val (.tuple [x, y]), .val (.bool (prec x y)), .non] := by
  have p1 := precedes_eq hx hy
  have p2 := law_precedes_eq hx hy (by omega) (by omega)
  have e0 : dIx (.tuple [x, y]) (.int 0) = some x := rfl
  have e1 : dIx (.tuple [x, y]) (.int 1) = some y := rfl
  have e2 : ∀ b : Bool, dNe (.bool b) (.bool b) = some (.bool false) := fun b => by cases b <;> rfl
  unfold b_law_L2
  generalize PyData.tuple [x, y] = pr at e0 e1 ⊢
  generalize prec x y = b at p1 p2 ⊢
  cases o11 <;> (iterate 9 ((try simp only [p1, p2, e0, e1, cO, e2]); walk_at "ev")) <;> cases b <;> rfl
theorem pairs_ok {ks : List Kd} {k : Kd} {x y : D} (hx : GP ks 33 k x) (hy : GP ks 33 k y) (sx : sz x ≤ 60) (sy : sz y ≤ 60) {c0 c1 c2 c3 c4 c5 c6 c7 c8 c9 : Cell} : ∃ δ, mFor (setV 10) b_law_L2 [.tuple [x, y], .tuple [y, x], .tuple [x, x]] [c0, c1, c2, c3, c4, c5, c6, c7, c8, c9, .non, .non, .non] = .ok .nx δ := by
  have q1 : b_law_L2 [c0, c1, c2, c3, c4, c5, c6, c7, c8, c9, .val (.tuple [x, y]), .non, .non] = .ok .nx [c0, c1, c2, c3, c4, c5, c6, c7, c8, c9, .val (.tuple [x, y]), .val (.bool (prec x y)), .non] := pair_ok hx hy sx sy none
  have q2 : b_law_L2 [c0, c1, c2, c3, c4, c5, c6, c7, c8, c9, .val (.tuple [y, x]), .val (.bool (prec x y)), .non] = .ok .nx [c0, c1, c2, c3, c4, c5, c6, c7, c8, c9, .val (.tuple [y, x]), .val (.bool (prec y x)), .non] := pair_ok hy hx sy sx (some (.bool (prec x y)))
  have q3 : b_law_L2 [c0, c1, c2, c3, c4, c5, c6, c7, c8, c9, .val (.tuple [x, x]), .val (.bool (prec y x)), .non] = .ok .nx [c0, c1, c2, c3, c4, c5, c6, c7, c8, c9, .val (.tuple [x, x]), .val (.bool (prec x x)), .non] := pair_ok hx hx sx sx (some (.bool (prec y x)))
  rw [mFor]
  rw [show setV 10 (.tuple [x, y]) [c0, c1, c2, c3, c4, c5, c6, c7, c8, c9, .non, .non, .non] = some [c0, c1, c2, c3, c4, c5, c6, c7, c8, c9, .val (.tuple [x, y]), .non, .non] from rfl]
  simp only [q1, DL.bind_ok]
  rw [mFor]
  rw [show setV 10 (.tuple [y, x]) [c0, c1, c2, c3, c4, c5, c6, c7, c8, c9, .val (.tuple [x, y]), .val (.bool (prec x y)), .non] = some [c0, c1, c2, c3, c4, c5, c6, c7, c8, c9, .val (.tuple [y, x]), .val (.bool (prec x y)), .non] from rfl]
  simp only [q2, DL.bind_ok]
  rw [mFor]
  rw [show setV 10 (.tuple [x, x]) [c0, c1, c2, c3, c4, c5, c6, c7, c8, c9, .val (.tuple [y, x]), .val (.bool (prec y x)), .non] = some [c0, c1, c2, c3, c4, c5, c6, c7, c8, c9, .val (.tuple [x, x]), .val (.bool (prec y x)), .non] from rfl]
  simp only [q3, DL.bind_ok]
  exact ⟨_, rfl⟩
end K19.PG
end Part_YM

section Part_YN
set_option Elab.async false
set_option linter.all false
set_option maxRecDepth 100000
set_option autoImplicit false
set_option maxHeartbeats 2000000
namespace K19.PG
open K19 PySem PySem.Spec PyProof.Rows L2 DL SX
local macro_rules | `(tactic| walk_at "ev") => `(tactic| try simp -implicitDefEqProofs only [mDef, mSeq, mIf, mT, mTr, mOp, mUn, mVar, mC, mCall, mCons, mNil, mRet, mSkip, mAsg, mSl, mPart, mNoPart, mAndT, mOrT, mNotT, mAnd, mOr, mNot, mIfE, mChain, mIs, mIs2, mOf, mNew, mCallF, mM1, mM0, mIxM, mLenM, mApp, mSetM, mSetIx, mAug, mFrz, mForS, mRng1, mRng2, mItems, setV_zn, setV_zv, setV_zo, setV_succ, setM, frz, setT2, mBk, mCt, mNo, 
  DL.bind_ok, DL.bind_no, DL.bind_ite, lift_some, lift_none, List.map_cons, List.map_nil, List.length_cons, List.length_nil, List.replicate_succ, List.replicate_zero, List.cons_append, List.nil_append, List.append_nil, List.getElem?_cons_zero, List.getElem?_cons_succ, List.set_cons_zero, List.set_cons_succ, Nat.reduceAdd, Nat.reduceSub, Nat.zero_add, Nat.sub_self, decide_eq_true_eq,
  add_ii, sub_ii, neg_i, mul_r, mul_l, div_s, mod_s, eq_ii, ne_ii, eq_bb, ne_bb, lt_ii, gt_ii, le_ii, ge_ii, len_l, len_t, int_i, int_b, abs_i, max_ii, min_ii, tuple_l, ix_l, ix_t, tr_b, Nat.reduceLeDiff, if_true, if_false, Option.map_some, Option.bind_some, reduceIte, Int.reduceLT, Int.reduceNeg, Int.reduceMul, Nat.reduceLT, Nat.le_refl, LINE, Bool.false_eq_true, Bool.not_true, Bool.not_false, Bool.true_eq_false, R.bind_ex, Int.reduceEq, e_number_number, e_number_truth, e_number_text, e_number_list, e_truth_number, e_truth_truth, e_truth_text, e_truth_list, e_text_number, e_text_truth, e_text_text, e_text_list, e_list_number, e_list_truth, e_list_text, e_list_list, is_bool_n, is_bool_t, is_bool_s, is_bool_l, is_int_n, is_int_t, is_int_s, is_int_l, is_str_n, is_str_t, is_str_s, is_str_l, is_tuple_n, is_tuple_t, is_tuple_s, is_tuple_l, at_z, at_o, sl_tail, tup_0, tup_1, tup_2, tup_3, rev_t, rev_l, len_l])
local macro_rules | `(tactic| walk_at "ev*") => `(tactic| try simp -implicitDefEqProofs only [mDef, mSeq, mIf, mT, mTr, mOp, mUn, mVar, mC, mCall, mCons, mNil, mRet, mSkip, mAsg, mSl, mPart, mNoPart, mAndT, mOrT, mNotT, mAnd, mOr, mNot, mIfE, mChain, mIs, mIs2, mOf, mNew, mCallF, mM1, mM0, mIxM, mLenM, mApp, mSetM, mSetIx, mAug, mFrz, mForS, mRng1, mRng2, mItems, setV_zn, setV_zv, setV_zo, setV_succ, setM, frz, setT2, mBk, mCt, mNo, 
  DL.bind_ok, DL.bind_no, DL.bind_ite, lift_some, lift_none, List.map_cons, List.map_nil, List.length_cons, List.length_nil, List.replicate_succ, List.replicate_zero, List.cons_append, List.nil_append, List.append_nil, List.getElem?_cons_zero, List.getElem?_cons_succ, List.set_cons_zero, List.set_cons_succ, Nat.reduceAdd, Nat.reduceSub, Nat.zero_add, Nat.sub_self, decide_eq_true_eq,
  add_ii, sub_ii, neg_i, mul_r, mul_l, div_s, mod_s, eq_ii, ne_ii, eq_bb, ne_bb, lt_ii, gt_ii, le_ii, ge_ii, len_l, len_t, int_i, int_b, abs_i, max_ii, min_ii, tuple_l, ix_l, ix_t, tr_b, Nat.reduceLeDiff, if_true, if_false, Option.map_some, Option.bind_some, reduceIte, Int.reduceLT, Int.reduceNeg, Int.reduceMul, Nat.reduceLT, Nat.le_refl, LINE, Bool.false_eq_true, Bool.not_true, Bool.not_false, Bool.true_eq_false, R.bind_ex, Int.reduceEq, e_number_number, e_number_truth, e_number_text, e_number_list, e_truth_number, e_truth_truth, e_truth_text, e_truth_list, e_text_number, e_text_truth, e_text_text, e_text_list, e_list_number, e_list_truth, e_list_text, e_list_list, is_bool_n, is_bool_t, is_bool_s, is_bool_l, is_int_n, is_int_t, is_int_s, is_int_l, is_str_n, is_str_t, is_str_s, is_str_l, is_tuple_n, is_tuple_t, is_tuple_s, is_tuple_l, at_z, at_o, sl_tail, tup_0, tup_1, tup_2, tup_3, rev_t, rev_l, len_l, *])

noncomputable def b_mid : M Fl := (mSeq (mForS (mRng1 (mOp dMod (mOp dDiv (mVar 1) (mC (.int 5))) (mC (.int 6)))) (setV 8)
    b_law_L1)
    (mSeq (mIf (mT (mOp dGt (mCall dLen (mCons (mCallF m__law_parts (mCons (mVar 7) mNil)) mNil)) (mC (.int 60))))
    (mRet (mC (.bool true)))
    mSkip)
    (mSeq (mIf (mT (mOp dNe (mCallF m_simplify (mCons (mVar 7) mNil)) (mCallF m__law_simplified (mCons (mVar 7) mNil))))
    (mRet (mC (.bool false)))
    mSkip)
    (mSeq (mAsg (setV 9) (mCallB 3 m__law_program (mCons (mVar 4) (mCons (mVar 2) (mCons (mVar 6) (mCons (mVar 5) mNil))))))
    (mSeq (mIf (mT (mOp dGt (mCall dLen (mCons (mCallF m__law_parts (mCons (mVar 9) mNil)) mNil)) (mC (.int 60))))
    (mRet (mC (.bool true)))
    mSkip)
    (mSeq (mForS (mItems (mOf (mNew (mCons (mCall dTup (mCons (mVar 7) (mCons (mVar 9) mNil))) (mCons (mCall dTup (mCons (mVar 9) (mCons (mVar 7) mNil))) (mCons (mCall dTup (mCons (mVar 7) (mCons (mVar 7) mNil))) mNil)))))) (setV 10)
    b_law_L2)
    (mRet (mC (.bool true)))))))))
theorem law_eq : b_law = (mSeq (mAsg (setV 1) (mCall dAbs (mCons (mCallF m__law_cell (mCons (mVar 0) (mCons (mC (.int 0)) mNil))) mNil)))
    (mSeq (mAsg (setV 2) (mM1 dJoin (mC (.str "")) (mOf (mLcS [8] (mRng1 (mOp dMod (mVar 1) (mC (.int 5)))) (setV 8) mYes b_law_E1))))
    (mSeq (mSetM 3 (mCat (mOf (mLcS [12] (mItems (mSl (mVar 0) (mPart (mC (.int 12))) (mPart (mC (.int 62))))) (setV 12) mYes b_law_E2)) (mCallF m__law_draws (mCons (mCallF m__law_cell (mCons (mVar 0) (mCons (mC (.int 1)) mNil))) (mCons (mC (.int 60)) (mCons (mC (.int 171000)) mNil))))))
    (mSeq (mAsg (setV 4) (mOp dIx (mC (.str "ntsl")) (mOp dMod (mCall dAbs (mCons (mCallF m__law_cell (mCons (mVar 0) (mCons (mC (.int 62)) mNil))) mNil)) (mC (.int 4)))))
    (mSeq (mAsg (setV 5) (mCallF m__law_library mNil))
    (mSeq (mAsg (setV 6) (mOp dAdd (mC (.int 1)) (mOp dMod (mOp dDiv (mCall dAbs (mCons (mCallF m__law_cell (mCons (mVar 0) (mCons (mC (.int 62)) mNil))) mNil)) (mC (.int 4))) (mC (.int 3)))))
    (mSeq (mAsg (setV 7) (mCallB 3 m__law_program (mCons (mVar 4) (mCons (mVar 2) (mCons (mVar 6) (mCons (mVar 5) mNil))))))
    b_mid))))))) := rfl

theorem mid_ok {ns : List Int} {ks : List Kd} (hks : ks.length ≤ 4) {k : Kd} {d0 : D} (h0 : GP ks 4 k d0) {f dp : Int} (hf : 0 ≤ f) (hdp : dp ≤ 4) {zs : List Int} : ∃ δ', b_mid [.val (.list (ns.map .int)), .val (.int f), .val (lettersD ks), .var false (zs.map .int), .val (.str (letter k)), .val LIBD, .val (.int dp), .val d0, .non, .non, .non, .non, .non] = .ok (.rt (.bool true)) δ' := by
  obtain ⟨n, hn, hn5⟩ : ∃ n : Nat, f / 5 % 6 = n ∧ n ≤ 5 := ⟨(f / 5 % 6).toNat, by omega, by omega⟩
  obtain ⟨d, o8, e1, hd⟩ := wrap_loop (ns := ns) h0 hn5 (f := f) (L := lettersD ks) (LB := LIBD) (dp := .int dp) (w := zs.map .int)
  obtain ⟨o, zs', e2, ho⟩ := program_eq hks 3 33 dp zs k (by omega) (by decide)
  have e2 : m__law_program [.list (zs.map .int), .str (letter k), lettersD ks, .int dp, LIBD] = _ := e2
  have hb : big ((n : Nat) : Int) = true := big_of (by omega) (by omega)
  have p1 := parts_of hd (Nat.le_refl 9)
  have p2 := parts_of ho (by omega)
  have hd33 := hd.le (show 9 ≤ 33 by decide)
  have ho33 := ho.le (show 4 ≤ 33 by decide)
  have e3 : m_simplify [d] = .ok (simpF 9 d) [] := (simplify_eq hd (by decide) (m := 33) (by decide)).1
  have e5 : sz d ≤ 60 → m__law_simplified [d] = .ok (simpF 9 d) [] := fun h => simplified_eq hd (by decide) h (m := 33) (by decide)
  have lay := lay_g (gd_of (simplify_eq hd (by decide) (Nat.le_refl 9)).2.1 (by decide))
  have e6 := ne_self lay.1 (by omega)
  have e4 : mCallB 3 m__law_program (mCons (mVar 4) (mCons (mVar 2) (mCons (mVar 6) (mCons (mVar 5) mNil)))) [.val (.list (ns.map .int)), .val (.int f), .val (lettersD ks), .var false (zs.map .int), .val (.str (letter k)), .val LIBD, .val (.int dp), .val d, cO o8, .non, .non, .non, .non] = .ok o [.val (.list (ns.map .int)), .val (.int f), .val (lettersD ks), .var false (zs'.map .int), .val (.str (letter k)), .val LIBD, .val (.int dp), .val d, cO o8, .non, .non, .non, .non] :=
    callB_ok (i := 3) (b := false) (es := zs.map .int) rfl (by
      generalize PyData.list (ns.map .int) = sc
      generalize lettersD ks = L
      generalize LIBD = LB
      generalize PyData.str (letter k) = lk
      cases o8 <;> (iterate 6 (walk_at "ev")) <;> try rfl) e2
  unfold b_mid
  generalize lettersD ks = L at *
  generalize LIBD = LB at *
  have e1 : mForS (mRng1 (mOp dMod (mOp dDiv (mVar 1) (mC (.int 5))) (mC (.int 6)))) (setV 8) b_law_L1 [.val (.list (ns.map .int)), .val (.int f), .val (L), .var false (zs.map .int), .val (.str (letter k)), .val LB, .val (.int dp), .val d0, .non, .non, .non, .non, .non] = .ok .nx [.val (.list (ns.map .int)), .val (.int f), .val (L), .var false (zs.map .int), .val (.str (letter k)), .val LB, .val (.int dp), .val d, cO o8, .non, .non, .non, .non] := by
    generalize PyData.list (ns.map .int) = sc at *
    generalize PyData.str (letter k) = lk at *
    iterate 5 ((try simp only [hn, hb]); walk_at "ev")
    exact e1
  rw [seq_ok e1]
  by_cases q1 : 60 < (P d).length
  · have d1 : decide ((60 : Int) < (((P d).length : Nat) : Int)) = true := decide_eq_true (by omega)
    have d2 : ((60 : Int) < (((P d).length : Nat) : Int)) = True := eq_true (by omega)
    rw [seq_rt (δ1 := [.val (.list (ns.map .int)), .val (.int f), .val (L), .var false (zs.map .int), .val (.str (letter k)), .val LB, .val (.int dp), .val d, cO o8, .non, .non, .non, .non]) (d := .bool true) (by
      generalize PyData.list (ns.map .int) = sc
      generalize PyData.str (letter k) = lk
      generalize P d = pd at p1 d1 d2
      cases o8 <;> (iterate 7 ((try simp only [p1, d1, d2, cO, decide_true]); walk_at "ev")) <;> try rfl)]
    exact ⟨_, rfl⟩
  · have d1 : decide ((60 : Int) < (((P d).length : Nat) : Int)) = false := decide_eq_false (by omega)
    have d2 : ((60 : Int) < (((P d).length : Nat) : Int)) = False := eq_false (by omega)
    have hz : sz d ≤ 60 := by unfold sz; omega
    have e5 := e5 hz
    rw [seq_ok (δ1 := [.val (.list (ns.map .int)), .val (.int f), .val (L), .var false (zs.map .int), .val (.str (letter k)), .val LB, .val (.int dp), .val d, cO o8, .non, .non, .non, .non]) (by
      generalize PyData.list (ns.map .int) = sc
      generalize PyData.str (letter k) = lk
      generalize P d = pd at p1 d1 d2
      cases o8 <;> (iterate 7 ((try simp only [p1, d1, d2, cO, decide_false]); walk_at "ev")) <;> try rfl)]
    rw [seq_ok (δ1 := [.val (.list (ns.map .int)), .val (.int f), .val (L), .var false (zs.map .int), .val (.str (letter k)), .val LB, .val (.int dp), .val d, cO o8, .non, .non, .non, .non]) (by
      generalize PyData.list (ns.map .int) = sc
      generalize PyData.str (letter k) = lk
      generalize simpF 9 d = sd at e3 e5 e6
      cases o8 <;> (iterate 7 ((try simp only [e3, e5, e6, cO]); walk_at "ev")) <;> try rfl)]
    rw [seq_ok (δ1 := [.val (.list (ns.map .int)), .val (.int f), .val (L), .var false (zs'.map .int), .val (.str (letter k)), .val LB, .val (.int dp), .val d, cO o8, .val o, .non, .non, .non]) (by
      unfold mAsg
      rw [e4]
      cases o8 <;> rfl)]
    by_cases q2 : 60 < (P o).length
    · have d1 : decide ((60 : Int) < (((P o).length : Nat) : Int)) = true := decide_eq_true (by omega)
      have d2 : ((60 : Int) < (((P o).length : Nat) : Int)) = True := eq_true (by omega)
      rw [seq_rt (δ1 := [.val (.list (ns.map .int)), .val (.int f), .val (L), .var false (zs'.map .int), .val (.str (letter k)), .val LB, .val (.int dp), .val d, cO o8, .val o, .non, .non, .non]) (d := .bool true) (by
        generalize PyData.list (ns.map .int) = sc
        generalize PyData.str (letter k) = lk
        generalize P o = po at p2 d1 d2
        cases o8 <;> (iterate 7 ((try simp only [p2, d1, d2, cO, decide_true]); walk_at "ev")) <;> try rfl)]
      exact ⟨_, rfl⟩
    · have d1 : decide ((60 : Int) < (((P o).length : Nat) : Int)) = false := decide_eq_false (by omega)
      have d2 : ((60 : Int) < (((P o).length : Nat) : Int)) = False := eq_false (by omega)
      have hz2 : sz o ≤ 60 := by unfold sz; omega
      rw [seq_ok (δ1 := [.val (.list (ns.map .int)), .val (.int f), .val (L), .var false (zs'.map .int), .val (.str (letter k)), .val LB, .val (.int dp), .val d, cO o8, .val o, .non, .non, .non]) (by
        generalize PyData.list (ns.map .int) = sc
        generalize PyData.str (letter k) = lk
        generalize P o = po at p2 d1 d2
        cases o8 <;> (iterate 7 ((try simp only [p2, d1, d2, cO, decide_false]); walk_at "ev")) <;> try rfl)]
      obtain ⟨δ', e7⟩ := pairs_ok hd33 ho33 hz hz2 (c0 := .val (.list (ns.map .int))) (c1 := .val (.int f)) (c2 := .val L) (c3 := .var false (zs'.map .int)) (c4 := .val (.str (letter k))) (c5 := .val LB) (c6 := .val (.int dp)) (c7 := .val d) (c8 := cO o8) (c9 := .val o)
      have e8 : mForS (mItems (mOf (mNew (mCons (mCall dTup (mCons (mVar 7) (mCons (mVar 9) mNil))) (mCons (mCall dTup (mCons (mVar 9) (mCons (mVar 7) mNil))) (mCons (mCall dTup (mCons (mVar 7) (mCons (mVar 7) mNil))) mNil)))))) (setV 10) b_law_L2 [.val (.list (ns.map .int)), .val (.int f), .val (L), .var false (zs'.map .int), .val (.str (letter k)), .val LB, .val (.int dp), .val d, cO o8, .val o, .non, .non, .non] = .ok .nx δ' := e7
      rw [seq_ok e8]
      exact ⟨_, rfl⟩

theorem law_holds : ∀ ns : List Int, ns.length ≤ 63 → ∃ δ, m_law [.list (ns.map .int)] = .ok (.bool true) δ := by
  intro ns hl
  have c0 : m__law_cell [.list (ns.map .int), .int 0] = .ok (.int (ns.getD 0 0)) [] := cell_eq ns 0
  have c62 : m__law_cell [.list (ns.map .int), .int 62] = .ok (.int (ns.getD 62 0)) [] := cell_eq ns 62
  generalize ns.getD 0 0 = v0 at c0
  generalize ns.getD 62 0 = v62 at c62
  have a0 : (if v0 < 0 then -v0 else v0) = (v0.natAbs : Int) := by split <;> omega
  have a62 : (if v62 < 0 then -v62 else v62) = (v62.natAbs : Int) := by split <;> omega
  obtain ⟨ks, hks, e1⟩ := letters_eq (sc := .list (ns.map .int)) (f := (v0.natAbs : Int)) (by omega)
  obtain ⟨zs, e2⟩ := numbers_eq (ns := ns) (by omega) (c1 := .int (v0.natAbs : Int)) (c2 := lettersD ks)
  obtain ⟨k, e3⟩ := ntsl_at (i := (v62.natAbs : Int) % 4) (by omega) (by omega)
  rw [← letter_S] at e3
  obtain ⟨d, zs', e4, hd⟩ := program_eq hks 3 33 (1 + (v62.natAbs : Int) / 4 % 3) zs k (by omega) (by decide)
  have e4 : m__law_program [.list (zs.map .int), .str (letter k), lettersD ks, .int (1 + (v62.natAbs : Int) / 4 % 3), LIBD] = _ := e4
  have le : m__law_library [] = .ok LIBD [] := lib_eq
  obtain ⟨δ', e8⟩ := mid_ok (ns := ns) hks hd (f := (v0.natAbs : Int)) (dp := 1 + (v62.natAbs : Int) / 4 % 3) (by omega) (by omega) (zs := zs')
  have e9 : mCallB 3 m__law_program (mCons (mVar 4) (mCons (mVar 2) (mCons (mVar 6) (mCons (mVar 5) mNil)))) [.val (.list (ns.map .int)), .val (.int (v0.natAbs : Int)), .val (lettersD ks), .var false (zs.map .int), .val (.str (letter k)), .val LIBD, .val (.int (1 + (v62.natAbs : Int) / 4 % 3)), .non, .non, .non, .non, .non, .non] = .ok d [.val (.list (ns.map .int)), .val (.int (v0.natAbs : Int)), .val (lettersD ks), .var false (zs'.map .int), .val (.str (letter k)), .val LIBD, .val (.int (1 + (v62.natAbs : Int) / 4 % 3)), .non, .non, .non, .non, .non, .non] :=
    callB_ok (i := 3) (b := false) (es := zs.map .int) rfl (by
      generalize PyData.list (ns.map .int) = sc
      generalize lettersD ks = L
      generalize LIBD = LB
      generalize PyData.str (letter k) = lk
      iterate 6 (walk_at "ev")) e4
  unfold m_law
  rw [law_eq]
  show ∃ δ, R.bind ((mSeq _ _) [.val (.list (ns.map .int)), .non, .non, .non, .non, .non, .non, .non, .non, .non, .non, .non, .non]) _ = _
  generalize PyData.list (ns.map .int) = sc at *
  generalize LIBD = LB at *
  generalize lettersD ks = L at *
  generalize PyData.str (letter k) = lk at *
  generalize b_mid = bm at *
  generalize zs.map PyData.int = Z at *
  generalize zs'.map PyData.int = Z' at *
  rw [seq_ok (δ1 := [.val sc, .val (.int (v0.natAbs : Int)), .non, .non, .non, .non, .non, .non, .non, .non, .non, .non, .non]) (by iterate 4 ((try simp only [c0, a0]); walk_at "ev"))]
  rw [seq_ok (δ1 := [.val sc, .val (.int (v0.natAbs : Int)), .val L, .non, .non, .non, .non, .non, .non, .non, .non, .non, .non]) (by
    unfold mAsg
    rw [e1]
    rfl)]
  rw [seq_ok (δ1 := [.val sc, .val (.int (v0.natAbs : Int)), .val L, .var false Z, .non, .non, .non, .non, .non, .non, .non, .non, .non]) (by
    unfold mSetM
    rw [e2]
    rfl)]
  rw [seq_ok (δ1 := [.val sc, .val (.int (v0.natAbs : Int)), .val L, .var false Z, .val lk, .non, .non, .non, .non, .non, .non, .non, .non]) (by iterate 6 ((try simp only [c62, a62, e3]); walk_at "ev"))]
  rw [seq_ok (δ1 := [.val sc, .val (.int (v0.natAbs : Int)), .val L, .var false Z, .val lk, .val LB, .non, .non, .non, .non, .non, .non, .non]) (by iterate 4 ((try simp only [le]); walk_at "ev"))]
  rw [seq_ok (δ1 := [.val sc, .val (.int (v0.natAbs : Int)), .val L, .var false Z, .val lk, .val LB, .val (.int (1 + (v62.natAbs : Int) / 4 % 3)), .non, .non, .non, .non, .non, .non]) (by iterate 7 ((try simp only [c62, a62]); walk_at "ev"))]
  rw [seq_ok (δ1 := [.val sc, .val (.int (v0.natAbs : Int)), .val L, .var false Z', .val lk, .val LB, .val (.int (1 + (v62.natAbs : Int) / 4 % 3)), .val d, .non, .non, .non, .non, .non]) (by
    unfold mAsg
    rw [e9]
    rfl)]
  rw [e8]
  exact ⟨_, rfl⟩
end K19.PG
end Part_YN

section Part_K19f
set_option Elab.async false
set_option linter.all false
namespace K19
open PySem PySem.Spec PyProof.Rows L2 DL
theorem law_holds : ∀ ns : List Int, ns.length ≤ 63 → ∃ δ, m_law [.list (ns.map .int)] = .ok (.bool true) δ := PG.law_holds
end K19
open PySem PySem.W PyProof.Rows in
open PySem PySem.W PyProof.Rows in
set_option maxRecDepth 100000 in
set_option maxHeartbeats 0 in
theorem PySem.Challenge.cw_leastfit_k19_rules_of_simplifying_holds : PySem.Challenge.rw_leastfit_k19_rules_of_simplifying.Holds := by
  w_on; o_law; k_head; (case hw => w_witness2)
  k_fill
  refine' DL.walk_law (l := PySem.Challenge.rw_leastfit_k19_rules_of_simplifying) (k := 72) (m := K19.b_law) (st := K19.s_law) (N := K19.N_law) (EC := K19.EC0 0) rfl rfl rfl ⟨rfl, by decide, by decide⟩ (fun w h Y => PySem.W.kIn_of Y) K19.sc_law ?F K19.law_holds
  case F =>
    intro w mg h KX G
    refine' K19.fin ?T
    case T =>
      constructor
      · refine' DL.funX_mk KX G ?a ?l ?c ?k (fun _ _ _ _ _ _ us hl => match us, hl with | [], _ => rfl)
        (case a => k_is); (case l => k_is); (case c => k_is); (case k => k_is)
      · refine' DL.funX_mk KX G ?a ?l ?c ?k (fun _ _ _ _ _ _ us hl => match us, hl with | [_], _ => rfl)
        (case a => k_is); (case l => k_is); (case c => k_is); (case k => k_is)
      · refine' DL.funX_mk KX G ?a ?l ?c ?k (fun _ _ _ _ _ _ us hl => match us, hl with | [_, _, _], _ => rfl)
        (case a => k_is); (case l => k_is); (case c => k_is); (case k => k_is)
      · refine' DL.funX_mk KX G ?a ?l ?c ?k (fun _ _ _ _ _ _ us hl => match us, hl with | [_, _], _ => rfl)
        (case a => k_is); (case l => k_is); (case c => k_is); (case k => k_is)
      · refine' DL.funX_mk KX G ?a ?l ?c ?k (fun _ _ _ _ _ _ us hl => match us, hl with | [_, _], _ => rfl)
        (case a => k_is); (case l => k_is); (case c => k_is); (case k => k_is)
      · refine' DL.funX_mk KX G ?a ?l ?c ?k (fun _ _ _ _ _ _ us hl => match us, hl with | [_, _, _], _ => rfl)
        (case a => k_is); (case l => k_is); (case c => k_is); (case k => k_is)
      · refine' DL.funX_mk KX G ?a ?l ?c ?k (fun _ _ _ _ _ _ us hl => match us, hl with | [_, _, _, _, _], _ => rfl)
        (case a => k_is); (case l => k_is); (case c => k_is); (case k => k_is)
      · refine' DL.funX_mk KX G ?a ?l ?c ?k (fun _ _ _ _ _ _ us hl => match us, hl with | [_, _], _ => rfl)
        (case a => k_is); (case l => k_is); (case c => k_is); (case k => k_is)
      · refine' DL.funX_mk KX G ?a ?l ?c ?k (fun _ _ _ _ _ _ us hl => match us, hl with | [_], _ => rfl)
        (case a => k_is); (case l => k_is); (case c => k_is); (case k => k_is)
      · refine' DL.funX_mk KX G ?a ?l ?c ?k (fun _ _ _ _ _ _ us hl => match us, hl with | [_, _], _ => rfl)
        (case a => k_is); (case l => k_is); (case c => k_is); (case k => k_is)
      · refine' DL.funX_mk KX G ?a ?l ?c ?k (fun _ _ _ _ _ _ us hl => match us, hl with | [_], _ => rfl)
        (case a => k_is); (case l => k_is); (case c => k_is); (case k => k_is)
      · refine' DL.funX_mk KX G ?a ?l ?c ?k (fun _ _ _ _ _ _ us hl => match us, hl with | [_], _ => rfl)
        (case a => k_is); (case l => k_is); (case c => k_is); (case k => k_is)
      · refine' DL.funX_mk KX G ?a ?l ?c ?k (fun _ _ _ _ _ _ us hl => match us, hl with | [_], _ => rfl)
        (case a => k_is); (case l => k_is); (case c => k_is); (case k => k_is)
      · refine' DL.funX_mk KX G ?a ?l ?c ?k (fun _ _ _ _ _ _ us hl => match us, hl with | [_], _ => rfl)
        (case a => k_is); (case l => k_is); (case c => k_is); (case k => k_is)
      · refine' DL.funX_mk KX G ?a ?l ?c ?k (fun _ _ _ _ _ _ us hl => match us, hl with | [_, _], _ => rfl)
        (case a => k_is); (case l => k_is); (case c => k_is); (case k => k_is)
      · refine' DL.funX_mk KX G ?a ?l ?c ?k (fun _ _ _ _ _ _ us hl => match us, hl with | [_, _, _], _ => rfl)
        (case a => k_is); (case l => k_is); (case c => k_is); (case k => k_is)
      · refine' DL.funX_mk KX G ?a ?l ?c ?k (fun _ _ _ _ _ _ us hl => match us, hl with | [_], _ => rfl)
        (case a => k_is); (case l => k_is); (case c => k_is); (case k => k_is)
      · refine' DL.funX_mk KX G ?a ?l ?c ?k (fun _ _ _ _ _ _ us hl => match us, hl with | [_], _ => rfl)
        (case a => k_is); (case l => k_is); (case c => k_is); (case k => k_is)
      · refine' DL.funX_mk KX G ?a ?l ?c ?k (fun _ _ _ _ _ _ us hl => match us, hl with | [_], _ => rfl)
        (case a => k_is); (case l => k_is); (case c => k_is); (case k => k_is)
      · refine' DL.funX_mk KX G ?a ?l ?c ?k (fun _ _ _ _ _ _ us hl => match us, hl with | [_], _ => rfl)
        (case a => k_is); (case l => k_is); (case c => k_is); (case k => k_is)
      · refine' DL.funX_mk KX G ?a ?l ?c ?k (fun _ _ _ _ _ _ us hl => match us, hl with | [_, _], _ => rfl)
        (case a => k_is); (case l => k_is); (case c => k_is); (case k => k_is)
      · refine' DL.funX_mk KX G ?a ?l ?c ?k (fun _ _ _ _ _ _ us hl => match us, hl with | [_], _ => rfl)
        (case a => k_is); (case l => k_is); (case c => k_is); (case k => k_is)
      · refine' DL.funX_mk KX G ?a ?l ?c ?k (fun _ _ _ _ _ _ us hl => match us, hl with | [_], _ => rfl)
        (case a => k_is); (case l => k_is); (case c => k_is); (case k => k_is)
      · refine' DL.funX_mk KX G ?a ?l ?c ?k (fun _ _ _ _ _ _ us hl => match us, hl with | [_, _, _], _ => rfl)
        (case a => k_is); (case l => k_is); (case c => k_is); (case k => k_is)
      · refine' DL.funX_mk KX G ?a ?l ?c ?k (fun _ _ _ _ _ _ us hl => match us, hl with | [_], _ => rfl)
        (case a => k_is); (case l => k_is); (case c => k_is); (case k => k_is)
      · refine' DL.con_tup KX G ?a ?l ?d ?z
        (case a => k_is); (case l => k_is); (case d => rfl); (case z => decide)
      · refine' DL.con_tup KX G ?a ?l ?d ?z
        (case a => k_is); (case l => k_is); (case d => rfl); (case z => decide)
      · refine' DL.con_tup KX G ?a ?l ?d ?z
        (case a => k_is); (case l => k_is); (case d => rfl); (case z => decide)
      · refine' DL.tab_data (ks := K19.d_NEUTRAL.map (·.1)) KX G ?g ?l ?lit ?low ?hd
        (case g => k_is); (case l => k_is); (case lit => first | kernel_rfl | rfl); (case low => decide); (case hd => first | kernel_rfl | rfl)
      · refine' DL.tab_data (ks := K19.d_SIGNATURES.map (·.1)) KX G ?g ?l ?lit ?low ?hd
        (case g => k_is); (case l => k_is); (case lit => first | kernel_rfl | rfl); (case low => decide); (case hd => first | kernel_rfl | rfl)
      · refine' DL.tab_data (ks := K19.d_WITHOUT_EFFECT.map (·.1)) KX G ?g ?l ?lit ?low ?hd
        (case g => k_is); (case l => k_is); (case lit => first | kernel_rfl | rfl); (case low => decide); (case hd => first | kernel_rfl | rfl)
      · refine' PySem.W.mg_none_of KX G ?a
        (case a => k_is)
      · refine' PySem.W.mg_none_of KX G ?a
        (case a => k_is)
      · refine' PySem.W.mg_none_of KX G ?a
        (case a => k_is)
      · refine' PySem.W.mg_none_of KX G ?a
        (case a => k_is)
      · refine' PySem.W.mg_none_of KX G ?a
        (case a => k_is)
      · refine' PySem.W.mg_none_of KX G ?a
        (case a => k_is)
      · refine' PySem.W.mg_none_of KX G ?a
        (case a => k_is)
      · refine' PySem.W.mg_none_of KX G ?a
        (case a => k_is)
      · refine' PySem.W.mg_none_of KX G ?a
        (case a => k_is)
end Part_K19f
