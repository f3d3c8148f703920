import PyProof.Rows.All
import Wide.All
import OpenK.AllK
import Wide.FinOn
import HandS.ForMost
import HandS.Wide
import HandS.Style
import HandS.IsInst
import HandS.Flow
import HandS.TryOnly
import HandS.TupMul
import HandS.ForExc
import HandS.ExcIs
import HandS.Zip
import HandS.SortInts
import HandS.SetFor
import HandS.Conv
import HandS.Walk
import KE.GoesEnum
import HandS.SortOrd
import HandS.Deep
import KE.SortData
import HandS.TupAny
import HandS.NoneIn
import KE.GoesMore
import KE.GoesZip
import HandS.Small
import KE.KMinBuiltin
import HandS.SortKw
import HandS.SetKeys
import KE.DataMinMax
import KE.KDictSum
import PyProof.Transfer
import HandS.Iter
import HandS.List
import HandS.Rev
import HandS.RevRange
import HandS.WordsDict
import PyProof.ReprRoads
import HandS.Strs
import HandS.RevTup
import HandS.ExcValue
import KE.KIndexOf
import PySem.Challenge.RW_heavycut_k14_groups_and_marks
set_option Elab.async false
set_option linter.all false
set_option maxRecDepth 100000
set_option maxHeartbeats 4000000
namespace Hc
open PySem PySem.Spec PyProof.Rows L2

/-! ### data in the heap, apart from the things L that may change -/
def keyD : Key → PyData
  | .inl i => .int i
  | .inr x => .str x
mutual
inductive Rp (L : List Addr) (H : Hp) : V → PyData → Prop
  | non : Rp L H .non .none
  | bl (b : Bool) : Rp L H (.bl b) (.bool b)
  | int (i : Int) : Rp L H (.int i) (.int i)
  | str (x : Str) : Rp L H (.str x) (.str x)
  | lst {a : Addr} {xs : List V} {ds : List PyData} : a ∉ L → H a = some (.lst xs) → RpA L H xs ds → Rp L H (.ref a) (.list ds)
  | tup {a : Addr} {xs : List V} {ds : List PyData} : a ∉ L → H a = some (.tup xs) → RpA L H xs ds → Rp L H (.ref a) (.tuple ds)
  | dct {a : Addr} {kvs : List (Key × V)} {ds : List (PyData × PyData)} : a ∉ L → H a = some (.dK kvs) → RpK L H kvs ds → Rp L H (.ref a) (.dict ds)
inductive RpA (L : List Addr) (H : Hp) : List V → List PyData → Prop
  | nil : RpA L H [] []
  | cons {v : V} {vs : List V} {d : PyData} {ds : List PyData} : Rp L H v d → RpA L H vs ds → RpA L H (v :: vs) (d :: ds)
inductive RpK (L : List Addr) (H : Hp) : List (Key × V) → List (PyData × PyData) → Prop
  | nil : RpK L H [] []
  | cons {k : Key} {v : V} {kvs : List (Key × V)} {d : PyData} {ds : List (PyData × PyData)} : Rp L H v d → RpK L H kvs ds → RpK L H ((k, v) :: kvs) ((keyD k, d) :: ds)
end
/-- what is outside L stays, and stays outside L' -/
def To (L L' : List Addr) (H H' : Hp) : Prop := ∀ a o, a ∉ L → H a = some o → a ∉ L' ∧ H' a = some o
mutual
theorem Rp.toP {L L' : List Addr} {H H' : Hp} (w : To L L' H H') : ∀ {v : V} {d : PyData}, Rp L H v d → Rp L' H' v d
  | _, _, .non => .non
  | _, _, .bl b => .bl b
  | _, _, .int i => .int i
  | _, _, .str x => .str x
  | _, _, .lst n e r => .lst (w _ _ n e).1 (w _ _ n e).2 (RpA.toP w r)
  | _, _, .tup n e r => .tup (w _ _ n e).1 (w _ _ n e).2 (RpA.toP w r)
  | _, _, .dct n e r => .dct (w _ _ n e).1 (w _ _ n e).2 (RpK.toP w r)
theorem RpA.toP {L L' : List Addr} {H H' : Hp} (w : To L L' H H') : ∀ {vs : List V} {ds : List PyData}, RpA L H vs ds → RpA L' H' vs ds
  | _, _, .nil => .nil
  | _, _, .cons a b => .cons (Rp.toP w a) (RpA.toP w b)
theorem RpK.toP {L L' : List Addr} {H H' : Hp} (w : To L L' H H') : ∀ {vs : List (Key × V)} {ds : List (PyData × PyData)}, RpK L H vs ds → RpK L' H' vs ds
  | _, _, .nil => .nil
  | _, _, .cons a b => .cons (Rp.toP w a) (RpK.toP w b)
end
theorem Rp.to {L L' : List Addr} {H H' : Hp} (w : To L L' H H') (d : PyData) (v : V) (h : Rp L H v d) : Rp L' H' v d := h.toP w
theorem RpA.to {L L' : List Addr} {H H' : Hp} (w : To L L' H H') (ds : List PyData) (vs : List V) (h : RpA L H vs ds) : RpA L' H' vs ds := h.toP w
/-- a dict with rows as keys: the keys are the same, the values lie in the heap -/
inductive Rt (L : List Addr) (H : Hp) : List (List Key × V) → List (List Key × PyData) → Prop
  | nil : Rt L H [] []
  | cons {k : List Key} {v : V} {d : PyData} {kvs : List (List Key × V)} {m : List (List Key × PyData)} : Rp L H v d → Rt L H kvs m → Rt L H ((k, v) :: kvs) ((k, d) :: m)
theorem Rt.toP {L L' : List Addr} {H H' : Hp} (w : To L L' H H') : ∀ {kvs : List (List Key × V)} {m : List (List Key × PyData)}, Rt L H kvs m → Rt L' H' kvs m
  | _, _, .nil => .nil
  | _, _, .cons a b => .cons (Rp.toP w a) (Rt.toP w b)
def kindO : HO → Nat
  | .lst _ => 0
  | .tup _ => 1
  | .dK _ => 2
  | .dT _ => 3
  | .frz _ (.dK _) => 2
  | .frz _ (.dT _) => 3
  | _ => 4
/-- what is outside L stays; what is in L stays of its kind -/
structure Wk (L : List Addr) (H H' : Hp) : Prop where
  st : ∀ a o, a ∉ L → H a = some o → H' a = some o
  kd : ∀ a o, H a = some o → ∃ o', H' a = some o' ∧ kindO o' = kindO o
instance {L : List Addr} {H H' : Hp} : CoeFun (Wk L H H') fun _ => ∀ a o, a ∉ L → H a = some o → H' a = some o := ⟨Wk.st⟩
theorem Wk.refl (L : List Addr) (H : Hp) : Wk L H H := ⟨fun _ _ _ h => h, fun _ o h => ⟨o, h, rfl⟩⟩
theorem Wk.trans {L : List Addr} {H H1 H2 : Hp} (a : Wk L H H1) (b : Wk L H1 H2) : Wk L H H2 := ⟨fun x o n h => b x o n (a x o n h), fun x o h => by
  obtain ⟨o1, e1, k1⟩ := a.kd x o h
  obtain ⟨o2, e2, k2⟩ := b.kd x o1 e1
  exact ⟨o2, e2, k2.trans k1⟩⟩
theorem Wk.over {L : List Addr} {H H1 : Hp} {D : Addr} {o : HO} (w : Wk L H H1) (h : H D = none) : Wk L H (upd H1 D o) := ⟨fun a u n e => by
  rw [upd_ne (ne_of_none e h)]; exact w a u n e, fun a u e => by
  obtain ⟨o', e', k⟩ := w.kd a u e
  exact ⟨o', by rw [upd_ne (ne_of_none e h)]; exact e', k⟩⟩
theorem Wk.of {L : List Addr} {H H' : Hp} (h : ∀ a o, H a = some o → H' a = some o) : Wk L H H' := ⟨fun a o _ e => h a o e, fun a o e => ⟨o, h a o e, rfl⟩⟩
theorem Wk.to {L : List Addr} {H H' : Hp} (w : Wk L H H') : To L L H H' := fun a o n h => ⟨n, w a o n h⟩
theorem Wk.new {L : List Addr} {H : Hp} {p : Addr} {o : HO} (h : H p = none) : Wk L H (upd H p o) := .of fun a u e => by
  rw [upd_ne (ne_of_none e h)]; exact e
theorem Wk.mut {L : List Addr} {H : Hp} {p : Addr} {o o0 : HO} (h : p ∈ L) (e0 : H p = some o0) (k : kindO o = kindO o0 := by rfl) : Wk L H (upd H p o) := ⟨fun a u n e => by
  rw [upd_ne (fun z : a = p => n (by rw [z]; exact h))]; exact e, fun a u e => by
  by_cases z : a = p
  · subst z
    rw [e0] at e
    cases e
    exact ⟨o, upd_same, k⟩
  · exact ⟨u, by rw [upd_ne z]; exact e, rfl⟩⟩
theorem Rp.mono {L : List Addr} {H H' : Hp} (w : Wk L H H') {d : PyData} {v : V} (h : Rp L H v d) : Rp L H' v d := Rp.to w.to d v h
theorem RpA.mono {L : List Addr} {H H' : Hp} (w : Wk L H H') {ds : List PyData} {vs : List V} (h : RpA L H vs ds) : RpA L H' vs ds := RpA.to w.to ds vs h
theorem RpA.append {L : List Addr} {H : Hp} : ∀ {xs ys : List V} {ds es : List PyData}, RpA L H xs ds → RpA L H ys es → RpA L H (xs ++ ys) (ds ++ es)
  | _, _, _, _, .nil, h => h
  | _, _, _, _, .cons a b, h => .cons a (RpA.append b h)
theorem RpA.length {L : List Addr} {H : Hp} : ∀ {xs : List V} {ds : List PyData}, RpA L H xs ds → xs.length = ds.length
  | _, _, .nil => rfl
  | _, _, .cons _ b => by simp [RpA.length b]
theorem RpA.get {L : List Addr} {H : Hp} : ∀ {xs : List V} {ds : List PyData} {i : Nat} {d : PyData}, RpA L H xs ds → ds[i]? = some d → ∃ v, xs[i]? = some v ∧ Rp L H v d
  | _, _, _, _, .nil, e => by simp at e
  | _, _, 0, _, .cons a _, e => by simp at e; subst e; exact ⟨_, rfl, a⟩
  | _, _, i + 1, d, .cons _ b, e => by
    obtain ⟨v, h1, h2⟩ := RpA.get (i := i) (d := d) b (by simpa using e)
    exact ⟨v, by simpa using h1, h2⟩
theorem RpA.get' {L : List Addr} {H : Hp} : ∀ {xs : List V} {ds : List PyData} {i : Nat} {v : V}, RpA L H xs ds → xs[i]? = some v → ∃ d, ds[i]? = some d ∧ Rp L H v d
  | _, _, _, _, .nil, e => by simp at e
  | _, _, 0, _, .cons a _, e => by simp at e; subst e; exact ⟨_, rfl, a⟩
  | _, _, i + 1, v, .cons _ b, e => by
    obtain ⟨d, h1, h2⟩ := RpA.get' (i := i) (v := v) b (by simpa using e)
    exact ⟨d, by simpa using h1, h2⟩
theorem RpA.take {L : List Addr} {H : Hp} : ∀ {xs : List V} {ds : List PyData} (n : Nat), RpA L H xs ds → RpA L H (xs.take n) (ds.take n)
  | _, _, 0, _ => by simp only [List.take_zero]; exact .nil
  | _, _, n + 1, .nil => .nil
  | _, _, n + 1, .cons a b => .cons a (RpA.take n b)
theorem RpA.drop {L : List Addr} {H : Hp} : ∀ {xs : List V} {ds : List PyData} (n : Nat), RpA L H xs ds → RpA L H (xs.drop n) (ds.drop n)
  | _, _, 0, h => h
  | _, _, n + 1, .nil => .nil
  | _, _, n + 1, .cons _ b => RpA.drop n b
theorem RpA.set {L : List Addr} {H : Hp} : ∀ {xs : List V} {ds : List PyData} {v : V} {d : PyData} (n : Nat), RpA L H xs ds → Rp L H v d → RpA L H (xs.set n v) (ds.set n d)
  | _, _, _, _, _, .nil, _ => .nil
  | _, _, _, _, 0, .cons _ b, h => .cons h b
  | _, _, _, _, n + 1, .cons a b, h => .cons a (RpA.set n b h)
theorem RpA.ints {L : List Addr} {H : Hp} : ∀ (ns : List Int), RpA L H (ns.map V.int) (ns.map PyData.int)
  | [] => .nil
  | n :: r => .cons (.int n) (RpA.ints r)
theorem RpA.ints_inv {L : List Addr} {H : Hp} : ∀ {ns : List Int} {xs : List V}, RpA L H xs (ns.map PyData.int) → xs = ns.map V.int
  | [], _, h => by cases h; rfl
  | n :: r, _, h => by
    cases h with
    | cons a b => cases a; rw [RpA.ints_inv b]; rfl
theorem RpA.bools_inv {L : List Addr} {H : Hp} : ∀ {ns : List Bool} {xs : List V}, RpA L H xs (ns.map PyData.bool) → xs = ns.map V.bl
  | [], _, h => by cases h; rfl
  | n :: r, _, h => by
    cases h with
    | cons a b => cases a; rw [RpA.bools_inv b]; rfl
mutual
theorem Rp.dp {K : PySem.W.Frag} {L : List Addr} {H : Hp} : ∀ (d : PyData) (v : V), d.canLay0 = true → Rp L H v d → Dp K H v d
  | .none, _, _, h => by cases h; exact .non
  | .bool b, _, _, h => by cases h; exact .bl b
  | .int i, _, _, h => by cases h; exact .int i
  | .str x, _, _, h => by cases h; exact .str x
  | .list ds, _, c, h => by
    cases h with
    | lst n e r => exact .lst (SqL.of e) (RpA.dp ds _ (by simpa [PyData.canLay0] using c) r)
  | .tuple ds, _, c, h => by
    cases h with
    | tup n e r => exact .tup (SqT.of e) (RpA.dp ds _ (by simpa [PyData.canLay0] using c) r)
  | .dict ds, _, c, h => by simp [PyData.canLay0] at c
theorem RpA.dp {K : PySem.W.Frag} {L : List Addr} {H : Hp} : ∀ (ds : List PyData) (vs : List V), PyData.canLayAll0 ds = true → RpA L H vs ds → DpAll K H vs ds
  | [], _, _, h => by cases h; exact .nil
  | d :: ds, _, c, h => by
    cases h with
    | cons a b =>
      have c' : d.canLay0 = true ∧ PyData.canLayAll0 ds = true := by simpa [PyData.canLayAll0, Bool.and_eq_true] using c
      exact .cons (Rp.dp d _ c'.1 a) (RpA.dp ds _ c'.2 b)
end
/-- the type of a datum -/
def tyN : PyData → String
  | .none => "NoneType" | .bool _ => "bool" | .int _ => "int" | .str _ => "str" | .list _ => "list" | .tuple _ => "tuple" | .dict _ => "dict"
theorem Rp.ty {K : PySem.W.Frag} {L : List Addr} {H : Hp} {v : V} {d : PyData} (h : Rp L H v d) : TyX K H v (.type (tyN d)) := by
  cases h with
  | non => exact .base .non
  | bl b => exact .base (.bl b)
  | int i => exact .base (.int i)
  | str x => exact .base (.str x)
  | lst n e r => exact .base (.lst e)
  | tup n e r => exact .base (.tup e)
  | dct n e r => exact .base (.dK e)


theorem Rp.keep {L M : List Addr} {H H' : Hp} (sub : ∀ p ∈ L, p ∈ M) (w : Wk L H H') {d : PyData} {v : V} (h : Rp M H v d) : Rp M H' v d := Rp.to (fun a o n e => ⟨n, w a o (fun z => n (sub a z)) e⟩) d v h
theorem RpA.keep {L M : List Addr} {H H' : Hp} (sub : ∀ p ∈ L, p ∈ M) (w : Wk L H H') {ds : List PyData} {vs : List V} (h : RpA M H vs ds) : RpA M H' vs ds := RpA.to (fun a o n e => ⟨n, w a o (fun z => n (sub a z)) e⟩) ds vs h

/-! ### slots, things that may change -/
inductive SD where
  | u | d (x : PyData) | m (k : Nat) | q (k : Nat) | g (ds : List (PyData × PyData)) | f (es : List PyData) | s (ns : List Int) | v (x : V) | h (φ : Addr → HO) | w (φ : List Addr → Hp → V → Prop)
inductive MD where
  | l (es : List PyData)
  | r (ks : List Nat)
  | k (ds : List (PyData × PyData))
  | t (m : List (List Key × PyData))
  | z (o : Obj) (kvs : List (Key × V)) (ds : List (PyData × PyData))
section
variable {K : PySem.W.Frag}
def MOk (L M : List Addr) (H : Hp) (j : Nat) (p : Addr) : MD → Prop
  | .l es => ∃ xs, H p = some (.lst xs) ∧ RpA M H xs es
  | .r ks => ∃ ps : List Addr, H p = some (.lst (ps.map V.ref)) ∧ ps.length = ks.length ∧ ∀ (i k : Nat) (q : Addr), ks[i]? = some k → ps[i]? = some q → L[k]? = some q ∧ k < j
  | .k ds => ∃ kvs, H p = some (.dK kvs) ∧ RpK M H kvs ds
  | .t m => ∃ kvs, H p = some (.dT kvs) ∧ Rt M H kvs m
  | .z o kvs ds => H p = some (.frz o (.dK kvs)) ∧ RpK M H kvs ds
def NTup : HO → Prop
  | .tup _ => False
  | _ => True
/-- L: what may change, as ms tells it; M: all that is no part of data -/
structure At (L M : List Addr) (ms : List MD) (H : Hp) : Prop where
  nd : L.Nodup
  sub : ∀ p ∈ L, p ∈ M
  al : ∀ p ∈ M, ∃ o, H p = some o ∧ NTup o
  ln : L.length = ms.length
  ok : ∀ (k : Nat) (p : Addr) (m : MD), L[k]? = some p → ms[k]? = some m → MOk L M H k p m
section
variable {L M : List Addr} {ms : List MD} {H H' : Hp}
theorem MOk.toL {L L' M M' : List Addr} {p : Addr} {j : Nat} {m : MD} (t : To M M' H H') (hl : ∀ (k : Nat) (q : Addr), k < j → L[k]? = some q → L'[k]? = some q) (e : H' p = H p) (h : MOk L M H j p m) : MOk L' M' H' j p m := by
  cases m with
  | l es =>
    obtain ⟨xs, e1, r⟩ := h
    exact ⟨xs, by rw [e]; exact e1, RpA.to t _ _ r⟩
  | r ks =>
    obtain ⟨ps, e1, ln, r⟩ := h
    exact ⟨ps, by rw [e]; exact e1, ln, fun i k q h1 h2 => ⟨hl k q (r i k q h1 h2).2 (r i k q h1 h2).1, (r i k q h1 h2).2⟩⟩
  | k ds =>
    obtain ⟨kvs, e1, r⟩ := h
    exact ⟨kvs, by rw [e]; exact e1, r.toP t⟩
  | t ds =>
    obtain ⟨kvs, e1, r⟩ := h
    exact ⟨kvs, by rw [e]; exact e1, r.toP t⟩
  | z o kvs ds =>
    obtain ⟨e1, r⟩ := h
    exact ⟨by rw [e]; exact e1, r.toP t⟩
theorem MOk.to {L M M' : List Addr} {p : Addr} {j : Nat} {m : MD} (t : To M M' H H') (e : H' p = H p) (h : MOk L M H j p m) : MOk L M' H' j p m := h.toL t (fun _ _ _ q => q) e
theorem At.fresh (h : At L M ms H) {p : Addr} (e : H p = none) : p ∉ M := fun z => by
  obtain ⟨o, eo, _⟩ := h.al p z
  rw [e] at eo
  cases eo
theorem At.freshL (h : At L M ms H) {p : Addr} (e : H p = none) : p ∉ L := fun z => h.fresh e (h.sub p z)
theorem At.wk (h : At L M ms H) (w : Wk L H H') : To M M H H' := fun a o n e => ⟨n, w a o (fun z => n (h.sub a z)) e⟩
theorem At.new (h : At L M ms H) {p : Addr} {o : HO} (e : H p = none) : At L M ms (upd H p o) := by
  have ne : ∀ q, q ∈ M → q ≠ p := fun q hq z => h.fresh e (z ▸ hq)
  refine ⟨h.nd, h.sub, fun q hq => by rw [upd_ne (ne q hq)]; exact h.al q hq, h.ln, fun k q m e1 e2 => ?_⟩
  exact (h.ok k q m e1 e2).to (h.wk (Wk.new e)) (upd_ne (ne q (h.sub q (List.mem_of_getElem? e1))))
theorem At.put (h : At L M ms H) {k : Nat} {p : Addr} {xs xs0 : List V} {es : List PyData} (hk : L[k]? = some p) (e0 : H p = some (.lst xs0)) (r : RpA M H xs es) : At L M (ms.set k (.l es)) (upd H p (.lst xs)) := by
  have hp : p ∈ L := List.mem_of_getElem? hk
  have t : To M M H (upd H p (.lst xs)) := h.wk (Wk.mut hp e0)
  refine ⟨h.nd, h.sub, fun q hq => ?_, by rw [List.length_set]; exact h.ln, fun j q m e1 e2 => ?_⟩
  · by_cases e : q = p
    · subst e; rw [upd_same]; exact ⟨_, rfl, trivial⟩
    · rw [upd_ne e]; exact h.al q hq
  · by_cases hj : j = k
    · subst hj
      rw [e1] at hk
      cases hk
      have hl : j < ms.length := by rw [← h.ln]; exact (List.getElem?_eq_some_iff.mp e1).1
      rw [List.getElem?_set_self hl] at e2
      cases e2
      exact ⟨xs, upd_same, RpA.to t _ _ r⟩
    · rw [List.getElem?_set_ne (Ne.symm hj)] at e2
      have hq : q ≠ p := fun z => by
        subst z
        obtain ⟨l1, e1'⟩ := List.getElem?_eq_some_iff.mp e1
        obtain ⟨l2, e2'⟩ := List.getElem?_eq_some_iff.mp hk
        exact hj ((List.getElem_inj h.nd).mp (e1'.trans e2'.symm))
      exact (h.ok j q m e1 e2).to t (upd_ne hq)
theorem At.get (h : At L M ms H) {k : Nat} {p : Addr} {es : List PyData} (hk : L[k]? = some p) (e : ms[k]? = some (.l es)) : ∃ xs, H p = some (.lst xs) ∧ RpA M H xs es := h.ok k p _ hk e
/-- a new thing that may change -/
theorem to_new {p : Addr} (h : At L M ms H) (hp : H p = none) (w : Wk L H H') : To M (M ++ [p]) H H' := fun a o n e =>
  ⟨fun z => (List.mem_append.mp z).elim n fun z => ne_of_none e hp (by simpa using z), w a o (fun z => n (h.sub a z)) e⟩
theorem At.grow {p : Addr} {xs : List V} {es : List PyData} (h : At L M ms H) (hp : H p = none) (r : RpA M H xs es) : At (L ++ [p]) (M ++ [p]) (ms ++ [.l es]) (upd H p (.lst xs)) := by
  have n := h.freshL hp
  have t : To M (M ++ [p]) H (upd H p (.lst xs)) := to_new h hp (Wk.new hp)
  refine ⟨List.nodup_append.mpr ⟨h.nd, by simp, fun a ha b hb e => n (by simp at hb; subst hb e; exact ha)⟩, ?_, ?_, by simp [h.ln], fun k q m e1 e2 => ?_⟩
  · intro q hq
    rcases List.mem_append.mp hq with z | z
    · exact List.mem_append_left _ (h.sub q z)
    · exact List.mem_append_right _ z
  · intro q hq
    by_cases e : q = p
    · subst e; rw [upd_same]; exact ⟨_, rfl, trivial⟩
    · rw [upd_ne e]
      rcases List.mem_append.mp hq with z | z
      · exact h.al q z
      · exact absurd (by simpa using z) e
  · by_cases hk : k < L.length
    · rw [List.getElem?_append_left hk] at e1
      rw [List.getElem?_append_left (by rw [← h.ln]; exact hk)] at e2
      have hq : q ≠ p := fun z => n (z ▸ List.mem_of_getElem? e1)
      exact (h.ok k q m e1 e2).toL t (fun k' q' _ z => by rw [List.getElem?_append_left (List.getElem?_eq_some_iff.mp z).1]; exact z) (upd_ne hq)
    · have hk2 : k = L.length := by
        have := (List.getElem?_eq_some_iff.mp e1).1
        simp at this
        omega
      subst hk2
      simp at e1
      subst e1
      rw [h.ln] at e2
      simp at e2
      subst e2
      exact ⟨xs, upd_same, RpA.to t _ _ r⟩
theorem to_less {p : Addr} : To (M ++ [p]) M H H := fun a o n e => ⟨fun z => n (List.mem_append_left _ z), e⟩
theorem At.drop {p : Addr} {m : MD} (h : At (L ++ [p]) (M ++ [p]) (ms ++ [m]) H) (hl : ∀ q ∈ L, q ∈ M) : At L M ms H :=
  ⟨(List.nodup_append.mp h.nd).1, hl, fun q hq => h.al q (List.mem_append_left _ hq), by have := h.ln; simp at this; exact this, fun k q x e1 e2 => by
    have h1 : k < L.length := (List.getElem?_eq_some_iff.mp e1).1
    have h2 : k < ms.length := (List.getElem?_eq_some_iff.mp e2).1
    exact (h.ok k q x (by rw [List.getElem?_append_left h1]; exact e1) (by rw [List.getElem?_append_left h2]; exact e2)).toL to_less (fun k' q' hlt z => by rw [List.getElem?_append_left (by omega)] at z; exact z) rfl⟩
theorem At.last {p : Addr} {es : List PyData} (h : At (L ++ [p]) (M ++ [p]) (ms ++ [.l es]) H) : ∃ xs, H p = some (.lst xs) ∧ RpA (M ++ [p]) H xs es := by
  have hl : L.length = ms.length := by have := h.ln; simp at this; exact this
  exact h.ok L.length p (.l es) (by simp) (by rw [hl]; simp)
theorem At.putK (h : At L M ms H) {k : Nat} {p : Addr} {xs xs0 : List (Key × V)} {es : List (PyData × PyData)} (hk : L[k]? = some p) (e0 : H p = some (.dK xs0)) (r : RpK M H xs es) : At L M (ms.set k (.k es)) (upd H p (.dK xs)) := by
  have hp : p ∈ L := List.mem_of_getElem? hk
  have t : To M M H (upd H p (.dK xs)) := h.wk (Wk.mut hp e0)
  refine ⟨h.nd, h.sub, fun q hq => ?_, by rw [List.length_set]; exact h.ln, fun j q m e1 e2 => ?_⟩
  · by_cases e : q = p
    · subst e; rw [upd_same]; exact ⟨_, rfl, trivial⟩
    · rw [upd_ne e]; exact h.al q hq
  · by_cases hj : j = k
    · subst hj
      rw [e1] at hk
      cases hk
      have hl : j < ms.length := by rw [← h.ln]; exact (List.getElem?_eq_some_iff.mp e1).1
      rw [List.getElem?_set_self hl] at e2
      cases e2
      exact ⟨xs, upd_same, r.toP t⟩
    · rw [List.getElem?_set_ne (Ne.symm hj)] at e2
      have hq : q ≠ p := fun z => by
        subst z
        obtain ⟨l1, e1'⟩ := List.getElem?_eq_some_iff.mp e1
        obtain ⟨l2, e2'⟩ := List.getElem?_eq_some_iff.mp hk
        exact hj ((List.getElem_inj h.nd).mp (e1'.trans e2'.symm))
      exact (h.ok j q m e1 e2).to t (upd_ne hq)
theorem At.growK {p : Addr} {xs : List (Key × V)} {es : List (PyData × PyData)} (h : At L M ms H) (hp : H p = none) (r : RpK M H xs es) : At (L ++ [p]) (M ++ [p]) (ms ++ [.k es]) (upd H p (.dK xs)) := by
  have n := h.freshL hp
  have t : To M (M ++ [p]) H (upd H p (.dK xs)) := to_new h hp (Wk.new hp)
  refine ⟨List.nodup_append.mpr ⟨h.nd, by simp, fun a ha b hb e => n (by simp at hb; subst hb e; exact ha)⟩, ?_, ?_, by simp [h.ln], fun k q m e1 e2 => ?_⟩
  · intro q hq
    rcases List.mem_append.mp hq with z | z
    · exact List.mem_append_left _ (h.sub q z)
    · exact List.mem_append_right _ z
  · intro q hq
    by_cases e : q = p
    · subst e; rw [upd_same]; exact ⟨_, rfl, trivial⟩
    · rw [upd_ne e]
      rcases List.mem_append.mp hq with z | z
      · exact h.al q z
      · exact absurd (by simpa using z) e
  · by_cases hk : k < L.length
    · rw [List.getElem?_append_left hk] at e1
      rw [List.getElem?_append_left (by rw [← h.ln]; exact hk)] at e2
      have hq : q ≠ p := fun z => n (z ▸ List.mem_of_getElem? e1)
      exact (h.ok k q m e1 e2).toL t (fun k' q' _ z => by rw [List.getElem?_append_left (List.getElem?_eq_some_iff.mp z).1]; exact z) (upd_ne hq)
    · have hk2 : k = L.length := by
        have := (List.getElem?_eq_some_iff.mp e1).1
        simp at this
        omega
      subst hk2
      simp at e1
      subst e1
      rw [h.ln] at e2
      simp at e2
      subst e2
      exact ⟨xs, upd_same, r.toP t⟩
theorem At.lastK {p : Addr} {es : List (PyData × PyData)} (h : At (L ++ [p]) (M ++ [p]) (ms ++ [.k es]) H) : ∃ xs, H p = some (.dK xs) ∧ RpK (M ++ [p]) H xs es := by
  have hl : L.length = ms.length := by have := h.ln; simp at this; exact this
  exact h.ok L.length p (.k es) (by simp) (by rw [hl]; simp)
theorem At.getK (h : At L M ms H) {k : Nat} {p : Addr} {es : List (PyData × PyData)} (hk : L[k]? = some p) (e : ms[k]? = some (.k es)) : ∃ xs, H p = some (.dK xs) ∧ RpK M H xs es := h.ok k p _ hk e
end
/-- a dict, of either kind -/
def IsDc (H : Hp) (p : Addr) : Prop := ∃ o, H p = some o ∧ (kindO o = 2 ∨ kindO o = 3)
/-- a fact that stays where what lies outside stays -/
def Stb (φ : List Addr → Hp → V → Prop) : Prop := ∀ (M M' : List Addr) (H H' : Hp) (v : V), To M M' H H' → φ M H v → φ M' H' v
def SlOk (K : PySem.W.Frag) (L M : List Addr) (H : Hp) : SD → V → Prop
  | .d x, v => Rp M H v x
  | .m k, v => ∃ p, v = .ref p ∧ L[k]? = some p ∧ ∃ xs, H p = some (.lst xs)
  | .q k, v => ∃ p, v = .ref p ∧ L[k]? = some p ∧ IsDc H p
  | .s ns, v => ∃ a, v = .ref a ∧ ((a ∉ M ∧ Rd H a (.lst (ns.map V.int))) ∨ ∀ H' : Hp, SqL K H' a (ns.map V.int))
  | .v x, v => v = x
  | .h φ, v => ∃ a, v = .ref a ∧ a ∉ M ∧ H a = some (φ a)
  | .w φ, v => φ M H v ∧ Stb φ
  | _, _ => False
section
variable {L M : List Addr} {ms : List MD} {H H' : Hp} {σ : L2.St} {ds : List SD}
theorem kind_lst {p : Addr} {xs : List V} (kd : ∀ a o, H a = some o → ∃ o', H' a = some o' ∧ kindO o' = kindO o) (e : H p = some (.lst xs)) : ∃ ys, H' p = some (.lst ys) := by
  obtain ⟨o, e', k⟩ := kd p _ e
  cases o <;> first | exact ⟨_, e'⟩ | cases k | (rename_i b; cases b <;> cases k)
theorem IsDc.kind {p : Addr} (kd : ∀ a o, H a = some o → ∃ o', H' a = some o' ∧ kindO o' = kindO o) (h : IsDc H p) : IsDc H' p := by
  obtain ⟨o, e, k⟩ := h
  obtain ⟨o', e', k'⟩ := kd p o e
  exact ⟨o', e', by rw [k']; exact k⟩
theorem IsDc.notL {p : Addr} {xs : List V} (h : IsDc H p) (e : H p = some (.lst xs)) : False := by
  obtain ⟨o, e1, k⟩ := h
  rw [e] at e1
  cases e1
  rcases k with k | k <;> cases k
theorem SlOk.to {L' M' : List Addr} (t : To M M' H H') (kd : ∀ a o, H a = some o → ∃ o', H' a = some o' ∧ kindO o' = kindO o) (hl : ∀ (k : Nat) (p : Addr), L[k]? = some p → L'[k]? = some p) : ∀ {s : SD} {v : V}, SlOk K L M H s v → SlOk K L' M' H' s v
  | .d x, v, h => Rp.to t _ _ h
  | .m k, v, ⟨p, e, q, xs, x⟩ => ⟨p, e, hl k p q, kind_lst kd x⟩
  | .q k, v, ⟨p, e, q, x⟩ => ⟨p, e, hl k p q, x.kind kd⟩
  | .s ns, v, ⟨a, e, .inl ⟨n, q⟩⟩ => ⟨a, e, .inl (by
      rcases q with q | ⟨o, q⟩
      · exact ⟨(t _ _ n q).1, .inl (t _ _ n q).2⟩
      · exact ⟨(t _ _ n q).1, .inr ⟨o, (t _ _ n q).2⟩⟩)⟩
  | .s ns, v, ⟨a, e, .inr q⟩ => ⟨a, e, .inr q⟩
  | .v x, v, h => h
  | .h φ, v, ⟨a, e, n, q⟩ => ⟨a, e, (t _ _ n q).1, (t _ _ n q).2⟩
  | .w φ, v, ⟨h, st⟩ => ⟨st _ _ _ _ _ t h, st⟩
  | .u, _, h => h.elim
  | .f _, _, h => h.elim
  | .g _, _, h => h.elim
theorem SlOk.mono (h : At L M ms H) (w : Wk L H H') {s : SD} {v : V} (r : SlOk K L M H s v) : SlOk K L M H' s v := r.to (h.wk w) w.kd fun _ _ e => e
def Sl (K : PySem.W.Frag) (L M : List Addr) (σ : L2.St) (H : Hp) (ds : List SD) : Prop := ∀ (i : Nat) (s : SD), ds[i]? = some s → match s with | .u => i < σ.length | s => ∃ v, σ[i]? = some (some v) ∧ SlOk K L M H s v
theorem Sl.lt (h : Sl K L M σ H ds) {i : Nat} (hi : i < ds.length) : i < σ.length := by
  have q := h i ds[i] (by simp [hi])
  split at q
  · exact q
  · obtain ⟨v, e, _⟩ := q
    exact (List.getElem?_eq_some_iff.mp e).1
theorem Sl.get (h : Sl K L M σ H ds) {i : Nat} {s : SD} (e : ds[i]? = some s) (n : s ≠ .u) : ∃ v, σ[i]? = some (some v) ∧ SlOk K L M H s v := by
  have q := h i s e
  split at q
  · exact absurd rfl n
  · exact q
theorem Sl.to {L' M' : List Addr} (t : To M M' H H') (kd : ∀ a o, H a = some o → ∃ o', H' a = some o' ∧ kindO o' = kindO o) (hl : ∀ (k : Nat) (p : Addr), L[k]? = some p → L'[k]? = some p) (h : Sl K L M σ H ds) : Sl K L' M' σ H' ds := fun i s e => by
  have q := h i s e
  split at q
  · exact q
  · obtain ⟨v, e1, e2⟩ := q
    exact ⟨v, e1, e2.to t kd hl⟩
theorem Sl.mono (a : At L M ms H) (w : Wk L H H') (h : Sl K L M σ H ds) : Sl K L M σ H' ds := h.to (a.wk w) w.kd fun _ _ e => e
theorem Sl.set (h : Sl K L M σ H ds) (i : Nat) {s : SD} {v : V} (r : SlOk K L M H s v) : Sl K L M (σ.set i (some v)) H (ds.set i s) := fun j t e => by
  by_cases hj : j = i
  · subst hj
    have hl : j < ds.length := by
      have := (List.getElem?_eq_some_iff.mp e).1
      rwa [List.length_set] at this
    rw [List.getElem?_set_self hl] at e
    cases e
    have hs := h.lt hl
    cases s with
    | u => exact r.elim
    | f _ => exact r.elim
    | g _ => exact r.elim
    | d x => exact ⟨v, List.getElem?_set_self hs, r⟩
    | m k => exact ⟨v, List.getElem?_set_self hs, r⟩
    | q k => exact ⟨v, List.getElem?_set_self hs, r⟩
    | s ns => exact ⟨v, List.getElem?_set_self hs, r⟩
    | v x => exact ⟨v, List.getElem?_set_self hs, r⟩
    | h φ => exact ⟨v, List.getElem?_set_self hs, r⟩
    | w φ => exact ⟨v, List.getElem?_set_self hs, r⟩
  · rw [List.getElem?_set_ne (Ne.symm hj)] at e
    have q := h j t e
    split at q
    · show j < (σ.set i (some v)).length
      rw [List.length_set]; exact q
    · obtain ⟨w, e1, e2⟩ := q
      exact ⟨w, by rw [List.getElem?_set_ne (Ne.symm hj)]; exact e1, e2⟩
theorem Sl.forget (h : Sl K L M σ H ds) (i : Nat) (o : Option V) : Sl K L M (σ.set i o) H (ds.set i .u) := fun j t e => by
  by_cases hj : j = i
  · subst hj
    have hl : j < ds.length := by
      have := (List.getElem?_eq_some_iff.mp e).1
      rwa [List.length_set] at this
    rw [List.getElem?_set_self hl] at e
    cases e
    show j < (σ.set j o).length
    rw [List.length_set]; exact h.lt hl
  · rw [List.getElem?_set_ne (Ne.symm hj)] at e
    have q := h j t e
    split at q
    · show j < (σ.set i o).length
      rw [List.length_set]; exact q
    · obtain ⟨w, e1, e2⟩ := q
      exact ⟨w, by rw [List.getElem?_set_ne (Ne.symm hj)]; exact e1, e2⟩
end
def wipeD (ds : List SD) : List Nat → List SD
  | [] => ds
  | v :: vs => (wipeD ds vs).set v .u
theorem Sl.wipe {L M : List Addr} {σ : L2.St} {H : Hp} {ds : List SD} (h : Sl K L M σ H ds) : ∀ vs : List Nat, Sl K L M (L2.wipe σ vs) H (wipeD ds vs)
  | [] => h
  | v :: vs => (Sl.wipe h vs).forget v none
/-- what comes out of an evaluation that began at H -/
def Out (K : PySem.W.Frag) (L M : List Addr) (H H' : Hp) (ms : List MD) (v : V) : SD → Prop
  | .f es => ∃ p, v = .ref p ∧ H p = none ∧ p ∉ M ∧ At (L ++ [p]) (M ++ [p]) (ms ++ [.l es]) H' ∧ ∀ q ∈ L, q ∈ M
  | .g es => ∃ p, v = .ref p ∧ H p = none ∧ p ∉ M ∧ At (L ++ [p]) (M ++ [p]) (ms ++ [.k es]) H' ∧ ∀ q ∈ L, q ∈ M
  | s => At L M ms H' ∧ SlOk K L M H' s v
def dd : SD → SD
  | .f es => .d (.list es)
  | .g es => .d (.dict es)
  | s => s
section
variable {L M : List Addr} {ms : List MD} {H0 H H' : Hp} {v : V}
theorem Out.dd : ∀ {s : SD}, Out K L M H H' ms v s → Out K L M H H' ms v (dd s)
  | .f es, ⟨p, e, _, n, a, sb⟩ => by
    obtain ⟨xs, e1, r⟩ := a.last
    refine ⟨a.drop sb, ?_⟩
    subst e
    exact .lst n e1 (RpA.to to_less _ _ r)
  | .g es, ⟨p, e, _, n, a, sb⟩ => by
    obtain ⟨xs, e1, r⟩ := a.lastK
    refine ⟨a.drop sb, ?_⟩
    subst e
    exact .dct n e1 (r.toP to_less)
  | .d x, h => h
  | .m k, h => h
  | .q k, h => h
  | .s ns, h => h
  | .v x, h => h
  | .h x, h => h
  | .w x, h => h
  | .u, h => h
theorem none_back (a : At L M ms H) {p : Addr} (w : Wk L H0 H) (n : p ∉ M) (h : H p = none) : H0 p = none := by
  cases q : H0 p with
  | none => rfl
  | some o =>
    rw [w p o (fun z => n (a.sub p z)) q] at h
    cases h
theorem Out.back (a : At L M ms0 H) (w : Wk L H0 H) : ∀ {s : SD}, Out K L M H H' ms v s → Out K L M H0 H' ms v s
  | .f es, ⟨p, e, h, n, b, sb⟩ => ⟨p, e, none_back a w n h, n, b, sb⟩
  | .g es, ⟨p, e, h, n, b, sb⟩ => ⟨p, e, none_back a w n h, n, b, sb⟩
  | .d x, h => h
  | .m k, h => h
  | .q k, h => h
  | .s ns, h => h
  | .v x, h => h
  | .h x, h => h
  | .w x, h => h
  | .u, h => h
theorem Out.at : ∀ {s : SD}, Out K L M H H' ms v s → At L M ms H'
  | .f es, ⟨p, _, _, _, a, sb⟩ => a.drop sb
  | .g es, ⟨p, _, _, _, a, sb⟩ => a.drop sb
  | .d _, h => h.1
  | .m _, h => h.1
  | .q _, h => h.1
  | .s _, h => h.1
  | .v _, h => h.1
  | .h _, h => h.1
  | .w _, h => h.1
  | .u, h => h.1
theorem Out.of (a : At L M ms H') : ∀ {s : SD}, SlOk K L M H' s v → Out K L M H H' ms v s
  | .d x, h => ⟨a, h⟩
  | .m k, h => ⟨a, h⟩
  | .q k, h => ⟨a, h⟩
  | .s ns, h => ⟨a, h⟩
  | .v x, h => ⟨a, h⟩
  | .h x, h => ⟨a, h⟩
  | .w x, h => ⟨a, h⟩
  | .u, h => h.elim
  | .f _, h => h.elim
  | .g _, h => h.elim
theorem Out.sl : ∀ {s : SD}, Out K L M H H' ms v s → SlOk K L M H' (Hc.dd s) v
  | .f es, h => (Out.dd h).2
  | .g es, h => (Out.dd h).2
  | .d _, h => h.2
  | .m _, h => h.2
  | .q _, h => h.2
  | .s _, h => h.2
  | .v _, h => h.2
  | .h _, h => h.2
  | .w _, h => h.2
  | .u, h => h.2
end

/-! ### evaluations, at the level of data -/
abbrev RS := SD → List MD → Prop
def E (K : PySem.W.Frag) (te : TE) (ds : List SD) (ms : List MD) (R : RS) : Prop :=
  ∀ (L M : List Addr) (σ : L2.St) (H : Hp), Sl K L M σ H ds → At L M ms H → ∀ Q : VK, (∀ s v H' ms', Wk L H H' → Out K L M H H' ms' v s → R s ms' → Q v H') → te σ H Q
def ET (K : PySem.W.Frag) (tt : TT) (ds : List SD) (ms : List MD) (R : Bool → List MD → Prop) : Prop :=
  ∀ (L M : List Addr) (σ : L2.St) (H : Hp), Sl K L M σ H ds → At L M ms H → ∀ Q : Bool → Hp → Prop, (∀ b H' ms', Wk L H H' → At L M ms' H' → R b ms' → Q b H') → tt σ H Q
def SlsOk (K : PySem.W.Frag) (L M : List Addr) (H : Hp) : List SD → List V → Prop
  | [], vs => vs = []
  | s :: r, vs => ∃ v t, vs = v :: t ∧ SlOk K L M H s v ∧ SlsOk K L M H r t
theorem SlsOk.mono {L M : List Addr} {ms : List MD} {H H' : Hp} (h : At L M ms H) (w : Wk L H H') : ∀ {as : List SD} {vs : List V}, SlsOk K L M H as vs → SlsOk K L M H' as vs
  | [], _, r => r
  | s :: r, _, ⟨v, t, e, a, b⟩ => ⟨v, t, e, a.mono h w, SlsOk.mono h w b⟩
def EA (K : PySem.W.Frag) (ta : TA) (ds : List SD) (ms : List MD) (R : List SD → List MD → Prop) : Prop :=
  ∀ (L M : List Addr) (σ : L2.St) (H : Hp), Sl K L M σ H ds → At L M ms H → ∀ Q : List V → Hp → Prop, (∀ as vs H' ms', Wk L H H' → At L M ms' H' → SlsOk K L M H' as vs → R as ms' → Q vs H') → ta σ H Q
/-- operations on values -/
def RR (K : PySem.W.Frag) (r : R2) (a b : SD) (ms : List MD) (R : RS) : Prop :=
  ∀ (L M : List Addr) (H : Hp) (x y : V), At L M ms H → SlOk K L M H a x → SlOk K L M H b y → ∀ Q : VK, (∀ s v H' ms', Wk L H H' → Out K L M H H' ms' v s → R s ms' → Q v H') → r x y H Q
def RU (K : PySem.W.Frag) (r : V → Hp → VK → Prop) (a : SD) (ms : List MD) (R : RS) : Prop :=
  ∀ (L M : List Addr) (H : Hp) (x : V), At L M ms H → SlOk K L M H a x → ∀ Q : VK, (∀ s v H' ms', Wk L H H' → Out K L M H H' ms' v s → R s ms' → Q v H') → r x H Q
def RC (K : PySem.W.Frag) (r : List V → Hp → VK → Prop) (as : List SD) (ms : List MD) (R : RS) : Prop :=
  ∀ (L M : List Addr) (H : Hp) (vs : List V), At L M ms H → SlsOk K L M H as vs → ∀ Q : VK, (∀ s v H' ms', Wk L H H' → Out K L M H H' ms' v s → R s ms' → Q v H') → r vs H Q

variable {te ta tb tc : TE} {tt tu : TT} {tA tB : TA} {ds : List SD} {ms : List MD} {R : RS}
theorem e_var {i : Nat} {x : PyData} (h : ds[i]? = some (.d x)) (r : R (.d x) ms) : E K (tVar i) ds ms R := fun L M σ H hS hA Q q => by
  obtain ⟨v, e, o⟩ := hS.get h (fun z => nomatch z)
  exact ⟨v, e, q _ v H ms (Wk.refl L H) (.of hA o) r⟩
theorem e_varm {i k : Nat} (h : ds[i]? = some (.m k)) (r : R (.m k) ms) : E K (tVar i) ds ms R := fun L M σ H hS hA Q q => by
  obtain ⟨v, e, o⟩ := hS.get h (fun z => nomatch z)
  exact ⟨v, e, q _ v H ms (Wk.refl L H) (.of hA o) r⟩
theorem e_vars {i : Nat} {ns : List Int} (h : ds[i]? = some (.s ns)) (r : R (.s ns) ms) : E K (tVar i) ds ms R := fun L M σ H hS hA Q q => by
  obtain ⟨v, e, o⟩ := hS.get h (fun z => nomatch z)
  exact ⟨v, e, q _ v H ms (Wk.refl L H) (.of hA o) r⟩
theorem e_int {i : Int} (r : R (.d (.int i)) ms) : E K (tC (.int i)) ds ms R := fun L M σ H hS hA Q q => q (.d (.int i)) _ H ms (Wk.refl L H) ⟨hA, .int i⟩ r
theorem e_bl {i : Bool} (r : R (.d (.bool i)) ms) : E K (tC (.bl i)) ds ms R := fun L M σ H hS hA Q q => q (.d (.bool i)) _ H ms (Wk.refl L H) ⟨hA, .bl i⟩ r
theorem e_non (r : R (.d .none) ms) : E K (tC .non) ds ms R := fun L M σ H hS hA Q q => q (.d .none) _ H ms (Wk.refl L H) ⟨hA, .non⟩ r
theorem e_str {x : Str} (r : R (.d (.str x)) ms) : E K (tC (.str x)) ds ms R := fun L M σ H hS hA Q q => q (.d (.str x)) _ H ms (Wk.refl L H) ⟨hA, .str x⟩ r
/-- two operands, then the operation -/
theorem e_op {r : R2} (h : E K ta ds ms fun a ms1 => E K tb ds ms1 fun b ms2 => RR K r (dd a) (dd b) ms2 R) : E K (tOp r ta tb) ds ms R := fun L M σ H hS hA Q q =>
  h L M σ H hS hA _ fun a x H1 ms1 w1 o1 h1 => h1 L M σ H1 (hS.mono hA w1) o1.at _ fun b y H2 ms2 w2 o2 h2 =>
    h2 L M H2 x y o2.at (o1.sl.mono o1.at w2) o2.sl Q fun s v H3 ms3 w3 o3 r3 => q s v H3 ms3 ((w1.trans w2).trans w3) (o3.back o2.at (w1.trans w2)) r3
theorem e_un {r : V → Hp → VK → Prop} (h : E K ta ds ms fun a ms1 => RU K r (dd a) ms1 R) : E K (tUn r ta) ds ms R := fun L M σ H hS hA Q q =>
  h L M σ H hS hA _ fun a x H1 ms1 w1 o1 h1 => h1 L M H1 x o1.at o1.sl Q fun s v H3 ms3 w3 o3 r3 => q s v H3 ms3 (w1.trans w3) (o3.back o1.at w1) r3
theorem ea_nil {R : List SD → List MD → Prop} (r : R [] ms) : EA K tNil ds ms R := fun L M σ H hS hA Q q => q [] [] H ms (Wk.refl L H) hA rfl r
theorem ea_cons {R : List SD → List MD → Prop} (h : E K ta ds ms fun a ms1 => EA K tA ds ms1 fun as ms2 => R (dd a :: as) ms2) : EA K (tCons ta tA) ds ms R := fun L M σ H hS hA Q q =>
  h L M σ H hS hA _ fun a x H1 ms1 w1 o1 h1 => h1 L M σ H1 (hS.mono hA w1) o1.at _ fun as vs H2 ms2 w2 a2 o2 r2 => q (dd a :: as) (x :: vs) H2 ms2 (w1.trans w2) a2 ⟨x, vs, rfl, o1.sl.mono o1.at w2, o2⟩ r2
theorem e_cb {r : List V → Hp → VK → Prop} (h : EA K tA ds ms fun as ms1 => RC K r as ms1 R) : E K (tCB r tA) ds ms R := fun L M σ H hS hA Q q =>
  h L M σ H hS hA _ fun as vs H1 ms1 w1 a1 o1 h1 => h1 L M H1 vs a1 o1 Q fun s v H3 ms3 w3 o3 r3 => q s v H3 ms3 (w1.trans w3) (o3.back a1 w1) r3
theorem SlsOk.data {L M : List Addr} {H : Hp} : ∀ {as : List PyData} {vs : List V}, SlsOk K L M H (as.map .d) vs → RpA M H vs as
  | [], _, h => by cases h; exact .nil
  | a :: r, _, ⟨v, t, e, x, y⟩ => by subst e; exact .cons x (SlsOk.data y)
/-- new tuples and lists -/
theorem e_tup (h : EA K tA ds ms fun as ms1 => ∃ xs, as = xs.map SD.d ∧ xs.length ≤ 10000 ∧ R (.d (.tuple xs)) ms1) : E K (tTup tA) ds ms R := fun L M σ H hS hA Q q =>
  h L M σ H hS hA _ fun as vs H1 ms1 w1 a1 o1 ⟨xs, e, hz, r⟩ => by
    subst e
    have hr := o1.data
    refine ⟨by rw [hr.length]; exact Nat.le_trans hz (by decide), fun p hp => ?_⟩
    refine q (.d (.tuple xs)) _ _ ms1 (w1.trans (Wk.new hp)) ⟨a1.new hp, ?_⟩ r
    exact .tup (a1.fresh hp) upd_same (RpA.to (a1.wk (Wk.new hp)) _ _ hr)
theorem out_new {L M : List Addr} {H H1 : Hp} {ms1 : List MD} {p : Addr} {xs : List V} {es : List PyData} (a1 : At L M ms1 H1) (w1 : Wk L H H1) (hp : H1 p = none) (hr : RpA M H1 xs es) : Out K L M H (upd H1 p (.lst xs)) ms1 (.ref p) (.f es) :=
  ⟨p, rfl, none_back a1 w1 (a1.fresh hp) hp, a1.fresh hp, a1.grow hp hr, a1.sub⟩
theorem out_newK {L M : List Addr} {H H1 : Hp} {ms1 : List MD} {p : Addr} {xs : List (Key × V)} {es : List (PyData × PyData)} (a1 : At L M ms1 H1) (w1 : Wk L H H1) (hp : H1 p = none) (hr : RpK M H1 xs es) : Out K L M H (upd H1 p (.dK xs)) ms1 (.ref p) (.g es) :=
  ⟨p, rfl, none_back a1 w1 (a1.fresh hp) hp, a1.fresh hp, a1.growK hp hr, a1.sub⟩
theorem e_lst (h : EA K tA ds ms fun as ms1 => ∃ xs, as = xs.map SD.d ∧ xs.length ≤ 10000 ∧ R (.f xs) ms1) : E K (tLst tA) ds ms R := fun L M σ H hS hA Q q =>
  h L M σ H hS hA _ fun as vs H1 ms1 w1 a1 o1 ⟨xs, e, hz, r⟩ => by
    subst e
    have hr := o1.data
    refine ⟨by rw [hr.length]; exact Nat.le_trans hz (by decide), fun p hp => ?_⟩
    exact q (.f xs) _ _ ms1 (w1.trans (Wk.new hp)) (out_new a1 w1 hp hr) r
/-! operations -/
theorem rr_I0 {g : Int → Int → Int} {a b : SD} (h : ∃ i j, a = .d (.int i) ∧ b = .d (.int j) ∧ R (.d (.int (g i j))) ms) : RR K (rI0 fun i j => .int (g i j)) a b ms R := fun L M H x y hA ha hb Q q => by
  obtain ⟨i, j, rfl, rfl, r⟩ := h
  cases ha; cases hb
  exact ⟨i, j, rfl, rfl, q (.d _) _ H ms (Wk.refl L H) ⟨hA, .int _⟩ r⟩
theorem rr_B0 {g : Int → Int → Bool} {a b : SD} (h : ∃ i j, a = .d (.int i) ∧ b = .d (.int j) ∧ R (.d (.bool (g i j))) ms) : RR K (rI0 fun i j => .bl (g i j)) a b ms R := fun L M H x y hA ha hb Q q => by
  obtain ⟨i, j, rfl, rfl, r⟩ := h
  cases ha; cases hb
  exact ⟨i, j, rfl, rfl, q (.d _) _ H ms (Wk.refl L H) ⟨hA, .bl _⟩ r⟩
theorem rr_I {C : Int → Int → Prop} {g : Int → Int → Int} {a b : SD} (h : ∃ i j, a = .d (.int i) ∧ b = .d (.int j) ∧ C i j ∧ R (.d (.int (g i j))) ms) : RR K (rI C fun i j => .int (g i j)) a b ms R := fun L M H x y hA ha hb Q q => by
  obtain ⟨i, j, rfl, rfl, c, r⟩ := h
  cases ha; cases hb
  exact ⟨i, j, rfl, rfl, c, q (.d _) _ H ms (Wk.refl L H) ⟨hA, .int _⟩ r⟩
theorem ru_I {g : Int → Int} {a : SD} (h : ∃ i, a = .d (.int i) ∧ R (.d (.int (g i))) ms) : RU K (rU fun i => .int (g i)) a ms R := fun L M H x hA ha Q q => by
  obtain ⟨i, rfl, r⟩ := h
  cases ha
  exact ⟨i, rfl, q (.d _) _ H ms (Wk.refl L H) ⟨hA, .int _⟩ r⟩
/-- a slot's datum, as it may be read -/
inductive Sv (ms : List MD) : SD → PyData → Prop
  | d (x : PyData) : Sv ms (.d x) x
  | m {k : Nat} {es : List PyData} : ms[k]? = some (.l es) → Sv ms (.m k) (.list es)
  | s (ns : List Int) : Sv ms (.s ns) (.list (ns.map .int))
section
variable {L M : List Addr} {H : Hp} {s : SD} {x : PyData} {v : V}
theorem Sv.lst {es : List PyData} (h : Sv ms s (.list es)) (hA : At L M ms H) (o : SlOk K L M H s v) : ∃ a xs, v = .ref a ∧ SqL K H a xs ∧ RpA M H xs es := by
  cases h with
  | d =>
    cases o with
    | lst n e r => exact ⟨_, _, rfl, SqL.of e, r⟩
  | m e =>
    obtain ⟨p, rfl, hp, hls⟩ := o
    obtain ⟨xs, e1, r⟩ := hA.get hp e
    exact ⟨p, xs, rfl, SqL.of e1, r⟩
  | s ns =>
    obtain ⟨a, rfl, ⟨_, q⟩ | q⟩ := o
    · exact ⟨a, _, rfl, .inl q, RpA.ints ns⟩
    · exact ⟨a, _, rfl, q H, RpA.ints ns⟩
theorem Sv.tup {es : List PyData} (h : Sv ms s (.tuple es)) (o : SlOk K L M H s v) : ∃ a xs, v = .ref a ∧ H a = some (.tup xs) ∧ RpA M H xs es := by
  cases h with
  | d =>
    cases o with
    | tup n e r => exact ⟨_, _, rfl, e, r⟩
theorem Sv.dp (h : Sv ms s x) (hA : At L M ms H) (o : SlOk K L M H s v) (c : x.canLay0 = true) : Dp K H v x := by
  cases h with
  | d => exact Rp.dp _ _ c o
  | m e =>
    obtain ⟨a, xs, rfl, q, r⟩ := Sv.lst (.m e) hA o
    exact .lst q (RpA.dp _ _ (by simpa [PyData.canLay0] using c) r)
  | s ns =>
    obtain ⟨a, xs, rfl, q, r⟩ := Sv.lst (.s ns) hA o
    exact .lst q (RpA.dp _ _ (by simpa [PyData.canLay0] using c) r)
theorem Sv.ty (h : Sv ms s x) (hA : At L M ms H) (o : SlOk K L M H s v) (hs : ∀ ns, s ≠ .s ns) : TyX K H v (.type (tyN x)) := by
  cases h with
  | d => exact Rp.ty o
  | m e =>
    obtain ⟨p, rfl, hp, hls⟩ := o
    obtain ⟨xs, e1, r⟩ := hA.get hp e
    exact .base (.lst e1)
  | s ns => exact absurd rfl (hs ns)
end
theorem rr_eq {a b : SD} (h : ∃ x y, Sv ms a x ∧ Sv ms b y ∧ SeqAt.shaped x = true ∧ SeqAt.shaped y = true ∧ R (.d (.bool (PyData.eqv x y))) ms) : RR K (rEqD K) a b ms R := fun L M H u v hA ha hb Q q => by
  obtain ⟨x, y, ea, eb, s1, s2, r⟩ := h
  exact ⟨x, y, ea.dp hA ha (SeqAt.canLay_of_shaped s1), eb.dp hA hb (SeqAt.canLay_of_shaped s2), s1, s2, q (.d _) _ H ms (Wk.refl L H) ⟨hA, .bl _⟩ r⟩
theorem rr_ne {a b : SD} (h : ∃ x y, Sv ms a x ∧ Sv ms b y ∧ SeqAt.shaped x = true ∧ SeqAt.shaped y = true ∧ R (.d (.bool (!PyData.eqv x y))) ms) : RR K (rNeD K) a b ms R := fun L M H u v hA ha hb Q q => by
  obtain ⟨x, y, ea, eb, s1, s2, r⟩ := h
  exact ⟨x, y, ea.dp hA ha (SeqAt.canLay_of_shaped s1), eb.dp hA hb (SeqAt.canLay_of_shaped s2), s1, s2, q (.d _) _ H ms (Wk.refl L H) ⟨hA, .bl _⟩ r⟩
end
end Hc

namespace Hc
open PySem PySem.Spec PyProof.Rows L2
section
variable {K : PySem.W.Frag} {te ta tb tc tl : TE} {tt tu : TT} {tA tB : TA} {ds : List SD} {ms : List MD} {R : RS}
/-! ### tests -/
theorem et_test {RB : Bool → List MD → Prop} (h : E K te ds ms fun s ms1 => ∃ b, s = .d (.bool b) ∧ RB b ms1) : ET K (tTest te) ds ms RB := fun L M σ H hS hA Q q =>
  h L M σ H hS hA _ fun s v H1 ms1 w o ⟨b, e, r⟩ => by
    subst e
    obtain ⟨a, z⟩ := o
    cases z
    exact ⟨b, rfl, q b H1 ms1 w a r⟩
theorem et_B {RB : Bool → List MD → Prop} (h : E K te ds ms fun s ms1 => ∃ b, s = .d (.bool b) ∧ RB b ms1) : ET K (L2.tB te) ds ms RB := fun L M σ H hS hA Q q =>
  h L M σ H hS hA _ fun s v H1 ms1 w o ⟨b, e, r⟩ => by
    subst e
    obtain ⟨a, z⟩ := o
    cases z
    exact ⟨b, rfl, q b H1 ms1 w a r⟩
theorem et_and {RB : Bool → List MD → Prop} (h : ET K tt ds ms fun b ms1 => (b = true → ET K tu ds ms1 RB) ∧ (b = false → RB false ms1)) : ET K (tAnd tt tu) ds ms RB := fun L M σ H hS hA Q q =>
  h L M σ H hS hA _ fun b H1 ms1 w a ⟨r1, r2⟩ => by
    cases b with
    | true =>
      show tu σ H1 Q
      exact r1 rfl L M σ H1 (hS.mono hA w) a Q fun c H2 ms2 w2 a2 r => q c H2 ms2 (w.trans w2) a2 r
    | false => exact q false H1 ms1 w a (r2 rfl)
theorem et_or {RB : Bool → List MD → Prop} (h : ET K tt ds ms fun b ms1 => (b = true → RB true ms1) ∧ (b = false → ET K tu ds ms1 RB)) : ET K (tOr tt tu) ds ms RB := fun L M σ H hS hA Q q =>
  h L M σ H hS hA _ fun b H1 ms1 w a ⟨r1, r2⟩ => by
    cases b with
    | false =>
      show tu σ H1 Q
      exact r2 rfl L M σ H1 (hS.mono hA w) a Q fun c H2 ms2 w2 a2 r => q c H2 ms2 (w.trans w2) a2 r
    | true => exact q true H1 ms1 w a (r1 rfl)
theorem et_not {RB : Bool → List MD → Prop} (h : ET K tt ds ms fun b ms1 => RB (!b) ms1) : ET K (tNot tt) ds ms RB := fun L M σ H hS hA Q q =>
  h L M σ H hS hA _ fun b H1 ms1 w a r => q (!b) H1 ms1 w a r
theorem et_yes {RB : Bool → List MD → Prop} (h : RB true ms) : ET K tYes ds ms RB := fun L M σ H hS hA Q q => q true H ms (Wk.refl L H) hA h
theorem e_and (h : E K ta ds ms fun s ms1 => ∃ b, s = .d (.bool b) ∧ (b = true → E K tb ds ms1 R) ∧ (b = false → R (.d (.bool false)) ms1)) : E K (tAndV ta tb) ds ms R := fun L M σ H hS hA Q q =>
  h L M σ H hS hA _ fun s v H1 ms1 w o ⟨b, e, r1, r2⟩ => by
    subst e
    obtain ⟨a, z⟩ := o
    cases z
    refine ⟨b, rfl, ?_⟩
    cases b with
    | true =>
      show tb σ H1 Q
      exact r1 rfl L M σ H1 (hS.mono hA w) a Q fun s v H2 ms2 w2 o2 r => q s v H2 ms2 (w.trans w2) (o2.back a w) r
    | false => exact q (.d (.bool false)) _ H1 ms1 w ⟨a, .bl false⟩ (r2 rfl)
theorem e_or (h : E K ta ds ms fun s ms1 => ∃ b, s = .d (.bool b) ∧ (b = true → R (.d (.bool true)) ms1) ∧ (b = false → E K tb ds ms1 R)) : E K (tOrV ta tb) ds ms R := fun L M σ H hS hA Q q =>
  h L M σ H hS hA _ fun s v H1 ms1 w o ⟨b, e, r1, r2⟩ => by
    subst e
    obtain ⟨a, z⟩ := o
    cases z
    refine ⟨b, rfl, ?_⟩
    cases b with
    | false =>
      show tb σ H1 Q
      exact r2 rfl L M σ H1 (hS.mono hA w) a Q fun s v H2 ms2 w2 o2 r => q s v H2 ms2 (w.trans w2) (o2.back a w) r
    | true => exact q (.d (.bool true)) _ H1 ms1 w ⟨a, .bl true⟩ (r1 rfl)
theorem e_not (h : E K ta ds ms fun s ms1 => ∃ b, s = .d (.bool b) ∧ R (.d (.bool (!b))) ms1) : E K (tNotV ta) ds ms R := fun L M σ H hS hA Q q =>
  h L M σ H hS hA _ fun s v H1 ms1 w o ⟨b, e, r⟩ => by
    subst e
    obtain ⟨a, z⟩ := o
    cases z
    exact ⟨b, rfl, q (.d (.bool (!b))) _ H1 ms1 w ⟨a, .bl (!b)⟩ r⟩
theorem e_if (h : ET K tt ds ms fun b ms1 => (b = true → E K ta ds ms1 R) ∧ (b = false → E K tb ds ms1 R)) : E K (tIf tt ta tb) ds ms R := fun L M σ H hS hA Q q =>
  h L M σ H hS hA _ fun b H1 ms1 w a ⟨r1, r2⟩ => by
    cases b with
    | true =>
      show ta σ H1 Q
      exact r1 rfl L M σ H1 (hS.mono hA w) a Q fun s v H2 ms2 w2 o2 r => q s v H2 ms2 (w.trans w2) (o2.back a w) r
    | false =>
      show tb σ H1 Q
      exact r2 rfl L M σ H1 (hS.mono hA w) a Q fun s v H2 ms2 w2 o2 r => q s v H2 ms2 (w.trans w2) (o2.back a w) r
theorem e_chain {r r' : R2} (h : E K ta ds ms fun a ms1 => E K tb ds ms1 fun b ms2 => RR K r (dd a) (dd b) ms2 fun s ms3 => ∃ k, s = .d (.bool k) ∧ (k = true → E K tc ds ms3 fun c ms4 => ∀ b', b' = dd b → RR K r' b' (dd c) ms4 R) ∧ (k = false → R (.d (.bool false)) ms3)) :
    E K (tChain r r' ta tb tc) ds ms R := fun L M σ H hS hA Q q =>
  h L M σ H hS hA _ fun a x H1 ms1 w1 o1 h1 => h1 L M σ H1 (hS.mono hA w1) o1.at _ fun b y H2 ms2 w2 o2 h2 =>
    h2 L M H2 x y o2.at (o1.sl.mono o1.at w2) o2.sl _ fun s z H3 ms3 w3 o3 ⟨k, e, k1, k2⟩ => by
      subst e
      obtain ⟨a3, zz⟩ := o3
      cases zz
      refine ⟨k, rfl, ?_⟩
      have w13 := (w1.trans w2).trans w3
      cases k with
      | true =>
        show tc σ H3 _
        exact k1 rfl L M σ H3 (hS.mono hA w13) a3 _ fun c u H4 ms4 w4 o4 h4 => h4 _ rfl L M H4 y u o4.at ((o2.sl.mono o2.at w3).mono a3 w4) o4.sl Q fun s v H5 ms5 w5 o5 r5 => q s v H5 ms5 ((w13.trans w4).trans w5) (o5.back o4.at (w13.trans w4)) r5
      | false => exact q (.d (.bool false)) _ H3 ms3 w13 ⟨a3, .bl false⟩ (k2 rfl)
/-! ### more operations -/
theorem atI_of {M : List Addr} {H : Hp} {xs : List V} {es : List PyData} {i : Int} {d : PyData} (r : RpA M H xs es) (h : atI es i = some d) : ∃ v, atI xs i = some v ∧ Rp M H v d := by
  unfold atI at h ⊢
  rw [r.length]
  cases e : ixN es.length i with
  | none => rw [e] at h; cases h
  | some j =>
    rw [e] at h
    obtain ⟨v, e1, e2⟩ := r.get (show es[j]? = some d from h)
    exact ⟨v, e1, e2⟩
theorem rr_ixL {a b : SD} (h : ∃ es i d, Sv ms a (.list es) ∧ b = .d (.int i) ∧ atI es i = some d ∧ R (.d d) ms) : RR K (rIxL K) a b ms R := fun L M H x y hA ha hb Q q => by
  obtain ⟨es, i, d, sa, rfl, e, r⟩ := h
  cases hb
  obtain ⟨p, xs, rfl, hq, hr⟩ := sa.lst hA ha
  obtain ⟨v, e1, e2⟩ := atI_of hr e
  exact ⟨p, xs, i, v, rfl, rfl, hq, e1, q (.d d) v H ms (Wk.refl L H) ⟨hA, e2⟩ r⟩
theorem rr_ixT {a b : SD} (h : ∃ es i d, Sv ms a (.tuple es) ∧ b = .d (.int i) ∧ atI es i = some d ∧ R (.d d) ms) : RR K (rIxT K) a b ms R := fun L M H x y hA ha hb Q q => by
  obtain ⟨es, i, d, sa, rfl, e, r⟩ := h
  cases hb
  obtain ⟨p, xs, rfl, hq, hr⟩ := sa.tup ha
  obtain ⟨v, e1, e2⟩ := atI_of hr e
  exact ⟨p, xs, i, v, rfl, rfl, SqT.of hq, e1, q (.d d) v H ms (Wk.refl L H) ⟨hA, e2⟩ r⟩
theorem rr_isB {a b : SD} (h : ∃ i j, a = .d (.bool i) ∧ b = .d (.bool j) ∧ R (.d (.bool (decide (i = j)))) ms) : RR K rIsB a b ms R := fun L M H x y hA ha hb Q q => by
  obtain ⟨i, j, rfl, rfl, r⟩ := h
  cases ha; cases hb
  exact ⟨i, j, rfl, rfl, q (.d _) _ H ms (Wk.refl L H) ⟨hA, .bl _⟩ r⟩
theorem rr_notB {a b : SD} (h : ∃ i j, a = .d (.bool i) ∧ b = .d (.bool j) ∧ R (.d (.bool (!decide (i = j)))) ms) : RR K rNotB a b ms R := fun L M H x y hA ha hb Q q => by
  obtain ⟨i, j, rfl, rfl, r⟩ := h
  cases ha; cases hb
  exact ⟨i, j, rfl, rfl, q (.d _) _ H ms (Wk.refl L H) ⟨hA, .bl _⟩ r⟩
theorem cat_lst {M : List Addr} {H : Hp} {x : V} {es : List PyData} (h : Rp M H x (.list es)) : ∃ p xs, x = .ref p ∧ H p = some (.lst xs) ∧ RpA M H xs es := by
  cases h with
  | lst n e r => exact ⟨_, _, rfl, e, r⟩
theorem rr_cat {a b : SD} (h : ∃ es fs, a = .d (.list es) ∧ b = .d (.list fs) ∧ es.length + fs.length ≤ 10000 ∧ R (.f (es ++ fs)) ms) : RR K rCat a b ms R := fun L M H x y hA ha hb Q q => by
  obtain ⟨es, fs, rfl, rfl, hz, r⟩ := h
  obtain ⟨p, xs, rfl, e1, r1⟩ := cat_lst ha
  obtain ⟨p2, ys, rfl, e2, r2⟩ := cat_lst hb
  refine ⟨p, p2, xs, ys, rfl, rfl, e1, e2, by rw [r1.length, r2.length]; exact Nat.le_trans hz (by decide), fun l hl => ?_⟩
  exact q (.f (es ++ fs)) _ _ ms (Wk.new hl) (out_new hA (Wk.refl L H) hl (r1.append r2)) r
/-! ### built-ins -/
theorem rc_abs {as : List SD} (h : ∃ i, as = [.d (.int i)] ∧ R (.d (.int (if i < 0 then -i else i))) ms) : RC K (fun xs H Q => ∃ i, xs = [.int i] ∧ Q (.int (if i < 0 then -i else i)) H) as ms R := fun L M H vs hA ha Q q => by
  obtain ⟨i, rfl, r⟩ := h
  obtain ⟨v, t, rfl, hv, rfl⟩ := ha
  cases hv
  exact ⟨i, rfl, q (.d _) _ H ms (Wk.refl L H) ⟨hA, .int _⟩ r⟩
theorem rc_max {as : List SD} (h : ∃ i j, as = [.d (.int i), .d (.int j)] ∧ R (.d (.int (if j > i then j else i))) ms) : RC K (fun xs H Q => ∃ i j, xs = [.int i, .int j] ∧ Q (.int (if j > i then j else i)) H) as ms R := fun L M H vs hA ha Q q => by
  obtain ⟨i, j, rfl, r⟩ := h
  obtain ⟨v, t, rfl, hv, v2, t2, rfl, hv2, rfl⟩ := ha
  cases hv; cases hv2
  exact ⟨i, j, rfl, q (.d _) _ H ms (Wk.refl L H) ⟨hA, .int _⟩ r⟩
theorem rc_min {as : List SD} (h : ∃ i j, as = [.d (.int i), .d (.int j)] ∧ R (.d (.int (if j < i then j else i))) ms) : RC K (fun xs H Q => ∃ i j, xs = [.int i, .int j] ∧ Q (.int (if j < i then j else i)) H) as ms R := fun L M H vs hA ha Q q => by
  obtain ⟨i, j, rfl, r⟩ := h
  obtain ⟨v, t, rfl, hv, v2, t2, rfl, hv2, rfl⟩ := ha
  cases hv; cases hv2
  exact ⟨i, j, rfl, q (.d _) _ H ms (Wk.refl L H) ⟨hA, .int _⟩ r⟩
theorem rc_len {as : List SD} (h : ∃ s es, as = [s] ∧ (Sv ms s (.list es) ∨ Sv ms s (.tuple es)) ∧ R (.d (.int es.length)) ms) : RC K (fun xs H Q => ∃ p ys, xs = [.ref p] ∧ (SqL K H p ys ∨ SqT K H p ys) ∧ Q (.int ys.length) H) as ms R := fun L M H vs hA ha Q q => by
  obtain ⟨s, es, rfl, sv, r⟩ := h
  obtain ⟨v, t, rfl, hv, rfl⟩ := ha
  rcases sv with sv | sv
  · obtain ⟨p, xs, rfl, hq, hr⟩ := sv.lst hA hv
    rw [← hr.length] at r
    exact ⟨p, xs, rfl, .inl hq, q (.d _) _ H ms (Wk.refl L H) ⟨hA, .int _⟩ r⟩
  · obtain ⟨p, xs, rfl, hq, hr⟩ := sv.tup hv
    rw [← hr.length] at r
    exact ⟨p, xs, rfl, .inr (SqT.of hq), q (.d _) _ H ms (Wk.refl L H) ⟨hA, .int _⟩ r⟩
theorem rc_tuple {as : List SD} (h : ∃ s es, as = [s] ∧ (Sv ms s (.list es) ∨ Sv ms s (.tuple es)) ∧ R (.d (.tuple es)) ms) :
    RC K (fun xs H Q => ∃ p ys, xs = [.ref p] ∧ ((SqL K H p ys ∧ ∀ l, H l = none → Q (.ref l) (upd H l (.tup ys))) ∨ (SqT K H p ys ∧ Q (.ref p) H))) as ms R := fun L M H vs hA ha Q q => by
  obtain ⟨s, es, rfl, sv, r⟩ := h
  obtain ⟨v, t, rfl, hv, rfl⟩ := ha
  rcases sv with sv | sv
  · obtain ⟨p, xs, rfl, hq, hr⟩ := sv.lst hA hv
    refine ⟨p, xs, rfl, .inl ⟨hq, fun l hl => ?_⟩⟩
    exact q (.d (.tuple es)) _ _ ms (Wk.new hl) ⟨hA.new hl, .tup (hA.fresh hl) upd_same (RpA.to (hA.wk (Wk.new hl)) _ _ hr)⟩ r
  · have hv2 : Rp M H v (.tuple es) := by cases sv; exact hv
    obtain ⟨p, xs, rfl, hq, hr⟩ := sv.tup hv
    exact ⟨p, xs, rfl, .inr ⟨SqT.of hq, q (.d (.tuple es)) _ H ms (Wk.refl L H) ⟨hA, hv2⟩ r⟩⟩
theorem rc_list {as : List SD} (h : ∃ s es, as = [s] ∧ (Sv ms s (.list es) ∨ Sv ms s (.tuple es)) ∧ R (.f es) ms) :
    RC K (fun xs H Q => ∃ p ys, xs = [.ref p] ∧ (SqL K H p ys ∨ SqT K H p ys) ∧ ∀ l, H l = none → Q (.ref l) (upd H l (.lst ys))) as ms R := fun L M H vs hA ha Q q => by
  obtain ⟨s, es, rfl, sv, r⟩ := h
  obtain ⟨v, t, rfl, hv, rfl⟩ := ha
  rcases sv with sv | sv
  · obtain ⟨p, xs, rfl, hq, hr⟩ := sv.lst hA hv
    exact ⟨p, xs, rfl, .inl hq, fun l hl => q (.f es) _ _ ms (Wk.new hl) (out_new hA (Wk.refl L H) hl hr) r⟩
  · obtain ⟨p, xs, rfl, hq, hr⟩ := sv.tup hv
    exact ⟨p, xs, rfl, .inr (SqT.of hq), fun l hl => q (.f es) _ _ ms (Wk.new hl) (out_new hA (Wk.refl L H) hl hr) r⟩
theorem rc_all {as : List SD} (h : ∃ (s : SD) (bs : List Bool), as = [s] ∧ Sv ms s (.list (bs.map .bool)) ∧ R (.d (.bool (bs.all id))) ms) : RC K (rAll K) as ms R := fun L M H vs hA ha Q q => by
  obtain ⟨s, bs, rfl, sv, r⟩ := h
  obtain ⟨v, t, rfl, hv, rfl⟩ := ha
  obtain ⟨p, xs, rfl, hq, hr⟩ := sv.lst hA hv
  rw [RpA.bools_inv hr] at hq
  exact ⟨p, bs, rfl, hq, q (.d _) _ H ms (Wk.refl L H) ⟨hA, .bl _⟩ r⟩
/-- isinstance -/
def inst (d : PyData) (T : String) : Bool := (kitB (tyN d) T).getD false
theorem e_isi {T : String} (hT : ∀ d, kitB (tyN d) T = some (inst d T)) (h : E K te ds ms fun s ms1 => ∃ x, Sv ms1 (dd s) x ∧ (∀ ns, dd s ≠ .s ns) ∧ R (.d (.bool (inst x T))) ms1) : E K (tCB (rIsi K) (tCons te (tCons (tC (.ty T)) tNil))) ds ms R := fun L M σ H hS hA Q q =>
  h L M σ H hS hA _ fun s v H1 ms1 w o ⟨x, sv, hs, r⟩ => ⟨v, .ty T, .type (tyN x), .type T, inst x T, rfl, .ty T, sv.ty o.at o.sl hs, kit_ty (hT x), q (.d _) _ H1 ms1 w ⟨o.at, .bl _⟩ r⟩
theorem e_isiT {T U : String} (hT : ∀ d, kitB (tyN d) T = some (inst d T)) (hU : ∀ d, kitB (tyN d) U = some (inst d U)) (h : E K te ds ms fun s ms1 => ∃ x, Sv ms1 (dd s) x ∧ (∀ ns, dd s ≠ .s ns) ∧ R (.d (.bool (inst x T || inst x U))) ms1) :
    E K (tCB (rIsiT K) (tCons te (tCons (tTup (tCons (tC (.ty T)) (tCons (tC (.ty U)) tNil))) tNil))) ds ms R := fun L M σ H hS hA Q q =>
  h L M σ H hS hA _ fun s v H1 ms1 w o ⟨x, sv, hs, r⟩ => ⟨by show 2 ≤ sizeLine; decide, fun p hp => by
    have a1 := o.at
    have k1 : PySem.W.kitAny K (.type (tyN x)) [.type T, .type U] = some (inst x T || inst x U) := by
      refine kitAny_cons (kit_ty (hT x)) (fun hb => ?_) (fun hb => by rw [hb]; rfl)
      rw [hb, Bool.false_or]
      refine kitAny_cons (kit_ty (hU x)) (fun hb => ?_) (fun hb => hb)
      rw [hb]; rfl
    have ty : TyX K (upd H1 p (.tup [.ty T, .ty U])) v (.type (tyN x)) := sv.ty (a1.new hp) (o.sl.mono a1 (Wk.new hp)) hs
    exact ⟨v, p, [.ty T, .ty U], .type (tyN x), [.type T, .type U], inst x T || inst x U, rfl, upd_same, .cons (.ty T) (.cons (.ty U) .nil), ty, k1, q (.d _) _ _ ms1 (w.trans (Wk.new hp)) ⟨a1.new hp, .bl _⟩ r⟩⟩
/-! ### methods of lists that may change -/
theorem e_popAt0 (h : E K ta ds ms fun s ms1 => ∃ k es d, s = .m k ∧ ms1[k]? = some (.l (d :: es)) ∧ R (.d d) (ms1.set k (.l es))) : E K (tBM K "list" rPopAt ta (tCons (tC (.int 0)) tNil)) ds ms R := fun L M σ H hS hA Q q =>
  h L M σ H hS hA _ fun s v H1 ms1 w o ⟨k, es, d, e, em, r⟩ => by
    subst e
    obtain ⟨a1, p, rfl, hp, hls⟩ := o
    obtain ⟨xs, e1, r1⟩ := a1.get hp em
    have hpL : p ∈ L := List.mem_of_getElem? hp
    cases r1 with
    | @cons y ys _ _ r2 r3 =>
      refine ⟨.inl ⟨rfl, _, SqL.of e1⟩, p, y :: ys, 0, 0, y, rfl, rfl, e1, by decide, by decide, ?_, rfl, ?_⟩
      · unfold seqIndex?
        simp
      · exact q (.d d) y _ _ (w.trans (Wk.mut hpL e1)) ⟨a1.put hp e1 r3, Rp.to (a1.wk (Wk.mut hpL e1)) _ _ r2⟩ r
theorem e_append (h : E K ta ds ms fun s ms1 => ∃ k, s = .m k ∧ E K te ds ms1 fun x ms2 => ∃ d es, dd x = .d d ∧ ms2[k]? = some (.l es) ∧ es.length < 10000 ∧ R (.d .none) (ms2.set k (.l (es ++ [d])))) : E K (tBM K "list" rAppend ta (tCons te tNil)) ds ms R := fun L M σ H hS hA Q q =>
  h L M σ H hS hA _ fun s v H1 ms1 w o ⟨k, e, h2⟩ => by
    subst e
    obtain ⟨a1, p, rfl, hp, hls⟩ := o
    have hpL : p ∈ L := List.mem_of_getElem? hp
    have hk : k < ms1.length := by rw [← a1.ln]; exact (List.getElem?_eq_some_iff.mp hp).1
    · obtain ⟨xs0, e0⟩ := hls
      refine ⟨.inl ⟨rfl, xs0, SqL.of e0⟩, ?_⟩
      refine h2 L M σ H1 (hS.mono hA w) a1 _ fun x y H2 ms2 w2 o2 ⟨d, es, ed, em, hz, r⟩ => ?_
      have a2 := o2.at
      have ry := o2.sl
      rw [ed] at ry
      obtain ⟨xs, e1, r1⟩ := a2.get hp em
      refine ⟨p, xs, y, rfl, rfl, e1, by rw [r1.length]; exact Nat.lt_trans hz (by decide), ?_⟩
      exact q (.d .none) .non _ _ ((w.trans w2).trans (Wk.mut hpL e1)) ⟨a2.put hp e1 (r1.append (.cons ry .nil)), .non⟩ r
/-! ### calls of the program's own defs -/
abbrev Ph := List SD → List MD → RS → Prop
def SpD (K : PySem.W.Frag) (Φ : Ph) : Sp := fun vs H Q _ => ∃ L M ms as R, At L M ms H ∧ SlsOk K L M H as vs ∧ Φ as ms R ∧ ∀ s v H' ms', Wk L H H' → Out K L M H H' ms' v s → R s ms' → Q v H'
theorem e_call {Φ : Ph} {E0 : XK} (h : EA K tA ds ms fun as ms1 => Φ as ms1 R) : E K (tCall (SpD K Φ) [] E0 tA) ds ms R := fun L M σ H hS hA Q q =>
  h L M σ H hS hA _ fun as vs H1 ms1 w1 a1 o1 h1 => by
    rw [List.append_nil]
    exact ⟨L, M, ms1, as, R, a1, o1, h1, fun s v H3 ms3 w3 o3 r3 => q s v H3 ms3 (w1.trans w3) (o3.back a1 w1) r3⟩
/-! ### statements -/
structure Po where
  nx : List SD → List MD → Prop
  rt : RS
  bk : List SD → List MD → Prop
  ct : List SD → List MD → Prop
def Nx (K : PySem.W.Frag) (L M : List Addr) (H : Hp) (N : List SD → List MD → Prop) (C : L2.St → Hp → Prop) : Prop := ∀ σ' H' ds' ms', Wk L H H' → Sl K L M σ' H' ds' → At L M ms' H' → N ds' ms' → C σ' H'
def Rx (K : PySem.W.Frag) (L M : List Addr) (H : Hp) (R : RS) (Q : VK) : Prop := ∀ s v H' ms', Wk L H H' → Out K L M H H' ms' v s → R s ms' → Q v H'
def S (K : PySem.W.Frag) (t : TS) (ds : List SD) (ms : List MD) (P : Po) : Prop :=
  ∀ (L M : List Addr) (σ : L2.St) (H : Hp), Sl K L M σ H ds → At L M ms H → ∀ D : Ends, Nx K L M H P.nx D.nx → Rx K L M H P.rt D.rt → Nx K L M H P.bk D.bk → Nx K L M H P.ct D.ct → t D σ H
section
variable {L M : List Addr} {H H1 : Hp} {N : List SD → List MD → Prop} {C : L2.St → Hp → Prop} {Q : VK} {ms1 : List MD}
theorem Nx.on (w : Wk L H H1) (h : Nx K L M H N C) : Nx K L M H1 N C := fun σ' H' ds' ms' w2 => h σ' H' ds' ms' (w.trans w2)
theorem Rx.on (a : At L M ms1 H1) (w : Wk L H H1) (h : Rx K L M H R Q) : Rx K L M H1 R Q := fun s v H' ms' w2 o r => h s v H' ms' (w.trans w2) (o.back a w) r
end
variable {t u : TS} {P : Po}
theorem s_next (h : P.nx ds ms) : S K tNext ds ms P := fun L M σ H hS hA D n _ _ _ => n σ H ds ms (Wk.refl L H) hS hA h
theorem s_seq (h : S K t ds ms { P with nx := fun ds1 ms1 => S K u ds1 ms1 P }) : S K (tSeq t u) ds ms P := fun L M σ H hS hA D n r b c =>
  h L M σ H hS hA { D with nx := u D } (fun σ1 H1 ds1 ms1 w s1 a1 h1 => h1 L M σ1 H1 s1 a1 D (n.on w) (r.on a1 w) (b.on w) (c.on w)) r b c
theorem s_asg {i : Nat} (h : E K te ds ms fun s ms1 => P.nx (ds.set i (dd s)) ms1) : S K (tAsg te (gName i)) ds ms P := fun L M σ H hS hA D n r b c =>
  h L M σ H hS hA _ fun s v H1 ms1 w o h1 => n _ H1 _ ms1 w ((hS.mono hA w).set i o.sl) o.at h1
theorem s_ret (h : E K te ds ms P.rt) : S K (tRet te) ds ms P := fun L M σ H hS hA D n r b c => h L M σ H hS hA _ fun s v H1 ms1 w o h1 => r s v H1 ms1 w o h1
theorem s_drop (h : E K te ds ms fun _ ms1 => P.nx ds ms1) : S K (tDrop te) ds ms P := fun L M σ H hS hA D n r b c =>
  h L M σ H hS hA _ fun s v H1 ms1 w o h1 => n σ H1 ds ms1 w (hS.mono hA w) o.at h1
theorem s_if (h : ET K tt ds ms fun b ms1 => (b = true → S K t ds ms1 P) ∧ (b = false → S K u ds ms1 P)) : S K (tIfS tt t u) ds ms P := fun L M σ H hS hA D n r b c =>
  h L M σ H hS hA _ fun k H1 ms1 w a ⟨h1, h2⟩ => by
    cases k with
    | true => exact h1 rfl L M σ H1 (hS.mono hA w) a D (n.on w) (r.on a w) (b.on w) (c.on w)
    | false => exact h2 rfl L M σ H1 (hS.mono hA w) a D (n.on w) (r.on a w) (b.on w) (c.on w)
theorem s_par {i j : Nat} (h : EA K tA ds ms fun as ms1 => ∃ x y, as = [x, y] ∧ P.nx ((ds.set i x).set j y) ms1) : S K (tPar i j tA) ds ms P := fun L M σ H hS hA D n r b c =>
  h L M σ H hS hA _ fun as vs H1 ms1 w a o ⟨x, y, e, h1⟩ => by
    subst e
    obtain ⟨v1, t1, rfl, o1, v2, t2, rfl, o2, rfl⟩ := o
    exact ⟨v1, v2, rfl, n _ H1 _ ms1 w (((hS.mono hA w).set i o1).set j o2) a h1⟩
/-- targets: js the slots that are stored -/
def EG (K : PySem.W.Frag) (g : TG) (js : List Nat) (x : SD) (ds : List SD) (ms : List MD) (N : List SD → List MD → Prop) : Prop :=
  ∀ (L M : List Addr) (σ : L2.St) (H : Hp) (v : V), Sl K L M σ H ds → At L M ms H → SlOk K L M H x v → ∀ C : L2.St → Hp → Prop, (∀ σ' ds', Sl K L M σ' H ds' → (∀ vs : List Nat, (∀ j ∈ js, j ∈ vs) → L2.wipe σ' vs = L2.wipe σ vs) → N ds' ms → C σ' H) → g v σ H C
def EGs (K : PySem.W.Frag) (g : TGs) (js : List Nat) (xs : List PyData) (ds : List SD) (ms : List MD) (N : List SD → List MD → Prop) : Prop :=
  ∀ (L M : List Addr) (σ : L2.St) (H : Hp) (vs : List V), Sl K L M σ H ds → At L M ms H → RpA M H vs xs → ∀ C : L2.St → Hp → Prop, (∀ σ' ds', Sl K L M σ' H ds' → (∀ vs : List Nat, (∀ j ∈ js, j ∈ vs) → L2.wipe σ' vs = L2.wipe σ vs) → N ds' ms → C σ' H) → g vs σ H C
theorem wipe_get (σ : L2.St) (i : Nat) : ∀ vs : List Nat, (L2.wipe σ vs)[i]? = if i ∈ vs then (if i < σ.length then some none else none) else σ[i]?
  | [] => by simp [L2.wipe]
  | v :: vs => by
    unfold L2.wipe
    by_cases e : v = i
    · subst e
      rw [List.getElem?_set, if_pos rfl, if_pos List.mem_cons_self, wipe_length]
    · rw [List.getElem?_set_ne e, wipe_get σ i vs]
      by_cases h : i ∈ vs
      · rw [if_pos h, if_pos (List.mem_cons_of_mem _ h)]
      · rw [if_neg h, if_neg (fun z => (List.mem_cons.mp z).elim (fun z => e z.symm) h)]
theorem wipe_set (σ : L2.St) (j : Nat) (o : Option V) (vs : List Nat) (h : j ∈ vs) : L2.wipe (σ.set j o) vs = L2.wipe σ vs := by
  apply List.ext_getElem?
  intro i
  rw [wipe_get, wipe_get, List.length_set]
  by_cases e : i ∈ vs
  · rw [if_pos e, if_pos e]
  · rw [if_neg e, if_neg e, List.getElem?_set_ne (fun z : j = i => e (by rw [← z]; exact h))]
variable {N : List SD → List MD → Prop}
theorem eg_name {i : Nat} {x : SD} (h : N (ds.set i x) ms) : EG K (gName i) [i] x ds ms N := fun L M σ H v hS hA ho C c =>
  c _ _ (hS.set i ho) (fun vs hv => wipe_set σ i (some v) vs (hv i (by simp))) h
theorem egs_nil (h : N ds ms) : EGs K gNil [] [] ds ms N := fun L M σ H vs hS hA hr C c => by
  cases hr
  exact ⟨rfl, c σ ds hS (fun _ _ => rfl) h⟩
theorem egs_cons {g : TG} {gs : TGs} {js js' : List Nat} {x : PyData} {xs : List PyData} (h : EG K g js (.d x) ds ms fun ds1 ms1 => EGs K gs js' xs ds1 ms1 N) : EGs K (gCons g gs) (js ++ js') (x :: xs) ds ms N := fun L M σ H vs hS hA hr C c => by
  cases hr with
  | @cons v r _ _ r1 r2 =>
    refine ⟨v, r, rfl, ?_⟩
    refine h L M σ H v hS hA r1 _ fun σ1 ds1 s1 w1 h1 => ?_
    refine h1 L M σ1 H r s1 hA r2 C fun σ2 ds2 s2 w2 h2 => ?_
    exact c σ2 ds2 s2 (fun vs hv => (w2 vs fun j hj => hv j (List.mem_append_right _ hj)).trans (w1 vs fun j hj => hv j (List.mem_append_left _ hj))) h2
theorem eg_tup {gs : TGs} {js : List Nat} {n : Nat} {xs : List PyData} (hn : xs.length = n) (h : EGs K gs js xs ds ms N) : EG K (gTup K n gs) js (.d (.tuple xs)) ds ms N := fun L M σ H v hS hA ho C c => by
  obtain ⟨a, ys, rfl, e, r⟩ := Sv.tup (ms := ms) (K := K) (L := L) (.d (.tuple xs)) ho
  exact ⟨a, ys, rfl, SqT.of e, by rw [r.length]; exact hn, h L M σ H ys hS hA r C c⟩
theorem s_asgG {g : TG} {js : List Nat} (h : E K te ds ms fun s ms1 => EG K g js (dd s) ds ms1 P.nx) : S K (tAsg te g) ds ms P := fun L M σ H hS hA D n r b c =>
  h L M σ H hS hA _ fun s v H1 ms1 w o h1 => h1 L M σ H1 v (hS.mono hA w) o.at o.sl _ fun σ' ds' s' _ h2 => n σ' H1 ds' ms1 w s' o.at h2
/-- xs[i] = e, of a list that may change -/
theorem s_setL {to ti : TE} (h : E K te ds ms fun x ms1 => ∃ d, dd x = .d d ∧ E K to ds ms1 fun s ms2 => ∃ k, s = .m k ∧ E K ti ds ms2 fun y ms3 => ∃ (i : Int) (j : Nat) (es : List PyData), y = .d (.int i) ∧ ms3[k]? = some (.l es) ∧ ixN es.length i = some j ∧ P.nx ds (ms3.set k (.l (es.set j d)))) :
    S K (tAsg te (gSub to ti rSetL)) ds ms P := fun L M σ H hS hA D n r b c =>
  h L M σ H hS hA _ fun x v H1 ms1 w1 o1 ⟨d, ed, h1⟩ => h1 L M σ H1 (hS.mono hA w1) o1.at _ fun s v2 H2 ms2 w2 o2 ⟨k, ek, h2⟩ =>
    h2 L M σ H2 ((hS.mono hA w1).mono o1.at w2) o2.at _ fun y v3 H3 ms3 w3 o3 ⟨i, j, es, ey, em, hj, h3⟩ => by
      have rv := (o1.sl.mono o1.at w2).mono o2.at w3
      rw [ed] at rv
      have a3 := o3.at
      subst ey ek
      obtain ⟨_, p, rfl, hp, hls⟩ := o2
      obtain ⟨_, z⟩ := o3
      cases z
      have hpL : p ∈ L := List.mem_of_getElem? hp
      obtain ⟨xs, e1, r1⟩ := a3.get hp em
      refine ⟨p, xs, i, j, rfl, rfl, e1, by rw [r1.length]; exact hj, ?_⟩
      have w13 := ((w1.trans w2).trans w3).trans (Wk.mut (H := H3) (o := .lst (xs.set j v)) hpL e1)
      exact n σ _ ds _ w13 (hS.mono hA w13) (a3.put hp e1 (r1.set j rv)) h3
/-! ### loops -/
section
variable {L M : List Addr} {H H1 : Hp}
/-- a source that stands still -/
inductive Sw : SD → List PyData → Prop
  | d (es : List PyData) : Sw (.d (.list es)) es
  | s (ns : List Int) : Sw (.s ns) (ns.map .int)
theorem Sw.is {s : SD} {es : List PyData} {v : V} (h : Sw s es) (hA : At L M ms H) (o : SlOk K L M H s v) : ∃ a xs, v = .ref a ∧ RpA M H xs es ∧ ∀ H', Wk L H H' → SqL K H' a xs := by
  cases h with
  | d =>
    cases o with
    | @lst a xs _ n e r => exact ⟨a, xs, rfl, r, fun H' w => SqL.of (w a _ (fun z => n (hA.sub a z)) e)⟩
  | s ns =>
    obtain ⟨a, rfl, ⟨n, q⟩ | q⟩ := o
    · refine ⟨a, _, rfl, RpA.ints ns, fun H' w => ?_⟩
      have n' : a ∉ L := fun z => n (hA.sub a z)
      rcases q with q | ⟨o, q⟩
      · exact .inl (.inl (w _ _ n' q))
      · exact .inl (.inr ⟨o, w _ _ n' q⟩)
    · exact ⟨a, _, rfl, RpA.ints ns, fun H' _ => q H'⟩
end
theorem s_forL {g : TG} {js : List Nat} (h : E K tl ds ms fun s ms0 => ∃ es, Sw (dd s) es ∧ ∃ Pv : Nat → List SD → List MD → Prop, Pv 0 ds ms0 ∧
      (∀ i e ds1 ms1, es[i]? = some e → Pv i ds1 ms1 → EG K g js (.d e) ds1 ms1 fun ds2 ms2 => S K t ds2 ms2 { P with nx := Pv (i + 1), ct := Pv (i + 1), bk := P.nx }) ∧ ∀ ds1 ms1, Pv es.length ds1 ms1 → P.nx ds1 ms1) :
    S K (tFor (iList K tl) g t) ds ms P := fun L M σ H hS hA D n r b c =>
  h L M σ H hS hA _ fun s v H1 ms0 w o ⟨es, sw, Pv, h0, hs, hd⟩ => by
    have a1 := o.at
    obtain ⟨a, xs, rfl, rx, hx⟩ := sw.is a1 o.sl
    refine ⟨a, rfl, ⟨xs, hx H1 (Wk.refl L H1)⟩, for_list (xs := xs) (fun i σ' H' => ∃ ds' ms', Wk L H1 H' ∧ Sl K L M σ' H' ds' ∧ At L M ms' H' ∧ Pv i ds' ms') ⟨ds, ms0, Wk.refl L H1, hS.mono hA w, a1, h0⟩ (fun i σ' H' _ ⟨_, _, w', _⟩ => hx H' w') (fun i x σ' H' hi ⟨ds', ms', w', s', a', p'⟩ => ?_) (fun σ' H' ⟨ds', ms', w', s', a', p'⟩ => ?_)⟩
    · obtain ⟨e, e1, e2⟩ := rx.get' hi
      refine hs i e ds' ms' e1 p' L M σ' H' x s' a' (Rp.to (a1.wk w') _ _ e2) _ fun σ2 ds2 s2 _ h2 => ?_
      refine h2 L M σ2 H' s2 a' _ (fun σ3 H3 ds3 ms3 w3 s3 a3 p3 => ⟨ds3, ms3, w'.trans w3, s3, a3, p3⟩) (r.on a' (w.trans w')) (n.on (w.trans w')) (fun σ3 H3 ds3 ms3 w3 s3 a3 p3 => ⟨ds3, ms3, w'.trans w3, s3, a3, p3⟩)
    · rw [rx.length] at p'
      exact n σ' H' ds' ms' (w.trans w') s' a' (hd ds' ms' p')
theorem s_forR {g : TG} {js : List Nat} (h : EA K tA ds ms fun as ms0 => ∃ n : Int, as = [.d (.int n)] ∧ (-(2 ^ 62) ≤ n ∧ n < 2 ^ 62) ∧ ∃ Pv : Nat → List SD → List MD → Prop, Pv 0 ds ms0 ∧
      (∀ i ds1 ms1, i < n.toNat → Pv i ds1 ms1 → EG K g js (.d (.int i)) ds1 ms1 fun ds2 ms2 => S K t ds2 ms2 { P with nx := Pv (i + 1), ct := Pv (i + 1), bk := P.nx }) ∧ ∀ ds1 ms1, Pv n.toNat ds1 ms1 → P.nx ds1 ms1) :
    S K (tFor (iRng1 tA) g t) ds ms P := fun L M σ H hS hA D n r b c =>
  h L M σ H hS hA _ fun as vs H1 ms0 w a1 o ⟨m, ea, hm, Pv, h0, hs, hd⟩ => by
    subst ea
    obtain ⟨v, t1, rfl, hv, rfl⟩ := o
    cases hv
    refine ⟨m, rfl, hm.1, hm.2, for_range (fun i σ' H' => ∃ ds' ms', Wk L H1 H' ∧ Sl K L M σ' H' ds' ∧ At L M ms' H' ∧ Pv i ds' ms') ⟨ds, ms0, Wk.refl L H1, hS.mono hA w, a1, h0⟩ (fun i σ' H' hi ⟨ds', ms', w', s', a', p'⟩ => ?_) (fun σ' H' ⟨ds', ms', w', s', a', p'⟩ => ?_)⟩
    · refine hs i ds' ms' hi p' L M σ' H' _ s' a' (by show Rp M H' (.int (0 + (i : Int))) (.int i); rw [Int.zero_add]; exact .int _) _ fun σ2 ds2 s2 _ h2 => ?_
      refine h2 L M σ2 H' s2 a' _ (fun σ3 H3 ds3 ms3 w3 s3 a3 p3 => ⟨ds3, ms3, w'.trans w3, s3, a3, p3⟩) (r.on a' (w.trans w')) (n.on (w.trans w')) (fun σ3 H3 ds3 ms3 w3 s3 a3 p3 => ⟨ds3, ms3, w'.trans w3, s3, a3, p3⟩)
    · exact n σ' H' ds' ms' (w.trans w') s' a' (hd ds' ms' p')
theorem s_while (W : Nat → List SD → List MD → Prop) (m0 : Nat) (h0 : W m0 ds ms) (hs : ∀ m ds1 ms1, W m ds1 ms1 → ET K tt ds1 ms1 fun b ms2 => (b = true → S K t ds1 ms2 { P with nx := fun ds3 ms3 => ∃ m', m' < m ∧ W m' ds3 ms3, ct := fun ds3 ms3 => ∃ m', m' < m ∧ W m' ds3 ms3, bk := P.nx }) ∧ (b = false → P.nx ds1 ms2)) :
    S K (tWhile tt t) ds ms P := fun L M σ H hS hA D n r b c => by
  refine ⟨fun m σ' H' => ∃ ds' ms', Wk L H H' ∧ Sl K L M σ' H' ds' ∧ At L M ms' H' ∧ W m ds' ms', ⟨m0, ds, ms, Wk.refl L H, hS, hA, h0⟩, ?_⟩
  rintro m σ' H' ⟨ds', ms', w', s', a', p'⟩
  refine hs m ds' ms' p' L M σ' H' s' a' _ fun k H2 ms2 w2 a2 ⟨k1, k2⟩ => ?_
  cases k with
  | true =>
    rw [if_pos rfl]
    refine ⟨fun σ3 H3 => ∃ m', m' < m ∧ ∃ ds3 ms3, Wk L H H3 ∧ Sl K L M σ3 H3 ds3 ∧ At L M ms3 H3 ∧ W m' ds3 ms3, fun σ3 H3 ⟨m', l, z⟩ => ⟨m', l, z⟩, ?_⟩
    refine k1 rfl L M σ' H2 (s'.mono a' w2) a2 _ (fun σ3 H3 ds3 ms3 w3 s3 a3 ⟨m', l, p3⟩ => ⟨m', l, ds3, ms3, (w'.trans w2).trans w3, s3, a3, p3⟩) (r.on a2 (w'.trans w2)) (n.on (w'.trans w2)) (fun σ3 H3 ds3 ms3 w3 s3 a3 ⟨m', l, p3⟩ => ⟨m', l, ds3, ms3, (w'.trans w2).trans w3, s3, a3, p3⟩)
  | false =>
    rw [if_neg Bool.false_ne_true]
    exact n σ' H2 ds' ms2 (w'.trans w2) (s'.mono a' w2) a2 (k2 rfl)
/-! ### comprehensions -/
def Lt (K : PySem.W.Frag) (g : TG) (js : List Nat) (tt : TT) (te : TE) (vs : List Nat) (ds : List SD) (x : SD) (ms : List MD) (acc : List PyData) (N : List PyData → List MD → Prop) : Prop :=
  EG K g js x (wipeD ds vs) ms fun ds2 ms2 => ET K tt ds2 ms2 fun b ms3 => (b = true → E K te ds2 ms3 fun s ms4 => ∃ d, dd s = .d d ∧ N (acc ++ [d]) ms4) ∧ (b = false → N acc ms3)
section
variable {L M : List Addr} {σ : L2.St} {H1 H' : Hp}
/-- how it stands within a comprehension whose list is at D -/
structure Cs (L M : List Addr) (H1 : Hp) (D : Addr) (i : Nat) (acc : List PyData) (ms : List MD) (H : Hp) : Prop where
  w : Wk L H1 H
  a : At L (M ++ [D]) ms H
  le : acc.length ≤ i
  d : ∃ xs, H D = some (.lst xs) ∧ RpA (M ++ [D]) H xs acc
theorem lock_new {D : Addr} {o : HO} (h : At L M ms H1) (hD : H1 D = none) (ho : NTup o := by trivial) : At L (M ++ [D]) ms (upd H1 D o) := by
  have a := h.new (o := o) hD
  have t : To M (M ++ [D]) H1 (upd H1 D o) := to_new h hD (Wk.new hD)
  refine ⟨a.nd, fun p hp => List.mem_append_left _ (h.sub p hp), fun p hp => ?_, a.ln, fun k p m e1 e2 => ?_⟩
  · rcases List.mem_append.mp hp with z | z
    · exact a.al p z
    · simp at z; subst z; rw [upd_same]; exact ⟨_, rfl, ho⟩
  · exact (h.ok k p m e1 e2).to t (upd_ne (fun z => h.freshL hD (z ▸ List.mem_of_getElem? e1)))
theorem Cs.start {D : Addr} (h : At L M ms H1) (hD : H1 D = none) : Cs L M H1 D 0 [] ms (upd H1 D (.lst [])) := ⟨Wk.new hD, lock_new h hD, Nat.le_refl _, [], upd_same, .nil⟩
theorem Cs.done {D : Addr} {i : Nat} {acc : List PyData} {ms1 : List MD} {H2 : Hp} (h : Cs L M H1 D i acc ms1 H2) (hs : ∀ p ∈ L, p ∈ M) (hD : D ∉ L) : At (L ++ [D]) (M ++ [D]) (ms1 ++ [.l acc]) H2 := by
  obtain ⟨w, a, _, xs, e, r⟩ := h
  refine ⟨List.nodup_append.mpr ⟨a.nd, by simp, fun x hx y hy z => hD (by simp at hy; subst hy z; exact hx)⟩, fun q hq => ?_, a.al, by simp [a.ln], fun k q m e1 e2 => ?_⟩
  · rcases List.mem_append.mp hq with z | z
    · exact a.sub q z
    · exact List.mem_append_right _ z
  · by_cases hk : k < L.length
    · rw [List.getElem?_append_left hk] at e1
      rw [List.getElem?_append_left (by rw [← a.ln]; exact hk)] at e2
      exact (a.ok k q m e1 e2).toL (fun _ _ n e => ⟨n, e⟩) (fun k' q' _ z => by rw [List.getElem?_append_left (List.getElem?_eq_some_iff.mp z).1]; exact z) rfl
    · have hk2 : k = L.length := by
        have := (List.getElem?_eq_some_iff.mp e1).1
        simp at this
        omega
      subst hk2
      simp at e1
      subst e1
      rw [a.ln] at e2
      simp at e2
      subst e2
      exact ⟨xs, e, r⟩
theorem lc_turn {g : TG} {js : List Nat} {vs : List Nat} {D : Addr} {i : Nat} {acc : List PyData} {ms0 ms1 : List MD} {H2 : Hp} {x : SD} {v : V} {Nn : Nat → List PyData → List MD → Prop} (hj : ∀ j ∈ js, j ∈ vs) (hi : i < 10000)
    (hS : Sl K L M σ H1 ds) (a0 : At L M ms0 H1) (hD : H1 D = none) (c : Cs L M H1 D i acc ms1 H2) (ho : SlOk K L M H1 x v) (h : Lt K g js tt te vs ds x ms1 acc (Nn (i + 1))) :
    g v (L2.wipe σ vs) H2 fun σ2 H3 => L2.wipe σ2 vs = L2.wipe σ vs ∧ tt σ2 H3 fun b H4 => if b = true then te σ2 H4 fun y H5 => ∃ ac, H5 D = some (.lst ac) ∧ ac.length < sizeLine ∧ (∃ acc' ms', Cs L M H1 D (i + 1) acc' ms' (upd H5 D (.lst (ac ++ [y]))) ∧ Nn (i + 1) acc' ms') else ∃ acc' ms', Cs L M H1 D (i + 1) acc' ms' H4 ∧ Nn (i + 1) acc' ms' := by
  have t : To M (M ++ [D]) H1 H2 := to_new a0 hD c.w
  have hDL : D ∉ L := a0.freshL hD
  have s2 : Sl K L (M ++ [D]) (L2.wipe σ vs) H2 (wipeD ds vs) := (hS.to t c.w.kd fun _ _ e => e).wipe vs
  refine h L (M ++ [D]) (L2.wipe σ vs) H2 v s2 c.a (ho.to t c.w.kd fun _ _ e => e) _ fun σ2 ds2 sl2 wp h2 => ?_
  have wv : L2.wipe σ2 vs = L2.wipe σ vs := by
    rw [wp vs hj]
    apply List.ext_getElem?
    intro i
    rw [wipe_get, wipe_get, wipe_length]
    by_cases e : i ∈ vs
    · rw [if_pos e, if_pos e]
    · simp only [if_neg e, wipe_get]
  refine ⟨wv, ?_⟩
  refine h2 L (M ++ [D]) σ2 H2 sl2 c.a _ fun b H4 ms4 w4 a4 ⟨k1, k2⟩ => ?_
  obtain ⟨xs, e, r⟩ := c.d
  have e4 : H4 D = some (.lst xs) := w4 D _ hDL e
  have r4 : RpA (M ++ [D]) H4 xs acc := RpA.to (c.a.wk w4) _ _ r
  cases b with
  | false =>
    rw [if_neg Bool.false_ne_true]
    exact ⟨acc, ms4, ⟨c.w.trans w4, a4, Nat.le_succ_of_le c.le, xs, e4, r4⟩, k2 rfl⟩
  | true =>
    rw [if_pos rfl]
    refine k1 rfl L (M ++ [D]) σ2 H4 (sl2.mono c.a w4) a4 _ fun s y H5 ms5 w5 o5 ⟨d, ed, hn⟩ => ?_
    have a5 := o5.at
    have ry := o5.sl
    rw [ed] at ry
    have e5 : H5 D = some (.lst xs) := w5 D _ hDL e4
    have r5 : RpA (M ++ [D]) H5 xs acc := RpA.to (a4.wk w5) _ _ r4
    have hDM : D ∈ M ++ [D] := by simp
    have tt5 : To (M ++ [D]) (M ++ [D]) H5 (upd H5 D (.lst (xs ++ [y]))) := fun a o n q => ⟨n, by rw [upd_ne (fun z : a = D => n (by rw [z]; exact hDM))]; exact q⟩
    refine ⟨xs, e5, by rw [r5.length]; exact Nat.lt_of_le_of_lt c.le (Nat.lt_trans hi (by decide)), acc ++ [d], ms5, ⟨((c.w.trans w4).trans w5).over hD, ⟨a5.nd, a5.sub, fun p hp => ?_, a5.ln, fun k p m e1 e2 => ?_⟩, ?_, xs ++ [y], upd_same, RpA.to tt5 _ _ (r5.append (.cons ry .nil))⟩, hn⟩
    · by_cases z : p = D
      · subst z; rw [upd_same]; exact ⟨_, rfl, trivial⟩
      · rw [upd_ne z]; exact a5.al p hp
    · exact (a5.ok k p m e1 e2).to tt5 (upd_ne (fun z => hDL (z ▸ List.mem_of_getElem? e1)))
    · rw [List.length_append]; have := c.le; simp; exact this
end
theorem e_lcR {g : TG} {js vs : List Nat} (hj : ∀ j ∈ js, j ∈ vs) (h : EA K tA ds ms fun as ms0 => ∃ n : Int, as = [.d (.int n)] ∧ (-(2 ^ 62) ≤ n ∧ n ≤ 10000) ∧ ∃ Pv : Nat → List PyData → List MD → Prop, Pv 0 [] ms0 ∧
      (∀ i acc ms1, i < n.toNat → Pv i acc ms1 → Lt K g js tt te vs ds (.d (.int i)) ms1 acc (Pv (i + 1))) ∧ ∀ acc ms1, Pv n.toNat acc ms1 → R (.f acc) ms1) :
    E K (tLc (iRng1 tA) g tt te vs) ds ms R := fun L M σ H hS hA Q q =>
  h L M σ H hS hA _ fun as us H1 ms0 w a1 o ⟨n, ea, hn, Pv, h0, hs, hd⟩ => by
    subst ea
    obtain ⟨v, t1, rfl, hv, rfl⟩ := o
    cases hv
    refine ⟨n, rfl, hn.1, by have := hn.2; omega, fun D hD => ?_⟩
    have hDL := a1.freshL hD
    refine lc_range (lo := 0) (n := n.toNat) (fun i H' => ∃ acc ms', Cs L M H1 D i acc ms' H' ∧ Pv i acc ms') ⟨[], ms0, .start a1 hD, h0⟩ (fun i H' hi ⟨acc, ms', c, p⟩ => ?_) (fun H' ⟨acc, ms', c, p⟩ => ?_)
    · have e0 : ((0 : Int) + (i : Int)) = (i : Int) := Int.zero_add _
      have := lc_turn (x := .d (.int i)) (v := .int ((0 : Int) + (i : Int))) (Nn := Pv) hj (by have := hn.2; omega) (hS.mono hA w) a1 hD c (by show Rp M H1 (.int (0 + (i : Int))) (.int i); rw [e0]; exact .int _) (hs i acc ms' hi p)
      exact this
    · exact q (.f acc) _ H' ms' (w.trans c.w) ⟨D, rfl, none_back a1 w (a1.fresh hD) hD, a1.fresh hD, c.done a1.sub hDL, a1.sub⟩ (hd acc ms' p)
theorem e_lcL {g : TG} {js vs : List Nat} (hj : ∀ j ∈ js, j ∈ vs) (h : E K tl ds ms fun s ms0 => ∃ es, Sw (dd s) es ∧ es.length ≤ 10000 ∧ ∃ Pv : Nat → List PyData → List MD → Prop, Pv 0 [] ms0 ∧
      (∀ i e acc ms1, es[i]? = some e → Pv i acc ms1 → Lt K g js tt te vs ds (.d e) ms1 acc (Pv (i + 1))) ∧ ∀ acc ms1, Pv es.length acc ms1 → R (.f acc) ms1) :
    E K (tLc (iList K tl) g tt te vs) ds ms R := fun L M σ H hS hA Q q =>
  h L M σ H hS hA _ fun s v H1 ms0 w o ⟨es, sw, hz, Pv, h0, hs, hd⟩ => by
    have a1 := o.at
    obtain ⟨a, xs, rfl, rx, hx⟩ := sw.is a1 o.sl
    refine ⟨a, rfl, ⟨xs, hx H1 (Wk.refl L H1)⟩, fun D hD => ?_⟩
    have hDL := a1.freshL hD
    refine lc_list (xs := xs) (fun i H' => ∃ acc ms', Cs L M H1 D i acc ms' H' ∧ Pv i acc ms') ⟨[], ms0, .start a1 hD, h0⟩ (fun i H' _ ⟨_, _, c, _⟩ => hx H' c.w) (fun i x H' hi ⟨acc, ms', c, p⟩ => ?_) (fun H' ⟨acc, ms', c, p⟩ => ?_)
    · obtain ⟨e, e1, e2⟩ := rx.get' hi
      have hl := (List.getElem?_eq_some_iff.mp e1).1
      exact lc_turn (x := .d e) (v := x) (Nn := Pv) hj (by omega) (hS.mono hA w) a1 hD c e2 (hs i e acc ms' e1 p)
    · rw [rx.length] at p
      exact q (.f acc) _ H' ms' (w.trans c.w) ⟨D, rfl, none_back a1 w (a1.fresh hD) hD, a1.fresh hD, c.done a1.sub hDL, a1.sub⟩ (hd acc ms' p)
theorem e_lcT {g : TG} {js vs : List Nat} (hj : ∀ j ∈ js, j ∈ vs) (h : E K tl ds ms fun s ms0 => ∃ es, s = .d (.tuple es) ∧ es.length ≤ 10000 ∧ ∃ Pv : Nat → List PyData → List MD → Prop, Pv 0 [] ms0 ∧
      (∀ i e acc ms1, es[i]? = some e → Pv i acc ms1 → Lt K g js tt te vs ds (.d e) ms1 acc (Pv (i + 1))) ∧ ∀ acc ms1, Pv es.length acc ms1 → R (.f acc) ms1) :
    E K (tLc (iTup K tl) g tt te vs) ds ms R := fun L M σ H hS hA Q q =>
  h L M σ H hS hA _ fun s v H1 ms0 w o ⟨es, es', hz, Pv, h0, hs, hd⟩ => by
    subst es'
    obtain ⟨a1, z⟩ := o
    cases z with
    | @tup a xs _ na e rx =>
    have hx : ∀ H', Wk L H1 H' → SqT K H' a xs := fun H' w' => SqT.of (w' a _ (fun z => na (a1.sub a z)) e)
    refine ⟨a, rfl, ⟨xs, hx H1 (Wk.refl L H1)⟩, fun D hD => ?_⟩
    have hDL := a1.freshL hD
    refine lc_tup (xs := xs) (fun i H' => ∃ acc ms', Cs L M H1 D i acc ms' H' ∧ Pv i acc ms') ⟨[], ms0, .start a1 hD, h0⟩ (fun i H' _ ⟨_, _, c, _⟩ => hx H' c.w) (fun i x H' hi ⟨acc, ms', c, p⟩ => ?_) (fun H' ⟨acc, ms', c, p⟩ => ?_)
    · obtain ⟨e, e1, e2⟩ := rx.get' hi
      have hl := (List.getElem?_eq_some_iff.mp e1).1
      exact lc_turn (x := .d e) (v := x) (Nn := Pv) hj (by omega) (hS.mono hA w) a1 hD c e2 (hs i e acc ms' e1 p)
    · rw [rx.length] at p
      exact q (.f acc) _ H' ms' (w.trans c.w) ⟨D, rfl, none_back a1 w (a1.fresh hD) hD, a1.fresh hD, c.done a1.sub hDL, a1.sub⟩ (hd acc ms' p)
end
end Hc

namespace Hc
open PySem PySem.Spec PyProof.Rows L2
section
variable {K : PySem.W.Frag} {te ta tb tc tl : TE} {tt : TT} {tA : TA} {ds : List SD} {ms : List MD} {R : RS} {t u : TS} {P : Po}
/-! ### a new thing that may change, until the block's end -/
def frzS (n : Nat) (es : List PyData) : SD → SD
  | .m k => if k = n then .d (.list es) else .m k
  | s => s
def frzR (n : Nat) (es : List PyData) : SD → SD
  | .m k => if k = n then .f es else .m k
  | s => s
def Po.frz (P : Po) (n : Nat) : Po where
  nx := fun ds' ms' => ∃ ms1 es, ms' = ms1 ++ [.l es] ∧ ms1.length = n ∧ P.nx (ds'.map (frzS n es)) ms1
  rt := fun s ms' => ∃ ms1 es, ms' = ms1 ++ [.l es] ∧ ms1.length = n ∧ P.rt (frzR n es s) ms1
  bk := fun ds' ms' => ∃ ms1 es, ms' = ms1 ++ [.l es] ∧ ms1.length = n ∧ P.bk (ds'.map (frzS n es)) ms1
  ct := fun ds' ms' => ∃ ms1 es, ms' = ms1 ++ [.l es] ∧ ms1.length = n ∧ P.ct (ds'.map (frzS n es)) ms1
section
variable {L M : List Addr} {p : Addr} {H H0 H1 : Hp} {ms1 : List MD} {es : List PyData} {N : List SD → List MD → Prop} {C : L2.St → Hp → Prop}
theorem SlOk.frz {s : SD} {v : V} (a : At (L ++ [p]) (M ++ [p]) (ms1 ++ [.l es]) H) (np : p ∉ M) (h : SlOk K (L ++ [p]) (M ++ [p]) H s v) : SlOk K L M H (frzS ms1.length es s) v := by
  have hl : L.length = ms1.length := by have := a.ln; simp at this; exact this
  cases s with
  | u => exact h
  | f _ => exact h
  | g _ => exact h
  | d x => exact Rp.to to_less _ _ h
  | v x => exact h
  | w φ => exact ⟨h.2 _ _ _ _ _ to_less h.1, h.2⟩
  | h φ =>
    obtain ⟨b, e, n, q⟩ := h
    exact ⟨b, e, fun z => n (List.mem_append_left _ z), q⟩
  | s ns =>
    obtain ⟨b, e, ⟨n, q⟩ | q⟩ := h
    · exact ⟨b, e, .inl ⟨fun z => n (List.mem_append_left _ z), q⟩⟩
    · exact ⟨b, e, .inr q⟩
  | q k =>
    obtain ⟨q, rfl, hq, hls⟩ := h
    have hk : k < L.length := by
      have h1 := (List.getElem?_eq_some_iff.mp hq).1
      rw [List.length_append] at h1
      have h2 : k ≠ L.length := fun z => by
        subst z
        simp at hq
        subst hq
        obtain ⟨xs, e1, _⟩ := a.last
        exact hls.notL e1
      have h3 : k < L.length + 1 := h1
      omega
    rw [List.getElem?_append_left hk] at hq
    exact ⟨q, rfl, hq, hls⟩
  | m k =>
    obtain ⟨q, rfl, hq, hls⟩ := h
    show SlOk K L M H (if k = ms1.length then .d (.list es) else .m k) _
    by_cases hk : k = ms1.length
    · rw [if_pos hk]
      subst hk
      rw [← hl] at hq
      simp at hq
      subst hq
      obtain ⟨xs, e1, r⟩ := a.last
      exact .lst np e1 (RpA.to to_less _ _ r)
    · rw [if_neg hk]
      have : k < L.length := by
        have := (List.getElem?_eq_some_iff.mp hq).1
        simp at this
        omega
      rw [List.getElem?_append_left this] at hq
      exact ⟨q, rfl, hq, hls⟩
theorem Sl.frz {σ : L2.St} (a : At (L ++ [p]) (M ++ [p]) (ms1 ++ [.l es]) H) (np : p ∉ M) (h : Sl K (L ++ [p]) (M ++ [p]) σ H ds) : Sl K L M σ H (ds.map (frzS ms1.length es)) := fun i s e => by
  rw [List.getElem?_map] at e
  cases q : ds[i]? with
  | none => rw [q] at e; cases e
  | some s0 =>
    rw [q] at e
    have e' : frzS ms1.length es s0 = s := Option.some.inj e
    by_cases hu : s0 = .u
    · subst hu
      subst e'
      exact h i .u q
    · obtain ⟨v, e1, e2⟩ := h.get q hu
      have z := e2.frz a np
      rw [e'] at z
      cases s with
      | u => exact z.elim
      | f _ => exact z.elim
      | g _ => exact z.elim
      | d x => exact ⟨v, e1, z⟩
      | m k => exact ⟨v, e1, z⟩
      | q k => exact ⟨v, e1, z⟩
      | s ns => exact ⟨v, e1, z⟩
      | v x => exact ⟨v, e1, z⟩
      | h φ => exact ⟨v, e1, z⟩
      | w φ => exact ⟨v, e1, z⟩
def plainM : MD → Bool
  | .r _ => false
  | _ => true
theorem MOk.plain {L L' M M' : List Addr} {H : Hp} {j j' : Nat} {p : Addr} {m : MD} (hm : plainM m = true) (t : To M M' H H) (h : MOk L M H j p m) : MOk L' M' H j' p m := by
  cases m with
  | l es =>
    obtain ⟨xs, e1, r⟩ := h
    exact ⟨xs, e1, RpA.to t _ _ r⟩
  | r ks => cases hm
  | k ds =>
    obtain ⟨kvs, e1, r⟩ := h
    exact ⟨kvs, e1, r.toP t⟩
  | t ds =>
    obtain ⟨kvs, e1, r⟩ := h
    exact ⟨kvs, e1, r.toP t⟩
  | z o kvs ds =>
    obtain ⟨e1, r⟩ := h
    exact ⟨e1, r.toP t⟩
theorem At.dropMid {q : Addr} {m1 m2 : MD} (hm : plainM m2 = true) (a : At (L ++ [p] ++ [q]) (M ++ [p] ++ [q]) (ms1 ++ [m1] ++ [m2]) H) (sb : ∀ x ∈ L, x ∈ M) : At (L ++ [q]) (M ++ [q]) (ms1 ++ [m2]) H := by
  have hl : L.length = ms1.length := by have := a.ln; simp at this; exact this
  have t : To (M ++ [p] ++ [q]) (M ++ [q]) H H := fun b o n e => ⟨fun z => n (by
    rcases List.mem_append.mp z with z | z
    · exact List.mem_append_left _ (List.mem_append_left _ z)
    · exact List.mem_append_right _ z), e⟩
  have nd := a.nd
  refine ⟨?_, ?_, ?_, by simp [hl], fun k x m e1 e2 => ?_⟩
  · rw [List.append_assoc] at nd
    obtain ⟨n1, n2, n3⟩ := List.nodup_append.mp nd
    exact List.nodup_append.mpr ⟨n1, by simp, fun x hx y hy => n3 x hx y (by simp at hy ⊢; exact Or.inr hy)⟩
  · intro x hx
    rcases List.mem_append.mp hx with z | z
    · exact List.mem_append_left _ (sb x z)
    · exact List.mem_append_right _ z
  · intro x hx
    refine a.al x ?_
    rcases List.mem_append.mp hx with z | z
    · exact List.mem_append_left _ (List.mem_append_left _ z)
    · exact List.mem_append_right _ z
  · by_cases hk : k < L.length
    · rw [List.getElem?_append_left hk] at e1
      rw [List.getElem?_append_left (by rw [← hl]; exact hk)] at e2
      refine (a.ok k x m ?_ ?_).toL t (fun k' q' hlt z => by rw [List.append_assoc, List.getElem?_append_left (by omega)] at z; rw [List.getElem?_append_left (by omega)]; exact z) rfl
      · rw [List.append_assoc, List.getElem?_append_left hk]; exact e1
      · rw [List.append_assoc, List.getElem?_append_left (by rw [← hl]; exact hk)]; exact e2
    · have hk2 : k = L.length := by
        have := (List.getElem?_eq_some_iff.mp e1).1
        simp at this
        omega
      subst hk2
      have ex : q = x := by simpa using e1
      subst ex
      rw [hl] at e2
      have em : m2 = m := by simpa using e2
      subst em
      refine MOk.plain hm t (a.ok (L.length + 1) q m2 ?_ ?_)
      · rw [List.getElem?_append_right (by simp)]; simp
      · rw [List.getElem?_append_right (by simp [hl])]; simp [hl]
theorem Out.frz {v : V} {s : SD} (hp0 : H0 p = none) (a : At (L ++ [p]) (M ++ [p]) (ms1 ++ [.l es]) H) (w0 : ∀ q, q ∉ M → q ≠ p → H1 q = none → H0 q = none) (np : p ∉ M) (sb : ∀ x ∈ L, x ∈ M) (h : Out K (L ++ [p]) (M ++ [p]) H1 H (ms1 ++ [.l es]) v s) : Out K L M H0 H ms1 v (frzR ms1.length es s) := by
  have ad := a.drop sb
  cases s with
  | u => exact h.2.elim
  | d x => exact ⟨ad, Rp.to to_less _ _ h.2⟩
  | s ns => exact ⟨ad, SlOk.frz (s := .s ns) a np h.2⟩
  | v x => exact ⟨ad, h.2⟩
  | h φ => exact ⟨ad, SlOk.frz (s := .h φ) a np h.2⟩
  | w φ => exact ⟨ad, SlOk.frz (s := .w φ) a np h.2⟩
  | f fs =>
    obtain ⟨q, rfl, hq, nq, aq, _⟩ := h
    have nqM : q ∉ M := fun z => nq (List.mem_append_left _ z)
    have nqp : q ≠ p := fun z => nq (List.mem_append_right _ (by simp [z]))
    exact ⟨q, rfl, w0 q nqM nqp hq, nqM, At.dropMid rfl aq sb, sb⟩
  | g fs =>
    obtain ⟨q, rfl, hq, nq, aq, _⟩ := h
    have nqM : q ∉ M := fun z => nq (List.mem_append_left _ z)
    have nqp : q ≠ p := fun z => nq (List.mem_append_right _ (by simp [z]))
    exact ⟨q, rfl, w0 q nqM nqp hq, nqM, At.dropMid rfl aq sb, sb⟩
  | q k => exact ⟨ad, SlOk.frz (s := .q k) a np h.2⟩
  | m k =>
    have hl : L.length = ms1.length := by have := a.ln; simp at this; exact this
    obtain ⟨_, q, rfl, hq, hls⟩ := h
    show Out K L M H0 H ms1 _ (if k = ms1.length then .f es else .m k)
    by_cases hk : k = ms1.length
    · rw [if_pos hk]
      subst hk
      rw [← hl] at hq
      simp at hq
      subst hq
      exact ⟨p, rfl, hp0, np, a, sb⟩
    · rw [if_neg hk]
      have : k < L.length := by
        have := (List.getElem?_eq_some_iff.mp hq).1
        simp at this
        omega
      rw [List.getElem?_append_left this] at hq
      exact ⟨ad, q, rfl, hq, hls⟩
end
theorem s_new {i : Nat} (h : E K te ds ms fun s ms1 => ∃ es, s = .f es ∧ S K u (ds.set i (.m ms1.length)) (ms1 ++ [.l es]) (P.frz ms1.length)) : S K (tSeq (tAsg te (gName i)) u) ds ms P := fun L M σ H hS hA D n r b c =>
  h L M σ H hS hA _ fun s v H1 ms1 w o ⟨es, e, h1⟩ => by
    subst e
    obtain ⟨p, rfl, hp, np, a1, sb⟩ := o
    have hl : L.length = ms1.length := by have := a1.ln; simp at this; exact this
    have npL : p ∉ L := fun z => np (hA.sub p z)
    have t : To M (M ++ [p]) H H1 := to_new hA hp w
    have hS1 : Sl K (L ++ [p]) (M ++ [p]) (σ.set i (some (.ref p))) H1 (ds.set i (.m ms1.length)) := by
      refine (hS.to t w.kd fun k q e => ?_).set i ⟨p, rfl, by rw [← hl]; simp, let ⟨xs, e, _⟩ := a1.last; ⟨xs, e⟩⟩
      rw [List.getElem?_append_left (List.getElem?_eq_some_iff.mp e).1]
      exact e
    have wk : ∀ {H2 : Hp}, Wk (L ++ [p]) H1 H2 → Wk L H H2 := fun {H2} w2 => ⟨fun x y nx ex => w2 x y (fun z => (List.mem_append.mp z).elim nx fun z => ne_of_none ex hp (by simpa using z)) (w x y nx ex), fun x y ex => by
      obtain ⟨o1, f1, k1⟩ := w.kd x y ex
      obtain ⟨o2, f2, k2⟩ := w2.kd x o1 f1
      exact ⟨o2, f2, k2.trans k1⟩⟩
    have go : ∀ {N : List SD → List MD → Prop} {C : L2.St → Hp → Prop}, Nx K L M H N C → Nx K (L ++ [p]) (M ++ [p]) H1 (fun ds' ms' => ∃ ms1' es, ms' = ms1' ++ [.l es] ∧ ms1'.length = ms1.length ∧ N (ds'.map (frzS ms1.length es)) ms1') C := by
      intro N C nn σ2 H2 ds2 ms2 w2 s2 a2 ⟨ms3, es3, e3, l3, n3⟩
      subst e3
      rw [← l3] at n3
      exact nn σ2 H2 _ ms3 (wk w2) (s2.frz a2 np) (a2.drop sb) n3
    refine h1 (L ++ [p]) (M ++ [p]) _ H1 hS1 a1 D (go n) ?_ (go b) (go c)
    intro s2 v2 H2 ms2 w2 o2 ⟨ms3, es3, e3, l3, n3⟩
    subst e3
    rw [← l3] at n3
    refine r _ v2 H2 ms3 (wk w2) ?_ n3
    refine Out.frz hp o2.at (fun q hq hqp hq1 => ?_) np sb o2
    cases e : H q with
    | none => rfl
    | some oo => rw [w q oo (fun z => hq (hA.sub q z)) e] at hq1; cases hq1
/-! ### a whole def -/
theorem SlsOk.len {L M : List Addr} {H : Hp} : ∀ {as : List SD} {vs : List V}, SlsOk K L M H as vs → as.length = vs.length
  | [], _, h => by cases h; rfl
  | s :: r, _, ⟨v, t, e, a, b⟩ => by subst e; simp [SlsOk.len b]
theorem SlsOk.get {L M : List Addr} {H : Hp} : ∀ {as : List SD} {vs : List V} {i : Nat} {s : SD}, SlsOk K L M H as vs → as[i]? = some s → ∃ v, vs[i]? = some v ∧ SlOk K L M H s v
  | [], _, _, _, h, e => by simp at e
  | s :: r, _, 0, _, ⟨v, t, e, a, b⟩, e2 => by subst e; simp at e2; subst e2; exact ⟨v, rfl, a⟩
  | s :: r, _, i + 1, x, ⟨v, t, e, a, b⟩, e2 => by
    subst e
    obtain ⟨v2, e3, e4⟩ := SlsOk.get (i := i) (s := x) b (by simpa using e2)
    exact ⟨v2, by simpa using e3, e4⟩
theorem Sl.start {L M : List Addr} {H : Hp} {N : List Str} {as : List SD} {vs : List V} (h : SlsOk K L M H as vs) (hn : as.length ≤ N.length) : Sl K L M (start N vs) H (as ++ List.replicate (N.length - as.length) .u) := fun i s e => by
  have hl := h.len
  by_cases hi : i < as.length
  · rw [List.getElem?_append_left hi] at e
    obtain ⟨v, e1, e2⟩ := h.get e
    have e3 : (L2.start N vs)[i]? = some (some v) := by
      unfold L2.start
      rw [List.getElem?_append_left (by simp [← hl]; exact hi), List.getElem?_map, e1]
      rfl
    cases s with
    | u => exact e2.elim
    | f _ => exact e2.elim
    | g _ => exact e2.elim
    | d x => exact ⟨v, e3, e2⟩
    | m k => exact ⟨v, e3, e2⟩
    | q k => exact ⟨v, e3, e2⟩
    | s ns => exact ⟨v, e3, e2⟩
    | v x => exact ⟨v, e3, e2⟩
    | h φ => exact ⟨v, e3, e2⟩
    | w φ => exact ⟨v, e3, e2⟩
  · rw [List.getElem?_append_right (by omega)] at e
    have hs : s = .u := by
      have := List.mem_of_getElem? e
      exact (List.mem_replicate.mp this).2
    subst hs
    show i < (L2.start N vs).length
    have := (List.getElem?_eq_some_iff.mp e).1
    unfold L2.start
    simp at this ⊢
    omega
def fin (R : RS) : Po where
  nx := fun _ ms' => R (.d .none) ms'
  rt := R
  bk := fun _ _ => False
  ct := fun _ _ => False
theorem read_of {N : List Str} {Φ : Ph} {vs : List V} {H : Hp} {Q : VK} {X : XK} (hn : ∀ as ms R, Φ as ms R → as.length ≤ N.length) (h : ∀ as ms R, Φ as ms R → S K t (as ++ List.replicate (N.length - as.length) .u) ms (fin R)) (hs : SpD K Φ vs H Q X) :
    t { nx := fun _ H' => Q .non H', rt := Q } (start N vs) H := by
  obtain ⟨L, M, ms, as, R, hA, ho, hp, q⟩ := hs
  exact h as ms R hp L M _ H (Sl.start ho (hn _ _ _ hp)) hA _ (fun σ' H' ds' ms' w s a r => q (.d .none) .non H' ms' w ⟨a, .non⟩ r) (fun s v H' ms' w o r => q s v H' ms' w o r) (fun _ _ _ _ _ _ _ z => z.elim) (fun _ _ _ _ _ _ _ z => z.elim)
end
section
variable {Pg : Program} {w : World} {K : PySem.W.Frag} {mg : Str → Option Value} {base : Heap}
/-- a def that keeps Φ -/
theorem ok_of {x qual : Str} {st : Stmt} {f : Addr} {fd : FuncData} {N ps : List Str} {k : Nat} {Φ : Ph} (F : Fun K x qual st f fd) (Sc : FnScope N ps (defScope st)) (hl : ∀ as ms R, Φ as ms R → as.length = ps.length) (hpn : ps.length ≤ N.length)
    (hbody : ∀ (cdv : Value) (A : Around) (outer : List Env) (s : Shared) (H : Hp) (E : XK), Room k (A.deeper (envOfC qual (defScope st) s.heap.objs.size f cdv)) →
      ∃ t, PSs (cxOf CX0 Pg w K mg base N qual (defScope st) f cdv A outer s H E).nox (defBody st) t ∧ ∀ as ms R, Φ as ms R → S K t (as ++ List.replicate (N.length - as.length) .u) ms (fin R)) : FnOk Pg w K mg base CX0 (k + 1) f fd ps (SpD K Φ) := by
  refine F.ok Sc (fun vs H Q E h => ?_) (fun cdv A outer s H vs Q E hr h => ?_)
  · obtain ⟨L, M, ms, as, R, hA, ho, hp, q⟩ := h
    rw [← ho.len]
    exact hl as ms R hp
  · obtain ⟨t, h1, h2⟩ := hbody cdv A outer s H E hr
    exact ⟨t, h1, read_of (fun as ms R z => by rw [hl as ms R z]; exact hpn) h2 h⟩
end
end Hc

namespace Hc
open PySem PySem.Spec PyProof.Rows L2
abbrev rAddI : R2 := rI0 fun i j => .int (i + j)
abbrev rSubI : R2 := rI0 fun i j => .int (i - j)
abbrev rMulI : R2 := rI CMul fun i j => .int (i * j)
abbrev rModN : R2 := rI (fun _ j => j ≠ 0) fun i j => .int (i.fmod j)
abbrev rPowI : R2 := rI CPow fun i j => .int (i ^ j.toNat)
abbrev rXorI : R2 := rI0 fun i j => .int (Builtin.bitXor i j)
abbrev rLtI : R2 := rI0 fun i j => .bl (decide (i < j))
abbrev rLeI : R2 := rI0 fun i j => .bl (decide (i ≤ j))
abbrev rGtI : R2 := rI0 fun i j => .bl (decide (j < i))
abbrev rGeI : R2 := rI0 fun i j => .bl (decide (j ≤ i))
abbrev rMinI : List V → Hp → VK → Prop := fun xs H Q => ∃ i j, xs = [.int i, .int j] ∧ Q (.int (if j < i then j else i)) H
abbrev rLenQ (K : PySem.W.Frag) : List V → Hp → VK → Prop := fun xs H Q => ∃ p ys, xs = [.ref p] ∧ (SqL K H p ys ∨ SqT K H p ys) ∧ Q (.int ys.length) H
abbrev rTupQ (K : PySem.W.Frag) : List V → Hp → VK → Prop := fun xs H Q => ∃ p ys, xs = [.ref p] ∧ ((SqL K H p ys ∧ ∀ l, H l = none → Q (.ref l) (upd H l (.tup ys))) ∨ (SqT K H p ys ∧ Q (.ref p) H))
abbrev rListQ (K : PySem.W.Frag) : List V → Hp → VK → Prop := fun xs H Q => ∃ p ys, xs = [.ref p] ∧ (SqL K H p ys ∨ SqT K H p ys) ∧ ∀ l, H l = none → Q (.ref l) (upd H l (.lst ys))
/-- sizes -/
@[irreducible] def Bd (n : Nat) (i : Int) : Prop := i.natAbs < 2 ^ n
def CMulX (i j : Int) : Prop := Bd 100000 i ∧ Bd 100000 j
def CDivX (_ j : Int) : Prop := j ≠ 0 ∧ Bd 8000 j
abbrev rMulX : R2 := rI CMulX fun i j => .int (i * j)
abbrev rDivX : R2 := rI CDivX fun i j => .int (i.fdiv j)
theorem Bd.iff {n : Nat} {i : Int} : Bd n i ↔ i.natAbs < 2 ^ n := by unfold Bd; exact Iff.rfl
theorem Bd.mono {m n : Nat} {i : Int} (h : Bd m i) (l : m ≤ n) : Bd n i := Bd.iff.mpr (Nat.lt_of_lt_of_le (Bd.iff.mp h) (Nat.pow_le_pow_right (by decide) l))
theorem Bd.add {m : Nat} {i j : Int} (a : Bd m i) (b : Bd m j) : Bd (m + 1) (i + j) := by
  have ha := Bd.iff.mp a
  have hb := Bd.iff.mp b
  refine Bd.iff.mpr ?_
  rw [Nat.pow_succ]
  have := Int.natAbs_add_le i j
  omega
theorem Bd.neg {m : Nat} {i : Int} (a : Bd m i) : Bd m (-i) := Bd.iff.mpr (by rw [Int.natAbs_neg]; exact Bd.iff.mp a)
theorem Bd.sub {m : Nat} {i j : Int} (a : Bd m i) (b : Bd m j) : Bd (m + 1) (i - j) := by
  rw [Int.sub_eq_add_neg]
  exact a.add b.neg
theorem Bd.le {m : Nat} {i j : Int} (a : Bd m j) (h : i.natAbs ≤ j.natAbs) : Bd m i := Bd.iff.mpr (Nat.lt_of_le_of_lt h (Bd.iff.mp a))
theorem Bd.of {n : Nat} {i : Int} (h : i.natAbs < 2 ^ n) : Bd n i := Bd.iff.mpr h
section
variable {X : Cx}
theorem op_mulX : OpR X (binaryOp .Mult) rMulX := opI fun _ _ _ _ _ _ _ hc q => mul_int q (CMulW.ok (wide_mul (Bd.iff.mp hc.1) (Bd.iff.mp hc.2) (by decide) (by decide) (by decide)))
theorem op_fdivX : OpR X (binaryOp .FloorDiv) rDivX := opI fun i j _ _ _ _ _ hc q => floordiv_int hc.1 q (.inl (PyProof.noPylong_of_log2 (Nat.lt_trans (PySem.Flt.log2_lt_of (by decide) (Bd.iff.mp hc.2)) (by decide))))
end
section
variable {K : PySem.W.Frag} {te ta tb tc tl : TE} {tt : TT} {tA : TA} {ds : List SD} {ms : List MD} {R : RS} {t u : TS} {P : Po}
theorem rr_ix {a b : SD} (h : ∃ es i d, (Sv ms a (.list es) ∨ Sv ms a (.tuple es)) ∧ b = .d (.int i) ∧ atI es i = some d ∧ R (.d d) ms) : RR K (rIx K) a b ms R := fun L M H x y hA ha hb Q q => by
  obtain ⟨es, i, d, sa | sa, e1, e2, r⟩ := h
  · exact .inl (rr_ixL ⟨es, i, d, sa, e1, e2, r⟩ L M H x y hA ha hb Q q)
  · exact .inr (.inl (rr_ixT ⟨es, i, d, sa, e1, e2, r⟩ L M H x y hA ha hb Q q))
end
/-! ### defs by name -/
structure Kn (Pg : Program) (w : World) (K : PySem.W.Frag) (mg : Str → Option Value) (base : Heap) (x : Str) (lv : Nat) (ps : List Str) (Φ : Ph) : Prop where
  ex : ∃ f fd, FnOk Pg w K mg base CX0 lv f fd ps (SpD K Φ) ∧ mg x = some (.ref f) ∧ PySem.W.keepIn K (.ref f) = true ∧ Binds K fd ps []
theorem pe_callD {X : Cx} {x : Str} {lv : Nat} {ps : List Str} {Φ : Ph} {e : Expr} {es : List Expr} {t : TA} {p pos : Pos} (h : Kn X.prog X.w X.K X.mg X.base x lv ps Φ) (hr : Room lv X.A) (hg : Gl X x) (ha : PA X (e :: es) t)
    (hdb : (x == ("__debug__" : Str)) = false := by decide) (he : starEach (e :: es) X.env = (false, eval e X.env) :: starEach es X.env := by rfl) (hpl : (backTo pos (starEach es X.env)).any (·.1) = false := by rfl) :
    PE X (.Call (.Name x p) (e :: es) [] pos) (tCall (SpD X.K Φ) [] E0 t) := by
  obtain ⟨f, fd, G, m, k, b⟩ := h.ex
  exact pe_call G hr hg m k b .nil pass0 ha hdb he hpl
def ph1 (f : SD → List MD → RS → Prop) : Ph := fun as ms R => ∃ a, as = [a] ∧ f a ms R
def ph2 (f : SD → SD → List MD → RS → Prop) : Ph := fun as ms R => ∃ a b, as = [a, b] ∧ f a b ms R
def ph3 (f : SD → SD → SD → List MD → RS → Prop) : Ph := fun as ms R => ∃ a b c, as = [a, b, c] ∧ f a b c ms R
theorem ph1_len {f : SD → List MD → RS → Prop} : ∀ as ms R, ph1 f as ms R → as.length = 1 := fun _ _ _ ⟨_, e, _⟩ => by rw [e]; rfl
theorem ph2_len {f : SD → SD → List MD → RS → Prop} : ∀ as ms R, ph2 f as ms R → as.length = 2 := fun _ _ _ ⟨_, _, e, _⟩ => by rw [e]; rfl
theorem ph3_len {f : SD → SD → SD → List MD → RS → Prop} : ∀ as ms R, ph3 f as ms R → as.length = 3 := fun _ _ _ ⟨_, _, _, e, _⟩ => by rw [e]; rfl
/-- the script at the law's door -/
theorem at_door {K : PySem.W.Frag} {H : Hp} {a : Addr} {ns : List Int} (hO : Only H) (hS : SqL K H a (ns.map V.int)) : SlOk K [] [] H (.s ns) (.ref a) := by
  refine ⟨a, rfl, ?_⟩
  rcases hS with h | h
  · exact .inl ⟨by simp, h⟩
  · exact .inr fun H' => .inr h
theorem at_nil {H : Hp} : At [] [] [] H := ⟨List.nodup_nil, fun _ h => by simp at h, fun _ h => by simp at h, rfl, fun _ _ _ h => by simp at h⟩
end Hc

namespace Hc
open PySem PySem.Spec PyProof.Rows L2
theorem instInt (d : PyData) : kitB (tyN d) "int" = some (inst d "int") := by
  have h : ∀ n : String, n ∈ ["NoneType", "bool", "int", "str", "list", "tuple", "dict"] → kitB n "int" = some ((kitB n "int").getD false) := by decide +kernel
  cases d <;> exact h _ (by simp [tyN])
theorem instBool (d : PyData) : kitB (tyN d) "bool" = some (inst d "bool") := by
  have h : ∀ n : String, n ∈ ["NoneType", "bool", "int", "str", "list", "tuple", "dict"] → kitB n "bool" = some ((kitB n "bool").getD false) := by decide +kernel
  cases d <;> exact h _ (by simp [tyN])
theorem instTuple (d : PyData) : kitB (tyN d) "tuple" = some (inst d "tuple") := by
  have h : ∀ n : String, n ∈ ["NoneType", "bool", "int", "str", "list", "tuple", "dict"] → kitB n "tuple" = some ((kitB n "tuple").getD false) := by decide +kernel
  cases d <;> exact h _ (by simp [tyN])
theorem instList (d : PyData) : kitB (tyN d) "list" = some (inst d "list") := by
  have h : ∀ n : String, n ∈ ["NoneType", "bool", "int", "str", "list", "tuple", "dict"] → kitB n "list" = some ((kitB n "list").getD false) := by decide +kernel
  cases d <;> exact h _ (by simp [tyN])
def isWhole : PyData → Bool
  | .int _ => true
  | _ => false
def isTup : PyData → Bool
  | .tuple _ => true
  | _ => false
def isLst : PyData → Bool
  | .list _ => true
  | _ => false
def isRow : PyData → Bool
  | .list _ => true
  | .tuple _ => true
  | _ => false
theorem inst_tup (x : PyData) : inst x "tuple" = isTup x := by
  cases x with
  | none => exact (by decide +kernel : inst .none "tuple" = false)
  | bool b => exact (by decide +kernel : inst (.bool true) "tuple" = false)
  | int i => exact (by decide +kernel : inst (.int 0) "tuple" = false)
  | str s => exact (by decide +kernel : inst (.str "") "tuple" = false)
  | list s => exact (by decide +kernel : inst (.list []) "tuple" = false)
  | tuple s => exact (by decide +kernel : inst (.tuple []) "tuple" = true)
  | dict s => exact (by decide +kernel : inst (.dict []) "tuple" = false)
theorem inst_lst (x : PyData) : inst x "list" = isLst x := by
  cases x with
  | none => exact (by decide +kernel : inst .none "list" = false)
  | bool b => exact (by decide +kernel : inst (.bool true) "list" = false)
  | int i => exact (by decide +kernel : inst (.int 0) "list" = false)
  | str s => exact (by decide +kernel : inst (.str "") "list" = false)
  | list s => exact (by decide +kernel : inst (.list []) "list" = true)
  | tuple s => exact (by decide +kernel : inst (.tuple []) "list" = false)
  | dict s => exact (by decide +kernel : inst (.dict []) "list" = false)
theorem inst_row (x : PyData) : (inst x "list" || inst x "tuple") = isRow x := by rw [inst_lst, inst_tup]; cases x <;> rfl
theorem whole_and (x : PyData) : (inst x "int" && !inst x "bool") = isWhole x := by
  cases x with
  | none => exact (by decide +kernel : (inst .none "int" && !inst .none "bool") = false)
  | bool b => exact (by decide +kernel : (inst (.bool true) "int" && !inst (.bool true) "bool") = false)
  | int i => exact (by decide +kernel : (inst (.int 0) "int" && !inst (.int 0) "bool") = true)
  | str s => exact (by decide +kernel : (inst (.str "") "int" && !inst (.str "") "bool") = false)
  | list s => exact (by decide +kernel : (inst (.list []) "int" && !inst (.list []) "bool") = false)
  | tuple s => exact (by decide +kernel : (inst (.tuple []) "int" && !inst (.tuple []) "bool") = false)
  | dict s => exact (by decide +kernel : (inst (.dict []) "int" && !inst (.dict []) "bool") = false)
theorem whole_inv {x : PyData} (h : isWhole x = true) : ∃ i, x = .int i := by
  cases x with
  | int i => exact ⟨i, rfl⟩
  | _ => cases h
/-! ### numbers -/
theorem fmod_nat (x y : Nat) : Int.fmod (x : Int) (y : Int) = ((x % y : Nat) : Int) := by
  rw [Int.fmod_eq_emod_of_nonneg _ (by omega)]
  rfl
abbrev pr (p : Int × Int) : PyData := .tuple [.int p.1, .int p.2]
/-- the fraction of two ints -/
def fr (i j : Int) : Int × Int := if j < 0 then (i.fdiv (-(Int.gcd i j : Int)), j.fdiv (-(Int.gcd i j : Int))) else (i.fdiv (Int.gcd i j), j.fdiv (Int.gcd i j))
theorem fr_is {i j : Int} (hj : j ≠ 0) : ∃ c : Int, c ≠ 0 ∧ (0 < c ↔ 0 < j) ∧ c.natAbs = Int.gcd i j ∧ i = (fr i j).1 * c ∧ j = (fr i j).2 * c := by
  have hg : 0 < Int.gcd i j := Int.gcd_pos_of_ne_zero_right i hj
  have d1 : (Int.gcd i j : Int) ∣ i := Int.gcd_dvd_left ..
  have d2 : (Int.gcd i j : Int) ∣ j := Int.gcd_dvd_right ..
  unfold fr
  by_cases h : j < 0
  · rw [if_pos h]
    refine ⟨-(Int.gcd i j : Int), by omega, by omega, by omega, ?_, ?_⟩
    · exact (Int.fdiv_mul_cancel (Int.neg_dvd.mpr d1)).symm
    · exact (Int.fdiv_mul_cancel (Int.neg_dvd.mpr d2)).symm
  · rw [if_neg h]
    refine ⟨(Int.gcd i j : Int), by omega, by omega, by omega, ?_, ?_⟩
    · exact (Int.fdiv_mul_cancel d1).symm
    · exact (Int.fdiv_mul_cancel d2).symm
theorem fr_pos {i j : Int} (hj : j ≠ 0) : 0 < (fr i j).2 := by
  obtain ⟨c, c0, cs, _, _, e⟩ := fr_is (i := i) hj
  by_cases h : 0 < j
  · have hc := cs.mpr h
    rw [e] at h
    exact Int.pos_of_mul_pos_left h hc
  · have hc : c < 0 := by
      have : ¬ 0 < c := fun z => h (cs.mp z)
      omega
    have hn : (fr i j).2 * c < 0 := by rw [← e]; omega
    exact Int.pos_of_mul_neg_left hn hc
theorem fr_low {i j : Int} (hj : j ≠ 0) : Int.gcd (fr i j).1 (fr i j).2 = 1 := by
  obtain ⟨c, c0, cs, cg, e1, e2⟩ := fr_is (i := i) hj
  have h : Int.gcd i j = Int.gcd (fr i j).1 (fr i j).2 * c.natAbs := by
    have := Int.gcd_mul_right (fr i j).1 c (fr i j).2
    rw [← e1, ← e2] at this
    exact this
  have hg : 0 < Int.gcd i j := Int.gcd_pos_of_ne_zero_right i hj
  rw [cg] at h
  have h1 : 1 * Int.gcd i j = Int.gcd (fr i j).1 (fr i j).2 * Int.gcd i j := by rw [Nat.one_mul]; exact h
  exact (Nat.eq_of_mul_eq_mul_right hg h1).symm
theorem co_dvd {a b d : Int} (g : Int.gcd a b = 1) (h : b ∣ a * d) : b ∣ d := by
  have h1 : b.natAbs ∣ a.natAbs * d.natAbs := by
    rw [← Int.natAbs_mul]
    exact Int.natAbs_dvd_natAbs.mpr h
  have h2 : Nat.Coprime b.natAbs a.natAbs := by
    rw [Nat.coprime_comm]
    exact g
  exact Int.natAbs_dvd_natAbs.mp (Nat.Coprime.dvd_of_dvd_mul_left h2 h1)
/-- lowest terms are told once -/
theorem low_uniq {a b c d : Int} (hb : 0 < b) (hd : 0 < d) (g1 : Int.gcd a b = 1) (g2 : Int.gcd c d = 1) (h : a * d = c * b) : a = c ∧ b = d := by
  have d1 : b ∣ d := by
    have : b ∣ a * d := ⟨c, by rw [h, Int.mul_comm]⟩
    exact co_dvd g1 this
  have d2 : d ∣ b := by
    have : d ∣ c * b := ⟨a, by rw [← h, Int.mul_comm]⟩
    exact co_dvd g2 this
  have e : b = d := Int.dvd_antisymm (by omega) (by omega) d1 d2
  subst e
  exact ⟨Int.eq_of_mul_eq_mul_right (by omega) h, rfl⟩
theorem eqv_int (i j : Int) : PyData.eqv (.int i) (.int j) = decide (i = j) := by
  rw [PyData.eqv]
  by_cases h : i = j
  · subst h; simp
  · simp [h]
theorem shaped_int (i : Int) : SeqAt.shaped (.int i) = true := by simp [SeqAt.shaped, PyData.canLay0, PyData.depth]
end Hc

namespace Hc
open PySem PySem.Spec PyProof.Rows L2
/-! ### a tuple times one is itself -/
section
variable {K : PySem.W.Frag} {te ta tb tc tl : TE} {tt : TT} {tA : TA} {ds : List SD} {ms : List MD} {R : RS} {t u : TS} {P : Po}
/-! ### slices -/
def EO (K : PySem.W.Frag) (to : TO) (ds : List SD) (ms : List MD) (R : Option Int → List MD → Prop) : Prop :=
  ∀ (L M : List Addr) (σ : L2.St) (H : Hp), Sl K L M σ H ds → At L M ms H → ∀ Q : Option Int → Hp → Prop, (∀ o H' ms', Wk L H H' → At L M ms' H' → R o ms' → Q o H') → to σ H Q
theorem eo_none {RO : Option Int → List MD → Prop} (r : RO none ms) : EO K tNoPart ds ms RO := fun L M σ H hS hA Q q => q none H ms (Wk.refl L H) hA r
theorem eo_some {RO : Option Int → List MD → Prop} (h : E K te ds ms fun s ms1 => ∃ i, s = .d (.int i) ∧ RO (some i) ms1) : EO K (tPart te) ds ms RO := fun L M σ H hS hA Q q =>
  h L M σ H hS hA _ fun s v H1 ms1 w o ⟨i, e, r⟩ => by
    subst e
    obtain ⟨a, z⟩ := o
    cases z
    exact ⟨i, rfl, q (some i) H1 ms1 w a r⟩
def cutD (es : List PyData) (lo hi : Option Int) : List PyData := (es.drop (HT.sIx es.length 0 lo)).take (HT.sIx es.length es.length hi - HT.sIx es.length 0 lo)
theorem cut_of {M : List Addr} {H : Hp} {xs : List V} {es : List PyData} (r : RpA M H xs es) (lo hi : Option Int) : RpA M H (cutV xs lo hi) (cutD es lo hi) := by
  unfold cutV cutD
  rw [r.length]
  exact (r.drop _).take _
theorem e_slL {to th : TO} (h : E K te ds ms fun s ms1 => EO K to ds ms1 fun lo ms2 => EO K th ds ms2 fun hi ms3 => ∃ es, Sv ms3 (dd s) (.list es) ∧ R (.f (cutD es lo hi)) ms3) : E K (tSl (rSlL K) te to th) ds ms R := fun L M σ H hS hA Q q =>
  h L M σ H hS hA _ fun s v H1 ms1 w1 o1 h1 => h1 L M σ H1 (hS.mono hA w1) o1.at _ fun lo H2 ms2 w2 a2 h2 => h2 L M σ H2 ((hS.mono hA w1).mono o1.at w2) a2 _ fun hi H3 ms3 w3 a3 ⟨es, sv, r⟩ => by
    obtain ⟨p, xs, rfl, hq, hr⟩ := sv.lst a3 ((o1.sl.mono o1.at w2).mono a2 w3)
    have w := (w1.trans w2).trans w3
    exact ⟨p, xs, rfl, hq, fun l hl => q (.f (cutD es lo hi)) _ _ ms3 (w.trans (Wk.new hl)) (out_new a3 w hl (cut_of hr lo hi)) r⟩
end
/-! ### data that == takes -/
def Shp (n : Nat) (d : PyData) : Prop := d.canLay0 = true ∧ d.depth ≤ n
theorem Shp.ok {n : Nat} {d : PyData} (h : Shp n d) (hn : n ≤ 64) : SeqAt.shaped d = true := by
  unfold SeqAt.shaped
  rw [h.1, decide_eq_true (Nat.le_trans h.2 hn)]
  rfl
theorem Shp.all {n : Nat} : ∀ {es : List PyData}, (∀ e ∈ es, Shp n e) → PyData.canLayAll0 es = true ∧ PyData.depthAll es ≤ n
  | [], _ => ⟨rfl, by simp [PyData.depthAll]⟩
  | e :: r, h => by
    have h1 := h e (by simp)
    have h2 := Shp.all (es := r) fun x hx => h x (by simp [hx])
    exact ⟨by simp [PyData.canLayAll0, h1.1, h2.1], by simp only [PyData.depthAll]; exact Nat.max_le.mpr ⟨h1.2, h2.2⟩⟩
theorem Shp.tup {n : Nat} {es : List PyData} (h : ∀ e ∈ es, Shp n e) : Shp (n + 1) (.tuple es) := by
  have := Shp.all h
  exact ⟨by simp [PyData.canLay0, this.1], by simp only [PyData.depth]; have := this.2; omega⟩
theorem Shp.lst {n : Nat} {es : List PyData} (h : ∀ e ∈ es, Shp n e) : Shp (n + 1) (.list es) := by
  have := Shp.all h
  exact ⟨by simp [PyData.canLay0, this.1], by simp only [PyData.depth]; have := this.2; omega⟩
theorem Shp.int (i : Int) : Shp 0 (.int i) := ⟨rfl, Nat.le_refl _⟩
theorem Shp.bl (i : Bool) : Shp 0 (.bool i) := ⟨rfl, Nat.le_refl _⟩
theorem Shp.mono {m n : Nat} {d : PyData} (h : Shp m d) (l : m ≤ n) : Shp n d := ⟨h.1, Nat.le_trans h.2 l⟩
theorem Shp.ints (ns : List Int) : ∀ e ∈ ns.map PyData.int, Shp 0 e := fun e he => by
  obtain ⟨i, _, rfl⟩ := List.mem_map.mp he
  exact .int i
theorem Shp.pr (p : Int × Int) : Shp 1 (pr p) := Shp.tup fun e he => by
  simp at he
  rcases he with rfl | rfl <;> exact .int _
theorem eqv_bl (a b : Bool) : PyData.eqv (.bool a) (.bool b) = decide (a = b) := by cases a <;> cases b <;> rfl
/-! ### fractions as numbers -/
def val (p : Int × Int) : Rat := (p.1 : Rat) / (p.2 : Rat)
theorem cast_ne {b : Int} (h : b ≠ 0) : (b : Rat) ≠ 0 := by exact_mod_cast h
structure Lo (p : Int × Int) : Prop where
  pos : 0 < p.2
  low : Int.gcd p.1 p.2 = 1
theorem Lo.fr {i j : Int} (h : j ≠ 0) : Lo (fr i j) := ⟨fr_pos h, fr_low h⟩
theorem Lo.eq {p q : Int × Int} (a : Lo p) (b : Lo q) (h : val p = val q) : p = q := by
  unfold val at h
  have h1 : (p.2 : Rat) ≠ 0 := cast_ne (by have := a.pos; omega)
  have h2 : (q.2 : Rat) ≠ 0 := cast_ne (by have := b.pos; omega)
  have h3 : (p.1 : Rat) * (q.2 : Rat) = (q.1 : Rat) * (p.2 : Rat) := by grind
  rw [← Rat.intCast_mul, ← Rat.intCast_mul] at h3
  have h4 : p.1 * q.2 = q.1 * p.2 := by exact_mod_cast h3
  obtain ⟨e1, e2⟩ := low_uniq a.pos b.pos a.low b.low h4
  exact Prod.ext e1 e2
def pl (t f : Int × Int) : Int × Int := fr (t.1 * f.2 + f.1 * t.2) (t.2 * f.2)
structure Wt (p : Int × Int) : Prop where
  lo : Lo p
  b1 : Bd 32 p.1
  b2 : Bd 10 p.2
theorem take_snoc {α : Type} {l : List α} {i : Nat} {x : α} (h : l[i]? = some x) : l.take (i + 1) = l.take i ++ [x] := by
  rw [List.take_add_one, h]
  rfl
/-! ### webs -/
abbrev Tie := Nat × Nat × (Int × Int)
structure TieOk (m : Nat) (t : Tie) : Prop where
  lt : t.1 < t.2.1
  lm : t.2.1 < m
  w : Wt t.2.2
structure WebOk (m : Nat) (ts : List Tie) : Prop where
  all : ∀ t ∈ ts, TieOk m t
  len : ts.length ≤ 170
  m1 : 1 ≤ m
  m60 : m ≤ 60
theorem get1 (ms : List MD) (A : MD) : (ms ++ [A])[ms.length]? = some A := by simp
theorem set1 (ms : List MD) (A X : MD) : (ms ++ [A]).set ms.length X = ms ++ [X] := by
  rw [List.set_append_right _ _ (Nat.le_refl _), Nat.sub_self]
  rfl
theorem get2b (ms : List MD) (A B : MD) : (ms ++ [A] ++ [B])[ms.length + 1]? = some B := by
  have := get1 (ms ++ [A]) B
  rw [List.length_append] at this
  exact this
theorem set2b (ms : List MD) (A B X : MD) : (ms ++ [A] ++ [B]).set (ms.length + 1) X = ms ++ [A] ++ [X] := by
  have := set1 (ms ++ [A]) B X
  rw [List.length_append] at this
  exact this
section
variable {K : PySem.W.Frag} {te ta tb tc tl : TE} {tt : TT} {tA : TA} {ds : List SD} {ms : List MD} {R : RS} {t u : TS} {P : Po}
/-- a statement, then what holds behind it, then the rest -/
theorem s_mid (Mid : List SD → List MD → Prop) (h1 : S K t ds ms { P with nx := Mid }) (h2 : ∀ ds1 ms1, Mid ds1 ms1 → S K u ds1 ms1 P) : S K (tSeq t u) ds ms P := fun L M σ H hS hA D n r b c =>
  h1 L M σ H hS hA { D with nx := u D } (fun σ1 H1 ds1 ms1 w s1 a1 h => h2 ds1 ms1 h L M σ1 H1 s1 a1 D (n.on w) (r.on a1 w) (b.on w) (c.on w)) r b c
end
end Hc

namespace Hc
open PySem PySem.Spec PyProof.Rows L2
/-! ### errors -/
abbrev PhX := List SD → List MD → RS → (List MD → Prop) → Prop
/-- a def that hands back, or raises the class at C -/
def SpX (K : PySem.W.Frag) (C : Addr) (Φ : PhX) : Sp := fun vs H Q X => ∃ L M ms as R Y, At L M ms H ∧ SlsOk K L M H as vs ∧ Φ as ms R Y ∧ (∀ s v H' ms', Wk L H H' → Out K L M H H' ms' v s → R s ms' → Q v H') ∧ ∀ H' ms', Wk L H H' → At L M ms' H' → Y ms' → X (.ref C) none H'
def Ex (L M : List Addr) (H : Hp) (C : Addr) (Y : List MD → Prop) (X : XK) : Prop := ∀ H' ms', Wk L H H' → At L M ms' H' → Y ms' → X (.ref C) none H'
def SX (K : PySem.W.Frag) (C : Addr) (t : XK → TS) (ds : List SD) (ms : List MD) (P : Po) (Y : List MD → Prop) : Prop :=
  ∀ (L M : List Addr) (σ : L2.St) (H : Hp), Sl K L M σ H ds → At L M ms H → ∀ (D : Ends) (X : XK), Nx K L M H P.nx D.nx → Rx K L M H P.rt D.rt → Nx K L M H P.bk D.bk → Nx K L M H P.ct D.ct → Ex L M H C Y X → t X D σ H
section
variable {K : PySem.W.Frag} {C : Addr} {te ta tb tc tl : TE} {tt : TT} {tA : TA} {ds : List SD} {ms : List MD} {R : RS} {P : Po} {Y : List MD → Prop}
theorem Ex.on {L M : List Addr} {H H1 : Hp} {X : XK} (w : Wk L H H1) (h : Ex L M H C Y X) : Ex L M H1 C Y X := fun H' ms' w2 => h H' ms' (w.trans w2)
theorem sx_of {t : TS} (h : S K t ds ms P) : SX K C (fun _ => t) ds ms P Y := fun L M σ H hS hA D X n r b c _ => h L M σ H hS hA D n r b c
theorem sx_seq {t u : XK → TS} (h : SX K C t ds ms { P with nx := fun ds1 ms1 => SX K C u ds1 ms1 P Y } Y) : SX K C (fun X => tSeq (t X) (u X)) ds ms P Y := fun L M σ H hS hA D X n r b c x =>
  h L M σ H hS hA { D with nx := u X D } X (fun σ1 H1 ds1 ms1 w s1 a1 h1 => h1 L M σ1 H1 s1 a1 D X (n.on w) (r.on a1 w) (b.on w) (c.on w) (x.on w)) r b c x
theorem sx_if {t u : XK → TS} (h : ET K tt ds ms fun b ms1 => (b = true → SX K C t ds ms1 P Y) ∧ (b = false → SX K C u ds ms1 P Y)) : SX K C (fun X => tIfS tt (t X) (u X)) ds ms P Y := fun L M σ H hS hA D X n r b c x =>
  h L M σ H hS hA _ fun k H1 ms1 w a ⟨h1, h2⟩ => by
    cases k with
    | true => exact h1 rfl L M σ H1 (hS.mono hA w) a D X (n.on w) (r.on a w) (b.on w) (c.on w) (x.on w)
    | false => exact h2 rfl L M σ H1 (hS.mono hA w) a D X (n.on w) (r.on a w) (b.on w) (c.on w) (x.on w)
/-- raise -/
def tRs (C : Addr) (X : XK) : TS := fun _ σ H => (fun (cls : Value) (d : Option Addr) (H' : Hp) => (fun (c : Value) (d : Option Addr) (_ : L2.St) (H : Hp) => X c d H) cls d σ H') (.ref C) none H
theorem kit_up {D : Addr} (hc : (PySem.W.clsIn K D).isSome = true) (ht : PySem.W.typeIn K (.ref D) = some (.type "type")) (hs : PySem.W.subIn K (.ref C) (.ref D) = some true) : PySem.W.kitOne K (.ref C) (.ref D) = some true := by
  unfold PySem.W.kitOne
  by_cases e : ((Value.ref C == Value.ref D) = true)
  · rw [if_pos e]
  · rw [if_neg e]
    show (if _ then _ else _) = _
    rw [hc, ht, hs]
    rfl
theorem kit_upT {T : String} (hm : PySem.W.kitMeta T = true) (hs : PySem.W.subIn K (.ref C) (.type T) = some true) : PySem.W.kitOne K (.ref C) (.type T) = some true := by
  unfold PySem.W.kitOne
  rw [if_neg (by simp)]
  show (if _ then _ else _) = _
  rw [if_pos hm, hs]
/-- a class of one's own over ValueError -/
structure Er (K : PySem.W.Frag) (mg : Str → Option Value) (x : Str) (C : Addr) : Prop where
  g : mg x = some (.ref C)
  x : PySem.W.excIn K C [.type "ValueError", .type "Exception", .type "BaseException", .type "object"] "ValueError.__new__" = true
  k : PySem.W.keepIn K (.ref C) = true
  b : PySem.W.subIn K (.ref C) (.type "BaseException") = some true
  t : PySem.W.typeIn K (.ref C) = some (.type "type")
  s : PySem.W.subIn K (.ref C) (.ref C) = some true
  e : ExcC K C
theorem ps_raiseD {X : Cx} {x m : Str} {j : Nat} {p p2 pos pos' : Pos} {E₁ : Value → Shared → Prop} {Y : XK} (e : Er X.K X.mg x C) (hc : X.calm = true) (hs : X.stack = X.env :: X.outer) (hf : X.env.frame = some X.env.locals) (hex : X.ex = [])
    (hx : X.xe = fun e s' => wpAny (model X.prog X.w) X.A (leaving X.env e) (fun _ s'' => L2.CX X.prog X.w X.outer X.H_0 X.s_0 Y e s'') E₁ s') (hg : Gl X x) (hdb : (x == ("__debug__" : Str)) = false := by decide) :
    PS X (.Raise (some (.Call (.Name x p) [.Constant (.str m) j p2] [] pos)) none pos') (tRs C Y) :=
  ps_raise hc (takes_of hs hf hex hx) (pmk_own PySem.F.excBase_ValueError e.x e.g e.k (raises_own e.b e.t) hg hdb)
/-- a def that may raise, by name -/
structure KnX (Pg : Program) (w : World) (K : PySem.W.Frag) (mg : Str → Option Value) (base : Heap) (x : Str) (lv : Nat) (ps : List Str) (C : Addr) (Φ : PhX) : Prop where
  ex : ∃ f fd, FnOk Pg w K mg base (L2.CX Pg w) lv f fd ps (SpX K C Φ) ∧ mg x = some (.ref f) ∧ PySem.W.keepIn K (.ref f) = true ∧ Binds K fd ps []
/-- in a place where it raises nothing -/
theorem pe_callX0 {X : Cx} {x : Str} {lv : Nat} {ps : List Str} {Φ : PhX} {e : Expr} {es : List Expr} {t : TA} {p pos : Pos} (h : KnX X.prog X.w X.K X.mg X.base x lv ps C Φ) (hr : Room lv X.A) (hg : Gl X x) (ha : PA X (e :: es) t)
    (hdb : (x == ("__debug__" : Str)) = false := by decide) (he : starEach (e :: es) X.env = (false, eval e X.env) :: starEach es X.env := by rfl) (hpl : (backTo pos (starEach es X.env)).any (·.1) = false := by rfl) :
    PE X (.Call (.Name x p) (e :: es) [] pos) (tCall (SpX X.K C Φ) [] E0 t) := by
  obtain ⟨f, fd, G, m, k, b⟩ := h.ex
  exact pe_call G hr hg m k b .nil passL ha hdb he hpl
theorem e_callX0 {Φ : PhX} (h : EA K tA ds ms fun as ms1 => Φ as ms1 R fun _ => False) : E K (tCall (SpX K C Φ) [] E0 tA) ds ms R := fun L M σ H hS hA Q q =>
  h L M σ H hS hA _ fun as vs H1 ms1 w1 a1 o1 h1 => by
    rw [List.append_nil]
    exact ⟨L, M, ms1, as, R, fun _ => False, a1, o1, h1, fun s v H3 ms3 w3 o3 r3 => q s v H3 ms3 (w1.trans w3) (o3.back a1 w1) r3, fun _ _ _ _ z => z.elim⟩
theorem okX_of {Pg : Program} {w : World} {mg : Str → Option Value} {base : Heap} {x qual : Str} {st : Stmt} {f : Addr} {fd : FuncData} {N ps : List Str} {k : Nat} {Φ : PhX} (F : Fun K x qual st f fd) (Sc : FnScope N ps (defScope st)) (hl : ∀ as ms R Y, Φ as ms R Y → as.length = ps.length) (hpn : ps.length ≤ N.length)
    (t : XK → TS) (hbody : ∀ (cdv : Value) (A : Around) (outer : List Env) (s : Shared) (H : Hp) (E : XK), Room k (A.deeper (envOfC qual (defScope st) s.heap.objs.size f cdv)) → PSs (cxOf (L2.CX Pg w) Pg w K mg base N qual (defScope st) f cdv A outer s H E) (defBody st) (t E))
    (h2 : ∀ as ms R Y, Φ as ms R Y → SX K C t (as ++ List.replicate (N.length - as.length) .u) ms (fin R) Y) : FnOk Pg w K mg base (L2.CX Pg w) (k + 1) f fd ps (SpX K C Φ) := by
  refine F.okX Sc (fun vs H Q E h => ?_) (fun cdv A outer s H vs Q E hr h => ⟨t E, hbody cdv A outer s H E hr, ?_⟩)
  · obtain ⟨L, M, ms, as, R, Y, hA, ho, hp, q⟩ := h
    rw [← ho.len]
    exact hl as ms R Y hp
  · obtain ⟨L, M, ms, as, R, Y, hA, ho, hp, q, x⟩ := h
    exact h2 as ms R Y hp L M _ H (Sl.start ho (by rw [hl as ms R Y hp]; exact hpn)) hA _ E (fun σ' H' ds' ms' w s a r => q (.d .none) .non H' ms' w ⟨a, .non⟩ r) (fun s v H' ms' w o r => q s v H' ms' w o r) (fun _ _ _ _ _ _ _ z => z.elim) (fun _ _ _ _ _ _ _ z => z.elim) x
/-! ### try .. except X as n -/
end
def phx2 (f : SD → SD → List MD → RS → (List MD → Prop) → Prop) : PhX := fun as ms R Y => ∃ a b, as = [a, b] ∧ f a b ms R Y
theorem phx2_len {f : SD → SD → List MD → RS → (List MD → Prop) → Prop} : ∀ as ms R Y, phx2 f as ms R Y → as.length = 2 := fun _ _ _ _ ⟨_, _, e, _⟩ => by rw [e]; rfl
end Hc

namespace Hc
open PySem PySem.Spec PyProof.Rows L2
/-! ### what is a list or a tuple, in a slot, walked -/
def iRow (K : PySem.W.Frag) (i : Nat) : TI := fun σ H R => iList K (tVar i) σ H R ∨ iTup K (tVar i) σ H R
theorem pi_row {X : Cx} {tg l : Expr} {i : Nat} (h : PE X l (tVar i)) : PI X tg l (iRow X.K i) := ⟨fun pins s σ H R I q => by
  rcases q with q | q
  · exact (pi_list h).run pins s σ H R I q
  · exact (pi_tup h).run pins s σ H R I q⟩
section
variable {K : PySem.W.Frag} {te ta tb tc tl : TE} {tt : TT} {tA : TA} {ds : List SD} {ms : List MD} {R : RS} {P : Po}
theorem e_lcRowL {i : Nat} {g : TG} {vs : List Nat} (h : E K (tLc (iList K (tVar i)) g tt te vs) ds ms R) : E K (tLc (iRow K i) g tt te vs) ds ms R := fun L M σ H hS hA Q q => .inl (h L M σ H hS hA Q q)
theorem e_lcRowT {i : Nat} {g : TG} {vs : List Nat} (h : E K (tLc (iTup K (tVar i)) g tt te vs) ds ms R) : E K (tLc (iRow K i) g tt te vs) ds ms R := fun L M σ H hS hA Q q => .inr (h L M σ H hS hA Q q)
/-- both at once: the source a row es -/
theorem e_lcRow {i : Nat} {g : TG} {js vs : List Nat} {x : PyData} {es : List PyData} (hi : ds[i]? = some (.d x)) (hx : x = .list es ∨ x = .tuple es) (hj : ∀ j ∈ js, j ∈ vs) (hz : es.length ≤ 10000) (Pv : Nat → List PyData → List MD → Prop) (h0 : Pv 0 [] ms)
      (hs : ∀ i e acc ms1, es[i]? = some e → Pv i acc ms1 → Lt K g js tt te vs ds (.d e) ms1 acc (Pv (i + 1))) (hd : ∀ acc ms1, Pv es.length acc ms1 → R (.f acc) ms1) : E K (tLc (iRow K i) g tt te vs) ds ms R := by
  rcases hx with rfl | rfl
  · exact e_lcRowL (e_lcL hj (e_var hi ⟨es, .d es, hz, Pv, h0, hs, hd⟩))
  · exact e_lcRowT (e_lcT hj (e_var hi ⟨es, rfl, hz, Pv, h0, hs, hd⟩))
end
end Hc

namespace Hc
open PySem PySem.Spec PyProof.Rows L2
/-! ### o[i] op= e -/
section
variable {K : PySem.W.Frag} {te ta tb tc tl : TE} {tt : TT} {tA : TA} {ds : List SD} {ms : List MD} {R : RS} {P : Po}
theorem inV_ints (x : Int) (ns : List Int) : inV (.int x) (ns.map V.int) = decide (x ∈ ns) := by
  unfold inV
  induction ns with
  | nil => rfl
  | cons a r ih =>
    rw [List.map_cons, List.any_cons, ih]
    show ((a == x) || _) = _
    by_cases e : a = x
    · subst e; simp
    · have e' : (a == x) = false := by simp [e]
      rw [e']
      have : ¬ x = a := fun z => e z.symm
      simp [this]
theorem flat_ints (ns : List Int) : (ns.map V.int).all flatV = true := by
  rw [List.all_eq_true]
  intro v hv
  obtain ⟨i, _, rfl⟩ := List.mem_map.mp hv
  rfl
theorem rr_in {a b : SD} {neg : Bool} (h : ∃ (x : Int) (ns : List Int), a = .d (.int x) ∧ (Sv ms b (.list (ns.map .int)) ∨ Sv ms b (.tuple (ns.map .int))) ∧ R (.d (.bool (if neg then !decide (x ∈ ns) else decide (x ∈ ns)))) ms) : RR K (rIn K neg) a b ms R := fun L M H u v hA ha hb Q q => by
  obtain ⟨x, ns, rfl, sv, r⟩ := h
  cases ha
  rw [← inV_ints] at r
  rcases sv with sv | sv
  · obtain ⟨p, xs, rfl, hq, hr⟩ := sv.lst hA hb
    rw [RpA.ints_inv hr] at hq
    exact ⟨p, _, rfl, .inl hq, rfl, flat_ints ns, q (.d (.bool _)) _ H ms (Wk.refl L H) ⟨hA, .bl _⟩ r⟩
  · obtain ⟨p, xs, rfl, hq, hr⟩ := sv.tup hb
    rw [RpA.ints_inv hr] at hq
    exact ⟨p, _, rfl, .inr (SqT.of hq), rfl, flat_ints ns, q (.d (.bool _)) _ H ms (Wk.refl L H) ⟨hA, .bl _⟩ r⟩
theorem rc_sorted {as : List SD} (h : ∃ (s : SD) (ns : List Int), as = [s] ∧ Sv ms s (.list (ns.map .int)) ∧ ∀ ns' : List Int, ns'.Perm ns → ns'.Pairwise (· ≤ ·) → R (.f (ns'.map .int)) ms) : RC K (rSortedI K) as ms R := fun L M H vs hA ha Q q => by
  obtain ⟨s, ns, rfl, sv, r⟩ := h
  obtain ⟨v, t, rfl, hv, rfl⟩ := ha
  obtain ⟨p, xs, rfl, hq, hr⟩ := sv.lst hA hv
  rw [RpA.ints_inv hr] at hq
  refine ⟨p, ns, rfl, hq, ?_⟩
  intro ns' l hp hs hl
  exact q (.f (ns'.map .int)) _ _ ms (Wk.new hl) (out_new hA (Wk.refl L H) hl (RpA.ints ns')) (r ns' hp hs)
/-- list(range(n)) -/
theorem e_lrg (h : E K ta ds ms fun s ms1 => ∃ n : Nat, s = .d (.int n) ∧ n ≤ 10000 ∧ R (.f ((List.range n).map fun k : Nat => PyData.int k)) ms1) : E K (tLstRg (tRg1 ta)) ds ms R := fun L M σ H hS hA Q q =>
  h L M σ H hS hA _ fun s v H1 ms1 w o ⟨n, e, hn, r⟩ => by
    subst e
    obtain ⟨a1, z⟩ := o
    cases z
    refine ⟨n, rfl, .of_le (by omega) (by omega) (by omega) (by omega), fun l hl => ?_⟩
    have rr : RpA M H1 (rgV 0 (n : Int)) ((List.range n).map fun k : Nat => PyData.int k) := by
      unfold rgV
      have e0 : ((n : Int) - 0).toNat = n := by omega
      rw [e0]
      have : ∀ l : List Nat, RpA M H1 (l.map fun i : Nat => V.int (0 + (i : Int))) (l.map fun k : Nat => PyData.int k) := fun l => by
        induction l with
        | nil => exact .nil
        | cons a r ih =>
          refine .cons ?_ ih
          show Rp M H1 (.int (0 + (a : Int))) (.int a)
          rw [Int.zero_add]
          exact .int _
      exact this _
    exact q (.f _) _ _ ms1 (w.trans (Wk.new hl)) (out_new a1 w hl rr) r
section
variable {L M : List Addr} {σ : L2.St} {H1 H' : Hp}
theorem Cs.new {D T : Addr} {i : Nat} {acc : List PyData} {ms1 : List MD} {H2 : Hp} {o : HO} (c : Cs L M H1 D i acc ms1 H2) (hT : H2 T = none) : Cs L M H1 D i acc ms1 (upd H2 T o) := by
  obtain ⟨xs, e, r⟩ := c.d
  exact ⟨c.w.trans (Wk.new hT), c.a.new hT, c.le, xs, by rw [upd_ne (ne_of_none e hT)]; exact e, RpA.to (c.a.wk (Wk.new hT)) _ _ r⟩
end
theorem e_lcR2 {g : TG} {js vs : List Nat} (hj : ∀ j ∈ js, j ∈ vs) (h : EA K tA ds ms fun as ms0 => ∃ lo n : Int, as = [.d (.int lo), .d (.int n)] ∧ (-(2 ^ 62) ≤ lo ∧ lo < 2 ^ 62 ∧ -(2 ^ 62) ≤ n ∧ n < 2 ^ 62 ∧ n - lo ≤ 10000) ∧ ∃ Pv : Nat → List PyData → List MD → Prop, Pv 0 [] ms0 ∧
      (∀ i acc ms1, i < (n - lo).toNat → Pv i acc ms1 → Lt K g js tt te vs ds (.d (.int (lo + i))) ms1 acc (Pv (i + 1))) ∧ ∀ acc ms1, Pv (n - lo).toNat acc ms1 → R (.f acc) ms1) :
    E K (tLc (iRng2 tA) g tt te vs) ds ms R := fun L M σ H hS hA Q q =>
  h L M σ H hS hA _ fun as us H1 ms0 w a1 o ⟨lo, n, ea, hn, Pv, h0, hs, hd⟩ => by
    subst ea
    obtain ⟨v, t1, rfl, hv, v2, t2, rfl, hv2, rfl⟩ := o
    cases hv; cases hv2
    refine ⟨lo, n, rfl, ⟨hn.1, hn.2.1, hn.2.2.1, hn.2.2.2.1⟩, fun D hD => ?_⟩
    have hDL := a1.freshL hD
    refine lc_range (lo := lo) (n := (n - lo).toNat) (fun i H' => ∃ acc ms', Cs L M H1 D i acc ms' H' ∧ Pv i acc ms') ⟨[], ms0, .start a1 hD, h0⟩ (fun i H' hi ⟨acc, ms', c, p⟩ => ?_) (fun H' ⟨acc, ms', c, p⟩ => ?_)
    · exact lc_turn (x := .d (.int (lo + i))) (v := .int (lo + (i : Int))) (Nn := Pv) hj (by have := hn.2.2.2.2; omega) (hS.mono hA w) a1 hD c (.int _) (hs i acc ms' hi p)
    · exact q (.f acc) _ H' ms' (w.trans c.w) ⟨D, rfl, none_back a1 w (a1.fresh hD) hD, a1.fresh hD, c.done a1.sub hDL, a1.sub⟩ (hd acc ms' p)
end
end Hc

namespace Hc
open PySem PySem.Spec PyProof.Rows L2
/-! ### enumerate(t) of a tuple -/
abbrev enO (i : Addr) : Obj := { cls := .type "enumerate", data := .fields #[.none, .bool false, .ref i, rawInt 0, .none, .none] }
theorem en_new {v : Value} {ob : Obj} {G : Heap → Prop} (B : Begins v ob G) :
    Meets (Builtin.«enumerate.__new__» ⟨[.type "enumerate", v], []⟩) (fun _ R st => G st.heap ∧
      R (.ok (.ret (.ref (st.heap.push ob).objs.size))) { st with heap := (st.heap.push ob).push (enO st.heap.objs.size) }) :=
  .of_wp fun pr wd Ar R st hh => by
    obtain ⟨hp, gn, dr, tk, os⟩ := st
    obtain ⟨g1, g2⟩ := hh
    have sb := sub_enumerate
    have go : ∀ {A2 : Around} {E2 : Value → Shared → Prop} {Q2 : Value → Shared → Prop}, Q2 (.ref hp.objs.size) ⟨hp.push ob, gn, dr, tk, os⟩ →
        wpAny (model pr wd) A2 (pyIter v) Q2 E2 ⟨hp, gn, dr, tk, os⟩ := fun z => B.iter pr wd _ _ ⟨hp, gn, dr, tk, os⟩ _ g1 z
    wp_walk using go
    refine wpAny_stack_any fun sk => wpAny_pure ?_
    split
    · rename_i cl _ _ _ _ _
      cases (cl == Value.type "enumerate") <;> (wp_walk using go; exact ⟨_, rfl, g2⟩)
    · wp_walk using go
      exact ⟨_, rfl, g2⟩
section
variable {pr : Program} {wd : World} {Ar : Around} {Ex : Value → Shared → Prop} {st : Shared}
theorem en_call {v : Value} {ob : Obj} {G : Heap → Prop} {Q : Value → Shared → Prop} (B : Begins v ob G) (g : G st.heap)
    (k : ∀ hp, IsEnum hp (st.heap.objs.size + 1) st.heap.objs.size 0 .none → hp.get? st.heap.objs.size = some ob → (∀ b u, st.heap.get? b = some u → hp.get? b = some u) → Q (.ref (st.heap.objs.size + 1)) { st with heap := hp }) :
    wpAny (model pr wd) Ar (call (.type "enumerate") [v]) Q Ex st := by
  refine callType_new F.called_enumerate (by decide) (F.typeCall_enumerate_1 _) (F.newCall_enumerate_1 _) (fun z => F.args_object_init_2 z _)
    F.entry_enumerate_new (en_new B) ⟨g, ?_⟩
  have sz : (st.heap.push ob).objs.size = st.heap.objs.size + 1 := Heap.size_push ..
  have en : IsEnum ((st.heap.push ob).push (enO st.heap.objs.size)) (st.heap.objs.size + 1) st.heap.objs.size 0 .none := by
    rw [← sz]
    exact Heap.get?_push_size (st.heap.push ob) rfl
  show _ ∧ _
  rw [sz]
  exact ⟨⟨_, en, rfl⟩, k _ en (Heap.get?_push_of_some _ (Heap.get?_push_size _ B.free)) fun b u z => Heap.get?_push_of_some _ (Heap.get?_push_of_some _ z)⟩
end
/-- the tuple at a, in new pairs with the numbers -/
def ItE (K : PySem.W.Frag) (a : Addr) : It where
  go := fun i H => ∃ (xs : List V) (x : V), SqT K H a xs ∧ xs[i]? = some x
  yld := fun i H v H2 => ∃ (N : Addr) (x : V), v = .ref N ∧ H N = none ∧ H2 = upd H N (.tup [.int ((i : Nat) : Int), x]) ∧ ∀ xs : List V, SqT K H a xs → xs[i]? = some x
  stop := fun i H => ∃ xs : List V, SqT K H a xs ∧ i = xs.length
theorem two_ne {h : Heap} {a b : Addr} {o u : Obj} (ha : h.get? a = some o) (hb : h.get? b = some u) (hc : o.cls ≠ u.cls) : a ≠ b := fun z => by
  subst z
  rw [ha] at hb
  exact hc (congrArg Obj.cls (Option.some.inj hb))
theorem turn_enT {P : Program} {w : World} {K : PySem.W.Frag} {es : List Expr} {n : Nat} {q : Pos} (a e i1 : Addr) :
    Turn P w K (.Tuple es n q) (ItE K a) [e, i1] e (fun i h => (∃ z, IsEnum h e i1 ((i : Nat) : Int) z) ∧ h.IsTupleIter i1 a i ∧ e ≠ i1) where
  mem := List.mem_cons_self ..
  obj := fun i h tn b hb => by
    obtain ⟨⟨z, he⟩, ⟨o, ho, _, hd⟩, _⟩ := tn
    rcases List.mem_cons.mp hb with rfl | hb
    · exact ⟨_, he, nofun⟩
    · rw [List.mem_singleton.mp hb]
      exact ⟨o, ho, fun v y => by rw [hd] at y; cases y⟩
  keep := fun i h h2 tn k => by
    obtain ⟨⟨z, he⟩, hi, ne⟩ := tn
    exact ⟨⟨z, k e (by simp) _ he⟩, hi.at fun o y => k i1 (by simp) o y, ne⟩
  item := by
    intro X e1 e2 e3 cm i pins s σ H Ex I fp tn gg
    subst e1 e2 e3
    obtain ⟨⟨z, he⟩, hi, ne⟩ := tn
    obtain ⟨xs, x, sq, hx⟩ := gg
    obtain ⟨its, rv, tp, _⟩ := I.tuple sq
    obtain ⟨u, hu, ru⟩ := rv.get hx
    have tp' : s.heap.IsTuple a its.toArray := tp
    obtain ⟨o1, ho1, hc1, _⟩ := id tp'
    obtain ⟨o2, ho2, hc2, _⟩ := id hi
    have ai : a ≠ i1 := two_ne ho1 ho2 (by rw [hc1, hc2]; exact (by simp))
    have ea : e ≠ a := two_ne he ho1 (by rw [hc1]; exact (by simp))
    have el := Heap.lt_size he
    have il := Heap.lt_size ho2
    have lt : i < its.toArray.size := by
      have := (List.getElem?_eq_some_iff.mp hu).1
      simpa using this
    have D : Draws X.prog X.w X.A.in1 i1 [i1, a] its.toArray.size (fun j v => its.toArray[j]? = some v) (fun j hp => hp.IsTupleIter i1 a j ∧ hp.IsTuple a its.toArray) := Draws.tuple (A := X.A.in1) (show X.A.in1.handled = none from I.ok.hd cm) i1 a ai its.toArray
    refine wpAny_pyNext_enum_itemD D he ⟨hi, tp'⟩ lt ne (by simp; exact ⟨ne, ea⟩) fun u2 h2 tk hu2 out hs2 hT _ kp => ?_
    have : u2 = u := by
      have y : its.toArray[i]? = some u2 := hu2
      rw [List.getElem?_toArray, hu] at y
      exact (Option.some.inj y).symm
    subst this
    refine ⟨_, rfl, wpAny_letOwnedTupleGo_enum (s := { s with heap := h2, toks := tk + 1 }) out fun h3 he3 sb => ?_⟩
    have hT3 : h3.get? s.heap.objs.size = some { cls := .type "tuple", data := .seq #[.int i tk, u2] } := (sb.2 _ (Nat.ne_of_gt el)).trans hT
    have ok : ObjOk X.prog X.w (upd H s.heap.objs.size (.tup [.int ((i : Nat) : Int), x])) h3 s.heap.objs.size (.tup [.int ((i : Nat) : Int), x]) :=
      ⟨Nat.le_of_ble_eq_true rfl, [.int i tk, u2], .cons ⟨_, rfl⟩ (.cons ru .nil), ⟨_, hT3, rfl, _, rfl⟩⟩
    have I3 : L2.Inv X pins σ (upd H s.heap.objs.size (.tup [.int ((i : Nat) : Int), x])) { s with heap := h3, toks := tk + 1 } :=
      I.turnedNew (ch := [e, i1]) (fun b o nb y => by
        have b1 : b ≠ e := fun y => nb (by simp [y])
        have b2 : b ≠ i1 := fun y => nb (by simp [y])
        exact (sb.2 b b1).trans (kp b o b1 b2 y)) fp (Nat.le_refl _) ok
    refine ⟨.ref s.heap.objs.size, _, I3, rfl, ⟨_, x, rfl, I.hok.fresh (Nat.le_refl _), rfl, fun ys sy => by rw [I.tuple_inj sy sq]; exact hx⟩, ⟨⟨u2, ?_⟩, hs2.1.at fun o y => (sb.2 i1 (Ne.symm ne)).trans y, ne⟩, fun b hb => ?_⟩
    · have c : (((i + 1 : Nat)) : Int) = (i : Int) + 1 := Int.natCast_succ i
      rw [c]
      exact he3
    · have lb : b < s.heap.objs.size := by
        rcases List.mem_cons.mp hb with rfl | hb
        · exact el
        · rw [List.mem_singleton.mp hb]; exact il
      rw [upd_ne (Nat.ne_of_lt lb)]
      exact (fp b hb).1
  done := by
    intro X e1 e2 e3 cm i pins s σ H Ex I fp tn gg
    subst e1 e2 e3
    obtain ⟨⟨z, he⟩, hi, ne⟩ := tn
    obtain ⟨xs, sq, hx⟩ := gg
    obtain ⟨its, rv, tp, _⟩ := I.tuple sq
    have tp' : s.heap.IsTuple a its.toArray := tp
    obtain ⟨o1, ho1, hc1, _⟩ := id tp'
    obtain ⟨o2, ho2, hc2, _⟩ := id hi
    have ai : a ≠ i1 := two_ne ho1 ho2 (by rw [hc1, hc2]; exact (by simp))
    have D : Draws X.prog X.w X.A.in1 i1 [i1, a] its.toArray.size (fun j v => its.toArray[j]? = some v) (fun j hp => hp.IsTupleIter i1 a j ∧ hp.IsTuple a its.toArray) := Draws.tuple (A := X.A.in1) (show X.A.in1.handled = none from I.ok.hd cm) i1 a ai its.toArray
    have ln := rv.length
    have is : its.toArray.size = i := by simp; omega
    obtain ⟨f0, f1, _, f3, f4, f5⟩ := fp i1 (by simp)
    exact wpAny_pyNext_enum_endD D he (by rw [is]; exact ⟨hi, tp'⟩) fun h2 eb => ⟨rfl, I.turned (t' := s.toks) (fun b o nb y => eb b o nb y) f0 f1 f3 f4 f5⟩
  self := fun A i s Q Ex tn k => by
    obtain ⟨⟨z, he⟩, _⟩ := tn
    exact wpAny_pyIter_enum he k
def iEnT (K : PySem.W.Frag) (ta : TA) : TI := fun σ H R => ta σ H fun vs H1 => ∃ (a : Addr) (xs : List V), vs = [.ref a] ∧ SqT K H1 a xs ∧ R (ItE K a) H1
theorem pi_enT {X : Cx} {ex : Expr} {ta : TA} {p1 p2 p3 : Pos} {es : List Expr} {n : Nat} (hg : Gl X "enumerate") (hm : X.mg "enumerate" = none) (ha : PA X [ex] ta) (hs : starEach [ex] X.env = [(false, eval ex X.env)] := by rfl) :
    PI X (.Tuple es n p3) (.Call (.Name "enumerate" p1) [ex] [] p2) (iEnT X.K ta) := by
  constructor
  intro pins s σ H R I h
  refine Call_ (ld_blt I hg hm boot_enumerate (PyProof.Rows.callWith_type1 (thn (ha.run p2 pins s σ H _ I h) ?_) hs rfl))
  rintro us s1 ⟨vs, H1, I1, r1, a, xs, rfl, sq, q⟩
  cases r1 with
  | cons r rr =>
    cases rr
    cases r
    obtain ⟨its, rv, tp, _⟩ := I1.tuple sq
    refine en_call (begins_tuple a its.toArray) tp fun hp he hi kp => wpAny_pyIter_enum he ?_
    have fr : ∀ b ∈ [s1.heap.objs.size + 1, s1.heap.objs.size], FpOk X pins H1 b := fun b hb => by
      have le : s1.heap.objs.size ≤ b := by
        rcases List.mem_cons.mp hb with rfl | hb
        · exact Nat.le_succ _
        · rw [List.mem_singleton.mp hb]
          exact Nat.le_refl _
      exact I1.fpOk le (I1.hok.fresh le)
    exact ⟨_, [s1.heap.objs.size + 1, s1.heap.objs.size], _, _, H1, rfl, I1.kept (t' := s1.toks) kp, turn_enT a _ _, ⟨⟨.none, he⟩, ⟨_, hi, rfl, rfl⟩, Nat.succ_ne_self _⟩, fr, q⟩
theorem walk_enT {K : PySem.W.Frag} {a : Addr} {xs : List V} : Walk (ItE K a) xs.length (fun H => SqT K H a xs) (YPair (fun i => some (V.int ((i : Nat) : Int))) (fun i => xs[i]?)) where
  goes := fun i H hi sq => ⟨xs, xs[i], sq, List.getElem?_eq_getElem hi⟩
  stops := fun H sq => ⟨xs, sq, rfl⟩
  yields := fun i H v H2 hi sq ⟨N, x, e, f, u, k⟩ => ⟨N, _, x, e, f, u, rfl, k xs sq⟩
section
variable {K : PySem.W.Frag} {te ta tb tc tl : TE} {tt : TT} {tA : TA} {ds : List SD} {ms : List MD} {R : RS} {t u : TS} {P : Po}
theorem s_forET {g : TG} {js : List Nat} (h : EA K tA ds ms fun as ms0 => ∃ es : List PyData, as = [.d (.tuple es)] ∧ ∃ Pv : Nat → List SD → List MD → Prop, Pv 0 ds ms0 ∧
      (∀ i e ds1 ms1, es[i]? = some e → Pv i ds1 ms1 → EG K g js (.d (.tuple [.int (i : Nat), e])) ds1 ms1 fun ds2 ms2 => S K t ds2 ms2 { P with nx := Pv (i + 1), ct := Pv (i + 1), bk := P.nx }) ∧ ∀ ds1 ms1, Pv es.length ds1 ms1 → P.nx ds1 ms1) :
    S K (tFor (iEnT K tA) g t) ds ms P := fun L M σ H hS hA D n r b c =>
  h L M σ H hS hA _ fun as vs H1 ms0 w a1 o ⟨es, ea, Pv, h0, hs, hd⟩ => by
    subst ea
    obtain ⟨v, t1, rfl, hv, rfl⟩ := o
    have hv' : Rp M H1 v (.tuple es) := hv
    cases hv' with
    | @tup a xs _ na ea rx =>
    refine ⟨a, xs, rfl, SqT.of ea, for_it walk_enT (fun i σ' H' => ∃ ds' ms', Wk L H1 H' ∧ Sl K L M σ' H' ds' ∧ At L M ms' H' ∧ Pv i ds' ms') ⟨ds, ms0, Wk.refl L H1, hS.mono hA w, a1, h0⟩ (fun i σ' H' _ ⟨_, _, w', _⟩ => SqT.of (w' a _ (fun z => na (a1.sub a z)) ea)) (fun i x σ' H' H2 hi ⟨ds', ms', w', s', a', p'⟩ y => ?_) (fun σ' H' ⟨ds', ms', w', s', a', p'⟩ => ?_)⟩
    · obtain ⟨N, c1, y1, rfl, hN, rfl, q1, q2⟩ := y
      cases q1
      obtain ⟨e, e1, e2⟩ := rx.get' q2
      have w2 : Wk L H' (upd H' N (.tup [.int (i : Nat), y1])) := Wk.new hN
      have a2 := a'.new (o := .tup [.int (i : Nat), y1]) hN
      have w3 := w'.trans w2
      refine hs i e ds' ms' e1 p' L M σ' _ (.ref N) (s'.mono a' w2) a2 (Rp.tup (a'.fresh hN) upd_same (.cons (.int _) (.cons (Rp.to (a1.wk w3) _ _ e2) .nil))) _ fun σ2 ds2 s2 _ h2 => ?_
      exact h2 L M σ2 _ s2 a2 _ (fun σ3 H3 ds3 ms3 w4 s3 a3 p3 => ⟨ds3, ms3, w3.trans w4, s3, a3, p3⟩) (r.on a2 (w.trans w3)) (n.on (w.trans w3)) (fun σ3 H3 ds3 ms3 w4 s3 a3 p3 => ⟨ds3, ms3, w3.trans w4, s3, a3, p3⟩)
    · rw [rx.length] at p'
      exact n σ' H' ds' ms' (w.trans w') s' a' (hd ds' ms' p')
end
end Hc

namespace Hc
open PySem PySem.Spec PyProof.Rows L2
/-! ### sorted(xs) of data -/
section
variable {K : PySem.W.Frag} {ds : List SD} {ms : List MD} {R : RS}
end
end Hc

namespace Hc
open PySem PySem.Spec PyProof.Rows L2
section
variable {K : PySem.W.Frag} {te ta tb tc tl : TE} {tt : TT} {tA : TA} {ds : List SD} {ms : List MD} {R : RS} {t u : TS} {P : Po}
/-! ### in, over data -/
/-! ### for a, b in zip(xs, ys), two lists -/
/-! ### xs.insert(i, e) -/
/-! ### a part of a list, or of a tuple that may be the whole -/
theorem pe_num {X : Cx} {x : Str} {n : Int} {pos : Pos} (hg : Gl X x) (h : ∃ t, X.mg x = some (.int n t)) (hdb : (x == ("__debug__" : Str)) = false := by decide) : PE X (.Name x pos) (tC (.int n)) := by
  obtain ⟨t, m⟩ := h
  exact pe_glob hg m ⟨_, rfl⟩ hdb
/-! ### a, b = t of a list or a tuple -/
def gRw (K : PySem.W.Frag) (n : Nat) (gs : TGs) : TG := fun v σ H C => gTup K n gs v σ H C ∨ gUnl K n gs v σ H C
theorem pg_rw {X : Cx} {pos : Pos} {es : List Expr} {k : Nat} {gs : TGs} {n : Nat} (hc : X.calm = true) (h : PGs X es gs) (h1 : (assignEach es X.env).length = n := by rfl) (h2 : List.findIdx? (fun x => x.fst) (assignEach es X.env) = none := by rfl) :
    PG X (.Tuple es k pos) (gRw X.K n gs) := ⟨fun pins s σ H v u Q I rv z => by
  rcases z with z | z
  · exact (pg_tup hc h h1 h2).run pins s σ H v u Q I rv z
  · exact (pg_unl hc h h1 h2).run pins s σ H v u Q I rv z⟩
theorem eg_rw {gs : TGs} {js : List Nat} {n : Nat} {x : PyData} {xs : List PyData} {N : List SD → List MD → Prop} (hx : x = .list xs ∨ x = .tuple xs) (hn : xs.length = n) (h : EGs K gs js xs ds ms N) : EG K (gRw K n gs) js (.d x) ds ms N := fun L M σ H v hS hA ho C c => by
  rcases hx with rfl | rfl
  · obtain ⟨a, ys, rfl, e, r⟩ := Sv.lst (ms := ms) (K := K) (L := L) (.d (.list xs)) hA ho
    exact .inr ⟨a, ys, rfl, e, by rw [r.length]; exact hn, h L M σ H ys hS hA r C c⟩
  · exact .inl (eg_tup hn h L M σ H v hS hA ho C c)
end
end Hc

namespace Hc
open PySem PySem.Spec PyProof.Rows L2
/-! ### xs[::2], xs[1::2] -/
section
variable {K : PySem.W.Frag} {te ta tb tc tl : TE} {tt : TT} {tA : TA} {ds : List SD} {ms : List MD} {R : RS} {t u : TS} {P : Po}
/-! ### a list or a tuple as a test -/
def tTru (K : PySem.W.Frag) (te : TE) : TT := fun σ H Q => te σ H fun x H' => ∃ k, TruV K x H' k ∧ Q k H'
theorem pt_tru {X : Cx} {a : Expr} (ha : PE X a ta) (he : ∀ whole, isTrue a X.env whole = (do let v ← whole; standAt a.pos; holding [v] (truthy v)) := by intro _; rfl) : PT X a (tTru X.K ta) := pt_truth ha he
theorem et_tru {RB : Bool → List MD → Prop} (h : E K te ds ms fun s ms1 => ∃ es : List PyData, (Sv ms1 (dd s) (.list es) ∨ Sv ms1 (dd s) (.tuple es)) ∧ RB (!es.isEmpty) ms1) : ET K (tTru K te) ds ms RB := fun L M σ H hS hA Q q =>
  h L M σ H hS hA _ fun s v H1 ms1 w o ⟨es, sv, r⟩ => by
    have a1 := o.at
    have em : ∀ {xs : List V}, RpA M H1 xs es → xs.isEmpty = es.isEmpty := fun {xs} h => by
      cases h <;> rfl
    rcases sv with sv | sv
    · obtain ⟨p, xs, rfl, hq, hr⟩ := sv.lst a1 o.sl
      exact ⟨_, .inl ⟨xs, hq, rfl⟩, by rw [em hr]; exact q _ H1 ms1 w a1 r⟩
    · obtain ⟨p, xs, rfl, hq, hr⟩ := sv.tup o.sl
      exact ⟨_, .inr (.inl ⟨xs, SqT.of hq, rfl⟩), by rw [em hr]; exact q _ H1 ms1 w a1 r⟩
end
end Hc

namespace Hc
open PySem PySem.Spec PyProof.Rows L2
section
variable {K : PySem.W.Frag} {te ta tb tc tl : TE} {tt : TT} {tA tB : TA} {ds : List SD} {ms : List MD} {R : RS} {t u : TS} {P : Po}
/-- the first two together -/
theorem s_assoc {v : TS} (h : S K (tSeq (tSeq t u) v) ds ms P) : S K (tSeq t (tSeq u v)) ds ms P := h
end
/-! ### sorted rows -/
end Hc

namespace Hc
open PySem PySem.Spec PyProof.Rows L2
/-! ### lists of lists that may change -/
section
variable {K : PySem.W.Frag} {L M qs : List Addr} {ms1 xs : List MD} {H H' : Hp}
theorem to_lessAll : To (M ++ qs) M H H := fun a o n e => ⟨fun z => n (List.mem_append_left _ z), e⟩
theorem At.dropAll (h : At (L ++ qs) (M ++ qs) (ms1 ++ xs) H) (hx : qs.length = xs.length) (hl : ∀ q ∈ L, q ∈ M) : At L M ms1 H := by
  have hn : L.length = ms1.length := by
    have := h.ln
    simp at this
    omega
  refine ⟨(List.nodup_append.mp h.nd).1, hl, fun q hq => h.al q (List.mem_append_left _ hq), hn, fun k q x e1 e2 => ?_⟩
  have h1 : k < L.length := (List.getElem?_eq_some_iff.mp e1).1
  have h2 : k < ms1.length := (List.getElem?_eq_some_iff.mp e2).1
  exact (h.ok k q x (by rw [List.getElem?_append_left h1]; exact e1) (by rw [List.getElem?_append_left h2]; exact e2)).toL to_lessAll (fun k' q' hlt z => by rw [List.getElem?_append_left (by omega)] at z; exact z) rfl
/-- the rows' own mutables, and the list of them -/
def rowsM (n : Nat) (ess : List (List PyData)) : List MD := ess.map MD.l ++ [.r (List.range' n ess.length)]
def frzLS (n : Nat) (ess : List (List PyData)) : SD → SD
  | .m k => if k < n then .m k else if k = n + ess.length then .d (.list (ess.map .list)) else .d (.list (ess.getD (k - n) []))
  | s => s
theorem rows_len (n : Nat) (ess : List (List PyData)) : (rowsM n ess).length = ess.length + 1 := by simp [rowsM]
theorem RpA.ofGet : ∀ {xs : List V} {ds : List PyData}, xs.length = ds.length → (∀ (i : Nat) (v : V) (d : PyData), xs[i]? = some v → ds[i]? = some d → Rp M H v d) → RpA M H xs ds
  | [], [], _, _ => .nil
  | [], _ :: _, h, _ => by cases h
  | _ :: _, [], h, _ => by cases h
  | x :: xs, d :: ds, h, f => .cons (f 0 x d rfl rfl) (RpA.ofGet (by simpa using h) fun i v e h1 h2 => f (i + 1) v e (by simpa using h1) (by simpa using h2))
theorem rows_at (n : Nat) (ms1 : List MD) (ess : List (List PyData)) {i : Nat} {es : List PyData} (h : ess[i]? = some es) : (ms1 ++ rowsM n ess)[ms1.length + i]? = some (.l es) := by
  have hi := (List.getElem?_eq_some_iff.mp h).1
  rw [List.getElem?_append_right (by omega)]
  unfold rowsM
  rw [List.getElem?_append_left (by simp; omega), List.getElem?_map]
  have : ms1.length + i - ms1.length = i := by omega
  rw [this, h]
  rfl
theorem rows_top (n : Nat) (ms1 : List MD) (ess : List (List PyData)) : (ms1 ++ rowsM n ess)[ms1.length + ess.length]? = some (.r (List.range' n ess.length)) := by
  rw [List.getElem?_append_right (by omega)]
  unfold rowsM
  have : ms1.length + ess.length - ms1.length = (ess.map MD.l).length := by simp
  rw [this, List.getElem?_append_right (Nat.le_refl _), Nat.sub_self]
  rfl
theorem row_rp {ess : List (List PyData)} (a : At (L ++ qs) (M ++ qs) (ms1 ++ rowsM ms1.length ess) H) (hx : qs.length = ess.length + 1) (nm : ∀ q ∈ qs, q ∉ M) {i : Nat} {es : List PyData} {q : Addr} (he : ess[i]? = some es) (hq : (L ++ qs)[ms1.length + i]? = some q) : Rp M H (.ref q) (.list es) := by
  have hn : L.length = ms1.length := by
    have := a.ln
    simp [rows_len] at this
    omega
  obtain ⟨xs, e, r⟩ := a.ok _ q _ hq (rows_at _ _ _ he)
  have hm : q ∈ qs := by
    rw [List.getElem?_append_right (by omega)] at hq
    exact List.mem_of_getElem? hq
  exact .lst (nm q hm) e (RpA.to to_lessAll _ _ r)
theorem SlOk.frzLL {ess : List (List PyData)} {s : SD} {v : V} (a : At (L ++ qs) (M ++ qs) (ms1 ++ rowsM ms1.length ess) H) (hx : qs.length = ess.length + 1) (nm : ∀ q ∈ qs, q ∉ M) (h : SlOk K (L ++ qs) (M ++ qs) H s v) : SlOk K L M H (frzLS ms1.length ess s) v := by
  have hn : L.length = ms1.length := by
    have := a.ln
    simp [rows_len] at this
    omega
  cases s with
  | u => exact h
  | f _ => exact h
  | g _ => exact h
  | d x => exact Rp.to to_lessAll _ _ h
  | v x => exact h
  | w φ => exact ⟨h.2 _ _ _ _ _ to_lessAll h.1, h.2⟩
  | h φ =>
    obtain ⟨b, e, n, q⟩ := h
    exact ⟨b, e, fun z => n (List.mem_append_left _ z), q⟩
  | s ns =>
    obtain ⟨b, e, ⟨n, q⟩ | q⟩ := h
    · exact ⟨b, e, .inl ⟨fun z => n (List.mem_append_left _ z), q⟩⟩
    · exact ⟨b, e, .inr q⟩
  | q k =>
    obtain ⟨p, rfl, hp, hls⟩ := h
    have hk := (List.getElem?_eq_some_iff.mp hp).1
    rw [List.length_append, hn, hx] at hk
    have nol : ∀ xs, H p ≠ some (.lst xs) := fun xs e => hls.notL e
    have h1 : k < ms1.length := by
      rcases Nat.lt_or_ge k ms1.length with z | z
      · exact z
      · exfalso
        by_cases h2 : k = ms1.length + ess.length
        · subst h2
          obtain ⟨ps, e, _⟩ := a.ok _ p _ hp (rows_top _ _ _)
          exact nol _ e
        · have hi : k - ms1.length < ess.length := by omega
          have e2 : ess[k - ms1.length]? = some (ess.getD (k - ms1.length) []) := by simp [List.getD, hi]
          have e3 := rows_at ms1.length ms1 ess e2
          rw [show ms1.length + (k - ms1.length) = k by omega] at e3
          obtain ⟨xs, e, _⟩ := a.ok _ p _ hp e3
          exact nol _ e
    rw [List.getElem?_append_left (by omega)] at hp
    exact ⟨p, rfl, hp, hls⟩
  | m k =>
    obtain ⟨p, rfl, hp, hls⟩ := h
    have hk := (List.getElem?_eq_some_iff.mp hp).1
    rw [List.length_append, hn, hx] at hk
    show SlOk K L M H (if k < ms1.length then .m k else if k = ms1.length + ess.length then .d (.list (ess.map .list)) else .d (.list (ess.getD (k - ms1.length) []))) (.ref p)
    by_cases h1 : k < ms1.length
    · rw [if_pos h1]
      rw [List.getElem?_append_left (by omega)] at hp
      exact ⟨p, rfl, hp, hls⟩
    · rw [if_neg h1]
      by_cases h2 : k = ms1.length + ess.length
      · rw [if_pos h2]
        subst h2
        obtain ⟨ps, e, ln, f⟩ := a.ok _ p _ hp (rows_top _ _ _)
        rw [List.length_range'] at ln
        have hm : p ∈ qs := by
          rw [List.getElem?_append_right (by omega)] at hp
          exact List.mem_of_getElem? hp
        refine Rp.lst (nm p hm) e (RpA.ofGet (by simp [ln]) fun i v d e1 e2 => ?_)
        rw [List.getElem?_map] at e1 e2
        cases q1 : ps[i]? with
        | none => rw [q1] at e1; cases e1
        | some q =>
          cases q2 : ess[i]? with
          | none => rw [q2] at e2; cases e2
          | some es =>
            rw [q1] at e1
            rw [q2] at e2
            cases e1
            cases e2
            have hi := (List.getElem?_eq_some_iff.mp q2).1
            have := (f i (ms1.length + i) q (by rw [List.getElem?_range' hi]; simp) q1).1
            exact row_rp a hx nm q2 this
      · rw [if_neg h2]
        have hi : k - ms1.length < ess.length := by omega
        have e2 : ess[k - ms1.length]? = some (ess.getD (k - ms1.length) []) := by simp [List.getD, hi]
        refine row_rp a hx nm e2 ?_
        have : ms1.length + (k - ms1.length) = k := by omega
        rw [this]
        exact hp
theorem Sl.frzLL {σ : L2.St} {ds : List SD} {ess : List (List PyData)} (a : At (L ++ qs) (M ++ qs) (ms1 ++ rowsM ms1.length ess) H) (hx : qs.length = ess.length + 1) (nm : ∀ q ∈ qs, q ∉ M) (h : Sl K (L ++ qs) (M ++ qs) σ H ds) : Sl K L M σ H (ds.map (frzLS ms1.length ess)) := fun i s e => by
  rw [List.getElem?_map] at e
  cases q : ds[i]? with
  | none => rw [q] at e; cases e
  | some s0 =>
    rw [q] at e
    have e' : frzLS ms1.length ess s0 = s := Option.some.inj e
    by_cases hu : s0 = .u
    · subst hu
      subst e'
      exact h i .u q
    · obtain ⟨v, e1, e2⟩ := h.get q hu
      have z := e2.frzLL a hx nm
      rw [e'] at z
      cases s with
      | u => exact z.elim
      | f _ => exact z.elim
      | g _ => exact z.elim
      | d x => exact ⟨v, e1, z⟩
      | m k => exact ⟨v, e1, z⟩
      | q k => exact ⟨v, e1, z⟩
      | s ns => exact ⟨v, e1, z⟩
      | v x => exact ⟨v, e1, z⟩
      | h φ => exact ⟨v, e1, z⟩
      | w φ => exact ⟨v, e1, z⟩
end
def Po.frzLL (P : Po) (n c : Nat) : Po where
  nx := fun ds' ms' => ∃ ms1 ess, ms' = ms1 ++ rowsM n ess ∧ ms1.length = n ∧ ess.length = c ∧ P.nx (ds'.map (frzLS n ess)) ms1
  rt := fun s ms' => ∃ ms1 ess, ms' = ms1 ++ rowsM n ess ∧ ms1.length = n ∧ ess.length = c ∧ P.rt (frzLS n ess (dd s)) ms1
  bk := fun ds' ms' => ∃ ms1 ess, ms' = ms1 ++ rowsM n ess ∧ ms1.length = n ∧ ess.length = c ∧ P.bk (ds'.map (frzLS n ess)) ms1
  ct := fun ds' ms' => ∃ ms1 ess, ms' = ms1 ++ rowsM n ess ∧ ms1.length = n ∧ ess.length = c ∧ P.ct (ds'.map (frzLS n ess)) ms1
section
variable {K : PySem.W.Frag} {L M qs : List Addr} {ms ms1 : List MD} {H H1 H' : Hp} {ds : List SD} {P : Po} {tA : TA} {u : TS} {R : RS}
/-- how it stands within [[] for .. in range(..)] -/
structure Ls (H1 : Hp) (D : Addr) (i : Nat) (qs : List Addr) (H : Hp) : Prop where
  w : ∀ a o, H1 a = some o → H a = some o
  len : qs.length = i
  d : H D = some (.lst (qs.map V.ref))
  q : ∀ q ∈ qs, H q = some (.lst []) ∧ H1 q = none ∧ q ≠ D
  nd : qs.Nodup
theorem Ls.at {D : Addr} {i : Nat} {qs : List Addr} (a : At L M ms H1) (hD : H1 D = none) (c : Ls H1 D i qs H) : At (L ++ (qs ++ [D])) (M ++ (qs ++ [D])) (ms ++ rowsM ms.length (List.replicate i [])) H := by
  have fr : ∀ p ∈ qs ++ [D], H1 p = none := fun p hp => by
    rcases List.mem_append.mp hp with z | z
    · exact (c.q p z).2.1
    · rw [List.mem_singleton.mp z]; exact hD
  have nL : ∀ p ∈ qs ++ [D], p ∉ L := fun p hp => a.freshL (fr p hp)
  have t : To M (M ++ (qs ++ [D])) H1 H := fun b o n e => ⟨(fun z => (List.mem_append.mp z).elim n fun z => by
    have := fr b z
    rw [this] at e
    cases e), c.w b o e⟩
  have hl := a.ln
  refine ⟨?_, ?_, ?_, ?_, fun k p m e1 e2 => ?_⟩
  · refine List.nodup_append.mpr ⟨a.nd, List.nodup_append.mpr ⟨c.nd, by simp, fun x hx y hy z => ?_⟩, fun x hx y hy z => ?_⟩
    · rw [List.mem_singleton.mp hy] at z
      exact (c.q x hx).2.2 z
    · subst z
      exact nL x hy hx
  · intro p hp
    rcases List.mem_append.mp hp with z | z
    · exact List.mem_append_left _ (a.sub p z)
    · exact List.mem_append_right _ z
  · intro p hp
    rcases List.mem_append.mp hp with z | z
    · obtain ⟨o, e, no⟩ := a.al p z
      exact ⟨o, c.w p o e, no⟩
    · rcases List.mem_append.mp z with z | z
      · rw [(c.q p z).1]; exact ⟨_, rfl, trivial⟩
      · rw [List.mem_singleton.mp z, c.d]; exact ⟨_, rfl, trivial⟩
  · simp [rows_len, hl, c.len]
  · by_cases h1 : k < L.length
    · rw [List.getElem?_append_left h1] at e1
      rw [List.getElem?_append_left (by omega)] at e2
      refine (a.ok k p m e1 e2).toL t (fun k' q' _ z => by rw [List.getElem?_append_left (List.getElem?_eq_some_iff.mp z).1]; exact z) ?_
      obtain ⟨o, e, _⟩ := a.al p (a.sub p (List.mem_of_getElem? e1))
      rw [e]
      exact c.w p o e
    · have hk := (List.getElem?_eq_some_iff.mp e1).1
      simp at hk
      have hcl := c.len
      rw [List.getElem?_append_right (by omega)] at e1
      by_cases h2 : k - L.length < qs.length
      · rw [List.getElem?_append_left h2] at e1
        have := rows_at ms.length ms (List.replicate i []) (i := k - L.length) (es := []) (by rw [List.getElem?_replicate, if_pos (by omega)])
        rw [show ms.length + (k - L.length) = k by omega, e2] at this
        cases this
        exact ⟨[], (c.q p (List.mem_of_getElem? e1)).1, .nil⟩
      · have hk2 : k = ms.length + (List.replicate i ([] : List PyData)).length := by
          rw [List.length_replicate]
          omega
        have e3 := rows_top ms.length ms (List.replicate i [])
        rw [← hk2, e2] at e3
        cases e3
        rw [List.getElem?_append_right (by omega)] at e1
        have : k - L.length - qs.length = 0 := by rw [List.length_replicate] at hk2; omega
        rw [this] at e1
        cases e1
        refine ⟨qs, c.d, by rw [List.length_range', List.length_replicate]; exact hcl, fun j k' q h1 h2 => ?_⟩
        have hj := (List.getElem?_eq_some_iff.mp h2).1
        rw [List.length_replicate, List.getElem?_range' (by omega)] at h1
        have hk' : ms.length + j = k' := by simpa using h1
        subst hk'
        rw [List.length_replicate] at hk2
        refine ⟨?_, by omega⟩
        rw [List.getElem?_append_right (by omega), List.getElem?_append_left (by omega)]
        have : ms.length + j - L.length = j := by omega
        rw [this]
        exact h2
theorem s_newLL {i j : Nat} (h : EA K tA ds ms fun as ms1 => ∃ n : Nat, as = [.d (.int n)] ∧ n ≤ 10000 ∧ S K u (ds.set i (.m (ms1.length + n))) (ms1 ++ rowsM ms1.length (List.replicate n [])) (P.frzLL ms1.length n)) :
    S K (tSeq (tAsg (tLc (iRng1 tA) (gName j) tYes (tLst tNil) [j]) (gName i)) u) ds ms P := fun L M σ H hS hA D n r b c_ =>
  h L M σ H hS hA _ fun as vs H1 ms1 w a1 o ⟨m, ea, hm, h1⟩ => by
    subst ea
    obtain ⟨v, t1, rfl, hv, rfl⟩ := o
    cases hv
    refine ⟨m, rfl, by omega, by omega, fun E hE => ?_⟩
    have hst : Ls H1 E 0 [] (upd H1 E (.lst [])) := ⟨fun a o e => by rw [upd_ne (ne_of_none e hE)]; exact e, rfl, upd_same, (fun q hq => by cases hq), List.Pairwise.nil⟩
    refine lc_range (lo := 0) (n := m) (fun i H' => ∃ qs, Ls H1 E i qs H') ⟨[], hst⟩ (fun i H' hi ⟨qs, c⟩ => ?_) (fun H' ⟨qs, c⟩ => ?_)
    · show L2.wipe ((L2.wipe σ [j]).set j _) [j] = L2.wipe σ [j] ∧ tYes _ H' _
      refine ⟨?_, ?_⟩
      · rw [wipe_set _ _ _ _ (by simp)]
        apply List.ext_getElem?
        intro k
        rw [wipe_get, wipe_get, wipe_length]
        by_cases e : k ∈ [j]
        · rw [if_pos e, if_pos e]
        · rw [if_neg e, if_neg e]
      · unfold tYes
        simp only [if_true]
        refine ⟨Nat.zero_le _, fun q hq => ?_⟩
        have ne : E ≠ q := fun z => by
          subst z
          rw [c.d] at hq
          cases hq
        have h1q : H1 q = none := by
          cases e : H1 q with
          | none => rfl
          | some o => rw [c.w q o e] at hq; cases hq
        have ob : ∀ x o, H' x = some o → x ≠ q := fun x o e z => by
          subst z
          rw [e] at hq
          cases hq
        refine ⟨qs.map V.ref, by rw [upd_ne ne]; exact c.d, by rw [List.length_map, c.len]; exact Nat.lt_of_lt_of_le (show i < 10001 by omega) (by decide), qs ++ [q], ⟨fun a o e => ?_, by rw [List.length_append, c.len]; rfl, by rw [upd_same, List.map_append]; rfl, fun x hx => ?_, ?_⟩⟩
        · rw [upd_ne (ne_of_none e hE), upd_ne (ob a o (c.w a o e))]
          exact c.w a o e
        · rcases List.mem_append.mp hx with z | z
          · obtain ⟨q1, q2, q3⟩ := c.q x z
            exact ⟨by rw [upd_ne q3, upd_ne (ob x _ q1)]; exact q1, q2, q3⟩
          · rw [List.mem_singleton.mp z]
            exact ⟨by rw [upd_ne (Ne.symm ne), upd_same], h1q, Ne.symm ne⟩
        · refine List.nodup_append.mpr ⟨c.nd, by simp, fun x hx y hy z => ?_⟩
          rw [List.mem_singleton.mp hy] at z
          exact ob x _ (c.q x hx).1 z
    · have a2 := c.at a1 hE
      have hcl := c.len
      have fr : ∀ p ∈ qs ++ [E], H1 p = none := fun p hp => by
        rcases List.mem_append.mp hp with z | z
        · exact (c.q p z).2.1
        · rw [List.mem_singleton.mp z]; exact hE
      have nm : ∀ p ∈ qs ++ [E], p ∉ M := fun p hp => a1.fresh (fr p hp)
      have fr0 : ∀ p ∈ qs ++ [E], H p = none := fun p hp => none_back a1 w (nm p hp) (fr p hp)
      have t : To M (M ++ (qs ++ [E])) H H' := fun x o nx e => ⟨(fun z => (List.mem_append.mp z).elim nx fun z => by
        have := fr0 x z
        rw [this] at e
        cases e), c.w x o (w x o (fun z => nx (hA.sub x z)) e)⟩
      have hl1 := a1.ln
      have hS1 : Sl K (L ++ (qs ++ [E])) (M ++ (qs ++ [E])) (σ.set i (some (.ref E))) H' (ds.set i (.m (ms1.length + m))) := by
        refine (hS.to t (fun x y ex => by
          obtain ⟨o1, f1, k1⟩ := w.kd x y ex
          exact ⟨o1, c.w x o1 f1, k1⟩) fun k q e => ?_).set i ⟨E, rfl, ?_, _, c.d⟩
        · rw [List.getElem?_append_left (List.getElem?_eq_some_iff.mp e).1]
          exact e
        · rw [List.getElem?_append_right (by omega), List.getElem?_append_right (by omega)]
          have : ms1.length + m - L.length - qs.length = 0 := by omega
          rw [this]
          rfl
      have wk : ∀ {H2 : Hp}, Wk (L ++ (qs ++ [E])) H' H2 → Wk L H H2 := fun {H2} w2 => ⟨fun x y nx ex => w2 x y (fun z => (List.mem_append.mp z).elim nx fun z => by
        have := fr0 x z
        rw [this] at ex
        cases ex) (c.w x y (w x y nx ex)), fun x y ex => by
        obtain ⟨o1, f1, k1⟩ := w.kd x y ex
        obtain ⟨o2, f2, k2⟩ := w2.kd x o1 (c.w x o1 f1)
        exact ⟨o2, f2, k2.trans k1⟩⟩
      have lq : ∀ ess : List (List PyData), ess.length = m → (qs ++ [E]).length = ess.length + 1 := fun ess e => by simp; omega
      have go : ∀ {N : List SD → List MD → Prop} {C : L2.St → Hp → Prop}, Nx K L M H N C → Nx K (L ++ (qs ++ [E])) (M ++ (qs ++ [E])) H' (fun ds' ms' => ∃ ms2 ess, ms' = ms2 ++ rowsM ms1.length ess ∧ ms2.length = ms1.length ∧ ess.length = m ∧ N (ds'.map (frzLS ms1.length ess)) ms2) C := by
        intro N C nn σ2 H2 ds2 ms2 w2 s2 a2 ⟨ms3, ess, e3, l3, le, n3⟩
        subst e3
        rw [← l3] at n3 a2
        exact nn σ2 H2 _ ms3 (wk w2) (s2.frzLL a2 (lq ess le) nm) (a2.dropAll (by rw [lq ess le, rows_len]) hA.sub) n3
      refine h1 _ _ _ H' hS1 a2 D (go n) ?_ (go b) (go c_)
      intro s2 v2 H2 ms2 w2 o2 ⟨ms3, ess, e3, l3, le, n3⟩
      subst e3
      have o3 := o2.sl
      have a3 := o2.at
      rw [← l3] at n3 a3
      refine r _ v2 H2 ms3 (wk w2) ?_ n3
      have sl := o3.frzLL a3 (lq ess le) nm
      exact Out.of (a3.dropAll (by rw [lq ess le, rows_len]) hA.sub) sl
/-- a row of them -/
theorem rr_ixR {a b : SD} (h : ∃ k i j ks, a = .m k ∧ b = .d (.int (i : Nat)) ∧ ms[k]? = some (.r ks) ∧ ks[i]? = some j ∧ (∃ es, ms[j]? = some (.l es)) ∧ R (.m j) ms) : RR K (rIx K) a b ms R := fun L M H x y hA ha hb Q q => by
  obtain ⟨k, i, j, ks, rfl, rfl, hk, hj, ⟨es, he⟩, r⟩ := h
  obtain ⟨p, rfl, hp, hls⟩ := ha
  cases hb
  obtain ⟨ps, e, ln, f⟩ := hA.ok k p _ hp hk
  have hi := (List.getElem?_eq_some_iff.mp hj).1
  have hi2 : i < ps.length := by omega
  have hq := List.getElem?_eq_getElem hi2
  refine .inl ⟨p, _, i, .ref ps[i], rfl, rfl, SqL.of e, atI_nat (by rw [List.getElem?_map, hq]; rfl), ?_⟩
  exact q (.m j) _ H ms (Wk.refl L H) ⟨hA, _, rfl, (f i j _ hj hq).1, let ⟨xs, e, _⟩ := hA.get (f i j _ hj hq).1 he; ⟨xs, e⟩⟩ r
end
end Hc

namespace Hc
open PySem PySem.Spec PyProof.Rows L2
/-! ### zip(t, xs) of a tuple and a list -/
structure Apt (z t o c d a b : Addr) : Prop where
  nd : [z, t, o, c, d].Nodup
  na : a ∉ [z, t, o, c, d]
  nb : b ∉ [z, t, o, c, d]
theorem Apt.sep {z t o c d a b : Addr} (h : Apt z t o c d a b) : PySem.ZipSep2 z t o c d [c, a] [d, b] := by
  obtain ⟨nd, na, nb⟩ := h
  simp only [List.nodup_cons, List.mem_cons, List.not_mem_nil, or_false, not_or] at nd na nb
  obtain ⟨⟨zt, zo, zc, zd⟩, ⟨t_o, tc, td⟩, ⟨oc, od⟩, cd, _⟩ := nd
  obtain ⟨az, at', ao, ac, ad⟩ := na
  obtain ⟨bz, bt, bo, bc, bd⟩ := nb
  constructor <;> first | (simp; done) | (simp only [List.mem_cons, List.not_mem_nil, or_false, not_or]; exact ⟨by first | assumption | exact Ne.symm (by assumption), by first | assumption | exact Ne.symm (by assumption)⟩) | assumption | exact Ne.symm (by assumption)
section
variable {K : PySem.W.Frag} {te ta tb tc tl : TE} {tt : TT} {tA : TA} {ds : List SD} {ms : List MD} {R : RS} {t u : TS} {P : Po}
/-! ### sum(xs) of ints -/
end
end Hc

namespace Hc
open PySem PySem.Spec PyProof.Rows L2
/-! ### calls that change nothing, of things that may change elsewhere -/
mutual
def noL : PyData → Bool
  | .tuple ds => noLA ds
  | .list _ => false
  | .dict _ => false
  | _ => true
def noLA : List PyData → Bool
  | [] => true
  | d :: r => noL d && noLA r
end
section
variable {K : PySem.W.Frag} {L M : List Addr} {ms : List MD} {H H' : Hp}
mutual
theorem rp_back (a : At L M ms H) : ∀ (d : PyData) (v : V), noL d = true → Rp [] H v d → Rp M H v d
  | .none, _, _, h => by cases h; exact .non
  | .bool b, _, _, h => by cases h; exact .bl b
  | .int i, _, _, h => by cases h; exact .int i
  | .str x, _, _, h => by cases h; exact .str x
  | .list ds, _, n, _ => by simp [noL] at n
  | .dict ds, _, n, _ => by simp [noL] at n
  | .tuple ds, _, n, h => by
    cases h with
    | tup na e r =>
      refine .tup (fun z => ?_) e (rpa_back a ds _ (by simpa [noL] using n) r)
      obtain ⟨o, eo, no⟩ := a.al _ z
      rw [e] at eo
      cases eo
      exact no
theorem rpa_back (a : At L M ms H) : ∀ (ds : List PyData) (vs : List V), noLA ds = true → RpA [] H vs ds → RpA M H vs ds
  | [], _, _, h => by cases h; exact .nil
  | d :: ds, _, n, h => by
    cases h with
    | cons x y =>
      have n' : noL d = true ∧ noLA ds = true := by simpa [noLA, Bool.and_eq_true] using n
      exact .cons (rp_back a d _ n'.1 x) (rpa_back a ds _ n'.2 y)
end
theorem to_nil : To M [] H H := fun a o n e => ⟨by simp, e⟩
theorem At.all (a : At L M ms H) (w : Wk [] H H') : At L M ms H' :=
  ⟨a.nd, a.sub, fun p hp => by
    obtain ⟨o, e, no⟩ := a.al p hp
    exact ⟨o, w p o (by simp) e, no⟩, a.ln, fun k p m e1 e2 => (a.ok k p m e1 e2).to (fun b o n e => ⟨n, w b o (by simp) e⟩) (by
    obtain ⟨o, e, _⟩ := a.al p (a.sub p (List.mem_of_getElem? e1))
    rw [e]
    exact w p o (by simp) e)⟩
inductive Svs (ms : List MD) : List SD → List PyData → Prop
  | nil : Svs ms [] []
  | d {x : PyData} {as : List SD} {xs : List PyData} : Svs ms as xs → Svs ms (.d x :: as) (x :: xs)
  | m {k : Nat} {es : List PyData} {as : List SD} {xs : List PyData} : ms[k]? = some (.l es) → Svs ms as xs → Svs ms (.m k :: as) (.list es :: xs)
theorem Svs.go (a : At L M ms H) : ∀ {as : List SD} {xs : List PyData} {vs : List V}, Svs ms as xs → SlsOk K L M H as vs → SlsOk K [] [] H (xs.map .d) vs
  | _, _, _, .nil, h => h
  | _, _, _, .d s, ⟨v, t, e, x, y⟩ => ⟨v, t, e, Rp.to to_nil _ _ x, Svs.go a s y⟩
  | _, _, _, .m hk s, ⟨v, t, e, x, y⟩ => by
    obtain ⟨p, rfl, hp, hls⟩ := x
    obtain ⟨zs, e1, r⟩ := a.get hp hk
    exact ⟨_, t, e, .lst (by simp) e1 (RpA.to to_nil _ _ r), Svs.go a s y⟩
variable {te ta tb tc tl : TE} {tt : TT} {tA : TA} {ds : List SD} {R : RS} {P : Po}
/-! ### more built-ins -/
theorem e_index (h : E K ta ds ms fun s ms1 => ∃ ns : List Int, Sv ms1 (dd s) (.list (ns.map .int)) ∧ E K te ds ms1 fun x ms2 => ∃ (k : Int) (j : Nat), x = .d (.int k) ∧ ms2 = ms1 ∧ ns[j]? = some k ∧ (∀ (i : Nat) (z : Int), i < j → ns[i]? = some z → z ≠ k) ∧ R (.d (.int (j : Nat))) ms2) : E K (tBM K "list" (rIndex K) ta (tCons te tNil)) ds ms R := fun L M σ H hS hA Q q =>
  h L M σ H hS hA _ fun s v H1 ms1 w o ⟨ns, sv, h2⟩ => by
    have a1 := o.at
    have os := o.sl
    obtain ⟨p, xs, rfl, hq, hr⟩ := sv.lst a1 os
    refine ⟨.inl ⟨rfl, xs, hq⟩, ?_⟩
    refine h2 L M σ H1 (hS.mono hA w) a1 _ fun x y H2 ms2 w2 o2 ⟨k, j, ex, em, hj, hb, r⟩ => ?_
    subst ex em
    obtain ⟨a2, z⟩ := o2
    cases z
    obtain ⟨p2, xs2, ep, hq2, hr2⟩ := sv.lst a2 (os.mono a1 w2)
    cases ep
    rw [RpA.ints_inv hr2] at hq2
    refine ⟨p, _, .int k, j, .int k, rfl, rfl, hq2, rfl, flat_ints ns, by rw [List.getElem?_map, hj]; rfl, ?_, fun i z hi hz => ?_, q (.d (.int _)) _ H2 _ (w.trans w2) ⟨a2, .int _⟩ r⟩
    · show (k == k) = true
      simp
    · rw [List.getElem?_map] at hz
      cases e : ns[i]? with
      | none => rw [e] at hz; cases hz
      | some u =>
        rw [e] at hz
        cases hz
        show (u == k) = false
        have := hb i u hi e
        simp [this]
end
end Hc

namespace Hc
open PySem PySem.Spec PyProof.Rows L2
/-! ### dicts that may change, with ints and texts as keys -/
def kD (m : List (Key × PyData)) : List (PyData × PyData) := m.map fun p => (keyD p.1, p.2)
def valD (m : List (Key × PyData)) (k : Key) : Option PyData := (m.find? fun kv => decide (kv.1 = k)).map (·.2)
def putD (m : List (Key × PyData)) (k : Key) (d : PyData) : List (Key × PyData) :=
  if (m.any fun kv => decide (kv.1 = k)) = true then m.map (fun kv => if kv.1 = k then (kv.1, d) else kv) else m ++ [(k, d)]
theorem keyD_inj {a b : Key} (h : keyD a = keyD b) : a = b := by
  cases a <;> cases b <;> cases h <;> rfl
section
variable {K : PySem.W.Frag} {L M : List Addr} {ms : List MD} {H H' : Hp}
/-- the keys are the same, the values lie in the heap -/
inductive Rk (M : List Addr) (H : Hp) : List (Key × V) → List (Key × PyData) → Prop
  | nil : Rk M H [] []
  | cons {k : Key} {v : V} {d : PyData} {kvs : List (Key × V)} {m : List (Key × PyData)} : Rp M H v d → Rk M H kvs m → Rk M H ((k, v) :: kvs) ((k, d) :: m)
theorem rk_of : ∀ {m : List (Key × PyData)} {kvs : List (Key × V)}, RpK M H kvs (kD m) → Rk M H kvs m
  | [], _, h => by cases h; exact .nil
  | (k, d) :: m, _, h => by
    have h' : RpK M H _ ((keyD k, d) :: kD m) := h
    generalize e : (keyD k, d) = x at h'
    cases h' with
    | @cons k2 v2 kvs2 d2 ds2 a b =>
      injection e with e1 e2
      have := keyD_inj e1
      subst this e2
      exact .cons a (rk_of b)
theorem Rk.to : ∀ {m : List (Key × PyData)} {kvs : List (Key × V)}, Rk M H kvs m → RpK M H kvs (kD m)
  | _, _, .nil => .nil
  | _, _, .cons a b => .cons a (Rk.to b)
theorem Rk.length : ∀ {m : List (Key × PyData)} {kvs : List (Key × V)}, Rk M H kvs m → kvs.length = m.length
  | _, _, .nil => rfl
  | _, _, .cons a b => by simp [Rk.length b]
theorem Rk.get' : ∀ {m : List (Key × PyData)} {kvs : List (Key × V)} {i : Nat} {k : Key} {v : V}, Rk M H kvs m → kvs[i]? = some (k, v) → ∃ d, m[i]? = some (k, d) ∧ Rp M H v d
  | _, _, _, _, _, .nil, e => by simp at e
  | _, _, 0, _, _, .cons a _, e => by simp at e; obtain ⟨rfl, rfl⟩ := e; exact ⟨_, rfl, a⟩
  | _, _, i + 1, k, v, .cons _ b, e => by
    obtain ⟨d, h1, h2⟩ := Rk.get' (i := i) (k := k) (v := v) b (by simpa using e)
    exact ⟨d, by simpa using h1, h2⟩
theorem Rk.val (k : Key) : ∀ {m : List (Key × PyData)} {kvs : List (Key × V)}, Rk M H kvs m → (valD m k = none → valV kvs k = none) ∧ ∀ d, valD m k = some d → ∃ v, valV kvs k = some v ∧ Rp M H v d
  | _, _, .nil => ⟨fun _ => rfl, fun d e => by cases e⟩
  | (k1, d1) :: m, (_, v1) :: kvs, .cons a b => by
    by_cases e : k1 = k
    · refine ⟨fun h => ?_, fun d h => ?_⟩
      · simp [valD, e] at h
      · simp [valD, e] at h
        subst h
        exact ⟨v1, valV_pos e, a⟩
    · obtain ⟨h1, h2⟩ := Rk.val k b
      have e1 : valD ((k1, d1) :: m) k = valD m k := by simp [valD, List.find?_cons, e]
      rw [e1, valV_neg e]
      exact ⟨h1, h2⟩
theorem Rk.any (k : Key) : ∀ {m : List (Key × PyData)} {kvs : List (Key × V)}, Rk M H kvs m → (kvs.any fun kv => decide (kv.1 = k)) = (m.any fun kv => decide (kv.1 = k))
  | _, _, .nil => rfl
  | _, _, .cons _ b => by simp [Rk.any k b]
theorem Rk.mapP (k : Key) {v : V} {d : PyData} (r : Rp M H v d) : ∀ {m : List (Key × PyData)} {kvs : List (Key × V)}, Rk M H kvs m → Rk M H (kvs.map (fun kv => if kv.1 = k then (kv.1, v) else kv)) (m.map (fun kv => if kv.1 = k then (kv.1, d) else kv))
  | _, _, .nil => .nil
  | (k1, d1) :: m, (_, v1) :: kvs, .cons a b => by
    rw [List.map_cons, List.map_cons]
    by_cases e : k1 = k
    · simp only [if_pos e]
      exact .cons r (Rk.mapP k r b)
    · simp only [if_neg e]
      exact .cons a (Rk.mapP k r b)
theorem Rk.snoc (k : Key) {v : V} {d : PyData} (r : Rp M H v d) : ∀ {m : List (Key × PyData)} {kvs : List (Key × V)}, Rk M H kvs m → Rk M H (kvs ++ [(k, v)]) (m ++ [(k, d)])
  | _, _, .nil => .cons r .nil
  | _, _, .cons a b => .cons a (Rk.snoc k r b)
theorem Rk.put (k : Key) {v : V} {d : PyData} {m : List (Key × PyData)} {kvs : List (Key × V)} (h : Rk M H kvs m) (r : Rp M H v d) : Rk M H (putK kvs k v) (putD m k d) := by
  unfold putK putD
  rw [h.any k]
  split
  · exact Rk.mapP k r h
  · exact Rk.snoc k r h
theorem Rp.key {v : V} {k : Key} (h : Rp M H v (keyD k)) : v = kV k := by
  cases k <;> cases h <;> rfl
theorem rp_key (k : Key) : Rp M H (kV k) (keyD k) := by
  cases k
  · exact .int _
  · exact .str _
/-- a slot's dict, as it may be read -/
inductive Dv (ms : List MD) : SD → List (Key × PyData) → Prop
  | d (m : List (Key × PyData)) : Dv ms (.d (.dict (kD m))) m
  | q {k : Nat} {m : List (Key × PyData)} : ms[k]? = some (.k (kD m)) → Dv ms (.q k) m
theorem Dv.go {s : SD} {m : List (Key × PyData)} {v : V} (h : Dv ms s m) (hA : At L M ms H) (o : SlOk K L M H s v) : ∃ a kvs, v = .ref a ∧ H a = some (.dK kvs) ∧ Rk M H kvs m := by
  cases h with
  | d =>
    have o' : Rp M H v (.dict (kD m)) := o
    cases o' with
    | dct n e r => exact ⟨_, _, rfl, e, rk_of r⟩
  | q e =>
    obtain ⟨p, rfl, hp, _⟩ := o
    obtain ⟨kvs, e1, r⟩ := hA.getK hp e
    exact ⟨p, kvs, rfl, e1, rk_of r⟩
variable {te ta tb tc tl td ty : TE} {tt : TT} {tA : TA} {ds : List SD} {R : RS} {t u : TS} {P : Po}
theorem e_varq {i k : Nat} (h : ds[i]? = some (.q k)) (r : R (.q k) ms) : E K (tVar i) ds ms R := fun L M σ H hS hA Q q => by
  obtain ⟨v, e, o⟩ := hS.get h (fun z => nomatch z)
  exact ⟨v, e, q _ v H ms (Wk.refl L H) (.of hA o) r⟩
theorem e_dget (h : E K td ds ms fun s ms1 => E K ty ds ms1 fun y ms2 => ∃ m k d, Dv ms2 (dd s) m ∧ dd y = .d (keyD k) ∧ valD m k = some d ∧ R (.d d) ms2) : E K (tDGet td ty) ds ms R := fun L M σ H hS hA Q q =>
  h L M σ H hS hA _ fun s x H1 ms1 w1 o1 h1 => h1 L M σ H1 (hS.mono hA w1) o1.at _ fun y z H2 ms2 w2 o2 ⟨m, k, d, dv, ey, hv, r⟩ => by
    obtain ⟨a, kvs, rfl, e, rk⟩ := dv.go o2.at (o1.sl.mono o1.at w2)
    have oz := o2.sl
    rw [ey] at oz
    obtain ⟨v, e1, e2⟩ := (rk.val k).2 d hv
    refine ⟨a, v, rfl, .inl ⟨kvs, k, .inl e, Rp.key oz, e1.symm⟩, q (.d d) v H2 ms2 (w1.trans w2) ⟨o2.at, e2⟩ r⟩
theorem dget_o {s : SD} {m : List (Key × PyData)} {a : Addr} {k : Key} {kvs : List (Key × V)} (e : H a = some (.dK kvs)) (rk : Rk M H kvs m) : ∃ o, DGet H a (kV k) o ∧ o.isSome = (valD m k).isSome := by
  refine ⟨valV kvs k, .inl ⟨kvs, k, .inl e, rfl, rfl⟩, ?_⟩
  cases q : valD m k with
  | none => rw [(rk.val k).1 q]; rfl
  | some d =>
    obtain ⟨v, e1, _⟩ := (rk.val k).2 d q
    rw [e1]; rfl
theorem e_dnotin (h : E K ty ds ms fun y ms1 => E K td ds ms1 fun s ms2 => ∃ m k, Dv ms2 (dd s) m ∧ dd y = .d (keyD k) ∧ R (.d (.bool (!(valD m k).isSome))) ms2) : E K (tDNotIn ty td) ds ms R := fun L M σ H hS hA Q q =>
  h L M σ H hS hA _ fun y z H1 ms1 w1 o1 h1 => h1 L M σ H1 (hS.mono hA w1) o1.at _ fun s x H2 ms2 w2 o2 ⟨m, k, dv, ey, r⟩ => by
    obtain ⟨a, kvs, rfl, e, rk⟩ := dv.go o2.at o2.sl
    have oz := o1.sl.mono o1.at w2
    rw [ey] at oz
    obtain ⟨o, g, eo⟩ := dget_o (s := s) (k := k) e rk
    have ez : z = kV k := Rp.key oz
    subst ez
    refine ⟨a, o, rfl, g, ?_⟩
    rw [eo]
    exact q (.d (.bool _)) _ H2 ms2 (w1.trans w2) ⟨o2.at, .bl _⟩ r
/-! ### targets that are places in dicts -/
def EGh (K : PySem.W.Frag) (g : TG) (x : SD) (ds : List SD) (ms : List MD) (N : List MD → Prop) : Prop :=
  ∀ (L M : List Addr) (σ : L2.St) (H : Hp) (v : V), Sl K L M σ H ds → At L M ms H → SlOk K L M H x v → ∀ C : L2.St → Hp → Prop, (∀ H' ms', Wk L H H' → At L M ms' H' → N ms' → C σ H') → g v σ H C
def EGhs (K : PySem.W.Frag) (g : TGs) (xs : List PyData) (ds : List SD) (ms : List MD) (N : List MD → Prop) : Prop :=
  ∀ (L M : List Addr) (σ : L2.St) (H : Hp) (vs : List V), Sl K L M σ H ds → At L M ms H → RpA M H vs xs → ∀ C : L2.St → Hp → Prop, (∀ H' ms', Wk L H H' → At L M ms' H' → N ms' → C σ H') → g vs σ H C
theorem egh_set {to ti : TE} {d : PyData} {N : List MD → Prop} (h : E K to ds ms fun s ms1 => ∃ k, s = .q k ∧ E K ti ds ms1 fun y ms2 => ∃ (key : Key) (m : List (Key × PyData)), dd y = .d (keyD key) ∧ ms2[k]? = some (.k (kD m)) ∧ m.length < 10000 ∧ N (ms2.set k (.k (kD (putD m key d))))) :
    EGh K (gSub to ti rSetD) (.d d) ds ms N := fun L M σ H v hS hA ho C c =>
  h L M σ H hS hA _ fun s x H1 ms1 w1 o1 ⟨k, ek, h1⟩ => h1 L M σ H1 (hS.mono hA w1) o1.at _ fun y z H2 ms2 w2 o2 ⟨key, m, ey, em, hl, hn⟩ => by
    subst ek
    obtain ⟨a1, p, rfl, hp, _⟩ := o1
    have a2 := o2.at
    have oz := o2.sl
    rw [ey] at oz
    obtain ⟨kvs, e1, r1⟩ := a2.getK hp em
    have rk := rk_of r1
    have hpL : p ∈ L := List.mem_of_getElem? hp
    have rv : Rp M H2 v d := Rp.to (hA.wk (w1.trans w2)) _ _ ho
    refine ⟨p, _, rfl, .inl ⟨kvs, key, e1, Rp.key oz, by rw [rk.length]; exact Nat.lt_trans hl (by decide), rfl⟩, ?_⟩
    exact c _ _ ((w1.trans w2).trans (Wk.mut hpL e1)) (a2.putK hp e1 (rk.put key rv).to) hn
theorem eghs_nil {N : List MD → Prop} (h : N ms) : EGhs K gNil [] ds ms N := fun L M σ H vs hS hA hr C c => by
  cases hr
  exact ⟨rfl, c H ms (Wk.refl L H) hA h⟩
theorem eghs_cons {g : TG} {gs : TGs} {x : PyData} {xs : List PyData} {N : List MD → Prop} (h : EGh K g (.d x) ds ms fun ms1 => EGhs K gs xs ds ms1 N) : EGhs K (gCons g gs) (x :: xs) ds ms N := fun L M σ H vs hS hA hr C c => by
  cases hr with
  | @cons v r _ _ r1 r2 =>
    refine ⟨v, r, rfl, ?_⟩
    refine h L M σ H v hS hA r1 _ fun H1 ms1 w1 a1 h1 => ?_
    exact h1 L M σ H1 r (hS.mono hA w1) a1 (RpA.to (hA.wk w1) _ _ r2) C fun H2 ms2 w2 a2 h2 => c H2 ms2 (w1.trans w2) a2 h2
theorem egh_tup {gs : TGs} {n : Nat} {xs : List PyData} {N : List MD → Prop} (hn : xs.length = n) (h : EGhs K gs xs ds ms N) : EGh K (gTup K n gs) (.d (.tuple xs)) ds ms N := fun L M σ H v hS hA ho C c => by
  obtain ⟨a, ys, rfl, e, r⟩ := Sv.tup (ms := ms) (K := K) (L := L) (.d (.tuple xs)) ho
  exact ⟨a, ys, rfl, SqT.of e, by rw [r.length]; exact hn, h L M σ H ys hS hA r C c⟩
theorem s_asgH {g : TG} (h : E K te ds ms fun s ms1 => EGh K g (dd s) ds ms1 fun ms2 => P.nx ds ms2) : S K (tAsg te g) ds ms P := fun L M σ H hS hA D n r b c =>
  h L M σ H hS hA _ fun s v H1 ms1 w o h1 => h1 L M σ H1 v (hS.mono hA w) o.at o.sl _ fun H2 ms2 w2 a2 h2 => n σ H2 ds ms2 (w.trans w2) (hS.mono hA (w.trans w2)) a2 h2
/-! ### new dicts -/
theorem e_dnewG (r : R (.g []) ms) : E K tDNewK ds ms R := fun L M σ H hS hA Q q p hp => q (.g []) _ _ ms (Wk.new hp) (out_newK hA (Wk.refl L H) hp .nil) r
theorem At.hide {p : Addr} {o : HO} (h : At L M ms H) (e : H p = none) (no : NTup o) : At L (M ++ [p]) ms (upd H p o) := by
  have t : To M (M ++ [p]) H (upd H p o) := to_new h e (Wk.new e)
  refine ⟨h.nd, fun q hq => List.mem_append_left _ (h.sub q hq), fun q hq => ?_, h.ln, fun k q m e1 e2 => ?_⟩
  · by_cases z : q = p
    · subst z; rw [upd_same]; exact ⟨_, rfl, no⟩
    · rw [upd_ne z]
      rcases List.mem_append.mp hq with y | y
      · exact h.al q y
      · exact absurd (by simpa using y) z
  · exact (h.ok k q m e1 e2).to t (upd_ne fun z => h.freshL e (z ▸ List.mem_of_getElem? e1))
theorem At.show {p : Addr} (h : At L (M ++ [p]) ms H) (sb : ∀ q ∈ L, q ∈ M) : At L M ms H :=
  ⟨h.nd, sb, fun q hq => h.al q (List.mem_append_left _ hq), h.ln, fun k q m e1 e2 => (h.ok k q m e1 e2).to to_less rfl⟩
theorem mut_hid {p : Addr} {o o0 : HO} {h : At L (M ++ [p]) ms H} (np : p ∉ L) (e0 : H p = some o0) (no : NTup o) : At L (M ++ [p]) ms (upd H p o) := by
  have t : To (M ++ [p]) (M ++ [p]) H (upd H p o) := fun a u n e => ⟨n, by rw [upd_ne (fun z : a = p => n (by rw [z]; simp))]; exact e⟩
  refine ⟨h.nd, h.sub, fun q hq => ?_, h.ln, fun k q m e1 e2 => (h.ok k q m e1 e2).to t (upd_ne fun z => np (z ▸ List.mem_of_getElem? e1))⟩
  by_cases z : q = p
  · subst z; rw [upd_same]; exact ⟨_, rfl, no⟩
  · rw [upd_ne z]; exact h.al q hq
/-- {k: v} -/
theorem e_disp1 (h : E K ta ds ms fun x ms1 => ∃ k, x = .d (keyD k) ∧ E K tb ds ms1 fun y ms2 => ∃ d, dd y = .d d ∧ R (.g [(keyD k, d)]) ms2) : E K (tDisp [(ta, tb)]) ds ms R := fun L M σ H hS hA Q q p hp => by
  have np := hA.freshL hp
  have a0 := hA.hide (o := .dK []) hp trivial
  have w0 : Wk L H (upd H p (.dK [])) := Wk.new hp
  have s0 : Sl K L (M ++ [p]) σ (upd H p (.dK [])) ds := hS.to (to_new hA hp w0) w0.kd fun _ _ e => e
  refine h L (M ++ [p]) σ _ s0 a0 _ fun x v1 H1 ms1 w1 o1 ⟨k, ex, h1⟩ => ?_
  subst ex
  have a1 := o1.at
  refine h1 L (M ++ [p]) σ H1 (s0.mono a0 w1) a1 _ fun y v2 H2 ms2 w2 o2 ⟨d, ey, r⟩ => ?_
  have a2 := o2.at
  have r2 := o2.sl
  rw [ey] at r2
  have r1 : Rp (M ++ [p]) H1 v1 (keyD k) := o1.2
  have e1 := Rp.key r1
  subst e1
  have ep : H2 p = some (.dK []) := w2 p _ np (w1 p _ np upd_same)
  refine ⟨ep, [(k, v2)], rfl, Nat.le_of_ble_eq_true rfl, ?_⟩
  have em : mergeK [] [(k, v2)] = [(k, v2)] := rfl
  rw [em]
  have sb := hA.sub
  have a3 : At L (M ++ [p]) ms2 (upd H2 p (.dK [(k, v2)])) := mut_hid (h := a2) np ep trivial
  have w3 : Wk L H (upd H2 p (.dK [(k, v2)])) := Wk.over ((w0.trans w1).trans w2) hp
  have t3 : To (M ++ [p]) (M ++ [p]) H2 (upd H2 p (.dK [(k, v2)])) := fun a u n e => ⟨n, by rw [upd_ne (fun z : a = p => n (by rw [z]; simp))]; exact e⟩
  refine q (.g [(keyD k, d)]) _ _ ms2 w3 ⟨p, rfl, hp, hA.fresh hp, ?_, sb⟩ r
  refine ⟨List.nodup_append.mpr ⟨hA.nd, by simp, fun a ha b hb e => np (by simp at hb; subst hb e; exact ha)⟩, ?_, a3.al, by simp [a3.ln], fun j c m e1 e2 => ?_⟩
  · intro z hz
    rcases List.mem_append.mp hz with y | y
    · exact List.mem_append_left _ (sb z y)
    · exact List.mem_append_right _ y
  · by_cases hj : j < L.length
    · rw [List.getElem?_append_left hj] at e1
      rw [List.getElem?_append_left (by rw [← a3.ln]; exact hj)] at e2
      exact (a3.ok j c m e1 e2).toL (fun a o n e => ⟨n, e⟩) (fun k' q' _ z => by rw [List.getElem?_append_left (List.getElem?_eq_some_iff.mp z).1]; exact z) rfl
    · have hk2 : j = L.length := by
        have := (List.getElem?_eq_some_iff.mp e1).1
        simp at this
        omega
      subst hk2
      simp at e1
      subst e1
      rw [a3.ln] at e2
      simp at e2
      subst e2
      exact ⟨_, upd_same, .cons (Rp.to t3 _ _ r2) .nil⟩
/-! ### a new dict that may change, until the block's end -/
def frzSK (n : Nat) (es : List (PyData × PyData)) : SD → SD
  | .q k => if k = n then .d (.dict es) else .q k
  | s => s
def frzRK (n : Nat) (es : List (PyData × PyData)) : SD → SD
  | .q k => if k = n then .g es else .q k
  | s => s
def Po.frzK (P : Po) (n : Nat) : Po where
  nx := fun ds' ms' => ∃ ms1 es, ms' = ms1 ++ [.k es] ∧ ms1.length = n ∧ P.nx (ds'.map (frzSK n es)) ms1
  rt := fun s ms' => ∃ ms1 es, ms' = ms1 ++ [.k es] ∧ ms1.length = n ∧ P.rt (frzRK n es s) ms1
  bk := fun ds' ms' => ∃ ms1 es, ms' = ms1 ++ [.k es] ∧ ms1.length = n ∧ P.bk (ds'.map (frzSK n es)) ms1
  ct := fun ds' ms' => ∃ ms1 es, ms' = ms1 ++ [.k es] ∧ ms1.length = n ∧ P.ct (ds'.map (frzSK n es)) ms1
section
variable {p : Addr} {H0 H1 : Hp} {ms1 : List MD} {es : List (PyData × PyData)}
theorem SlOk.frzK {s : SD} {v : V} (a : At (L ++ [p]) (M ++ [p]) (ms1 ++ [.k es]) H) (np : p ∉ M) (h : SlOk K (L ++ [p]) (M ++ [p]) H s v) : SlOk K L M H (frzSK ms1.length es s) v := by
  have hl : L.length = ms1.length := by have := a.ln; simp at this; exact this
  cases s with
  | u => exact h
  | f _ => exact h
  | g _ => exact h
  | d x => exact Rp.to to_less _ _ h
  | v x => exact h
  | w φ => exact ⟨h.2 _ _ _ _ _ to_less h.1, h.2⟩
  | h φ =>
    obtain ⟨b, e, n, q⟩ := h
    exact ⟨b, e, fun z => n (List.mem_append_left _ z), q⟩
  | s ns =>
    obtain ⟨b, e, ⟨n, q⟩ | q⟩ := h
    · exact ⟨b, e, .inl ⟨fun z => n (List.mem_append_left _ z), q⟩⟩
    · exact ⟨b, e, .inr q⟩
  | m k =>
    obtain ⟨q, rfl, hq, kvs, hls⟩ := h
    have hk : k < L.length := by
      have h1 := (List.getElem?_eq_some_iff.mp hq).1
      rw [List.length_append] at h1
      have h2 : k ≠ L.length := fun z => by
        subst z
        simp at hq
        subst hq
        obtain ⟨xs, e1, _⟩ := a.lastK
        rw [hls] at e1
        cases e1
      have h3 : k < L.length + 1 := h1
      omega
    rw [List.getElem?_append_left hk] at hq
    exact ⟨q, rfl, hq, kvs, hls⟩
  | q k =>
    obtain ⟨q, rfl, hq, hls⟩ := h
    show SlOk K L M H (if k = ms1.length then .d (.dict es) else .q k) _
    by_cases hk : k = ms1.length
    · rw [if_pos hk]
      subst hk
      rw [← hl] at hq
      simp at hq
      subst hq
      obtain ⟨xs, e1, r⟩ := a.lastK
      exact .dct np e1 (r.toP to_less)
    · rw [if_neg hk]
      have : k < L.length := by
        have := (List.getElem?_eq_some_iff.mp hq).1
        simp at this
        omega
      rw [List.getElem?_append_left this] at hq
      exact ⟨q, rfl, hq, hls⟩
theorem Sl.frzK {σ : L2.St} (a : At (L ++ [p]) (M ++ [p]) (ms1 ++ [.k es]) H) (np : p ∉ M) (h : Sl K (L ++ [p]) (M ++ [p]) σ H ds) : Sl K L M σ H (ds.map (frzSK ms1.length es)) := fun i s e => by
  rw [List.getElem?_map] at e
  cases q : ds[i]? with
  | none => rw [q] at e; cases e
  | some s0 =>
    rw [q] at e
    have e' : frzSK ms1.length es s0 = s := Option.some.inj e
    by_cases hu : s0 = .u
    · subst hu
      subst e'
      exact h i .u q
    · obtain ⟨v, e1, e2⟩ := h.get q hu
      have z := e2.frzK a np
      rw [e'] at z
      cases s with
      | u => exact z.elim
      | f _ => exact z.elim
      | g _ => exact z.elim
      | d x => exact ⟨v, e1, z⟩
      | m k => exact ⟨v, e1, z⟩
      | q k => exact ⟨v, e1, z⟩
      | s ns => exact ⟨v, e1, z⟩
      | v x => exact ⟨v, e1, z⟩
      | h φ => exact ⟨v, e1, z⟩
      | w φ => exact ⟨v, e1, z⟩
theorem Out.frzK {v : V} {s : SD} (hp0 : H0 p = none) (a : At (L ++ [p]) (M ++ [p]) (ms1 ++ [.k es]) H) (w0 : ∀ q, q ∉ M → q ≠ p → H1 q = none → H0 q = none) (np : p ∉ M) (sb : ∀ x ∈ L, x ∈ M) (h : Out K (L ++ [p]) (M ++ [p]) H1 H (ms1 ++ [.k es]) v s) : Out K L M H0 H ms1 v (frzRK ms1.length es s) := by
  have ad := a.drop sb
  cases s with
  | u => exact h.2.elim
  | d x => exact ⟨ad, Rp.to to_less _ _ h.2⟩
  | s ns => exact ⟨ad, SlOk.frzK (s := .s ns) a np h.2⟩
  | v x => exact ⟨ad, h.2⟩
  | h φ => exact ⟨ad, SlOk.frzK (s := .h φ) a np h.2⟩
  | w φ => exact ⟨ad, SlOk.frzK (s := .w φ) a np h.2⟩
  | f fs =>
    obtain ⟨q, rfl, hq, nq, aq, _⟩ := h
    have nqM : q ∉ M := fun z => nq (List.mem_append_left _ z)
    have nqp : q ≠ p := fun z => nq (List.mem_append_right _ (by simp [z]))
    exact ⟨q, rfl, w0 q nqM nqp hq, nqM, At.dropMid rfl aq sb, sb⟩
  | g fs =>
    obtain ⟨q, rfl, hq, nq, aq, _⟩ := h
    have nqM : q ∉ M := fun z => nq (List.mem_append_left _ z)
    have nqp : q ≠ p := fun z => nq (List.mem_append_right _ (by simp [z]))
    exact ⟨q, rfl, w0 q nqM nqp hq, nqM, At.dropMid rfl aq sb, sb⟩
  | m k => exact ⟨ad, SlOk.frzK (s := .m k) a np h.2⟩
  | q k =>
    have hl : L.length = ms1.length := by have := a.ln; simp at this; exact this
    obtain ⟨_, q, rfl, hq, hls⟩ := h
    show Out K L M H0 H ms1 _ (if k = ms1.length then .g es else .q k)
    by_cases hk : k = ms1.length
    · rw [if_pos hk]
      subst hk
      rw [← hl] at hq
      simp at hq
      subst hq
      exact ⟨p, rfl, hp0, np, a, sb⟩
    · rw [if_neg hk]
      have : k < L.length := by
        have := (List.getElem?_eq_some_iff.mp hq).1
        simp at this
        omega
      rw [List.getElem?_append_left this] at hq
      exact ⟨ad, q, rfl, hq, hls⟩
end
theorem s_newD {i : Nat} (h : E K te ds ms fun s ms1 => ∃ es, s = .g es ∧ S K u (ds.set i (.q ms1.length)) (ms1 ++ [.k es]) (P.frzK ms1.length)) : S K (tSeq (tAsg te (gName i)) u) ds ms P := fun L M σ H hS hA D n r b c =>
  h L M σ H hS hA _ fun s v H1 ms1 w o ⟨es, e, h1⟩ => by
    subst e
    obtain ⟨p, rfl, hp, np, a1, sb⟩ := o
    have hl : L.length = ms1.length := by have := a1.ln; simp at this; exact this
    have npL : p ∉ L := fun z => np (hA.sub p z)
    have t : To M (M ++ [p]) H H1 := to_new hA hp w
    have hS1 : Sl K (L ++ [p]) (M ++ [p]) (σ.set i (some (.ref p))) H1 (ds.set i (.q ms1.length)) := by
      refine (hS.to t w.kd fun k q e => ?_).set i ⟨p, rfl, by rw [← hl]; simp, let ⟨xs, e, _⟩ := a1.lastK; ⟨_, e, .inl rfl⟩⟩
      rw [List.getElem?_append_left (List.getElem?_eq_some_iff.mp e).1]
      exact e
    have wk : ∀ {H2 : Hp}, Wk (L ++ [p]) H1 H2 → Wk L H H2 := fun {H2} w2 => ⟨fun x y nx ex => w2 x y (fun z => (List.mem_append.mp z).elim nx fun z => ne_of_none ex hp (by simpa using z)) (w x y nx ex), fun x y ex => by
      obtain ⟨o1, f1, k1⟩ := w.kd x y ex
      obtain ⟨o2, f2, k2⟩ := w2.kd x o1 f1
      exact ⟨o2, f2, k2.trans k1⟩⟩
    have go : ∀ {N : List SD → List MD → Prop} {C : L2.St → Hp → Prop}, Nx K L M H N C → Nx K (L ++ [p]) (M ++ [p]) H1 (fun ds' ms' => ∃ ms1' es, ms' = ms1' ++ [.k es] ∧ ms1'.length = ms1.length ∧ N (ds'.map (frzSK ms1.length es)) ms1') C := by
      intro N C nn σ2 H2 ds2 ms2 w2 s2 a2 ⟨ms3, es3, e3, l3, n3⟩
      subst e3
      rw [← l3] at n3
      exact nn σ2 H2 _ ms3 (wk w2) (s2.frzK a2 np) (a2.drop sb) n3
    refine h1 (L ++ [p]) (M ++ [p]) _ H1 hS1 a1 D (go n) ?_ (go b) (go c)
    intro s2 v2 H2 ms2 w2 o2 ⟨ms3, es3, e3, l3, n3⟩
    subst e3
    rw [← l3] at n3
    refine r _ v2 H2 ms3 (wk w2) ?_ n3
    refine Out.frzK hp o2.at (fun q hq hqp hq1 => ?_) np sb o2
    cases e : H q with
    | none => rfl
    | some oo => rw [w q oo (fun z => hq (hA.sub q z)) e] at hq1; cases hq1
/-- a, b, c = {}, {}, {} -/
theorem s_par3D {i j l : Nat} (h : S K (tSeq (tAsg tDNewK (gName i)) (tSeq (tAsg tDNewK (gName j)) (tSeq (tAsg tDNewK (gName l)) u))) ds ms P) : S K (tSeq (tPar3 i j l (tCons tDNewK (tCons tDNewK (tCons tDNewK tNil)))) u) ds ms P := fun L M σ H hS hA D n r b c p1 h1 p2 h2 p3 h3 =>
  ⟨_, _, _, rfl, h L M σ H hS hA D n r b c p1 h1 p2 h2 p3 h3⟩
/-! ### for k, v in (a new dict).items() -/
/-- a new dict, locked as soon as it is there -/
def tLkN (td : TE) : TE := fun σ H Q => td σ H fun x H1 => ∃ d kvs, x = .ref d ∧ H1 d = some (.dK kvs) ∧ ∀ o, Q x (upd H1 d (.frz o (.dK kvs)))
theorem pe_lkN {X : Cx} {e : Expr} (he : PE X e td) : PE X e (tLkN td) := ⟨fun pins s σ H Q I h => thn (he.run pins s σ H _ I h) fun u s1 hu => by
  obtain ⟨x, H1, I1, rx, d, kvs, ex, hd, q⟩ := hu
  obtain ⟨o, I0⟩ := I1.lock hd True.intro
  exact ⟨x, _, I0, rx, q o⟩⟩
theorem s_forD {g : TG} {js : List Nat} (h : E K tl ds ms fun s ms0 => ∃ m : List (Key × PyData), s = .g (kD m) ∧ ∃ Pv : Nat → List SD → List MD → Prop, Pv 0 ds ms0 ∧
      (∀ i k e ds1 ms1, m[i]? = some (k, e) → Pv i ds1 ms1 → EG K g js (.d (.tuple [keyD k, e])) ds1 ms1 fun ds2 ms2 => S K t ds2 ms2 ⟨Pv (i + 1), fun _ _ => False, P.nx, Pv (i + 1)⟩) ∧ ∀ ds1 ms1, Pv m.length ds1 ms1 → P.nx ds1 ms1) :
    S K (tFor (iItems (tLkN tl)) g t) ds ms P := fun L M σ H hS hA D n r b c =>
  h L M σ H hS hA _ fun s v H1 ms0 w o ⟨m, es, Pv, h0, hs, hd⟩ => by
    subst es
    obtain ⟨p, rfl, hp, np, a1, sb⟩ := o
    obtain ⟨kvs, e1, r1⟩ := a1.lastK
    have npL : p ∉ L := fun z => np (hA.sub p z)
    have rk := rk_of r1
    refine ⟨p, kvs, rfl, e1, fun o => ⟨p, o, kvs, rfl, upd_same, ?_⟩⟩
    have tH : To (M ++ [p]) (M ++ [p]) H1 (upd H1 p (.frz o (.dK kvs))) := fun a u n e => ⟨n, by rw [upd_ne (fun z : a = p => n (by rw [z]; simp))]; exact e⟩
    have ln0 : L.length = ms0.length := by have := a1.ln; simp at this; exact this
    have a2 : At L (M ++ [p]) ms0 (upd H1 p (.frz o (.dK kvs))) := by
      refine ⟨(List.nodup_append.mp a1.nd).1, fun q hq => List.mem_append_left _ (sb q hq), fun q hq => ?_, ln0, fun k q x f1 f2 => ?_⟩
      · by_cases z : q = p
        · subst z; rw [upd_same]; exact ⟨_, rfl, trivial⟩
        · rw [upd_ne z]; exact a1.al q hq
      · have hk : k < L.length := (List.getElem?_eq_some_iff.mp f1).1
        have hq : q ≠ p := fun z => npL (z ▸ List.mem_of_getElem? f1)
        exact (a1.ok k q x (by rw [List.getElem?_append_left hk]; exact f1) (by rw [List.getElem?_append_left (by omega)]; exact f2)).toL tH (fun k' q' hlt z => by rw [List.getElem?_append_left (by omega)] at z; exact z) (upd_ne hq)
    have w2 : Wk L H (upd H1 p (.frz o (.dK kvs))) := w.over hp
    have s2 : Sl K L (M ++ [p]) σ (upd H1 p (.frz o (.dK kvs))) ds := hS.to (to_new hA hp w2) w2.kd fun _ _ e => e
    have lk : ∀ {H' : Hp}, Wk L (upd H1 p (.frz o (.dK kvs))) H' → H' p = some (.frz o (.dK kvs)) := fun w' => w' p _ npL upd_same
    have out : ∀ {N : List SD → List MD → Prop} {C : L2.St → Hp → Prop}, Nx K L M H N C → ∀ {H' : Hp}, Wk L (upd H1 p (.frz o (.dK kvs))) H' → Nx K L (M ++ [p]) H' N C := fun nn H' w' σ3 H3 ds3 ms3 w3 s3 a3 p3 =>
      nn σ3 H3 ds3 ms3 ((w2.trans w').trans w3) (s3.to to_less (fun a o e => ⟨o, e, rfl⟩) fun _ _ e => e) (a3.show sb) p3
    refine for_it walk_items (fun i σ' H' => ∃ ds' ms', Wk L (upd H1 p (.frz o (.dK kvs))) H' ∧ Sl K L (M ++ [p]) σ' H' ds' ∧ At L (M ++ [p]) ms' H' ∧ Pv i ds' ms') ⟨ds, ms0, Wk.refl L _, s2, a2, h0⟩ (fun i σ' H' _ ⟨_, _, w', _⟩ => lk w') (fun i x σ' H' H2 hi ⟨ds', ms', w', s', a', p'⟩ y => ?_) (fun σ' H' ⟨ds', ms', w', s', a', p'⟩ => ?_)
    · obtain ⟨N, c1, y1, rfl, hN, rfl, q1, q2⟩ := y
      simp only [] at q1 q2
      cases qk : kvs[i]? with
      | none => rw [qk] at q1; cases q1
      | some kv =>
        obtain ⟨k, v⟩ := kv
        rw [qk] at q1 q2
        cases q1
        cases q2
        obtain ⟨e, f1, f2⟩ := rk.get' qk
        have w4 : Wk L H' (upd H' N (.tup [kV k, v])) := Wk.new hN
        have a4 := a'.new (o := .tup [kV k, v]) hN
        have w3 := w'.trans w4
        refine hs i k e ds' ms' f1 p' L (M ++ [p]) σ' _ (.ref N) (s'.mono a' w4) a4 (Rp.tup (a'.fresh hN) upd_same (.cons (rp_key k) (.cons (Rp.to (fun a o n e => ?_) _ _ f2) .nil))) _ fun σ2 ds2 s2 _ h2 => ?_
        · exact ⟨n, w3 a o (fun z => n (List.mem_append_left _ (sb a z))) (tH a o n e).2⟩
        · exact h2 L (M ++ [p]) σ2 _ s2 a4 _ (fun σ3 H3 ds3 ms3 w5 s3 a3 p3 => ⟨ds3, ms3, w3.trans w5, s3, a3, p3⟩) (fun _ _ _ _ _ _ z => z.elim) (out n w3) (fun σ3 H3 ds3 ms3 w5 s3 a3 p3 => ⟨ds3, ms3, w3.trans w5, s3, a3, p3⟩)
    · rw [rk.length] at p'
      exact out n w' σ' H' ds' ms' (Wk.refl L H') s' a' (hd ds' ms' p')
end
end Hc

namespace Hc
open PySem PySem.Spec PyProof.Rows L2
/-! ### min(xs, key=len), of a list of tuples -/
abbrev lenV : Value := .builtin "len"
section
variable {prog : Program} {w : World} {A : Around} {E : Value → Shared → Prop} {s : Shared} {l I S : Addr} {vs : List Value} {R : Result → Shared → Prop} {Q : Value → Shared → Prop}
/-- the lengths of the tuples in vs -/
def Lens (h0 : Heap) (vs : List Value) (kf : Nat → Int) : Prop := ∀ (i : Nat) (v : Value), vs[i]? = some v → ∃ b its, v = .ref b ∧ IsTup h0 b its ∧ (its.size : Int) < 2 ^ 63 ∧ kf i = its.size
end
/-- min(e, key=len) -/
def tMinL (K : PySem.W.Frag) (ta : TA) : TE := fun σ H Q => ta σ H fun vs H1 => ∃ (a : Addr) (xs : List V), vs = [.ref a] ∧ SqL K H1 a xs ∧ 0 < xs.length ∧ (∀ v ∈ xs, ∃ b ys, v = .ref b ∧ SqT K H1 b ys) ∧ ∀ v ∈ xs, Q v H1
theorem lens_of {X : Cx} {pins : List (Addr × Obj)} {σ : L2.St} {H : Hp} {s : Shared} {xs : List V} {its : List Value} (I : Inv X pins σ H s) (rv : Vals xs its) (tu : ∀ v ∈ xs, ∃ b ys, v = .ref b ∧ SqT X.K H b ys) : ∃ kf, Lens s.heap its kf := by
  have : ∀ i : Nat, ∃ k : Int, ∀ v, its[i]? = some v → ∃ b tt, v = .ref b ∧ IsTup s.heap b tt ∧ (tt.size : Int) < 2 ^ 63 ∧ k = tt.size := fun i => by
    cases e : its[i]? with
    | none => exact ⟨0, fun v z => by cases z⟩
    | some u =>
      have hl := rv.length
      have hi := (List.getElem?_eq_some_iff.mp e).1
      obtain ⟨u2, h1, h2⟩ := rv.get (List.getElem?_eq_getElem (l := xs) (i := i) (by omega))
      rw [e] at h1
      cases h1
      obtain ⟨b, ys, eb, sq⟩ := tu _ (List.getElem_mem (l := xs) (n := i) (by omega))
      rw [eb] at h2
      cases h2
      obtain ⟨tt, r2, tp, z2⟩ := I.tuple sq
      refine ⟨(tt.toArray.size : Int), fun v z => ⟨b, tt.toArray, (Option.some.inj z).symm, tp, ?_, rfl⟩⟩
      have hn := line63
      have := r2.length
      simp only [List.size_toArray]
      omega
  obtain ⟨kf, hk⟩ := Classical.axiomOfChoice this
  exact ⟨kf, fun i v z => hk i v z⟩
/-- all that lies in a heap, apart from the ground and one namespace -/
def others (g : Heap) (L : Addr) (h : Heap) : List (Addr × Obj) := (List.range h.objs.size).filterMap fun b => if b = L ∨ (g.get? b).isSome = true then none else (h.get? b).map (Prod.mk b)
theorem others_mem {g h : Heap} {L b : Addr} {o : Obj} : (b, o) ∈ others g L h ↔ b ≠ L ∧ g.get? b = none ∧ h.get? b = some o := by
  unfold others
  rw [List.mem_filterMap]
  constructor
  · rintro ⟨c, _, e⟩
    by_cases z : c = L ∨ (g.get? c).isSome = true
    · rw [if_pos z] at e; cases e
    · rw [if_neg z] at e
      obtain ⟨o', e1, e2⟩ := Option.map_eq_some_iff.mp e
      cases e2
      exact ⟨fun y => z (.inl y), by simpa using fun y => z (.inr y), e1⟩
  · rintro ⟨n1, n2, e⟩
    refine ⟨b, List.mem_range.mpr (Heap.lt_size e), ?_⟩
    rw [if_neg (fun y => y.elim n1 fun y => by rw [n2] at y; cases y), e]
    rfl
theorem min_len {X : Cx} {pins : List (Addr × Obj)} {σ : L2.St} {H : Hp} {s : Shared} {l : Addr} {vs : List Value} {kf : Nat → Int} {Q E : Value → Shared → Prop} (I : Inv X pins σ H s) (hc : X.A.handled = none) (hl : s.heap.IsList l vs.toArray) (hne : 0 < vs.length) (hL : Lens s.heap vs kf)
    (hQ : ∀ (i : Nat) (v : Value) (h' : Heap) (tk' : Nat), vs[i]? = some v → Inv X pins σ H { s with heap := h', toks := tk' } → Q v { s with heap := h', toks := tk' }) :
    wpAny (model X.prog X.w) X.A (call (.builtin "min") [.ref l] [(Str.ofString "key", lenV)]) Q E s := by
  obtain ⟨m, F⟩ := I.fr
  have fL := F.ns
  obtain ⟨oL, esL, epL, gL, dL, skL, fdL⟩ := id fL
  have all : ∀ (h : Heap) (own : List (Addr × Obj)), Fr X.base X.env.locals h m → News X.base X.env.locals h (others X.base X.env.locals s.heap ++ own) → ∀ b o, b ≠ X.env.locals → s.heap.get? b = some o → h.get? b = some o := fun h own f n b o nb e => by
    cases q : X.base.get? b with
    | none => exact (n (b, o) (List.mem_append_left _ (others_mem.mpr ⟨nb, q, e⟩))).1
    | some o' =>
      have e2 := I.bk b o' q
      rw [e] at e2
      cases e2
      exact f.keep b o q
  have notL : ∀ b o, s.heap.get? b = some o → (∃ xs n, o.data = .seq xs n) → b ≠ X.env.locals := fun b o e ⟨xs, n, d⟩ z => by
    subst z
    rw [gL] at e
    cases e
    rw [dL] at d
    cases d
  refine kmb_min (L := X.env.locals) (news := others X.base X.env.locals s.heap) kf hc F (fun p hp => ?_) (fun h f n => ?_) hne (fun i v hv h tk own f n => ?_) (fun i v h' tk' hv _ f n => hQ i v h' tk' hv ?_)
  · obtain ⟨z1, z2, z3⟩ := others_mem.mp (show (p.1, p.2) ∈ _ from hp)
    exact ⟨z3, z1, z2⟩
  · obtain ⟨o, e, c, d⟩ := hl
    exact ⟨o, all h [] f (by rw [List.append_nil]; exact n) l o (notL l o e ⟨_, d⟩) e, c, d⟩
  · obtain ⟨b, its, rfl, ⟨o, e, c, d⟩, hz, ek⟩ := hL i v hv
    refine PyProof.Rows.len_tuple (s := { s with heap := h, toks := tk }) (t := b) (items := its) ⟨o, all h own f n b o (notL b o e ⟨_, d⟩) e, c, d⟩ hz ?_
    rw [← ek]
    exact ⟨h, _, _, rfl, rfl, f, n⟩
  · have al := all h' [] f (by rw [List.append_nil]; exact n)
    have nL : ∀ b u, H b = some u → b ≠ X.env.locals := fun b u e z => by
      rw [z, I.free] at e
      cases e
    have there : ∀ b o, s.heap.get? b = some o → ∃ o', h'.get? b = some o' := fun b o e => by
      by_cases z : b = X.env.locals
      · obtain ⟨o', _, _, e', _⟩ := f.ns
        exact ⟨o', by rw [z]; exact e'⟩
      · exact ⟨o, al b o z e⟩
    refine I.step (ch := []) (g' := s.gens) (d' := s.drawn) (fun _ z => by cases z) (fun b o nb _ _ e _ => al b o nb e) (fun b o nb _ _ e _ => ⟨o.slots, al b o nb e⟩) (fun _ _ _ _ z => z) (fun b o _ e => there b o e) (fun _ _ z => z) (fun _ _ _ z => z) (fun b ps e => ⟨#[], by simpa using e⟩) (fun m' hm => ?_) (fun b u e => ?_) I.bare
    · have em : m' = m := funext fun x => by
        obtain ⟨o1, es1, ep1, g1, d1, _, f1⟩ := hm
        rw [gL] at g1
        cases g1
        rw [dL] at d1
        cases d1
        rw [← f1, fdL]
      rw [em]
      exact f.ns
    · refine (I.hok b u e).stay (fun c v hcv q => al c v ?_ q) (fun _ z => z) (fun _ _ z => z)
      rcases hcv with z | z
      · rw [z]; exact nL b u e
      · exact nL c _ z
theorem pe_minL {X : Cx} {ex : Expr} {ta : TA} {p pos kpos np : Pos} (hc : X.calm = true) (hg : Gl X "min") (hm : X.mg "min" = none) (hg2 : Gl X "len") (hm2 : X.mg "len" = none) (ha : PA X [ex] ta)
    (he : backTo pos (starEach [ex] X.env) = (false, eval ex X.env) :: backTo pos (starEach [] X.env) := by rfl) (hpl : (backTo pos (starEach [ex] X.env)).any (·.1) = false := by rfl) :
    PE X (.Call (.Name "min" p) [ex] [⟨some "key", .Name "len" np, kpos⟩] pos) (tMinL X.K ta) := by
  refine ⟨fun pins s σ H Q I h => ?_⟩
  refine wpAny_Call_Name_kw (ld_blt I hg hm (u := .builtin "min") (by decide +kernel) ?_)
  refine PyProof.Rows.callWith_kw (thn (ha.run pos pins s σ H _ I h) fun us s1 ⟨vs, H1, I1, r1, a, xs, ev, sq, hne, tu, q⟩ => ?_) he hpl
  subst ev
  obtain rfl := Vals.ref1 r1
  show wpAny _ _ (evalAll ((do let v ← eval (.Name "len" np) X.env; standAt pos; pure v) :: [])) _ _ s1
  refine wpAny_evalAll_cons (wpAny_bind (ld_blt I1 hg2 hm2 (u := .builtin "len") (by decide +kernel) (wpAny_bind (wpAny_standAt (wpAny_pure ?_)))))
  refine wpAny_evalAll_nil ?_
  show wpAny _ _ (call (.builtin "min") [.ref a] [(Str.ofString "key", lenV)]) _ _ s1
  obtain ⟨its, rv, pl, hz⟩ := I1.list sq
  obtain ⟨kf, hL⟩ := lens_of I1 rv tu
  have hl := rv.length
  refine min_len I1 (I1.ok.hd hc) pl.isList (by omega) hL fun i v h' tk' hv I2 => ?_
  have hi := (List.getElem?_eq_some_iff.mp hv).1
  have hx : xs[i]? = some (xs[i]'(by omega)) := List.getElem?_eq_getElem (by omega)
  obtain ⟨v2, e2, r2⟩ := rv.get hx
  rw [hv] at e2
  cases e2
  exact ⟨_, H1, I2, r2, q _ (List.getElem_mem (by omega))⟩
section
variable {K : PySem.W.Frag} {ms : List MD} {tA : TA} {ds : List SD} {R : RS}
theorem e_minL (h : EA K tA ds ms fun as ms1 => ∃ es : List PyData, (∃ s, as = [s] ∧ Sv ms1 s (.list es)) ∧ 0 < es.length ∧ (∀ e ∈ es, ∃ ys, e = .tuple ys) ∧ ∀ e ∈ es, R (.d e) ms1) : E K (tMinL K tA) ds ms R := fun L M σ H hS hA Q q =>
  h L M σ H hS hA _ fun as vs H1 ms1 w a1 o ⟨es, ⟨s, ea, sv⟩, hne, tu, r⟩ => by
    subst ea
    obtain ⟨v, t, rfl, hv, rfl⟩ := o
    obtain ⟨p, xs, rfl, hq, hr⟩ := sv.lst a1 hv
    have hl := hr.length
    refine ⟨p, xs, rfl, hq, by omega, fun v hv => ?_, fun v hv => ?_⟩
    · obtain ⟨i, hi, e⟩ := List.getElem_of_mem hv
      obtain ⟨d, h1, h2⟩ := hr.get' (List.getElem?_eq_getElem hi)
      rw [e] at h2
      obtain ⟨ys, rfl⟩ := tu d (List.mem_of_getElem? h1)
      cases h2 with
      | tup n e1 r => exact ⟨_, _, rfl, SqT.of e1⟩
    · obtain ⟨i, hi, e⟩ := List.getElem_of_mem hv
      obtain ⟨d, h1, h2⟩ := hr.get' (List.getElem?_eq_getElem hi)
      rw [e] at h2
      exact q (.d d) v H1 ms1 w ⟨a1, h2⟩ (r d (List.mem_of_getElem? h1))
end
section
variable {K : PySem.W.Frag} {ms : List MD} {te : TE} {ds : List SD} {P : Po}
theorem u1 {k : Nat} {A : Around} (h : Room k A) : A.units + 1 < cLine := by
  have := h.un
  omega
/-- x += e, of ints -/
theorem s_augI {i : Nat} {f : Int → Int → Int} {a : Int} (hi : ds[i]? = some (.d (.int a))) (h : E K te ds ms fun s ms1 => ∃ b, s = .d (.int b) ∧ P.nx (ds.set i (.d (.int (f a b)))) ms1) : S K (tAug i te (ipI f)) ds ms P := fun L M σ H hS hA D n r b c => by
  obtain ⟨v, e, o⟩ := hS.get hi (fun z => nomatch z)
  have o' : Rp M H v (.int a) := o
  cases o'
  refine ⟨_, e, h L M σ H hS hA _ fun s v H1 ms1 w o1 ⟨bb, es, h1⟩ => ?_⟩
  subst es
  obtain ⟨a1, z⟩ := o1
  cases z
  exact ⟨a, bb, rfl, rfl, n _ H1 _ ms1 w ((hS.mono hA w).set i (s := .d (.int (f a bb))) (Rp.int _)) a1 h1⟩
/-- t + u of tuples, either may be empty -/
theorem rr_catA {R : RS} {a b : SD} (h : ∃ es fs, a = .d (.tuple es) ∧ b = .d (.tuple fs) ∧ es.length + fs.length ≤ 10000 ∧ R (.d (.tuple (es ++ fs))) ms) : RR K (rCatA K) a b ms R := fun L M H x y hA ha hb Q q => by
  obtain ⟨es, fs, rfl, rfl, hz, r⟩ := h
  have ha2 : Rp M H x (.tuple es) := ha
  have hb2 : Rp M H y (.tuple fs) := hb
  cases ha2 with
  | @tup p xs _ np ep rp =>
    cases hb2 with
    | @tup p2 ys _ np2 ep2 rp2 =>
      refine ⟨p, p2, xs, ys, rfl, rfl, SqT.of ep, SqT.of ep2, by rw [rp.length, rp2.length]; exact Nat.le_trans hz (by decide), fun z => ?_, fun _ z => ?_, fun _ z l hl => ?_⟩
      · subst z
        cases rp
        exact q (.d (.tuple fs)) _ H ms (Wk.refl L H) ⟨hA, hb⟩ r
      · subst z
        cases rp2
        rw [List.append_nil] at r
        exact q (.d (.tuple es)) _ H ms (Wk.refl L H) ⟨hA, ha⟩ r
      · exact q (.d (.tuple (es ++ fs))) _ _ ms (Wk.new hl) ⟨hA.new hl, .tup (hA.fresh hl) upd_same (RpA.to (hA.wk (Wk.new hl)) _ _ (rp.append rp2))⟩ r
end
end Hc

namespace Hc
open PySem PySem.Spec PyProof.Rows L2
/-! ### zip(t, u, v) of three tuples -/
structure Apt3 (z t o c d f a b e : Addr) : Prop where
  sep : PySem.ZipSep3 z t o c d f [c, a] [d, b] [f, e]
  ac : a ≠ c
  bd : b ≠ d
  ef : e ≠ f
section
variable {K : PySem.W.Frag} {tA : TA} {ds : List SD} {ms : List MD} {R : RS} {t u : TS} {P : Po}
end
end Hc

namespace Hc
open PySem PySem.Spec PyProof.Rows L2
/-! ### t[::-1] of a tuple -/
section
variable {prog : Program} {w : World} {s : Shared} {A : Around} {E : Value → Shared → Prop}
/-! ### sorted(t) of a tuple of ints -/
end
section
variable {K : PySem.W.Frag} {te ta tb : TE} {ds : List SD} {ms : List MD} {R : RS}
end
end Hc

namespace Hc
open PySem PySem.Spec PyProof.Rows L2
/-! ### [e for x in xs for y in t] -/
structure Stays (M : List Addr) (H H' : Hp) : Prop where
  t : To M M H H'
  kd : ∀ a o, H a = some o → ∃ o', H' a = some o' ∧ kindO o' = kindO o
theorem Stays.refl (M : List Addr) (H : Hp) : Stays M H H := ⟨fun _ _ n e => ⟨n, e⟩, fun _ o e => ⟨o, e, rfl⟩⟩
theorem Stays.trans {M : List Addr} {H H1 H2 : Hp} (a : Stays M H H1) (b : Stays M H1 H2) : Stays M H H2 := ⟨fun x o n e => b.t x o n (a.t x o n e).2, fun x o e => by
  obtain ⟨o1, e1, k1⟩ := a.kd x o e
  obtain ⟨o2, e2, k2⟩ := b.kd x o1 e1
  exact ⟨o2, e2, k2.trans k1⟩⟩
theorem Stays.wk {L M : List Addr} {ms : List MD} {H H' : Hp} (a : At L M ms H) (w : Wk L H H') : Stays M H H' := ⟨a.wk w, w.kd⟩
theorem Stays.upd {M : List Addr} {H : Hp} {D : Addr} {xs ys : List V} (h : D ∈ M) (e : H D = some (.lst xs)) : Stays M H (upd H D (.lst ys)) := ⟨fun a o n q => ⟨n, by rw [upd_ne (fun z : a = D => n (by rw [z]; exact h))]; exact q⟩, (Wk.mut (L := M) h e).kd⟩
section
variable {K : PySem.W.Frag} {te ti tl : TE} {tt tt1 : TT} {ds : List SD} {ms : List MD} {R : RS}
end
/-! ### max(t) of a tuple of ints -/
section
variable {K : PySem.W.Frag} {ms : List MD} {R : RS}
end
end Hc

namespace Hc
open PySem PySem.Spec PyProof.Rows L2
/-! ### dicts that may change, with rows as keys -/
def valT (m : List (List Key × PyData)) (k : List Key) : Option PyData := (m.find? fun kv => decide (kv.1 = k)).map (·.2)
def putT (m : List (List Key × PyData)) (k : List Key) (d : PyData) : List (List Key × PyData) :=
  if (m.any fun kv => decide (kv.1 = k)) = true then m.map (fun kv => if kv.1 = k then (kv.1, d) else kv) else m ++ [(k, d)]
section
variable {K : PySem.W.Frag} {L M : List Addr} {ms : List MD} {H H' : Hp}
theorem Rt.length : ∀ {m : List (List Key × PyData)} {kvs : List (List Key × V)}, Rt M H kvs m → kvs.length = m.length
  | _, _, .nil => rfl
  | _, _, .cons _ b => congrArg (· + 1) (Rt.length b)
theorem Rt.keys : ∀ {m : List (List Key × PyData)} {kvs : List (List Key × V)}, Rt M H kvs m → kvs.map (·.1) = m.map (·.1)
  | _, _, .nil => rfl
  | _, _, .cons _ b => by rw [List.map_cons, List.map_cons, Rt.keys b]
theorem Rt.val (k : List Key) {d : PyData} : ∀ {m : List (List Key × PyData)} {kvs : List (List Key × V)}, Rt M H kvs m → valT m k = some d → ∃ v, valV kvs k = some v ∧ Rp M H v d
  | _, _, .nil, e => by cases e
  | (k1, d1) :: m, (_, v1) :: kvs, .cons a b, e => by
    by_cases q : k1 = k
    · have : d1 = d := by simpa [valT, q] using e
      subst this
      exact ⟨v1, valV_pos q, a⟩
    · have e1 : valT ((k1, d1) :: m) k = valT m k := by simp [valT, List.find?_cons, q]
      rw [e1] at e
      rw [valV_neg q]
      exact Rt.val k b e
theorem Rt.put (k : List Key) {v : V} {d : PyData} {m : List (List Key × PyData)} {kvs : List (List Key × V)} (h : Rt M H kvs m) (r : Rp M H v d) : Rt M H (putK kvs k v) (putT m k d) := by
  have any : (kvs.any fun kv => decide (kv.1 = k)) = (m.any fun kv => decide (kv.1 = k)) := by
    induction h with
    | nil => rfl
    | cons _ _ ih => simp [ih]
  unfold putK putT
  rw [any]
  split
  · rename_i hsp
    clear any hsp
    induction h with
    | nil => exact .nil
    | @cons k1 v1 d1 kvs1 m1 a b ih =>
      rw [List.map_cons, List.map_cons]
      by_cases e : k1 = k
      · rw [if_pos e, if_pos e]
        exact .cons r ih
      · rw [if_neg e, if_neg e]
        exact .cons a ih
  · rename_i hsp
    clear any hsp
    induction h with
    | nil => exact .cons r .nil
    | cons a _ ih => exact .cons a ih
variable {te ta tb td ty : TE} {tA : TA} {ds : List SD} {R : RS} {t u : TS} {P : Po}
/-! a new one, until the block's end -/
end
end Hc

namespace Hc
open PySem PySem.Spec PyProof.Rows L2
section
variable {prog : Program} {w : World} {A : Around} {E : Value → Shared → Prop} {s : Shared}
/-! ### sorted(d) of a dict with rows as keys -/
end
section
variable {K : PySem.W.Frag} {ms : List MD} {R : RS}
end
end Hc

namespace Hc
open PySem PySem.Spec PyProof.Rows L2
/-! ### a dict of lists that grow: d.setdefault(k, []).append(x) -/
def addL (k : Key) (d : PyData) : List (Key × List PyData) → List (Key × List PyData)
  | [] => [(k, [d])]
  | e :: r => if e.1 = k then (e.1, e.2 ++ [d]) :: r else e :: addL k d r
/-- the lists are new against H0, and no two are one -/
inductive Lv (H0 : Hp) (M : List Addr) (p : Addr) (H : Hp) : List (Key × V) → List (Key × List PyData) → Prop
  | nil : Lv H0 M p H [] []
  | cons {k : Key} {q : Addr} {xs : List V} {es : List PyData} {kvs : List (Key × V)} {m : List (Key × List PyData)} : H0 q = none → q ≠ p → H q = some (.lst xs) → RpA M H0 xs es → (∀ x ∈ kvs, x.2 ≠ .ref q) → Lv H0 M p H kvs m → Lv H0 M p H ((k, .ref q) :: kvs) ((k, es) :: m)
section
variable {H0 H H' : Hp} {M : List Addr} {p : Addr}
theorem Lv.else {q : Addr} (w : ∀ a, a ≠ q → H' a = H a) : ∀ {kvs : List (Key × V)} {m : List (Key × List PyData)}, Lv H0 M p H kvs m → (∀ x ∈ kvs, x.2 ≠ .ref q) → Lv H0 M p H' kvs m
  | _, _, .nil, _ => .nil
  | _, _, .cons (q := q1) a b c d e f, n => by
    have hq : q1 ≠ q := fun z => n _ (List.mem_cons_self ..) (by rw [z])
    exact .cons a b (by rw [w q1 hq]; exact c) d e (Lv.else w f fun x hx => n x (List.mem_cons_of_mem _ hx))
theorem Lv.length : ∀ {kvs : List (Key × V)} {m : List (Key × List PyData)}, Lv H0 M p H kvs m → kvs.length = m.length
  | _, _, .nil => rfl
  | _, _, .cons _ _ _ _ _ f => congrArg (· + 1) (Lv.length f)
theorem Lv.apart {q : Addr} (hq : H q = none) : ∀ {kvs : List (Key × V)} {m : List (Key × List PyData)}, Lv H0 M p H kvs m → ∀ x ∈ kvs, x.2 ≠ .ref q
  | _, _, .nil, x, hx => by cases hx
  | _, _, .cons a b c d e f, x, hx => by
    rcases List.mem_cons.mp hx with rfl | hx
    · intro z
      injection z with z
      rw [z, hq] at c
      cases c
    · exact Lv.apart hq f x hx
/-- one more at a key that is there -/
theorem Lv.more {k : Key} {y : V} {d : PyData} (ry : Rp M H0 y d) {v : V} : ∀ {kvs : List (Key × V)} {m : List (Key × List PyData)}, Lv H0 M p H kvs m → valV kvs k = some v →
    ∃ q xs, v = .ref q ∧ q ≠ p ∧ H q = some (.lst xs) ∧ H0 q = none ∧ (∃ x ∈ kvs, x.2 = .ref q) ∧ (∃ es, (k, es) ∈ m ∧ xs.length = es.length) ∧ Lv H0 M p (upd H q (.lst (xs ++ [y]))) kvs (addL k d m)
  | _, _, .nil, e => by cases e
  | _, _, .cons (k := k1) (q := q1) (xs := xs1) (es := es1) (kvs := kvs1) (m := m1) a b c d1 e f, hv => by
    by_cases hk : k1 = k
    · rw [valV_pos hk] at hv
      cases hv
      refine ⟨q1, xs1, rfl, b, c, a, ⟨_, List.mem_cons_self .., rfl⟩, ⟨es1, by rw [hk]; exact List.mem_cons_self .., d1.length⟩, ?_⟩
      have ea : addL k d ((k1, es1) :: m1) = (k1, es1 ++ [d]) :: m1 := if_pos hk
      rw [ea]
      exact .cons a b upd_same (d1.append (.cons ry .nil)) e (f.else (q := q1) (fun x hx => upd_ne hx) e)
    · rw [valV_neg hk] at hv
      obtain ⟨q, xs, h1, h2, h3, h4, ⟨x, hx, ex⟩, ⟨es2, hm, hl⟩, h6⟩ := Lv.more ry f hv
      have ea : addL k d ((k1, es1) :: m1) = (k1, es1) :: addL k d m1 := if_neg hk
      have ne : q1 ≠ q := fun z => e x hx (by rw [ex, z])
      refine ⟨q, xs, h1, h2, h3, h4, ⟨x, List.mem_cons_of_mem _ hx, ex⟩, ⟨es2, List.mem_cons_of_mem _ hm, hl⟩, ?_⟩
      rw [ea]
      exact .cons a b (by rw [upd_ne ne]; exact c) d1 e h6
/-- a key that is new -/
theorem Lv.newk {k : Key} {y : V} {d : PyData} {q : Addr} (ry : Rp M H0 y d) (hq : H0 q = none) (qp : q ≠ p) : ∀ {kvs : List (Key × V)} {m : List (Key × List PyData)}, Lv H0 M p H kvs m → valV kvs k = none → (∀ x ∈ kvs, x.2 ≠ .ref q) →
    Lv H0 M p (upd H q (.lst [y])) (kvs ++ [(k, .ref q)]) (addL k d m)
  | _, _, .nil, _, _ => .cons hq qp upd_same (.cons ry .nil) (fun _ h => by cases h) .nil
  | _, _, .cons (k := k1) (q := q1) (es := es1) (kvs := kvs1) (m := m1) a b c d1 e f, hv, n => by
    have hk : ¬ k1 = k := fun z => by rw [valV_pos z] at hv; cases hv
    rw [valV_neg hk] at hv
    have ea : addL k d ((k1, es1) :: m1) = (k1, es1) :: addL k d m1 := if_neg hk
    have ne : q1 ≠ q := fun z => n _ (List.mem_cons_self ..) (by rw [z])
    rw [ea]
    refine .cons a b (by rw [upd_ne ne]; exact c) d1 (fun x hx => ?_) (Lv.newk ry hq qp f hv fun x hx => n x (List.mem_cons_of_mem _ hx))
    rcases List.mem_append.mp hx with z | z
    · exact e x z
    · rw [List.mem_singleton.mp z]
      intro z2
      injection z2 with z2
      exact ne z2.symm
/-- how the dict stands -/
structure Ld (H0 : Hp) (M : List Addr) (p : Addr) (m : List (Key × List PyData)) (H : Hp) : Prop where
  keep : ∀ a o, H0 a = some o → H a = some o
  new : H0 p = none
  dict : ∃ kvs, H p = some (.dK kvs) ∧ Lv H0 M p H kvs m
theorem Ld.back {m : List (Key × List PyData)} (h : Ld H0 M p m H) {q : Addr} (e : H q = none) : H0 q = none := by
  cases z : H0 q with
  | none => rfl
  | some o => rw [h.keep q o z] at e; cases e
theorem Lv.notp : ∀ {kvs : List (Key × V)} {m : List (Key × List PyData)}, Lv H0 M p H kvs m → ∀ x ∈ kvs, x.2 ≠ .ref p
  | _, _, .nil, x, hx => by cases hx
  | _, _, .cons a b c d e f, x, hx => by
    rcases List.mem_cons.mp hx with rfl | hx
    · intro z
      injection z with z
      exact b z
    · exact Lv.notp f x hx
theorem put_end {kvs : List (Key × V)} {k : Key} {z : V} (h : valV kvs k = none) : putK kvs k z = kvs ++ [(k, z)] := by
  unfold putK
  rw [valV_any, h]
  rfl
theorem Ld.step {K : PySem.W.Frag} {m : List (Key × List PyData)} {i j s : Nat} {σ : L2.St} {k : Key} {y : V} {d : PyData} {Q : VK} (h : Ld H0 M p m H) (hi : σ[i]? = some (some (.ref p))) (hj : σ[j]? = some (some (kV k))) (hs : σ[s]? = some (some y)) (ry : Rp M H0 y d)
    (hl : m.length < 10000) (he : ∀ e ∈ m, e.2.length < 10000) (q : ∀ H', Ld H0 M p (addL k d m) H' → Q .non H') : tBM K "list" rAppend (tDSetd (tVar i) (tVar j) (tLst tNil)) (tCons (tVar s) tNil) σ H Q := by
  obtain ⟨kvs, e1, lv⟩ := h.dict
  refine ⟨_, hi, p, rfl, .inl ⟨kvs, .inl e1⟩, _, hj, Nat.zero_le _, fun b hb => ?_⟩
  have bp : b ≠ p := fun z => by rw [z, e1] at hb; cases hb
  have b0 := h.back hb
  have ap := lv.apart hb
  refine ⟨kvs, k, by rw [upd_ne (Ne.symm bp)]; exact e1, rfl, by rw [lv.length]; exact Nat.lt_trans hl (by decide), fun v hv => ?_, fun hn => ?_⟩
  · obtain ⟨q1, xs, rfl, qp, e2, hq0, _, ⟨es, hm, hle⟩, lv'⟩ := lv.more ry hv
    have nq : q1 ≠ b := fun z => by rw [z, hb] at e2; cases e2
    have e3 : upd H b (.lst []) q1 = some (.lst xs) := by rw [upd_ne nq]; exact e2
    refine ⟨.inl ⟨rfl, xs, SqL.of e3⟩, _, hs, q1, xs, y, rfl, rfl, e3, by rw [hle]; exact Nat.lt_trans (he _ hm) (by decide), q _ ⟨fun a o ea => ?_, h.new, kvs, ?_, ?_⟩⟩
    · have a1 : a ≠ q1 := fun z => by rw [z, hq0] at ea; cases ea
      have a2 : a ≠ b := fun z => by rw [z, b0] at ea; cases ea
      rw [upd_ne a1, upd_ne a2]
      exact h.keep a o ea
    · rw [upd_ne (Ne.symm qp), upd_ne (Ne.symm bp)]
      exact e1
    · refine lv'.else (q := b) (fun a ha => ?_) ap
      by_cases z : a = q1
      · rw [z, upd_same, upd_same]
      · rw [upd_ne z, upd_ne ha, upd_ne z]
  · rw [put_end hn]
    have e3 : upd (upd H b (.lst [])) p (.dK (kvs ++ [(k, .ref b)])) b = some (.lst []) := by rw [upd_ne bp, upd_same]
    refine ⟨.inl ⟨rfl, [], SqL.of e3⟩, _, hs, b, [], y, rfl, rfl, e3, by decide, q _ ⟨fun a o ea => ?_, h.new, kvs ++ [(k, .ref b)], ?_, ?_⟩⟩
    · have a1 : a ≠ p := fun z => by rw [z, h.new] at ea; cases ea
      have a2 : a ≠ b := fun z => by rw [z, b0] at ea; cases ea
      rw [upd_ne a2, upd_ne a1, upd_ne a2]
      exact h.keep a o ea
    · rw [upd_ne (Ne.symm bp), upd_same]
    · have lv' := lv.newk (k := k) ry b0 bp hn ap
      refine lv'.else (q := p) (fun a ha => ?_) lv'.notp
      by_cases z : a = b
      · rw [z, upd_same, upd_same]
        rfl
      · rw [upd_ne z, upd_ne ha, upd_ne z, upd_ne z]
end
section
variable {K : PySem.W.Frag} {ds : List SD} {ms : List MD} {L M : List Addr} {H H' : Hp} {P : Po} {u : TS}
theorem At.stay (h : At L M ms H) (k : ∀ a o, H a = some o → H' a = some o) : At L M ms H' := by
  refine ⟨h.nd, h.sub, fun q hq => ?_, h.ln, fun j q m e1 e2 => ?_⟩
  · obtain ⟨o, e, n⟩ := h.al q hq
    exact ⟨o, k q o e, n⟩
  · obtain ⟨o, e, _⟩ := h.al q (h.sub q (List.mem_of_getElem? e1))
    exact (h.ok j q m e1 e2).to (h.wk (.of k)) (by rw [e, k q o e])
theorem Lv.data {p : Addr} {M' : List Addr} (fr : ∀ q, H q = none → q ≠ p → q ∉ M') (t : To M M' H H') : ∀ {kvs : List (Key × V)} {m : List (Key × List PyData)}, Lv H M p H' kvs m → RpK M' H' kvs (kD (m.map fun e => (e.1, .list e.2)))
  | _, _, .nil => .nil
  | _, _, .cons a b c d e f => .cons (.lst (fr _ a b) c (RpA.to t _ _ d)) (Lv.data fr t f)
/-- behind it only what is told goes on -/
def Po.only (P : Po) (n : Nat) : Po where
  nx := fun _ _ => False
  rt := fun s ms' => ∃ ms1 x, ms' = ms1 ++ [x] ∧ ms1.length = n ∧ (∃ y, s = .d y ∨ ∃ fs, s = .f fs) ∧ P.rt s ms1
  bk := fun _ _ => False
  ct := fun _ _ => False
end
end Hc

namespace Hc
open PySem PySem.Spec PyProof.Rows L2
/-! ### a comprehension over a dict's keys: the dict is locked from there on -/
section
variable {K : PySem.W.Frag} {tt : TT} {te : TE} {ds : List SD} {ms : List MD} {R : RS}
end
end Hc

namespace Hc
open PySem PySem.Spec PyProof.Rows L2
/-! ### a def that is never called -/
/-! ### list(reversed(xs)), xs a list -/
section
variable {prog : Program} {w : World} {A : Around} {E : Value → Shared → Prop} {s : Shared}
end
/-! ### len of a dict that may change -/
end Hc

namespace Hc
open PySem PySem.Spec PyProof.Rows L2
section
variable {K : PySem.W.Frag} {te ta : TE} {ds : List SD} {ms : List MD} {R : RS}
/-! ### xs.extend(e), e a new list; xs.remove(e) of ints -/
end
end Hc

namespace Hc
open PySem PySem.Spec PyProof.Rows L2
section
variable {X : Cx} {a b c d : Expr} {ta tb tc td : TE} {pos : Pos}
/-! ### a chain of three comparisons, as a test -/
end
section
variable {K : PySem.W.Frag} {ta tb tc td : TE} {ds : List SD} {ms : List MD} {R : RS}
variable {t : TS} {P : Po}
/-! ### for i in reversed(range(n)) -/
end
/-! ### t * k of a tuple that may be empty -/
section
variable {K : PySem.W.Frag} {ms : List MD} {R : RS}
end
end Hc

namespace Hc
open PySem PySem.Spec PyProof.Rows L2
/-! ### bool(i) of an int -/
section
variable {K : PySem.W.Frag} {ms : List MD} {R : RS}
end
end Hc

namespace Hc
open PySem PySem.Spec PyProof.Rows L2
/-! ### the law itself, called at the top: there the guards are known -/
section
variable {Pg : Program} {w : World} {K : PySem.W.Frag} {mg : Str → Option Value} {base : Heap}
def TopOk (Pg : Program) (w : World) (K : PySem.W.Frag) (mg : Str → Option Value) (base : Heap) (f : Addr) (Φ : Ph) : Prop :=
  ∀ (s : Shared) (H : Hp) (a : Addr), Env0 Pg w K mg base callerA [] s H → SpD K Φ [.ref a] H (fun v _ => v = .bl true) (fun _ _ _ => False) →
    codeAny (model Pg w) callerA (.call (.ref f) ⟨[.ref a], []⟩) (CR CX0 [] Pg w H s (fun v _ => v = .bl true) fun _ _ _ => False) s
theorem top_of {x qual p : Str} {st : Stmt} {f : Addr} {fd : FuncData} {N : List Str} {k : Nat} {Φ : Ph} (F : Fun K x qual st f fd) (Sc : FnScope N [p] (defScope st)) (bind : ∀ (s : Shared) (u : Value), BindsTo s fd ⟨[u], []⟩ [(p, u)])
    (hl : ∀ as ms R, Φ as ms R → as.length = 1) (h1 : 1 ≤ N.length) (room : Room (k + 1) callerA)
    (hbody : ∀ (cdv : Value) (A : Around) (s : Shared) (H : Hp) (E : XK), A = callerA → Room k (A.deeper (envOfC qual (defScope st) s.heap.objs.size f cdv)) →
      ∃ t, PSs (cxOf CX0 Pg w K mg base N qual (defScope st) f cdv A [] s H E).nox (defBody st) t ∧ ∀ as ms R, Φ as ms R → S K t (as ++ List.replicate (N.length - as.length) .u) ms (fin R)) : TopOk Pg w K mg base f Φ := by
  intro s H a e0 sp
  obtain ⟨c1, c2, c3, c4, c5, c6, code, c7, c8, rfl, look, cin⟩ := F.ex
  have grown : ∀ {b : Addr} {o : Obj}, base.get? b = some o → s.heap.get? b = some o := fun z => (e0.bs _ _ z).1
  have kin : K.In s.heap := e0.mod.kin.keeps fun b o => grown
  have nol := e0.mod.nolimit.keeps fun b o (z : base.get? b = some o) => grown z
  obtain ⟨t, bt, rd⟩ := hbody code callerA s H (fun _ _ _ => False) rfl (room.deeper _)
  have go := read_of (fun as ms R z => by rw [hl as ms R z]; exact h1) rd sp
  refine codeAny_call_function room.depth (kin _ _ look) rfl Sc.co Sc.gen rfl (PySem.W.codeRec_of kin cin) (bind s (.ref a) _ _ _ _ (wpAny_newFunctionEnv_cells Sc.kind (fun y hy => ?_) fun env ee s1 inn => ?_))
  · rcases Sc.par y.1 (by have z : y = (p, .ref a) := by simpa using hy
                          rw [z]; simp) with q | q
    · exact Or.inl q
    · exact Or.inr ⟨q, PySem.W.cellsFrom_some _ _ _ (Or.inl q)⟩
  · cases ee
    have J := inv_start (E := fun _ _ _ => False) (CX := CX0) Sc (show callerA.handled = none from rfl) e0 (vs := [.ref a]) rfl (.cons rfl .nil) inn
    refine ⟨nol.keeps inn.toInCall.keep, codeAny_func (wpAny_mono (bt.nox.run [] s1 _ H _ J go) (fun fl s2 z => ?_) fun _ _ z => z)⟩
    match fl, z with
    | .ret u, ⟨v, _, H2, J2, rv, e⟩ => exact ⟨v, H2, J2.os, J2.bare, J2.base, J2.hok, rv, e⟩
    | .next, ⟨_, H2, J2, e⟩ => exact ⟨V.non, H2, J2.os, J2.bare, J2.base, J2.hok, rfl, e⟩
    | .brk, ⟨_, _, _, e⟩ => exact e.elim
    | .cont, ⟨_, _, _, e⟩ => exact e.elim
/-- what was there stays, where nothing but the script was tracked -/
theorem old_of {H H' : Hp} {h h' : Heap} (only : Only H) (a : HOk Pg w H h) (b : HOk Pg w H' h') (un : Un [] [] H H' h h') : OldK h h' := OldK.of_keep fun x o e => by
  rcases only x with z | ⟨q, l, z⟩
  · exact un.keep x o e z nofun nofun
  · obtain ⟨g, _⟩ := a x _ z
    obtain ⟨g2, _⟩ := b x _ (un.frzs x q _ z)
    rw [g2, ← g, e]
/-- the script's list, among what is tracked or in the module -/
theorem script_at {a : Addr} {vs : List Value} {ns : List Int} {h : Heap} (KX : K.In h) (ha : h.get? a = some { cls := .type "list", data := .seq vs.toArray }) (hi : IntsAre vs ns) (hz : ns.length ≤ sizeLine) :
    ∃ H : Hp, Only H ∧ SqL K H a (ns.map V.int) ∧ HOk Pg w H h ∧ (∀ b, H b ≠ none → b = a) ∧ (H a ≠ none → K.lookup a = none) := by
  have rv := vals_ints hi
  have ln := hi.length
  by_cases hk : ∃ o, K.lookup a = some o
  · obtain ⟨o, ho⟩ := hk
    have eo := KX a o ho
    rw [ha] at eo
    have eo := Option.some.inj eo
    subst eo
    exact ⟨fun _ => none, fun _ => .inl rfl, .inr ⟨_, vs.toArray, _, ho, rfl, rfl, rfl, by simp; omega, by simpa using rv⟩, nofun, (fun _ z => absurd rfl z), fun z => absurd rfl z⟩
  · let u : HO := .frz { cls := .type "list", data := .seq vs.toArray } (.lst (ns.map V.int))
    let H : Hp := fun b => if b = a then some u else none
    have at_ : ∀ {b : Addr} {q : HO}, H b = some q → b = a ∧ q = u := fun {b q} z => by
      by_cases e : b = a
      · exact ⟨e, (Option.some.inj ((if_pos e).symm.trans z)).symm⟩
      · exact nomatch (if_neg e).symm.trans z
    refine ⟨H, fun b => ?_, .inl (.inr ⟨_, if_pos rfl⟩), fun b q z => ?_, fun b z => ?_, fun _ => ?_⟩
    · cases e : H b with
      | none => exact .inl rfl
      | some q =>
        obtain ⟨_, rfl⟩ := at_ e
        exact .inr ⟨_, _, rfl⟩
    · obtain ⟨rfl, rfl⟩ := at_ z
      exact ⟨ha, by rw [List.length_map]; exact hz, vs, _, rv, ha⟩
    · cases e : H b with
      | none => exact absurd e z
      | some q => exact (at_ e).1
    · cases e : K.lookup a with
      | none => rfl
      | some o => exact absurd ⟨o, e⟩ hk
/-- the base beside it -/
theorem env_top {a : Addr} {vs : List Value} {s : Shared} {H : Hp} {mb : Str → Option Value} (KX : K.In s.heap) (g : s.heap.Ns mainGlobals mg) (b : s.heap.Ns builtinsNs mb) (bb : ∀ x : Str, x ≠ "__name__" → mb x = bootBuiltins x) (nl : s.heap.NoLimit) (gn : s.gens = #[])
    (ha : s.heap.get? a = some { cls := .type "list", data := .seq vs.toArray }) (ok : HOk Pg w H s.heap) (one : ∀ b, H b ≠ none → b = a) (out : H a ≠ none → K.lookup a = none) :
    Env0 Pg w K mg (hidT s.heap H) callerA [] s H ∧ K.In (hidT s.heap H) ∧ (hidT s.heap H).Ns mainGlobals mg := by
  have side : ∀ {d : Addr}, H d = none ∨ (d = a ∧ H a ≠ none) := fun {d} => by
    cases e : H d with
    | none => exact .inl rfl
    | some q =>
      have da := one d (by rw [e]; nofun)
      exact .inr ⟨da, by rw [← da, e]; nofun⟩
  have names : ∀ {d : Addr} {m : Str → Option Value}, s.heap.Ns d m → (hidT s.heap H).Ns d m := fun {d m} ⟨o, es, ep, z, dd, r⟩ => by
    rcases side (d := d) with n | ⟨rfl, _⟩
    · exact ⟨o, es, ep, hidT_get z n, dd, r⟩
    · rw [ha] at z
      have := Option.some.inj z
      subst this
      exact nomatch dd
  have kin : K.In (hidT s.heap H) := fun d o z => by
    rcases side (d := d) with n | ⟨rfl, n⟩
    · exact hidT_get (KX d o z) n
    · exact nomatch (out n).symm.trans z
  obtain ⟨mc, n1, n2⟩ := nl
  exact ⟨⟨rfl, ⟨kin, names g, ⟨mb, names b, bb⟩, mc, names n1, n2⟩, fun d o z => of_hidT z, Nat.le_of_eq (hidT_size _ _), trivial, nofun, ok, .of_eq gn⟩, kin, names g⟩
end
/-- the end of a law whose own body knows the guards -/
theorem walk_top {l : PySem.W.OpenLaw} {n : Nat} {q : Program} {loose : List Str} {XP : (Str → Option Value) → Heap → Prop} {YP : World → Heap → Prop} {d : DefRec} {K : Params → PySem.W.Frag} {Φ : Ph}
    (most : l.most = some n) (small : n ≤ sizeLine) (plain : d.params.defaults = []) (hY : ∀ (w : World) (h : Heap), YP w h → (K w.params).In h)
    (F : ∀ (w : World) (mg : Str → Option Value) (fa : Addr) (h : Heap), (K w.params).In h → h.Ns mainGlobals mg → mg d.name = some (.ref fa) → ∀ base : Heap, (K w.params).In base → base.Ns mainGlobals mg → TopOk l.prog w (K w.params) mg base fa Φ)
    (at_ : ∀ (w : World) (H : Hp) (a : Addr) (ns : List Int), ns.length ≤ n → Only H → SqL (K w.params) H a (ns.map V.int) → SpD (K w.params) Φ [.ref a] H (fun v _ => v = .bl true) fun _ _ _ => False) :
    PySem.W.WalkO q loose XP YP l.row.toRowW d [] (fun f vs => PySem.call f vs) := by
  apply Att.attach_call most plain
  intro w _ s mg mb fa _ _ _ _ a vs ns G Y _ _ _ name obj ii short gens
  have KX := hY w _ Y
  obtain ⟨H, only, sq, ok, one, out⟩ := script_at (Pg := l.prog) (w := w) KX obj ii (Nat.le_trans short small)
  obtain ⟨e0, kin, nsb⟩ := env_top KX G.T.g G.T.b G.T.builtins G.T.nolimit gens obj ok one out
  refine codeAny_mono (F w mg fa _ KX G.T.g name _ kin nsb s H a e0 (at_ w H a ns short only sq)) fun r s2 z => ?_
  match r, z with
  | .ok (.ret u), ⟨v, H2, os, bare, un, ok2, rv, e⟩ =>
    have e : v = .bl true := e
    subst e
    have rv : u = Value.bool true := rv
    subst rv
    exact ⟨rfl, old_of only ok ok2 un, os, bare⟩
  | .ok .next, z => exact z.elim
  | .ok .brk, z => exact z.elim
  | .ok .cont, z => exact z.elim
  | .error _, z => exact z.elim
/-! ### repr of rows of data, the guards known -/
def rRepr (K : PySem.W.Frag) : List V → Hp → VK → Prop := fun vs H Q => ∃ (a : Addr) (d : PyData), vs = [.ref a] ∧ Dp K H (.ref a) d ∧ d.showable = true ∧ d.hasDict = false ∧ d.depth ≤ 60 ∧ d.shown.length ≤ sizeLine ∧ Q (.str d.shown) H
theorem cr_repr {X : Cx} (hu : X.A.units + 64 < cLine) (hg : X.A.guards = some []) : CallR X (.builtin "repr") (rRepr X.K) := by
  intro pins s σ H vs us Q I r h
  obtain ⟨a, d, rfl, dp, hs, hd, dd, hz, q⟩ := h
  rw [Vals.ref1 r]
  obtain ⟨as, rd⟩ := Dp.reads I d (.ref a) (.ref a) dp rfl
  exact repr_of_reads' rd hs (fun e => by rw [hd] at e; cases e) hg (by omega) (fun _ _ e => e) (fun h' u tk hk => ⟨.str d.shown, H, I.kept hk, ⟨u, rfl⟩, q⟩) hz
section
variable {K : PySem.W.Frag} {ds : List SD} {ms : List MD} {R : RS}
theorem rc_repr {as : List SD} (h : ∃ (es : List PyData) (x : PyData), as = [.d x] ∧ (x = .list es ∨ x = .tuple es) ∧ Shp 60 x ∧ x.showable = true ∧ x.shown.length ≤ sizeLine ∧ R (.d (.str x.shown)) ms) : RC K (rRepr K) as ms R := fun L M H vs hA ha Q q => by
  obtain ⟨es, x, rfl, hx, sh, hs, hz, r⟩ := h
  obtain ⟨v, t, rfl, hv, rfl⟩ := ha
  have hv : Rp M H v x := hv
  have dp := Rp.dp (K := K) x v sh.1 hv
  obtain ⟨a, rfl⟩ : ∃ a, v = .ref a := by
    rcases hx with rfl | rfl
    · cases hv; exact ⟨_, rfl⟩
    · cases hv; exact ⟨_, rfl⟩
  exact ⟨a, x, rfl, dp, hs, PyData.hasDict_of_canLay x sh.1, sh.2, hz, q (.d (.str x.shown)) _ H ms (Wk.refl L H) ⟨hA, .str _⟩ r⟩
/-- texts told apart -/
theorem rr_neT {a b : SD} (h : ∃ x y : Str, a = .d (.str x) ∧ b = .d (.str y) ∧ R (.d (.bool (!decide (x = y)))) ms) : RR K rNe a b ms R := fun L M H u v hA ha hb Q q => by
  obtain ⟨x, y, rfl, rfl, r⟩ := h
  have ha : Rp M H u (.str x) := ha
  have hb : Rp M H v (.str y) := hb
  cases ha
  cases hb
  refine ⟨rfl, ?_⟩
  have e : decide (V.str x = V.str y) = decide (x = y) := by simp
  rw [e]
  exact q (.d (.bool _)) _ H ms (Wk.refl L H) ⟨hA, .bl _⟩ r
end
/-! ### how long such a text is -/
mutual
def noText : PyData → Bool
  | .list xs | .tuple xs => noTexts xs
  | .str _ | .dict _ => false
  | _ => true
def noTexts : List PyData → Bool
  | [] => true
  | x :: r => noText x && noTexts r
end
mutual
def nodes : PyData → Nat
  | .list xs | .tuple xs => 2 + nodesAll xs
  | _ => 1
def nodesAll : List PyData → Nat
  | [] => 0
  | x :: r => nodes x + nodesAll r
end
theorem textFrom_le : ∀ (ts : List Str) (k : Nat) (acc : Str), (textFrom k acc ts).length ≤ acc.length + (ts.map fun t => t.length + 2).sum
  | [], _, acc => Nat.le_add_right _ _
  | t :: r, k, acc => by
    have ih := textFrom_le r (k + 1) (acc ++ (if k > 0 then ", " else "" : String) ++ t)
    have e : (acc ++ (if k > 0 then ", " else "" : String) ++ t).length ≤ acc.length + 2 + t.length := by
      rw [strLen_append, strLen_append]
      have : (((if k > 0 then ", " else "" : String) : Str)).length ≤ 2 := by split <;> decide
      omega
    rw [List.map_cons, List.sum_cons]
    show (textFrom (k + 1) _ r).length ≤ _
    omega
theorem join_le : ∀ ts : List Str, (Str.join ", " ts).length ≤ (ts.map fun t => t.length + 2).sum
  | [] => Nat.zero_le _
  | t :: r => by
    have e := join_length_add (t :: r) (by simp)
    have p : ∀ l : List Str, piled l = (l.map fun t => t.length + 2).sum := fun l => by
      induction l with
      | nil => rfl
      | cons a b ih => rw [piled_cons, List.map_cons, List.sum_cons, ih]
    rw [p] at e
    omega
mutual
theorem shown_le : ∀ d : PyData, d.showable = true → noText d = true → d.shown.length + 2 ≤ 1923 * nodes d
  | .none, _, _ => by decide
  | .bool b, _, _ => by cases b <;> decide
  | .int i, h, _ => by
    have h : i.natAbs.log2 < 1920 := by simpa [PyData.showable] using h
    have := int_text_len_1921 h
    show (PySem.Str.ofString (toString i)).length + 2 ≤ 1923 * 1
    omega
  | .str _, _, h => by cases h
  | .list xs, h, n => by
    have := showns_le xs (by simpa [PyData.showable] using h) n
    have e := textFrom_le (PyData.shownAll xs) 0 "["
    have e2 : (PyData.list xs).shown = textFrom 0 "[" (PyData.shownAll xs) ++ "]" := by simp [PyData.shown, listText]
    have e3 : nodes (.list xs) = 2 + nodesAll xs := rfl
    rw [e2, e3, strLen_append]
    have : (("[" : String) : Str).length = 1 := rfl
    have : (("]" : String) : Str).length = 1 := rfl
    omega
  | .tuple xs, h, n => by
    have := showns_le xs (by simpa [PyData.showable] using h) n
    have e := join_le (PyData.shownAll xs)
    have e2 : (PyData.tuple xs).shown = ("(" : Str) ++ Str.join ", " (PyData.shownAll xs) ++ (if (PyData.shownAll xs).length == 1 then ",)" else ")" : String) := by simp [PyData.shown, tupleText]
    have e3 : nodes (.tuple xs) = 2 + nodesAll xs := rfl
    rw [e2, e3, strLen_append, strLen_append]
    have : (("(" : String) : Str).length = 1 := rfl
    have : (((if (PyData.shownAll xs).length == 1 then ",)" else ")" : String) : Str)).length ≤ 2 := by split <;> decide
    omega
  | .dict _, _, h => by cases h
theorem showns_le : ∀ ds : List PyData, PyData.showableAll ds = true → noTexts ds = true → ((PyData.shownAll ds).map fun t => t.length + 2).sum ≤ 1923 * nodesAll ds
  | [], _, _ => Nat.le_refl _
  | d :: r, h, n => by
    have h : d.showable = true ∧ PyData.showableAll r = true := by simpa [PyData.showableAll] using h
    have n : noText d = true ∧ noTexts r = true := by simpa [noTexts] using n
    have a := shown_le d h.1 n.1
    have b := showns_le r h.2 n.2
    have e : ((PyData.shownAll (d :: r)).map fun t => t.length + 2).sum = (d.shown.length + 2) + ((PyData.shownAll r).map fun t => t.length + 2).sum := by
      rw [show PyData.shownAll (d :: r) = d.shown :: PyData.shownAll r from rfl, List.map_cons, List.sum_cons]
    have e2 : nodesAll (d :: r) = nodes d + nodesAll r := rfl
    rw [e, e2]
    omega
end
end Hc

namespace Hc
open PySem PySem.Spec PyProof.Rows L2
section
variable {K : PySem.W.Frag} {te ta tb tc tl : TE} {tt : TT} {tA : TA} {ds : List SD} {ms : List MD} {R : RS}
end
end Hc

namespace Hc
open PySem PySem.Spec PyProof.Rows L2
/-! ### try, where the first clause takes whatever the body raises: what stands behind it is not reached -/
section
variable {X : Cx} {x n : Str} {c : Value} {i : Nat} {body suite : List Stmt} {b1 : Stmt} {np pos pos2 : Pos} {rest : List ExceptHandler} {tb : WX → TS} {ts : Addr → Value → Option Addr → TS}
end
end Hc

namespace Hc
open PySem PySem.Spec PyProof.Rows L2
/-! ### sorted(set(xs)), xs a list of ints -/
/-- a set without members, as set() lays it -/
abbrev bareSet (w : World) : Obj := { cls := .type "set", dict := none, data := .set #[] 0 (.fresh 0 0 (!w.params.followText "set-order")) }
section
variable {P : Program} {w : World} {A : Around} {E : Value → Shared → Prop} {s : Shared} {l : Addr} {its : Array Value} {ns : List Int}
theorem ints_at (hi : IntsAre its.toList ns) {i : Nat} {v : Value} (e : its[i]? = some v) : ∃ k t, ns[i]? = some k ∧ v = .int k t := by
  have ln : its.size = ns.length := by
    have := IntsAre.length hi
    rwa [Array.length_toList] at this
  have li : i < ns.length := ln ▸ (Array.getElem?_eq_some_iff.mp e).1
  obtain ⟨t, q⟩ := PyProof.Rows.IntsAre.int_at hi i v (by rw [Array.getElem?_toList]; exact e)
  exact ⟨ns[i], t, List.getElem?_eq_getElem li, by rw [q, List.getD_eq_getElem?_getD, List.getElem?_eq_getElem li]; rfl⟩
/-- what set.__init__ leaves of a bare set at p -/
def Filled (w : World) (s : Shared) (ns : List Int) (p : Addr) (t : Shared) : Prop := ∃ (h : Heap) (tk c : Nat), t = { s with heap := h, toks := tk } ∧ SetR w h p (fun j => decide (j ∈ ns)) c ∧ c ≤ ns.length ∧ ∀ b o, s.heap.get? b = some o → h.get? b = some o
theorem set_init (hh : A.handled = none) (hl : s.heap.IsList l its) (hi : IntsAre its.toList ns) (hb : ns.length + 1 < scanBound) :
    codeAny (model P w) A (.call (.builtin "set.__init__") ⟨[.ref s.heap.objs.size, .ref l], []⟩) (wants (fun r t => r = .none ∧ Filled w s ns s.heap.objs.size t) E) { s with heap := s.heap.push (bareSet w) } := by
  obtain ⟨ob, at_l, cls, ep, dat⟩ := hl
  obtain ⟨c1, c2, c3, c4⟩ := ob
  cases cls
  cases dat
  have born : (s.heap.push (bareSet w)).get? s.heap.objs.size = some (bareSet w) := Heap.get?_push_size _ rfl
  have ty : Shared.TypeIs { s with heap := s.heap.push (bareSet w) } (.ref s.heap.objs.size) "set" := ⟨_, born, rfl⟩
  refine codeAny_call_builtin F.called_set.init.plain F.entry_set_init (check_set_init_1 ty ?_)
  have low : l < s.heap.objs.size := Heap.lt_size at_l
  have at_l2 : (s.heap.push (bareSet w)).get? l = _ := Heap.get?_push_of_some _ at_l
  have lst : (s.heap.push (bareSet w)).IsList l its := ⟨_, at_l2, rfl, ep, rfl⟩
  have n1 := F.sub_list_set
  have n2 := F.sub_list_frozenset
  have n3 : (Value.type "list" == Value.type "dict") = false := by decide
  have ln : its.size = ns.length := by
    have := IntsAre.length hi
    rwa [Array.length_toList] at this
  have sz : (s.heap.push (bareSet w)).objs.size = s.heap.objs.size + 1 := Heap.size_push ..
  unfold Builtin.«set.__init__» noKeywords Builtin.Frozenset.updateFrom
  generalize later : pyIter = walk
  wp_walk
  subst later
  refine wpAny_pyIter_list lst (wpAny_bind (wpAny_runValue ?_))
  have walks := (Walks.list (prog := P) (w := w) (show A.in1.in1.handled = none by simp [hh]) (s.heap.push (bareSet w)).objs.size l (fun z => Nat.ne_of_lt (Nat.lt_succ_of_lt low) (z.trans sz)) its).toS
  have apart : s.heap.objs.size ∉ [(s.heap.push (bareSet w)).objs.size, l] := fun m => by
    rcases List.mem_cons.mp m with z | z
    · exact Nat.ne_of_lt (Nat.lt_succ_self _) (z.trans sz)
    · exact Nat.ne_of_gt low (List.mem_singleton.mp z)
  refine set_update_ints walks s.heap.objs.size apart ns ln hb (fun i v e => ints_at hi e) (its.size - 0) 0 _ (by omega) (Nat.zero_le _)
    ?_ ?_ ?_
  · exact ⟨⟨_, Heap.get?_push_size _ rfl, rfl, rfl⟩, lst.push _⟩
  · exact ⟨0, Nat.le_refl 0, setR_new_at (Heap.get?_push_of_some _ born)⟩
  rintro ⟨h2, g2, d2, k2, o2⟩ c moved few filled
  cases show g2 = s.gens from moved.gens
  cases show d2 = s.drawn from moved.drawn
  cases show o2 = s.os from moved.os
  show wpAny _ _ _ _ _ _
  apply wpAny_pure
  show wpAny _ _ (ret Value.none) _ _ _
  refine wpAny_pure ⟨rfl, h2, k2, c, rfl, filled, ln ▸ few, fun b o e => ?_⟩
  have lb := Heap.lt_size e
  refine moved.heap b o (fun m => ?_) (Heap.get?_push_of_some _ (Heap.get?_push_of_some _ e))
  rcases List.mem_cons.mp m with z | z
  · exact Nat.ne_of_lt lb z
  · exact Nat.ne_of_lt (Nat.lt_succ_of_lt lb) ((List.mem_singleton.mp z).trans sz)
theorem set_list {Q : Value → Shared → Prop} (hh : A.handled = none) (hl : s.heap.IsList l its) (hi : IntsAre its.toList ns) (hb : ns.length + 1 < scanBound)
    (go : ∀ t, Filled w s ns s.heap.objs.size t → Q (.ref s.heap.objs.size) t) : wpAny (model P w) A (call (.type "set") [.ref l]) Q E s := by
  have C := F.called_set
  obtain ⟨_, _, mro⟩ := C.mro
  have a1 := C.made
  have a2 := C.sub
  have a3 := C.notType
  have a4 := C.canCreate
  have a5 := F.typeCall_set_1 (.ref l)
  apply wpAny_call
  apply codeAny_of_tree
  show wpAny _ _ (callAny (.type "set") _) _ _ _
  refine wpAny_pure ⟨Code.quiet_builtin _ (by decide +kernel), codeAny_builtin F.entry_type_call ?_⟩
  rw [Around.under_plain (weight_type_call_type "set" [.ref l] []) rfl]
  repeat (any_goals (first | assumption | wp_step))
  refine codeAny_mono (code_set_led1 (E := E) (.ref l) (Q₁ := fun p t => p = .ref s.heap.objs.size ∧ t = { s with heap := s.heap.push (bareSet w) }) ⟨rfl, rfl⟩) fun r t z => ?_
  match r, z with
  | .error _, z => exact z
  | .ok .next, z => exact z.elim
  | .ok .brk, z => exact z.elim
  | .ok .cont, z => exact z.elim
  | .ok (.ret p), ⟨ep, et⟩ =>
    subst ep et
    have ty : Shared.TypeIs { s with heap := s.heap.push (bareSet w) } (.ref s.heap.objs.size) "set" := ⟨_, Heap.get?_push_size _ rfl, rfl⟩
    have b1 := C.init.lookup
    have b2 := C.init.bind (.ref s.heap.objs.size)
    repeat (any_goals (first | assumption | wp_step))
    refine codeAny_mono (set_init (E := E) hh hl hi hb) fun r2 t2 z2 => ?_
    match r2, z2 with
    | .error _, z2 => exact z2
    | .ok .next, z2 => exact z2.elim
    | .ok .brk, z2 => exact z2.elim
    | .ok .cont, z2 => exact z2.elim
    | .ok (.ret v), ⟨ev, fl⟩ =>
      subst ev
      have := go t2 fl
      repeat (any_goals (first | assumption | wp_step))
end
section
variable {K : PySem.W.Frag} {te ta tb tc tl : TE} {tt : TT} {tA : TA} {ds : List SD} {ms : List MD} {R : RS}
end
end Hc

namespace Hc
open PySem PySem.Spec PyProof.Rows L2
/-! ### tuple(reversed(t)), t a tuple -/
section
variable {prog : Program} {w : World} {A : Around} {E : Value → Shared → Prop} {s : Shared}
end
end Hc

namespace Hc
open PySem PySem.Spec PyProof.Rows L2
/-! ### try: x = f(..), the first clause `except X as n` takes all -/
section
variable {K : PySem.W.Frag} {C : Addr} {tA : TA} {ds : List SD} {ms : List MD} {P : Po}
end
end Hc

namespace Hc
open PySem PySem.Spec PyProof.Rows L2
/-! ### data read off the heap, dicts too -/
section
variable {X : Cx} {pins : List (Addr × Obj)} {σ : L2.St} {H : Hp} {s : Shared} {M : List Addr}
theorem key_off {h : Heap} {k : Key} {e : Value} (z : keyIs k e = true) : Reads h e (keyD k) [] := by
  rcases keyIs_shape z with ⟨i, t, rfl, rfl⟩ | ⟨x, t, rfl, rfl⟩
  · exact .int i t
  · exact .str x t
mutual
theorem Rp.off (I : Inv X pins σ H s) (out : H sysModules = none) : ∀ {v : V} {d : PyData}, Rp M H v d → ∀ u, RelV v u → ∃ as, Reads s.heap u d as ∧ sysModules ∉ as
  | _, _, .non, u, r => by
    cases r
    exact ⟨[], .none, nofun⟩
  | _, _, .bl b, u, r => by
    cases r
    exact ⟨[], .bool b, nofun⟩
  | _, _, .int i, u, r => by
    obtain ⟨t, rfl⟩ := r
    exact ⟨[], .int i t, nofun⟩
  | _, _, .str x, u, r => by
    obtain ⟨t, rfl⟩ := r
    exact ⟨[], .str x t, nofun⟩
  | _, _, .lst (a := a) na e rs, u, r => by
    cases r
    obtain ⟨z, its, n, rv, g⟩ := I.hok a _ e
    obtain ⟨as, q, no⟩ := RpA.off I out rs its rv
    refine ⟨a :: as, .list (vs := its.toArray) g rfl rfl (by rw [List.toList_toArray]; exact q), fun m => ?_⟩
    rcases List.mem_cons.mp m with w | w
    · rw [w, e] at out
      cases out
    · exact no w
  | _, _, .tup (a := a) na e rs, u, r => by
    cases r
    obtain ⟨z, its, rv, o, g, c, n, d⟩ := I.hok a _ e
    obtain ⟨as, q, no⟩ := RpA.off I out rs its rv
    exact ⟨as, .tuple (vs := its.toArray) g c d (by rw [List.toList_toArray]; exact q), no⟩
  | _, _, .dct (a := a) na e rs, u, r => by
    cases r
    obtain ⟨z, ns, vs, kv, o, es, ep, g, ex, dd, ko, ps, nd⟩ := I.hok a _ e
    obtain ⟨bs, q1, q2, no⟩ := RpK.off I out rs vs kv es.toList ps
    refine ⟨a :: [] ++ bs, .dict g ex.1 dd q1 q2, fun m => ?_⟩
    rcases List.mem_cons.mp m with w | w
    · rw [w] at ns
      simp at ns
    · exact no w
theorem RpA.off (I : Inv X pins σ H s) (out : H sysModules = none) : ∀ {vs : List V} {ds : List PyData}, RpA M H vs ds → ∀ us, Vals vs us → ∃ as, ReadsAll s.heap us ds as ∧ sysModules ∉ as
  | _, _, .nil, us, r => by
    cases r
    exact ⟨[], .nil, nofun⟩
  | _, _, .cons h t, us, r => by
    cases r with
    | cons r1 r2 =>
      obtain ⟨as, q1, n1⟩ := Rp.off I out h _ r1
      obtain ⟨bs, q2, n2⟩ := RpA.off I out t _ r2
      exact ⟨as ++ bs, .cons q1 q2, fun m => (List.mem_append.mp m).elim n1 n2⟩
theorem RpK.off (I : Inv X pins σ H s) (out : H sysModules = none) : ∀ {kvs : List (Key × V)} {ds : List (PyData × PyData)}, RpK M H kvs ds → ∀ vs, KV kvs vs → ∀ es, Pairs (mixKind X.prog X.w) es vs →
    ∃ bs, ReadsAll s.heap (es.map (·.key)) (ds.map (·.1)) [] ∧ ReadsAll s.heap (es.map (·.val)) (ds.map (·.2)) bs ∧ sysModules ∉ bs
  | _, _, .nil, vs, kv, es, ps => by
    cases kv
    cases ps
    exact ⟨[], .nil, .nil, nofun⟩
  | _, _, .cons h t, vs, kv, es, ps => by
    cases kv with
    | cons r1 r2 =>
      cases ps with
      | cons p1 p2 p3 =>
        obtain ⟨e1, rv⟩ := r1
        obtain ⟨as, q1, n1⟩ := Rp.off I out h _ rv
        obtain ⟨bs, k2, q2, n2⟩ := RpK.off I out t _ r2 _ p3
        refine ⟨as ++ bs, ?_, .cons (by dsimp only; rw [p2]; exact q1) q2, fun m => (List.mem_append.mp m).elim n1 n2⟩
        refine ReadsAll.cons (as := []) (bs := []) ?_ k2
        rw [← e1] at p1
        exact key_off p1
end
end
/-! ### repr of any datum, where the guards are known and the table of modules stands in the base -/
end Hc

namespace Hc
open PySem PySem.Spec PyProof.Rows L2
section
variable {K : PySem.W.Frag} {ds : List SD} {ms : List MD} {R : RS} {P : Po}
end
/-! ### min(t) of a row of ints, a list or a tuple -/
end Hc

namespace Hc
open PySem PySem.Spec PyProof.Rows L2
/-! ### an error that is kept beyond its suite -/
section
variable {X : Cx} {pins : List (Addr × Obj)} {σ : L2.St} {H : Hp} {s : Shared}
end
section
variable {X : Cx} {x n : Str} {c : Value} {i : Nat} {C : Addr} {body suite : List Stmt} {b1 : Stmt} {np pos pos2 : Pos} {tb : WX → TS} {ts : Addr → TS}
end
section
variable {K : PySem.W.Frag} {C D : Addr} {tA : TA} {ds : List SD} {ms : List MD} {P : Po} {R : RS}
end
end Hc

namespace Hc
open PySem PySem.Spec PyProof.Rows L2
/-! ### errors of several classes -/
abbrev PhY := List SD → List MD → RS → (Addr → List MD → Prop) → Prop
/-- a def that hands back, or raises one of some classes -/
def SpY (K : PySem.W.Frag) (Φ : PhY) : Sp := fun vs H Q X => ∃ L M ms as R Y, At L M ms H ∧ SlsOk K L M H as vs ∧ Φ as ms R Y ∧ (∀ s v H' ms', Wk L H H' → Out K L M H H' ms' v s → R s ms' → Q v H') ∧ ∀ C H' ms', Wk L H H' → At L M ms' H' → Y C ms' → X (.ref C) none H'
def EyX (L M : List Addr) (H : Hp) (Y : Addr → List MD → Prop) (X : XK) : Prop := ∀ C H' ms', Wk L H H' → At L M ms' H' → Y C ms' → X (.ref C) none H'
section
variable {K : PySem.W.Frag} {C : Addr} {te ta tb tc tl : TE} {tt : TT} {tA : TA} {ds : List SD} {ms : List MD} {R : RS} {P : Po} {Y : Addr → List MD → Prop}
theorem EyX.on {L M : List Addr} {H H1 : Hp} {X : XK} (w : Wk L H H1) (h : EyX L M H Y X) : EyX L M H1 Y X := fun C H' ms' w2 => h C H' ms' (w.trans w2)
/-- such a def by name -/
structure KnY (Pg : Program) (w : World) (K : PySem.W.Frag) (mg : Str → Option Value) (base : Heap) (x : Str) (lv : Nat) (ps : List Str) (Φ : PhY) : Prop where
  ex : ∃ f fd, FnOk Pg w K mg base (L2.CX Pg w) lv f fd ps (SpY K Φ) ∧ mg x = some (.ref f) ∧ PySem.W.keepIn K (.ref f) = true ∧ Binds K fd ps []
end
/-! ### an error of whichever class that is kept, or handed back -/
section
variable {X : Cx} {x n : Str} {c : Value} {i : Nat} {body suite : List Stmt} {b1 : Stmt} {np pos pos2 : Pos} {tb : WX → TS} {ts : Addr → TS}
end
section
variable {K : PySem.W.Frag} {D : Addr} {tA : TA} {ds : List SD} {ms : List MD} {P : Po} {R : RS}
end
/-! ### what classes are, and are not, of each other -/
end Hc

namespace Hc
open PySem PySem.Spec PyProof.Rows L2
/-! ### tuples that are known to be bare: they have methods -/
/-- tuple(xs) of a list, and what is known of the new object -/
def rTupF (K : PySem.W.Frag) : List V → Hp → VK → Prop := fun xs H Q => ∃ p ys, xs = [.ref p] ∧ SqL K H p ys ∧ ∀ (l : Addr) (o : Obj), H l = none → o.cls = .type "tuple" → o.dict = none → Q (.ref l) (upd H l (.frz o (.tup ys)))
theorem cr_tupF {X : Cx} : CallR X (.type "tuple") (rTupF X.K) := by
  rintro pins s σ H xs us Q I r ⟨p, ys, rfl, hq, q⟩
  obtain ⟨u, rfl, ru⟩ := Vals.one r
  cases ru
  obtain ⟨vs, rv, plain, fits⟩ := I.list hq
  refine call_tuple_list plain.isList (fun h1 kept => ?_) (by rw [List.size_toArray, ← rv.length]; exact fits)
  have J : Inv X pins σ H { s with heap := h1 } := I.kept (t' := s.toks) kept
  have there := Heap.get?_push_size (o := ({ cls := .type "tuple", data := .seq vs.toArray } : Obj)) h1 rfl
  have nw : ObjOk X.prog X.w (upd H h1.objs.size (.frz { cls := .type "tuple", data := .seq vs.toArray } (.tup ys))) (h1.push { cls := .type "tuple", data := .seq vs.toArray }) h1.objs.size (.frz { cls := .type "tuple", data := .seq vs.toArray } (.tup ys)) := ⟨there, fits, vs, rv, IsTup.new _ _⟩
  exact ⟨.ref h1.objs.size, _, J.laid (t' := s.toks) (fun b o z => Heap.get?_push_of_some _ z) (Nat.le_refl _) nw, rfl, q _ _ (J.hok.fresh (Nat.le_refl _)) rfl rfl⟩
/-- t.index(i), t such a tuple of ints -/
def tTIdx (to : TE) (t : TA) : TE := fun σ H Q => to σ H fun v H1 => ∃ (a : Addr) (o : Obj) (ns : List Int), v = .ref a ∧ H1 a = some (.frz o (.tup (ns.map V.int))) ∧ o.cls = .type "tuple" ∧ o.dict = none ∧ t σ H1 fun vs H2 => ∃ i, vs = [.int i] ∧ H2 a = some (.frz o (.tup (ns.map V.int))) ∧ i ∈ ns ∧ Q (.int (ns.idxOf i : Nat)) H2
theorem pe_tidx {X : Cx} {o e : Expr} {es : List Expr} {to : TE} {t : TA} {apos cpos : Pos} (ho : PE X o to) (ha : PA X (e :: es) t)
    (hbase : attributeBase o "index" X.env (eval o X.env) = eval o X.env := by rfl)
    (hfew : ((backTo cpos (starEach (e :: es) X.env)).all (fun x => !x.1) && (backToKw cpos (keywordEach [] X.env)).all (fun x => x.1.isSome) && decide ((e :: es).length + ([] : List Keyword).length + (if ([] : List Keyword).isEmpty then 0 else 1) < 30)) = true := by rfl)
    (hline : (apos.endLine == cpos.line) = true := by rfl) (hs : starEach (e :: es) X.env = (false, eval e X.env) :: starEach es X.env := by rfl) (bare : (backTo cpos (starEach es X.env)).any (·.1) = false := by rfl) :
    PE X (.Call (.Attribute o "index" apos) (e :: es) [] cpos) (tTIdx to t) := by
  constructor
  intro pins s σ H Q I h
  refine wpAny_Call_method_late hbase hfew hline rfl (thn (ho.run pins s σ H _ I h) fun v s1 ⟨x, H1, I1, r1, q1⟩ => ?_)
  obtain ⟨a, ob, ns, rfl, fz, hc, hd, q1⟩ := q1
  cases r1
  have g1 := (show ObjOk X.prog X.w H1 s1.heap a (.frz ob (.tup (ns.map V.int))) from I1.hok a _ fz).1
  refine ⟨"tuple", "tuple.index", PySem.F.plainAttrs_tuple, PySem.F.slot_tuple_index, PySem.F.type_tuple_index, ⟨ob, g1, hc⟩, fun b z => by cases z; exact ⟨ob, g1, hd⟩, ?_⟩
  have args := ha.run cpos pins s1 σ H1 _ I1 q1
  rw [hs] at args ⊢
  refine Calls.callWith_builtin (by show (false || (backTo cpos (starEach es X.env)).any (·.1)) = false; rw [bare]; rfl) (Calls.evalArgs_plain ?_)
  refine thn args fun us s2 ⟨vs, H2, I2, r2, i, e2, fz2, mem, q2⟩ => ?_
  subst e2
  obtain ⟨u, rfl, ru⟩ := Vals.one r2
  obtain ⟨tk, rfl⟩ := ru
  obtain ⟨_, _, its, rv, tp⟩ := show ObjOk X.prog X.w H2 s2.heap a (.frz ob (.tup (ns.map V.int))) from I2.hok a _ fz2
  exact SeqAt.tuple_index_ints tp (Vals.ints rv) mem ⟨.int (ns.idxOf i : Nat), H2, I2.kept (t' := s2.toks + 1) fun _ _ z => z, ⟨_, rfl⟩, q2⟩
section
variable {K : PySem.W.Frag} {te ta tb tc tl : TE} {tt : TT} {tA : TA} {ds : List SD} {ms : List MD} {R : RS} {P : Po}
/-- such a tuple of ints -/
def TupI (ns : List Int) (M : List Addr) (H : Hp) (v : V) : Prop := ∃ (b : Addr) (o : Obj), v = .ref b ∧ b ∉ M ∧ H b = some (.frz o (.tup (ns.map V.int))) ∧ o.cls = .type "tuple" ∧ o.dict = none
theorem TupI.stb (ns : List Int) : Stb (TupI ns) := fun M M' H H' v t ⟨b, o, e, n, q, c, d⟩ => ⟨b, o, e, (t _ _ n q).1, (t _ _ n q).2, c, d⟩
abbrev tiS (ns : List Int) : SD := .w (TupI ns)
theorem TupI.sq {ns : List Int} {M : List Addr} {H : Hp} {v : V} (h : TupI ns M H v) : ∃ a, v = .ref a ∧ SqT K H a (ns.map V.int) := by
  obtain ⟨b, o, e, n, q, c, d⟩ := h
  exact ⟨b, e, .inl (.inr ⟨o, q⟩)⟩
theorem e_varw {i : Nat} {φ : List Addr → Hp → V → Prop} (h : ds[i]? = some (.w φ)) (r : R (.w φ) ms) : E K (tVar i) ds ms R := fun L M σ H hS hA Q q => by
  obtain ⟨v, e, o⟩ := hS.get h (fun z => nomatch z)
  exact ⟨v, e, q _ v H ms (Wk.refl L H) (.of hA o) r⟩
theorem rc_tupF {as : List SD} (h : ∃ s ns, as = [s] ∧ Sv ms s (.list (ns.map .int)) ∧ R (tiS ns) ms) : RC K (rTupF K) as ms R := fun L M H vs hA ha Q q => by
  obtain ⟨s, ns, rfl, sv, r⟩ := h
  obtain ⟨v, t, rfl, hv, rfl⟩ := ha
  obtain ⟨p, xs, rfl, hq, hr⟩ := sv.lst hA hv
  refine ⟨p, xs, rfl, hq, fun l o hl hc hd => ?_⟩
  have ex := RpA.ints_inv hr
  subst ex
  exact q (tiS ns) _ _ ms (Wk.new hl) ⟨hA.new hl, ⟨l, o, rfl, hA.fresh hl, upd_same, hc, hd⟩, TupI.stb ns⟩ r
/-- ("groups", such a tuple, a datum) -/
def Told3 (z : Str) (ns : List Int) (x : PyData) (M : List Addr) (H : Hp) (v : V) : Prop := ∃ (a : Addr) (u w : V), v = .ref a ∧ a ∉ M ∧ H a = some (.tup [.str z, u, w]) ∧ TupI ns M H u ∧ Rp M H w x
theorem Told3.stb (z : Str) (ns : List Int) (x : PyData) : Stb (Told3 z ns x) := fun M M' H H' v t ⟨a, u, w, e, n, q, hu, hw⟩ => ⟨a, u, w, e, (t _ _ n q).1, (t _ _ n q).2, TupI.stb ns _ _ _ _ _ t hu, hw.toP t⟩
abbrev t3S (z : Str) (ns : List Int) (x : PyData) : SD := .w (Told3 z ns x)
theorem e_tup3 {z : Str} (h : E K ta ds ms fun s ms1 => ∃ ns, s = tiS ns ∧ E K tb ds ms1 fun s2 ms2 => ∃ x, dd s2 = .d x ∧ R (t3S z ns x) ms2) : E K (tTup (tCons (tC (.str z)) (tCons ta (tCons tb tNil)))) ds ms R := fun L M σ H hS hA Q q =>
  h L M σ H hS hA _ fun s u H1 ms1 w1 o1 ⟨ns, e, h1⟩ => by
    subst e
    have a1 := o1.at
    refine h1 L M σ H1 (hS.mono hA w1) a1 _ fun s2 w H2 ms2 w2 o2 ⟨x, e2, r⟩ => ?_
    have a2 := o2.at
    have hw := o2.sl
    rw [e2] at hw
    have hu : TupI ns M H2 u := TupI.stb ns _ _ _ _ _ (a1.wk w2) o1.2.1
    refine ⟨by show 3 ≤ sizeLine; decide, fun p hp => ?_⟩
    have wn : Wk L H2 (upd H2 p (.tup [.str z, u, w])) := Wk.new hp
    have t := a2.wk wn
    exact q (t3S z ns x) _ _ ms2 ((w1.trans w2).trans wn) ⟨a2.new hp, ⟨p, u, w, rfl, a2.fresh hp, upd_same, TupI.stb ns _ _ _ _ _ t hu, Rp.to t _ _ hw⟩, Told3.stb z ns x⟩ r
/-- of such slots: their type, their length -/
def TupW (φ : List Addr → Hp → V → Prop) (n : Nat) : Prop := ∀ M H v, φ M H v → ∃ (a : Addr) (xs : List V), v = .ref a ∧ xs.length = n ∧ (H a = some (.tup xs) ∨ ∃ o, H a = some (.frz o (.tup xs)))
theorem TupI.tup (ns : List Int) : TupW (TupI ns) ns.length := fun M H v ⟨b, o, e, n, q, c, d⟩ => ⟨b, _, e, by simp, .inr ⟨o, q⟩⟩
theorem Told3.tup (z : Str) (ns : List Int) (x : PyData) : TupW (Told3 z ns x) 3 := fun M H v ⟨a, u, w, e, n, q, hu, hw⟩ => ⟨a, _, e, rfl, .inl q⟩
theorem e_isiW {φ : List Addr → Hp → V → Prop} {n : Nat} (hφ : TupW φ n) (hT : ∀ d, kitB (tyN d) "tuple" = some (inst d "tuple")) (h : E K te ds ms fun s ms1 => s = .w φ ∧ R (.d (.bool true)) ms1) : E K (tCB (rIsi K) (tCons te (tCons (tC (.ty "tuple")) tNil))) ds ms R := fun L M σ H hS hA Q q =>
  h L M σ H hS hA _ fun s v H1 ms1 w o ⟨e, r⟩ => by
    subst e
    obtain ⟨a, xs, ev, _, q1⟩ := hφ M H1 v o.2.1
    have ty : TyX K H1 v (.type "tuple") := by
      subst ev
      rcases q1 with q1 | ⟨ob, q1⟩
      · exact .base (.tup q1)
      · exact .fTuple q1
    have kit : kitB (tyN (.tuple [])) "tuple" = some true := by rw [hT]; exact congrArg some (by decide +kernel : inst (.tuple []) "tuple" = true)
    exact ⟨v, .ty "tuple", .type "tuple", .type "tuple", true, rfl, .ty "tuple", ty, kit_ty kit, q (.d (.bool true)) _ H1 ms1 w ⟨o.1, .bl true⟩ r⟩
theorem rc_lenW {φ : List Addr → Hp → V → Prop} {n : Nat} (hφ : TupW φ n) {as : List SD} (h : as = [.w φ] ∧ R (.d (.int n)) ms) : RC K (rLenQ K) as ms R := fun L M H vs hA ha Q q => by
  obtain ⟨rfl, r⟩ := h
  obtain ⟨v, t, rfl, hv, rfl⟩ := ha
  obtain ⟨a, xs, ev, len, q1⟩ := hφ M H v hv.1
  subst ev
  rw [← len] at r
  exact ⟨a, xs, rfl, .inr (.inl q1), q (.d _) _ H ms (Wk.refl L H) ⟨hA, .int _⟩ r⟩
/-- items -/
theorem rr_ixI {a b : SD} (h : ∃ ns i k, a = tiS ns ∧ b = .d (.int i) ∧ atI (ns.map PyData.int) i = some (.int k) ∧ R (.d (.int k)) ms) : RR K (rIx K) a b ms R := fun L M H x y hA ha hb Q q => by
  obtain ⟨ns, i, k, rfl, rfl, e, r⟩ := h
  cases hb
  obtain ⟨p, rfl, sq⟩ := ha.1.sq (K := K)
  obtain ⟨v, e1, e2⟩ := atI_of (M := M) (H := H) (RpA.ints ns) e
  cases e2
  exact .inr (.inl ⟨p, _, i, _, rfl, rfl, sq, e1, q (.d (.int k)) _ H ms (Wk.refl L H) ⟨hA, .int k⟩ r⟩)
theorem rr_ixT0 {z : Str} {a b : SD} (h : ∃ ns x, a = t3S z ns x ∧ b = .d (.int 0) ∧ R (.d (.str z)) ms) : RR K (rIx K) a b ms R := fun L M H x y hA ha hb Q q => by
  obtain ⟨ns, d, rfl, rfl, r⟩ := h
  cases hb
  obtain ⟨p, u, w, rfl, n, e, hu, hw⟩ := ha.1
  exact .inr (.inl ⟨p, _, 0, _, rfl, rfl, SqT.of e, rfl, q (.d (.str z)) _ H ms (Wk.refl L H) ⟨hA, .str z⟩ r⟩)
/-- a, b = t[1:], t of the three -/
theorem s_cut3 {z : Str} {i j : Nat} (hij : i ≠ j) (h : E K te ds ms fun s ms1 => ∃ ns x, s = t3S z ns x ∧ P.nx ((ds.set i (tiS ns)).set j (.d x)) ms1) : S K (tAsg (tSl (rSlA K) te (tPart (tC (.int 1))) tNoPart) (gTup K 2 (gCons (gName i) (gCons (gName j) gNil)))) ds ms P := fun L M σ H hS hA D n r b c =>
  h L M σ H hS hA _ fun s v H1 ms1 w o ⟨ns, x, e, h1⟩ => by
    subst e
    have a1 := o.1
    obtain ⟨p, u, y, rfl, np, ep, hu, hy⟩ := o.2.1
    have wh : ¬ (HT.sIx ([V.str z, u, y] : List V).length 0 (some 1) = 0 ∧ HT.sIx ([V.str z, u, y] : List V).length ([V.str z, u, y] : List V).length none = ([V.str z, u, y] : List V).length) := fun q => absurd q.1 (by show ¬ HT.sIx 3 0 (some 1) = 0; decide)
    refine ⟨1, rfl, p, [.str z, u, y], rfl, SqT.of ep, fun q => absurd q wh, fun _ l hl => ?_⟩
    have wn : Wk L H1 (upd H1 l (.tup (cutV [.str z, u, y] (some 1) none))) := Wk.new hl
    have t := a1.wk wn
    have cut : cutV [.str z, u, y] (some 1) none = [u, y] := rfl
    refine ⟨l, [u, y], rfl, SqT.of (by rw [← cut]; exact upd_same), rfl, u, [y], rfl, y, [], rfl, rfl, ?_⟩
    have s1 := ((hS.mono hA w).mono a1 wn).set i (s := tiS ns) (v := u) ⟨TupI.stb ns _ _ _ _ _ t hu, TupI.stb ns⟩
    have s2 := s1.set j (s := .d x) (v := y) (Rp.to t _ _ hy)
    exact n _ _ _ ms1 (w.trans wn) s2 (a1.new hl) h1
/-- such a tuple and a datum's, one behind the other -/
theorem rr_catI {a b : SD} (h : ∃ ns es, a = tiS ns ∧ b = .d (.tuple es) ∧ ns ≠ [] ∧ es ≠ [] ∧ ns.length + es.length ≤ 10000 ∧ R (.d (.tuple (ns.map .int ++ es))) ms) : RR K (rCatA K) a b ms R := fun L M H x y hA ha hb Q q => by
  obtain ⟨ns, es, rfl, rfl, n0, e0, hz, r⟩ := h
  obtain ⟨p, rfl, sq⟩ := ha.1.sq (K := K)
  cases hb with
  | @tup b ys _ nb eb rb =>
  refine ⟨p, b, _, ys, rfl, rfl, sq, SqT.of eb, by rw [List.length_map, rb.length]; exact Nat.le_trans hz (by decide), fun z => absurd z (by simpa using n0), fun _ z => ?_, fun _ _ l hl => ?_⟩
  · subst z
    cases rb
    exact absurd rfl e0
  · have wn : Wk L H (upd H l (.tup (ns.map V.int ++ ys))) := Wk.new hl
    exact q (.d (.tuple (ns.map .int ++ es))) _ _ ms wn ⟨hA.new hl, .tup (hA.fresh hl) upd_same (RpA.to (hA.wk wn) _ _ ((RpA.ints ns).append rb))⟩ r
theorem rr_neI {a b : SD} (h : ∃ ns y, a = tiS ns ∧ Sv ms b y ∧ SeqAt.shaped (.tuple (ns.map .int)) = true ∧ SeqAt.shaped y = true ∧ R (.d (.bool (!PyData.eqv (.tuple (ns.map .int)) y))) ms) : RR K (rNeD K) a b ms R := fun L M H u v hA ha hb Q q => by
  obtain ⟨ns, y, rfl, eb, s1, s2, r⟩ := h
  obtain ⟨p, rfl, sq⟩ := ha.1.sq (K := K)
  have dp : Dp K H (.ref p) (.tuple (ns.map .int)) := .tup sq (RpA.dp (K := K) (L := M) (H := H) _ _ (by have := SeqAt.canLay_of_shaped s1; simpa [PyData.canLay0] using this) (RpA.ints ns))
  exact ⟨_, y, dp, eb.dp hA hb (SeqAt.canLay_of_shaped s2), s1, s2, q (.d _) _ H ms (Wk.refl L H) ⟨hA, .bl _⟩ r⟩
/-- t.index(i) -/
theorem e_tidx (h : E K te ds ms fun s ms1 => ∃ ns, s = tiS ns ∧ E K ta ds ms1 fun s2 ms2 => ∃ i, s2 = .d (.int i) ∧ i ∈ ns ∧ R (.d (.int (ns.idxOf i : Nat))) ms2) : E K (tTIdx te (tCons ta tNil)) ds ms R := fun L M σ H hS hA Q q =>
  h L M σ H hS hA _ fun s v H1 ms1 w1 o1 ⟨ns, e, h1⟩ => by
    subst e
    have a1 := o1.1
    obtain ⟨p, ob, rfl, np, ep, hc, hd⟩ := o1.2.1
    refine ⟨p, ob, ns, rfl, ep, hc, hd, ?_⟩
    refine h1 L M σ H1 (hS.mono hA w1) a1 _ fun s2 k H2 ms2 w2 o2 ⟨i, e2, mem, r⟩ => ?_
    subst e2
    obtain ⟨a2, hk⟩ := o2
    cases hk
    exact ⟨i, rfl, w2 p _ (fun z => np (a1.sub p z)) ep, mem, q (.d _) _ H2 ms2 (w1.trans w2) ⟨a2, .int _⟩ r⟩
end
end Hc

namespace K14
open PySem PySem.Spec PyProof.Rows L2 Hc
def topS (i : Nat) : Stmt := PySem.Challenge.pw_heavycut_k14_groups_and_marks.main.body.getD i (.Pass ⟨0, 0, 0, 0⟩)
def blt : List Str := ["bool", "isinstance", "int", "tuple", "list", "len", "range", "enumerate", "sorted", "min", "all", "repr"]
structure Cls (K : PySem.W.Frag) (mg : Str → Option Value) (C_CutError C_NoWishes : Addr) : Prop where
  g_CutError : mg "CutError" = some (.ref C_CutError)
  g_NoWishes : mg "NoWishes" = some (.ref C_NoWishes)
  er_NoWishes : Er K mg "NoWishes" C_NoWishes
  k_NoWishes_CutError : PySem.W.kitOne K (.ref C_NoWishes) (.ref C_CutError) = some true
  k_NoWishes_ValueError : PySem.W.kitOne K (.ref C_NoWishes) (.type "ValueError") = some true
abbrev s_is_whole : Stmt := topS 4
theorem sc_is_whole : FnScope ["thing"] ["thing"] (defScope s_is_whole) := ⟨rfl, rfl, rfl, by decide +kernel, rfl, by decide +kernel, by decide +kernel⟩
abbrev s_is_row : Stmt := topS 5
theorem sc_is_row : FnScope ["thing"] ["thing"] (defScope s_is_row) := ⟨rfl, rfl, rfl, by decide +kernel, rfl, by decide +kernel, by decide +kernel⟩
abbrev s_is_triple : Stmt := topS 6
theorem sc_is_triple : FnScope ["thing"] ["thing"] (defScope s_is_triple) := ⟨rfl, rfl, rfl, by decide +kernel, rfl, by decide +kernel, by decide +kernel⟩
abbrev s_is_number_of : Stmt := topS 7
theorem sc_is_number_of : FnScope ["many", "thing"] ["many", "thing"] (defScope s_is_number_of) := ⟨rfl, rfl, rfl, by decide +kernel, rfl, by decide +kernel, by decide +kernel⟩
abbrev s_are_unlike_points : Stmt := topS 8
theorem sc_are_unlike_points : FnScope ["many", "one", "other"] ["many", "one", "other"] (defScope s_are_unlike_points) := ⟨rfl, rfl, rfl, by decide +kernel, rfl, by decide +kernel, by decide +kernel⟩
abbrev s_joins_at : Stmt := topS 10
theorem sc_joins_at : FnScope ["many", "joins", "near", "point", "number", "one", "other", "apart"] ["many", "joins"] (defScope s_joins_at) := ⟨rfl, rfl, rfl, by decide +kernel, rfl, by decide +kernel, by decide +kernel⟩
abbrev s_group_from : Stmt := topS 11
theorem sc_group_from : FnScope ["near", "first", "found", "waiting", "point", "mark", "way", "number", "other", "apart"] ["near", "first"] (defScope s_group_from) := ⟨rfl, rfl, rfl, by decide +kernel, rfl, by decide +kernel, by decide +kernel⟩
abbrev s_spread : Stmt := topS 12
theorem sc_spread : FnScope ["many", "joins", "near", "groups", "marks", "ways", "count", "first", "point", "mark", "way"] ["many", "joins"] (defScope s_spread) := ⟨rfl, rfl, rfl, by decide +kernel, rfl, by decide +kernel, by decide +kernel⟩
abbrev s_ring_closed : Stmt := topS 13
theorem sc_ring_closed : FnScope ["way", "other_way", "number", "alone", "step", "other_alone"] ["way", "other_way", "number"] (defScope s_ring_closed) := ⟨rfl, rfl, rfl, by decide +kernel, rfl, by decide +kernel, by decide +kernel⟩
abbrev s_odd_rings : Stmt := topS 14
theorem sc_odd_rings : FnScope ["joins", "marks", "ways", "rings", "number", "one", "other", "apart"] ["joins", "marks", "ways"] (defScope s_odd_rings) := ⟨rfl, rfl, rfl, by decide +kernel, rfl, by decide +kernel, by decide +kernel⟩
abbrev s_parted : Stmt := topS 15
theorem sc_parted : FnScope ["many", "joins", "groups", "marks", "ways", "rings", "point"] ["many", "joins"] (defScope s_parted) := ⟨rfl, rfl, rfl, by decide +kernel, rfl, by decide +kernel, by decide +kernel⟩
abbrev s_is_wish : Stmt := topS 18
theorem sc_is_wish : FnScope ["web", "thing", "one", "other", "apart"] ["web", "thing"] (defScope s_is_wish) := ⟨rfl, rfl, rfl, by decide +kernel, rfl, by decide +kernel, by decide +kernel⟩
abbrev s_made_wishes : Stmt := topS 19
theorem sc_made_wishes : FnScope ["web", "thing", "wish"] ["web", "thing"] (defScope s_made_wishes) := ⟨rfl, rfl, rfl, by decide +kernel, rfl, by decide +kernel, by decide +kernel⟩
abbrev s_keeps : Stmt := topS 20
theorem sc_keeps : FnScope ["web", "wishes", "side", "told", "one", "other", "apart"] ["web", "wishes", "side"] (defScope s_keeps) := ⟨rfl, rfl, rfl, by decide +kernel, rfl, by decide +kernel, by decide +kernel⟩
abbrev s_grouped : Stmt := topS 21
theorem sc_grouped : FnScope ["web", "wishes"] ["web", "wishes"] (defScope s_grouped) := ⟨rfl, rfl, rfl, by decide +kernel, rfl, by decide +kernel, by decide +kernel⟩
abbrev s__law_int : Stmt := topS 23
theorem sc__law_int : FnScope ["_law_found"] ["_law_found"] (defScope s__law_int) := ⟨rfl, rfl, rfl, by decide +kernel, rfl, by decide +kernel, by decide +kernel⟩
abbrev s__law_truth : Stmt := topS 24
theorem sc__law_truth : FnScope ["_law_found", "_law_due"] ["_law_found", "_law_due"] (defScope s__law_truth) := ⟨rfl, rfl, rfl, by decide +kernel, rfl, by decide +kernel, by decide +kernel⟩
abbrev s__law_stream : Stmt := topS 25
theorem sc__law_stream : FnScope ["_law_cell", "_law_many", "_law_found", "_law_rest", "_law_k", "_law_number", "_law_other"] ["_law_cell", "_law_many"] (defScope s__law_stream) := ⟨rfl, rfl, rfl, by decide +kernel, rfl, by decide +kernel, by decide +kernel⟩
abbrev s__law_next : Stmt := topS 26
theorem sc__law_next : FnScope ["_law_xs"] ["_law_xs"] (defScope s__law_next) := ⟨rfl, rfl, rfl, by decide +kernel, rfl, by decide +kernel, by decide +kernel⟩
abbrev s__law_wishes : Stmt := topS 27
theorem sc__law_wishes : FnScope ["_law_xs", "_law_many", "_law_side", "_law_count", "_law_near", "_law_found", "_law_k", "_law_x", "_law_a", "_law_b"] ["_law_xs", "_law_many", "_law_side"] (defScope s__law_wishes) := ⟨rfl, rfl, rfl, by decide +kernel, rfl, by decide +kernel, by decide +kernel⟩
abbrev s__law_groups : Stmt := topS 28
theorem sc__law_groups : FnScope ["_law_many", "_law_wishes_here", "_law_found", "_law_before", "_law_a", "_law_b", "_law_unlike", "_law_least", "_law_firsts", "_law_point", "_law_first"] ["_law_many", "_law_wishes_here"] (defScope s__law_groups) := ⟨rfl, rfl, rfl, by decide +kernel, rfl, by decide +kernel, by decide +kernel⟩
abbrev s__law_keeps : Stmt := topS 29
theorem sc__law_keeps : FnScope ["_law_wishes_here", "_law_side", "_law_a", "_law_b", "_law_unlike"] ["_law_wishes_here", "_law_side"] (defScope s__law_keeps) := ⟨rfl, rfl, rfl, by decide +kernel, rfl, by decide +kernel, by decide +kernel⟩
abbrev s__law_right : Stmt := topS 30
theorem sc__law_right : FnScope ["_law_many", "_law_wishes_here", "_law_found", "_law_groups_here", "_law_marks", "_law_x", "_law_point", "_law_mark"] ["_law_many", "_law_wishes_here", "_law_found"] (defScope s__law_right) := ⟨rfl, rfl, rfl, by decide +kernel, rfl, by decide +kernel, by decide +kernel⟩
abbrev s_law : Stmt := topS 31
theorem sc_law : FnScope ["_law_script", "_law_cell", "_law_xs", "_law_many", "_law_bits", "_law_wishes_here", "_law_other", "_law_web", "_law_thing", "_law_form", "_law_before", "_law_k", "_law_wish"] ["_law_script"] (defScope s_law) := ⟨rfl, rfl, rfl, by decide +kernel, rfl, by decide +kernel, by decide +kernel⟩
structure Csts (mg : Str → Option Value) : Prop where
  c_MOST_WISHES : ∃ t, mg "MOST_WISHES" = some (.int 120 t)
section
variable {Pg : Program} {w : World} {K : PySem.W.Frag} {mg : Str → Option Value} {base : Heap}
def t_is_whole (K : PySem.W.Frag) : TS := (tRet (tAndV (tCB (rIsi K) (tCons (tVar 0) (tCons (tC (.ty "int")) tNil))) (tNotV (tCB (rIsi K) (tCons (tVar 0) (tCons (tC (.ty "bool")) tNil))))))
theorem dv_is_whole {f : Addr} {cdv : Value} {A : Around} {outer : List Env} {s : Shared} {H : Hp} {E : XK} (hr : Room 0 (A.deeper (envOfC "is_whole" (defScope s_is_whole) s.heap.objs.size f cdv))) (B : ∀ x, x ∈ blt → mg x = none) (cs : Csts mg) :
    PSs (cxOf CX0 Pg w K mg base ["thing"] "is_whole" (defScope s_is_whole) f cdv A outer s H E).nox (defBody s_is_whole) (t_is_whole K) :=
  (pss_one (ps_ret (pe_and (pe_callB call_isi (by rfl) (B "isinstance" (by decide)) (by decide +kernel) (pa_cons (pv 0) (pa_cons (pe_bltn (by rfl) (B "int" (by decide)) (by decide +kernel) rfl) pa_nil))) (pe_one (pe_not (pe_callB call_isi (by rfl) (B "isinstance" (by decide)) (by decide +kernel) (pa_cons (pv 0) (pa_cons (pe_bltn (by rfl) (B "bool" (by decide)) (by decide +kernel) rfl) pa_nil))))))))
def t_is_row (K : PySem.W.Frag) : TS := (tRet (tCB (rIsiT K) (tCons (tVar 0) (tCons (tTup (tCons (tC (.ty "list")) (tCons (tC (.ty "tuple")) tNil))) tNil))))
theorem dv_is_row {f : Addr} {cdv : Value} {A : Around} {outer : List Env} {s : Shared} {H : Hp} {E : XK} (hr : Room 0 (A.deeper (envOfC "is_row" (defScope s_is_row) s.heap.objs.size f cdv))) (B : ∀ x, x ∈ blt → mg x = none) (cs : Csts mg) :
    PSs (cxOf CX0 Pg w K mg base ["thing"] "is_row" (defScope s_is_row) f cdv A outer s H E).nox (defBody s_is_row) (t_is_row K) :=
  (pss_one (ps_ret (pe_callB call_isiT (by rfl) (B "isinstance" (by decide)) (by decide +kernel) (pa_cons (pv 0) (pa_cons (pe_tup (pa_cons (pe_bltn (by rfl) (B "list" (by decide)) (by decide +kernel) rfl) (pa_cons (pe_bltn (by rfl) (B "tuple" (by decide)) (by decide +kernel) rfl) pa_nil))) pa_nil)))))
def t_is_triple (K : PySem.W.Frag) (Φ_is_row : Ph) : TS := (tRet (tAndV (tCall (SpD K Φ_is_row) [] E0 (tCons (tVar 0) tNil)) (tOp (rEqD K) (tCB (rLenQ K) (tCons (tVar 0) tNil)) (tC (.int 3)))))
theorem dv_is_triple {f : Addr} {cdv : Value} {A : Around} {outer : List Env} {s : Shared} {H : Hp} {E : XK} (hr : Room 1 (A.deeper (envOfC "is_triple" (defScope s_is_triple) s.heap.objs.size f cdv))) (B : ∀ x, x ∈ blt → mg x = none) (cs : Csts mg) {Φ_is_row : Ph} (g_is_row : Kn Pg w K mg base "is_row" 1 ["thing"] Φ_is_row) :
    PSs (cxOf CX0 Pg w K mg base ["thing"] "is_triple" (defScope s_is_triple) f cdv A outer s H E).nox (defBody s_is_triple) (t_is_triple K Φ_is_row) :=
  (pss_one (ps_ret (pe_and (pe_callD g_is_row (hr.mono (by decide)) (by rfl) (pa_cons (pv 0) pa_nil)) (pe_one (pe_cmpR (op_eqD hr.units) (pe_callB call_len_seq (by rfl) (B "len" (by decide)) (by decide +kernel) (pa_cons (pv 0) pa_nil)) pe_int (nomark _))))))
def t_is_number_of (K : PySem.W.Frag) (Φ_is_whole : Ph) : TS := (tRet (tAndV (tCall (SpD K Φ_is_whole) [] E0 (tCons (tVar 1) tNil)) (tChain rLeI rLtI (tC (.int 0)) (tVar 1) (tVar 0))))
theorem dv_is_number_of {f : Addr} {cdv : Value} {A : Around} {outer : List Env} {s : Shared} {H : Hp} {E : XK} (hr : Room 1 (A.deeper (envOfC "is_number_of" (defScope s_is_number_of) s.heap.objs.size f cdv))) (B : ∀ x, x ∈ blt → mg x = none) (cs : Csts mg) {Φ_is_whole : Ph} (g_is_whole : Kn Pg w K mg base "is_whole" 1 ["thing"] Φ_is_whole) :
    PSs (cxOf CX0 Pg w K mg base ["many", "thing"] "is_number_of" (defScope s_is_number_of) f cdv A outer s H E).nox (defBody s_is_number_of) (t_is_number_of K Φ_is_whole) :=
  (pss_one (ps_ret (pe_and (pe_callD g_is_whole (hr.mono (by decide)) (by rfl) (pa_cons (pv 1) pa_nil)) (pe_one (pe_chain op_le op_lt pe_int (pv 1) (pv 0))))))
def t_are_unlike_points (K : PySem.W.Frag) (Φ_is_number_of : Ph) : TS := (tRet (tAndV (tCall (SpD K Φ_is_number_of) [] E0 (tCons (tVar 0) (tCons (tVar 1) tNil))) (tAndV (tCall (SpD K Φ_is_number_of) [] E0 (tCons (tVar 0) (tCons (tVar 2) tNil))) (tOp (rNeD K) (tVar 1) (tVar 2)))))
theorem dv_are_unlike_points {f : Addr} {cdv : Value} {A : Around} {outer : List Env} {s : Shared} {H : Hp} {E : XK} (hr : Room 2 (A.deeper (envOfC "are_unlike_points" (defScope s_are_unlike_points) s.heap.objs.size f cdv))) (B : ∀ x, x ∈ blt → mg x = none) (cs : Csts mg) {Φ_is_number_of : Ph} (g_is_number_of : Kn Pg w K mg base "is_number_of" 2 ["many", "thing"] Φ_is_number_of) :
    PSs (cxOf CX0 Pg w K mg base ["many", "one", "other"] "are_unlike_points" (defScope s_are_unlike_points) f cdv A outer s H E).nox (defBody s_are_unlike_points) (t_are_unlike_points K Φ_is_number_of) :=
  (pss_one (ps_ret (pe_and (pe_callD g_is_number_of (hr.mono (by decide)) (by rfl) (pa_cons (pv 0) (pa_cons (pv 1) pa_nil))) (pe_and (pe_callD g_is_number_of (hr.mono (by decide)) (by rfl) (pa_cons (pv 0) (pa_cons (pv 2) pa_nil))) (pe_one (pe_cmpR (op_neD hr.units) (pv 1) (pv 2) (nomark _)))))))
def t_joins_at (K : PySem.W.Frag) : TS := (tSeq (tAsg (tLc (iRng1 (tCons (tVar 0) tNil)) (gName 3) tYes (tLst tNil) [3]) (gName 2))
    (tSeq (tFor (iEnT K (tCons (tVar 1) tNil)) (gTup K 2 (gCons (gName 4) (gCons (gTup K 3 (gCons (gName 5) (gCons (gName 6) (gCons (gName 7) gNil)))) gNil))) (tSeq (tDrop (tBM K "list" rAppend (tOp (rIx K) (tVar 2) (tVar 5)) (tCons (tTup (tCons (tVar 4) (tCons (tVar 6) (tCons (tVar 7) tNil)))) tNil)))
    (tDrop (tBM K "list" rAppend (tOp (rIx K) (tVar 2) (tVar 6)) (tCons (tTup (tCons (tVar 4) (tCons (tVar 5) (tCons (tVar 7) tNil)))) tNil)))))
    (tRet (tVar 2))))
theorem dv_joins_at {f : Addr} {cdv : Value} {A : Around} {outer : List Env} {s : Shared} {H : Hp} {E : XK} (hr : Room 0 (A.deeper (envOfC "joins_at" (defScope s_joins_at) s.heap.objs.size f cdv))) (B : ∀ x, x ∈ blt → mg x = none) (cs : Csts mg) :
    PSs (cxOf CX0 Pg w K mg base ["many", "joins", "near", "point", "number", "one", "other", "apart"] "joins_at" (defScope s_joins_at) f cdv A outer s H E).nox (defBody s_joins_at) (t_joins_at K) :=
  (pss_cons (ps_setLc (i := 2) (own := [("point", 3)]) (g := (gName 3)) (tt := tYes) rfl sc_joins_at.nd rfl rfl (sw_true rfl rfl rfl (by decide +kernel)) (pi_range1 (by rfl) (B "range" (by decide)) (pa_cons (pv 0) pa_nil)) (blkOk_by (own := [("point", 3)]) (N := ["many", "joins", "near", "point", "number", "one", "other", "apart"]) (sc := defScope s_joins_at) (by decide +kernel)) (fun _ _ _ _ _ => (pg_name (i := 3) sc_joins_at.nd rfl (by first | exact .inl rfl | exact .inr rfl))) (fun _ _ _ _ _ => pts_nil) (fun _ _ _ _ _ => (pe_lst pa_nil)))
      (pss_cons (ps_for PassesOwn.never rfl (pi_enT (by rfl) (B "enumerate" (by decide)) (pa_cons (pv 1) pa_nil)) (pg_tup rfl (pgs_cons (pg_name (i := 4) sc_joins_at.nd rfl (by first | exact .inl rfl | exact .inr rfl)) (pgs_cons (pg_tup rfl (pgs_cons (pg_name (i := 5) sc_joins_at.nd rfl (by first | exact .inl rfl | exact .inr rfl)) (pgs_cons (pg_name (i := 6) sc_joins_at.nd rfl (by first | exact .inl rfl | exact .inr rfl)) (pgs_cons (pg_name (i := 7) sc_joins_at.nd rfl (by first | exact .inl rfl | exact .inr rfl)) pgs_nil)))) pgs_nil))) (pss_cons (ps_expr (pe_bm PySem.F.plainAttrs_list PySem.F.slot_list_append PySem.F.type_list_append mt_append (pe_ix ix_seq (pv 2) (pv 5) (fun _ _ => rfl)) (pa_cons (pe_tup (pa_cons (pv 4) (pa_cons (pv 6) (pa_cons (pv 7) pa_nil)))) pa_nil)))
      (pss_one (ps_expr (pe_bm PySem.F.plainAttrs_list PySem.F.slot_list_append PySem.F.type_list_append mt_append (pe_ix ix_seq (pv 2) (pv 6) (fun _ _ => rfl)) (pa_cons (pe_tup (pa_cons (pv 4) (pa_cons (pv 5) (pa_cons (pv 7) pa_nil)))) pa_nil))))))
      (pss_one (ps_ret (pv 2)))))
def t_group_from (K : PySem.W.Frag) : TS := (tSeq (tAsg (tDisp (((tVar 1), (tTup (tCons (tC (.int 0)) (tCons (tTup tNil) tNil)))) :: [])) (gName 2))
    (tSeq (tAsg (tLst (tCons (tVar 1) tNil)) (gName 3))
    (tSeq (tWhile (tTru K (tVar 3)) (tSeq (tAsg (tBM K "list" rPopAt (tVar 3) (tCons (tC (.int 0)) tNil)) (gName 4))
    (tSeq (tAsg (tDGet (tVar 2) (tVar 4)) (gTup K 2 (gCons (gName 5) (gCons (gName 6) gNil))))
    (tFor (iList K (tOp (rIx K) (tVar 0) (tVar 4))) (gTup K 3 (gCons (gName 7) (gCons (gName 8) (gCons (gName 9) gNil)))) (tIfS (L2.tB (tDNotIn (tVar 8) (tVar 2))) (tSeq (tAsg (tTup (tCons (tOp rXorI (tVar 5) (tVar 9)) (tCons (tOp (rCatA K) (tVar 6) (tTup (tCons (tVar 7) tNil))) tNil))) (gSub (tVar 2) (tVar 8) rSetD))
    (tDrop (tBM K "list" rAppend (tVar 3) (tCons (tVar 8) tNil)))) tNext)))))
    (tRet (tVar 2)))))
theorem dv_group_from {f : Addr} {cdv : Value} {A : Around} {outer : List Env} {s : Shared} {H : Hp} {E : XK} (hr : Room 0 (A.deeper (envOfC "group_from" (defScope s_group_from) s.heap.objs.size f cdv))) (B : ∀ x, x ∈ blt → mg x = none) (cs : Csts mg) :
    PSs (cxOf CX0 Pg w K mg base ["near", "first", "found", "waiting", "point", "mark", "way", "number", "other", "apart"] "group_from" (defScope s_group_from) f cdv A outer s H E).nox (defBody s_group_from) (t_group_from K) :=
  (pss_cons (ps_set (i := 2) sc_group_from.nd rfl (by first | exact .inl rfl | exact .inr rfl) (pe_disp (pps_cons (pv 1) (pe_tup (pa_cons pe_int (pa_cons (pe_tup pa_nil) pa_nil))) pps_nil) (by rfl) (by rfl) (fun z => by cases z) (by decide)))
      (pss_cons (ps_set (i := 3) sc_group_from.nd rfl (by first | exact .inl rfl | exact .inr rfl) (pe_lst (pa_cons (pv 1) pa_nil)))
      (pss_cons (ps_while PassesOwn.never (pt_tru (pv 3)) (pss_cons (ps_set (i := 4) sc_group_from.nd rfl (by first | exact .inl rfl | exact .inr rfl) (pe_bm PySem.F.plainAttrs_list PySem.F.slot_list_pop PySem.F.type_list_pop mt_popAt (pv 3) (pa_cons pe_int pa_nil)))
      (pss_cons (ps_asg (pe_dget (u1 hr) (pv 2) (pv 4) (fun _ _ => rfl)) (pg_tup rfl (pgs_cons (pg_name (i := 5) sc_group_from.nd rfl (by first | exact .inl rfl | exact .inr rfl)) (pgs_cons (pg_name (i := 6) sc_group_from.nd rfl (by first | exact .inl rfl | exact .inr rfl)) pgs_nil))))
      (pss_one (ps_for PassesOwn.never rfl (pi_list (pe_ix ix_seq (pv 0) (pv 4) (fun _ _ => rfl))) (pg_tup rfl (pgs_cons (pg_name (i := 7) sc_group_from.nd rfl (by first | exact .inl rfl | exact .inr rfl)) (pgs_cons (pg_name (i := 8) sc_group_from.nd rfl (by first | exact .inl rfl | exact .inr rfl)) (pgs_cons (pg_name (i := 9) sc_group_from.nd rfl (by first | exact .inl rfl | exact .inr rfl)) pgs_nil)))) (pss_one (ps_if (pt_cmp (pc_dnotin (u1 hr) (pv 8) (pv 2))) (pss_cons (ps_asg (pe_tup (pa_cons (pe_op op_xor (pv 5) (pv 9)) (pa_cons (pe_op op_catA (pv 6) (pe_tup (pa_cons (pv 7) pa_nil))) pa_nil))) (pg_sub (pv 2) (pv 8) (set_dict (u1 hr))))
      (pss_one (ps_expr (pe_bm PySem.F.plainAttrs_list PySem.F.slot_list_append PySem.F.type_list_append mt_append (pv 3) (pa_cons (pv 8) pa_nil))))) pss_nil)))))))
      (pss_one (ps_ret (pv 2))))))
def t_spread (K : PySem.W.Frag) (Φ_joins_at : Ph) (Φ_group_from : Ph) : TS := (tSeq (tAsg (tCall (SpD K Φ_joins_at) [] E0 (tCons (tVar 0) (tCons (tVar 1) tNil))) (gName 2))
    (tSeq (tPar3 3 4 5 (tCons tDNewK (tCons tDNewK (tCons tDNewK tNil))))
    (tSeq (tAsg (tC (.int 0)) (gName 6))
    (tSeq (tFor (iRng1 (tCons (tVar 0) tNil)) (gName 7) (tIfS (L2.tB (tDNotIn (tVar 7) (tVar 3))) (tSeq (tFor (iItems (tLkN (tCall (SpD K Φ_group_from) [] E0 (tCons (tVar 2) (tCons (tVar 7) tNil))))) (gTup K 2 (gCons (gName 8) (gCons (gTup K 2 (gCons (gName 9) (gCons (gName 10) gNil))) gNil))) (tAsg (tTup (tCons (tVar 6) (tCons (tVar 9) (tCons (tVar 10) tNil)))) (gTup K 3 (gCons (gSub (tVar 3) (tVar 8) rSetD) (gCons (gSub (tVar 4) (tVar 8) rSetD) (gCons (gSub (tVar 5) (tVar 8) rSetD) gNil))))))
    (tAug 6 (tC (.int 1)) (ipI fun i j => i + j))) tNext))
    (tRet (tTup (tCons (tVar 3) (tCons (tVar 4) (tCons (tVar 5) tNil)))))))))
theorem dv_spread {f : Addr} {cdv : Value} {A : Around} {outer : List Env} {s : Shared} {H : Hp} {E : XK} (hr : Room 1 (A.deeper (envOfC "spread" (defScope s_spread) s.heap.objs.size f cdv))) (B : ∀ x, x ∈ blt → mg x = none) (cs : Csts mg) {Φ_joins_at : Ph} {Φ_group_from : Ph} (g_joins_at : Kn Pg w K mg base "joins_at" 1 ["many", "joins"] Φ_joins_at) (g_group_from : Kn Pg w K mg base "group_from" 1 ["near", "first"] Φ_group_from) :
    PSs (cxOf CX0 Pg w K mg base ["many", "joins", "near", "groups", "marks", "ways", "count", "first", "point", "mark", "way"] "spread" (defScope s_spread) f cdv A outer s H E).nox (defBody s_spread) (t_spread K Φ_joins_at Φ_group_from) :=
  (pss_cons (ps_set (i := 2) sc_spread.nd rfl (by first | exact .inl rfl | exact .inr rfl) (pe_callD g_joins_at (hr.mono (by decide)) (by rfl) (pa_cons (pv 0) (pa_cons (pv 1) pa_nil))))
      (pss_cons (ps_par3 (by rfl) sc_spread.nd (i := 3) (j := 4) (l := 5) rfl rfl rfl (by decide) (by decide) (by decide) rfl rfl rfl (pa_cons pe_dnewK (pa_cons pe_dnewK (pa_cons pe_dnewK pa_nil))) (by rfl))
      (pss_cons (ps_set (i := 6) sc_spread.nd rfl (by first | exact .inl rfl | exact .inr rfl) pe_int)
      (pss_cons (ps_for PassesOwn.never rfl (pi_range1 (by rfl) (B "range" (by decide)) (pa_cons (pv 0) pa_nil)) (pg_name (i := 7) sc_spread.nd rfl (by first | exact .inl rfl | exact .inr rfl)) (pss_one (ps_if (pt_cmp (pc_dnotin (u1 hr) (pv 7) (pv 3))) (pss_cons (ps_for PassesOwn.never rfl (pi_items (pe_lkN (pe_callD g_group_from (hr.mono (by decide)) (by rfl) (pa_cons (pv 2) (pa_cons (pv 7) pa_nil))))) (pg_tup rfl (pgs_cons (pg_name (i := 8) sc_spread.nd rfl (by first | exact .inl rfl | exact .inr rfl)) (pgs_cons (pg_tup rfl (pgs_cons (pg_name (i := 9) sc_spread.nd rfl (by first | exact .inl rfl | exact .inr rfl)) (pgs_cons (pg_name (i := 10) sc_spread.nd rfl (by first | exact .inl rfl | exact .inr rfl)) pgs_nil))) pgs_nil))) (pss_one (ps_asg (pe_tup (pa_cons (pv 6) (pa_cons (pv 9) (pa_cons (pv 10) pa_nil)))) (pg_tup rfl (pgs_cons (pg_sub (pv 3) (pv 8) (set_dict (u1 hr))) (pgs_cons (pg_sub (pv 4) (pv 8) (set_dict (u1 hr))) (pgs_cons (pg_sub (pv 5) (pv 8) (set_dict (u1 hr))) pgs_nil)))))))
      (pss_one (ps_aug (i := 6) sc_spread.nd rfl (by first | exact .inl rfl | exact .inr rfl) pe_int ip_add))) pss_nil)))
      (pss_one (ps_ret (pe_tup (pa_cons (pv 3) (pa_cons (pv 4) (pa_cons (pv 5) pa_nil))))))))))
def t_ring_closed (K : PySem.W.Frag) : TS := (tSeq (tAsg (tLc (iTup K (tVar 0)) (gName 4) (tTest (tOp (rIn K true) (tVar 4) (tVar 1))) (tVar 4) [4]) (gName 3))
    (tSeq (tAsg (tLc (iTup K (tVar 1)) (gName 4) (tTest (tOp (rIn K true) (tVar 4) (tVar 0))) (tVar 4) [4]) (gName 5))
    (tRet (tCB (rTupQ K) (tCons (tCB (rSortedI K) (tCons (tOp rCat (tOp rCat (tVar 3) (tVar 5)) (tLst (tCons (tVar 2) tNil))) tNil)) tNil)))))
theorem dv_ring_closed {f : Addr} {cdv : Value} {A : Around} {outer : List Env} {s : Shared} {H : Hp} {E : XK} (hr : Room 0 (A.deeper (envOfC "ring_closed" (defScope s_ring_closed) s.heap.objs.size f cdv))) (B : ∀ x, x ∈ blt → mg x = none) (cs : Csts mg) :
    PSs (cxOf CX0 Pg w K mg base ["way", "other_way", "number", "alone", "step", "other_alone"] "ring_closed" (defScope s_ring_closed) f cdv A outer s H E).nox (defBody s_ring_closed) (t_ring_closed K) :=
  (pss_cons (ps_setLc (i := 3) (own := [("step", 4)]) (g := (gName 4)) (tt := (tTest (tOp (rIn K true) (tVar 4) (tVar 1)))) rfl sc_ring_closed.nd rfl rfl (sw_true rfl rfl rfl (by decide +kernel)) (pi_tup (pv 0)) (blkOk_by (own := [("step", 4)]) (N := ["way", "other_way", "number", "alone", "step", "other_alone"]) (sc := defScope s_ring_closed) (by decide +kernel)) (fun _ _ _ _ _ => (pg_name (i := 4) sc_ring_closed.nd rfl (by first | exact .inl rfl | exact .inr rfl))) (fun _ _ _ _ _ => (pts_one (pt_cmpR op_notIn_seq (pv 4) (pv 1) (by rfl)))) (fun _ _ _ _ _ => (pv 4)))
      (pss_cons (ps_setLc (i := 5) (own := [("step", 4)]) (g := (gName 4)) (tt := (tTest (tOp (rIn K true) (tVar 4) (tVar 0)))) rfl sc_ring_closed.nd rfl rfl (sw_true rfl rfl rfl (by decide +kernel)) (pi_tup (pv 1)) (blkOk_by (own := [("step", 4)]) (N := ["way", "other_way", "number", "alone", "step", "other_alone"]) (sc := defScope s_ring_closed) (by decide +kernel)) (fun _ _ _ _ _ => (pg_name (i := 4) sc_ring_closed.nd rfl (by first | exact .inl rfl | exact .inr rfl))) (fun _ _ _ _ _ => (pts_one (pt_cmpR op_notIn_seq (pv 4) (pv 0) (by rfl)))) (fun _ _ _ _ _ => (pv 4)))
      (pss_one (ps_ret (pe_callTy call_tuple_of (by rfl) (B "tuple" (by decide)) (by decide +kernel) (pa_cons (pe_callB cr_sortedI (by rfl) (B "sorted" (by decide)) (by decide +kernel) (pa_cons (pe_op op_cat (pe_op op_cat (pv 3) (pv 5)) (pe_lst (pa_cons (pv 2) pa_nil))) pa_nil)) pa_nil))))))
def t_odd_rings (K : PySem.W.Frag) (Φ_ring_closed : Ph) : TS := (tSeq (tAsg (tLst tNil) (gName 3))
    (tSeq (tFor (iEnT K (tCons (tVar 0) tNil)) (gTup K 2 (gCons (gName 4) (gCons (gTup K 3 (gCons (gName 5) (gCons (gName 6) (gCons (gName 7) gNil)))) gNil))) (tIfS (tTest (tOp (rNeD K) (tOp rXorI (tDGet (tVar 1) (tVar 5)) (tDGet (tVar 1) (tVar 6))) (tVar 7))) (tDrop (tBM K "list" rAppend (tVar 3) (tCons (tCall (SpD K Φ_ring_closed) [] E0 (tCons (tDGet (tVar 2) (tVar 5)) (tCons (tDGet (tVar 2) (tVar 6)) (tCons (tVar 4) tNil)))) tNil))) tNext))
    (tRet (tVar 3))))
theorem dv_odd_rings {f : Addr} {cdv : Value} {A : Around} {outer : List Env} {s : Shared} {H : Hp} {E : XK} (hr : Room 1 (A.deeper (envOfC "odd_rings" (defScope s_odd_rings) s.heap.objs.size f cdv))) (B : ∀ x, x ∈ blt → mg x = none) (cs : Csts mg) {Φ_ring_closed : Ph} (g_ring_closed : Kn Pg w K mg base "ring_closed" 1 ["way", "other_way", "number"] Φ_ring_closed) :
    PSs (cxOf CX0 Pg w K mg base ["joins", "marks", "ways", "rings", "number", "one", "other", "apart"] "odd_rings" (defScope s_odd_rings) f cdv A outer s H E).nox (defBody s_odd_rings) (t_odd_rings K Φ_ring_closed) :=
  (pss_cons (ps_set (i := 3) sc_odd_rings.nd rfl (by first | exact .inl rfl | exact .inr rfl) (pe_lst pa_nil))
      (pss_cons (ps_for PassesOwn.never rfl (pi_enT (by rfl) (B "enumerate" (by decide)) (pa_cons (pv 0) pa_nil)) (pg_tup rfl (pgs_cons (pg_name (i := 4) sc_odd_rings.nd rfl (by first | exact .inl rfl | exact .inr rfl)) (pgs_cons (pg_tup rfl (pgs_cons (pg_name (i := 5) sc_odd_rings.nd rfl (by first | exact .inl rfl | exact .inr rfl)) (pgs_cons (pg_name (i := 6) sc_odd_rings.nd rfl (by first | exact .inl rfl | exact .inr rfl)) (pgs_cons (pg_name (i := 7) sc_odd_rings.nd rfl (by first | exact .inl rfl | exact .inr rfl)) pgs_nil)))) pgs_nil))) (pss_one (ps_if (pt_cmpR (op_neD hr.units) (pe_op op_xor (pe_dget (u1 hr) (pv 1) (pv 5) (fun _ _ => rfl)) (pe_dget (u1 hr) (pv 1) (pv 6) (fun _ _ => rfl))) (pv 7) (nomark _)) (pss_one (ps_expr (pe_bm PySem.F.plainAttrs_list PySem.F.slot_list_append PySem.F.type_list_append mt_append (pv 3) (pa_cons (pe_callD g_ring_closed (hr.mono (by decide)) (by rfl) (pa_cons (pe_dget (u1 hr) (pv 2) (pv 5) (fun _ _ => rfl)) (pa_cons (pe_dget (u1 hr) (pv 2) (pv 6) (fun _ _ => rfl)) (pa_cons (pv 4) pa_nil)))) pa_nil)))) pss_nil)))
      (pss_one (ps_ret (pv 3)))))
def t_parted (K : PySem.W.Frag) (Φ_spread : Ph) (Φ_odd_rings : Ph) : TS := (tSeq (tAsg (tCall (SpD K Φ_spread) [] E0 (tCons (tVar 0) (tCons (tVar 1) tNil))) (gTup K 3 (gCons (gName 2) (gCons (gName 3) (gCons (gName 4) gNil)))))
    (tSeq (tAsg (tCall (SpD K Φ_odd_rings) [] E0 (tCons (tVar 1) (tCons (tVar 3) (tCons (tVar 4) tNil)))) (gName 5))
    (tSeq (tIfS (tTru K (tVar 5)) (tRet (tTup (tCons (tC (.str "ring")) (tCons (tMinL K (tCons (tVar 5) tNil)) tNil)))) tNext)
    (tRet (tTup (tCons (tC (.str "groups")) (tCons (tCB (rTupF K) (tCons (tLc (iRng1 (tCons (tVar 0) tNil)) (gName 6) tYes (tDGet (tVar 2) (tVar 6)) [6]) tNil)) (tCons (tCB (rTupQ K) (tCons (tLc (iRng1 (tCons (tVar 0) tNil)) (gName 6) tYes (tDGet (tVar 3) (tVar 6)) [6]) tNil)) tNil))))))))
theorem dv_parted {f : Addr} {cdv : Value} {A : Around} {outer : List Env} {s : Shared} {H : Hp} {E : XK} (hr : Room 2 (A.deeper (envOfC "parted" (defScope s_parted) s.heap.objs.size f cdv))) (B : ∀ x, x ∈ blt → mg x = none) (cs : Csts mg) {Φ_spread : Ph} {Φ_odd_rings : Ph} (g_spread : Kn Pg w K mg base "spread" 2 ["many", "joins"] Φ_spread) (g_odd_rings : Kn Pg w K mg base "odd_rings" 2 ["joins", "marks", "ways"] Φ_odd_rings) :
    PSs (cxOf CX0 Pg w K mg base ["many", "joins", "groups", "marks", "ways", "rings", "point"] "parted" (defScope s_parted) f cdv A outer s H E).nox (defBody s_parted) (t_parted K Φ_spread Φ_odd_rings) :=
  (pss_cons (ps_asg (pe_callD g_spread (hr.mono (by decide)) (by rfl) (pa_cons (pv 0) (pa_cons (pv 1) pa_nil))) (pg_tup rfl (pgs_cons (pg_name (i := 2) sc_parted.nd rfl (by first | exact .inl rfl | exact .inr rfl)) (pgs_cons (pg_name (i := 3) sc_parted.nd rfl (by first | exact .inl rfl | exact .inr rfl)) (pgs_cons (pg_name (i := 4) sc_parted.nd rfl (by first | exact .inl rfl | exact .inr rfl)) pgs_nil)))))
      (pss_cons (ps_set (i := 5) sc_parted.nd rfl (by first | exact .inl rfl | exact .inr rfl) (pe_callD g_odd_rings (hr.mono (by decide)) (by rfl) (pa_cons (pv 1) (pa_cons (pv 3) (pa_cons (pv 4) pa_nil)))))
      (pss_cons (ps_if (pt_tru (pv 5)) (pss_one (ps_ret (pe_tup (pa_cons pe_str (pa_cons (pe_minL (by rfl) (by rfl) (B "min" (by decide)) (by rfl) (B "len" (by decide)) (pa_cons (pv 5) pa_nil)) pa_nil))))) pss_nil)
      (pss_one (ps_ret (pe_tup (pa_cons pe_str (pa_cons (pe_callTy cr_tupF (by rfl) (B "tuple" (by decide)) (by decide +kernel) (pa_cons (pe_lc (own := [("point", 6)]) (g := (gName 6)) (tt := tYes) rfl sc_parted.nd (pi_range1 (by rfl) (B "range" (by decide)) (pa_cons (pv 0) pa_nil)) (blkOk_by (own := [("point", 6)]) (N := ["many", "joins", "groups", "marks", "ways", "rings", "point"]) (sc := defScope s_parted) (by decide +kernel)) (fun _ _ _ _ _ => (pg_name (i := 6) sc_parted.nd rfl (by first | exact .inl rfl | exact .inr rfl))) (fun _ _ _ _ _ => pts_nil) (fun _ _ _ _ _ => (pe_dget (u1 hr) (pv 2) (pv 6) (fun _ _ => rfl)))) pa_nil)) (pa_cons (pe_callTy call_tuple_of (by rfl) (B "tuple" (by decide)) (by decide +kernel) (pa_cons (pe_lc (own := [("point", 6)]) (g := (gName 6)) (tt := tYes) rfl sc_parted.nd (pi_range1 (by rfl) (B "range" (by decide)) (pa_cons (pv 0) pa_nil)) (blkOk_by (own := [("point", 6)]) (N := ["many", "joins", "groups", "marks", "ways", "rings", "point"]) (sc := defScope s_parted) (by decide +kernel)) (fun _ _ _ _ _ => (pg_name (i := 6) sc_parted.nd rfl (by first | exact .inl rfl | exact .inr rfl))) (fun _ _ _ _ _ => pts_nil) (fun _ _ _ _ _ => (pe_dget (u1 hr) (pv 3) (pv 6) (fun _ _ => rfl)))) pa_nil)) pa_nil)))))))))
def t_is_wish (K : PySem.W.Frag) (Φ_is_triple : Ph) (Φ_is_number_of : Ph) (Φ_are_unlike_points : Ph) : TS := (tSeq (tIfS (tNot (L2.tB (tCall (SpD K Φ_is_triple) [] E0 (tCons (tVar 1) tNil)))) (tRet (tC (.bl false))) tNext)
    (tSeq (tAsg (tVar 1) (gRw K 3 (gCons (gName 2) (gCons (gName 3) (gCons (gName 4) gNil)))))
    (tRet (tAndV (tCall (SpD K Φ_are_unlike_points) [] E0 (tCons (tOp (rIx K) (tVar 0) (tC (.int 0))) (tCons (tVar 2) (tCons (tVar 3) tNil)))) (tCall (SpD K Φ_is_number_of) [] E0 (tCons (tC (.int 2)) (tCons (tVar 4) tNil)))))))
theorem dv_is_wish {f : Addr} {cdv : Value} {A : Around} {outer : List Env} {s : Shared} {H : Hp} {E : XK} (hr : Room 3 (A.deeper (envOfC "is_wish" (defScope s_is_wish) s.heap.objs.size f cdv))) (B : ∀ x, x ∈ blt → mg x = none) (cs : Csts mg) {Φ_is_triple : Ph} {Φ_is_number_of : Ph} {Φ_are_unlike_points : Ph} (g_is_triple : Kn Pg w K mg base "is_triple" 2 ["thing"] Φ_is_triple) (g_is_number_of : Kn Pg w K mg base "is_number_of" 2 ["many", "thing"] Φ_is_number_of) (g_are_unlike_points : Kn Pg w K mg base "are_unlike_points" 3 ["many", "one", "other"] Φ_are_unlike_points) :
    PSs (cxOf CX0 Pg w K mg base ["web", "thing", "one", "other", "apart"] "is_wish" (defScope s_is_wish) f cdv A outer s H E).nox (defBody s_is_wish) (t_is_wish K Φ_is_triple Φ_is_number_of Φ_are_unlike_points) :=
  (pss_cons (ps_if (pt_not (pt_val (pe_callD g_is_triple (hr.mono (by decide)) (by rfl) (pa_cons (pv 1) pa_nil)))) (pss_one (ps_ret pe_bl)) pss_nil)
      (pss_cons (ps_asg (pv 1) (pg_rw rfl (pgs_cons (pg_name (i := 2) sc_is_wish.nd rfl (by first | exact .inl rfl | exact .inr rfl)) (pgs_cons (pg_name (i := 3) sc_is_wish.nd rfl (by first | exact .inl rfl | exact .inr rfl)) (pgs_cons (pg_name (i := 4) sc_is_wish.nd rfl (by first | exact .inl rfl | exact .inr rfl)) pgs_nil)))))
      (pss_one (ps_ret (pe_and (pe_callD g_are_unlike_points (hr.mono (by decide)) (by rfl) (pa_cons (pe_ix ix_seq (pv 0) pe_int (fun _ _ => rfl)) (pa_cons (pv 2) (pa_cons (pv 3) pa_nil)))) (pe_one (pe_callD g_is_number_of (hr.mono (by decide)) (by rfl) (pa_cons pe_int (pa_cons (pv 4) pa_nil)))))))))
def t_made_wishes (K : PySem.W.Frag) (C_CutError C_NoWishes : Addr) (Φ_is_row : Ph) (Φ_is_wish : Ph) : XK → TS := fun E => (tSeq (tIfS (tOr (tNot (L2.tB (tCall (SpD K Φ_is_row) [] E0 (tCons (tVar 1) tNil)))) (tTest (tOp rGtI (tCB (rLenQ K) (tCons (tVar 1) tNil)) (tC (.int 120))))) (tRs C_NoWishes E) tNext)
    (tSeq (tIfS (tNot (L2.tB (tCB (rAll K) (tCons (tLc (iRow K 1) (gName 2) tYes (tCall (SpD K Φ_is_wish) [] E0 (tCons (tVar 0) (tCons (tVar 2) tNil))) [2]) tNil)))) (tRs C_NoWishes E) tNext)
    (tRet (tCB (rTupQ K) (tCons (tLc (iRow K 1) (gName 2) tYes (tCB (rTupQ K) (tCons (tVar 2) tNil)) [2]) tNil)))))
theorem dv_made_wishes {f : Addr} {cdv : Value} {A : Around} {outer : List Env} {s : Shared} {H : Hp} {E : XK} (hr : Room 4 (A.deeper (envOfC "made_wishes" (defScope s_made_wishes) s.heap.objs.size f cdv))) (B : ∀ x, x ∈ blt → mg x = none) (cs : Csts mg) {C_CutError C_NoWishes : Addr} (cl : Cls K mg C_CutError C_NoWishes) {Φ_is_row : Ph} {Φ_is_wish : Ph} (g_is_row : Kn Pg w K mg base "is_row" 1 ["thing"] Φ_is_row) (g_is_wish : Kn Pg w K mg base "is_wish" 4 ["web", "thing"] Φ_is_wish) :
    PSs (cxOf (L2.CX Pg w) Pg w K mg base ["web", "thing", "wish"] "made_wishes" (defScope s_made_wishes) f cdv A outer s H E) (defBody s_made_wishes) (t_made_wishes K C_CutError C_NoWishes Φ_is_row Φ_is_wish E) :=
  (pss_cons (ps_if (PW.pt (pw_or (pt_not (pt_val (pe_callD g_is_row (hr.mono (by decide)) (by rfl) (pa_cons (pv 1) pa_nil)))) (pw_or1 (pt_cmpR op_gt (pe_callB call_len_seq (by rfl) (B "len" (by decide)) (by decide +kernel) (pa_cons (pv 1) pa_nil)) (pe_num rfl cs.c_MOST_WISHES) (nomark _))))) (pss_one (ps_raiseD cl.er_NoWishes rfl rfl rfl rfl rfl (by rfl))) pss_nil)
      (pss_cons (ps_if (pt_not (pt_val (pe_callB (cr_all rfl) (by rfl) (B "all" (by decide)) (by decide +kernel) (pa_cons (pe_lc (own := [("wish", 2)]) (g := (gName 2)) (tt := tYes) rfl sc_made_wishes.nd (pi_row (i := 1) (pv 1)) (blkOk_by (own := [("wish", 2)]) (N := ["web", "thing", "wish"]) (sc := defScope s_made_wishes) (by decide +kernel)) (fun _ _ _ _ _ => (pg_name (i := 2) sc_made_wishes.nd rfl (by first | exact .inl rfl | exact .inr rfl))) (fun _ _ _ _ _ => pts_nil) (fun _ _ _ _ _ => (pe_callD g_is_wish (hr.mono (by decide)) (by rfl) (pa_cons (pv 0) (pa_cons (pv 2) pa_nil))))) pa_nil)))) (pss_one (ps_raiseD cl.er_NoWishes rfl rfl rfl rfl rfl (by rfl))) pss_nil)
      (pss_one (ps_ret (pe_callTy call_tuple_of (by rfl) (B "tuple" (by decide)) (by decide +kernel) (pa_cons (pe_lc (own := [("wish", 2)]) (g := (gName 2)) (tt := tYes) rfl sc_made_wishes.nd (pi_row (i := 1) (pv 1)) (blkOk_by (own := [("wish", 2)]) (N := ["web", "thing", "wish"]) (sc := defScope s_made_wishes) (by decide +kernel)) (fun _ _ _ _ _ => (pg_name (i := 2) sc_made_wishes.nd rfl (by first | exact .inl rfl | exact .inr rfl))) (fun _ _ _ _ _ => pts_nil) (fun _ _ _ _ _ => (pe_callTy call_tuple_of (by rfl) (B "tuple" (by decide)) (by decide +kernel) (pa_cons (pv 2) pa_nil)))) pa_nil))))))
def t_keeps (K : PySem.W.Frag) (C_CutError C_NoWishes : Addr) (Φ_made_wishes : PhX) : TS := (tSeq (tAsg (tCall (SpX K C_NoWishes Φ_made_wishes) [] E0 (tCons (tVar 0) (tCons (tVar 1) tNil))) (gName 3))
    (tRet (tCB (rAll K) (tCons (tLc (iTup K (tVar 3)) (gTup K 3 (gCons (gName 4) (gCons (gName 5) (gCons (gName 6) gNil)))) tYes (tOp (rEqD K) (tOp rXorI (tOp (rIx K) (tVar 2) (tVar 4)) (tOp (rIx K) (tVar 2) (tVar 5))) (tVar 6)) [4, 5, 6]) tNil))))
theorem dv_keeps {f : Addr} {cdv : Value} {A : Around} {outer : List Env} {s : Shared} {H : Hp} {E : XK} (hr : Room 5 (A.deeper (envOfC "keeps" (defScope s_keeps) s.heap.objs.size f cdv))) (B : ∀ x, x ∈ blt → mg x = none) (cs : Csts mg) {C_CutError C_NoWishes : Addr} (cl : Cls K mg C_CutError C_NoWishes) {Φ_made_wishes : PhX} (g_made_wishes : KnX Pg w K mg base "made_wishes" 5 ["web", "thing"] C_NoWishes Φ_made_wishes) :
    PSs (cxOf CX0 Pg w K mg base ["web", "wishes", "side", "told", "one", "other", "apart"] "keeps" (defScope s_keeps) f cdv A outer s H E).nox (defBody s_keeps) (t_keeps K C_CutError C_NoWishes Φ_made_wishes) :=
  (pss_cons (ps_set (i := 3) sc_keeps.nd rfl (by first | exact .inl rfl | exact .inr rfl) (pe_callX0 g_made_wishes (hr.mono (by decide)) (by rfl) (pa_cons (pv 0) (pa_cons (pv 1) pa_nil))))
      (pss_one (ps_ret (pe_callB (cr_all rfl) (by rfl) (B "all" (by decide)) (by decide +kernel) (pa_cons (pe_lc (own := [("one", 4), ("other", 5), ("apart", 6)]) (g := (gTup K 3 (gCons (gName 4) (gCons (gName 5) (gCons (gName 6) gNil))))) (tt := tYes) rfl sc_keeps.nd (pi_tup (pv 3)) (blkOk_by (own := [("one", 4), ("other", 5), ("apart", 6)]) (N := ["web", "wishes", "side", "told", "one", "other", "apart"]) (sc := defScope s_keeps) (by decide +kernel)) (fun _ _ _ _ _ => (pg_tup rfl (pgs_cons (pg_name (i := 4) sc_keeps.nd rfl (by first | exact .inl rfl | exact .inr rfl)) (pgs_cons (pg_name (i := 5) sc_keeps.nd rfl (by first | exact .inl rfl | exact .inr rfl)) (pgs_cons (pg_name (i := 6) sc_keeps.nd rfl (by first | exact .inl rfl | exact .inr rfl)) pgs_nil))))) (fun _ _ _ _ _ => pts_nil) (fun _ _ _ _ _ => (pe_cmpR (op_eqD hr.units) (pe_op op_xor (pe_ix ix_seq (pv 2) (pv 4) (fun _ _ => rfl)) (pe_ix ix_seq (pv 2) (pv 5) (fun _ _ => rfl))) (pv 6) (nomark _)))) pa_nil)))))
def t_grouped (K : PySem.W.Frag) (C_CutError C_NoWishes : Addr) (Φ_parted : Ph) (Φ_made_wishes : PhX) : TS := (tRet (tCall (SpD K Φ_parted) [] E0 (tCons (tOp (rIx K) (tVar 0) (tC (.int 0))) (tCons (tCall (SpX K C_NoWishes Φ_made_wishes) [] E0 (tCons (tVar 0) (tCons (tVar 1) tNil))) tNil))))
theorem dv_grouped {f : Addr} {cdv : Value} {A : Around} {outer : List Env} {s : Shared} {H : Hp} {E : XK} (hr : Room 5 (A.deeper (envOfC "grouped" (defScope s_grouped) s.heap.objs.size f cdv))) (B : ∀ x, x ∈ blt → mg x = none) (cs : Csts mg) {C_CutError C_NoWishes : Addr} (cl : Cls K mg C_CutError C_NoWishes) {Φ_parted : Ph} {Φ_made_wishes : PhX} (g_parted : Kn Pg w K mg base "parted" 3 ["many", "joins"] Φ_parted) (g_made_wishes : KnX Pg w K mg base "made_wishes" 5 ["web", "thing"] C_NoWishes Φ_made_wishes) :
    PSs (cxOf CX0 Pg w K mg base ["web", "wishes"] "grouped" (defScope s_grouped) f cdv A outer s H E).nox (defBody s_grouped) (t_grouped K C_CutError C_NoWishes Φ_parted Φ_made_wishes) :=
  (pss_one (ps_ret (pe_callD g_parted (hr.mono (by decide)) (by rfl) (pa_cons (pe_ix ix_seq (pv 0) pe_int (fun _ _ => rfl)) (pa_cons (pe_callX0 g_made_wishes (hr.mono (by decide)) (by rfl) (pa_cons (pv 0) (pa_cons (pv 1) pa_nil))) pa_nil)))))
def t__law_int (K : PySem.W.Frag) : TS := (tRet (tAndV (tCB (rIsi K) (tCons (tVar 0) (tCons (tC (.ty "int")) tNil))) (tNotV (tCB (rIsi K) (tCons (tVar 0) (tCons (tC (.ty "bool")) tNil))))))
theorem dv__law_int {f : Addr} {cdv : Value} {A : Around} {outer : List Env} {s : Shared} {H : Hp} {E : XK} (hr : Room 0 (A.deeper (envOfC "_law_int" (defScope s__law_int) s.heap.objs.size f cdv))) (B : ∀ x, x ∈ blt → mg x = none) (cs : Csts mg) :
    PSs (cxOf CX0 Pg w K mg base ["_law_found"] "_law_int" (defScope s__law_int) f cdv A outer s H E).nox (defBody s__law_int) (t__law_int K) :=
  (pss_one (ps_ret (pe_and (pe_callB call_isi (by rfl) (B "isinstance" (by decide)) (by decide +kernel) (pa_cons (pv 0) (pa_cons (pe_bltn (by rfl) (B "int" (by decide)) (by decide +kernel) rfl) pa_nil))) (pe_one (pe_not (pe_callB call_isi (by rfl) (B "isinstance" (by decide)) (by decide +kernel) (pa_cons (pv 0) (pa_cons (pe_bltn (by rfl) (B "bool" (by decide)) (by decide +kernel) rfl) pa_nil))))))))
def t__law_truth (K : PySem.W.Frag) : TS := (tRet (tAndV (tCB (rIsi K) (tCons (tVar 0) (tCons (tC (.ty "bool")) tNil))) (tOp (rEqD K) (tVar 0) (tVar 1))))
theorem dv__law_truth {f : Addr} {cdv : Value} {A : Around} {outer : List Env} {s : Shared} {H : Hp} {E : XK} (hr : Room 0 (A.deeper (envOfC "_law_truth" (defScope s__law_truth) s.heap.objs.size f cdv))) (B : ∀ x, x ∈ blt → mg x = none) (cs : Csts mg) :
    PSs (cxOf CX0 Pg w K mg base ["_law_found", "_law_due"] "_law_truth" (defScope s__law_truth) f cdv A outer s H E).nox (defBody s__law_truth) (t__law_truth K) :=
  (pss_one (ps_ret (pe_and (pe_callB call_isi (by rfl) (B "isinstance" (by decide)) (by decide +kernel) (pa_cons (pv 0) (pa_cons (pe_bltn (by rfl) (B "bool" (by decide)) (by decide +kernel) rfl) pa_nil))) (pe_one (pe_cmpR (op_eqD hr.units) (pv 0) (pv 1) (nomark _))))))
def t__law_stream (K : PySem.W.Frag) : TS := (tSeq (tAsg (tLst tNil) (gName 2))
    (tSeq (tAsg (tVar 0) (gName 3))
    (tSeq (tFor (iRng1 (tCons (tVar 1) tNil)) (gName 4) (tSeq (tDrop (tBM K "list" rAppend (tVar 2) (tCons (tOp rModN (tVar 3) (tOp rPowI (tC (.int 10)) (tC (.int 5)))) tNil)))
    (tAsg (tOp rDivX (tVar 3) (tOp rPowI (tC (.int 10)) (tC (.int 5)))) (gName 3))))
    (tSeq (tIfS (tTest (tOp rGeI (tVar 0) (tOp rPowI (tC (.int 10)) (tC (.int 18))))) (tRet (tVar 2)) tNext)
    (tSeq (tAsg (tLst tNil) (gName 2))
    (tSeq (tAsg (tOp rAddI (tOp rModN (tVar 0) (tC (.int 2147483647))) (tC (.int 48271))) (gName 5))
    (tSeq (tAsg (tOp rAddI (tOp rModN (tOp rDivX (tVar 0) (tC (.int 2147483647))) (tC (.int 2147483629))) (tC (.int 16807))) (gName 6))
    (tSeq (tFor (iRng1 (tCons (tVar 1) tNil)) (gName 4) (tSeq (tAsg (tOp rModN (tOp rAddI (tOp rAddI (tOp rMulI (tVar 5) (tC (.int 48271))) (tOp rMulX (tVar 4) (tVar 4))) (tC (.int 11))) (tC (.int 2147483647))) (gName 5))
    (tSeq (tAsg (tOp rModN (tOp rAddI (tOp rMulI (tVar 6) (tC (.int 69621))) (tVar 5)) (tC (.int 2147483629))) (gName 6))
    (tDrop (tBM K "list" rAppend (tVar 2) (tCons (tOp rDivX (tVar 6) (tC (.int 7))) tNil))))))
    (tRet (tVar 2))))))))))
theorem dv__law_stream {f : Addr} {cdv : Value} {A : Around} {outer : List Env} {s : Shared} {H : Hp} {E : XK} (hr : Room 0 (A.deeper (envOfC "_law_stream" (defScope s__law_stream) s.heap.objs.size f cdv))) (B : ∀ x, x ∈ blt → mg x = none) (cs : Csts mg) :
    PSs (cxOf CX0 Pg w K mg base ["_law_cell", "_law_many", "_law_found", "_law_rest", "_law_k", "_law_number", "_law_other"] "_law_stream" (defScope s__law_stream) f cdv A outer s H E).nox (defBody s__law_stream) (t__law_stream K) :=
  (pss_cons (ps_set (i := 2) sc__law_stream.nd rfl (by first | exact .inl rfl | exact .inr rfl) (pe_lst pa_nil))
      (pss_cons (ps_set (i := 3) sc__law_stream.nd rfl (by first | exact .inl rfl | exact .inr rfl) (pv 0))
      (pss_cons (ps_for PassesOwn.never rfl (pi_range1 (by rfl) (B "range" (by decide)) (pa_cons (pv 1) pa_nil)) (pg_name (i := 4) sc__law_stream.nd rfl (by first | exact .inl rfl | exact .inr rfl)) (pss_cons (ps_expr (pe_bm PySem.F.plainAttrs_list PySem.F.slot_list_append PySem.F.type_list_append mt_append (pv 2) (pa_cons (pe_op op_modN (pv 3) (pe_op op_pow pe_int pe_int)) pa_nil)))
      (pss_one (ps_set (i := 3) sc__law_stream.nd rfl (by first | exact .inl rfl | exact .inr rfl) (pe_op op_fdivX (pv 3) (pe_op op_pow pe_int pe_int))))))
      (pss_cons (ps_if (pt_cmpR op_ge (pv 0) (pe_op op_pow pe_int pe_int) (nomark _)) (pss_one (ps_ret (pv 2))) pss_nil)
      (pss_cons (ps_set (i := 2) sc__law_stream.nd rfl (by first | exact .inl rfl | exact .inr rfl) (pe_lst pa_nil))
      (pss_cons (ps_set (i := 5) sc__law_stream.nd rfl (by first | exact .inl rfl | exact .inr rfl) (pe_op op_add (pe_op op_modN (pv 0) pe_int) pe_int))
      (pss_cons (ps_set (i := 6) sc__law_stream.nd rfl (by first | exact .inl rfl | exact .inr rfl) (pe_op op_add (pe_op op_modN (pe_op op_fdivX (pv 0) pe_int) pe_int) pe_int))
      (pss_cons (ps_for PassesOwn.never rfl (pi_range1 (by rfl) (B "range" (by decide)) (pa_cons (pv 1) pa_nil)) (pg_name (i := 4) sc__law_stream.nd rfl (by first | exact .inl rfl | exact .inr rfl)) (pss_cons (ps_set (i := 5) sc__law_stream.nd rfl (by first | exact .inl rfl | exact .inr rfl) (pe_op op_modN (pe_op op_add (pe_op op_add (pe_op op_mul (pv 5) pe_int) (pe_op op_mulX (pv 4) (pv 4))) pe_int) pe_int))
      (pss_cons (ps_set (i := 6) sc__law_stream.nd rfl (by first | exact .inl rfl | exact .inr rfl) (pe_op op_modN (pe_op op_add (pe_op op_mul (pv 6) pe_int) (pv 5)) pe_int))
      (pss_one (ps_expr (pe_bm PySem.F.plainAttrs_list PySem.F.slot_list_append PySem.F.type_list_append mt_append (pv 2) (pa_cons (pe_op op_fdivX (pv 6) pe_int) pa_nil)))))))
      (pss_one (ps_ret (pv 2)))))))))))
def t__law_next (K : PySem.W.Frag) : TS := (tSeq (tIfS (tTest (tOp (rEqD K) (tVar 0) (tLst tNil))) (tRet (tC (.int 0))) tNext)
    (tRet (tBM K "list" rPopAt (tVar 0) (tCons (tC (.int 0)) tNil))))
theorem dv__law_next {f : Addr} {cdv : Value} {A : Around} {outer : List Env} {s : Shared} {H : Hp} {E : XK} (hr : Room 0 (A.deeper (envOfC "_law_next" (defScope s__law_next) s.heap.objs.size f cdv))) (B : ∀ x, x ∈ blt → mg x = none) (cs : Csts mg) :
    PSs (cxOf CX0 Pg w K mg base ["_law_xs"] "_law_next" (defScope s__law_next) f cdv A outer s H E).nox (defBody s__law_next) (t__law_next K) :=
  (pss_cons (ps_if (pt_cmpR (op_eqD hr.units) (pv 0) (pe_lst pa_nil) (nomark _)) (pss_one (ps_ret pe_int)) pss_nil)
      (pss_one (ps_ret (pe_bm PySem.F.plainAttrs_list PySem.F.slot_list_pop PySem.F.type_list_pop mt_popAt (pv 0) (pa_cons pe_int pa_nil)))))
def t__law_wishes (K : PySem.W.Frag) (Φ__law_next : Ph) : TS := (tSeq (tAsg (tOp rModN (tCall (SpD K Φ__law_next) [] E0 (tCons (tVar 0) tNil)) (tC (.int 11))) (gName 3))
    (tSeq (tIfS (tTest (tOp (rEqD K) (tOp rModN (tCall (SpD K Φ__law_next) [] E0 (tCons (tVar 0) tNil)) (tC (.int 3))) (tC (.int 0)))) (tAsg (tOp rModN (tCall (SpD K Φ__law_next) [] E0 (tCons (tVar 0) tNil)) (tC (.int 121))) (gName 3)) tNext)
    (tSeq (tAsg (tOp rAddI (tC (.int 1)) (tOp rModN (tCall (SpD K Φ__law_next) [] E0 (tCons (tVar 0) tNil)) (tVar 1))) (gName 4))
    (tSeq (tAsg (tLst tNil) (gName 5))
    (tSeq (tFor (iRng1 (tCons (tVar 3) tNil)) (gName 6) (tSeq (tAsg (tCall (SpD K Φ__law_next) [] E0 (tCons (tVar 0) tNil)) (gName 7))
    (tSeq (tAsg (tOp rModN (tVar 7) (tVar 1)) (gName 8))
    (tSeq (tAsg (tOp rModN (tOp rAddI (tOp rAddI (tVar 8) (tC (.int 1))) (tOp rModN (tOp rDivX (tVar 7) (tC (.int 60))) (tVar 4))) (tVar 1)) (gName 9))
    (tIfS (tTest (tOp (rNeD K) (tVar 8) (tVar 9))) (tDrop (tBM K "list" rAppend (tVar 5) (tCons (tTup (tCons (tVar 8) (tCons (tVar 9) (tCons (tOp rModN (tOp rAddI (tOp (rIx K) (tVar 2) (tVar 8)) (tOp (rIx K) (tVar 2) (tVar 9))) (tC (.int 2))) tNil)))) tNil))) tNext)))))
    (tRet (tVar 5)))))))
theorem dv__law_wishes {f : Addr} {cdv : Value} {A : Around} {outer : List Env} {s : Shared} {H : Hp} {E : XK} (hr : Room 1 (A.deeper (envOfC "_law_wishes" (defScope s__law_wishes) s.heap.objs.size f cdv))) (B : ∀ x, x ∈ blt → mg x = none) (cs : Csts mg) {Φ__law_next : Ph} (g__law_next : Kn Pg w K mg base "_law_next" 1 ["_law_xs"] Φ__law_next) :
    PSs (cxOf CX0 Pg w K mg base ["_law_xs", "_law_many", "_law_side", "_law_count", "_law_near", "_law_found", "_law_k", "_law_x", "_law_a", "_law_b"] "_law_wishes" (defScope s__law_wishes) f cdv A outer s H E).nox (defBody s__law_wishes) (t__law_wishes K Φ__law_next) :=
  (pss_cons (ps_set (i := 3) sc__law_wishes.nd rfl (by first | exact .inl rfl | exact .inr rfl) (pe_op op_modN (pe_callD g__law_next (hr.mono (by decide)) (by rfl) (pa_cons (pv 0) pa_nil)) pe_int))
      (pss_cons (ps_if (pt_cmpR (op_eqD hr.units) (pe_op op_modN (pe_callD g__law_next (hr.mono (by decide)) (by rfl) (pa_cons (pv 0) pa_nil)) pe_int) pe_int (nomark _)) (pss_one (ps_set (i := 3) sc__law_wishes.nd rfl (by first | exact .inl rfl | exact .inr rfl) (pe_op op_modN (pe_callD g__law_next (hr.mono (by decide)) (by rfl) (pa_cons (pv 0) pa_nil)) pe_int))) pss_nil)
      (pss_cons (ps_set (i := 4) sc__law_wishes.nd rfl (by first | exact .inl rfl | exact .inr rfl) (pe_op op_add pe_int (pe_op op_modN (pe_callD g__law_next (hr.mono (by decide)) (by rfl) (pa_cons (pv 0) pa_nil)) (pv 1))))
      (pss_cons (ps_set (i := 5) sc__law_wishes.nd rfl (by first | exact .inl rfl | exact .inr rfl) (pe_lst pa_nil))
      (pss_cons (ps_for PassesOwn.never rfl (pi_range1 (by rfl) (B "range" (by decide)) (pa_cons (pv 3) pa_nil)) (pg_name (i := 6) sc__law_wishes.nd rfl (by first | exact .inl rfl | exact .inr rfl)) (pss_cons (ps_set (i := 7) sc__law_wishes.nd rfl (by first | exact .inl rfl | exact .inr rfl) (pe_callD g__law_next (hr.mono (by decide)) (by rfl) (pa_cons (pv 0) pa_nil)))
      (pss_cons (ps_set (i := 8) sc__law_wishes.nd rfl (by first | exact .inl rfl | exact .inr rfl) (pe_op op_modN (pv 7) (pv 1)))
      (pss_cons (ps_set (i := 9) sc__law_wishes.nd rfl (by first | exact .inl rfl | exact .inr rfl) (pe_op op_modN (pe_op op_add (pe_op op_add (pv 8) pe_int) (pe_op op_modN (pe_op op_fdivX (pv 7) pe_int) (pv 4))) (pv 1)))
      (pss_one (ps_if (pt_cmpR (op_neD hr.units) (pv 8) (pv 9) (nomark _)) (pss_one (ps_expr (pe_bm PySem.F.plainAttrs_list PySem.F.slot_list_append PySem.F.type_list_append mt_append (pv 5) (pa_cons (pe_tup (pa_cons (pv 8) (pa_cons (pv 9) (pa_cons (pe_op op_modN (pe_op op_add (pe_ix ix_seq (pv 2) (pv 8) (fun _ _ => rfl)) (pe_ix ix_seq (pv 2) (pv 9) (fun _ _ => rfl))) pe_int) pa_nil)))) pa_nil)))) pss_nil))))))
      (pss_one (ps_ret (pv 5))))))))
def t__law_groups (K : PySem.W.Frag) : TS := (tSeq (tAsg (tLstRg (tRg1 (tVar 0))) (gName 2))
    (tSeq (tAsg (tLst tNil) (gName 3))
    (tSeq (tWhile (tTest (tOp (rNeD K) (tVar 3) (tVar 2))) (tSeq (tAsg (tCB (rListQ K) (tCons (tVar 2) tNil)) (gName 3))
    (tFor (iList K (tVar 1)) (gTup K 3 (gCons (gName 4) (gCons (gName 5) (gCons (gName 6) gNil)))) (tSeq (tAsg (tCB rMinI (tCons (tOp (rIx K) (tVar 2) (tVar 4)) (tCons (tOp (rIx K) (tVar 2) (tVar 5)) tNil))) (gName 7))
    (tSeq (tAsg (tVar 7) (gSub (tVar 2) (tVar 4) rSetL))
    (tAsg (tVar 7) (gSub (tVar 2) (tVar 5) rSetL)))))))
    (tSeq (tAsg (tLc (iRng1 (tCons (tVar 0) tNil)) (gName 9) (tTest (tOp (rEqD K) (tOp (rIx K) (tVar 2) (tVar 9)) (tVar 9))) (tVar 9) [9]) (gName 8))
    (tRet (tCB (rTupQ K) (tCons (tLc (iList K (tVar 2)) (gName 10) tYes (tBM K "list" (rIndex K) (tVar 8) (tCons (tVar 10) tNil)) [10]) tNil)))))))
theorem dv__law_groups {f : Addr} {cdv : Value} {A : Around} {outer : List Env} {s : Shared} {H : Hp} {E : XK} (hr : Room 0 (A.deeper (envOfC "_law_groups" (defScope s__law_groups) s.heap.objs.size f cdv))) (B : ∀ x, x ∈ blt → mg x = none) (cs : Csts mg) :
    PSs (cxOf CX0 Pg w K mg base ["_law_many", "_law_wishes_here", "_law_found", "_law_before", "_law_a", "_law_b", "_law_unlike", "_law_least", "_law_firsts", "_law_point", "_law_first"] "_law_groups" (defScope s__law_groups) f cdv A outer s H E).nox (defBody s__law_groups) (t__law_groups K) :=
  (pss_cons (ps_set (i := 2) sc__law_groups.nd rfl (by first | exact .inl rfl | exact .inr rfl) (pe_listRg rfl (by rfl) (B "list" (by decide)) (prg_1 (by rfl) (B "range" (by decide)) (pv 0))))
      (pss_cons (ps_set (i := 3) sc__law_groups.nd rfl (by first | exact .inl rfl | exact .inr rfl) (pe_lst pa_nil))
      (pss_cons (ps_while PassesOwn.never (pt_cmpR (op_neD hr.units) (pv 3) (pv 2) (nomark _)) (pss_cons (ps_set (i := 3) sc__law_groups.nd rfl (by first | exact .inl rfl | exact .inr rfl) (pe_callTy call_list_of (by rfl) (B "list" (by decide)) (by decide +kernel) (pa_cons (pv 2) pa_nil)))
      (pss_one (ps_for PassesOwn.never rfl (pi_list (pv 1)) (pg_tup rfl (pgs_cons (pg_name (i := 4) sc__law_groups.nd rfl (by first | exact .inl rfl | exact .inr rfl)) (pgs_cons (pg_name (i := 5) sc__law_groups.nd rfl (by first | exact .inl rfl | exact .inr rfl)) (pgs_cons (pg_name (i := 6) sc__law_groups.nd rfl (by first | exact .inl rfl | exact .inr rfl)) pgs_nil)))) (pss_cons (ps_set (i := 7) sc__law_groups.nd rfl (by first | exact .inl rfl | exact .inr rfl) (pe_callB (call_min2 rfl) (by rfl) (B "min" (by decide)) (by decide +kernel) (pa_cons (pe_ix ix_seq (pv 2) (pv 4) (fun _ _ => rfl)) (pa_cons (pe_ix ix_seq (pv 2) (pv 5) (fun _ _ => rfl)) pa_nil))))
      (pss_cons (ps_asg (pv 7) (pg_sub (pv 2) (pv 4) set_list))
      (pss_one (ps_asg (pv 7) (pg_sub (pv 2) (pv 5) set_list)))))))))
      (pss_cons (ps_set (i := 8) sc__law_groups.nd rfl (by first | exact .inl rfl | exact .inr rfl) (pe_lc (own := [("_law_point", 9)]) (g := (gName 9)) (tt := (tTest (tOp (rEqD K) (tOp (rIx K) (tVar 2) (tVar 9)) (tVar 9)))) rfl sc__law_groups.nd (pi_range1 (by rfl) (B "range" (by decide)) (pa_cons (pv 0) pa_nil)) (blkOk_by (own := [("_law_point", 9)]) (N := ["_law_many", "_law_wishes_here", "_law_found", "_law_before", "_law_a", "_law_b", "_law_unlike", "_law_least", "_law_firsts", "_law_point", "_law_first"]) (sc := defScope s__law_groups) (by decide +kernel)) (fun _ _ _ _ _ => (pg_name (i := 9) sc__law_groups.nd rfl (by first | exact .inl rfl | exact .inr rfl))) (fun _ _ _ _ _ => (pts_one (pt_cmpR (op_eqD hr.units) (pe_ix ix_seq (pv 2) (pv 9) (fun _ _ => rfl)) (pv 9) (nomark _)))) (fun _ _ _ _ _ => (pv 9))))
      (pss_one (ps_ret (pe_callTy call_tuple_of (by rfl) (B "tuple" (by decide)) (by decide +kernel) (pa_cons (pe_lc (own := [("_law_first", 10)]) (g := (gName 10)) (tt := tYes) rfl sc__law_groups.nd (pi_list (pv 2)) (blkOk_by (own := [("_law_first", 10)]) (N := ["_law_many", "_law_wishes_here", "_law_found", "_law_before", "_law_a", "_law_b", "_law_unlike", "_law_least", "_law_firsts", "_law_point", "_law_first"]) (sc := defScope s__law_groups) (by decide +kernel)) (fun _ _ _ _ _ => (pg_name (i := 10) sc__law_groups.nd rfl (by first | exact .inl rfl | exact .inr rfl))) (fun _ _ _ _ _ => pts_nil) (fun _ _ _ _ _ => (pe_bm PySem.F.plainAttrs_list PySem.F.slot_list_index PySem.F.type_list_index mt_index (pv 8) (pa_cons (pv 10) pa_nil)))) pa_nil))))))))
def t__law_keeps (K : PySem.W.Frag) : TS := (tRet (tOp (rEqD K) (tLc (iList K (tVar 0)) (gTup K 3 (gCons (gName 2) (gCons (gName 3) (gCons (gName 4) gNil)))) (tTest (tOp (rNeD K) (tOp rModN (tOp rAddI (tOp (rIx K) (tVar 1) (tVar 2)) (tOp (rIx K) (tVar 1) (tVar 3))) (tC (.int 2))) (tVar 4))) (tC (.int 1)) [2, 3, 4]) (tLst tNil)))
theorem dv__law_keeps {f : Addr} {cdv : Value} {A : Around} {outer : List Env} {s : Shared} {H : Hp} {E : XK} (hr : Room 0 (A.deeper (envOfC "_law_keeps" (defScope s__law_keeps) s.heap.objs.size f cdv))) (B : ∀ x, x ∈ blt → mg x = none) (cs : Csts mg) :
    PSs (cxOf CX0 Pg w K mg base ["_law_wishes_here", "_law_side", "_law_a", "_law_b", "_law_unlike"] "_law_keeps" (defScope s__law_keeps) f cdv A outer s H E).nox (defBody s__law_keeps) (t__law_keeps K) :=
  (pss_one (ps_ret (pe_cmpR (op_eqD hr.units) (pe_lc (own := [("_law_a", 2), ("_law_b", 3), ("_law_unlike", 4)]) (g := (gTup K 3 (gCons (gName 2) (gCons (gName 3) (gCons (gName 4) gNil))))) (tt := (tTest (tOp (rNeD K) (tOp rModN (tOp rAddI (tOp (rIx K) (tVar 1) (tVar 2)) (tOp (rIx K) (tVar 1) (tVar 3))) (tC (.int 2))) (tVar 4)))) rfl sc__law_keeps.nd (pi_list (pv 0)) (blkOk_by (own := [("_law_a", 2), ("_law_b", 3), ("_law_unlike", 4)]) (N := ["_law_wishes_here", "_law_side", "_law_a", "_law_b", "_law_unlike"]) (sc := defScope s__law_keeps) (by decide +kernel)) (fun _ _ _ _ _ => (pg_tup rfl (pgs_cons (pg_name (i := 2) sc__law_keeps.nd rfl (by first | exact .inl rfl | exact .inr rfl)) (pgs_cons (pg_name (i := 3) sc__law_keeps.nd rfl (by first | exact .inl rfl | exact .inr rfl)) (pgs_cons (pg_name (i := 4) sc__law_keeps.nd rfl (by first | exact .inl rfl | exact .inr rfl)) pgs_nil))))) (fun _ _ _ _ _ => (pts_one (pt_cmpR (op_neD hr.units) (pe_op op_modN (pe_op op_add (pe_ix ix_seq (pv 1) (pv 2) (fun _ _ => rfl)) (pe_ix ix_seq (pv 1) (pv 3) (fun _ _ => rfl))) pe_int) (pv 4) (nomark _)))) (fun _ _ _ _ _ => pe_int)) (pe_lst pa_nil) (nomark _))))
def t__law_right (K : PySem.W.Frag) (Φ__law_groups : Ph) (Φ__law_int : Ph) (Φ__law_keeps : Ph) : TS := (tSeq (tIfS (tOr (tNot (L2.tB (tCB (rIsi K) (tCons (tVar 2) (tCons (tC (.ty "tuple")) tNil))))) (tOr (tTest (tOp (rNeD K) (tCB (rLenQ K) (tCons (tVar 2) tNil)) (tC (.int 3)))) (tTest (tOp (rNeD K) (tOp (rIx K) (tVar 2) (tC (.int 0))) (tC (.str "groups")))))) (tRet (tC (.bl false))) tNext)
    (tSeq (tAsg (tSl (rSlA K) (tVar 2) (tPart (tC (.int 1))) tNoPart) (gTup K 2 (gCons (gName 3) (gCons (gName 4) gNil))))
    (tSeq (tIfS (tOr (tNot (L2.tB (tCB (rIsi K) (tCons (tVar 3) (tCons (tC (.ty "tuple")) tNil))))) (tOr (tNot (L2.tB (tCB (rIsi K) (tCons (tVar 4) (tCons (tC (.ty "tuple")) tNil))))) (tOr (tTest (tOp (rNeD K) (tCB (rLenQ K) (tCons (tVar 3) tNil)) (tVar 0))) (tTest (tOp (rNeD K) (tCB (rLenQ K) (tCons (tVar 4) tNil)) (tVar 0)))))) (tRet (tC (.bl false))) tNext)
    (tSeq (tIfS (tOr (tTest (tOp (rNeD K) (tLc (iTup K (tOp (rCatA K) (tVar 3) (tVar 4))) (gName 5) (tNot (L2.tB (tCall (SpD K Φ__law_int) [] E0 (tCons (tVar 5) tNil)))) (tVar 5) [5]) (tLst tNil))) (tTest (tOp (rNeD K) (tVar 3) (tCall (SpD K Φ__law_groups) [] E0 (tCons (tVar 0) (tCons (tVar 1) tNil)))))) (tRet (tC (.bl false))) tNext)
    (tSeq (tIfS (tTest (tOp (rNeD K) (tLc (iRng1 (tCons (tVar 0) tNil)) (gName 6) (tAnd (tTest (tOp (rEqD K) (tTIdx (tVar 3) (tCons (tOp (rIx K) (tVar 3) (tVar 6)) tNil)) (tVar 6))) (tTest (tOp (rNeD K) (tOp (rIx K) (tVar 4) (tVar 6)) (tC (.int 0))))) (tVar 6) [6]) (tLst tNil))) (tRet (tC (.bl false))) tNext)
    (tRet (tAndV (tOp (rEqD K) (tLc (iTup K (tVar 4)) (gName 7) (tOr (tTest (tOp rLtI (tVar 7) (tC (.int 0)))) (tTest (tOp rGtI (tVar 7) (tC (.int 1))))) (tVar 7) [7]) (tLst tNil)) (tCall (SpD K Φ__law_keeps) [] E0 (tCons (tVar 1) (tCons (tVar 4) tNil))))))))))
theorem dv__law_right {f : Addr} {cdv : Value} {A : Around} {outer : List Env} {s : Shared} {H : Hp} {E : XK} (hr : Room 1 (A.deeper (envOfC "_law_right" (defScope s__law_right) s.heap.objs.size f cdv))) (B : ∀ x, x ∈ blt → mg x = none) (cs : Csts mg) {Φ__law_groups : Ph} {Φ__law_int : Ph} {Φ__law_keeps : Ph} (g__law_groups : Kn Pg w K mg base "_law_groups" 1 ["_law_many", "_law_wishes_here"] Φ__law_groups) (g__law_int : Kn Pg w K mg base "_law_int" 1 ["_law_found"] Φ__law_int) (g__law_keeps : Kn Pg w K mg base "_law_keeps" 1 ["_law_wishes_here", "_law_side"] Φ__law_keeps) :
    PSs (cxOf CX0 Pg w K mg base ["_law_many", "_law_wishes_here", "_law_found", "_law_groups_here", "_law_marks", "_law_x", "_law_point", "_law_mark"] "_law_right" (defScope s__law_right) f cdv A outer s H E).nox (defBody s__law_right) (t__law_right K Φ__law_groups Φ__law_int Φ__law_keeps) :=
  (pss_cons (ps_if (PW.pt (pw_or (pt_not (pt_val (pe_callB call_isi (by rfl) (B "isinstance" (by decide)) (by decide +kernel) (pa_cons (pv 2) (pa_cons (pe_bltn (by rfl) (B "tuple" (by decide)) (by decide +kernel) rfl) pa_nil))))) (pw_or (pt_cmpR (op_neD hr.units) (pe_callB call_len_seq (by rfl) (B "len" (by decide)) (by decide +kernel) (pa_cons (pv 2) pa_nil)) pe_int (nomark _)) (pw_or1 (pt_cmpR (op_neD hr.units) (pe_ix ix_seq (pv 2) pe_int (fun _ _ => rfl)) pe_str (nomark _)))))) (pss_one (ps_ret pe_bl)) pss_nil)
      (pss_cons (ps_asg (pe_slice sl_tupA (pv 2) (po_some pe_int) po_none) (pg_tup rfl (pgs_cons (pg_name (i := 3) sc__law_right.nd rfl (by first | exact .inl rfl | exact .inr rfl)) (pgs_cons (pg_name (i := 4) sc__law_right.nd rfl (by first | exact .inl rfl | exact .inr rfl)) pgs_nil))))
      (pss_cons (ps_if (PW.pt (pw_or (pt_not (pt_val (pe_callB call_isi (by rfl) (B "isinstance" (by decide)) (by decide +kernel) (pa_cons (pv 3) (pa_cons (pe_bltn (by rfl) (B "tuple" (by decide)) (by decide +kernel) rfl) pa_nil))))) (pw_or (pt_not (pt_val (pe_callB call_isi (by rfl) (B "isinstance" (by decide)) (by decide +kernel) (pa_cons (pv 4) (pa_cons (pe_bltn (by rfl) (B "tuple" (by decide)) (by decide +kernel) rfl) pa_nil))))) (pw_or (pt_cmpR (op_neD hr.units) (pe_callB call_len_seq (by rfl) (B "len" (by decide)) (by decide +kernel) (pa_cons (pv 3) pa_nil)) (pv 0) (nomark _)) (pw_or1 (pt_cmpR (op_neD hr.units) (pe_callB call_len_seq (by rfl) (B "len" (by decide)) (by decide +kernel) (pa_cons (pv 4) pa_nil)) (pv 0) (nomark _))))))) (pss_one (ps_ret pe_bl)) pss_nil)
      (pss_cons (ps_if (PW.pt (pw_or (pt_cmpR (op_neD hr.units) (pe_lc (own := [("_law_x", 5)]) (g := (gName 5)) (tt := (tNot (L2.tB (tCall (SpD K Φ__law_int) [] E0 (tCons (tVar 5) tNil))))) rfl sc__law_right.nd (pi_tup (pe_op op_catA (pv 3) (pv 4))) (blkOk_by (own := [("_law_x", 5)]) (N := ["_law_many", "_law_wishes_here", "_law_found", "_law_groups_here", "_law_marks", "_law_x", "_law_point", "_law_mark"]) (sc := defScope s__law_right) (by decide +kernel)) (fun _ _ _ _ _ => (pg_name (i := 5) sc__law_right.nd rfl (by first | exact .inl rfl | exact .inr rfl))) (fun _ _ _ _ _ => (pts_one (pt_not (pt_val (pe_callD g__law_int (hr.mono (by decide)) (by rfl) (pa_cons (pv 5) pa_nil)))))) (fun _ _ _ _ _ => (pv 5))) (pe_lst pa_nil) (nomark _)) (pw_or1 (pt_cmpR (op_neD hr.units) (pv 3) (pe_callD g__law_groups (hr.mono (by decide)) (by rfl) (pa_cons (pv 0) (pa_cons (pv 1) pa_nil))) (nomark _))))) (pss_one (ps_ret pe_bl)) pss_nil)
      (pss_cons (ps_if (pt_cmpR (op_neD hr.units) (pe_lc (own := [("_law_point", 6)]) (g := (gName 6)) (tt := (tAnd (tTest (tOp (rEqD K) (tTIdx (tVar 3) (tCons (tOp (rIx K) (tVar 3) (tVar 6)) tNil)) (tVar 6))) (tTest (tOp (rNeD K) (tOp (rIx K) (tVar 4) (tVar 6)) (tC (.int 0)))))) rfl sc__law_right.nd (pi_range1 (by rfl) (B "range" (by decide)) (pa_cons (pv 0) pa_nil)) (blkOk_by (own := [("_law_point", 6)]) (N := ["_law_many", "_law_wishes_here", "_law_found", "_law_groups_here", "_law_marks", "_law_x", "_law_point", "_law_mark"]) (sc := defScope s__law_right) (by decide +kernel)) (fun _ _ _ _ _ => (pg_name (i := 6) sc__law_right.nd rfl (by first | exact .inl rfl | exact .inr rfl))) (fun _ _ _ _ _ => (pts_one (PW.pt (pw_and (pt_cmpR (op_eqD hr.units) (pe_tidx (pv 3) (pa_cons (pe_ix ix_seq (pv 3) (pv 6) (fun _ _ => rfl)) pa_nil)) (pv 6) (nomark _)) (pw_and1 (pt_cmpR (op_neD hr.units) (pe_ix ix_seq (pv 4) (pv 6) (fun _ _ => rfl)) pe_int (nomark _))))))) (fun _ _ _ _ _ => (pv 6))) (pe_lst pa_nil) (nomark _)) (pss_one (ps_ret pe_bl)) pss_nil)
      (pss_one (ps_ret (pe_and (pe_cmpR (op_eqD hr.units) (pe_lc (own := [("_law_mark", 7)]) (g := (gName 7)) (tt := (tOr (tTest (tOp rLtI (tVar 7) (tC (.int 0)))) (tTest (tOp rGtI (tVar 7) (tC (.int 1)))))) rfl sc__law_right.nd (pi_tup (pv 4)) (blkOk_by (own := [("_law_mark", 7)]) (N := ["_law_many", "_law_wishes_here", "_law_found", "_law_groups_here", "_law_marks", "_law_x", "_law_point", "_law_mark"]) (sc := defScope s__law_right) (by decide +kernel)) (fun _ _ _ _ _ => (pg_name (i := 7) sc__law_right.nd rfl (by first | exact .inl rfl | exact .inr rfl))) (fun _ _ _ _ _ => (pts_one (PW.pt (pw_or (pt_cmpR op_lt (pv 7) pe_int (nomark _)) (pw_or1 (pt_cmpR op_gt (pv 7) pe_int (nomark _))))))) (fun _ _ _ _ _ => (pv 7))) (pe_lst pa_nil) (nomark _)) (pe_one (pe_callD g__law_keeps (hr.mono (by decide)) (by rfl) (pa_cons (pv 1) (pa_cons (pv 4) pa_nil))))))))))))
def t_law (K : PySem.W.Frag) (Φ__law_stream : Ph) (Φ__law_next : Ph) (Φ__law_wishes : Ph) (Φ__law_truth : Ph) (Φ_keeps : Ph) (Φ__law_right : Ph) (Φ_grouped : Ph) (Φ__law_keeps : Ph) : TS := (tSeq (tFor (iList K (tSl (rSlL K) (tVar 0) tNoPart (tPart (tC (.int 8))))) (gName 1) (tSeq (tAsg (tCall (SpD K Φ__law_stream) [] E0 (tCons (tVar 1) (tCons (tC (.int 250)) tNil))) (gName 2))
    (tSeq (tAsg (tOp rAddI (tC (.int 1)) (tOp rModN (tCall (SpD K Φ__law_next) [] E0 (tCons (tVar 2) tNil)) (tOp (rIx K) (tLst (tCons (tC (.int 7)) (tCons (tC (.int 60)) tNil))) (tOp rModN (tCall (SpD K Φ__law_next) [] E0 (tCons (tVar 2) tNil)) (tC (.int 2)))))) (gName 3))
    (tSeq (tAsg (tOp rCat (tLst (tCons (tC (.int 0)) tNil)) (tLc (iRng1 (tCons (tOp rSubI (tVar 3) (tC (.int 1))) tNil)) (gName 11) tYes (tOp rModN (tCall (SpD K Φ__law_next) [] E0 (tCons (tVar 2) tNil)) (tC (.int 2))) [11])) (gName 4))
    (tSeq (tAsg (tCall (SpD K Φ__law_wishes) [] E0 (tCons (tVar 2) (tCons (tVar 3) (tCons (tVar 4) tNil)))) (gName 5))
    (tSeq (tAsg (tCB (rTupQ K) (tCons (tOp rCat (tLst (tCons (tC (.int 0)) tNil)) (tLc (iRng2 (tCons (tC (.int 1)) (tCons (tVar 3) tNil))) (gName 11) tYes (tOp rModN (tOp rAddI (tOp (rIx K) (tVar 4) (tVar 11)) (tOp rDivX (tOp rModN (tCall (SpD K Φ__law_next) [] E0 (tCons (tVar 2) tNil)) (tC (.int 5))) (tC (.int 4)))) (tC (.int 2))) [11])) tNil)) (gName 6))
    (tSeq (tAsg (tTup (tCons (tVar 3) (tCons (tTup tNil) tNil))) (gName 7))
    (tSeq (tAsg (tVar 5) (gName 8))
    (tSeq (tAsg (tOp rModN (tCall (SpD K Φ__law_next) [] E0 (tCons (tVar 2) tNil)) (tC (.int 3))) (gName 9))
    (tSeq (tIfS (tTest (tOp (rEqD K) (tVar 9) (tC (.int 1)))) (tAsg (tCB (rTupQ K) (tCons (tVar 5) tNil)) (gName 8)) tNext)
    (tSeq (tIfS (tTest (tOp (rEqD K) (tVar 9) (tC (.int 2)))) (tAsg (tLc (iList K (tVar 5)) (gName 12) tYes (tCB (rListQ K) (tCons (tVar 12) tNil)) [12]) (gName 8)) tNext)
    (tSeq (tAsg (tCB (rRepr K) (tCons (tVar 8) tNil)) (gName 10))
    (tSeq (tIfS (tOr (tNot (L2.tB (tCall (SpD K Φ__law_right) [] E0 (tCons (tVar 3) (tCons (tVar 5) (tCons (tCall (SpD K Φ_grouped) [] E0 (tCons (tVar 7) (tCons (tVar 8) tNil))) tNil)))))) (tNot (L2.tB (tCall (SpD K Φ__law_truth) [] E0 (tCons (tCall (SpD K Φ_keeps) [] E0 (tCons (tVar 7) (tCons (tVar 8) (tCons (tCB (rTupQ K) (tCons (tVar 4) tNil)) tNil)))) (tCons (tC (.bl true)) tNil)))))) (tRet (tC (.bl false))) tNext)
    (tIfS (tOr (tNot (L2.tB (tCall (SpD K Φ__law_truth) [] E0 (tCons (tCall (SpD K Φ_keeps) [] E0 (tCons (tVar 7) (tCons (tVar 8) (tCons (tVar 6) tNil)))) (tCons (tCall (SpD K Φ__law_keeps) [] E0 (tCons (tVar 5) (tCons (tVar 6) tNil))) tNil))))) (tTest (tOp rNe (tCB (rRepr K) (tCons (tVar 8) tNil)) (tVar 10)))) (tRet (tC (.bl false))) tNext))))))))))))))
    (tRet (tC (.bl true))))
theorem dv_law {f : Addr} {cdv : Value} {A : Around} {outer : List Env} {s : Shared} {H : Hp} {E : XK} (hr : Room 6 (A.deeper (envOfC "law" (defScope s_law) s.heap.objs.size f cdv))) (hg : (A.deeper (envOfC "law" (defScope s_law) s.heap.objs.size f cdv)).guards = some []) (B : ∀ x, x ∈ blt → mg x = none) (cs : Csts mg) {Φ__law_stream : Ph} {Φ__law_next : Ph} {Φ__law_wishes : Ph} {Φ__law_truth : Ph} {Φ_keeps : Ph} {Φ__law_right : Ph} {Φ_grouped : Ph} {Φ__law_keeps : Ph} (g__law_stream : Kn Pg w K mg base "_law_stream" 1 ["_law_cell", "_law_many"] Φ__law_stream) (g__law_next : Kn Pg w K mg base "_law_next" 1 ["_law_xs"] Φ__law_next) (g__law_wishes : Kn Pg w K mg base "_law_wishes" 2 ["_law_xs", "_law_many", "_law_side"] Φ__law_wishes) (g__law_truth : Kn Pg w K mg base "_law_truth" 1 ["_law_found", "_law_due"] Φ__law_truth) (g_keeps : Kn Pg w K mg base "keeps" 6 ["web", "wishes", "side"] Φ_keeps) (g__law_right : Kn Pg w K mg base "_law_right" 2 ["_law_many", "_law_wishes_here", "_law_found"] Φ__law_right) (g_grouped : Kn Pg w K mg base "grouped" 6 ["web", "wishes"] Φ_grouped) (g__law_keeps : Kn Pg w K mg base "_law_keeps" 1 ["_law_wishes_here", "_law_side"] Φ__law_keeps) :
    PSs (cxOf CX0 Pg w K mg base ["_law_script", "_law_cell", "_law_xs", "_law_many", "_law_bits", "_law_wishes_here", "_law_other", "_law_web", "_law_thing", "_law_form", "_law_before", "_law_k", "_law_wish"] "law" (defScope s_law) f cdv A outer s H E).nox (defBody s_law) (t_law K Φ__law_stream Φ__law_next Φ__law_wishes Φ__law_truth Φ_keeps Φ__law_right Φ_grouped Φ__law_keeps) :=
  (pss_cons (ps_for PassesOwn.never rfl (pi_list (pe_slice sl_list (pv 0) po_none (po_some pe_int))) (pg_name (i := 1) sc_law.nd rfl (by first | exact .inl rfl | exact .inr rfl)) (pss_cons (ps_set (i := 2) sc_law.nd rfl (by first | exact .inl rfl | exact .inr rfl) (pe_callD g__law_stream (hr.mono (by decide)) (by rfl) (pa_cons (pv 1) (pa_cons pe_int pa_nil))))
      (pss_cons (ps_set (i := 3) sc_law.nd rfl (by first | exact .inl rfl | exact .inr rfl) (pe_op op_add pe_int (pe_op op_modN (pe_callD g__law_next (hr.mono (by decide)) (by rfl) (pa_cons (pv 2) pa_nil)) (pe_ix ix_seq (pe_lst (pa_cons pe_int (pa_cons pe_int pa_nil))) (pe_op op_modN (pe_callD g__law_next (hr.mono (by decide)) (by rfl) (pa_cons (pv 2) pa_nil)) pe_int) (fun _ _ => rfl)))))
      (pss_cons (ps_set (i := 4) sc_law.nd rfl (by first | exact .inl rfl | exact .inr rfl) (pe_op op_cat (pe_lst (pa_cons pe_int pa_nil)) (pe_lc (own := [("_law_k", 11)]) (g := (gName 11)) (tt := tYes) rfl sc_law.nd (pi_range1 (by rfl) (B "range" (by decide)) (pa_cons (pe_op op_sub (pv 3) pe_int) pa_nil)) (blkOk_by (own := [("_law_k", 11)]) (N := ["_law_script", "_law_cell", "_law_xs", "_law_many", "_law_bits", "_law_wishes_here", "_law_other", "_law_web", "_law_thing", "_law_form", "_law_before", "_law_k", "_law_wish"]) (sc := defScope s_law) (by decide +kernel)) (fun _ _ _ _ _ => (pg_name (i := 11) sc_law.nd rfl (by first | exact .inl rfl | exact .inr rfl))) (fun _ _ _ _ _ => pts_nil) (fun _ _ _ _ _ => (pe_op op_modN (pe_callD g__law_next (hr.mono (by decide)) (by rfl) (pa_cons (pv 2) pa_nil)) pe_int)))))
      (pss_cons (ps_set (i := 5) sc_law.nd rfl (by first | exact .inl rfl | exact .inr rfl) (pe_callD g__law_wishes (hr.mono (by decide)) (by rfl) (pa_cons (pv 2) (pa_cons (pv 3) (pa_cons (pv 4) pa_nil)))))
      (pss_cons (ps_set (i := 6) sc_law.nd rfl (by first | exact .inl rfl | exact .inr rfl) (pe_callTy call_tuple_of (by rfl) (B "tuple" (by decide)) (by decide +kernel) (pa_cons (pe_op op_cat (pe_lst (pa_cons pe_int pa_nil)) (pe_lc (own := [("_law_k", 11)]) (g := (gName 11)) (tt := tYes) rfl sc_law.nd (pi_range2 (by rfl) (B "range" (by decide)) (pa_cons pe_int (pa_cons (pv 3) pa_nil))) (blkOk_by (own := [("_law_k", 11)]) (N := ["_law_script", "_law_cell", "_law_xs", "_law_many", "_law_bits", "_law_wishes_here", "_law_other", "_law_web", "_law_thing", "_law_form", "_law_before", "_law_k", "_law_wish"]) (sc := defScope s_law) (by decide +kernel)) (fun _ _ _ _ _ => (pg_name (i := 11) sc_law.nd rfl (by first | exact .inl rfl | exact .inr rfl))) (fun _ _ _ _ _ => pts_nil) (fun _ _ _ _ _ => (pe_op op_modN (pe_op op_add (pe_ix ix_seq (pv 4) (pv 11) (fun _ _ => rfl)) (pe_op op_fdivX (pe_op op_modN (pe_callD g__law_next (hr.mono (by decide)) (by rfl) (pa_cons (pv 2) pa_nil)) pe_int) pe_int)) pe_int)))) pa_nil)))
      (pss_cons (ps_set (i := 7) sc_law.nd rfl (by first | exact .inl rfl | exact .inr rfl) (pe_tup (pa_cons (pv 3) (pa_cons (pe_tup pa_nil) pa_nil))))
      (pss_cons (ps_set (i := 8) sc_law.nd rfl (by first | exact .inl rfl | exact .inr rfl) (pv 5))
      (pss_cons (ps_set (i := 9) sc_law.nd rfl (by first | exact .inl rfl | exact .inr rfl) (pe_op op_modN (pe_callD g__law_next (hr.mono (by decide)) (by rfl) (pa_cons (pv 2) pa_nil)) pe_int))
      (pss_cons (ps_if (pt_cmpR (op_eqD hr.units) (pv 9) pe_int (nomark _)) (pss_one (ps_set (i := 8) sc_law.nd rfl (by first | exact .inl rfl | exact .inr rfl) (pe_callTy call_tuple_of (by rfl) (B "tuple" (by decide)) (by decide +kernel) (pa_cons (pv 5) pa_nil)))) pss_nil)
      (pss_cons (ps_if (pt_cmpR (op_eqD hr.units) (pv 9) pe_int (nomark _)) (pss_one (ps_setLc (i := 8) (own := [("_law_wish", 12)]) (g := (gName 12)) (tt := tYes) rfl sc_law.nd rfl rfl (sw_true rfl rfl rfl (by decide +kernel)) (pi_list (pv 5)) (blkOk_by (own := [("_law_wish", 12)]) (N := ["_law_script", "_law_cell", "_law_xs", "_law_many", "_law_bits", "_law_wishes_here", "_law_other", "_law_web", "_law_thing", "_law_form", "_law_before", "_law_k", "_law_wish"]) (sc := defScope s_law) (by decide +kernel)) (fun _ _ _ _ _ => (pg_name (i := 12) sc_law.nd rfl (by first | exact .inl rfl | exact .inr rfl))) (fun _ _ _ _ _ => pts_nil) (fun _ _ _ _ _ => (pe_callTy call_list_of (by rfl) (B "list" (by decide)) (by decide +kernel) (pa_cons (pv 12) pa_nil))))) pss_nil)
      (pss_cons (ps_set (i := 10) sc_law.nd rfl (by first | exact .inl rfl | exact .inr rfl) (pe_callB (cr_repr hr.units hg) (by rfl) (B "repr" (by decide)) (by decide +kernel) (pa_cons (pv 8) pa_nil)))
      (pss_cons (ps_if (PW.pt (pw_or (pt_not (pt_val (pe_callD g__law_right (hr.mono (by decide)) (by rfl) (pa_cons (pv 3) (pa_cons (pv 5) (pa_cons (pe_callD g_grouped (hr.mono (by decide)) (by rfl) (pa_cons (pv 7) (pa_cons (pv 8) pa_nil))) pa_nil)))))) (pw_or1 (pt_not (pt_val (pe_callD g__law_truth (hr.mono (by decide)) (by rfl) (pa_cons (pe_callD g_keeps (hr.mono (by decide)) (by rfl) (pa_cons (pv 7) (pa_cons (pv 8) (pa_cons (pe_callTy call_tuple_of (by rfl) (B "tuple" (by decide)) (by decide +kernel) (pa_cons (pv 4) pa_nil)) pa_nil)))) (pa_cons pe_bl pa_nil)))))))) (pss_one (ps_ret pe_bl)) pss_nil)
      (pss_one (ps_if (PW.pt (pw_or (pt_not (pt_val (pe_callD g__law_truth (hr.mono (by decide)) (by rfl) (pa_cons (pe_callD g_keeps (hr.mono (by decide)) (by rfl) (pa_cons (pv 7) (pa_cons (pv 8) (pa_cons (pv 6) pa_nil)))) (pa_cons (pe_callD g__law_keeps (hr.mono (by decide)) (by rfl) (pa_cons (pv 5) (pa_cons (pv 6) pa_nil))) pa_nil))))) (pw_or1 (pt_cmpR op_ne (pe_callB (cr_repr hr.units hg) (by rfl) (B "repr" (by decide)) (by decide +kernel) (pa_cons (pv 8) pa_nil)) (pv 10) (nomark _))))) (pss_one (ps_ret pe_bl)) pss_nil)))))))))))))))
      (pss_one (ps_ret pe_bl)))
end
local macro_rules | `(tactic| walk_at "ev") => `(tactic| first
  | ((with_reducible apply e_var); exact rfl) | ((with_reducible apply e_varm); exact rfl) | ((with_reducible apply e_vars); exact rfl)
  | with_reducible refine e_int ?_ | with_reducible refine e_bl ?_ | with_reducible refine e_non ?_ | with_reducible refine e_str ?_
  | with_reducible refine e_op ?_ | with_reducible refine e_un ?_
  | ((with_reducible refine rr_I0 ?_); refine ⟨_, _, rfl, rfl, ?_⟩) | ((with_reducible refine rr_B0 ?_); refine ⟨_, _, rfl, rfl, ?_⟩)
  | ((with_reducible refine rr_isB ?_); refine ⟨_, _, rfl, rfl, ?_⟩) | ((with_reducible refine rr_notB ?_); refine ⟨_, _, rfl, rfl, ?_⟩)
  | ((with_reducible refine ru_I ?_); refine ⟨_, rfl, ?_⟩)
  | with_reducible refine e_isi instInt ?_ | with_reducible refine e_isi instBool ?_ | with_reducible refine e_isi instTuple ?_ | with_reducible refine e_isiT instList instTuple ?_
  | with_reducible refine e_cb ?_ | with_reducible refine e_call ?_ | with_reducible refine e_callX0 ?_ | with_reducible refine e_chain ?_
  | with_reducible refine ea_cons ?_ | with_reducible refine ea_nil ?_
  | with_reducible refine e_slL ?_ | with_reducible refine eo_some ?_ | with_reducible refine eo_none ?_
  | with_reducible refine e_tup ?_ | with_reducible refine e_lst ?_
  | with_reducible refine e_and ?_ | with_reducible refine e_or ?_ | with_reducible refine e_not ?_ | with_reducible refine e_if ?_
  | with_reducible refine et_test ?_ | with_reducible refine et_B ?_ | with_reducible refine et_and ?_ | with_reducible refine et_or ?_ | with_reducible refine et_not ?_ | with_reducible refine et_yes ?_
  | with_reducible refine s_seq ?_ | with_reducible refine s_asg ?_ | with_reducible refine s_ret ?_ | with_reducible refine s_drop ?_ | with_reducible refine s_if ?_ | with_reducible refine s_next ?_ | with_reducible refine s_par ?_
  | ((with_reducible refine rc_abs ?_); refine ⟨_, rfl, ?_⟩) | ((with_reducible refine rc_max ?_); refine ⟨_, _, rfl, ?_⟩) | ((with_reducible refine rc_min ?_); refine ⟨_, _, rfl, ?_⟩)
  | ((with_reducible refine rr_ix ?_); first | refine ⟨_, _, _, .inr (.d _), rfl, atI_nat (j := 0) rfl, ?_⟩ | refine ⟨_, _, _, .inr (.d _), rfl, atI_nat (j := 1) rfl, ?_⟩ | refine ⟨_, _, _, .inr (.d _), rfl, atI_nat (j := 2) rfl, ?_⟩ | refine ⟨_, _, _, .inl (.d _), rfl, atI_nat (j := 0) rfl, ?_⟩ | refine ⟨_, _, _, .inl (.d _), rfl, atI_nat (j := 1) rfl, ?_⟩ | refine ⟨_, _, _, .inl (.d _), rfl, atI_nat (j := 2) rfl, ?_⟩)
  | ((with_reducible apply Exists.intro); first | refine ⟨(rfl : _ = List.map SD.d []), Nat.le_of_ble_eq_true rfl, ?_⟩ | refine ⟨(rfl : _ = List.map SD.d [_]), Nat.le_of_ble_eq_true rfl, ?_⟩ | refine ⟨(rfl : _ = List.map SD.d [_, _]), Nat.le_of_ble_eq_true rfl, ?_⟩ | refine ⟨(rfl : _ = List.map SD.d [_, _, _]), Nat.le_of_ble_eq_true rfl, ?_⟩ | refine ⟨(rfl : _ = List.map SD.d [_, _, _, _]), Nat.le_of_ble_eq_true rfl, ?_⟩ | refine ⟨Sv.d _, nofun, ?_⟩ | refine ⟨Sv.d _, ?_⟩ | refine ⟨rfl, ?_⟩ | ((with_reducible apply Exists.intro); refine ⟨rfl, ?_⟩)))
local macro_rules | `(tactic| walk_at "evs") => `(tactic| repeat walk_at "ev")

def Φ_is_whole : Ph := ph1 fun a ms R => ∃ x, a = .d x ∧ R (.d (.bool (isWhole x))) ms
theorem len_is_whole : ∀ as ms R, Φ_is_whole as ms R → as.length = 1 := ph1_len
theorem rd_is_whole {K : PySem.W.Frag} : ∀ as ms R, Φ_is_whole as ms R → S K (t_is_whole K) (as ++ List.replicate (1 - as.length) .u) ms (fin R) := by
  rintro as ms R ⟨a, rfl, x, rfl, r⟩
  rw [← whole_and] at r
  unfold t_is_whole
  walk_at "evs"
  refine ⟨fun h => ?_, fun h => ?_⟩
  · walk_at "evs"
    rw [h, Bool.true_and] at r
    exact r
  · rw [h, Bool.false_and] at r
    exact r

def Φ_is_row : Ph := ph1 fun a ms R => ∃ x, a = .d x ∧ R (.d (.bool (isRow x))) ms
theorem len_is_row : ∀ as ms R, Φ_is_row as ms R → as.length = 1 := ph1_len
theorem rd_is_row {K : PySem.W.Frag} : ∀ as ms R, Φ_is_row as ms R → S K (t_is_row K) (as ++ List.replicate (1 - as.length) .u) ms (fin R) := by
  rintro as ms R ⟨a, rfl, x, rfl, r⟩
  rw [← inst_row] at r
  unfold t_is_row
  walk_at "evs"
  exact r

def tripB : PyData → Bool
  | .list es => decide (es.length = 3)
  | .tuple es => decide (es.length = 3)
  | _ => false
def Φ_is_triple : Ph := ph1 fun a ms R => ∃ x, a = .d x ∧ R (.d (.bool (tripB x))) ms
theorem len_is_triple : ∀ as ms R, Φ_is_triple as ms R → as.length = 1 := ph1_len
theorem rd_is_triple {K : PySem.W.Frag} : ∀ as ms R, Φ_is_triple as ms R → S K (t_is_triple K Φ_is_row) (as ++ List.replicate (1 - as.length) .u) ms (fin R) := by
  rintro as ms R ⟨a, rfl, x, rfl, r⟩
  unfold t_is_triple
  walk_at "evs"
  refine ⟨_, rfl, x, rfl, ?_⟩
  refine ⟨_, rfl, fun h => ?_, fun h => ?_⟩
  · obtain ⟨es, sv, e⟩ : ∃ es, (Sv ms (.d x) (.list es) ∨ Sv ms (.d x) (.tuple es)) ∧ tripB x = decide (es.length = 3) := by
      cases x with
      | list es => exact ⟨es, .inl (.d _), rfl⟩
      | tuple es => exact ⟨es, .inr (.d _), rfl⟩
      | _ => cases h
    walk_at "evs"
    refine rc_len ⟨_, es, rfl, sv, ?_⟩
    walk_at "evs"
    refine rr_eq ⟨_, _, .d _, .d _, shaped_int _, shaped_int _, ?_⟩
    rw [eqv_int]
    rw [e] at r
    have : decide (((es.length : Nat) : Int) = 3) = decide (es.length = 3) := decide_eq_decide.mpr (by omega)
    rw [this]
    exact r
  · have e : tripB x = false := by
      cases x with
      | list es => cases h
      | tuple es => cases h
      | _ => rfl
    rw [e] at r
    exact r

def numB (m : Int) : PyData → Bool
  | .int i => decide (0 ≤ i) && decide (i < m)
  | _ => false
def Φ_is_number_of : Ph := ph2 fun a b ms R => ∃ m x, a = .d (.int m) ∧ b = .d x ∧ R (.d (.bool (numB m x))) ms
theorem len_is_number_of : ∀ as ms R, Φ_is_number_of as ms R → as.length = 2 := ph2_len
theorem rd_is_number_of {K : PySem.W.Frag} : ∀ as ms R, Φ_is_number_of as ms R → S K (t_is_number_of K Φ_is_whole) (as ++ List.replicate (2 - as.length) .u) ms (fin R) := by
  rintro as ms R ⟨a, b, rfl, m, x, rfl, rfl, r⟩
  unfold t_is_number_of
  walk_at "evs"
  refine ⟨_, rfl, x, rfl, _, rfl, fun h => ?_, fun h => ?_⟩
  · obtain ⟨i, rfl⟩ := whole_inv h
    walk_at "evs"
    refine ⟨fun h2 => ?_, fun h2 => ?_⟩
    · walk_at "evs"
      rintro b' rfl
      walk_at "evs"
      have e : numB m (.int i) = decide (i < m) := by show (decide (0 ≤ i) && decide (i < m)) = _; rw [h2, Bool.true_and]
      rw [e] at r
      exact r
    · have e : numB m (.int i) = false := by show (decide (0 ≤ i) && decide (i < m)) = _; rw [h2, Bool.false_and]
      rw [e] at r
      exact r
  · have e : numB m x = false := by
      cases x with
      | int i => cases h
      | _ => rfl
    rw [e] at r
    exact r

def unlB (m : Int) (x y : PyData) : Bool := numB m x && (numB m y && !PyData.eqv x y)
def Φ_are_unlike_points : Ph := ph3 fun a b c ms R => ∃ m x y, a = .d (.int m) ∧ b = .d x ∧ c = .d y ∧ R (.d (.bool (unlB m x y))) ms
theorem len_are_unlike_points : ∀ as ms R, Φ_are_unlike_points as ms R → as.length = 3 := ph3_len
theorem numI {n : Int} {e : PyData} (h : numB n e = true) : ∃ i : Int, e = .int i := by
  cases e with
  | int i => exact ⟨i, rfl⟩
  | _ => cases h
theorem rd_are_unlike_points {K : PySem.W.Frag} : ∀ as ms R, Φ_are_unlike_points as ms R → S K (t_are_unlike_points K Φ_is_number_of) (as ++ List.replicate (3 - as.length) .u) ms (fin R) := by
  rintro as ms R ⟨a, b, c, rfl, m, x, y, rfl, rfl, rfl, r⟩
  unfold t_are_unlike_points
  walk_at "evs"
  refine ⟨_, _, rfl, m, x, rfl, rfl, ?_⟩
  unfold unlB at r
  refine ⟨_, rfl, fun h => ?_, fun h => ?_⟩
  · obtain ⟨i, rfl⟩ := numI h
    rw [h, Bool.true_and] at r
    walk_at "evs"
    refine ⟨_, _, rfl, m, y, rfl, rfl, ?_⟩
    refine ⟨_, rfl, fun h2 => ?_, fun h2 => ?_⟩
    · obtain ⟨j, rfl⟩ := numI h2
      rw [h2, Bool.true_and] at r
      walk_at "evs"
      exact rr_ne ⟨_, _, .d _, .d _, shaped_int _, shaped_int _, r⟩
    · rw [h2, Bool.false_and] at r
      exact r
  · rw [h, Bool.false_and] at r
    exact r

/-- a join: two points, 0 or 1 -/
abbrev Jn := Nat × Nat × Nat
abbrev encJ (j : Jn) : PyData := .tuple [.int j.1, .int j.2.1, .int j.2.2]
structure JOk (m : Nat) (js : List Jn) : Prop where
  m60 : m ≤ 60
  len : js.length ≤ 200
  all : ∀ j ∈ js, j.1 < m ∧ j.2.1 < m ∧ j.1 ≠ j.2.1 ∧ j.2.2 < 2
/-- what stands at the point p of one join, numbered k -/
def atP (p k : Nat) (j : Jn) : List Jn := if j.1 = p then [(k, j.2.1, j.2.2)] else if j.2.1 = p then [(k, j.1, j.2.2)] else []
def nbr (js : List Jn) (p : Nat) : List Jn := (List.range js.length).flatMap fun k => match js[k]? with | some j => atP p k j | none => []
def nearJ (js : List Jn) (m : Nat) : List (List PyData) := (List.range m).map fun p => (nbr js p).map encJ
def Φ_joins_at : Ph := ph2 fun a b ms R => ∃ (m : Nat) (js : List Jn), a = .d (.int m) ∧ b = .d (.tuple (js.map encJ)) ∧ JOk m js ∧ R (.d (.list ((nearJ js m).map .list))) ms
theorem len_joins_at : ∀ as ms R, Φ_joins_at as ms R → as.length = 2 := ph2_len
theorem nearJ_get (js : List Jn) {m p : Nat} (h : p < m) : (nearJ js m)[p]? = some ((nbr js p).map encJ) := by
  unfold nearJ
  rw [List.getElem?_map, List.getElem?_range h]
  rfl
theorem nbr_snoc (js : List Jn) (j : Jn) (p : Nat) : nbr (js ++ [j]) p = nbr js p ++ atP p js.length j := by
  unfold nbr
  rw [List.length_append, List.length_singleton, List.range_succ, List.flatMap_append]
  congr 1
  · rw [List.flatMap_def, List.flatMap_def]
    congr 1
    refine List.map_congr_left fun k hk => ?_
    rw [List.getElem?_append_left (List.mem_range.mp hk)]
  · simp
theorem nbr_mem {js : List Jn} {p k o c : Nat} (h : (k, o, c) ∈ nbr js p) : ∃ j, js[k]? = some j ∧ j.2.2 = c ∧ ((j.1 = p ∧ j.2.1 = o) ∨ (j.2.1 = p ∧ j.1 = o)) := by
  unfold nbr at h
  obtain ⟨i, _, hi⟩ := List.mem_flatMap.mp h
  cases q : js[i]? with
  | none => rw [q] at hi; cases hi
  | some j =>
    rw [q] at hi
    have hi : (k, o, c) ∈ atP p i j := hi
    unfold atP at hi
    split at hi
    · rename_i h1
      simp at hi
      obtain ⟨rfl, rfl, rfl⟩ := hi
      exact ⟨j, q, rfl, .inl ⟨h1, rfl⟩⟩
    · split at hi
      · rename_i h1
        simp at hi
        obtain ⟨rfl, rfl, rfl⟩ := hi
        exact ⟨j, q, rfl, .inr ⟨h1, rfl⟩⟩
      · cases hi
theorem nbr_of {js : List Jn} {k : Nat} {j : Jn} (h : js[k]? = some j) (hne : j.1 ≠ j.2.1) : (k, j.2.1, j.2.2) ∈ nbr js j.1 ∧ (k, j.1, j.2.2) ∈ nbr js j.2.1 := by
  have hk := (List.getElem?_eq_some_iff.mp h).1
  unfold nbr
  refine ⟨List.mem_flatMap.mpr ⟨k, List.mem_range.mpr hk, ?_⟩, List.mem_flatMap.mpr ⟨k, List.mem_range.mpr hk, ?_⟩⟩
  · rw [h]
    simp [atP]
  · rw [h]
    simp [atP, hne]
theorem nbr_len (js : List Jn) (p : Nat) : (nbr js p).length ≤ js.length := by
  unfold nbr
  rw [List.flatMap_def, List.length_flatten]
  have : ∀ n, ((List.map List.length (List.map (fun k => match js[k]? with | some j => atP p k j | none => []) (List.range n)))).sum ≤ n := by
    intro n
    induction n with
    | zero => simp
    | succ n ih =>
      rw [List.range_succ, List.map_append, List.map_append, List.sum_append]
      have : (match js[n]? with | some j => atP p n j | none => []).length ≤ 1 := by
        split
        · unfold atP
          split
          · simp
          · split <;> simp
        · simp
      simp only [List.map_cons, List.map_nil, List.sum_cons, List.sum_nil]
      omega
  exact this js.length
theorem nearJ_snoc (js : List Jn) (j : Jn) {m : Nat} (h1 : j.1 < m) (h2 : j.2.1 < m) (hne : j.1 ≠ j.2.1) :
    nearJ (js ++ [j]) m = ((nearJ js m).set j.1 ((nbr js j.1).map encJ ++ [encJ (js.length, j.2.1, j.2.2)])).set j.2.1 ((nbr js j.2.1).map encJ ++ [encJ (js.length, j.1, j.2.2)]) := by
  apply List.ext_getElem?
  intro p
  have hl : (nearJ js m).length = m := by simp [nearJ]
  by_cases hp : p < m
  · rw [nearJ_get _ hp, nbr_snoc]
    by_cases e2 : p = j.2.1
    · subst e2
      rw [List.getElem?_set_self (by rw [List.length_set, hl]; exact h2)]
      unfold atP
      rw [if_neg hne, if_pos rfl, List.map_append]
      rfl
    · rw [List.getElem?_set_ne (Ne.symm e2)]
      by_cases e1 : p = j.1
      · subst e1
        rw [List.getElem?_set_self (by omega)]
        unfold atP
        rw [if_pos rfl, List.map_append]
        rfl
      · rw [List.getElem?_set_ne (Ne.symm e1), nearJ_get _ hp]
        unfold atP
        rw [if_neg (Ne.symm e1), if_neg (Ne.symm e2), List.append_nil]
  · rw [List.getElem?_eq_none (by simp [nearJ]; omega), List.getElem?_eq_none (by simp [nearJ]; omega)]
theorem rowsJ_set (n : Nat) (ms : List MD) (ess : List (List PyData)) (hn : ms.length = n) {p : Nat} (hp : p < ess.length) (x : List PyData) : (ms ++ rowsM n ess).set (n + p) (.l x) = ms ++ rowsM n (ess.set p x) := by
  subst hn
  rw [List.set_append_right _ _ (by omega)]
  unfold rowsM
  have : ms.length + p - ms.length = p := by omega
  rw [this, List.set_append_left _ _ (by simp; exact hp), List.map_set, List.length_set]
theorem rd_joins_at {K : PySem.W.Frag} : ∀ as ms R, Φ_joins_at as ms R → S K (t_joins_at K) (as ++ List.replicate (8 - as.length) .u) ms (fin R) := by
  rintro as ms R ⟨a, b, rfl, m, js, rfl, rfl, hw, r⟩
  have hl := hw.len
  have hm60 := hw.m60
  unfold t_joins_at
  refine s_newLL ?_
  walk_at "evs"
  refine ⟨by omega, ?_⟩
  refine s_seq (s_forET (js := [4, 5, 6, 7]) ?_)
  refine ea_cons (e_var rfl (ea_nil ⟨_, rfl, ?_⟩))
  have h0 : List.replicate m ([] : List PyData) = nearJ [] m := by
    apply List.ext_getElem?
    intro p
    by_cases hp : p < m
    · rw [nearJ_get _ hp, List.getElem?_replicate, if_pos hp]
      rfl
    · rw [List.getElem?_eq_none (by simp; omega), List.getElem?_eq_none (by simp [nearJ]; omega)]
  have nl : ∀ us, (nearJ us m).length = m := fun us => by simp [nearJ]
  refine ⟨fun k ds' ms' => ∃ o2 o3 o4 o5 o6 : SD, ds' = [.d (.int m), .d (.tuple (js.map encJ)), .m (ms.length + m), o2, o3, o4, o5, o6] ∧ ms' = ms ++ rowsM ms.length (nearJ (js.take k) m), ⟨.u, .u, .u, .u, .u, rfl, by rw [h0]; rfl⟩, ?_, ?_⟩
  · rintro k e ds' ms' he ⟨o2, o3, o4, o5, o6, rfl, rfl⟩
    rw [List.getElem?_map] at he
    cases q : js[k]? with
    | none => rw [q] at he; cases he
    | some j =>
      rw [q] at he
      have e1 := (Option.some.inj he).symm
      subst e1
      obtain ⟨t1, t2, tn, t3⟩ := hw.all j (List.mem_of_getElem? q)
      have hk := (List.getElem?_eq_some_iff.mp q).1
      have kl : (js.take k).length = k := by rw [List.length_take]; omega
      refine eg_tup rfl (egs_cons (eg_name (egs_cons (eg_tup rfl (egs_cons (eg_name (egs_cons (eg_name (egs_cons (eg_name (egs_nil (egs_nil ?_))))))))))))
      have top : ∀ ess : List (List PyData), ess.length = m → (ms ++ rowsM ms.length ess)[ms.length + m]? = some (.r (List.range' ms.length m)) := fun ess e => by
        have := rows_top ms.length ms ess
        rw [e] at this
        exact this
      have rg : ∀ p, p < m → (List.range' ms.length m)[p]? = some (ms.length + p) := fun p hp => by
        rw [List.getElem?_range' hp]
        simp
      have c1 := nbr_len (js.take k) j.1
      have c2 := nbr_len (js.take k) j.2.1
      have g1 := nearJ_get (js.take k) t1
      have g2 := nearJ_get (js.take k) t2
      refine s_seq (s_drop (e_append (e_op (e_varm rfl (e_var rfl (rr_ixR ⟨ms.length + m, j.1, ms.length + j.1, _, rfl, rfl, top _ (nl _), rg _ t1, ⟨_, rows_at _ _ _ g1⟩, _, rfl, ?_⟩))))))
      refine e_tup (ea_cons (e_var rfl (ea_cons (e_var rfl (ea_cons (e_var rfl (ea_nil ⟨_, (rfl : _ = List.map SD.d [_, _, _]), Nat.le_of_ble_eq_true rfl, ?_⟩)))))))
      refine ⟨_, _, rfl, rows_at _ _ _ g1, by rw [List.length_map]; omega, ?_⟩
      rw [rowsJ_set _ _ _ rfl (by rw [nl]; exact t1)]
      have g3 : ((nearJ (js.take k) m).set j.1 ((nbr (js.take k) j.1).map encJ ++ [PyData.tuple [.int k, .int j.2.1, .int j.2.2]]))[j.2.1]? = some ((nbr (js.take k) j.2.1).map encJ) := by
        rw [List.getElem?_set_ne tn]
        exact g2
      have l3 : ((nearJ (js.take k) m).set j.1 ((nbr (js.take k) j.1).map encJ ++ [PyData.tuple [.int k, .int j.2.1, .int j.2.2]])).length = m := by rw [List.length_set, nl]
      refine s_drop (e_append (e_op (e_varm rfl (e_var rfl (rr_ixR ⟨ms.length + m, j.2.1, ms.length + j.2.1, _, rfl, rfl, top _ l3, rg _ t2, ⟨_, rows_at _ _ _ g3⟩, _, rfl, ?_⟩)))))
      refine e_tup (ea_cons (e_var rfl (ea_cons (e_var rfl (ea_cons (e_var rfl (ea_nil ⟨_, (rfl : _ = List.map SD.d [_, _, _]), Nat.le_of_ble_eq_true rfl, ?_⟩)))))))
      refine ⟨_, _, rfl, rows_at _ _ _ g3, by rw [List.length_map]; omega, ?_⟩
      rw [rowsJ_set _ _ _ rfl (by rw [l3]; exact t2)]
      refine ⟨_, _, _, _, _, rfl, ?_⟩
      rw [take_snoc q, nearJ_snoc _ _ t1 t2 tn, kl]
  · rintro ds' ms' ⟨o2, o3, o4, o5, o6, rfl, rfl⟩
    walk_at "evs"
    have e : js.take (js.map encJ).length = js := by
      rw [List.take_of_length_le]
      simp
    rw [e]
    refine ⟨ms, _, rfl, rfl, nl _, ?_⟩
    show R (if ms.length + m < ms.length then _ else if ms.length + m = ms.length + (nearJ js m).length then _ else _) ms
    rw [if_neg (by omega), if_pos (by rw [nl])]
    exact r

/-- what the dict has for a point: its mark, the way to it -/
abbrev Ent := Nat × Nat × List Nat
def encE (e : Ent) : Key × PyData := (.inl (e.1 : Int), .tuple [.int e.2.1, .tuple (e.2.2.map fun (k : Nat) => .int k)])
def eF (js : List Jn) (x k : Nat) : Nat := match js[k]? with | some j => (if x = j.1 then 1 else 0) + (if x = j.2.1 then 1 else 0) | none => 0
def aF (js : List Jn) (k : Nat) : Nat := match js[k]? with | some j => j.2.2 | none => 0
def endN (js : List Jn) (w : List Nat) (x : Nat) : Nat := (w.map (eF js x)).sum
def apN (js : List Jn) (w : List Nat) : Nat := (w.map (aF js)).sum
/-- a join whose points have marks that fit -/
def Fits (js : List Jn) (es : List Ent) (k : Nat) : Prop := ∃ j c1 w1 c2 w2, js[k]? = some j ∧ (j.1, c1, w1) ∈ es ∧ (j.2.1, c2, w2) ∈ es ∧ (c1 + c2) % 2 = j.2.2
structure EOk (js : List Jn) (f : Nat) (es : List Ent) (e : Ent) : Prop where
  bit : e.2.1 < 2
  ap : apN js e.2.2 % 2 = e.2.1
  ends : ∀ x, endN js e.2.2 x % 2 = ((if x = f then 1 else 0) + (if x = e.1 then 1 else 0)) % 2
  nd : e.2.2.Nodup
  fit : ∀ k ∈ e.2.2, Fits js es k
  side : ∀ s : Nat → Nat, (∀ (k : Nat) (j : Jn), js[k]? = some j → (s j.1 + s j.2.1) % 2 = j.2.2) → (s f + s e.1) % 2 = e.2.1
  reach : ∀ C : Nat → Prop, (∀ p k o a, (k, o, a) ∈ nbr js p → C p → C o) → C f → C e.1
structure GOk (m : Nat) (js : List Jn) (f : Nat) (es : List Ent) : Prop where
  keys : (es.map (·.1)).Nodup
  lt : ∀ e ∈ es, e.1 < m
  fst : (f, 0, []) ∈ es
  all : ∀ e ∈ es, EOk js f es e
def Closed (js : List Jn) (es : List Ent) (p : Nat) : Prop := ∀ k o c, (k, o, c) ∈ nbr js p → ∃ e ∈ es, e.1 = o
def Φ_group_from : Ph := ph2 fun a b ms R => ∃ (m : Nat) (js : List Jn) (f : Nat), a = .d (.list ((nearJ js m).map .list)) ∧ b = .d (.int f) ∧ JOk m js ∧ f < m ∧
  ∀ es : List Ent, GOk m js f es → (∀ e ∈ es, Closed js es e.1) → R (.g (kD (es.map encE))) ms
theorem len_group_from : ∀ as ms R, Φ_group_from as ms R → as.length = 2 := ph2_len
theorem valE_none {es : List Ent} {p : Nat} (h : ∀ e ∈ es, e.1 ≠ p) : valD (es.map encE) (.inl (p : Int)) = none := by
  induction es with
  | nil => rfl
  | cons e r ih =>
    have h1 : ¬ ((encE e).1 = (.inl (p : Int) : Key)) := fun z => by
      have z' : (Sum.inl (e.1 : Int) : Key) = .inl (p : Int) := z
      injection z' with z'
      exact h e (by simp) (by omega)
    have := ih fun e he => h e (List.mem_cons_of_mem _ he)
    simp only [valD, List.map_cons, List.find?_cons, h1, decide_false] at this ⊢
    exact this
theorem valE_some {es : List Ent} {e : Ent} (h : e ∈ es) (nd : (es.map (·.1)).Nodup) : valD (es.map encE) (.inl (e.1 : Int)) = some (.tuple [.int e.2.1, .tuple (e.2.2.map fun (k : Nat) => .int k)]) := by
  induction es with
  | nil => cases h
  | cons a r ih =>
    rw [List.map_cons, List.nodup_cons] at nd
    by_cases z : a.1 = e.1
    · have : a = e := by
        rcases List.mem_cons.mp h with y | y
        · exact y.symm
        · exact absurd (List.mem_map.mpr ⟨e, y, z.symm⟩) nd.1
      subst this
      simp [valD, encE]
    · have h1 : ¬ ((encE a).1 = (.inl (e.1 : Int) : Key)) := fun y => by
        have y' : (Sum.inl (a.1 : Int) : Key) = .inl (e.1 : Int) := y
        injection y' with y'
        exact z (by omega)
      have h2 : e ∈ r := by
        rcases List.mem_cons.mp h with y | y
        · exact absurd (by rw [y]) z
        · exact y
      have := ih h2 nd.2
      simp only [valD, List.map_cons, List.find?_cons, h1, decide_false] at this ⊢
      exact this
theorem putE {es : List Ent} {p : Nat} (h : ∀ e ∈ es, e.1 ≠ p) (d : PyData) : putD (es.map encE) (.inl (p : Int)) d = es.map encE ++ [(.inl (p : Int), d)] := by
  unfold putD
  rw [if_neg]
  intro z
  obtain ⟨kv, hm, hk⟩ := List.any_eq_true.mp z
  obtain ⟨e, he, rfl⟩ := List.mem_map.mp hm
  have z' : (Sum.inl (e.1 : Int) : Key) = .inl (p : Int) := of_decide_eq_true hk
  injection z' with z'
  exact h e he (by omega)
theorem nd_len : ∀ (m : Nat) (l : List Nat), l.Nodup → (∀ x ∈ l, x < m) → l.length ≤ m
  | 0, l, _, h => by
    cases l with
    | nil => simp
    | cons a r => exact absurd (h a (by simp)) (by omega)
  | m + 1, l, nd, h => by
    have := nd_len m (l.erase m) (nd.erase m) (fun x hx => by
      have h1 := h x (List.mem_of_mem_erase hx)
      have h2 : x ≠ m := fun z => by subst z; exact absurd hx (by simp [nd.mem_erase_iff])
      omega)
    by_cases hm : m ∈ l
    · rw [List.length_erase_of_mem hm] at this
      omega
    · rw [List.erase_of_not_mem hm] at this
      omega
theorem xor2 {a b : Nat} (ha : a < 2) (hb : b < 2) : Builtin.bitXor (a : Int) (b : Int) = (((a + b) % 2 : Nat) : Int) := by
  have h1 : a = 0 ∨ a = 1 := by omega
  have h2 : b = 0 ∨ b = 1 := by omega
  rcases h1 with rfl | rfl <;> rcases h2 with rfl | rfl <;> decide
theorem Fits.mono {js : List Jn} {es es' : List Ent} {k : Nat} (h : ∀ e ∈ es, e ∈ es') (f : Fits js es k) : Fits js es' k := by
  obtain ⟨j, c1, w1, c2, w2, h1, h2, h3, h4⟩ := f
  exact ⟨j, c1, w1, c2, w2, h1, h _ h2, h _ h3, h4⟩
theorem EOk.mono {js : List Jn} {f : Nat} {es es' : List Ent} {e : Ent} (h : ∀ e ∈ es, e ∈ es') (k : EOk js f es e) : EOk js f es' e := ⟨k.bit, k.ap, k.ends, k.nd, fun i hi => (k.fit i hi).mono h, k.side, k.reach⟩
/-- one point more, over a join from a point that is there -/
theorem GOk.more {m : Nat} {js : List Jn} {f : Nat} {es : List Ent} (g : GOk m js f es) (hw : JOk m js) {p c : Nat} {w : List Nat} {k o a : Nat} (hp : (p, c, w) ∈ es) (hn : (k, o, a) ∈ nbr js p) (ho : ∀ e ∈ es, e.1 ≠ o) : GOk m js f (es ++ [(o, (c + a) % 2, w ++ [k])]) := by
  obtain ⟨j, hj, ha, hends⟩ := nbr_mem hn
  obtain ⟨t1, t2, tn, t3⟩ := hw.all j (List.mem_of_getElem? hj)
  have ep := g.all _ hp
  have sub : ∀ e ∈ es, e ∈ es ++ [(o, (c + a) % 2, w ++ [k])] := fun e he => List.mem_append_left _ he
  refine ⟨?_, fun e he => ?_, sub _ g.fst, fun e he => ?_⟩
  · rw [List.map_append]
    refine List.nodup_append.mpr ⟨g.keys, by simp, fun x hx y hy z => ?_⟩
    obtain ⟨e, he, rfl⟩ := List.mem_map.mp hx
    simp at hy
    exact ho e he (z.trans hy)
  · rcases List.mem_append.mp he with z | z
    · exact g.lt e z
    · have : e = (o, (c + a) % 2, w ++ [k]) := by simpa using z
      subst this
      rcases hends with ⟨_, h2⟩ | ⟨_, h2⟩ <;> (show o < m; omega)
  · rcases List.mem_append.mp he with z | z
    · exact (g.all e z).mono sub
    · have : e = (o, (c + a) % 2, w ++ [k]) := by simpa using z
      subst this
      have hop : o ≠ p := fun z => ho _ hp z.symm
      refine ⟨Nat.mod_lt _ (by decide), ?_, fun x => ?_, ?_, fun i hi => ?_, fun s hs => ?_, fun C hC h0 => hC p k o a hn (ep.reach C hC h0)⟩
      · show apN js (w ++ [k]) % 2 = (c + a) % 2
        have e1 : apN js (w ++ [k]) = apN js w + a := by simp [apN, aF, hj, ha]
        have e2 : apN js w % 2 = c := ep.ap
        rw [e1]
        omega
      · show endN js (w ++ [k]) x % 2 = ((if x = f then 1 else 0) + (if x = o then 1 else 0)) % 2
        have e1 : endN js (w ++ [k]) x = endN js w x + ((if x = j.1 then 1 else 0) + (if x = j.2.1 then 1 else 0)) := by simp [endN, eF, hj]
        have e2 : endN js w x % 2 = ((if x = f then 1 else 0) + (if x = p then 1 else 0)) % 2 := ep.ends x
        rw [e1]
        rcases hends with ⟨h1, h2⟩ | ⟨h1, h2⟩
        · rw [h1, h2]
          by_cases x1 : x = p
          · subst x1
            simp only [if_true, if_neg hop, if_neg (Ne.symm hop)] at e2 ⊢
            omega
          · simp only [if_neg x1, if_neg (Ne.symm x1)] at e2 ⊢
            by_cases x2 : x = o
            · subst x2; simp only [if_true] at e2 ⊢; omega
            · simp only [if_neg x2, if_neg (Ne.symm x2)] at e2 ⊢; omega
        · rw [h1, h2]
          by_cases x1 : x = p
          · subst x1
            simp only [if_true, if_neg hop, if_neg (Ne.symm hop)] at e2 ⊢
            omega
          · simp only [if_neg x1, if_neg (Ne.symm x1)] at e2 ⊢
            by_cases x2 : x = o
            · subst x2; simp only [if_true] at e2 ⊢; omega
            · simp only [if_neg x2, if_neg (Ne.symm x2)] at e2 ⊢; omega
      · show (w ++ [k]).Nodup
        refine List.nodup_append.mpr ⟨ep.nd, by simp, fun x hx y hy z => ?_⟩
        have hk : x = k := by simp at hy; exact z.trans hy
        subst hk
        obtain ⟨j2, c1, w1, c2, w2, f1, f2, f3, _⟩ := ep.fit x hx
        rw [hj] at f1
        cases f1
        rcases hends with ⟨_, h2⟩ | ⟨_, h2⟩
        · exact ho _ f3 h2
        · exact ho _ f2 h2
      · have hi : i ∈ w ++ [k] := hi
        rcases List.mem_append.mp hi with z | z
        · exact (ep.fit i z).mono sub
        · have : i = k := by simpa using z
          subst this
          have hb := ep.bit
          have hb : c < 2 := hb
          have new : (o, (c + a) % 2, w ++ [i]) ∈ es ++ [(o, (c + a) % 2, w ++ [i])] := List.mem_append_right _ (by simp)
          rcases hends with ⟨h1, h2⟩ | ⟨h1, h2⟩
          · exact ⟨j, c, w, (c + a) % 2, w ++ [i], hj, by rw [h1]; exact sub _ hp, by rw [h2]; exact new, by omega⟩
          · exact ⟨j, (c + a) % 2, w ++ [i], c, w, hj, by rw [h2]; exact new, by rw [h1]; exact sub _ hp, by omega⟩
      · show (s f + s o) % 2 = (c + a) % 2
        have e1 : (s f + s p) % 2 = c := ep.side s hs
        have e2 := hs k j hj
        rcases hends with ⟨h1, h2⟩ | ⟨h1, h2⟩
        · rw [h1, h2] at e2; omega
        · rw [h1, h2] at e2; omega
theorem rd_group_from {K : PySem.W.Frag} : ∀ as ms R, Φ_group_from as ms R → S K (t_group_from K) (as ++ List.replicate (10 - as.length) .u) ms (fin R) := by
  rintro as ms R ⟨a, b, rfl, m, js, f, rfl, rfl, hw, hf, r⟩
  have hm60 := hw.m60
  unfold t_group_from
  refine s_newD (e_disp1 (e_var rfl ⟨.inl (f : Int), rfl, ?_⟩))
  refine e_tup (ea_cons (e_int (ea_cons (e_tup (ea_nil ⟨[], rfl, Nat.zero_le _, ?_⟩)))))
  refine ea_nil ⟨[_, _], rfl, Nat.le_of_ble_eq_true rfl, ?_⟩
  refine ⟨_, rfl, _, rfl, ?_⟩
  refine s_new (e_lst (ea_cons (e_var rfl (ea_nil ⟨[_], rfl, Nat.le_of_ble_eq_true rfl, _, rfl, ?_⟩))))
  have hn : (ms ++ [MD.k [(keyD (.inl (f : Int)), PyData.tuple [.int 0, .tuple []])]]).length = ms.length + 1 := by simp
  rw [hn]
  have g0 : GOk m js f [(f, 0, [])] := ⟨by simp, by simpa using hf, by simp, fun e he => by
    have : e = (f, 0, []) := by simpa using he
    subst this
    refine ⟨Nat.zero_lt_succ _, rfl, fun x => ?_, List.nodup_nil, (fun k hk => by cases hk), fun s hs => ?_, fun C _ h0 => h0⟩
    · show 0 % 2 = ((if x = f then 1 else 0) + (if x = f then 1 else 0)) % 2
      split <;> rfl
    · show (s f + s f) % 2 = 0
      omega⟩
  have idx2 : ∀ (x y : MD), (ms ++ [x] ++ [y])[ms.length]? = some x := fun x y => by simp
  have idx3 : ∀ (x y : MD), (ms ++ [x] ++ [y])[ms.length + 1]? = some y := fun x y => by
    rw [List.getElem?_append_right (by simp)]
    simp
  have set2 : ∀ (x y z : MD), (ms ++ [x] ++ [y]).set ms.length z = ms ++ [z] ++ [y] := fun x y z => by
    rw [List.append_assoc, List.set_append_right _ _ (Nat.le_refl _), Nat.sub_self]
    simp
  have set3 : ∀ (x y z : MD), (ms ++ [x] ++ [y]).set (ms.length + 1) z = ms ++ [x] ++ [z] := fun x y z => by
    rw [List.set_append_right _ _ (by simp)]
    simp
  have shape : ∀ (es : List Ent) (wt : List Nat), GOk m js f es → es.length ≤ m := fun es wt g => by
    have := nd_len m (es.map (·.1)) g.keys (fun x hx => by
      obtain ⟨e, he, rfl⟩ := List.mem_map.mp hx
      exact g.lt e he)
    simpa using this
  refine s_seq (s_while (fun n ds' ms' => ∃ (es : List Ent) (wt : List Nat) (o4 o5 o6 o7 o8 o9 : SD), GOk m js f es ∧ (∀ p ∈ wt, ∃ e ∈ es, e.1 = p) ∧ (∀ e ∈ es, e.1 ∈ wt ∨ Closed js es e.1) ∧ n = wt.length + 2 * (m - es.length) ∧ wt.length ≤ es.length ∧
      ds' = [.d (.list ((nearJ js m).map .list)), .d (.int f), .q ms.length, .m (ms.length + 1), o4, o5, o6, o7, o8, o9] ∧ ms' = ms ++ [.k (kD (es.map encE))] ++ [.l (wt.map fun (p : Nat) => .int p)]) (1 + 2 * (m - 1))
    ⟨[(f, 0, [])], [f], .u, .u, .u, .u, .u, .u, g0, (by simp), (by simp), rfl, Nat.le_refl _, rfl, rfl⟩ ?_)
  rintro n ds' ms' ⟨es, wt, o4, o5, o6, o7, o8, o9, g, hwt, hcl, en, hle, rfl, rfl⟩
  refine et_tru (e_varm rfl ⟨_, .inl (.m (idx3 _ _)), fun hb => ?_, fun hb => ?_⟩)
  · cases wt with
    | nil => simp at hb
    | cons p wt =>
      obtain ⟨e, he, ep⟩ := hwt p (by simp)
      obtain ⟨p', c, w⟩ := e
      have ep : p' = p := ep
      subst ep
      have hpm := g.lt _ he
      have hpm : p' < m := hpm
      have hc : c < 2 := (g.all _ he).bit
      have hle2 : wt.length + 1 ≤ es.length := by simpa using hle
      refine s_seq (s_asg (e_popAt0 (e_varm rfl ⟨_, _, _, rfl, idx3 _ _, ?_⟩)))
      rw [set3]
      refine s_seq (s_asgG (js := [5, 6]) (e_dget (e_varq rfl (e_var rfl ⟨_, .inl (p' : Int), _, .q (idx2 _ _), rfl, valE_some he g.keys, ?_⟩))))
      refine eg_tup rfl (egs_cons (eg_name (egs_cons (eg_name (egs_nil ?_)))))
      refine s_forL (js := [7, 8, 9]) (e_op (e_var rfl (e_var rfl (rr_ix ⟨_, _, .list ((nbr js p').map encJ), .inl (.d _), rfl, atI_nat (by rw [List.getElem?_map, nearJ_get js hpm]; rfl), ?_⟩))))
      refine ⟨_, .d _, fun i ds2 ms2 => ∃ (es2 : List Ent) (wt2 : List Nat) (o7 o8 o9 : SD), GOk m js f es2 ∧ (∀ e ∈ es, e ∈ es2) ∧ (∀ q ∈ wt2, ∃ e ∈ es2, e.1 = q) ∧ (∀ q ∈ wt, q ∈ wt2) ∧ (∀ e ∈ es2, e ∈ es ∨ e.1 ∈ wt2) ∧
          (∀ (k : Nat) (x : Jn), k < i → (nbr js p')[k]? = some x → ∃ e ∈ es2, e.1 = x.2.1) ∧ es.length ≤ es2.length ∧ wt2.length + es.length = wt.length + es2.length ∧
          ds2 = [.d (.list ((nearJ js m).map .list)), .d (.int f), .q ms.length, .m (ms.length + 1), .d (.int p'), .d (.int c), .d (.tuple (w.map fun (k : Nat) => .int k)), o7, o8, o9] ∧ ms2 = ms ++ [.k (kD (es2.map encE))] ++ [.l (wt2.map fun (p : Nat) => .int p)],
        ⟨es, wt, _, _, _, g, (fun e he => he), (fun q hq => hwt q (List.mem_cons_of_mem _ hq)), (fun q hq => hq), (fun e he => .inl he), (fun k x hk => by omega), Nat.le_refl _, rfl, rfl, rfl⟩, ?_, ?_⟩
      · rintro i e2 ds2 ms2 hi ⟨es2, wt2, o7, o8, o9, g2, sub, hwt2, wsub, hnew, hdone, hel, hln, rfl, rfl⟩
        rw [List.getElem?_map] at hi
        cases qn : (nbr js p')[i]? with
        | none => rw [qn] at hi; cases hi
        | some x =>
          rw [qn] at hi
          have e1 := (Option.some.inj hi).symm
          subst e1
          obtain ⟨k, o, a⟩ := x
          have hx := List.mem_of_getElem? qn
          obtain ⟨j, hj, hja, _⟩ := nbr_mem hx
          have ha2 : a < 2 := by rw [← hja]; exact (hw.all j (List.mem_of_getElem? hj)).2.2.2
          have l2 := shape es2 wt2 g2
          refine eg_tup rfl (egs_cons (eg_name (egs_cons (eg_name (egs_cons (eg_name (egs_nil ?_)))))))
          refine s_if (et_B (e_dnotin (e_var rfl (e_varq rfl ⟨_, .inl (o : Int), .q (idx2 _ _), rfl, _, rfl, fun hb => ?_, fun hb => ?_⟩))))
          · have hno : ∀ e ∈ es2, e.1 ≠ o := fun e he z => by
              subst z
              rw [valE_some he g2.keys] at hb
              simp at hb
            refine s_seq (s_asgH (e_tup (ea_cons (e_op (e_var rfl (e_var rfl (rr_I0 ⟨_, _, rfl, rfl, ?_⟩)))))))
            have wl : w.length ≤ js.length := nd_len js.length w (g.all _ he).nd (fun k hk => by
              obtain ⟨j2, _, _, _, _, f1, _⟩ := (g.all _ he).fit k hk
              exact (List.getElem?_eq_some_iff.mp f1).1)
            have jl := hw.len
            refine ea_cons (e_op (e_var rfl (e_tup (ea_cons (e_var rfl (ea_nil ⟨[_], rfl, Nat.le_of_ble_eq_true rfl, rr_catA ⟨_, _, rfl, rfl, by simp; omega, ?_⟩⟩))))))
            refine ea_nil ⟨[_, _], rfl, Nat.le_of_ble_eq_true rfl, ?_⟩
            refine egh_set (e_varq rfl ⟨_, rfl, e_var rfl ⟨.inl (o : Int), _, rfl, idx2 _ _, by simp; omega, ?_⟩⟩)
            rw [set2, putE hno, xor2 hc ha2]
            have enc : es2.map encE ++ [(Sum.inl (o : Int), PyData.tuple [.int (((c + a) % 2 : Nat) : Int), .tuple ((w.map fun (k : Nat) => PyData.int k) ++ [PyData.int k])])] = (es2 ++ [(o, (c + a) % 2, w ++ [k])]).map encE := by
              simp [encE]
            rw [enc]
            refine s_drop (e_append (e_varm rfl ⟨_, rfl, e_var rfl ⟨_, _, rfl, idx3 _ _, ?_, ?_⟩⟩))
            · have : wt2.length ≤ 200 := by omega
              simp; omega
            · rw [set3]
              have g3 := g2.more hw (sub _ he) hx hno
              refine ⟨es2 ++ [(o, (c + a) % 2, w ++ [k])], wt2 ++ [o], _, _, _, g3, (fun e he => List.mem_append_left _ (sub e he)), ?_, (fun q hq => List.mem_append_left _ (wsub q hq)), ?_, ?_, by simp; omega, by simp; omega, rfl, by simp⟩
              · intro q hq
                rcases List.mem_append.mp hq with z | z
                · obtain ⟨e, he, ee⟩ := hwt2 q z
                  exact ⟨e, List.mem_append_left _ he, ee⟩
                · exact ⟨(o, (c + a) % 2, w ++ [k]), by simp, by simp at z; exact z.symm⟩
              · intro e he2
                rcases List.mem_append.mp he2 with z | z
                · rcases hnew e z with y | y
                  · exact .inl y
                  · exact .inr (List.mem_append_left _ y)
                · have : e = (o, (c + a) % 2, w ++ [k]) := by simpa using z
                  subst this
                  exact .inr (List.mem_append_right _ (by simp))
              · intro k2 x2 hk2 hx2
                by_cases hki : k2 = i
                · subst hki
                  rw [qn] at hx2
                  cases hx2
                  exact ⟨(o, (c + a) % 2, w ++ [k]), by simp, rfl⟩
                · obtain ⟨e, he, ee⟩ := hdone k2 x2 (by omega) hx2
                  exact ⟨e, List.mem_append_left _ he, ee⟩
          · refine s_next ⟨es2, wt2, _, _, _, g2, sub, hwt2, wsub, hnew, ?_, hel, hln, rfl, rfl⟩
            intro k2 x2 hk2 hx2
            by_cases hki : k2 = i
            · subst hki
              rw [qn] at hx2
              cases hx2
              apply Classical.byContradiction
              intro hno
              have hno' : ∀ e ∈ es2, e.1 ≠ o := fun e he z => hno ⟨e, he, z⟩
              rw [valE_none hno'] at hb
              simp at hb
            · exact hdone k2 x2 (by omega) hx2
      · rintro ds2 ms2 ⟨es2, wt2, o7, o8, o9, g2, sub, hwt2, wsub, hnew, hdone, hel, hln, rfl, rfl⟩
        have l2 := shape es2 wt2 g2
        have l1 := shape es wt g
        simp only [List.length_cons] at en hle
        refine ⟨wt2.length + 2 * (m - es2.length), by omega, es2, wt2, _, _, _, _, _, _, g2, hwt2, ?_, rfl, by omega, rfl, rfl⟩
        intro e he2
        rcases hnew e he2 with y | y
        · rcases hcl e y with z | z
          · rcases List.mem_cons.mp z with z | z
            · refine .inr fun k o a hk => ?_
              rw [z] at hk
              obtain ⟨i, hi, hie⟩ := List.getElem_of_mem hk
              exact hdone i (k, o, a) (by simpa using hi) (by rw [List.getElem?_eq_getElem hi, hie])
            · exact .inl (wsub _ z)
          · refine .inr fun k o a hk => ?_
            obtain ⟨e3, h3, h4⟩ := z k o a hk
            exact ⟨e3, sub _ h3, h4⟩
        · exact .inl y
  · have hwn : wt = [] := by
      cases wt with
      | nil => rfl
      | cons p wt => simp at hb
    subst hwn
    refine s_ret (e_varq rfl ⟨ms ++ [.k (kD (es.map encE))], [], rfl, by simp, ?_⟩)
    refine ⟨ms, kD (es.map encE), rfl, rfl, ?_⟩
    show R (if ms.length = ms.length then .g (kD (es.map encE)) else .q ms.length) ms
    rw [if_pos rfl]
    refine r es g fun e he => ?_
    rcases hcl e he with z | z
    · cases z
    · exact z

abbrev Row := Nat × Ent
section
variable {α : Type} {key : α → Nat} {v : α → PyData} {l : List α}
theorem valF_none {p : Nat} (h : ∀ e ∈ l, key e ≠ p) : valD (l.map fun a => ((.inl (key a : Int) : Key), v a)) (.inl (p : Int)) = none := by
  induction l with
  | nil => rfl
  | cons e r ih =>
    have h1 : ¬ ((.inl (key e : Int) : Key) = .inl (p : Int)) := fun z => by
      injection z with z
      exact h e (by simp) (by omega)
    have := ih fun e he => h e (List.mem_cons_of_mem _ he)
    simp only [valD, List.map_cons, List.find?_cons, h1, decide_false] at this ⊢
    exact this
theorem valF_some {e : α} (h : e ∈ l) (nd : (l.map key).Nodup) : valD (l.map fun a => ((.inl (key a : Int) : Key), v a)) (.inl (key e : Int)) = some (v e) := by
  induction l with
  | nil => cases h
  | cons a r ih =>
    rw [List.map_cons, List.nodup_cons] at nd
    by_cases z : key a = key e
    · rcases List.mem_cons.mp h with y | y
      · subst y
        simp [valD]
      · exact absurd (List.mem_map.mpr ⟨e, y, z.symm⟩) nd.1
    · have h1 : ¬ ((.inl (key a : Int) : Key) = .inl (key e : Int)) := fun y => by
        injection y with y
        exact z (by omega)
      have h2 : e ∈ r := by
        rcases List.mem_cons.mp h with y | y
        · exact absurd (by rw [y]) z
        · exact y
      have := ih h2 nd.2
      simp only [valD, List.map_cons, List.find?_cons, h1, decide_false] at this ⊢
      exact this
theorem putF {p : Nat} (h : ∀ e ∈ l, key e ≠ p) (d : PyData) : putD (l.map fun a => ((.inl (key a : Int) : Key), v a)) (.inl (p : Int)) d = (l.map fun a => ((.inl (key a : Int) : Key), v a)) ++ [(.inl (p : Int), d)] := by
  unfold putD
  rw [if_neg]
  intro z
  obtain ⟨kv, hm, hk⟩ := List.any_eq_true.mp z
  obtain ⟨e, he, rfl⟩ := List.mem_map.mp hm
  have z' : (.inl (key e : Int) : Key) = .inl (p : Int) := of_decide_eq_true hk
  injection z' with z'
  exact h e he (by omega)
end
abbrev dG (rs : List Row) : List (Key × PyData) := rs.map fun r => ((.inl (r.2.1 : Int) : Key), .int r.1)
abbrev dM (rs : List Row) : List (Key × PyData) := rs.map fun r => ((.inl (r.2.1 : Int) : Key), .int r.2.2.1)
abbrev dW (rs : List Row) : List (Key × PyData) := rs.map fun r => ((.inl (r.2.1 : Int) : Key), .tuple (r.2.2.2.map fun (k : Nat) => .int k))
/-- groups with their first points fs, each point's group, mark and way -/
structure SOk (m : Nat) (js : List Jn) (fs : List Nat) (rs : List Row) : Prop where
  keys : (rs.map fun r => r.2.1).Nodup
  lt : ∀ r ∈ rs, r.2.1 < m
  ok : ∀ r ∈ rs, ∃ f, fs[r.1]? = some f ∧ EOk js f (rs.map (·.2)) r.2 ∧ f ≤ r.2.1
  cl : ∀ r ∈ rs, ∀ k o c, (k, o, c) ∈ nbr js r.2.1 → ∃ r' ∈ rs, r'.1 = r.1 ∧ r'.2.1 = o
  fst : ∀ (g f : Nat), fs[g]? = some f → ((g, f, 0, []) : Row) ∈ rs
  rise : fs.Pairwise (· < ·)
theorem nbr_sym {m : Nat} {js : List Jn} (hw : JOk m js) {p k o a : Nat} (h : (k, o, a) ∈ nbr js p) : (k, p, a) ∈ nbr js o := by
  obtain ⟨j, hj, ha, he⟩ := nbr_mem h
  obtain ⟨_, _, hn, _⟩ := hw.all j (List.mem_of_getElem? hj)
  obtain ⟨h1, h2⟩ := nbr_of hj hn
  rcases he with ⟨e1, e2⟩ | ⟨e1, e2⟩
  · rw [ha, e1, e2] at h2; exact h2
  · rw [ha, e1, e2] at h1; exact h1
theorem SOk.apart {m : Nat} {js : List Jn} {fs : List Nat} {rs : List Row} {f : Nat} {es : List Ent} (hw : JOk m js) (s : SOk m js fs rs) (g : GOk m js f es) (hf : ∀ r ∈ rs, r.2.1 ≠ f) : ∀ e ∈ es, ∀ r ∈ rs, r.2.1 ≠ e.1 := fun e he r hr z => by
  have := (g.all e he).reach (fun p => ¬ ∃ r ∈ rs, r.2.1 = p) (fun p k o a hn hp ⟨r', hr', er⟩ => by
    have h1 := nbr_sym hw hn
    rw [← er] at h1
    obtain ⟨r2, h2, _, h3⟩ := s.cl r' hr' k p a h1
    exact hp ⟨r2, h2, h3⟩) (fun ⟨r', hr', er⟩ => hf r' hr' er)
  exact this ⟨r, hr, z⟩
theorem SOk.join {m : Nat} {js : List Jn} {fs : List Nat} {rs : List Row} {f : Nat} {es : List Ent} (hw : JOk m js) (s : SOk m js fs rs) (g : GOk m js f es) (hc : ∀ e ∈ es, Closed js es e.1) (hf : ∀ r ∈ rs, r.2.1 ≠ f)
    (hb : ∀ p, p < f → ∃ r ∈ rs, r.2.1 = p) (hfs : ∀ x ∈ fs, x < f) : SOk m js (fs ++ [f]) (rs ++ es.map fun e => (fs.length, e)) := by
  have ap := s.apart hw g hf
  have old : ∀ e ∈ rs.map (·.2), e ∈ (rs ++ es.map fun e => (fs.length, e)).map (·.2) := fun e he => by
    rw [List.map_append]; exact List.mem_append_left _ he
  have new : ∀ e ∈ es, e ∈ (rs ++ es.map fun e => (fs.length, e)).map (·.2) := fun e he => by
    rw [List.map_append, List.map_map]
    exact List.mem_append_right _ (List.mem_map.mpr ⟨e, he, rfl⟩)
  have gt : ∀ g x, fs[g]? = some x → (fs ++ [f])[g]? = some x := fun g x h => by
    rw [List.getElem?_append_left (List.getElem?_eq_some_iff.mp h).1]; exact h
  refine ⟨?_, fun r hr => ?_, fun r hr => ?_, fun r hr k o c hn => ?_, fun gi x h => ?_, ?_⟩
  · rw [List.map_append, List.map_map]
    refine List.nodup_append.mpr ⟨s.keys, g.keys, fun x hx y hy z => ?_⟩
    obtain ⟨r, hr, rfl⟩ := List.mem_map.mp hx
    obtain ⟨e, he, rfl⟩ := List.mem_map.mp hy
    exact ap e he r hr z
  · rcases List.mem_append.mp hr with z | z
    · exact s.lt r z
    · obtain ⟨e, he, rfl⟩ := List.mem_map.mp z
      exact g.lt e he
  · rcases List.mem_append.mp hr with z | z
    · obtain ⟨x, h1, h2, h3⟩ := s.ok r z
      exact ⟨x, gt _ _ h1, h2.mono old, h3⟩
    · obtain ⟨e, he, rfl⟩ := List.mem_map.mp z
      refine ⟨f, by simp, (g.all e he).mono new, ?_⟩
      apply Classical.byContradiction
      intro hlt
      obtain ⟨r, hr, er⟩ := hb e.1 (by show e.1 < f; exact Nat.lt_of_not_le hlt)
      exact ap e he r hr er
  · rcases List.mem_append.mp hr with z | z
    · obtain ⟨r', h1, h2, h3⟩ := s.cl r z k o c hn
      exact ⟨r', List.mem_append_left _ h1, h2, h3⟩
    · obtain ⟨e, he, rfl⟩ := List.mem_map.mp z
      obtain ⟨e', h1, h2⟩ := hc e he k o c hn
      exact ⟨(fs.length, e'), List.mem_append_right _ (List.mem_map.mpr ⟨e', h1, rfl⟩), rfl, h2⟩
  · by_cases hg : gi < fs.length
    · rw [List.getElem?_append_left hg] at h
      exact List.mem_append_left _ (s.fst gi x h)
    · have hl := (List.getElem?_eq_some_iff.mp h).1
      simp at hl
      have : gi = fs.length := by omega
      subst this
      simp at h
      subst h
      exact List.mem_append_right _ (List.mem_map.mpr ⟨_, g.fst, rfl⟩)
  · refine List.pairwise_append.mpr ⟨s.rise, by simp, fun x hx y hy => ?_⟩
    simp at hy
    subst hy
    exact hfs x hx
theorem s_back {K : PySem.W.Frag} {t u v : TS} {ds : List SD} {ms : List MD} {P : Po} (h : S K (tSeq t (tSeq u v)) ds ms P) : S K (tSeq (tSeq t u) v) ds ms P := h
def Φ_spread : Ph := ph2 fun a b ms R => ∃ (m : Nat) (js : List Jn), a = .d (.int m) ∧ b = .d (.tuple (js.map encJ)) ∧ JOk m js ∧
  ∀ (fs : List Nat) (rs : List Row), SOk m js fs rs → (∀ p, p < m → ∃ r ∈ rs, r.2.1 = p) → R (.d (.tuple [.dict (kD (dG rs)), .dict (kD (dM rs)), .dict (kD (dW rs))])) ms
theorem len_spread : ∀ as ms R, Φ_spread as ms R → as.length = 2 := ph2_len
theorem rd_spread {K : PySem.W.Frag} : ∀ as ms R, Φ_spread as ms R → S K (t_spread K Φ_joins_at Φ_group_from) (as ++ List.replicate (11 - as.length) .u) ms (fin R) := by
  rintro as ms R ⟨a, b, rfl, m, js, rfl, rfl, hw, r⟩
  have hm60 := hw.m60
  unfold t_spread
  refine s_seq (s_asg (e_call (ea_cons (e_var rfl (ea_cons (e_var rfl (ea_nil ⟨_, _, rfl, m, js, rfl, rfl, hw, ?_⟩)))))))
  refine s_assoc (s_assoc (s_mid (fun ds' ms' => ∃ (fs : List Nat) (rs : List Row) (o6 o7 o8 o9 o10 : SD), SOk m js fs rs ∧ (∀ p, p < m → ∃ r ∈ rs, r.2.1 = p) ∧ ms' = ms ∧
    ds' = [.d (.int m), .d (.tuple (js.map encJ)), .d (.list ((nearJ js m).map .list)), .d (.dict (kD (dG rs))), .d (.dict (kD (dM rs))), .d (.dict (kD (dW rs))), o6, o7, o8, o9, o10]) ?_ ?_))
  · refine s_back ?_
    refine s_par3D (s_newD (e_dnewG ⟨_, rfl, s_newD (e_dnewG ⟨_, rfl, s_newD (e_dnewG ⟨_, rfl, ?_⟩)⟩)⟩))
    have l1 : (ms ++ [MD.k []]).length = ms.length + 1 := by simp
    have l2 : (ms ++ [MD.k []] ++ [MD.k []]).length = ms.length + 2 := by simp
    rw [l1, l2]
    have ix0 : ∀ x y z : MD, (ms ++ [x] ++ [y] ++ [z])[ms.length]? = some x := fun x y z => by simp
    have ix1 : ∀ x y z : MD, (ms ++ [x] ++ [y] ++ [z])[ms.length + 1]? = some y := fun x y z => by
      rw [List.append_assoc (ms ++ [x]), List.getElem?_append_right (by simp)]
      simp
    have ix2 : ∀ x y z : MD, (ms ++ [x] ++ [y] ++ [z])[ms.length + 2]? = some z := fun x y z => by
      rw [List.getElem?_append_right (by simp)]
      simp
    have st0 : ∀ x y z u : MD, (ms ++ [x] ++ [y] ++ [z]).set ms.length u = ms ++ [u] ++ [y] ++ [z] := fun x y z u => by
      simp only [List.append_assoc]
      rw [List.set_append_right _ _ (Nat.le_refl _), Nat.sub_self]
      rfl
    have st1 : ∀ x y z u : MD, (ms ++ [x] ++ [y] ++ [z]).set (ms.length + 1) u = ms ++ [x] ++ [u] ++ [z] := fun x y z u => by
      simp only [List.append_assoc]
      rw [List.set_append_right _ _ (by omega), Nat.add_sub_cancel_left]
      rfl
    have st2 : ∀ x y z u : MD, (ms ++ [x] ++ [y] ++ [z]).set (ms.length + 2) u = ms ++ [x] ++ [y] ++ [u] := fun x y z u => by
      simp only [List.append_assoc]
      rw [List.set_append_right _ _ (by omega), Nat.add_sub_cancel_left]
      rfl
    refine s_seq (s_asg (e_int ?_))
    refine s_forR (js := [7]) (ea_cons (e_var rfl (ea_nil ⟨_, rfl, by omega, fun i ds' ms' => ∃ (fs : List Nat) (rs : List Row) (o7 o8 o9 o10 : SD), SOk m js fs rs ∧ (∀ p, p < i → ∃ r ∈ rs, r.2.1 = p) ∧ (∀ x ∈ fs, x < i) ∧
      ds' = [.d (.int m), .d (.tuple (js.map encJ)), .d (.list ((nearJ js m).map .list)), .q ms.length, .q (ms.length + 1), .q (ms.length + 2), .d (.int fs.length), o7, o8, o9, o10] ∧ ms' = ms ++ [.k (kD (dG rs))] ++ [.k (kD (dM rs))] ++ [.k (kD (dW rs))],
      ⟨[], [], .u, .u, .u, .u, ⟨List.nodup_nil, (fun r hr => by cases hr), (fun r hr => by cases hr), (fun r hr => by cases hr), (fun g f h => by simp at h), List.Pairwise.nil⟩, (fun p hp => by omega), (fun x hx => by cases hx), rfl, rfl⟩, ?_, ?_⟩)))
    · rintro i ds' ms' hi ⟨fs, rs, o7, o8, o9, o10, s, hb, hfs, rfl, rfl⟩
      have him : i < m := by omega
      refine eg_name ?_
      have rl : ∀ (fs : List Nat) (rs : List Row), SOk m js fs rs → rs.length ≤ 60 := fun fs rs s => by
        have := nd_len m (rs.map fun r => r.2.1) s.keys (fun x hx => by
          obtain ⟨r, hr, rfl⟩ := List.mem_map.mp hx
          exact s.lt r hr)
        simp at this
        omega
      refine s_if (et_B (e_dnotin (e_var rfl (e_varq rfl ⟨_, .inl (i : Int), .q (ix0 _ _ _), rfl, _, rfl, fun hb' => ?_, fun hb' => ?_⟩))))
      · have hno : ∀ r ∈ rs, r.2.1 ≠ i := fun r hr z => by
          subst z
          rw [valF_some (key := fun r : Row => r.2.1) hr s.keys] at hb'
          simp at hb'
        refine s_seq (s_forD (js := [8, 9, 10]) (e_call (ea_cons (e_var rfl (ea_cons (e_var rfl (ea_nil ⟨_, _, rfl, m, js, i, rfl, rfl, hw, him, fun es g hc => ?_⟩)))))))
        have ap := s.apart hw g hno
        have sj := s.join hw g hc hno hb hfs
        have rj := rl _ _ sj
        simp only [List.length_append, List.length_map] at rj
        refine ⟨_, rfl, fun k ds2 ms2 => ∃ (o8 o9 o10 : SD), ds2 = [.d (.int m), .d (.tuple (js.map encJ)), .d (.list ((nearJ js m).map .list)), .q ms.length, .q (ms.length + 1), .q (ms.length + 2), .d (.int fs.length), .d (.int i), o8, o9, o10] ∧
          ms2 = ms ++ [.k (kD (dG (rs ++ (es.take k).map fun e => (fs.length, e))))] ++ [.k (kD (dM (rs ++ (es.take k).map fun e => (fs.length, e))))] ++ [.k (kD (dW (rs ++ (es.take k).map fun e => (fs.length, e))))], ⟨_, _, _, rfl, by simp⟩, ?_, ?_⟩
        · rintro k kk ee ds2 ms2 hk ⟨o8, o9, o10, rfl, rfl⟩
          rw [List.getElem?_map] at hk
          cases qe : es[k]? with
          | none => rw [qe] at hk; cases hk
          | some e0 =>
            rw [qe] at hk
            have hk' : encE e0 = (kk, ee) := Option.some.inj hk
            unfold encE at hk'
            injection hk' with k1 k2
            subst k1 k2
            have hkl := (List.getElem?_eq_some_iff.mp qe).1
            have dis : ∀ r ∈ rs ++ (es.take k).map (fun e => (fs.length, e)), r.2.1 ≠ e0.1 := fun r hr => by
              rcases List.mem_append.mp hr with z | z
              · exact ap e0 (List.mem_of_getElem? qe) r z
              · obtain ⟨e, he, rfl⟩ := List.mem_map.mp z
                have nd := g.keys
                have sl : ((es.take (k + 1)).map (·.1)).Nodup := nd.sublist ((List.take_sublist _ _).map _)
                rw [take_snoc qe, List.map_append] at sl
                exact (List.nodup_append.mp sl).2.2 e.1 (List.mem_map.mpr ⟨e, he, rfl⟩) e0.1 (by simp)
            have hlen : (rs ++ (es.take k).map (fun e => (fs.length, e))).length < 10000 := by
              simp only [List.length_append, List.length_map, List.length_take]
              omega
            have nxt : rs ++ (es.take (k + 1)).map (fun e => (fs.length, e)) = (rs ++ (es.take k).map (fun e => (fs.length, e))) ++ [(fs.length, e0)] := by
              rw [take_snoc qe, List.map_append, List.append_assoc]
              rfl
            refine eg_tup rfl (egs_cons (eg_name (egs_cons (eg_tup rfl (egs_cons (eg_name (egs_cons (eg_name (egs_nil (egs_nil ?_))))))))))
            refine s_asgH (e_tup (ea_cons (e_var rfl (ea_cons (e_var rfl (ea_cons (e_var rfl (ea_nil ⟨[_, _, _], rfl, Nat.le_of_ble_eq_true rfl, ?_⟩))))))))
            refine egh_tup rfl (eghs_cons (egh_set (e_varq rfl ⟨_, rfl, e_var rfl ⟨.inl (e0.1 : Int), _, rfl, ix0 _ _ _, by rw [List.length_map]; exact hlen, ?_⟩⟩)))
            rw [st0, putF (key := fun r : Row => r.2.1) dis]
            refine eghs_cons (egh_set (e_varq rfl ⟨_, rfl, e_var rfl ⟨.inl (e0.1 : Int), _, rfl, ix1 _ _ _, by rw [List.length_map]; exact hlen, ?_⟩⟩))
            rw [st1, putF (key := fun r : Row => r.2.1) dis]
            refine eghs_cons (egh_set (e_varq rfl ⟨_, rfl, e_var rfl ⟨.inl (e0.1 : Int), _, rfl, ix2 _ _ _, by rw [List.length_map]; exact hlen, ?_⟩⟩))
            rw [st2, putF (key := fun r : Row => r.2.1) dis]
            refine eghs_nil ⟨_, _, _, rfl, ?_⟩
            rw [nxt]
            simp only [dG, dM, dW, List.map_append, List.map_cons, List.map_nil]
        · rintro ds2 ms2 ⟨o8, o9, o10, rfl, rfl⟩
          refine s_augI rfl (e_int ⟨_, rfl, ?_⟩)
          refine ⟨fs ++ [i], rs ++ es.map (fun e => (fs.length, e)), .d (.int i), o8, o9, o10, sj, fun p hp => ?_, fun x hx => ?_, ?_, ?_⟩
          · by_cases z : p = i
            · subst z
              exact ⟨(fs.length, p, 0, []), List.mem_append_right _ (List.mem_map.mpr ⟨_, g.fst, rfl⟩), rfl⟩
            · obtain ⟨r, hr, er⟩ := hb p (by omega)
              exact ⟨r, List.mem_append_left _ hr, er⟩
          · rcases List.mem_append.mp hx with z | z
            · have := hfs x z; omega
            · simp at z; omega
          · simp
          · rw [List.take_of_length_le (by simp)]
      · refine s_next ⟨fs, rs, _, _, _, _, s, fun p hp => ?_, fun x hx => by have := hfs x hx; omega, rfl, rfl⟩
        by_cases z : p = i
        · subst z
          apply Classical.byContradiction
          intro hno
          have hno' : ∀ r ∈ rs, r.2.1 ≠ p := fun r hr z => hno ⟨r, hr, z⟩
          rw [valF_none (key := fun r : Row => r.2.1) hno'] at hb'
          simp at hb'
        · exact hb p (by omega)
    · rintro ds' ms' ⟨fs, rs, o7, o8, o9, o10, s, hb, hfs, rfl, rfl⟩
      refine ⟨ms ++ [.k (kD (dG rs))] ++ [.k (kD (dM rs))], kD (dW rs), rfl, by simp, ms ++ [.k (kD (dG rs))], kD (dM rs), rfl, by simp, ms, kD (dG rs), rfl, rfl, ?_⟩
      refine ⟨fs, rs, frzSK ms.length (kD (dG rs)) (frzSK (ms.length + 1) (kD (dM rs)) (frzSK (ms.length + 2) (kD (dW rs)) (.d (.int fs.length)))), frzSK ms.length (kD (dG rs)) (frzSK (ms.length + 1) (kD (dM rs)) (frzSK (ms.length + 2) (kD (dW rs)) o7)), frzSK ms.length (kD (dG rs)) (frzSK (ms.length + 1) (kD (dM rs)) (frzSK (ms.length + 2) (kD (dW rs)) o8)), frzSK ms.length (kD (dG rs)) (frzSK (ms.length + 1) (kD (dM rs)) (frzSK (ms.length + 2) (kD (dW rs)) o9)), frzSK ms.length (kD (dG rs)) (frzSK (ms.length + 1) (kD (dM rs)) (frzSK (ms.length + 2) (kD (dW rs)) o10)), s, fun p hp => hb p (by simpa using hp), rfl, ?_⟩
      simp [frzSK]
  · rintro ds' ms' ⟨fs, rs, o6, o7, o8, o9, o10, s, hb, rfl, rfl⟩
    refine s_ret (e_tup (ea_cons (e_var rfl (ea_cons (e_var rfl (ea_cons (e_var rfl (ea_nil ⟨[_, _, _], rfl, Nat.le_of_ble_eq_true rfl, ?_⟩))))))))
    exact r fs rs s hb

abbrev tN (w : List Nat) : PyData := .tuple (w.map fun (k : Nat) => .int k)
def outOf (w1 w2 : List Nat) : List Nat := w1.filter fun k => !decide (k ∈ w2)
def Φ_ring_closed : Ph := ph3 fun a b c ms R => ∃ (w1 w2 : List Nat) (k : Nat), a = .d (tN w1) ∧ b = .d (tN w2) ∧ c = .d (.int k) ∧ w1.length ≤ 1000 ∧ w2.length ≤ 1000 ∧
  ∀ ns : List Nat, ns.Perm (outOf w1 w2 ++ outOf w2 w1 ++ [k]) → ns.Pairwise (· ≤ ·) → R (.d (tN ns)) ms
theorem len_ring_closed : ∀ as ms R, Φ_ring_closed as ms R → as.length = 3 := ph3_len
theorem outOf_snoc {w1 w2 : List Nat} {i x : Nat} (h : w1[i]? = some x) : outOf (w1.take (i + 1)) w2 = outOf (w1.take i) w2 ++ (if x ∈ w2 then [] else [x]) := by
  unfold outOf
  rw [take_snoc h, List.filter_append]
  by_cases z : x ∈ w2 <;> simp [z]
theorem mem_cast {x : Nat} {w : List Nat} : decide ((x : Int) ∈ w.map fun (k : Nat) => (k : Int)) = decide (x ∈ w) := by
  by_cases z : x ∈ w
  · rw [decide_eq_true z, decide_eq_true (List.mem_map.mpr ⟨x, z, rfl⟩)]
  · rw [decide_eq_false z, decide_eq_false fun y => by
      obtain ⟨a, ha, e⟩ := List.mem_map.mp y
      have : a = x := by omega
      exact z (this ▸ ha)]
theorem tN_ints (w : List Nat) : (w.map fun (k : Nat) => PyData.int k) = (w.map fun (k : Nat) => (k : Int)).map PyData.int := by
  rw [List.map_map]
  rfl
theorem nats_of : ∀ (ns : List Int) (w : List Nat), ns.Perm (w.map fun (k : Nat) => (k : Int)) → ∃ us : List Nat, ns = us.map (fun (k : Nat) => (k : Int)) ∧ us.Perm w := by
  intro ns w h
  refine ⟨ns.map Int.toNat, ?_, ?_⟩
  · rw [List.map_map]
    have : ∀ x ∈ ns, ((fun (k : Nat) => (k : Int)) ∘ Int.toNat) x = x := fun x hx => by
      obtain ⟨a, _, e⟩ := List.mem_map.mp (h.mem_iff.mp hx)
      subst e
      rfl
    rw [List.map_congr_left this]
    simp
  · have := h.map Int.toNat
    rw [List.map_map] at this
    have e : w.map (Int.toNat ∘ fun (k : Nat) => (k : Int)) = w := by
      have : (Int.toNat ∘ fun (k : Nat) => (k : Int)) = id := by
        funext x
        exact Int.toNat_natCast x
      rw [this, List.map_id]
    rw [e] at this
    exact this
theorem rd_ring_closed {K : PySem.W.Frag} : ∀ as ms R, Φ_ring_closed as ms R → S K (t_ring_closed K) (as ++ List.replicate (6 - as.length) .u) ms (fin R) := by
  rintro as ms R ⟨a, b, c, rfl, w1, w2, k, rfl, rfl, rfl, l1, l2, r⟩
  unfold t_ring_closed
  refine s_seq (s_asg (e_lcT (js := [4]) (by simp) (e_var rfl ⟨_, rfl, by rw [List.length_map]; omega, fun i acc ms' => acc = (outOf (w1.take i) w2).map (fun (k : Nat) => PyData.int k) ∧ ms = ms', ⟨rfl, rfl⟩, ?_, ?_⟩)))
  · rintro i e acc ms' hi ⟨rfl, rfl⟩
    rw [List.getElem?_map] at hi
    cases q : w1[i]? with
    | none => rw [q] at hi; cases hi
    | some x =>
      rw [q] at hi
      have e1 := (Option.some.inj hi).symm
      subst e1
      refine eg_name (et_test (e_op (e_var rfl (e_var rfl (rr_in ⟨x, w2.map fun (k : Nat) => (k : Int), rfl, .inr (by rw [← tN_ints]; exact .d _), ?_⟩)))))
      rw [mem_cast]
      refine ⟨_, rfl, fun hb => ?_, fun hb => ?_⟩
      · have hx : ¬ x ∈ w2 := by simpa using hb
        refine e_var rfl ⟨_, rfl, ?_, rfl⟩
        rw [outOf_snoc q, if_neg hx, List.map_append]
        rfl
      · have hx : x ∈ w2 := by simpa using hb
        refine ⟨?_, rfl⟩
        rw [outOf_snoc q, if_pos hx, List.append_nil]
  rintro acc _ ⟨rfl, hms⟩
  subst hms
  rw [List.length_map, List.take_length]
  refine s_seq (s_asg (e_lcT (js := [4]) (by simp) (e_var rfl ⟨_, rfl, by rw [List.length_map]; omega, fun i acc ms' => acc = (outOf (w2.take i) w1).map (fun (k : Nat) => PyData.int k) ∧ ms = ms', ⟨rfl, rfl⟩, ?_, ?_⟩)))
  · rintro i e acc ms' hi ⟨rfl, rfl⟩
    rw [List.getElem?_map] at hi
    cases q : w2[i]? with
    | none => rw [q] at hi; cases hi
    | some x =>
      rw [q] at hi
      have e1 := (Option.some.inj hi).symm
      subst e1
      refine eg_name (et_test (e_op (e_var rfl (e_var rfl (rr_in ⟨x, w1.map fun (k : Nat) => (k : Int), rfl, .inr (by rw [← tN_ints]; exact .d _), ?_⟩)))))
      rw [mem_cast]
      refine ⟨_, rfl, fun hb => ?_, fun hb => ?_⟩
      · have hx : ¬ x ∈ w1 := by simpa using hb
        refine e_var rfl ⟨_, rfl, ?_, rfl⟩
        rw [outOf_snoc q, if_neg hx, List.map_append]
        rfl
      · have hx : x ∈ w1 := by simpa using hb
        refine ⟨?_, rfl⟩
        rw [outOf_snoc q, if_pos hx, List.append_nil]
  rintro acc _ ⟨rfl, hms⟩
  subst hms
  rw [List.length_map, List.take_length]
  have o1 : (outOf w1 w2).length ≤ w1.length := List.length_filter_le _ _
  have o2 : (outOf w2 w1).length ≤ w2.length := List.length_filter_le _ _
  refine s_ret (e_cb (ea_cons (e_cb (ea_cons (e_op (e_op (e_var rfl (e_var rfl (rr_cat ⟨_, _, rfl, rfl, by simp; omega, ?_⟩)))))))))
  refine e_lst (ea_cons (e_var rfl (ea_nil ⟨[_], rfl, Nat.le_of_ble_eq_true rfl, rr_cat ⟨_, _, rfl, rfl, by simp; omega, ?_⟩⟩)))
  have cat : ((outOf w1 w2).map (fun (k : Nat) => PyData.int k) ++ (outOf w2 w1).map (fun (k : Nat) => PyData.int k)) ++ [PyData.int k] = ((outOf w1 w2 ++ outOf w2 w1 ++ [k]).map fun (k : Nat) => (k : Int)).map PyData.int := by
    simp only [List.map_append, List.map_cons, List.map_nil, List.map_map]
    rfl
  rw [cat]
  refine ea_nil (rc_sorted ⟨_, _, rfl, .d _, fun ns' hp hs => ?_⟩)
  refine ea_nil (rc_tuple ⟨_, _, rfl, .inl (.d _), ?_⟩)
  obtain ⟨us, rfl, hu⟩ := nats_of _ _ hp
  rw [← tN_ints]
  refine r us hu ?_
  rw [List.pairwise_map] at hs
  exact hs.imp fun h => by omega

structure RingOk (js : List Jn) (ns : List Nat) : Prop where
  rise : ns.Pairwise (· < ·)
  ne : ns ≠ []
  lt : ∀ k ∈ ns, k < js.length
  ends : ∀ x, endN js ns x % 2 = 0
  odd : apN js ns % 2 = 1
theorem sum_perm {α : Type} (f : α → Nat) {l l' : List α} (h : l.Perm l') : (l.map f).sum = (l'.map f).sum := by
  induction h with
  | nil => rfl
  | cons x _ ih => simp [ih]
  | swap x y l => simp; omega
  | trans _ _ h1 h2 => exact h1.trans h2
theorem sum_part (f : Nat → Nat) (p : Nat → Bool) : ∀ w : List Nat, (w.map f).sum = ((w.filter fun k => !p k).map f).sum + ((w.filter p).map f).sum
  | [] => rfl
  | x :: r => by
    have := sum_part f p r
    cases h : p x <;> simp [h, this] <;> omega
theorem nd_perm : ∀ {a b : List Nat}, a.Nodup → b.Nodup → (∀ x, x ∈ a ↔ x ∈ b) → a.Perm b
  | [], b, _, _, h => by
    cases b with
    | nil => exact .nil
    | cons x r => exact absurd ((h x).mpr (by simp)) (by simp)
  | x :: a, b, na, nb, h => by
    have hx : x ∈ b := (h x).mp (by simp)
    have h2 : a.Perm (b.erase x) := nd_perm (List.nodup_cons.mp na).2 (nb.erase x) fun y => by
      rw [nb.mem_erase_iff]
      constructor
      · intro hy
        exact ⟨fun z => by subst z; exact (List.nodup_cons.mp na).1 hy, (h y).mp (List.mem_cons_of_mem _ hy)⟩
      · rintro ⟨z, hy⟩
        rcases List.mem_cons.mp ((h y).mpr hy) with e | e
        · exact absurd e z
        · exact e
    exact (h2.cons x).trans (List.perm_cons_erase hx).symm
theorem sum_sym (f : Nat → Nat) {w1 w2 : List Nat} (n1 : w1.Nodup) (n2 : w2.Nodup) : (((outOf w1 w2 ++ outOf w2 w1).map f).sum) % 2 = ((w1.map f).sum + (w2.map f).sum) % 2 := by
  have e1 := sum_part f (fun k => decide (k ∈ w2)) w1
  have e2 := sum_part f (fun k => decide (k ∈ w1)) w2
  have pm : (w1.filter fun k => decide (k ∈ w2)).Perm (w2.filter fun k => decide (k ∈ w1)) := nd_perm (n1.filter _) (n2.filter _) fun x => by simp [and_comm]
  have e3 := sum_perm f pm
  unfold outOf
  rw [List.map_append, List.sum_append]
  omega
theorem row_inj {m : Nat} {js : List Jn} {fs : List Nat} {rs : List Row} (s : SOk m js fs rs) {r1 r2 : Row} (h1 : r1 ∈ rs) (h2 : r2 ∈ rs) (e : r1.2.1 = r2.2.1) : r1 = r2 := by
  have nd := s.keys
  clear s
  induction rs with
  | nil => cases h1
  | cons a r ih =>
    rw [List.map_cons, List.nodup_cons] at nd
    rcases List.mem_cons.mp h1 with z1 | z1 <;> rcases List.mem_cons.mp h2 with z2 | z2
    · rw [z1, z2]
    · subst z1
      exact absurd (List.mem_map.mpr ⟨r2, z2, e.symm⟩) nd.1
    · subst z2
      exact absurd (List.mem_map.mpr ⟨r1, z1, e⟩) nd.1
    · exact ih z1 z2 nd.2
/-- the ring that a join closes whose points have marks that don't fit -/
theorem ring_of {m : Nat} {js : List Jn} {fs : List Nat} {rs : List Row} (hw : JOk m js) (s : SOk m js fs rs) {k : Nat} {j : Jn} (hj : js[k]? = some j) {r1 r2 : Row} (h1 : r1 ∈ rs) (h2 : r2 ∈ rs) (e1 : r1.2.1 = j.1) (e2 : r2.2.1 = j.2.1)
    (odd : (r1.2.2.1 + r2.2.2.1) % 2 ≠ j.2.2) {ns : List Nat} (hp : ns.Perm (outOf r1.2.2.2 r2.2.2.2 ++ outOf r2.2.2.2 r1.2.2.2 ++ [k])) (hs : ns.Pairwise (· ≤ ·)) : RingOk js ns := by
  obtain ⟨_, _, hn, hb⟩ := hw.all j (List.mem_of_getElem? hj)
  obtain ⟨n1, n2⟩ := nbr_of hj hn
  rw [← e1] at n1
  obtain ⟨r', hr', g', p'⟩ := s.cl r1 h1 _ _ _ n1
  have : r' = r2 := row_inj s hr' h2 (p'.trans e2.symm)
  subst this
  obtain ⟨f1, q1, ok1, _⟩ := s.ok r1 h1
  obtain ⟨f2, q2, ok2, _⟩ := s.ok r' h2
  rw [g', q1] at q2
  cases q2
  have nofit : ¬ Fits js (rs.map (·.2)) k := fun ⟨j2, c1, w1, c2, w2, g1, g2, g3, g4⟩ => by
    rw [hj] at g1
    cases g1
    obtain ⟨a1, ha1, ea1⟩ := List.mem_map.mp g2
    obtain ⟨a2, ha2, ea2⟩ := List.mem_map.mp g3
    have i1 : a1 = r1 := row_inj s ha1 h1 (by rw [ea1, e1])
    have i2 : a2 = r' := row_inj s ha2 h2 (by rw [ea2, e2])
    subst i1 i2
    rw [ea1, ea2] at odd
    exact odd g4
  have k1 : k ∉ r1.2.2.2 := fun z => nofit (ok1.fit k z)
  have k2 : k ∉ r'.2.2.2 := fun z => nofit (ok2.fit k z)
  have nd : (outOf r1.2.2.2 r'.2.2.2 ++ outOf r'.2.2.2 r1.2.2.2 ++ [k]).Nodup := by
    refine List.nodup_append.mpr ⟨List.nodup_append.mpr ⟨ok1.nd.filter _, ok2.nd.filter _, fun x hx y hy z => ?_⟩, by simp, fun x hx y hy z => ?_⟩
    · subst z
      have a := List.mem_filter.mp hx
      have b := List.mem_filter.mp hy
      have : x ∉ r'.2.2.2 := by simpa using a.2
      exact this b.1
    · have : x = k := by simp at hy; exact z.trans hy
      subst this
      rcases List.mem_append.mp hx with y | y
      · exact k1 (List.mem_filter.mp y).1
      · exact k2 (List.mem_filter.mp y).1
  have hk : k < js.length := (List.getElem?_eq_some_iff.mp hj).1
  refine ⟨?_, fun z => ?_, fun i hi => ?_, fun x => ?_, ?_⟩
  · have nd2 : ns.Nodup := hp.nodup_iff.mpr nd
    have : ns.Pairwise fun a b => a ≤ b ∧ a ≠ b := hs.and nd2
    exact this.imp fun h => by omega
  · rw [z] at hp
    have := hp.length_eq
    simp at this
  · have := hp.mem_iff.mp hi
    rcases List.mem_append.mp this with y | y
    · rcases List.mem_append.mp y with y | y
      · obtain ⟨_, _, _, _, _, g1, _⟩ := ok1.fit i (List.mem_filter.mp y).1
        exact (List.getElem?_eq_some_iff.mp g1).1
      · obtain ⟨_, _, _, _, _, g1, _⟩ := ok2.fit i (List.mem_filter.mp y).1
        exact (List.getElem?_eq_some_iff.mp g1).1
    · simp at y
      omega
  · unfold endN
    rw [sum_perm _ hp, List.map_append, List.sum_append]
    have a := sum_sym (eF js x) ok1.nd ok2.nd
    have hk1 : eF js x k = (if x = j.1 then 1 else 0) + (if x = j.2.1 then 1 else 0) := by simp [eF, hj]
    have b1 := ok1.ends x
    have b2 := ok2.ends x
    unfold endN at b1 b2
    simp only [List.map_cons, List.map_nil, List.sum_cons, List.sum_nil, hk1]
    rw [e1] at b1
    rw [e2] at b2
    omega
  · unfold apN
    rw [sum_perm _ hp, List.map_append, List.sum_append]
    have a := sum_sym (aF js) ok1.nd ok2.nd
    have hk1 : aF js k = j.2.2 := by simp [aF, hj]
    have b1 := ok1.ap
    have b2 := ok2.ap
    unfold apN at b1 b2
    simp only [List.map_cons, List.map_nil, List.sum_cons, List.sum_nil, hk1]
    have c1 := ok1.bit
    have c2 := ok2.bit
    omega
def Φ_odd_rings : Ph := ph3 fun a b c ms R => ∃ (m : Nat) (js : List Jn) (fs : List Nat) (rs : List Row), a = .d (.tuple (js.map encJ)) ∧ b = .d (.dict (kD (dM rs))) ∧ c = .d (.dict (kD (dW rs))) ∧ JOk m js ∧ SOk m js fs rs ∧ (∀ p, p < m → ∃ r ∈ rs, r.2.1 = p) ∧
  ∀ ys : List (List Nat), (∀ ns ∈ ys, RingOk js ns) → (ys = [] → ∀ (k : Nat) (j : Jn), js[k]? = some j → Fits js (rs.map (·.2)) k) → R (.f (ys.map tN)) ms
theorem len_odd_rings : ∀ as ms R, Φ_odd_rings as ms R → as.length = 3 := ph3_len
theorem rd_odd_rings {K : PySem.W.Frag} : ∀ as ms R, Φ_odd_rings as ms R → S K (t_odd_rings K Φ_ring_closed) (as ++ List.replicate (8 - as.length) .u) ms (fin R) := by
  rintro as ms R ⟨a, b, c, rfl, m, js, fs, rs, rfl, rfl, rfl, hw, s, hall, r⟩
  have jl := hw.len
  unfold t_odd_rings
  refine s_new (e_lst (ea_nil ⟨[], rfl, Nat.zero_le _, _, rfl, ?_⟩))
  refine s_seq (s_forET (js := [4, 5, 6, 7]) (ea_cons (e_var rfl (ea_nil ⟨_, rfl, fun i ds' ms' => ∃ (ys : List (List Nat)) (o4 o5 o6 o7 : SD), (∀ ns ∈ ys, RingOk js ns) ∧ ys.length ≤ i ∧ (ys = [] → ∀ (k : Nat) (j : Jn), k < i → js[k]? = some j → Fits js (rs.map (·.2)) k) ∧
    ds' = [.d (.tuple (js.map encJ)), .d (.dict (kD (dM rs))), .d (.dict (kD (dW rs))), .m ms.length, o4, o5, o6, o7] ∧ ms' = ms ++ [.l (ys.map tN)], ⟨[], .u, .u, .u, .u, (fun ns h => by cases h), Nat.le_refl _, (fun _ k j hk => by omega), rfl, rfl⟩, ?_, ?_⟩))))
  · rintro i e ds' ms' hi ⟨ys, o4, o5, o6, o7, hys, hyl, hfit, rfl, rfl⟩
    rw [List.getElem?_map] at hi
    cases q : js[i]? with
    | none => rw [q] at hi; cases hi
    | some j =>
      rw [q] at hi
      have e1 := (Option.some.inj hi).symm
      subst e1
      have hil := (List.getElem?_eq_some_iff.mp q).1
      obtain ⟨t1, t2, tn, t3⟩ := hw.all j (List.mem_of_getElem? q)
      obtain ⟨r1, h1, p1⟩ := hall j.1 t1
      obtain ⟨r2, h2, p2⟩ := hall j.2.1 t2
      obtain ⟨_, _, ok1, _⟩ := s.ok r1 h1
      obtain ⟨_, _, ok2, _⟩ := s.ok r2 h2
      have v1 := valF_some (key := fun r : Row => r.2.1) (v := fun r : Row => PyData.int r.2.2.1) h1 s.keys
      have v2 := valF_some (key := fun r : Row => r.2.1) (v := fun r : Row => PyData.int r.2.2.1) h2 s.keys
      have u1 := valF_some (key := fun r : Row => r.2.1) (v := fun r : Row => tN r.2.2.2) h1 s.keys
      have u2 := valF_some (key := fun r : Row => r.2.1) (v := fun r : Row => tN r.2.2.2) h2 s.keys
      rw [p1] at v1 u1
      rw [p2] at v2 u2
      refine eg_tup rfl (egs_cons (eg_name (egs_cons (eg_tup rfl (egs_cons (eg_name (egs_cons (eg_name (egs_cons (eg_name (egs_nil (egs_nil ?_))))))))))))
      refine s_if (et_test (e_op (e_op (e_dget (e_var rfl (e_var rfl ⟨_, .inl (j.1 : Int), _, .d (dM rs), rfl, v1, ?_⟩))))))
      refine e_dget (e_var rfl (e_var rfl ⟨_, .inl (j.2.1 : Int), _, .d (dM rs), rfl, v2, rr_I0 ⟨_, _, rfl, rfl, ?_⟩⟩))
      rw [xor2 ok1.bit ok2.bit]
      refine e_var rfl (rr_ne ⟨_, _, .d _, .d _, rfl, rfl, ?_⟩)
      have eq : PyData.eqv (.int (((r1.2.2.1 + r2.2.2.1) % 2 : Nat) : Int)) (.int (j.2.2 : Nat)) = decide ((r1.2.2.1 + r2.2.2.1) % 2 = j.2.2) := by
        show ((((r1.2.2.1 + r2.2.2.1) % 2 : Nat) : Int) == ((j.2.2 : Nat) : Int)) = _
        by_cases z : (r1.2.2.1 + r2.2.2.1) % 2 = j.2.2
        · rw [z]; simp
        · rw [decide_eq_false z]
          simp
          omega
      rw [eq]
      refine ⟨_, rfl, fun hb => ?_, fun hb => ?_⟩
      · have odd : (r1.2.2.1 + r2.2.2.1) % 2 ≠ j.2.2 := by simpa using hb
        have len : ∀ {f : Nat} {e : Ent}, EOk js f (rs.map (·.2)) e → e.2.2.length ≤ 1000 := fun {f e} ok => by
          have := nd_len js.length e.2.2 ok.nd (fun k hk => by
            obtain ⟨_, _, _, _, _, g1, _⟩ := ok.fit k hk
            exact (List.getElem?_eq_some_iff.mp g1).1)
          omega
        refine s_drop (e_append (e_varm rfl ⟨_, rfl, e_call (ea_cons (e_dget (e_var rfl (e_var rfl ⟨_, .inl (j.1 : Int), _, .d (dW rs), rfl, u1, ?_⟩)))) ⟩))
        refine ea_cons (e_dget (e_var rfl (e_var rfl ⟨_, .inl (j.2.1 : Int), _, .d (dW rs), rfl, u2, ?_⟩)))
        refine ea_cons (e_var rfl (ea_nil ⟨_, _, _, rfl, r1.2.2.2, r2.2.2.2, i, rfl, rfl, rfl, len ok1, len ok2, fun ns hp hs => ?_⟩))
        have ring := ring_of hw s q h1 h2 p1 p2 odd hp hs
        refine ⟨_, _, rfl, (by simp : (ms ++ [MD.l (ys.map tN)])[ms.length]? = some (.l (ys.map tN))), by rw [List.length_map]; omega, ?_⟩
        refine ⟨ys ++ [ns], _, _, _, _, fun n hn => ?_, by simp; omega, (fun z => by simp at z), rfl, by simp⟩
        rcases List.mem_append.mp hn with z | z
        · exact hys n z
        · have : n = ns := by simpa using z
          subst this
          exact ring
      · have fit : (r1.2.2.1 + r2.2.2.1) % 2 = j.2.2 := by simpa using hb
        refine s_next ⟨ys, _, _, _, _, hys, by omega, fun z k j' hk hj' => ?_, rfl, rfl⟩
        by_cases hki : k = i
        · subst hki
          rw [q] at hj'
          cases hj'
          refine ⟨j, r1.2.2.1, r1.2.2.2, r2.2.2.1, r2.2.2.2, q, List.mem_map.mpr ⟨r1, h1, ?_⟩, List.mem_map.mpr ⟨r2, h2, ?_⟩, fit⟩
          · rw [← p1]
          · rw [← p2]
        · exact hfit z k j' (by omega) hj'
  · rintro ds' ms' ⟨ys, o4, o5, o6, o7, hys, hyl, hfit, rfl, rfl⟩
    refine s_ret (e_varm rfl ⟨ms, _, rfl, rfl, ?_⟩)
    show R (if ms.length = ms.length then .f (ys.map tN) else .m ms.length) ms
    rw [if_pos rfl]
    exact r ys hys fun z k j hj => hfit z k j (by rw [List.length_map]; exact (List.getElem?_eq_some_iff.mp hj).1) hj

def Φ_parted : Ph := ph2 fun a b ms R => ∃ (m : Nat) (js : List Jn), a = .d (.int m) ∧ b = .d (.tuple (js.map encJ)) ∧ JOk m js ∧
  (∀ ns, RingOk js ns → R (.d (.tuple [.str "ring", tN ns])) ms) ∧
  ∀ (fs : List Nat) (rs : List Row) (G C : Nat → Nat), SOk m js fs rs → (∀ p, p < m → ∃ w, ((G p, p, C p, w) : Row) ∈ rs) → (∀ (k : Nat) (j : Jn), js[k]? = some j → Fits js (rs.map (·.2)) k) →
    R (t3S "groups" ((List.range m).map fun p => (G p : Int)) (tN ((List.range m).map C))) ms
theorem len_parted : ∀ as ms R, Φ_parted as ms R → as.length = 2 := ph2_len
theorem range_snocN (i : Nat) (G : Nat → Nat) : ((List.range (i + 1)).map G).map (fun (k : Nat) => PyData.int k) = ((List.range i).map G).map (fun (k : Nat) => PyData.int k) ++ [PyData.int (G i)] := by
  rw [List.range_succ, List.map_append, List.map_append]
  rfl
theorem rd_parted {K : PySem.W.Frag} : ∀ as ms R, Φ_parted as ms R → S K (t_parted K Φ_spread Φ_odd_rings) (as ++ List.replicate (7 - as.length) .u) ms (fin R) := by
  rintro as ms R ⟨a, b, rfl, m, js, rfl, rfl, hw, r1, r2⟩
  have hm60 := hw.m60
  unfold t_parted
  refine s_seq (s_asgG (js := [2, 3, 4]) (e_call (ea_cons (e_var rfl (ea_cons (e_var rfl (ea_nil ⟨_, _, rfl, m, js, rfl, rfl, hw, fun fs rs s hall => ?_⟩)))))))
  refine eg_tup rfl (egs_cons (eg_name (egs_cons (eg_name (egs_cons (eg_name (egs_nil ?_)))))))
  refine s_seq (s_asg (e_call (ea_cons (e_var rfl (ea_cons (e_var rfl (ea_cons (e_var rfl (ea_nil ⟨_, _, _, rfl, m, js, fs, rs, rfl, rfl, rfl, hw, s, hall, fun ys hys hfit => ?_⟩)))))))))
  refine s_seq (s_if (et_tru (e_var rfl ⟨_, .inl (.d _), fun hb => ?_, fun hb => ?_⟩)))
  · have hne : 0 < (ys.map tN).length := by
      cases ys with
      | nil => simp at hb
      | cons y t => simp
    refine s_ret (e_tup (ea_cons (e_str (ea_cons (e_minL (ea_cons (e_var rfl (ea_nil ⟨_, ⟨_, rfl, .d _⟩, hne, fun e he => ?_, fun e he => ?_⟩))))))))
    · obtain ⟨n, _, rfl⟩ := List.mem_map.mp he
      exact ⟨_, rfl⟩
    · obtain ⟨n, hn, rfl⟩ := List.mem_map.mp he
      refine ea_nil ⟨[_, _], rfl, Nat.le_of_ble_eq_true rfl, ?_⟩
      exact r1 n (hys n hn)
  · have hy0 : ys = [] := by
      cases ys with
      | nil => rfl
      | cons y t => simp at hb
    refine s_next ?_
    have hall' : ∀ p : Nat, ∃ r : Row, p < m → r ∈ rs ∧ r.2.1 = p := fun p => by
      by_cases hp : p < m
      · obtain ⟨r, h1, h2⟩ := hall p hp
        exact ⟨r, fun _ => ⟨h1, h2⟩⟩
      · exact ⟨(0, 0, 0, []), fun z => absurd z hp⟩
    obtain ⟨F, hF⟩ := Classical.axiomOfChoice hall'
    have vg : ∀ p, p < m → valD (dG rs) (.inl (p : Int)) = some (.int ((F p).1 : Nat)) := fun p hp => by
      have := valF_some (key := fun r : Row => r.2.1) (v := fun r : Row => PyData.int r.1) (hF p hp).1 s.keys
      rw [(hF p hp).2] at this
      exact this
    have vc : ∀ p, p < m → valD (dM rs) (.inl (p : Int)) = some (.int ((F p).2.2.1 : Nat)) := fun p hp => by
      have := valF_some (key := fun r : Row => r.2.1) (v := fun r : Row => PyData.int r.2.2.1) (hF p hp).1 s.keys
      rw [(hF p hp).2] at this
      exact this
    refine s_ret (e_tup3 (e_cb (ea_cons (e_lcR (js := [6]) (by simp) (ea_cons (e_var rfl (ea_nil ⟨_, rfl, by omega, fun i acc ms' => acc = ((List.range i).map fun p => (F p).1).map (fun (k : Nat) => PyData.int k) ∧ ms = ms', ⟨rfl, rfl⟩, ?_, ?_⟩)))))))
    · rintro i acc _ hi ⟨rfl, hms⟩
      subst hms
      have hi' : i < m := by omega
      refine eg_name (et_yes ⟨fun _ => e_dget (e_var rfl (e_var rfl ⟨_, .inl (i : Int), _, .d (dG rs), rfl, vg i hi', ⟨_, rfl, ?_, rfl⟩⟩)), nofun⟩)
      rw [range_snocN]
    rintro acc _ ⟨rfl, hms⟩
    subst hms
    have eg : ((List.range (((m : Nat) : Int)).toNat).map fun p => (F p).1).map (fun (k : Nat) => PyData.int k) = ((List.range m).map fun p => ((F p).1 : Int)).map .int := by
      rw [show (((m : Nat) : Int)).toNat = m by omega, List.map_map, List.map_map]
      rfl
    rw [eg]
    refine ea_nil (rc_tupF ⟨_, _, rfl, .d _, _, rfl, ?_⟩)
    refine e_cb (ea_cons (e_lcR (js := [6]) (by simp) (ea_cons (e_var rfl (ea_nil ⟨_, rfl, by omega, fun i acc ms' => acc = ((List.range i).map fun p => (F p).2.2.1).map (fun (k : Nat) => PyData.int k) ∧ ms = ms', ⟨rfl, rfl⟩, ?_, ?_⟩)))))
    · rintro i acc _ hi ⟨rfl, hms⟩
      subst hms
      have hi' : i < m := by omega
      refine eg_name (et_yes ⟨fun _ => e_dget (e_var rfl (e_var rfl ⟨_, .inl (i : Int), _, .d (dM rs), rfl, vc i hi', ⟨_, rfl, ?_, rfl⟩⟩)), nofun⟩)
      rw [range_snocN]
    rintro acc _ ⟨rfl, hms⟩
    subst hms
    refine ea_nil (rc_tuple ⟨_, _, rfl, .inl (.d _), _, rfl, ?_⟩)
    refine r2 fs rs (fun p => (F p).1) (fun p => (F p).2.2.1) s (fun p hp => ⟨(F p).2.2.2, ?_⟩) (hfit hy0)
    have h1 := (hF p hp).1
    have h2 := (hF p hp).2
    generalize F p = q at h1 h2 ⊢
    obtain ⟨q1, q2, q3, q4⟩ := q
    have h2 : q2 = p := h2
    subst h2
    exact h1

def jOk (m : Nat) (j : Jn) : Prop := j.1 < m ∧ j.2.1 < m ∧ j.1 ≠ j.2.1 ∧ j.2.2 < 2
theorem unl_j {m : Nat} {j : Jn} (h : jOk m j) : unlB m (.int j.1) (.int j.2.1) = true := by
  obtain ⟨h1, h2, h3, h4⟩ := h
  have e : PyData.eqv (.int (j.1 : Int)) (.int (j.2.1 : Int)) = false := by
    show (((j.1 : Nat) : Int) == ((j.2.1 : Nat) : Int)) = false
    simp
    omega
  simp [unlB, numB, e]
  omega
theorem num_j {m : Nat} {j : Jn} (h : jOk m j) : numB 2 (.int j.2.2) = true := by
  obtain ⟨h1, h2, h3, h4⟩ := h
  simp [numB]
  omega
abbrev triJ (j : Jn) : List PyData := [.int j.1, .int j.2.1, .int j.2.2]
/-- a wish, as a list or a tuple -/
def RowJ (x : PyData) (j : Jn) : Prop := x = .list (triJ j) ∨ x = .tuple (triJ j)
theorem RowJ.trip {x : PyData} {j : Jn} (h : RowJ x j) : tripB x = true := by
  rcases h with rfl | rfl <;> rfl
def Φ_is_wish : Ph := ph2 fun a b ms R => ∃ (m : Nat) (w : PyData) (j : Jn) (x : PyData), a = .d (.tuple [.int m, w]) ∧ b = .d x ∧ RowJ x j ∧ jOk m j ∧ R (.d (.bool true)) ms
theorem len_is_wish : ∀ as ms R, Φ_is_wish as ms R → as.length = 2 := ph2_len
theorem rd_is_wish {K : PySem.W.Frag} : ∀ as ms R, Φ_is_wish as ms R → S K (t_is_wish K Φ_is_triple Φ_is_number_of Φ_are_unlike_points) (as ++ List.replicate (5 - as.length) .u) ms (fin R) := by
  rintro as ms R ⟨a, b, rfl, m, w, j, x, rfl, rfl, hx, hj, r⟩
  unfold t_is_wish
  refine s_seq (s_if (et_not (et_B (e_call (ea_cons (e_var rfl (ea_nil ⟨_, rfl, _, rfl, ?_⟩)))))))
  rw [hx.trip]
  refine ⟨true, rfl, nofun, fun _ => ?_⟩
  refine s_next ?_
  refine s_seq (s_asgG (js := [2, 3, 4]) (e_var rfl ?_))
  refine eg_rw hx rfl (egs_cons (eg_name (egs_cons (eg_name (egs_cons (eg_name (egs_nil ?_)))))))
  refine s_ret (e_and (e_call (ea_cons (e_op (e_var rfl (e_int (rr_ix ⟨_, _, _, .inr (.d _), rfl, atI_nat (j := 0) rfl, ?_⟩)))))))
  refine ea_cons (e_var rfl (ea_cons (e_var rfl (ea_nil ⟨_, _, _, rfl, m, _, _, rfl, rfl, rfl, ?_⟩))))
  rw [unl_j hj]
  refine ⟨true, rfl, fun _ => ?_, nofun⟩
  refine e_call (ea_cons (e_int (ea_cons (e_var rfl (ea_nil ⟨_, _, rfl, 2, _, rfl, rfl, ?_⟩)))))
  rw [num_j hj]
  exact r

/-- wishes, as a list or a tuple of such rows -/
structure RowsJ (x : PyData) (hs : List PyData) (js : List Jn) : Prop where
  row : x = .list hs ∨ x = .tuple hs
  len : hs.length = js.length
  all : ∀ (i : Nat) (h : PyData) (j : Jn), hs[i]? = some h → js[i]? = some j → RowJ h j
theorem RowsJ.at {x : PyData} {hs : List PyData} {js : List Jn} (r : RowsJ x hs js) {i : Nat} {h : PyData} (hi : hs[i]? = some h) : ∃ j, js[i]? = some j ∧ RowJ h j := by
  have l := (List.getElem?_eq_some_iff.mp hi).1
  have e : js[i]? = some (js[i]'(by rw [← r.len]; exact l)) := List.getElem?_eq_getElem _
  exact ⟨_, e, r.all i h _ hi e⟩
theorem RowsJ.isRow {x : PyData} {hs : List PyData} {js : List Jn} (r : RowsJ x hs js) : isRow x = true := by
  rcases r.row with rfl | rfl <;> rfl
theorem RowsJ.sv {x : PyData} {hs : List PyData} {js : List Jn} (r : RowsJ x hs js) (ms : List MD) : Sv ms (.d x) (.list hs) ∨ Sv ms (.d x) (.tuple hs) := by
  rcases r.row with rfl | rfl
  · exact .inl (.d _)
  · exact .inr (.d _)
def Φ_made_wishes : PhX := phx2 fun a b ms R Y => ∃ (m : Nat) (w x : PyData) (hs : List PyData) (js : List Jn), a = .d (.tuple [.int m, w]) ∧ b = .d x ∧ RowsJ x hs js ∧ js.length ≤ 120 ∧ (∀ j ∈ js, jOk m j) ∧ R (.d (.tuple (js.map encJ))) ms
theorem len_made_wishes : ∀ as ms R Y, Φ_made_wishes as ms R Y → as.length = 2 := phx2_len
theorem rd_made_wishes {K : PySem.W.Frag} {C_CutError C_NoWishes : Addr} : ∀ as ms R Y, Φ_made_wishes as ms R Y → SX K C_NoWishes (t_made_wishes K C_CutError C_NoWishes Φ_is_row Φ_is_wish) (as ++ List.replicate (3 - as.length) .u) ms (fin R) Y := by
  rintro as ms R Y ⟨a, b, rfl, m, w, x, hs, js, rfl, rfl, hr, hl, hj, r⟩
  have hln := hr.len
  unfold t_made_wishes
  refine sx_seq (sx_if ?_)
  refine et_or (et_not (et_B (e_call (ea_cons (e_var rfl (ea_nil ⟨_, rfl, _, rfl, ?_⟩))))))
  rw [hr.isRow]
  refine ⟨true, rfl, nofun, fun _ => ?_⟩
  refine et_test (e_op (e_cb (ea_cons (e_var rfl (ea_nil (rc_len ⟨_, hs, rfl, hr.sv _, e_int (rr_B0 ⟨_, _, rfl, rfl, _, rfl, fun h => ?_, fun _ => ?_⟩)⟩))))))
  · have h2 := of_decide_eq_true h
    omega
  refine sx_of (s_next ?_)
  have len : hs.length ≤ 10000 := by omega
  refine sx_seq (sx_if (et_not (et_B (e_cb (ea_cons (e_lcRow (js := [2]) rfl hr.row (by simp) len (fun i acc ms' => acc = (List.replicate i true).map PyData.bool ∧ ms = ms') ⟨rfl, rfl⟩ ?_ ?_))))))
  · rintro i e acc _ hi ⟨rfl, hms⟩
    subst hms
    obtain ⟨j, ej, rj⟩ := hr.at hi
    refine eg_name (et_yes ⟨fun _ => e_call (ea_cons (e_var rfl (ea_cons (e_var rfl (ea_nil ⟨_, _, rfl, m, w, j, e, rfl, rfl, rj, hj j (List.mem_of_getElem? ej), _, rfl, ?_, rfl⟩))))), nofun⟩)
    rw [List.replicate_succ', List.map_append]
    rfl
  rintro acc _ ⟨rfl, hms⟩
  subst hms
  refine ea_nil (rc_all ⟨_, _, rfl, .d _, _, rfl, fun h => ?_, fun _ => ?_⟩)
  · simp at h
  refine sx_of (s_next ?_)
  refine sx_of (s_ret (e_cb (ea_cons (e_lcRow (js := [2]) rfl hr.row (by simp) len (fun i acc ms' => acc = (js.map encJ).take i ∧ ms = ms') ⟨rfl, rfl⟩ ?_ ?_))))
  · rintro i e acc _ hi ⟨rfl, hms⟩
    subst hms
    obtain ⟨j, ej, rj⟩ := hr.at hi
    have ej' : (js.map encJ)[i]? = some (encJ j) := by rw [List.getElem?_map, ej]; rfl
    have sv : Sv ms (.d e) (.list (triJ j)) ∨ Sv ms (.d e) (.tuple (triJ j)) := by
      rcases rj with rfl | rfl
      · exact .inl (.d _)
      · exact .inr (.d _)
    refine eg_name (et_yes ⟨fun _ => e_cb (ea_cons (e_var rfl (ea_nil (rc_tuple ⟨_, _, rfl, sv, _, rfl, ?_, rfl⟩)))), nofun⟩)
    rw [take_snoc ej']
  rintro acc _ ⟨rfl, hms⟩
  subst hms
  have e : (js.map encJ).take hs.length = js.map encJ := by rw [hln, ← List.length_map (f := encJ), List.take_length]
  rw [e]
  exact ea_nil (rc_tuple ⟨_, _, rfl, .inl (.d _), r⟩)

def Φ_grouped : Ph := ph2 fun a b ms R => ∃ (m : Nat) (w x : PyData) (hs : List PyData) (js : List Jn), a = .d (.tuple [.int m, w]) ∧ b = .d x ∧ RowsJ x hs js ∧ js.length ≤ 120 ∧ JOk m js ∧
  (∀ ns, RingOk js ns → R (.d (.tuple [.str "ring", tN ns])) ms) ∧
  ∀ (fs : List Nat) (rs : List Row) (G C : Nat → Nat), SOk m js fs rs → (∀ p, p < m → ∃ w, ((G p, p, C p, w) : Row) ∈ rs) → (∀ (k : Nat) (j : Jn), js[k]? = some j → Fits js (rs.map (·.2)) k) →
    R (t3S "groups" ((List.range m).map fun p => (G p : Int)) (tN ((List.range m).map C))) ms
theorem len_grouped : ∀ as ms R, Φ_grouped as ms R → as.length = 2 := ph2_len
theorem rd_grouped {K : PySem.W.Frag} {C_CutError C_NoWishes : Addr} : ∀ as ms R, Φ_grouped as ms R → S K (t_grouped K C_CutError C_NoWishes Φ_parted Φ_made_wishes) (as ++ List.replicate (2 - as.length) .u) ms (fin R) := by
  rintro as ms R ⟨a, b, rfl, m, w, x, hs, js, rfl, rfl, hr, hl, hj, r1, r2⟩
  unfold t_grouped
  refine s_ret (e_call (ea_cons (e_op (e_var rfl (e_int (rr_ix ⟨_, _, _, .inr (.d _), rfl, atI_nat (j := 0) rfl, ?_⟩))))))
  refine ea_cons (e_callX0 (ea_cons (e_var rfl (ea_cons (e_var rfl (ea_nil ⟨_, _, rfl, m, w, x, hs, js, rfl, rfl, hr, hl, hj.all, ?_⟩))))))
  exact ea_nil ⟨_, _, rfl, m, js, rfl, rfl, hj, r1, r2⟩

theorem sum_add (f g : Nat → Nat) : ∀ l : List Nat, (l.map fun x => f x + g x).sum = (l.map f).sum + (l.map g).sum
  | [] => rfl
  | x :: r => by
    have := sum_add f g r
    simp only [List.map_cons, List.sum_cons, this]
    omega

theorem sum_at (s : Nat → Nat) (a : Nat) : ∀ m : Nat, ((List.range m).map fun x => s x * (if x = a then 1 else 0)).sum = if a < m then s a else 0
  | 0 => by simp
  | m + 1 => by
    rw [List.range_succ, List.map_append, List.sum_append, sum_at s a m]
    simp only [List.map_cons, List.map_nil, List.sum_cons, List.sum_nil]
    by_cases h : m = a
    · subst h
      rw [if_neg (by omega), if_pos rfl, if_pos (by omega)]
      omega
    · by_cases h2 : a < m
      · rw [if_pos h2, if_neg h, if_pos (by omega)]
        omega
      · rw [if_neg h2, if_neg h, if_neg (by omega)]
        omega
def kF (js : List Jn) (s : Nat → Nat) (k : Nat) : Nat := match js[k]? with | some j => s j.1 + s j.2.1 | none => 0
theorem sum_ends {m : Nat} {js : List Jn} (hw : JOk m js) (s : Nat → Nat) : ∀ ns : List Nat, (∀ k ∈ ns, k < js.length) →
    ((List.range m).map fun x => s x * endN js ns x).sum = (ns.map (kF js s)).sum
  | [], _ => by
    have : ∀ l : List Nat, (l.map fun x => s x * endN js [] x).sum = 0 := fun l => by
      induction l with
      | nil => rfl
      | cons x r ih => simp only [List.map_cons, List.sum_cons, ih]; simp [endN]
    rw [this]
    rfl
  | k :: ns, h => by
    have ih := sum_ends hw s ns fun i hi => h i (List.mem_cons_of_mem _ hi)
    have hk := h k (by simp)
    have hj : js[k]? = some js[k] := List.getElem?_eq_getElem hk
    obtain ⟨h1, h2, h3, h4⟩ := hw.all js[k] (List.getElem_mem hk)
    have e1 : ∀ x, s x * endN js (k :: ns) x = (s x * (if x = (js[k]).1 then 1 else 0) + s x * (if x = (js[k]).2.1 then 1 else 0)) + s x * endN js ns x := fun x => by
      have : endN js (k :: ns) x = eF js x k + endN js ns x := by simp [endN]
      rw [this]
      have e2 : eF js x k = (if x = (js[k]).1 then 1 else 0) + (if x = (js[k]).2.1 then 1 else 0) := by simp [eF, hj]
      rw [e2, Nat.mul_add, Nat.mul_add]
    have e3 : (fun x => s x * endN js (k :: ns) x) = fun x => (fun x => (fun x => s x * (if x = (js[k]).1 then 1 else 0)) x + (fun x => s x * (if x = (js[k]).2.1 then 1 else 0)) x) x + (fun x => s x * endN js ns x) x := funext e1
    have e4 : kF js s k = s (js[k]).1 + s (js[k]).2.1 := by simp [kF, hj]
    rw [e3, sum_add, sum_add, sum_at, sum_at, ih, if_pos h1, if_pos h2, List.map_cons, List.sum_cons, e4]
theorem even_sum (s e : Nat → Nat) : ∀ l : List Nat, (∀ x ∈ l, e x % 2 = 0) → ((l.map fun x => s x * e x).sum) % 2 = 0
  | [], _ => rfl
  | x :: r, h => by
    have ih := even_sum s e r fun y hy => h y (List.mem_cons_of_mem _ hy)
    have hx := h x (by simp)
    simp only [List.map_cons, List.sum_cons]
    have : (s x * e x) % 2 = 0 := by rw [Nat.mul_mod, hx, Nat.mul_zero]
    omega
/-- where there is an odd ring no side keeps all joins -/
theorem ring_no {m : Nat} {js : List Jn} {ns : List Nat} (hw : JOk m js) (hr : RingOk js ns) (s : Nat → Nat) (hk : ∀ j ∈ js, (s j.1 + s j.2.1) % 2 = j.2.2) : False := by
  have e1 := sum_ends hw s ns hr.lt
  have e2 := even_sum s (fun x => endN js ns x) (List.range m) fun x _ => hr.ends x
  have e3 : ∀ l : List Nat, (∀ k ∈ l, k < js.length) → ((l.map (kF js s)).sum) % 2 = apN js l % 2 := fun l => by
    induction l with
    | nil => intro _; rfl
    | cons k r ih =>
      intro hl
      have ih := ih fun i hi => hl i (List.mem_cons_of_mem _ hi)
      have hkl := hl k (by simp)
      have hj : js[k]? = some js[k] := List.getElem?_eq_getElem hkl
      have hkk := hk js[k] (List.getElem_mem hkl)
      have ea : apN js (k :: r) = (js[k]).2.2 + apN js r := by simp [apN, aF, hj]
      have e4 : kF js s k = s (js[k]).1 + s (js[k]).2.1 := by simp [kF, hj]
      rw [List.map_cons, List.sum_cons, e4, ea]
      omega
  have e4 := e3 ns hr.lt
  have e5 := hr.odd
  rw [← e1] at e4
  omega
/-- .. so where there are groups there is none -/
theorem groups_no {m : Nat} {js : List Jn} {fs ns : List Nat} {rs : List Row} {G C : Nat → Nat} (hw : JOk m js) (s : SOk m js fs rs) (hall : ∀ p, p < m → ∃ w, ((G p, p, C p, w) : Row) ∈ rs)
    (hfit : ∀ (k : Nat) (j : Jn), js[k]? = some j → Fits js (rs.map (·.2)) k) (hr : RingOk js ns) : False := by
  refine ring_no hw hr C fun j hj => ?_
  obtain ⟨k, hk, ek⟩ := List.getElem_of_mem hj
  have hjk : js[k]? = some j := by rw [List.getElem?_eq_getElem hk, ek]
  obtain ⟨t1, t2, tn, t3⟩ := hw.all j hj
  obtain ⟨j2, c1, w1, c2, w2, g1, g2, g3, g4⟩ := hfit k j hjk
  rw [hjk] at g1
  cases g1
  obtain ⟨wa, ra⟩ := hall j.1 t1
  obtain ⟨wb, rb⟩ := hall j.2.1 t2
  obtain ⟨r1, hr1, er1⟩ := List.mem_map.mp g2
  obtain ⟨r2, hr2, er2⟩ := List.mem_map.mp g3
  have i1 : r1 = (G j.1, j.1, C j.1, wa) := row_inj s hr1 ra (by rw [er1])
  have i2 : r2 = (G j.2.1, j.2.1, C j.2.1, wb) := row_inj s hr2 rb (by rw [er2])
  rw [i1] at er1
  rw [i2] at er2
  have ec1 : C j.1 = c1 := congrArg (fun e : Ent => e.2.1) er1
  have ec2 : C j.2.1 = c2 := congrArg (fun e : Ent => e.2.1) er2
  rw [ec1, ec2]
  exact g4
theorem count_sum (f : Nat → Nat) (x : Nat) : ∀ l : List Nat, (l.map f).count x = (l.map fun k => if x = f k then 1 else 0).sum
  | [] => rfl
  | a :: r => by
    rw [List.map_cons, List.count_cons, count_sum f x r, List.map_cons, List.sum_cons]
    by_cases h : x = f a
    · subst h; simp; omega
    · have : ¬ (f a = x) := fun z => h z.symm
      simp [h, this]
theorem ends_sum {js : List Jn} {rg : List Nat} (hl : ∀ k ∈ rg, k < js.length) (x : Nat) : ((rg.map fun k => (js.getD k (0, 0, 0)).1).count x) + ((rg.map fun k => (js.getD k (0, 0, 0)).2.1).count x) = endN js rg x := by
  rw [count_sum, count_sum, ← sum_add]
  unfold endN
  congr 1
  refine List.map_congr_left fun k hk => ?_
  have h := hl k hk
  have e : js[k]? = some js[k] := List.getElem?_eq_getElem h
  simp [eF, e, List.getD]

/-! ### groups and marks, told by the sides that keep the wishes -/
def KeepF (js : List Jn) (s : Nat → Nat) : Prop := ∀ j ∈ js, (s j.1 + s j.2.1) % 2 = j.2.2
/-- s is on each group as the marks, or turned -/
def FolF (m : Nat) (gs cs : List Nat) (s : Nat → Nat) : Prop := ∀ i j, i < m → j < m → gs.getD i 0 = gs.getD j 0 → (cs.getD i 0 + s i) % 2 = (cs.getD j 0 + s j) % 2
structure GrOk (m : Nat) (js : List Jn) (gs cs : List Nat) : Prop where
  lg : gs.length = m
  lc : cs.length = m
  lt : ∀ g ∈ gs, g < m
  bit : ∀ c ∈ cs, c < 2
  iff : ∀ s : Nat → Nat, KeepF js s ↔ FolF m gs cs s
section
variable {m : Nat} {js : List Jn} {gs cs gs' cs' : List Nat}
theorem GrOk.own (b : GrOk m js gs cs) : KeepF js fun x => cs.getD x 0 := (b.iff _).mpr fun x y _ _ _ => by omega
theorem GrOk.part (a : GrOk m js gs cs) (b : GrOk m js gs' cs') {i j : Nat} (hi : i < m) (hj : j < m) (h : gs.getD i 0 = gs.getD j 0) : gs'.getD i 0 = gs'.getD j 0 := by
  apply Classical.byContradiction
  intro hne
  have q1 := (a.iff _).mp b.own i j hi hj h
  have k2 : KeepF js fun x => cs'.getD x 0 + if gs'.getD x 0 = gs'.getD i 0 then 1 else 0 := (b.iff _).mpr fun x y _ _ e => by
    show (cs'.getD x 0 + (cs'.getD x 0 + if gs'.getD x 0 = gs'.getD i 0 then 1 else 0)) % 2 = (cs'.getD y 0 + (cs'.getD y 0 + if gs'.getD y 0 = gs'.getD i 0 then 1 else 0)) % 2
    rw [e]
    omega
  have q2 := (a.iff _).mp k2 i j hi hj h
  have hne' : ¬ gs'.getD j 0 = gs'.getD i 0 := fun z => hne z.symm
  simp only [if_true, if_neg hne'] at q1 q2
  omega
theorem GrOk.mark (a : GrOk m js gs cs) (b : GrOk m js gs' cs') {i j : Nat} (hi : i < m) (hj : j < m) (h : gs.getD i 0 = gs.getD j 0) : (cs.getD i 0 + cs'.getD i 0) % 2 = (cs.getD j 0 + cs'.getD j 0) % 2 :=
  (a.iff _).mp b.own i j hi hj h
theorem getD_all {p : Nat → Prop} {l : List Nat} (h : ∀ x ∈ l, p x) {i : Nat} (hi : i < l.length) : p (l.getD i 0) := h _ (by simp [List.getD, hi])
end
theorem bit_at {cs : List Nat} (h : ∀ c ∈ cs, c < 2) (i : Nat) : cs.getD i 0 < 2 := by
  by_cases hi : i < cs.length
  · exact getD_all (p := (· < 2)) h hi
  · simp [List.getD, hi]

theorem rise_len {m : Nat} : ∀ {fs : List Nat} {a : Nat}, fs.Pairwise (· < ·) → (∀ x ∈ fs, a ≤ x ∧ x < m) → fs.length + a ≤ m ∨ fs = []
  | [], _, _, _ => .inr rfl
  | x :: r, a, hp, h => by
    obtain ⟨h1, h2⟩ := h x (by simp)
    rw [List.pairwise_cons] at hp
    rcases rise_len (m := m) (a := x + 1) hp.2 (fun y hy => ⟨hp.1 y hy, (h y (by simp [hy])).2⟩) with z | z
    · left; simp only [List.length_cons]; omega
    · left; subst z; simp only [List.length_cons, List.length_nil]; omega
theorem gr_of {m : Nat} {js : List Jn} {fs : List Nat} {rs : List Row} {G C : Nat → Nat} (hw : JOk m js) (s : SOk m js fs rs) (hall : ∀ p, p < m → ∃ w, ((G p, p, C p, w) : Row) ∈ rs)
    (hfit : ∀ (k : Nat) (j : Jn), js[k]? = some j → Fits js (rs.map (·.2)) k) : GrOk m js ((List.range m).map G) ((List.range m).map C) := by
  have gd : ∀ (F : Nat → Nat) i, i < m → ((List.range m).map F).getD i 0 = F i := fun F i hi => by
    simp [List.getD, hi]
  have fl : fs.length ≤ m := by
    rcases rise_len (m := m) (a := 0) s.rise (fun x hx => ⟨Nat.zero_le _, by
      obtain ⟨g, hg, e⟩ := List.getElem_of_mem hx
      have := s.lt _ (s.fst g x (by rw [List.getElem?_eq_getElem hg, e]))
      exact this⟩) with z | z
    · omega
    · subst z; exact Nat.zero_le _
  refine ⟨by simp, by simp, fun g hg => ?_, fun c hc => ?_, fun t => ⟨fun h i j hi hj he => ?_, fun h j hj => ?_⟩⟩
  · obtain ⟨p, hp, rfl⟩ := List.mem_map.mp hg
    obtain ⟨w, rw_⟩ := hall p (List.mem_range.mp hp)
    obtain ⟨f, h1, _⟩ := s.ok _ rw_
    have := (List.getElem?_eq_some_iff.mp h1).1
    exact Nat.lt_of_lt_of_le this fl
  · obtain ⟨p, hp, rfl⟩ := List.mem_map.mp hc
    obtain ⟨w, rw_⟩ := hall p (List.mem_range.mp hp)
    obtain ⟨f, _, h2, _⟩ := s.ok _ rw_
    exact h2.bit
  · have hk : ∀ (k : Nat) (j : Jn), js[k]? = some j → (t j.1 + t j.2.1) % 2 = j.2.2 := fun k j hj => h j (List.mem_of_getElem? hj)
    rw [gd G i hi, gd G j hj] at he
    obtain ⟨wi, ri⟩ := hall i hi
    obtain ⟨wj, rj⟩ := hall j hj
    obtain ⟨f1, q1, ok1, _⟩ := s.ok _ ri
    obtain ⟨f2, q2, ok2, _⟩ := s.ok _ rj
    have q1 : fs[G i]? = some f1 := q1
    have q2 : fs[G j]? = some f2 := q2
    rw [← he, q1] at q2
    cases q2
    have a1 : (t f1 + t i) % 2 = C i := ok1.side t hk
    have a2 : (t f1 + t j) % 2 = C j := ok2.side t hk
    rw [gd C i hi, gd C j hj]
    omega
  · obtain ⟨k, hk, ek⟩ := List.getElem_of_mem hj
    have hjk : js[k]? = some j := by rw [List.getElem?_eq_getElem hk, ek]
    obtain ⟨t1, t2, tn, t3⟩ := hw.all j hj
    obtain ⟨j2, c1, w1, c2, w2, g1, g2, g3, g4⟩ := hfit k j hjk
    rw [hjk] at g1
    cases g1
    obtain ⟨wa, ra⟩ := hall j.1 t1
    obtain ⟨wb, rb⟩ := hall j.2.1 t2
    obtain ⟨r1, hr1, er1⟩ := List.mem_map.mp g2
    obtain ⟨r2, hr2, er2⟩ := List.mem_map.mp g3
    have i1 : r1 = (G j.1, j.1, C j.1, wa) := row_inj s hr1 ra (by rw [er1])
    have i2 : r2 = (G j.2.1, j.2.1, C j.2.1, wb) := row_inj s hr2 rb (by rw [er2])
    rw [i1] at er1
    rw [i2] at er2
    have ec1 : C j.1 = c1 := congrArg (fun e : Ent => e.2.1) er1
    have ec2 : C j.2.1 = c2 := congrArg (fun e : Ent => e.2.1) er2
    obtain ⟨n1, _⟩ := nbr_of hjk tn
    obtain ⟨r', hr', g', p'⟩ := s.cl _ ra _ _ _ n1
    have i3 : r' = (G j.2.1, j.2.1, C j.2.1, wb) := row_inj s hr' rb p'
    rw [i3] at g'
    have g' : G j.2.1 = G j.1 := g'
    have hf := h j.1 j.2.1 t1 t2 (by rw [gd G _ t1, gd G _ t2, g'])
    rw [gd C _ t1, gd C _ t2] at hf
    omega

theorem tN_at {ss : List Nat} {p : Nat} (h : p < ss.length) : (ss.map fun (k : Nat) => PyData.int k)[p]? = some (.int (ss.getD p 0 : Nat)) := by
  rw [List.getElem?_map, List.getElem?_eq_getElem h]
  simp [List.getD, h]
theorem eqv_nat (a b : Nat) : PyData.eqv (.int (a : Int)) (.int (b : Int)) = decide (a = b) := by
  rw [eqv_int]
  exact decide_eq_decide.mpr ⟨fun h => by omega, fun h => by omega⟩

def keepsB (ss : List Nat) (js : List Jn) : Bool := js.all fun j => decide ((ss.getD j.1 0 + ss.getD j.2.1 0) % 2 = j.2.2)
def Φ_keeps : Ph := ph3 fun a b c ms R => ∃ (m : Nat) (w x : PyData) (hs : List PyData) (js : List Jn) (ss : List Nat), a = .d (.tuple [.int m, w]) ∧ b = .d x ∧ c = .d (tN ss) ∧ RowsJ x hs js ∧ js.length ≤ 120 ∧ (∀ j ∈ js, jOk m j) ∧ ss.length = m ∧ (∀ x ∈ ss, x < 2) ∧ R (.d (.bool (keepsB ss js))) ms
theorem len_keeps : ∀ as ms R, Φ_keeps as ms R → as.length = 3 := ph3_len
theorem rd_keeps {K : PySem.W.Frag} {C_CutError C_NoWishes : Addr} : ∀ as ms R, Φ_keeps as ms R → S K (t_keeps K C_CutError C_NoWishes Φ_made_wishes) (as ++ List.replicate (7 - as.length) .u) ms (fin R) := by
  rintro as ms R ⟨a, b, c, rfl, m, w, x, hh, js, ss, rfl, rfl, rfl, hr, hl, hj, hm, hs, r⟩
  unfold t_keeps
  refine s_seq (s_asg (e_callX0 (ea_cons (e_var rfl (ea_cons (e_var rfl (ea_nil ⟨_, _, rfl, m, w, x, hh, js, rfl, rfl, hr, hl, hj, ?_⟩)))))))
  refine s_ret (e_cb (ea_cons (e_lcT (js := [4, 5, 6]) (by simp) (e_var rfl ⟨_, rfl, by rw [List.length_map]; omega, fun i acc ms' => acc = ((js.take i).map fun j => decide ((ss.getD j.1 0 + ss.getD j.2.1 0) % 2 = j.2.2)).map PyData.bool ∧ ms = ms', ⟨rfl, rfl⟩, ?_, ?_⟩))))
  · rintro i e acc _ hi ⟨rfl, hms⟩
    subst hms
    rw [List.getElem?_map] at hi
    cases q : js[i]? with
    | none => rw [q] at hi; cases hi
    | some j =>
      rw [q] at hi
      have e1 := (Option.some.inj hi).symm
      subst e1
      obtain ⟨h1, h2, h3, h4⟩ := hj j (List.mem_of_getElem? q)
      refine eg_tup rfl (egs_cons (eg_name (egs_cons (eg_name (egs_cons (eg_name (egs_nil ?_)))))))
      refine et_yes ⟨fun _ => ?_, nofun⟩
      refine e_op (e_op (e_op (e_var rfl (e_var rfl (rr_ix ⟨_, _, _, .inr (.d _), rfl, atI_nat (tN_at (by omega)), ?_⟩)))))
      refine e_op (e_var rfl (e_var rfl (rr_ix ⟨_, _, _, .inr (.d _), rfl, atI_nat (tN_at (by omega)), rr_I0 ⟨_, _, rfl, rfl, ?_⟩⟩)))
      rw [xor2 (bit_at hs _) (bit_at hs _)]
      refine e_var rfl (rr_eq ⟨_, _, .d _, .d _, rfl, rfl, ⟨_, rfl, ?_, rfl⟩⟩)
      rw [take_snoc q, List.map_append, List.map_append]
      congr 1
      simp only [List.map_cons, List.map_nil]
      congr 2
      show ((((ss.getD j.1 0 + ss.getD j.2.1 0) % 2 : Nat) : Int) == ((j.2.2 : Nat) : Int)) = _
      by_cases z : (ss.getD j.1 0 + ss.getD j.2.1 0) % 2 = j.2.2
      · rw [z]; simp
      · rw [decide_eq_false z]
        exact beq_eq_false_iff_ne.mpr fun y => z (Int.ofNat.inj y)
  rintro acc _ ⟨rfl, hms⟩
  subst hms
  refine ea_nil (rc_all ⟨_, _, rfl, .d _, ?_⟩)
  have e : ((js.take (js.map encJ).length).map fun j => decide ((ss.getD j.1 0 + ss.getD j.2.1 0) % 2 = j.2.2)).all id = keepsB ss js := by
    rw [List.length_map, List.take_length, List.all_map]
    rfl
  rw [e]
  exact r

def Φ__law_int : Ph := ph1 fun a ms R => ∃ x, a = .d x ∧ R (.d (.bool (isWhole x))) ms
theorem len__law_int : ∀ as ms R, Φ__law_int as ms R → as.length = 1 := ph1_len
theorem rd__law_int {K : PySem.W.Frag} : ∀ as ms R, Φ__law_int as ms R → S K (t__law_int K) (as ++ List.replicate (1 - as.length) .u) ms (fin R) := by
  rintro as ms R ⟨a, rfl, x, rfl, r⟩
  rw [← whole_and] at r
  unfold t__law_int
  walk_at "evs"
  refine ⟨fun h => ?_, fun h => ?_⟩
  · walk_at "evs"
    rw [h, Bool.true_and] at r
    exact r
  · rw [h, Bool.false_and] at r
    exact r

def Φ__law_truth : Ph := ph2 fun a b ms R => ∃ p q : Bool, a = .d (.bool p) ∧ b = .d (.bool q) ∧ R (.d (.bool (decide (p = q)))) ms
theorem len__law_truth : ∀ as ms R, Φ__law_truth as ms R → as.length = 2 := ph2_len
theorem inst_bool_b (p : Bool) : inst (.bool p) "bool" = true := (by decide +kernel : inst (.bool true) "bool" = true)
theorem rd__law_truth {K : PySem.W.Frag} : ∀ as ms R, Φ__law_truth as ms R → S K (t__law_truth K) (as ++ List.replicate (2 - as.length) .u) ms (fin R) := by
  rintro as ms R ⟨a, b, rfl, p, q, rfl, rfl, r⟩
  unfold t__law_truth
  walk_at "evs"
  rw [inst_bool_b]
  refine ⟨fun _ => ?_, nofun⟩
  walk_at "evs"
  refine rr_eq ⟨_, _, .d _, .d _, (Shp.bl _).ok (by decide), (Shp.bl _).ok (by decide), ?_⟩
  rw [eqv_bl]
  exact r

def Φ__law_stream : Ph := ph2 fun a b ms R => ∃ (c : Int) (n : Nat), a = .d (.int c) ∧ b = .d (.int n) ∧ n ≤ 1000 ∧ ∀ ns : List Int, (∀ x ∈ ns, 0 ≤ x) → R (.f (ns.map .int)) ms
theorem len__law_stream : ∀ as ms R, Φ__law_stream as ms R → as.length = 2 := ph2_len
theorem snocB {ns : List Int} {x : Int} (h : ∀ x ∈ ns, 0 ≤ x) (hx : 0 ≤ x) : ∀ y ∈ ns ++ [x], 0 ≤ y := fun y hy => by
  rcases List.mem_append.mp hy with h1 | h1
  · exact h y h1
  · simp at h1; subst h1; exact hx
theorem rd__law_stream {K : PySem.W.Frag} : ∀ as ms R, Φ__law_stream as ms R → S K (t__law_stream K) (as ++ List.replicate (7 - as.length) .u) ms (fin R) := by
  rintro as ms R ⟨a, b, rfl, c, n, rfl, rfl, hn, r⟩
  have cp : CPow 10 5 := ⟨by decide, by decide, by decide⟩
  have e5 : ((10 : Int) ^ (5 : Int).toNat) = 100000 := by decide
  unfold t__law_stream
  refine s_new (e_lst (ea_nil ⟨[], rfl, Nat.zero_le _, _, rfl, ?_⟩))
  refine s_seq (s_asg (e_var rfl ?_))
  refine s_seq ?_
  refine s_forR (js := [4]) ?_
  walk_at "evs"
  refine ⟨⟨by omega, by omega⟩, fun i ds' ms' => ∃ (c' : Int) (o : SD) (ns : List Int), ds' = [.d (.int c), .d (.int n), .m ms.length, .d (.int c'), o, .u, .u] ∧ ms' = ms ++ [.l (ns.map .int)] ∧ ns.length = i ∧ ∀ x ∈ ns, 0 ≤ x, ⟨c, .u, [], rfl, rfl, rfl, by simp⟩, ?_, ?_⟩
  · rintro i ds' ms' hi ⟨c', o, ns, rfl, rfl, hl, hp⟩
    refine eg_name ?_
    refine s_seq (s_drop ?_)
    refine e_append ?_
    refine e_varm rfl ⟨_, rfl, ?_⟩
    walk_at "evs"
    refine rr_I ⟨_, _, rfl, rfl, cp, ?_⟩
    rw [e5]
    refine rr_I ⟨_, _, rfl, rfl, by decide, ?_⟩
    refine ⟨_, _, rfl, get1 _ _, by rw [List.length_map]; omega, ?_⟩
    rw [set1]
    walk_at "evs"
    refine rr_I ⟨_, _, rfl, rfl, cp, ?_⟩
    rw [e5]
    refine rr_I ⟨_, _, rfl, rfl, ⟨by decide, Bd.mono (Bd.of (n := 64) (by decide)) (by decide)⟩, ?_⟩
    refine ⟨_, _, ns ++ [c'.fmod 100000], rfl, by simp, by simp [hl], snocB hp ?_⟩
    rw [Int.fmod_eq_emod_of_nonneg _ (by decide)]
    exact Int.emod_nonneg _ (by decide)
  rintro ds' ms' ⟨c', o, ns, rfl, rfl, hl, hp⟩
  refine s_seq ?_
  walk_at "evs"
  refine rr_I ⟨_, _, rfl, rfl, ⟨by decide, by decide, by decide⟩, ?_⟩
  walk_at "evs"
  refine ⟨fun _ => ?_, fun _ => ?_⟩
  · walk_at "evs"
    refine ⟨ms, ns.map .int, rfl, rfl, ?_⟩
    show R (if ms.length = ms.length then _ else _) ms
    rw [if_pos rfl]
    exact r ns hp
  refine s_next ?_
  refine s_new (e_lst (ea_nil ⟨[], rfl, Nat.zero_le _, _, rfl, ?_⟩))
  have n1 : (ms ++ [MD.l (ns.map .int)]).length = ms.length + 1 := by simp
  rw [n1]
  walk_at "evs"
  refine rr_I ⟨_, _, rfl, rfl, by decide, ?_⟩
  walk_at "evs"
  refine rr_I ⟨_, _, rfl, rfl, ⟨by decide, Bd.mono (Bd.of (n := 64) (by decide)) (by decide)⟩, ?_⟩
  walk_at "evs"
  refine rr_I ⟨_, _, rfl, rfl, by decide, ?_⟩
  walk_at "evs"
  refine s_forR (js := [4]) ?_
  walk_at "evs"
  refine ⟨⟨by omega, by omega⟩, fun i ds' ms' => ∃ (x y : Int) (o : SD) (ns2 : List Int), ds' = [.d (.int c), .d (.int n), .m (ms.length + 1), .d (.int c'), o, .d (.int x), .d (.int y)] ∧ ms' = ms ++ [.l (ns.map .int)] ++ [.l (ns2.map .int)] ∧ ns2.length = i ∧ ∀ x ∈ ns2, 0 ≤ x, ⟨_, _, _, [], rfl, rfl, rfl, by simp⟩, ?_, ?_⟩
  · rintro i ds' ms' hi ⟨x, y, o, ns2, rfl, rfl, hl2, hp2⟩
    have hi2 : (i : Int) < 2 ^ 64 := by omega
    refine eg_name ?_
    walk_at "evs"
    refine rr_I ⟨_, _, rfl, rfl, .inr ⟨by decide, by decide⟩, ?_⟩
    walk_at "evs"
    refine rr_I ⟨_, _, rfl, rfl, ⟨Bd.mono (Bd.of (n := 64) (by omega)) (by decide), Bd.mono (Bd.of (n := 64) (by omega)) (by decide)⟩, ?_⟩
    walk_at "evs"
    refine rr_I ⟨_, _, rfl, rfl, by decide, ?_⟩
    walk_at "evs"
    refine rr_I ⟨_, _, rfl, rfl, .inr ⟨by decide, by decide⟩, ?_⟩
    walk_at "evs"
    refine rr_I ⟨_, _, rfl, rfl, by decide, ?_⟩
    refine s_drop (e_append ?_)
    refine e_varm rfl ⟨_, rfl, ?_⟩
    walk_at "evs"
    refine rr_I ⟨_, _, rfl, rfl, ⟨by decide, Bd.mono (Bd.of (n := 64) (by decide)) (by decide)⟩, ?_⟩
    refine ⟨_, _, rfl, get2b _ _ _, by rw [List.length_map]; omega, ?_⟩
    rw [set2b]
    refine ⟨_, _, _, ns2 ++ [_], rfl, by simp; rfl, by simp [hl2], snocB hp2 ?_⟩
    rw [Int.fmod_eq_emod_of_nonneg _ (by decide), Int.fdiv_eq_ediv_of_nonneg _ (by decide)]
    exact Int.ediv_nonneg (Int.emod_nonneg _ (by decide)) (by decide)
  · rintro ds' ms' ⟨x, y, o, ns2, rfl, rfl, hl2, hp2⟩
    walk_at "evs"
    refine ⟨_, ns2.map .int, rfl, n1, ms, ns.map .int, rfl, rfl, ?_⟩
    show R (frzR ms.length _ (if ms.length + 1 = ms.length + 1 then _ else _)) ms
    rw [if_pos rfl]
    exact r ns2 hp2

def Φ__law_next : Ph := ph1 fun a ms R => ∃ (k : Nat) (ns : List Int), a = .m k ∧ (∀ x ∈ ns, 0 ≤ x) ∧ ms[k]? = some (.l (ns.map .int)) ∧ ∀ (v : Int) (ns' : List Int), 0 ≤ v → (∀ x ∈ ns', 0 ≤ x) → R (.d (.int v)) (ms.set k (.l (ns'.map .int)))
theorem len__law_next : ∀ as ms R, Φ__law_next as ms R → as.length = 1 := ph1_len
theorem set_same {α : Type} : ∀ (l : List α) (k : Nat) (x : α), l[k]? = some x → l.set k x = l
  | [], k, x, h => by simp at h
  | a :: r, 0, x, h => by simp at h; simp [h]
  | a :: r, k + 1, x, h => by simp at h; simp [set_same r k x h]
theorem rd__law_next {K : PySem.W.Frag} : ∀ as ms R, Φ__law_next as ms R → S K (t__law_next K) (as ++ List.replicate (1 - as.length) .u) ms (fin R) := by
  rintro as ms R ⟨a, rfl, k, ns, rfl, hp, hk, r⟩
  have sh : ∀ ns : List Int, SeqAt.shaped (.list (ns.map .int)) = true := fun ns => (Shp.lst (Shp.ints ns)).ok (by decide)
  unfold t__law_next
  walk_at "evs"
  refine rr_eq ⟨_, _, .m hk, .d _, sh ns, sh [], _, rfl, fun h => ?_, fun h => ?_⟩
  · walk_at "evs"
    have := r 0 ns (by omega) hp
    rw [set_same _ _ _ hk] at this
    exact this
  · obtain ⟨v, ps, rfl⟩ : ∃ v ps, ns = v :: ps := by
      cases ns with
      | nil => simp [PyData.eqv, PyData.eqvAll] at h
      | cons v ps => exact ⟨v, ps, rfl⟩
    walk_at "evs"
    refine e_popAt0 ?_
    walk_at "evs"
    refine ⟨k, ps.map .int, .int v, rfl, hk, ?_⟩
    exact r v ps (hp v (by simp)) fun x hx => hp x (by simp [hx])

theorem fm_ex (x : Int) {m : Int} (h : 0 < m) : ∃ a : Nat, (a : Int) < m ∧ x.fmod m = a := by
  have h1 := Int.fmod_nonneg_of_pos x h
  have h2 := Int.fmod_lt_of_pos x h
  exact ⟨(x.fmod m).toNat, by omega, by omega⟩
theorem e_nextI {K : PySem.W.Frag} {ds : List SD} {ms : List MD} {i k : Nat} {xs : List Int} {R : RS} (hi : ds[i]? = some (.m k)) (hk : ms[k]? = some (.l (xs.map .int))) (hn : ∀ x ∈ xs, 0 ≤ x)
    (r : ∀ (z : Int) (xs' : List Int), 0 ≤ z → (∀ x ∈ xs', 0 ≤ x) → R (.d (.int z)) (ms.set k (.l (xs'.map .int)))) : E K (tCall (SpD K Φ__law_next) [] E0 (tCons (tVar i) tNil)) ds ms R :=
  e_call (ea_cons (e_varm hi (ea_nil ⟨_, rfl, k, xs, rfl, hn, hk, r⟩)))
def Φ__law_wishes : Ph := ph3 fun a b c ms R => ∃ (k : Nat) (ns : List Int) (m : Nat) (bs : List Nat), a = .m k ∧ b = .d (.int m) ∧ c = .d (.list (bs.map fun (x : Nat) => .int x)) ∧ (∀ x ∈ ns, 0 ≤ x) ∧ ms[k]? = some (.l (ns.map .int)) ∧ 1 ≤ m ∧ m ≤ 60 ∧ bs.length = m ∧ (∀ x ∈ bs, x < 2) ∧
  ∀ (js : List Jn) (ns' : List Int), (∀ j ∈ js, jOk m j) → KeepF js (fun x => bs.getD x 0) → js.length ≤ 120 → (∀ x ∈ ns', 0 ≤ x) → R (.f (js.map encJ)) (ms.set k (.l (ns'.map .int)))
theorem len__law_wishes : ∀ as ms R, Φ__law_wishes as ms R → as.length = 3 := ph3_len
theorem rd__law_wishes {K : PySem.W.Frag} : ∀ as ms R, Φ__law_wishes as ms R → S K (t__law_wishes K Φ__law_next) (as ++ List.replicate (10 - as.length) .u) ms (fin R) := by
  rintro as ms R ⟨a, b, c, rfl, k, ns, m, bs, rfl, rfl, rfl, hp, hk, m1, m60, hb, hbit, r⟩
  have hkl : k < ms.length := (List.getElem?_eq_some_iff.mp hk).1
  have at1 : ∀ x : MD, (ms.set k x)[k]? = some x := fun x => List.getElem?_set_self hkl
  have ln : ∀ x : MD, (ms.set k x).length = ms.length := fun x => List.length_set
  have at2 : ∀ x y : MD, (ms.set k x ++ [y])[k]? = some x := fun x y => by rw [List.getElem?_append_left (by rw [ln]; exact hkl)]; exact at1 x
  have st2 : ∀ x y z : MD, (ms.set k x ++ [y]).set k z = ms.set k z ++ [y] := fun x y z => by rw [List.set_append_left _ _ (by rw [ln]; exact hkl), List.set_set]
  have la : ∀ x y : MD, (ms.set k x ++ [y])[ms.length]? = some y := fun x y => by rw [List.getElem?_append_right (by rw [ln]; exact Nat.le_refl _), ln, Nat.sub_self]; rfl
  have sl : ∀ x y z : MD, (ms.set k x ++ [y]).set ms.length z = ms.set k x ++ [z] := fun x y z => by rw [List.set_append_right _ _ (by rw [ln]; exact Nat.le_refl _), ln, Nat.sub_self]; rfl
  have dv : Bd 64 60 := .of (by decide)
  unfold t__law_wishes
  refine s_assoc (s_mid (fun ds' ms' => ∃ (cn : Nat) (ns1 : List Int), cn ≤ 120 ∧ (∀ x ∈ ns1, 0 ≤ x) ∧ ds' = [.m k, .d (.int m), .d (.list (bs.map fun (x : Nat) => .int x)), .d (.int cn), .u, .u, .u, .u, .u, .u] ∧ ms' = ms.set k (.l (ns1.map .int))) ?_ ?_)
  · refine s_seq (s_asg (e_op (e_nextI rfl hk hp fun z1 ns1 hz1 hp1 => e_int (rr_I ⟨_, _, rfl, rfl, by decide, ?_⟩))))
    obtain ⟨c1, hc1, ec1⟩ := fm_ex z1 (m := 11) (by decide)
    rw [ec1]
    refine s_if (et_test (e_op (e_op (e_nextI rfl (at1 _) hp1 fun z2 ns2 hz2 hp2 => e_int (rr_I ⟨_, _, rfl, rfl, by decide, e_int (rr_eq ⟨_, _, .d _, .d _, shaped_int _, shaped_int _, _, rfl, fun _ => ?_, fun _ => ?_⟩)⟩)))))
    · rw [List.set_set]
      refine s_asg (e_op (e_nextI rfl (at1 _) hp2 fun z3 ns3 hz3 hp3 => e_int (rr_I ⟨_, _, rfl, rfl, by decide, ?_⟩)))
      obtain ⟨c3, hc3, ec3⟩ := fm_ex z3 (m := 121) (by decide)
      rw [ec3]
      exact ⟨c3, ns3, by omega, hp3, rfl, by rw [List.set_set]⟩
    · rw [List.set_set]
      exact s_next ⟨c1, ns2, by omega, hp2, rfl, rfl⟩
  rintro ds' ms' ⟨cn, ns1, hcn, hp1, rfl, rfl⟩
  refine s_seq (s_asg (e_op (e_int (e_op (e_nextI rfl (at1 _) hp1 fun z4 ns4 hz4 hp4 => e_var rfl (rr_I ⟨_, _, rfl, rfl, by omega, rr_I0 ⟨_, _, rfl, rfl, ?_⟩⟩))))))
  obtain ⟨c4, hc4, ec4⟩ := fm_ex z4 (m := (m : Int)) (by omega)
  rw [ec4, List.set_set]
  refine s_new (e_lst (ea_nil ⟨[], rfl, Nat.zero_le _, _, rfl, ?_⟩))
  rw [ln]
  refine s_seq (s_forR (js := [6]) (ea_cons (e_var rfl (ea_nil ⟨_, rfl, by omega, fun i ds' ms' => ∃ (js : List Jn) (ns5 : List Int) (o6 o7 o8 o9 : SD), js.length ≤ i ∧ (∀ j ∈ js, jOk m j) ∧ KeepF js (fun x => bs.getD x 0) ∧ (∀ x ∈ ns5, 0 ≤ x) ∧
    ds' = [.m k, .d (.int m), .d (.list (bs.map fun (x : Nat) => .int x)), .d (.int cn), .d (.int (1 + (c4 : Int))), .m ms.length, o6, o7, o8, o9] ∧ ms' = ms.set k (.l (ns5.map .int)) ++ [.l (js.map encJ)], ⟨[], ns4, _, _, _, _, Nat.le_refl _, nofun, nofun, hp4, rfl, rfl⟩, ?_, ?_⟩))))
  · rintro i ds' ms' hi ⟨js, ns5, o6, o7, o8, o9, hl, hj, hkp, hp5, rfl, rfl⟩
    refine eg_name ?_
    refine s_seq (s_asg (e_nextI rfl (at2 _ _) hp5 fun z5 ns6 hz5 hp6 => ?_))
    rw [st2]
    refine s_seq (s_asg (e_op (e_var rfl (e_var rfl (rr_I ⟨_, _, rfl, rfl, by omega, ?_⟩)))))
    obtain ⟨a, ha, ea⟩ := fm_ex z5 (m := (m : Int)) (by omega)
    rw [ea]
    refine s_seq (s_asg (e_op (e_op (e_op (e_var rfl (e_int (rr_I0 ⟨_, _, rfl, rfl, ?_⟩)))))))
    refine e_op (e_op (e_var rfl (e_int (rr_I ⟨_, _, rfl, rfl, ⟨by decide, dv.mono (by decide)⟩, e_var rfl (rr_I ⟨_, _, rfl, rfl, by omega, rr_I0 ⟨_, _, rfl, rfl, e_var rfl (rr_I ⟨_, _, rfl, rfl, by omega, ?_⟩)⟩⟩)⟩))))
    obtain ⟨b, hb2, eb⟩ := fm_ex ((a : Int) + 1 + (z5.fdiv 60).fmod (1 + (c4 : Int))) (m := (m : Int)) (by omega)
    rw [eb]
    refine s_if (et_test (e_op (e_var rfl (e_var rfl (rr_ne ⟨_, _, .d _, .d _, shaped_int _, shaped_int _, _, rfl, fun h => ?_, fun h => ?_⟩)))))
    · rw [eqv_nat] at h
      have hne : a ≠ b := by simpa using h
      have la' : a < bs.length := by omega
      have lb' : b < bs.length := by omega
      refine s_drop (e_append (e_varm rfl ⟨_, rfl, e_tup (ea_cons (e_var rfl (ea_cons (e_var rfl (ea_cons (e_op (e_op (e_op (e_var rfl (e_var rfl (rr_ix ⟨_, _, _, .inl (.d _), rfl, atI_nat (tN_at (p := a) la'), ?_⟩)))))))))))⟩))
      refine e_op (e_var rfl (e_var rfl (rr_ix ⟨_, _, _, .inl (.d _), rfl, atI_nat (tN_at (p := b) lb'), rr_I0 ⟨_, _, rfl, rfl, e_int (rr_I ⟨_, _, rfl, rfl, by decide, ?_⟩)⟩⟩)))
      have e2 : Int.fmod (((bs.getD a 0 : Nat) : Int) + ((bs.getD b 0 : Nat) : Int)) 2 = (((bs.getD a 0 + bs.getD b 0) % 2 : Nat) : Int) := fmod_nat (bs.getD a 0 + bs.getD b 0) 2
      rw [e2]
      refine ea_nil ⟨[_, _, _], rfl, Nat.le_of_ble_eq_true rfl, _, _, rfl, la _ _, by rw [List.length_map]; omega, ?_⟩
      rw [sl]
      refine ⟨js ++ [(a, b, (bs.getD a 0 + bs.getD b 0) % 2)], ns6, _, _, _, _, by rw [List.length_append, List.length_singleton]; omega, fun j hj' => ?_, fun j hj' => ?_, hp6, rfl, by rw [List.map_append]; rfl⟩
      · rcases List.mem_append.mp hj' with h | h
        · exact hj j h
        · rw [List.mem_singleton.mp h]
          exact ⟨by show a < m; omega, by show b < m; omega, hne, Nat.mod_lt _ (by decide)⟩
      · rcases List.mem_append.mp hj' with h | h
        · exact hkp j h
        · rw [List.mem_singleton.mp h]
    · exact s_next ⟨js, ns6, _, _, _, _, by omega, hj, hkp, hp6, rfl, rfl⟩
  · rintro ds' ms' ⟨js, ns5, o6, o7, o8, o9, hl, hj, hkp, hp5, rfl, rfl⟩
    refine s_ret (e_varm rfl ⟨_, _, rfl, ln _, ?_⟩)
    show R (frzR ms.length (js.map encJ) (.m ms.length)) _
    rw [show frzR ms.length (js.map encJ) (.m ms.length) = .f (js.map encJ) from if_pos rfl]
    exact r js ns5 hj hkp (by omega) hp5

/-! ### groups told by their least points -/
section
variable {m : Nat} {js : List Jn} {gs cs : List Nat}
/-- a join's points are of one group -/
theorem join_one (gr : GrOk m js gs cs) (hw : ∀ j ∈ js, jOk m j) {j : Jn} (hj : j ∈ js) : gs.getD j.1 0 = gs.getD j.2.1 0 := by
  obtain ⟨h1, h2, hne, h4⟩ := hw j hj
  apply Classical.byContradiction
  intro z
  have own := gr.own j hj
  have k2 : KeepF js fun x => cs.getD x 0 + if gs.getD x 0 = gs.getD j.1 0 then 1 else 0 := (gr.iff _).mpr fun x y _ _ e => by
    show (cs.getD x 0 + (cs.getD x 0 + if gs.getD x 0 = gs.getD j.1 0 then 1 else 0)) % 2 = (cs.getD y 0 + (cs.getD y 0 + if gs.getD y 0 = gs.getD j.1 0 then 1 else 0)) % 2
    rw [e]
    omega
  have q := k2 j hj
  have z' : ¬ gs.getD j.2.1 0 = gs.getD j.1 0 := fun y => z y.symm
  simp only [if_true, if_neg z'] at q
  have own : (cs.getD j.1 0 + cs.getD j.2.1 0) % 2 = j.2.2 := own
  omega
/-- what is alike at each join's points is alike on each group -/
theorem alike_one (gr : GrOk m js gs cs) (f : Nat → Nat) (h : ∀ j ∈ js, f j.1 = f j.2.1) {p q : Nat} (hp : p < m) (hq : q < m) (e : gs.getD p 0 = gs.getD q 0) : f p = f q := by
  have k2 : KeepF js fun x => cs.getD x 0 + if f x = f p then 1 else 0 := fun j hj => by
    have own : (cs.getD j.1 0 + cs.getD j.2.1 0) % 2 = j.2.2 := gr.own j hj
    show (cs.getD j.1 0 + (if f j.1 = f p then 1 else 0) + (cs.getD j.2.1 0 + if f j.2.1 = f p then 1 else 0)) % 2 = j.2.2
    rw [h j hj]
    split <;> omega
  have z := (gr.iff _).mp k2 p q hp hq e
  apply Classical.byContradiction
  intro y
  have y' : ¬ f q = f p := fun x => y x.symm
  simp only [if_true, if_neg y'] at z
  omega
end
/-- how it stands while they are brought together -/
structure Dn (m : Nat) (gs : List Nat) (fd : List Nat) : Prop where
  len : fd.length = m
  le : ∀ p, p < m → fd.getD p 0 ≤ p
  own : ∀ p, p < m → gs.getD (fd.getD p 0) 0 = gs.getD p 0
theorem getD_setN {l : List Nat} {i x v : Nat} (hi : i < l.length) : (l.set i v).getD x 0 = if x = i then v else l.getD x 0 := by
  by_cases h : x = i
  · subst h; simp [List.getD, hi]
  · have h' : ¬ i = x := fun z => h z.symm
    simp [List.getD, h', h]
/-- one wish's points brought together -/
def brg (fd : List Nat) (j : Jn) : List Nat := (fd.set j.1 (min (fd.getD j.1 0) (fd.getD j.2.1 0))).set j.2.1 (min (fd.getD j.1 0) (fd.getD j.2.1 0))
theorem brg_at {fd : List Nat} {j : Jn} (h1 : j.1 < fd.length) (h2 : j.2.1 < fd.length) (x : Nat) : (brg fd j).getD x 0 = if x = j.1 ∨ x = j.2.1 then min (fd.getD j.1 0) (fd.getD j.2.1 0) else fd.getD x 0 := by
  unfold brg
  rw [getD_setN (by rw [List.length_set]; exact h2), getD_setN h1]
  by_cases z : x = j.2.1
  · rw [if_pos z, if_pos (.inr z)]
  · rw [if_neg z]
    by_cases y : x = j.1
    · rw [if_pos y, if_pos (.inl y)]
    · rw [if_neg y, if_neg (fun q => q.elim y z)]
theorem Dn.brg {m : Nat} {gs fd : List Nat} (d : Dn m gs fd) {j : Jn} (hj : jOk m j) (hg : gs.getD j.1 0 = gs.getD j.2.1 0) : Dn m gs (brg fd j) := by
  obtain ⟨h1, h2, hne, h4⟩ := hj
  have l := d.len
  refine ⟨by unfold K14.brg; rw [List.length_set, List.length_set]; exact l, fun p hp => ?_, fun p hp => ?_⟩
  · rw [brg_at (by omega) (by omega)]
    have a1 := d.le _ h1
    have a2 := d.le _ h2
    have a3 := d.le _ hp
    split
    · rename_i z
      rcases z with z | z <;> subst z <;> omega
    · exact a3
  · rw [brg_at (by omega) (by omega)]
    split
    · rename_i z
      have mn : gs.getD (min (fd.getD j.1 0) (fd.getD j.2.1 0)) 0 = gs.getD j.1 0 := by
        rcases Nat.le_total (fd.getD j.1 0) (fd.getD j.2.1 0) with q | q
        · rw [Nat.min_eq_left q]; exact d.own _ h1
        · rw [Nat.min_eq_right q, d.own _ h2, hg]
      rcases z with z | z <;> subst z
      · exact mn
      · rw [mn, hg]
    · exact d.own _ hp
/-- they never grow -/
theorem brg_le {fd : List Nat} {j : Jn} (h1 : j.1 < fd.length) (h2 : j.2.1 < fd.length) (x : Nat) : (brg fd j).getD x 0 ≤ fd.getD x 0 := by
  rw [brg_at h1 h2]
  split
  · rename_i z
    rcases z with z | z <;> subst z <;> omega
  · exact Nat.le_refl _
def rnd (js : List Jn) (fd : List Nat) : List Nat := js.foldl brg fd
theorem brg_len (fd : List Nat) (j : Jn) : (brg fd j).length = fd.length := by unfold brg; rw [List.length_set, List.length_set]
theorem rnd_le {m : Nat} : ∀ (js : List Jn) (fd : List Nat), fd.length = m → (∀ j ∈ js, jOk m j) → ∀ x, (rnd js fd).getD x 0 ≤ fd.getD x 0
  | [], _, _, _, _ => Nat.le_refl _
  | j :: r, fd, hl, hj, x => by
    obtain ⟨h1, h2, _, _⟩ := hj j (by simp)
    exact Nat.le_trans (rnd_le r (brg fd j) (by rw [brg_len]; exact hl) (fun i hi => hj i (by simp [hi])) x) (brg_le (by omega) (by omega) x)
theorem rnd_len : ∀ (js : List Jn) (fd : List Nat), (rnd js fd).length = fd.length
  | [], _ => rfl
  | j :: r, fd => by
    show (rnd r (brg fd j)).length = _
    rw [rnd_len r, brg_len]
/-- a round that changes nothing: all are together -/
theorem rnd_fix {m : Nat} : ∀ (js : List Jn) (fd : List Nat), fd.length = m → (∀ j ∈ js, jOk m j) → (∀ x, x < m → (rnd js fd).getD x 0 = fd.getD x 0) → ∀ j ∈ js, fd.getD j.1 0 = fd.getD j.2.1 0
  | [], _, _, _, _, _, h => by cases h
  | i :: r, fd, hl, hj, h, j, hm => by
    obtain ⟨h1, h2, _, _⟩ := hj i (by simp)
    have hl' : (brg fd i).length = m := by rw [brg_len]; exact hl
    have hj' : ∀ k ∈ r, jOk m k := fun k hk => hj k (by simp [hk])
    have step : ∀ x, x < m → (brg fd i).getD x 0 = fd.getD x 0 := fun x hx => by
      have a1 := rnd_le r (brg fd i) hl' hj' x
      have a2 := brg_le (fd := fd) (j := i) (by omega) (by omega) x
      have a3 : (rnd r (brg fd i)).getD x 0 = fd.getD x 0 := h x hx
      omega
    have own : fd.getD i.1 0 = fd.getD i.2.1 0 := by
      have s1 := step i.1 h1
      have s2 := step i.2.1 h2
      rw [brg_at (by omega) (by omega), if_pos (.inl rfl)] at s1
      rw [brg_at (by omega) (by omega), if_pos (.inr rfl)] at s2
      omega
    rcases List.mem_cons.mp hm with rfl | hm
    · exact own
    · have e : brg fd i = fd := by
        apply List.ext_getElem?
        intro x
        by_cases hx : x < m
        · have := step x hx
          rw [List.getElem?_eq_getElem (by rw [hl']; exact hx), List.getElem?_eq_getElem (by rw [hl]; exact hx)]
          simp only [List.getD, List.getElem?_eq_getElem (show x < (brg fd i).length by rw [hl']; exact hx), List.getElem?_eq_getElem (show x < fd.length by rw [hl]; exact hx), Option.getD_some] at this
          rw [this]
        · rw [List.getElem?_eq_none (by omega), List.getElem?_eq_none (by omega)]
      exact rnd_fix r fd hl hj' (fun x hx => by
        have : (rnd r (brg fd i)).getD x 0 = fd.getD x 0 := h x hx
        rw [e] at this
        exact this) j hm

/-- lists of numbers are alike just where they are the same -/
theorem eqv_natL (a b : List Nat) : PyData.eqv (.list (a.map fun (x : Nat) => .int x)) (.list (b.map fun (x : Nat) => .int x)) = decide (a = b) := by
  show PyData.eqvAll (a.map fun (x : Nat) => PyData.int x) (b.map fun (x : Nat) => PyData.int x) = _
  induction a generalizing b with
  | nil => cases b <;> rfl
  | cons x a ih =>
    cases b with
    | nil => rfl
    | cons y b =>
      show (PyData.eqv (.int (x : Int)) (.int (y : Int)) && PyData.eqvAll (a.map fun (x : Nat) => PyData.int x) (b.map fun (x : Nat) => PyData.int x)) = _
      rw [ih, eqv_nat]
      by_cases h : x = y
      · subst h; simp
      · simp [h]
theorem eqv_natT (a b : List Nat) : PyData.eqv (.tuple (a.map fun (x : Nat) => .int x)) (.tuple (b.map fun (x : Nat) => .int x)) = decide (a = b) := by
  have := eqv_natL a b
  exact this
theorem shp_natL (a : List Nat) : SeqAt.shaped (.list (a.map fun (x : Nat) => .int x)) = true := (Shp.lst (n := 0) fun e he => by
  obtain ⟨k, _, rfl⟩ := List.mem_map.mp he
  exact Shp.int _).ok (by decide)
theorem shp_natT (a : List Nat) : SeqAt.shaped (.tuple (a.map fun (x : Nat) => .int x)) = true := (Shp.tup (n := 0) fun e he => by
  obtain ⟨k, _, rfl⟩ := List.mem_map.mp he
  exact Shp.int _).ok (by decide)
theorem sum_down : ∀ {a b : List Nat}, a.length = b.length → (∀ x, a.getD x 0 ≤ b.getD x 0) → a ≠ b → a.sum < b.sum ∧ a.sum ≤ b.sum
  | [], [], _, _, h => absurd rfl h
  | x :: a, y :: b, hl, hx, h => by
    have h0 : x ≤ y := hx 0
    have ht : ∀ i, a.getD i 0 ≤ b.getD i 0 := fun i => hx (i + 1)
    have hl' : a.length = b.length := by simpa using hl
    rw [List.sum_cons, List.sum_cons]
    by_cases z : a = b
    · subst z
      have : x ≠ y := fun e => h (by rw [e])
      omega
    · have := sum_down hl' ht z
      omega
  | [], _ :: _, hl, _, _ => by cases hl
  | _ :: _, [], hl, _, _ => by cases hl
theorem rise_eq : ∀ {a b : List Nat}, a.Pairwise (· < ·) → b.Pairwise (· < ·) → (∀ x, x ∈ a ↔ x ∈ b) → a = b
  | [], [], _, _, _ => rfl
  | [], y :: b, _, _, h => absurd ((h y).mpr (by simp)) (by simp)
  | x :: a, [], _, _, h => absurd ((h x).mp (by simp)) (by simp)
  | x :: a, y :: b, ha, hb, h => by
    obtain ⟨a1, a2⟩ := List.pairwise_cons.mp ha
    obtain ⟨b1, b2⟩ := List.pairwise_cons.mp hb
    have e : x = y := by
      rcases List.mem_cons.mp ((h x).mp (by simp)) with z | z
      · exact z
      · rcases List.mem_cons.mp ((h y).mpr (by simp)) with w | w
        · exact w.symm
        · have := a1 y w
          have := b1 x z
          omega
    subst e
    congr 1
    refine rise_eq a2 b2 fun z => ⟨fun hz => ?_, fun hz => ?_⟩
    · rcases List.mem_cons.mp ((h z).mp (by simp [hz])) with w | w
      · have := a1 z hz
        omega
      · exact w
    · rcases List.mem_cons.mp ((h z).mpr (by simp [hz])) with w | w
      · have := b1 z hz
        omega
      · exact w
/-- the groups' first points -/
structure Fst (m : Nat) (gs fs : List Nat) : Prop where
  rise : fs.Pairwise (· < ·)
  own : ∀ g f, fs[g]? = some f → f < m ∧ gs.getD f 0 = g
  le : ∀ p, p < m → ∃ f, fs[gs.getD p 0]? = some f ∧ f ≤ p
/-- brought together, each stands at its group's first point -/
theorem fd_first {m : Nat} {js : List Jn} {gs cs fd fs : List Nat} (gr : GrOk m js gs cs) (hF : Fst m gs fs) (d : Dn m gs fd) (al : ∀ j ∈ js, fd.getD j.1 0 = fd.getD j.2.1 0) {p : Nat} (hp : p < m) : fs[gs.getD p 0]? = some (fd.getD p 0) := by
  obtain ⟨f, h1, h2⟩ := hF.le p hp
  obtain ⟨h3, h4⟩ := hF.own _ f h1
  have e1 : fd.getD f 0 = fd.getD p 0 := alike_one gr (fun x => fd.getD x 0) al h3 hp h4
  have l1 := d.le f h3
  have l2 := d.le p hp
  have o1 := d.own p hp
  obtain ⟨f', h5, h6⟩ := hF.le (fd.getD p 0) (by omega)
  rw [o1, h1] at h5
  have := Option.some.inj h5
  rw [h1]
  congr 1
  omega
def Φ__law_groups : Ph := ph2 fun a b ms R => ∃ (m : Nat) (js : List Jn) (gs cs fs : List Nat), a = .d (.int m) ∧ b = .d (.list (js.map encJ)) ∧ 1 ≤ m ∧ m ≤ 60 ∧ js.length ≤ 120 ∧ (∀ j ∈ js, jOk m j) ∧ GrOk m js gs cs ∧ Fst m gs fs ∧ R (.d (.tuple (gs.map fun (x : Nat) => .int x))) ms
theorem len__law_groups : ∀ as ms R, Φ__law_groups as ms R → as.length = 2 := ph2_len
theorem nat_at {l : List Nat} {p : Nat} (h : p < l.length) : (l.map fun (x : Nat) => PyData.int x)[p]? = some (.int (l.getD p 0 : Nat)) := tN_at h
theorem ixN_nat {n j : Nat} (h : j < n) : ixN n (j : Int) = some j := by
  unfold ixN
  simp [h]
theorem rd__law_groups {K : PySem.W.Frag} : ∀ as ms R, Φ__law_groups as ms R → S K (t__law_groups K) (as ++ List.replicate (11 - as.length) .u) ms (fin R) := by
  rintro as ms R ⟨a, b, rfl, m, js, gs, cs, fs, rfl, rfl, m1, m60, hjl, hj, gr, hF, r⟩
  have la : ∀ A : MD, (ms ++ [A])[ms.length]? = some A := fun A => get1 ms A
  have sa : ∀ A B : MD, (ms ++ [A]).set ms.length B = ms ++ [B] := fun A B => set1 ms A B
  unfold t__law_groups
  refine s_assoc (s_assoc (s_mid (fun ds' ms' => ∃ (fd bf : List Nat) (o4 o5 o6 o7 : SD), Dn m gs fd ∧ (∀ j ∈ js, fd.getD j.1 0 = fd.getD j.2.1 0) ∧ ds' = [.d (.int m), .d (.list (js.map encJ)), .d (.list (fd.map fun (x : Nat) => .int x)), .d (.list (bf.map fun (x : Nat) => .int x)), o4, o5, o6, o7, .u, .u, .u] ∧ ms = ms') (s_back ?_) ?_))
  · refine s_new (e_lrg (e_var rfl ⟨m, rfl, by omega, _, rfl, ?_⟩))
    have rg : ∀ x, x < m → (List.range m).getD x 0 = x := fun x hx => by simp [List.getD, hx]
    have d0 : Dn m gs (List.range m) := ⟨by simp, fun p hp => by rw [rg p hp]; exact Nat.le_refl _, fun p hp => by rw [rg p hp]⟩
    refine s_seq (s_asg (e_lst (ea_nil ⟨[], rfl, Nat.zero_le _, ?_⟩)))
    refine s_while (fun n ds' ms' => ∃ (fd bf : List Nat) (o4 o5 o6 o7 : SD), Dn m gs fd ∧ (bf = fd → ∀ j ∈ js, fd.getD j.1 0 = fd.getD j.2.1 0) ∧ n = 2 * fd.sum + (if bf = fd then 0 else 1) ∧
        ds' = [.d (.int m), .d (.list (js.map encJ)), .m ms.length, .d (.list (bf.map fun (x : Nat) => .int x)), o4, o5, o6, o7, .u, .u, .u] ∧ ms' = ms ++ [.l (fd.map fun (x : Nat) => .int x)]) _ ⟨List.range m, [], _, _, _, _, d0, fun e => ?_, rfl, rfl, rfl⟩ ?_
    · have := congrArg List.length e
      simp at this
      omega
    rintro n ds' ms' ⟨fd, bf, o4, o5, o6, o7, d, al, hn, rfl, rfl⟩
    refine et_test (e_op (e_var rfl (e_varm rfl (rr_ne ⟨_, _, .d _, .m (la _), shp_natL bf, shp_natL fd, ?_⟩))))
    rw [eqv_natL]
    refine ⟨_, rfl, fun h => ?_, fun h => ?_⟩
    · have hne : ¬ bf = fd := by simpa using h
      refine s_seq (s_asg (e_cb (ea_cons (e_varm rfl (ea_nil (rc_list ⟨_, _, rfl, .inl (.m (la _)), ?_⟩))))))
      have fl := d.len
      refine s_forL (js := [4, 5, 6]) (e_var rfl ⟨_, .d _, fun i ds' ms' => ∃ (o4 o5 o6 o7 : SD), Dn m gs (rnd (js.take i) fd) ∧ ds' = [.d (.int m), .d (.list (js.map encJ)), .m ms.length, .d (.list (fd.map fun (x : Nat) => .int x)), o4, o5, o6, o7, .u, .u, .u] ∧ ms' = ms ++ [.l ((rnd (js.take i) fd).map fun (x : Nat) => .int x)], ⟨_, _, _, _, d, rfl, rfl⟩, ?_, ?_⟩)
      · rintro i e ds' ms' hi ⟨o4, o5, o6, o7, d', rfl, rfl⟩
        rw [List.getElem?_map] at hi
        cases q : js[i]? with
        | none => rw [q] at hi; cases hi
        | some j =>
          rw [q] at hi
          cases hi
          have hjm := List.mem_of_getElem? q
          have hjj := hj j hjm
          obtain ⟨h1, h2, _, _⟩ := hj j hjm
          have fl' := d'.len
          have tk : rnd (js.take (i + 1)) fd = brg (rnd (js.take i) fd) j := by
            unfold rnd
            rw [take_snoc q, List.foldl_append]
            rfl
          have dn' := d'.brg hjj (join_one gr hj hjm)
          generalize hN : rnd (js.take i) fd = N at *
          refine eg_tup rfl (egs_cons (eg_name (egs_cons (eg_name (egs_cons (eg_name (egs_nil ?_)))))))
          refine s_seq (s_asg (e_cb (ea_cons (e_op (e_varm rfl (e_var rfl (rr_ix ⟨_, _, _, .inl (.m (la _)), rfl, atI_nat (nat_at (p := j.1) (by omega)), ?_⟩)))))))
          refine ea_cons (e_op (e_varm rfl (e_var rfl (rr_ix ⟨_, _, _, .inl (.m (la _)), rfl, atI_nat (nat_at (p := j.2.1) (by omega)), ea_nil (rc_min ⟨_, _, rfl, ?_⟩)⟩))))
          have em : (if ((N.getD j.2.1 0 : Nat) : Int) < ((N.getD j.1 0 : Nat) : Int) then ((N.getD j.2.1 0 : Nat) : Int) else ((N.getD j.1 0 : Nat) : Int)) = ((min (N.getD j.1 0) (N.getD j.2.1 0) : Nat) : Int) := by
            split <;> omega
          rw [em]
          refine s_seq (s_setL (e_var rfl ⟨_, rfl, e_varm rfl ⟨_, rfl, e_var rfl ⟨_, j.1, _, rfl, la _, ixN_nat (by rw [List.length_map]; omega), ?_⟩⟩⟩))
          rw [sa]
          refine s_setL (e_var rfl ⟨_, rfl, e_varm rfl ⟨_, rfl, e_var rfl ⟨_, j.2.1, _, rfl, la _, ixN_nat (by rw [List.length_set, List.length_map]; omega), ?_⟩⟩⟩)
          rw [sa]
          refine ⟨_, _, _, _, by rw [tk]; exact dn', rfl, ?_⟩
          rw [tk]
          unfold brg
          rw [List.map_set, List.map_set]
      · rintro ds' ms' ⟨o4', o5', o6', o7', d', rfl, rfl⟩
        rw [List.length_map, List.take_length] at d'
        rw [List.length_map, List.take_length]
        have lr : (rnd js fd).length = fd.length := rnd_len js fd
        have le := rnd_le js fd fl hj
        refine ⟨_, ?_, rnd js fd, fd, _, _, _, _, d', fun e => ?_, rfl, rfl, rfl⟩
        · by_cases z : fd = rnd js fd
          · rw [if_pos z, ← z, hn, if_neg hne]
            omega
          · have := sum_down lr le fun y => z y.symm
            rw [if_neg z, hn, if_neg hne]
            omega
        · rw [← e]
          exact rnd_fix js fd fl hj fun x _ => by rw [← e]
    · have he : bf = fd := by simpa using h
      have hz : frzS ms.length (fd.map fun (x : Nat) => PyData.int x) (.m ms.length) = .d (.list (fd.map fun (x : Nat) => PyData.int x)) := if_pos rfl
      exact ⟨ms, _, rfl, rfl, fd, bf, frzS _ _ o4, frzS _ _ o5, frzS _ _ o6, frzS _ _ o7, d, al he, by simp only [List.map_cons, List.map_nil, hz]; rfl, rfl⟩
  rintro ds' _ ⟨fd, bf, o4, o5, o6, o7, d, al, rfl, rfl⟩
  have fl := d.len
  have fst := fun {p : Nat} (hp : p < m) => fd_first gr hF d al hp
  refine s_seq (s_asg (e_lcR (js := [9]) (by simp) (ea_cons (e_var rfl (ea_nil ⟨_, rfl, by omega, fun i acc ms' => acc = (((List.range i).filter fun p => decide (fd.getD p 0 = p)).map fun (x : Nat) => PyData.int x) ∧ ms = ms', ⟨rfl, rfl⟩, ?_, ?_⟩)))))
  · rintro i acc _ hi ⟨rfl, rfl⟩
    refine eg_name (et_test (e_op (e_op (e_var rfl (e_var rfl (rr_ix ⟨_, _, _, .inl (.d _), rfl, atI_nat (nat_at (p := i) (by omega)), e_var rfl (rr_eq ⟨_, _, .d _, .d _, shaped_int _, shaped_int _, _, rfl, fun h => ?_, fun h => ?_⟩)⟩))))))
    · rw [eqv_nat] at h
      refine e_var rfl ⟨_, rfl, ?_, rfl⟩
      rw [List.range_succ, List.filter_append, List.filter_cons, if_pos h, List.map_append]
      rfl
    · rw [eqv_nat] at h
      refine ⟨?_, rfl⟩
      rw [List.range_succ, List.filter_append, List.filter_cons, if_neg (by rw [h]; decide), List.filter_nil, List.append_nil]
  rintro acc _ ⟨rfl, rfl⟩
  have efs : ((List.range (((m : Nat) : Int)).toNat).filter fun p => decide (fd.getD p 0 = p)) = fs := by
    rw [show (((m : Nat) : Int)).toNat = m by omega]
    refine rise_eq ((List.pairwise_lt_range).filter _) hF.rise fun x => ⟨fun h => ?_, fun h => ?_⟩
    · obtain ⟨h1, h2⟩ := List.mem_filter.mp h
      have h1 := List.mem_range.mp h1
      have h2 : fd.getD x 0 = x := of_decide_eq_true h2
      have := fst h1
      rw [h2] at this
      exact List.mem_of_getElem? this
    · obtain ⟨g, hg, e⟩ := List.getElem_of_mem h
      have hg' : fs[g]? = some x := by rw [List.getElem?_eq_getElem hg, e]
      obtain ⟨h1, h2⟩ := hF.own g x hg'
      have := fst h1
      rw [h2, hg'] at this
      exact List.mem_filter.mpr ⟨List.mem_range.mpr h1, decide_eq_true (Option.some.inj this).symm⟩
  rw [efs]
  have nd : fs.Nodup := hF.rise.imp fun h => Nat.ne_of_lt h
  refine s_ret (e_cb (ea_cons (e_lcL (js := [10]) (by simp) (e_var rfl ⟨_, .d _, by rw [List.length_map]; omega, fun i acc ms' => acc = ((gs.take i).map fun (x : Nat) => PyData.int x) ∧ ms = ms', ⟨rfl, rfl⟩, ?_, ?_⟩))))
  · rintro i e acc _ hi ⟨rfl, rfl⟩
    have im : i < m := by
      have := (List.getElem?_eq_some_iff.mp hi).1
      rw [List.length_map] at this
      omega
    rw [nat_at (by omega)] at hi
    cases hi
    have hf := fst im
    have eI : (fs.map fun (x : Nat) => PyData.int x) = (fs.map fun (x : Nat) => (x : Int)).map .int := by rw [List.map_map]; rfl
    refine eg_name (et_yes ⟨fun _ => ?_, nofun⟩)
    refine e_index (e_var rfl ⟨fs.map fun (x : Nat) => (x : Int), by rw [← eI]; exact .d _, e_var rfl ⟨_, gs.getD i 0, rfl, rfl, by rw [List.getElem?_map, hf]; rfl, fun k z hk hz => ?_, ?_⟩⟩)
    · rw [List.getElem?_map] at hz
      cases q : fs[k]? with
      | none => rw [q] at hz; cases hz
      | some f =>
        rw [q] at hz
        cases hz
        intro e
        have e : ((f : Nat) : Int) = ((fd.getD i 0 : Nat) : Int) := e
        have e : f = fd.getD i 0 := by omega
        subst e
        obtain ⟨l1, q1⟩ := List.getElem?_eq_some_iff.mp q
        obtain ⟨l2, q2⟩ := List.getElem?_eq_some_iff.mp hf
        have := (List.getElem_inj nd).mp (q1.trans q2.symm)
        omega
    · refine ⟨_, rfl, ?_, rfl⟩
      have gi : gs[i]? = some (gs.getD i 0) := by
        have := gr.lg
        simp [List.getD, show i < gs.length by omega]
      rw [take_snoc gi, List.map_append]
      rfl
  rintro acc _ ⟨rfl, rfl⟩
  rw [List.length_map, fl]
  refine ea_nil (rc_tuple ⟨_, _, rfl, .inl (.d _), ?_⟩)
  rw [List.take_of_length_le (by rw [gr.lg]; exact Nat.le_refl _)]
  exact r

theorem fm2 (n : Nat) : Int.fmod (n : Int) 2 = ((n % 2 : Nat) : Int) := by
  rw [Int.fmod_eq_emod_of_nonneg _ (by decide)]
  rfl
def Φ__law_keeps : Ph := ph2 fun a b ms R => ∃ (m : Nat) (js : List Jn) (ss : List Nat), a = .d (.list (js.map encJ)) ∧ b = .d (tN ss) ∧ js.length ≤ 120 ∧ (∀ j ∈ js, jOk m j) ∧ ss.length = m ∧ (∀ x ∈ ss, x < 2) ∧ R (.d (.bool (keepsB ss js))) ms
theorem len__law_keeps : ∀ as ms R, Φ__law_keeps as ms R → as.length = 2 := ph2_len
theorem rd__law_keeps {K : PySem.W.Frag} : ∀ as ms R, Φ__law_keeps as ms R → S K (t__law_keeps K) (as ++ List.replicate (5 - as.length) .u) ms (fin R) := by
  rintro as ms R ⟨a, b, rfl, m, js, ss, rfl, rfl, hl, hj, hm, hs, r⟩
  unfold t__law_keeps
  refine s_ret (e_op (e_lcL (js := [2, 3, 4]) (by simp) (e_var rfl ⟨_, .d _, by rw [List.length_map]; omega, fun i acc ms' => acc = (((js.take i).filter fun j => !decide ((ss.getD j.1 0 + ss.getD j.2.1 0) % 2 = j.2.2)).map fun _ => (1 : Int)).map PyData.int ∧ ms = ms', ⟨rfl, rfl⟩, ?_, ?_⟩)))
  · rintro i e acc _ hi ⟨rfl, hms⟩
    subst hms
    rw [List.getElem?_map] at hi
    cases q : js[i]? with
    | none => rw [q] at hi; cases hi
    | some j =>
      rw [q] at hi
      have e1 := (Option.some.inj hi).symm
      subst e1
      obtain ⟨h1, h2, h3, h4⟩ := hj j (List.mem_of_getElem? q)
      refine eg_tup rfl (egs_cons (eg_name (egs_cons (eg_name (egs_cons (eg_name (egs_nil ?_)))))))
      refine et_test (e_op (e_op (e_op (e_op (e_var rfl (e_var rfl (rr_ix ⟨_, _, _, .inr (.d _), rfl, atI_nat (tN_at (by omega)), ?_⟩)))))))
      refine e_op (e_var rfl (e_var rfl (rr_ix ⟨_, _, _, .inr (.d _), rfl, atI_nat (tN_at (by omega)), rr_I0 ⟨_, _, rfl, rfl, ?_⟩⟩)))
      refine e_int (rr_I ⟨_, _, rfl, rfl, by decide, ?_⟩)
      have ec : ((ss.getD j.1 0 : Nat) : Int) + ((ss.getD j.2.1 0 : Nat) : Int) = ((ss.getD j.1 0 + ss.getD j.2.1 0 : Nat) : Int) := rfl
      rw [ec, fm2]
      refine e_var rfl (rr_ne ⟨_, _, .d _, .d _, rfl, rfl, ?_⟩)
      have eq : PyData.eqv (.int (((ss.getD j.1 0 + ss.getD j.2.1 0) % 2 : Nat) : Int)) (.int (j.2.2 : Nat)) = decide ((ss.getD j.1 0 + ss.getD j.2.1 0) % 2 = j.2.2) := by
        show ((((ss.getD j.1 0 + ss.getD j.2.1 0) % 2 : Nat) : Int) == ((j.2.2 : Nat) : Int)) = _
        by_cases z : (ss.getD j.1 0 + ss.getD j.2.1 0) % 2 = j.2.2
        · rw [z]; simp
        · rw [decide_eq_false z]
          exact beq_eq_false_iff_ne.mpr fun y => z (Int.ofNat.inj y)
      rw [eq]
      refine ⟨_, rfl, fun hb => ?_, fun hb => ?_⟩
      · refine e_int ⟨_, rfl, ?_, rfl⟩
        rw [take_snoc q, List.filter_append, List.map_append, List.map_append]
        congr 1
        rw [List.filter_cons, if_pos hb]
        rfl
      · refine ⟨?_, rfl⟩
        rw [take_snoc q, List.filter_append, List.map_append, List.map_append]
        rw [List.filter_cons, if_neg (by rw [hb]; exact Bool.false_ne_true)]
        simp
  rintro acc _ ⟨rfl, hms⟩
  subst hms
  have sh : ∀ ns : List Int, SeqAt.shaped (.list (ns.map .int)) = true := fun ns => (Shp.lst (Shp.ints ns)).ok (by decide)
  refine e_lst (ea_nil ⟨[], rfl, Nat.zero_le _, rr_eq ⟨_, _, .d _, .d _, sh _, sh [], ?_⟩⟩)
  have e : PyData.eqv (.list ((((js.take (js.map encJ).length).filter fun j => !decide ((ss.getD j.1 0 + ss.getD j.2.1 0) % 2 = j.2.2)).map fun _ => (1 : Int)).map PyData.int)) (.list []) = keepsB ss js := by
    rw [List.length_map, List.take_length]
    unfold keepsB
    generalize hq : (js.filter fun j => !decide ((ss.getD j.1 0 + ss.getD j.2.1 0) % 2 = j.2.2)) = q
    cases q with
    | nil =>
      have : js.all (fun j => decide ((ss.getD j.1 0 + ss.getD j.2.1 0) % 2 = j.2.2)) = true := by
        rw [List.all_eq_true]
        intro j hj
        have := List.filter_eq_nil_iff.mp hq j hj
        simpa using this
      rw [this]
      rfl
    | cons x t =>
      have hx : x ∈ (js.filter fun j => !decide ((ss.getD j.1 0 + ss.getD j.2.1 0) % 2 = j.2.2)) := by rw [hq]; simp
      have h2 := List.mem_filter.mp hx
      have : js.all (fun j => decide ((ss.getD j.1 0 + ss.getD j.2.1 0) % 2 = j.2.2)) = false := by
        rw [← Bool.not_eq_true, List.all_eq_true]
        intro z
        have z1 := z x h2.1
        rw [z1] at h2
        exact absurd h2.2 (by decide)
      rw [this]
      rfl
  rw [e]
  exact r

def Φ__law_right : Ph := ph3 fun a b c ms R => ∃ (m : Nat) (js : List Jn) (gs cs fs : List Nat), a = .d (.int m) ∧ b = .d (.list (js.map encJ)) ∧ c = t3S "groups" (gs.map fun (x : Nat) => (x : Int)) (tN cs) ∧ 1 ≤ m ∧ m ≤ 60 ∧ js.length ≤ 120 ∧ (∀ j ∈ js, jOk m j) ∧ GrOk m js gs cs ∧ Fst m gs fs ∧ (∀ f ∈ fs, cs.getD f 0 = 0) ∧ R (.d (.bool true)) ms
theorem len__law_right : ∀ as ms R, Φ__law_right as ms R → as.length = 3 := ph3_len
theorem grp_self : PyData.eqv (.str "groups") (.str "groups") = true := by decide +kernel
theorem keeps_own {m : Nat} {js : List Jn} {gs cs : List Nat} (gr : GrOk m js gs cs) : keepsB cs js = true := by
  unfold keepsB
  rw [List.all_eq_true]
  exact fun j hj => decide_eq_true (gr.own j hj)
theorem idx_ne {l : List Int} {a : Int} {i : Nat} (h : i < l.idxOf a) (e : l[i]? = some a) : False := by
  have hl : i < l.length := (List.getElem?_eq_some_iff.mp e).1
  have := List.not_of_lt_findIdx h
  obtain ⟨_, e2⟩ := List.getElem?_eq_some_iff.mp e
  simp [e2] at this
theorem rd__law_right {K : PySem.W.Frag} : ∀ as ms R, Φ__law_right as ms R → S K (t__law_right K Φ__law_groups Φ__law_int Φ__law_keeps) (as ++ List.replicate (8 - as.length) .u) ms (fin R) := by
  rintro as ms R ⟨a, b, c, rfl, m, js, gs, cs, fs, rfl, rfl, rfl, m1, m60, hjl, hj, gr, hF, h0, r⟩
  have lg := gr.lg
  have lc := gr.lc
  have snil : SeqAt.shaped (PyData.list []) = true := by decide +kernel
  have enil : PyData.eqv (.list []) (.list []) = true := rfl
  unfold t__law_right
  refine s_seq (s_if (et_or (et_not (et_B (e_isiW (Told3.tup _ _ _) instTuple (e_varw rfl ⟨rfl, true, rfl, nofun, fun _ => ?_⟩))))))
  refine et_or (et_test (e_op (e_cb (ea_cons (e_varw rfl (ea_nil (rc_lenW (Told3.tup _ _ _) ⟨rfl, e_int (rr_ne ⟨_, _, .d _, .d _, shaped_int _, shaped_int _, false, rfl, nofun, fun _ => ?_⟩)⟩)))))))
  refine et_test (e_op (e_op (e_varw rfl (e_int (rr_ixT0 ⟨_, _, rfl, rfl, e_str (rr_ne ⟨_, _, .d _, .d _, by decide +kernel, by decide +kernel, ?_⟩)⟩)))))
  rw [grp_self]
  refine ⟨false, rfl, nofun, fun _ => s_next ?_⟩
  refine s_seq (s_cut3 (by decide) (e_varw rfl ⟨_, _, rfl, ?_⟩))
  refine s_seq (s_if (et_or (et_not (et_B (e_isiW (TupI.tup _) instTuple (e_varw rfl ⟨rfl, true, rfl, nofun, fun _ => ?_⟩))))))
  refine et_or (et_not (et_B (e_isi instTuple (e_var rfl ⟨_, .d _, nofun, ?_⟩))))
  rw [inst_tup]
  refine ⟨true, rfl, nofun, fun _ => ?_⟩
  refine et_or (et_test (e_op (e_cb (ea_cons (e_varw rfl (ea_nil (rc_lenW (TupI.tup _) ⟨rfl, e_var rfl (rr_ne ⟨_, _, .d _, .d _, shaped_int _, shaped_int _, ?_⟩)⟩)))))))
  rw [eqv_nat, decide_eq_true (by rw [List.length_map]; exact lg)]
  refine ⟨false, rfl, nofun, fun _ => ?_⟩
  refine et_test (e_op (e_cb (ea_cons (e_var rfl (ea_nil (rc_len ⟨_, _, rfl, .inr (.d _), e_var rfl (rr_ne ⟨_, _, .d _, .d _, shaped_int _, shaped_int _, ?_⟩)⟩))))))
  rw [eqv_nat, decide_eq_true (by rw [List.length_map]; exact lc)]
  refine ⟨false, rfl, nofun, fun _ => s_next ?_⟩
  have eall : (gs.map fun (x : Nat) => (x : Int)).map PyData.int ++ (cs.map fun (x : Nat) => PyData.int x) = (gs ++ cs).map fun (x : Nat) => PyData.int x := by
    rw [List.map_append, List.map_map]
    rfl
  refine s_seq (s_if (et_or (et_test (e_op (e_lcT (js := [5]) (by simp) (e_op (e_varw rfl (e_var rfl (rr_catI ⟨_, _, rfl, rfl, ?_, ?_, ?_, ?_⟩)))))))))
  · intro z
    have y := congrArg List.length z
    rw [List.length_map] at y
    have y : gs.length = 0 := y
    omega
  · intro z
    have y := congrArg List.length z
    rw [List.length_map] at y
    have y : cs.length = 0 := y
    omega
  · rw [List.length_map, List.length_map]; omega
  rw [eall]
  refine ⟨_, rfl, by rw [List.length_map, List.length_append]; omega, fun i acc ms' => acc = [] ∧ ms = ms', ⟨rfl, rfl⟩, ?_, ?_⟩
  · rintro i e acc _ hi ⟨rfl, rfl⟩
    obtain ⟨x, _, rfl⟩ := List.mem_map.mp (List.mem_of_getElem? hi)
    exact eg_name (et_not (et_B (e_call (ea_cons (e_var rfl (ea_nil ⟨_, rfl, _, rfl, true, rfl, nofun, fun _ => ⟨rfl, rfl⟩⟩))))))
  rintro acc _ ⟨rfl, rfl⟩
  refine e_lst (ea_nil ⟨[], rfl, Nat.zero_le _, rr_ne ⟨_, _, .d _, .d _, snil, snil, ?_⟩⟩)
  rw [enil]
  refine ⟨false, rfl, nofun, fun _ => ?_⟩
  have eg : (gs.map fun (x : Nat) => (x : Int)).map PyData.int = gs.map fun (x : Nat) => PyData.int x := by
    rw [List.map_map]
    rfl
  refine et_test (e_op (e_varw rfl (e_call (ea_cons (e_var rfl (ea_cons (e_var rfl (ea_nil ⟨_, _, rfl, m, js, gs, cs, fs, rfl, rfl, m1, m60, hjl, hj, gr, hF, ?_⟩))))))))
  refine rr_neI ⟨_, _, rfl, .d _, by rw [eg]; exact shp_natT gs, shp_natT gs, ?_⟩
  rw [eg, eqv_natT, decide_eq_true rfl]
  refine ⟨false, rfl, nofun, fun _ => s_next ?_⟩
  refine s_seq (s_if (et_test (e_op (e_lcR (js := [6]) (by simp) (ea_cons (e_var rfl (ea_nil ⟨_, rfl, by omega, fun i acc ms' => acc = [] ∧ ms = ms', ⟨rfl, rfl⟩, ?_, ?_⟩)))))))
  · rintro i acc _ hi ⟨rfl, rfl⟩
    have im : i < m := by omega
    have gi : gs[i]? = some (gs.getD i 0) := by simp [List.getD, show i < gs.length by omega]
    have at_ : atI ((gs.map fun (x : Nat) => (x : Int)).map PyData.int) ((i : Nat) : Int) = some (.int ((gs.getD i 0 : Nat) : Int)) := by
      rw [eg]
      exact atI_nat (nat_at (by omega))
    refine eg_name (et_and (et_test (e_op (e_tidx (e_varw rfl ⟨_, rfl, e_op (e_varw rfl (e_var rfl (rr_ixI ⟨_, _, _, rfl, rfl, at_, _, rfl, ?_, ?_⟩)))⟩)))))
    · exact List.mem_map.mpr ⟨_, List.mem_of_getElem? gi, rfl⟩
    refine e_var rfl (rr_eq ⟨_, _, .d _, .d _, shaped_int _, shaped_int _, ?_⟩)
    rw [eqv_nat]
    refine ⟨_, rfl, fun h => ?_, fun _ => ⟨nofun, fun _ => ⟨rfl, rfl⟩⟩⟩
    have hx : (gs.map fun (x : Nat) => (x : Int)).idxOf ((gs.getD i 0 : Nat) : Int) = i := of_decide_eq_true h
    obtain ⟨f, f1, f2⟩ := hF.le i im
    obtain ⟨f3, f4⟩ := hF.own _ f f1
    have fi : f = i := by
      apply Classical.byContradiction
      intro z
      have lt : f < (gs.map fun (x : Nat) => (x : Int)).idxOf ((gs.getD i 0 : Nat) : Int) := by omega
      exact idx_ne lt (by rw [List.getElem?_map, show gs[f]? = some (gs.getD f 0) by simp [List.getD, show f < gs.length by omega], f4]; rfl)
    subst fi
    have c0 := h0 f (List.mem_of_getElem? f1)
    refine et_test (e_op (e_op (e_var rfl (e_var rfl (rr_ix ⟨_, _, _, .inr (.d _), rfl, atI_nat (nat_at (by omega)), e_int (rr_ne ⟨_, _, .d _, .d _, shaped_int _, shaped_int _, ?_⟩)⟩)))))
    rw [c0]
    exact ⟨false, rfl, nofun, fun _ => ⟨rfl, rfl⟩⟩
  rintro acc _ ⟨rfl, rfl⟩
  refine e_lst (ea_nil ⟨[], rfl, Nat.zero_le _, rr_ne ⟨_, _, .d _, .d _, snil, snil, ?_⟩⟩)
  rw [enil]
  refine ⟨false, rfl, nofun, fun _ => s_next ?_⟩
  refine s_ret (e_and (e_op (e_lcT (js := [7]) (by simp) (e_var rfl ⟨_, rfl, by rw [List.length_map]; omega, fun i acc ms' => acc = [] ∧ ms = ms', ⟨rfl, rfl⟩, ?_, ?_⟩))))
  · rintro i e acc _ hi ⟨rfl, rfl⟩
    obtain ⟨x, hx, rfl⟩ := List.mem_map.mp (List.mem_of_getElem? hi)
    have xb := gr.bit x hx
    refine eg_name (et_or (et_test (e_op (e_var rfl (e_int (rr_B0 ⟨_, _, rfl, rfl, false, ?_, nofun, fun _ => ?_⟩))))))
    · exact congrArg SD.d (congrArg PyData.bool (decide_eq_false (by omega)))
    refine et_test (e_op (e_var rfl (e_int (rr_B0 ⟨_, _, rfl, rfl, false, ?_, nofun, fun _ => ⟨rfl, rfl⟩⟩))))
    exact congrArg SD.d (congrArg PyData.bool (decide_eq_false (by omega)))
  rintro acc _ ⟨rfl, rfl⟩
  refine e_lst (ea_nil ⟨[], rfl, Nat.zero_le _, rr_eq ⟨_, _, .d _, .d _, snil, snil, ?_⟩⟩)
  rw [enil]
  refine ⟨true, rfl, fun _ => ?_, nofun⟩
  refine e_call (ea_cons (e_var rfl (ea_cons (e_var rfl (ea_nil ⟨_, _, rfl, m, js, cs, rfl, rfl, hjl, hj, lc, gr.bit, ?_⟩)))))
  rw [keeps_own gr]
  exact r

theorem showAll_of {ds : List PyData} (h : ∀ d ∈ ds, d.showable = true) : PyData.showableAll ds = true := by
  induction ds with
  | nil => rfl
  | cons d r ih => simp [PyData.showableAll, h d (by simp), ih fun x hx => h x (by simp [hx])]
theorem noTexts_of {ds : List PyData} (h : ∀ d ∈ ds, noText d = true) : noTexts ds = true := by
  induction ds with
  | nil => rfl
  | cons d r ih =>
    have e : noTexts (d :: r) = (noText d && noTexts r) := rfl
    rw [e, h d (by simp), ih fun x hx => h x (by simp [hx])]
    rfl
theorem nodes_le {c : Nat} {ds : List PyData} (h : ∀ d ∈ ds, nodes d ≤ c) : nodesAll ds ≤ c * ds.length := by
  induction ds with
  | nil => exact Nat.zero_le _
  | cons d r ih =>
    have e : nodesAll (d :: r) = nodes d + nodesAll r := rfl
    have h1 := h d (by simp)
    have h2 := ih fun x hx => h x (by simp [hx])
    rw [e, List.length_cons, Nat.mul_succ]
    omega
theorem int_show {i : Int} (h : i.natAbs < 2 ^ 1920) : (PyData.int i).showable = true := by
  have : i.natAbs.log2 < 1920 := by
    by_cases z : i.natAbs = 0
    · rw [z]; decide
    · exact (Nat.log2_lt z).mpr h
  simpa [PyData.showable] using this
/-- what can be shown, and is short -/
structure Sho (x : PyData) : Prop where
  shp : Shp 60 x
  ok : x.showable = true
  len : x.shown.length ≤ sizeLine
theorem sho_of {x : PyData} (h : Shp 60 x) (s : x.showable = true) (n : noText x = true) (k : nodes x ≤ 8000) : Sho x := ⟨h, s, by
  have := shown_le x s n
  have e : sizeLine = 16777216 := rfl
  omega⟩
theorem nat_show {k : Nat} (h : k < 2 ^ 64) : (PyData.int (k : Int)).showable = true := int_show (by
  show ((k : Int)).natAbs < _
  have : ((k : Int)).natAbs = k := by omega
  rw [this]
  exact Nat.lt_of_lt_of_le h (Nat.pow_le_pow_right (n := 2) (by decide) (show 64 ≤ 1920 by decide)))

theorem rows_tup (js : List Jn) : RowsJ (.tuple (js.map encJ)) (js.map encJ) js := ⟨.inr rfl, by simp, fun i h j hi hj => by
  rw [List.getElem?_map, hj] at hi
  cases hi
  exact .inr rfl⟩
theorem rows_lst (js : List Jn) : RowsJ (.list (js.map encJ)) (js.map encJ) js := ⟨.inl rfl, by simp, fun i h j hi hj => by
  rw [List.getElem?_map, hj] at hi
  cases hi
  exact .inr rfl⟩
abbrev encJl (j : Jn) : PyData := .list (triJ j)
theorem rows_ll (js : List Jn) : RowsJ (.list (js.map encJl)) (js.map encJl) js := ⟨.inl rfl, by simp, fun i h j hi hj => by
  rw [List.getElem?_map, hj] at hi
  cases hi
  exact .inl rfl⟩

def Φ_law : Ph := ph1 fun a ms R => ∃ ns : List Int, a = .s ns ∧ ns.length ≤ 63 ∧ ms = [] ∧ R (.d (.bool true)) ms
theorem len_law : ∀ as ms R, Φ_law as ms R → as.length = 1 := ph1_len
theorem law_at {K : PySem.W.Frag} {H : Hp} {a : Addr} {ns : List Int} (hl : ns.length ≤ 63) (hO : Only H) (hS : SqL K H a (ns.map V.int)) : SpD K Φ_law [.ref a] H (fun v _ => v = .bl true) fun _ _ _ => False :=
  ⟨[], [], [], [.s ns], fun s _ => s = .d (.bool true), at_nil, ⟨.ref a, [], rfl, at_door hO hS, rfl⟩, ⟨_, rfl, ns, rfl, hl, rfl, rfl⟩, fun s v H' ms' w o e => by
    subst e
    obtain ⟨_, h⟩ := o
    cases h
    rfl⟩
theorem sho_wish {j : Jn} {m : Nat} (hm : m ≤ 60) (h : jOk m j) : ∀ d ∈ ([.int j.1, .int j.2.1, .int j.2.2] : List PyData), d.showable = true ∧ noText d = true ∧ nodes d ≤ 1 ∧ Shp 0 d := fun d hd => by
  obtain ⟨h1, h2, _, h4⟩ := h
  simp only [List.mem_cons, List.not_mem_nil, or_false] at hd
  rcases hd with rfl | rfl | rfl
  · exact ⟨nat_show (by omega), rfl, Nat.le_refl _, Shp.int _⟩
  · exact ⟨nat_show (by omega), rfl, Nat.le_refl _, Shp.int _⟩
  · exact ⟨nat_show (by omega), rfl, Nat.le_refl _, Shp.int _⟩
/-- wishes as they are handed in -/
theorem sho_things {m : Nat} {js : List Jn} (hm : m ≤ 60) (hj : ∀ j ∈ js, jOk m j) (hl : js.length ≤ 120) {x : PyData} (hx : x = .list (js.map encJ) ∨ x = .tuple (js.map encJ) ∨ x = .list (js.map encJl)) : Sho x := by
  have one : ∀ {F : Jn → PyData}, (∀ j, F j = .tuple (triJ j) ∨ F j = .list (triJ j)) → (∀ d ∈ js.map F, d.showable = true ∧ noText d = true ∧ nodes d ≤ 5 ∧ Shp 1 d) := fun {F} hF d hd => by
    obtain ⟨j, hm', rfl⟩ := List.mem_map.mp hd
    have w := sho_wish hm (hj j hm')
    have s : PyData.showableAll (triJ j) = true := showAll_of fun d hd => (w d hd).1
    have n : noTexts (triJ j) = true := noTexts_of fun d hd => (w d hd).2.1
    have k : nodesAll (triJ j) ≤ 1 * (triJ j).length := nodes_le fun d hd => (w d hd).2.2.1
    have k : nodesAll (triJ j) ≤ 3 := k
    rcases hF j with e | e <;> rw [e]
    · exact ⟨by simpa [PyData.showable] using s, n, by show 2 + nodesAll _ ≤ 5; omega, Shp.tup fun d hd => (w d hd).2.2.2⟩
    · exact ⟨by simpa [PyData.showable] using s, n, by show 2 + nodesAll _ ≤ 5; omega, Shp.lst fun d hd => (w d hd).2.2.2⟩
  have all : ∀ {F : Jn → PyData}, (∀ j, F j = .tuple (triJ j) ∨ F j = .list (triJ j)) → Sho (.list (js.map F)) ∧ Sho (.tuple (js.map F)) := fun {F} hF => by
    have o := one hF
    have k : nodesAll (js.map F) ≤ 5 * (js.map F).length := nodes_le fun d hd => (o d hd).2.2.1
    rw [List.length_map] at k
    have s : PyData.showableAll (js.map F) = true := showAll_of fun d hd => (o d hd).1
    have n : noTexts (js.map F) = true := noTexts_of fun d hd => (o d hd).2.1
    exact ⟨sho_of ((Shp.lst fun d hd => (o d hd).2.2.2).mono (by decide)) (by simpa [PyData.showable] using s) n (by show 2 + nodesAll _ ≤ 8000; omega), sho_of ((Shp.tup fun d hd => (o d hd).2.2.2).mono (by decide)) (by simpa [PyData.showable] using s) n (by show 2 + nodesAll _ ≤ 8000; omega)⟩
  rcases hx with rfl | rfl | rfl
  · exact (all (F := encJ) fun j => .inl rfl).1
  · exact (all (F := encJ) fun j => .inl rfl).2
  · exact (all (F := encJl) fun j => .inr rfl).1
theorem rd_law {K : PySem.W.Frag} : ∀ as ms R, Φ_law as ms R → S K (t_law K Φ__law_stream Φ__law_next Φ__law_wishes Φ__law_truth Φ_keeps Φ__law_right Φ_grouped Φ__law_keeps) (as ++ List.replicate (13 - as.length) .u) ms (fin R) := by
  rintro as ms R ⟨a, rfl, ns, rfl, hns, rfl, r⟩
  unfold t_law
  refine s_seq (s_forL (js := [1]) (e_slL (e_vars rfl (eo_none (eo_some (e_int ⟨_, rfl, _, .s ns, ?_⟩))))))
  refine ⟨_, .d _, fun k ds' ms' => ∃ o1 o2 o3 o4 o5 o6 o7 o8 o9 oa ob oc : SD, ds' = [.s ns, o1, o2, o3, o4, o5, o6, o7, o8, o9, oa, ob, oc] ∧ ms' = [], ⟨.u, .u, .u, .u, .u, .u, .u, .u, .u, .u, .u, .u, rfl, rfl⟩, ?_, ?_⟩
  · rintro k e ds' ms' hk ⟨o1, o2, o3, o4, o5, o6, o7, o8, o9, oa, ob, oc, rfl, rfl⟩
    obtain ⟨v, rfl⟩ : ∃ v, e = .int v := by
      have h1 := List.mem_of_getElem? hk
      have h2 := List.mem_of_mem_drop (List.mem_of_mem_take h1)
      obtain ⟨v, _, rfl⟩ := List.mem_map.mp h2
      exact ⟨v, rfl⟩
    refine eg_name ?_
    refine s_new (e_call (ea_cons (e_var rfl (ea_cons (e_int (ea_nil ⟨_, _, rfl, v, 250, rfl, rfl, by decide, fun xs hx => ⟨_, rfl, ?_⟩⟩))))))
    refine s_seq (s_asg (e_op (e_int (e_op (e_nextI rfl rfl hx fun z1 xs1 hz1 hx1 => e_op (e_lst (ea_cons (e_int (ea_cons (e_int (ea_nil ⟨[_, _], rfl, Nat.le_of_ble_eq_true rfl, ?_⟩)))))))))))
    refine e_op (e_nextI rfl rfl hx1 fun z2 xs2 hz2 hx2 => e_int (rr_I ⟨_, _, rfl, rfl, by decide, ?_⟩))
    obtain ⟨c2, hc2, ec2⟩ := fm_ex z2 (m := 2) (by decide)
    rw [ec2]
    obtain ⟨mo, hmo, emo⟩ : ∃ mo : Nat, (1 ≤ mo ∧ mo ≤ 60) ∧ atI [PyData.int 7, .int 60] (c2 : Int) = some (.int (mo : Int)) := by
      have : c2 = 0 ∨ c2 = 1 := by omega
      rcases this with rfl | rfl
      · exact ⟨7, by decide, rfl⟩
      · exact ⟨60, by decide, rfl⟩
    refine rr_ix ⟨_, _, _, .inl (.d _), rfl, emo, rr_I ⟨_, _, rfl, rfl, by omega, rr_I0 ⟨_, _, rfl, rfl, ?_⟩⟩⟩
    obtain ⟨c1, hc1, ec1⟩ := fm_ex z1 (m := (mo : Int)) (by omega)
    rw [ec1]
    have em : (1 : Int) + (c1 : Int) = ((1 + c1 : Nat) : Int) := by omega
    rw [em]
    generalize hm : 1 + c1 = m
    have m1 : 1 ≤ m := by omega
    have m60 : m ≤ 60 := by omega
    refine s_seq (s_asg (e_op (e_lst (ea_cons (e_int (ea_nil ⟨[_], rfl, Nat.le_of_ble_eq_true rfl, ?_⟩))))))
    refine e_lcR (js := [11]) (by simp) (ea_cons (e_op (e_var rfl (e_int (rr_I0 ⟨_, _, rfl, rfl, ea_nil ⟨_, rfl, by omega, fun i acc ms' => ∃ (ys : List Nat) (xs' : List Int), ys.length = i ∧ (∀ y ∈ ys, y < 2) ∧ (∀ x ∈ xs', 0 ≤ x) ∧ acc = (ys.map fun (x : Nat) => PyData.int x) ∧ ms' = [.l (xs'.map .int)], ⟨[], xs2, rfl, nofun, hx2, rfl, rfl⟩, ?_, ?_⟩⟩)))))
    · rintro i acc ms' hi ⟨ys, xs3, hl, hy, hx3, rfl, rfl⟩
      refine eg_name (et_yes ⟨fun _ => e_op (e_nextI rfl rfl hx3 fun z3 xs4 hz3 hx4 => e_int (rr_I ⟨_, _, rfl, rfl, by decide, ?_⟩)), nofun⟩)
      obtain ⟨c3, hc3, ec3⟩ := fm_ex z3 (m := 2) (by decide)
      rw [ec3]
      refine ⟨_, rfl, ys ++ [c3], xs4, by simp [hl], fun y h => ?_, hx4, by simp, rfl⟩
      rcases List.mem_append.mp h with h | h
      · exact hy y h
      · rw [List.mem_singleton.mp h]; omega
    rintro acc ms' ⟨ys, xs3, hl, hy, hx3, rfl, rfl⟩
    refine rr_cat ⟨_, _, rfl, rfl, by rw [List.length_map]; show 1 + _ ≤ _; omega, ?_⟩
    have eb : ([.int 0] : List PyData) ++ (ys.map fun (x : Nat) => PyData.int x) = ((0 :: ys).map fun (x : Nat) => PyData.int x) := rfl
    rw [eb]
    generalize hbs : 0 :: ys = bs
    have bl : bs.length = m := by rw [← hbs, List.length_cons, hl]; omega
    have bb : ∀ x ∈ bs, x < 2 := fun x hx => by
      rw [← hbs] at hx
      rcases List.mem_cons.mp hx with rfl | hx
      · decide
      · exact hy x hx
    refine s_seq (s_asg (e_call (ea_cons (e_varm rfl (ea_cons (e_var rfl (ea_cons (e_var rfl (ea_nil ⟨_, _, _, rfl, 0, xs3, m, bs, rfl, rfl, rfl, hx3, rfl, m1, m60, bl, bb, fun js xs5 hj hk hjl hx5 => ?_⟩)))))))))
    refine s_seq (s_asg (e_cb (ea_cons (e_op (e_lst (ea_cons (e_int (ea_nil ⟨[_], rfl, Nat.le_of_ble_eq_true rfl, ?_⟩))))))))
    refine e_lcR2 (js := [11]) (by simp) (ea_cons (e_int (ea_cons (e_var rfl (ea_nil ⟨_, _, rfl, ⟨by decide, by decide, by omega, by omega, by omega⟩, fun i acc ms' => ∃ (us : List Nat) (xs' : List Int), us.length = i ∧ (∀ y ∈ us, y < 2) ∧ (∀ x ∈ xs', 0 ≤ x) ∧ acc = (us.map fun (x : Nat) => PyData.int x) ∧ ms' = [.l (xs'.map .int)], ⟨[], xs5, rfl, nofun, hx5, rfl, rfl⟩, ?_, ?_⟩)))))
    · rintro i acc ms' hi ⟨us, xs6, hl6, hu, hx6, rfl, rfl⟩
      have i1 : 1 + i < m := by omega
      have ei : (1 : Int) + (i : Int) = ((1 + i : Nat) : Int) := by omega
      refine eg_name (et_yes ⟨fun _ => ?_, nofun⟩)
      rw [ei]
      refine e_op (e_op (e_op (e_var rfl (e_var rfl (rr_ix ⟨_, _, _, .inl (.d _), rfl, atI_nat (nat_at (p := 1 + i) (by omega)), ?_⟩)))))
      refine e_op (e_op (e_nextI rfl rfl hx6 fun z7 xs7 hz7 hx7 => e_int (rr_I ⟨_, _, rfl, rfl, by decide, e_int (rr_I ⟨_, _, rfl, rfl, ⟨by decide, Bd.mono (Bd.of (n := 64) (by decide)) (by decide)⟩, rr_I0 ⟨_, _, rfl, rfl, e_int (rr_I ⟨_, _, rfl, rfl, by decide, ?_⟩)⟩⟩)⟩)))
      obtain ⟨c7, hc7, ec7⟩ := fm_ex (((bs.getD (1 + i) 0 : Nat) : Int) + (z7.fmod 5).fdiv 4) (m := 2) (by decide)
      rw [ec7]
      refine ⟨_, rfl, us ++ [c7], xs7, by simp [hl6], fun y h => ?_, hx7, by simp, rfl⟩
      rcases List.mem_append.mp h with h | h
      · exact hu y h
      · rw [List.mem_singleton.mp h]; omega
    rintro acc ms' ⟨us, xs6, hl6, hu, hx6, rfl, rfl⟩
    refine rr_cat ⟨_, _, rfl, rfl, by rw [List.length_map]; show 1 + _ ≤ _; omega, ?_⟩
    have eu : ([.int 0] : List PyData) ++ (us.map fun (x : Nat) => PyData.int x) = ((0 :: us).map fun (x : Nat) => PyData.int x) := rfl
    rw [eu]
    generalize hss : 0 :: us = ss
    have sl : ss.length = m := by rw [← hss, List.length_cons, hl6]; omega
    have sb : ∀ x ∈ ss, x < 2 := fun x hx => by
      rw [← hss] at hx
      rcases List.mem_cons.mp hx with rfl | hx
      · decide
      · exact hu x hx
    refine ea_nil (rc_tuple ⟨_, _, rfl, .inl (.d _), ?_⟩)
    refine s_seq (s_asg (e_tup (ea_cons (e_var rfl (ea_cons (e_tup (ea_nil ⟨[], rfl, Nat.zero_le _, ea_nil ⟨[_, _], rfl, Nat.le_of_ble_eq_true rfl, ?_⟩⟩)))))))
    refine s_seq (s_asg (e_var rfl ?_))
    refine s_seq (s_asg (e_op (e_nextI rfl rfl hx6 fun z8 xs8 hz8 hx8 => e_int (rr_I ⟨_, _, rfl, rfl, by decide, ?_⟩))))
    refine s_assoc (s_mid (fun ds' ms' => ∃ (x : PyData) (hs : List PyData) (oa ob oc : SD), (x = .list (js.map encJ) ∨ x = .tuple (js.map encJ) ∨ x = .list (js.map encJl)) ∧ RowsJ x hs js ∧
      ds' = [.s ns, .d (.int v), .m 0, .d (.int m), .d (.list (bs.map fun (x : Nat) => .int x)), .d (.list (js.map encJ)), .d (.tuple (ss.map fun (x : Nat) => .int x)), .d (.tuple [.int m, .tuple []]), .d x, .d (.int (z8.fmod 3)), oa, ob, oc] ∧ ms' = [.l (xs8.map .int)]) ?_ ?_)
    · refine s_mid (fun ds' ms' => ∃ (x : PyData) (hs : List PyData) (oa ob oc : SD), (x = .list (js.map encJ) ∨ x = .tuple (js.map encJ) ∨ x = .list (js.map encJl)) ∧ RowsJ x hs js ∧
        ds' = [.s ns, .d (.int v), .m 0, .d (.int m), .d (.list (bs.map fun (x : Nat) => .int x)), .d (.list (js.map encJ)), .d (.tuple (ss.map fun (x : Nat) => .int x)), .d (.tuple [.int m, .tuple []]), .d x, .d (.int (z8.fmod 3)), oa, ob, oc] ∧ ms' = [.l (xs8.map .int)]) ?_ ?_
      · refine s_if (et_test (e_op (e_var rfl (e_int (rr_eq ⟨_, _, .d _, .d _, shaped_int _, shaped_int _, _, rfl, fun _ => ?_, fun _ => s_next ⟨_, _, _, _, _, .inl rfl, rows_lst js, rfl, rfl⟩⟩)))))
        exact s_asg (e_cb (ea_cons (e_var rfl (ea_nil (rc_tuple ⟨_, _, rfl, .inl (.d _), ⟨_, _, _, _, _, .inr (.inl rfl), rows_tup js, rfl, rfl⟩⟩)))))
      rintro ds' ms' ⟨x, hs, oa', ob', oc', hx', hr, rfl, rfl⟩
      refine s_if (et_test (e_op (e_var rfl (e_int (rr_eq ⟨_, _, .d _, .d _, shaped_int _, shaped_int _, _, rfl, fun _ => ?_, fun _ => s_next ⟨_, _, _, _, _, hx', hr, rfl, rfl⟩⟩)))))
      refine s_asg (e_lcL (js := [12]) (by simp) (e_var rfl ⟨_, .d _, by rw [List.length_map]; omega, fun i acc ms' => acc = (js.take i).map encJl ∧ ms' = [.l (xs8.map .int)], ⟨rfl, rfl⟩, ?_, ?_⟩))
      · rintro i e acc ms' hi ⟨rfl, rfl⟩
        rw [List.getElem?_map] at hi
        cases q : js[i]? with
        | none => rw [q] at hi; cases hi
        | some j =>
          rw [q] at hi
          cases hi
          refine eg_name (et_yes ⟨fun _ => e_cb (ea_cons (e_var rfl (ea_nil (rc_list ⟨_, _, rfl, .inr (.d _), _, rfl, ?_, rfl⟩)))), nofun⟩)
          rw [take_snoc q, List.map_append]
          rfl
      · rintro acc ms' ⟨rfl, rfl⟩
        rw [List.length_map, List.take_length]
        exact ⟨_, _, _, _, _, .inr (.inr rfl), rows_ll js, rfl, rfl⟩
    rintro ds' ms' ⟨x, hs, oa', ob', oc', hx', hr, rfl, rfl⟩
    have sx := sho_things m60 hj hjl hx'
    have ex : ∃ es, x = .list es ∨ x = .tuple es := by
      rcases hx' with rfl | rfl | rfl
      · exact ⟨_, .inl rfl⟩
      · exact ⟨_, .inr rfl⟩
      · exact ⟨_, .inl rfl⟩
    obtain ⟨es, hes⟩ := ex
    have jok : JOk m js := ⟨m60, by omega, hj⟩
    have kb : keepsB bs js = true := by
      unfold keepsB
      rw [List.all_eq_true]
      exact fun j hjm => decide_eq_true (hk j hjm)
    refine s_seq (s_asg (e_cb (ea_cons (e_var rfl (ea_nil (rc_repr ⟨es, x, rfl, hes, sx.shp, sx.ok, sx.len, ?_⟩))))))
    refine s_seq (s_if (et_or (et_not (et_B (e_call (ea_cons (e_var rfl (ea_cons (e_var rfl (ea_cons (e_call (ea_cons (e_var rfl (ea_cons (e_var rfl (ea_nil ⟨_, _, rfl, m, _, x, hs, js, rfl, rfl, hr, hjl, jok, fun ws hws => (ring_no jok hws (fun x => bs.getD x 0) hk).elim, fun fs rs G C s hall hfit => ?_⟩))))))))))))))))
    have gr := gr_of jok s hall hfit
    have gd : ∀ (F : Nat → Nat) i, i < m → ((List.range m).map F).getD i 0 = F i := fun F i hi => by simp [List.getD, hi]
    have inj : ∀ {g f : Nat}, fs[g]? = some f → f < m ∧ G f = g ∧ C f = 0 := fun {g f} h => by
      have row := s.fst g f h
      have lt : f < m := s.lt _ row
      obtain ⟨w, rw_⟩ := hall f lt
      have e := row_inj s rw_ row rfl
      exact ⟨lt, congrArg (fun r : Row => r.1) e, congrArg (fun r : Row => r.2.2.1) e⟩
    have hF : Fst m ((List.range m).map G) fs := ⟨s.rise, fun g f h => by
      obtain ⟨h1, h2, _⟩ := inj h
      exact ⟨h1, by rw [gd G f h1]; exact h2⟩, fun p hp => by
      obtain ⟨w, rw_⟩ := hall p hp
      obtain ⟨f, h1, _, h2⟩ := s.ok _ rw_
      exact ⟨f, by rw [gd G p hp]; exact h1, h2⟩⟩
    have h0 : ∀ f ∈ fs, ((List.range m).map C).getD f 0 = 0 := fun f hf => by
      obtain ⟨g, hg, e⟩ := List.getElem_of_mem hf
      obtain ⟨h1, _, h3⟩ := inj (show fs[g]? = some f by rw [List.getElem?_eq_getElem hg, e])
      rw [gd C f h1]
      exact h3
    have egs : ((List.range m).map fun p => (G p : Int)) = ((List.range m).map G).map fun (x : Nat) => (x : Int) := by
      rw [List.map_map]
      rfl
    refine ea_nil ⟨_, _, _, rfl, m, js, (List.range m).map G, (List.range m).map C, fs, rfl, rfl, by rw [egs]; rfl, m1, m60, hjl, hj, gr, hF, h0, true, rfl, nofun, fun _ => ?_⟩
    refine et_not (et_B (e_call (ea_cons (e_call (ea_cons (e_var rfl (ea_cons (e_var rfl (ea_cons (e_cb (ea_cons (e_var rfl (ea_nil (rc_tuple ⟨_, _, rfl, .inl (.d _), ?_⟩))))))))))))))
    refine ea_nil ⟨_, _, _, rfl, m, _, x, hs, js, bs, rfl, rfl, rfl, hr, hjl, hj, bl, bb, ?_⟩
    refine ea_cons (e_bl (ea_nil ⟨_, _, rfl, _, _, rfl, rfl, ?_⟩))
    rw [kb]
    refine ⟨true, rfl, nofun, fun _ => s_next ?_⟩
    refine s_if (et_or (et_not (et_B (e_call (ea_cons (e_call (ea_cons (e_var rfl (ea_cons (e_var rfl (ea_cons (e_var rfl (ea_nil ⟨_, _, _, rfl, m, _, x, hs, js, ss, rfl, rfl, rfl, hr, hjl, hj, sl, sb, ?_⟩)))))))))))))
    refine ea_cons (e_call (ea_cons (e_var rfl (ea_cons (e_var rfl (ea_nil ⟨_, _, rfl, m, js, ss, rfl, rfl, hjl, hj, sl, sb, ?_⟩))))))
    refine ea_nil ⟨_, _, rfl, _, _, rfl, rfl, ?_⟩
    rw [decide_eq_true rfl]
    refine ⟨true, rfl, nofun, fun _ => ?_⟩
    refine et_test (e_op (e_cb (ea_cons (e_var rfl (ea_nil (rc_repr ⟨es, x, rfl, hes, sx.shp, sx.ok, sx.len, e_var rfl (rr_neT ⟨_, _, rfl, rfl, ?_⟩)⟩))))))
    rw [decide_eq_true rfl]
    exact ⟨false, rfl, nofun, fun _ => s_next ⟨[], _, rfl, rfl, _, _, _, _, _, _, _, _, _, _, _, _, rfl, rfl⟩⟩
  · rintro ds' ms' ⟨o1, o2, o3, o4, o5, o6, o7, o8, o9, oa, ob, oc, rfl, rfl⟩
    exact s_ret (e_bl r)

theorem ok_is_whole {Pg : Program} {w : World} {K : PySem.W.Frag} {mg : Str → Option Value} {base : Heap} {f : Addr} {fd : FuncData} (F : Fun K "is_whole" "is_whole" s_is_whole f fd) (hm : mg "is_whole" = some (.ref f)) (B : ∀ x, x ∈ blt → mg x = none) (cs : Csts mg) : Kn Pg w K mg base "is_whole" 1 ["thing"] Φ_is_whole :=
  ⟨f, fd, ok_of F sc_is_whole len_is_whole (by decide) (fun cdv A outer s H E hr => ⟨_, dv_is_whole hr B cs, rd_is_whole⟩), hm, F.kp, F.binds fun _ _ _ _ _ _ us hl => match us, hl with | [_], _ => rfl⟩
theorem ok_is_row {Pg : Program} {w : World} {K : PySem.W.Frag} {mg : Str → Option Value} {base : Heap} {f : Addr} {fd : FuncData} (F : Fun K "is_row" "is_row" s_is_row f fd) (hm : mg "is_row" = some (.ref f)) (B : ∀ x, x ∈ blt → mg x = none) (cs : Csts mg) : Kn Pg w K mg base "is_row" 1 ["thing"] Φ_is_row :=
  ⟨f, fd, ok_of F sc_is_row len_is_row (by decide) (fun cdv A outer s H E hr => ⟨_, dv_is_row hr B cs, rd_is_row⟩), hm, F.kp, F.binds fun _ _ _ _ _ _ us hl => match us, hl with | [_], _ => rfl⟩
theorem ok_is_triple {Pg : Program} {w : World} {K : PySem.W.Frag} {mg : Str → Option Value} {base : Heap} {f : Addr} {fd : FuncData} (F : Fun K "is_triple" "is_triple" s_is_triple f fd) (hm : mg "is_triple" = some (.ref f)) (B : ∀ x, x ∈ blt → mg x = none) (cs : Csts mg) (g_is_row : Kn Pg w K mg base "is_row" 1 ["thing"] Φ_is_row) : Kn Pg w K mg base "is_triple" 2 ["thing"] Φ_is_triple :=
  ⟨f, fd, ok_of F sc_is_triple len_is_triple (by decide) (fun cdv A outer s H E hr => ⟨_, dv_is_triple hr B cs g_is_row, rd_is_triple⟩), hm, F.kp, F.binds fun _ _ _ _ _ _ us hl => match us, hl with | [_], _ => rfl⟩
theorem ok_is_number_of {Pg : Program} {w : World} {K : PySem.W.Frag} {mg : Str → Option Value} {base : Heap} {f : Addr} {fd : FuncData} (F : Fun K "is_number_of" "is_number_of" s_is_number_of f fd) (hm : mg "is_number_of" = some (.ref f)) (B : ∀ x, x ∈ blt → mg x = none) (cs : Csts mg) (g_is_whole : Kn Pg w K mg base "is_whole" 1 ["thing"] Φ_is_whole) : Kn Pg w K mg base "is_number_of" 2 ["many", "thing"] Φ_is_number_of :=
  ⟨f, fd, ok_of F sc_is_number_of len_is_number_of (by decide) (fun cdv A outer s H E hr => ⟨_, dv_is_number_of hr B cs g_is_whole, rd_is_number_of⟩), hm, F.kp, F.binds fun _ _ _ _ _ _ us hl => match us, hl with | [_, _], _ => rfl⟩
theorem ok_are_unlike_points {Pg : Program} {w : World} {K : PySem.W.Frag} {mg : Str → Option Value} {base : Heap} {f : Addr} {fd : FuncData} (F : Fun K "are_unlike_points" "are_unlike_points" s_are_unlike_points f fd) (hm : mg "are_unlike_points" = some (.ref f)) (B : ∀ x, x ∈ blt → mg x = none) (cs : Csts mg) (g_is_number_of : Kn Pg w K mg base "is_number_of" 2 ["many", "thing"] Φ_is_number_of) : Kn Pg w K mg base "are_unlike_points" 3 ["many", "one", "other"] Φ_are_unlike_points :=
  ⟨f, fd, ok_of F sc_are_unlike_points len_are_unlike_points (by decide) (fun cdv A outer s H E hr => ⟨_, dv_are_unlike_points hr B cs g_is_number_of, rd_are_unlike_points⟩), hm, F.kp, F.binds fun _ _ _ _ _ _ us hl => match us, hl with | [_, _, _], _ => rfl⟩
theorem ok_joins_at {Pg : Program} {w : World} {K : PySem.W.Frag} {mg : Str → Option Value} {base : Heap} {f : Addr} {fd : FuncData} (F : Fun K "joins_at" "joins_at" s_joins_at f fd) (hm : mg "joins_at" = some (.ref f)) (B : ∀ x, x ∈ blt → mg x = none) (cs : Csts mg) : Kn Pg w K mg base "joins_at" 1 ["many", "joins"] Φ_joins_at :=
  ⟨f, fd, ok_of F sc_joins_at len_joins_at (by decide) (fun cdv A outer s H E hr => ⟨_, dv_joins_at hr B cs, rd_joins_at⟩), hm, F.kp, F.binds fun _ _ _ _ _ _ us hl => match us, hl with | [_, _], _ => rfl⟩
theorem ok_group_from {Pg : Program} {w : World} {K : PySem.W.Frag} {mg : Str → Option Value} {base : Heap} {f : Addr} {fd : FuncData} (F : Fun K "group_from" "group_from" s_group_from f fd) (hm : mg "group_from" = some (.ref f)) (B : ∀ x, x ∈ blt → mg x = none) (cs : Csts mg) : Kn Pg w K mg base "group_from" 1 ["near", "first"] Φ_group_from :=
  ⟨f, fd, ok_of F sc_group_from len_group_from (by decide) (fun cdv A outer s H E hr => ⟨_, dv_group_from hr B cs, rd_group_from⟩), hm, F.kp, F.binds fun _ _ _ _ _ _ us hl => match us, hl with | [_, _], _ => rfl⟩
theorem ok_spread {Pg : Program} {w : World} {K : PySem.W.Frag} {mg : Str → Option Value} {base : Heap} {f : Addr} {fd : FuncData} (F : Fun K "spread" "spread" s_spread f fd) (hm : mg "spread" = some (.ref f)) (B : ∀ x, x ∈ blt → mg x = none) (cs : Csts mg) (g_joins_at : Kn Pg w K mg base "joins_at" 1 ["many", "joins"] Φ_joins_at) (g_group_from : Kn Pg w K mg base "group_from" 1 ["near", "first"] Φ_group_from) : Kn Pg w K mg base "spread" 2 ["many", "joins"] Φ_spread :=
  ⟨f, fd, ok_of F sc_spread len_spread (by decide) (fun cdv A outer s H E hr => ⟨_, dv_spread hr B cs g_joins_at g_group_from, rd_spread⟩), hm, F.kp, F.binds fun _ _ _ _ _ _ us hl => match us, hl with | [_, _], _ => rfl⟩
theorem ok_ring_closed {Pg : Program} {w : World} {K : PySem.W.Frag} {mg : Str → Option Value} {base : Heap} {f : Addr} {fd : FuncData} (F : Fun K "ring_closed" "ring_closed" s_ring_closed f fd) (hm : mg "ring_closed" = some (.ref f)) (B : ∀ x, x ∈ blt → mg x = none) (cs : Csts mg) : Kn Pg w K mg base "ring_closed" 1 ["way", "other_way", "number"] Φ_ring_closed :=
  ⟨f, fd, ok_of F sc_ring_closed len_ring_closed (by decide) (fun cdv A outer s H E hr => ⟨_, dv_ring_closed hr B cs, rd_ring_closed⟩), hm, F.kp, F.binds fun _ _ _ _ _ _ us hl => match us, hl with | [_, _, _], _ => rfl⟩
theorem ok_odd_rings {Pg : Program} {w : World} {K : PySem.W.Frag} {mg : Str → Option Value} {base : Heap} {f : Addr} {fd : FuncData} (F : Fun K "odd_rings" "odd_rings" s_odd_rings f fd) (hm : mg "odd_rings" = some (.ref f)) (B : ∀ x, x ∈ blt → mg x = none) (cs : Csts mg) (g_ring_closed : Kn Pg w K mg base "ring_closed" 1 ["way", "other_way", "number"] Φ_ring_closed) : Kn Pg w K mg base "odd_rings" 2 ["joins", "marks", "ways"] Φ_odd_rings :=
  ⟨f, fd, ok_of F sc_odd_rings len_odd_rings (by decide) (fun cdv A outer s H E hr => ⟨_, dv_odd_rings hr B cs g_ring_closed, rd_odd_rings⟩), hm, F.kp, F.binds fun _ _ _ _ _ _ us hl => match us, hl with | [_, _, _], _ => rfl⟩
theorem ok_parted {Pg : Program} {w : World} {K : PySem.W.Frag} {mg : Str → Option Value} {base : Heap} {f : Addr} {fd : FuncData} (F : Fun K "parted" "parted" s_parted f fd) (hm : mg "parted" = some (.ref f)) (B : ∀ x, x ∈ blt → mg x = none) (cs : Csts mg) (g_spread : Kn Pg w K mg base "spread" 2 ["many", "joins"] Φ_spread) (g_odd_rings : Kn Pg w K mg base "odd_rings" 2 ["joins", "marks", "ways"] Φ_odd_rings) : Kn Pg w K mg base "parted" 3 ["many", "joins"] Φ_parted :=
  ⟨f, fd, ok_of F sc_parted len_parted (by decide) (fun cdv A outer s H E hr => ⟨_, dv_parted hr B cs g_spread g_odd_rings, rd_parted⟩), hm, F.kp, F.binds fun _ _ _ _ _ _ us hl => match us, hl with | [_, _], _ => rfl⟩
theorem ok_is_wish {Pg : Program} {w : World} {K : PySem.W.Frag} {mg : Str → Option Value} {base : Heap} {f : Addr} {fd : FuncData} (F : Fun K "is_wish" "is_wish" s_is_wish f fd) (hm : mg "is_wish" = some (.ref f)) (B : ∀ x, x ∈ blt → mg x = none) (cs : Csts mg) (g_is_triple : Kn Pg w K mg base "is_triple" 2 ["thing"] Φ_is_triple) (g_is_number_of : Kn Pg w K mg base "is_number_of" 2 ["many", "thing"] Φ_is_number_of) (g_are_unlike_points : Kn Pg w K mg base "are_unlike_points" 3 ["many", "one", "other"] Φ_are_unlike_points) : Kn Pg w K mg base "is_wish" 4 ["web", "thing"] Φ_is_wish :=
  ⟨f, fd, ok_of F sc_is_wish len_is_wish (by decide) (fun cdv A outer s H E hr => ⟨_, dv_is_wish hr B cs g_is_triple g_is_number_of g_are_unlike_points, rd_is_wish⟩), hm, F.kp, F.binds fun _ _ _ _ _ _ us hl => match us, hl with | [_, _], _ => rfl⟩
theorem ok_made_wishes {Pg : Program} {w : World} {K : PySem.W.Frag} {mg : Str → Option Value} {base : Heap} {f : Addr} {fd : FuncData} (F : Fun K "made_wishes" "made_wishes" s_made_wishes f fd) (hm : mg "made_wishes" = some (.ref f)) (B : ∀ x, x ∈ blt → mg x = none) (cs : Csts mg) {C_CutError C_NoWishes : Addr} (cl : Cls K mg C_CutError C_NoWishes) (g_is_row : Kn Pg w K mg base "is_row" 1 ["thing"] Φ_is_row) (g_is_wish : Kn Pg w K mg base "is_wish" 4 ["web", "thing"] Φ_is_wish) : KnX Pg w K mg base "made_wishes" 5 ["web", "thing"] C_NoWishes Φ_made_wishes :=
  ⟨f, fd, okX_of F sc_made_wishes len_made_wishes (by decide) (t_made_wishes K C_CutError C_NoWishes Φ_is_row Φ_is_wish) (fun cdv A outer s H E hr => dv_made_wishes hr B cs cl g_is_row g_is_wish) rd_made_wishes, hm, F.kp, F.binds fun _ _ _ _ _ _ us hl => match us, hl with | [_, _], _ => rfl⟩
theorem ok_keeps {Pg : Program} {w : World} {K : PySem.W.Frag} {mg : Str → Option Value} {base : Heap} {f : Addr} {fd : FuncData} (F : Fun K "keeps" "keeps" s_keeps f fd) (hm : mg "keeps" = some (.ref f)) (B : ∀ x, x ∈ blt → mg x = none) (cs : Csts mg) {C_CutError C_NoWishes : Addr} (cl : Cls K mg C_CutError C_NoWishes) (g_made_wishes : KnX Pg w K mg base "made_wishes" 5 ["web", "thing"] C_NoWishes Φ_made_wishes) : Kn Pg w K mg base "keeps" 6 ["web", "wishes", "side"] Φ_keeps :=
  ⟨f, fd, ok_of F sc_keeps len_keeps (by decide) (fun cdv A outer s H E hr => ⟨_, dv_keeps hr B cs cl g_made_wishes, rd_keeps⟩), hm, F.kp, F.binds fun _ _ _ _ _ _ us hl => match us, hl with | [_, _, _], _ => rfl⟩
theorem ok_grouped {Pg : Program} {w : World} {K : PySem.W.Frag} {mg : Str → Option Value} {base : Heap} {f : Addr} {fd : FuncData} (F : Fun K "grouped" "grouped" s_grouped f fd) (hm : mg "grouped" = some (.ref f)) (B : ∀ x, x ∈ blt → mg x = none) (cs : Csts mg) {C_CutError C_NoWishes : Addr} (cl : Cls K mg C_CutError C_NoWishes) (g_parted : Kn Pg w K mg base "parted" 3 ["many", "joins"] Φ_parted) (g_made_wishes : KnX Pg w K mg base "made_wishes" 5 ["web", "thing"] C_NoWishes Φ_made_wishes) : Kn Pg w K mg base "grouped" 6 ["web", "wishes"] Φ_grouped :=
  ⟨f, fd, ok_of F sc_grouped len_grouped (by decide) (fun cdv A outer s H E hr => ⟨_, dv_grouped hr B cs cl g_parted g_made_wishes, rd_grouped⟩), hm, F.kp, F.binds fun _ _ _ _ _ _ us hl => match us, hl with | [_, _], _ => rfl⟩
theorem ok__law_int {Pg : Program} {w : World} {K : PySem.W.Frag} {mg : Str → Option Value} {base : Heap} {f : Addr} {fd : FuncData} (F : Fun K "_law_int" "_law_int" s__law_int f fd) (hm : mg "_law_int" = some (.ref f)) (B : ∀ x, x ∈ blt → mg x = none) (cs : Csts mg) : Kn Pg w K mg base "_law_int" 1 ["_law_found"] Φ__law_int :=
  ⟨f, fd, ok_of F sc__law_int len__law_int (by decide) (fun cdv A outer s H E hr => ⟨_, dv__law_int hr B cs, rd__law_int⟩), hm, F.kp, F.binds fun _ _ _ _ _ _ us hl => match us, hl with | [_], _ => rfl⟩
theorem ok__law_truth {Pg : Program} {w : World} {K : PySem.W.Frag} {mg : Str → Option Value} {base : Heap} {f : Addr} {fd : FuncData} (F : Fun K "_law_truth" "_law_truth" s__law_truth f fd) (hm : mg "_law_truth" = some (.ref f)) (B : ∀ x, x ∈ blt → mg x = none) (cs : Csts mg) : Kn Pg w K mg base "_law_truth" 1 ["_law_found", "_law_due"] Φ__law_truth :=
  ⟨f, fd, ok_of F sc__law_truth len__law_truth (by decide) (fun cdv A outer s H E hr => ⟨_, dv__law_truth hr B cs, rd__law_truth⟩), hm, F.kp, F.binds fun _ _ _ _ _ _ us hl => match us, hl with | [_, _], _ => rfl⟩
theorem ok__law_stream {Pg : Program} {w : World} {K : PySem.W.Frag} {mg : Str → Option Value} {base : Heap} {f : Addr} {fd : FuncData} (F : Fun K "_law_stream" "_law_stream" s__law_stream f fd) (hm : mg "_law_stream" = some (.ref f)) (B : ∀ x, x ∈ blt → mg x = none) (cs : Csts mg) : Kn Pg w K mg base "_law_stream" 1 ["_law_cell", "_law_many"] Φ__law_stream :=
  ⟨f, fd, ok_of F sc__law_stream len__law_stream (by decide) (fun cdv A outer s H E hr => ⟨_, dv__law_stream hr B cs, rd__law_stream⟩), hm, F.kp, F.binds fun _ _ _ _ _ _ us hl => match us, hl with | [_, _], _ => rfl⟩
theorem ok__law_next {Pg : Program} {w : World} {K : PySem.W.Frag} {mg : Str → Option Value} {base : Heap} {f : Addr} {fd : FuncData} (F : Fun K "_law_next" "_law_next" s__law_next f fd) (hm : mg "_law_next" = some (.ref f)) (B : ∀ x, x ∈ blt → mg x = none) (cs : Csts mg) : Kn Pg w K mg base "_law_next" 1 ["_law_xs"] Φ__law_next :=
  ⟨f, fd, ok_of F sc__law_next len__law_next (by decide) (fun cdv A outer s H E hr => ⟨_, dv__law_next hr B cs, rd__law_next⟩), hm, F.kp, F.binds fun _ _ _ _ _ _ us hl => match us, hl with | [_], _ => rfl⟩
theorem ok__law_wishes {Pg : Program} {w : World} {K : PySem.W.Frag} {mg : Str → Option Value} {base : Heap} {f : Addr} {fd : FuncData} (F : Fun K "_law_wishes" "_law_wishes" s__law_wishes f fd) (hm : mg "_law_wishes" = some (.ref f)) (B : ∀ x, x ∈ blt → mg x = none) (cs : Csts mg) (g__law_next : Kn Pg w K mg base "_law_next" 1 ["_law_xs"] Φ__law_next) : Kn Pg w K mg base "_law_wishes" 2 ["_law_xs", "_law_many", "_law_side"] Φ__law_wishes :=
  ⟨f, fd, ok_of F sc__law_wishes len__law_wishes (by decide) (fun cdv A outer s H E hr => ⟨_, dv__law_wishes hr B cs g__law_next, rd__law_wishes⟩), hm, F.kp, F.binds fun _ _ _ _ _ _ us hl => match us, hl with | [_, _, _], _ => rfl⟩
theorem ok__law_groups {Pg : Program} {w : World} {K : PySem.W.Frag} {mg : Str → Option Value} {base : Heap} {f : Addr} {fd : FuncData} (F : Fun K "_law_groups" "_law_groups" s__law_groups f fd) (hm : mg "_law_groups" = some (.ref f)) (B : ∀ x, x ∈ blt → mg x = none) (cs : Csts mg) : Kn Pg w K mg base "_law_groups" 1 ["_law_many", "_law_wishes_here"] Φ__law_groups :=
  ⟨f, fd, ok_of F sc__law_groups len__law_groups (by decide) (fun cdv A outer s H E hr => ⟨_, dv__law_groups hr B cs, rd__law_groups⟩), hm, F.kp, F.binds fun _ _ _ _ _ _ us hl => match us, hl with | [_, _], _ => rfl⟩
theorem ok__law_keeps {Pg : Program} {w : World} {K : PySem.W.Frag} {mg : Str → Option Value} {base : Heap} {f : Addr} {fd : FuncData} (F : Fun K "_law_keeps" "_law_keeps" s__law_keeps f fd) (hm : mg "_law_keeps" = some (.ref f)) (B : ∀ x, x ∈ blt → mg x = none) (cs : Csts mg) : Kn Pg w K mg base "_law_keeps" 1 ["_law_wishes_here", "_law_side"] Φ__law_keeps :=
  ⟨f, fd, ok_of F sc__law_keeps len__law_keeps (by decide) (fun cdv A outer s H E hr => ⟨_, dv__law_keeps hr B cs, rd__law_keeps⟩), hm, F.kp, F.binds fun _ _ _ _ _ _ us hl => match us, hl with | [_, _], _ => rfl⟩
theorem ok__law_right {Pg : Program} {w : World} {K : PySem.W.Frag} {mg : Str → Option Value} {base : Heap} {f : Addr} {fd : FuncData} (F : Fun K "_law_right" "_law_right" s__law_right f fd) (hm : mg "_law_right" = some (.ref f)) (B : ∀ x, x ∈ blt → mg x = none) (cs : Csts mg) (g__law_groups : Kn Pg w K mg base "_law_groups" 1 ["_law_many", "_law_wishes_here"] Φ__law_groups) (g__law_int : Kn Pg w K mg base "_law_int" 1 ["_law_found"] Φ__law_int) (g__law_keeps : Kn Pg w K mg base "_law_keeps" 1 ["_law_wishes_here", "_law_side"] Φ__law_keeps) : Kn Pg w K mg base "_law_right" 2 ["_law_many", "_law_wishes_here", "_law_found"] Φ__law_right :=
  ⟨f, fd, ok_of F sc__law_right len__law_right (by decide) (fun cdv A outer s H E hr => ⟨_, dv__law_right hr B cs g__law_groups g__law_int g__law_keeps, rd__law_right⟩), hm, F.kp, F.binds fun _ _ _ _ _ _ us hl => match us, hl with | [_, _, _], _ => rfl⟩
theorem all_mk {l : PySem.W.OpenLaw} {w : World} {K : PySem.W.Frag} {h : Heap} {mg : Str → Option Value} {fa f1 f2 f3 f4 f5 f6 f7 f8 f9 f10 f11 f12 f13 f14 f15 f16 f17 f18 f19 f20 f21 f22 f23 f24 C_CutError C_NoWishes : Addr} (X : K.In h) (G : h.Ns mainGlobals mg) (hfa : mg "law" = some (.ref fa))
    {od1 an1 od2 an2 od3 an3 od4 an4 od5 an5 od6 an6 od7 an7 od8 an8 od9 an9 od10 an10 od11 an11 od12 an12 od13 an13 od14 an14 od15 an15 od16 an16 od17 an17 od18 an18 od19 an19 od20 an20 od21 an21 od22 an22 od23 an23 od24 an24 : Option Addr} {sl1 sl2 sl3 sl4 sl5 sl6 sl7 sl8 sl9 sl10 sl11 sl12 sl13 sl14 sl15 sl16 sl17 sl18 sl19 sl20 sl21 sl22 sl23 sl24 : Array (Option Value)} {oc1 kV1 dc1 pm1 cd1 ct1 oc2 kV2 dc2 pm2 cd2 ct2 oc3 kV3 dc3 pm3 cd3 ct3 oc4 kV4 dc4 pm4 cd4 ct4 oc5 kV5 dc5 pm5 cd5 ct5 oc6 kV6 dc6 pm6 cd6 ct6 oc7 kV7 dc7 pm7 cd7 ct7 oc8 kV8 dc8 pm8 cd8 ct8 oc9 kV9 dc9 pm9 cd9 ct9 oc10 kV10 dc10 pm10 cd10 ct10 oc11 kV11 dc11 pm11 cd11 ct11 oc12 kV12 dc12 pm12 cd12 ct12 oc13 kV13 dc13 pm13 cd13 ct13 oc14 kV14 dc14 pm14 cd14 ct14 oc15 kV15 dc15 pm15 cd15 ct15 oc16 kV16 dc16 pm16 cd16 ct16 oc17 kV17 dc17 pm17 cd17 ct17 oc18 kV18 dc18 pm18 cd18 ct18 oc19 kV19 dc19 pm19 cd19 ct19 oc20 kV20 dc20 pm20 cd20 ct20 oc21 kV21 dc21 pm21 cd21 ct21 oc22 kV22 dc22 pm22 cd22 ct22 oc23 kV23 dc23 pm23 cd23 ct23 oc24 kV24 dc24 pm24 cd24 ct24 : Value}
    (a1 : PySem.W.nsIn K mainGlobals "is_whole" = some (some (.ref f1))) (l1 : K.lookup f1 = some ⟨oc1, od1, .func (PySem.W.fnOf "is_whole" "is_whole" (defArgs s_is_whole) (defBody s_is_whole) (defScope s_is_whole) .none kV1 dc1 pm1 an1 cd1 ct1), sl1⟩) (c1 : PySem.W.codeIn K cd1 "is_whole" = true) (k1 : PySem.W.keepIn K (.ref f1) = true)
    (a2 : PySem.W.nsIn K mainGlobals "is_row" = some (some (.ref f2))) (l2 : K.lookup f2 = some ⟨oc2, od2, .func (PySem.W.fnOf "is_row" "is_row" (defArgs s_is_row) (defBody s_is_row) (defScope s_is_row) .none kV2 dc2 pm2 an2 cd2 ct2), sl2⟩) (c2 : PySem.W.codeIn K cd2 "is_row" = true) (k2 : PySem.W.keepIn K (.ref f2) = true)
    (a3 : PySem.W.nsIn K mainGlobals "is_triple" = some (some (.ref f3))) (l3 : K.lookup f3 = some ⟨oc3, od3, .func (PySem.W.fnOf "is_triple" "is_triple" (defArgs s_is_triple) (defBody s_is_triple) (defScope s_is_triple) .none kV3 dc3 pm3 an3 cd3 ct3), sl3⟩) (c3 : PySem.W.codeIn K cd3 "is_triple" = true) (k3 : PySem.W.keepIn K (.ref f3) = true)
    (a4 : PySem.W.nsIn K mainGlobals "is_number_of" = some (some (.ref f4))) (l4 : K.lookup f4 = some ⟨oc4, od4, .func (PySem.W.fnOf "is_number_of" "is_number_of" (defArgs s_is_number_of) (defBody s_is_number_of) (defScope s_is_number_of) .none kV4 dc4 pm4 an4 cd4 ct4), sl4⟩) (c4 : PySem.W.codeIn K cd4 "is_number_of" = true) (k4 : PySem.W.keepIn K (.ref f4) = true)
    (a5 : PySem.W.nsIn K mainGlobals "are_unlike_points" = some (some (.ref f5))) (l5 : K.lookup f5 = some ⟨oc5, od5, .func (PySem.W.fnOf "are_unlike_points" "are_unlike_points" (defArgs s_are_unlike_points) (defBody s_are_unlike_points) (defScope s_are_unlike_points) .none kV5 dc5 pm5 an5 cd5 ct5), sl5⟩) (c5 : PySem.W.codeIn K cd5 "are_unlike_points" = true) (k5 : PySem.W.keepIn K (.ref f5) = true)
    (a6 : PySem.W.nsIn K mainGlobals "joins_at" = some (some (.ref f6))) (l6 : K.lookup f6 = some ⟨oc6, od6, .func (PySem.W.fnOf "joins_at" "joins_at" (defArgs s_joins_at) (defBody s_joins_at) (defScope s_joins_at) .none kV6 dc6 pm6 an6 cd6 ct6), sl6⟩) (c6 : PySem.W.codeIn K cd6 "joins_at" = true) (k6 : PySem.W.keepIn K (.ref f6) = true)
    (a7 : PySem.W.nsIn K mainGlobals "group_from" = some (some (.ref f7))) (l7 : K.lookup f7 = some ⟨oc7, od7, .func (PySem.W.fnOf "group_from" "group_from" (defArgs s_group_from) (defBody s_group_from) (defScope s_group_from) .none kV7 dc7 pm7 an7 cd7 ct7), sl7⟩) (c7 : PySem.W.codeIn K cd7 "group_from" = true) (k7 : PySem.W.keepIn K (.ref f7) = true)
    (a8 : PySem.W.nsIn K mainGlobals "spread" = some (some (.ref f8))) (l8 : K.lookup f8 = some ⟨oc8, od8, .func (PySem.W.fnOf "spread" "spread" (defArgs s_spread) (defBody s_spread) (defScope s_spread) .none kV8 dc8 pm8 an8 cd8 ct8), sl8⟩) (c8 : PySem.W.codeIn K cd8 "spread" = true) (k8 : PySem.W.keepIn K (.ref f8) = true)
    (a9 : PySem.W.nsIn K mainGlobals "ring_closed" = some (some (.ref f9))) (l9 : K.lookup f9 = some ⟨oc9, od9, .func (PySem.W.fnOf "ring_closed" "ring_closed" (defArgs s_ring_closed) (defBody s_ring_closed) (defScope s_ring_closed) .none kV9 dc9 pm9 an9 cd9 ct9), sl9⟩) (c9 : PySem.W.codeIn K cd9 "ring_closed" = true) (k9 : PySem.W.keepIn K (.ref f9) = true)
    (a10 : PySem.W.nsIn K mainGlobals "odd_rings" = some (some (.ref f10))) (l10 : K.lookup f10 = some ⟨oc10, od10, .func (PySem.W.fnOf "odd_rings" "odd_rings" (defArgs s_odd_rings) (defBody s_odd_rings) (defScope s_odd_rings) .none kV10 dc10 pm10 an10 cd10 ct10), sl10⟩) (c10 : PySem.W.codeIn K cd10 "odd_rings" = true) (k10 : PySem.W.keepIn K (.ref f10) = true)
    (a11 : PySem.W.nsIn K mainGlobals "parted" = some (some (.ref f11))) (l11 : K.lookup f11 = some ⟨oc11, od11, .func (PySem.W.fnOf "parted" "parted" (defArgs s_parted) (defBody s_parted) (defScope s_parted) .none kV11 dc11 pm11 an11 cd11 ct11), sl11⟩) (c11 : PySem.W.codeIn K cd11 "parted" = true) (k11 : PySem.W.keepIn K (.ref f11) = true)
    (a12 : PySem.W.nsIn K mainGlobals "is_wish" = some (some (.ref f12))) (l12 : K.lookup f12 = some ⟨oc12, od12, .func (PySem.W.fnOf "is_wish" "is_wish" (defArgs s_is_wish) (defBody s_is_wish) (defScope s_is_wish) .none kV12 dc12 pm12 an12 cd12 ct12), sl12⟩) (c12 : PySem.W.codeIn K cd12 "is_wish" = true) (k12 : PySem.W.keepIn K (.ref f12) = true)
    (a13 : PySem.W.nsIn K mainGlobals "made_wishes" = some (some (.ref f13))) (l13 : K.lookup f13 = some ⟨oc13, od13, .func (PySem.W.fnOf "made_wishes" "made_wishes" (defArgs s_made_wishes) (defBody s_made_wishes) (defScope s_made_wishes) .none kV13 dc13 pm13 an13 cd13 ct13), sl13⟩) (c13 : PySem.W.codeIn K cd13 "made_wishes" = true) (k13 : PySem.W.keepIn K (.ref f13) = true)
    (a14 : PySem.W.nsIn K mainGlobals "keeps" = some (some (.ref f14))) (l14 : K.lookup f14 = some ⟨oc14, od14, .func (PySem.W.fnOf "keeps" "keeps" (defArgs s_keeps) (defBody s_keeps) (defScope s_keeps) .none kV14 dc14 pm14 an14 cd14 ct14), sl14⟩) (c14 : PySem.W.codeIn K cd14 "keeps" = true) (k14 : PySem.W.keepIn K (.ref f14) = true)
    (a15 : PySem.W.nsIn K mainGlobals "grouped" = some (some (.ref f15))) (l15 : K.lookup f15 = some ⟨oc15, od15, .func (PySem.W.fnOf "grouped" "grouped" (defArgs s_grouped) (defBody s_grouped) (defScope s_grouped) .none kV15 dc15 pm15 an15 cd15 ct15), sl15⟩) (c15 : PySem.W.codeIn K cd15 "grouped" = true) (k15 : PySem.W.keepIn K (.ref f15) = true)
    (a16 : PySem.W.nsIn K mainGlobals "_law_int" = some (some (.ref f16))) (l16 : K.lookup f16 = some ⟨oc16, od16, .func (PySem.W.fnOf "_law_int" "_law_int" (defArgs s__law_int) (defBody s__law_int) (defScope s__law_int) .none kV16 dc16 pm16 an16 cd16 ct16), sl16⟩) (c16 : PySem.W.codeIn K cd16 "_law_int" = true) (k16 : PySem.W.keepIn K (.ref f16) = true)
    (a17 : PySem.W.nsIn K mainGlobals "_law_truth" = some (some (.ref f17))) (l17 : K.lookup f17 = some ⟨oc17, od17, .func (PySem.W.fnOf "_law_truth" "_law_truth" (defArgs s__law_truth) (defBody s__law_truth) (defScope s__law_truth) .none kV17 dc17 pm17 an17 cd17 ct17), sl17⟩) (c17 : PySem.W.codeIn K cd17 "_law_truth" = true) (k17 : PySem.W.keepIn K (.ref f17) = true)
    (a18 : PySem.W.nsIn K mainGlobals "_law_stream" = some (some (.ref f18))) (l18 : K.lookup f18 = some ⟨oc18, od18, .func (PySem.W.fnOf "_law_stream" "_law_stream" (defArgs s__law_stream) (defBody s__law_stream) (defScope s__law_stream) .none kV18 dc18 pm18 an18 cd18 ct18), sl18⟩) (c18 : PySem.W.codeIn K cd18 "_law_stream" = true) (k18 : PySem.W.keepIn K (.ref f18) = true)
    (a19 : PySem.W.nsIn K mainGlobals "_law_next" = some (some (.ref f19))) (l19 : K.lookup f19 = some ⟨oc19, od19, .func (PySem.W.fnOf "_law_next" "_law_next" (defArgs s__law_next) (defBody s__law_next) (defScope s__law_next) .none kV19 dc19 pm19 an19 cd19 ct19), sl19⟩) (c19 : PySem.W.codeIn K cd19 "_law_next" = true) (k19 : PySem.W.keepIn K (.ref f19) = true)
    (a20 : PySem.W.nsIn K mainGlobals "_law_wishes" = some (some (.ref f20))) (l20 : K.lookup f20 = some ⟨oc20, od20, .func (PySem.W.fnOf "_law_wishes" "_law_wishes" (defArgs s__law_wishes) (defBody s__law_wishes) (defScope s__law_wishes) .none kV20 dc20 pm20 an20 cd20 ct20), sl20⟩) (c20 : PySem.W.codeIn K cd20 "_law_wishes" = true) (k20 : PySem.W.keepIn K (.ref f20) = true)
    (a21 : PySem.W.nsIn K mainGlobals "_law_groups" = some (some (.ref f21))) (l21 : K.lookup f21 = some ⟨oc21, od21, .func (PySem.W.fnOf "_law_groups" "_law_groups" (defArgs s__law_groups) (defBody s__law_groups) (defScope s__law_groups) .none kV21 dc21 pm21 an21 cd21 ct21), sl21⟩) (c21 : PySem.W.codeIn K cd21 "_law_groups" = true) (k21 : PySem.W.keepIn K (.ref f21) = true)
    (a22 : PySem.W.nsIn K mainGlobals "_law_keeps" = some (some (.ref f22))) (l22 : K.lookup f22 = some ⟨oc22, od22, .func (PySem.W.fnOf "_law_keeps" "_law_keeps" (defArgs s__law_keeps) (defBody s__law_keeps) (defScope s__law_keeps) .none kV22 dc22 pm22 an22 cd22 ct22), sl22⟩) (c22 : PySem.W.codeIn K cd22 "_law_keeps" = true) (k22 : PySem.W.keepIn K (.ref f22) = true)
    (a23 : PySem.W.nsIn K mainGlobals "_law_right" = some (some (.ref f23))) (l23 : K.lookup f23 = some ⟨oc23, od23, .func (PySem.W.fnOf "_law_right" "_law_right" (defArgs s__law_right) (defBody s__law_right) (defScope s__law_right) .none kV23 dc23 pm23 an23 cd23 ct23), sl23⟩) (c23 : PySem.W.codeIn K cd23 "_law_right" = true) (k23 : PySem.W.keepIn K (.ref f23) = true)
    (a24 : PySem.W.nsIn K mainGlobals "law" = some (some (.ref f24))) (l24 : K.lookup f24 = some ⟨oc24, od24, .func (PySem.W.fnOf "law" "law" (defArgs s_law) (defBody s_law) (defScope s_law) .none kV24 dc24 pm24 an24 cd24 ct24), sl24⟩) (c24 : PySem.W.codeIn K cd24 "law" = true) (k24 : PySem.W.keepIn K (.ref f24) = true)
    (g_CutError : PySem.W.nsIn K mainGlobals "CutError" = some (some (.ref C_CutError)))
    (g_NoWishes : PySem.W.nsIn K mainGlobals "NoWishes" = some (some (.ref C_NoWishes)))
    (x_NoWishes : PySem.W.excIn K C_NoWishes [.type "ValueError", .type "Exception", .type "BaseException", .type "object"] "ValueError.__new__" = true)
    (k_NoWishes : PySem.W.keepIn K (.ref C_NoWishes) = true)
    (b_NoWishes : PySem.W.subIn K (.ref C_NoWishes) (.type "BaseException") = some true)
    (t_NoWishes : PySem.W.typeIn K (.ref C_NoWishes) = some (.type "type"))
    (s_NoWishes : PySem.W.subIn K (.ref C_NoWishes) (.ref C_NoWishes) = some true)
    (e0_NoWishes : PySem.W.findIn K (.ref C_NoWishes) "__getattribute__" = some (some (.builtin "BaseException.__getattribute__")))
    (e1_NoWishes : PySem.W.findIn K (.ref C_NoWishes) "__getattr__" = some none)
    (e2_NoWishes : PySem.W.subIn K (.ref C_NoWishes) (.type "BaseException") = some true)
    (e3_NoWishes : PySem.W.hasDictIn K C_NoWishes = true)
    (e4_NoWishes : PySem.W.findIn K (.ref C_NoWishes) "__class__" = some (some (.builtin "object.__class__")))
    (e5_NoWishes : PySem.W.specialIn K (.builtin "object.__class__") "__get__" = some (some (.builtin "getset_descriptor.__get__")))
    (e6_NoWishes : PySem.W.takesIn K (.builtin "object.__class__") = some true)
    (e7_NoWishes : PySem.W.mroIn K C_NoWishes (.type "object") = some true)
    (i_NoWishes_CutError : PySem.W.isClsIn K C_CutError = true)
    (y_NoWishes_CutError : PySem.W.typeIn K (.ref C_CutError) = some (.type "type"))
    (u_NoWishes_CutError : PySem.W.subIn K (.ref C_NoWishes) (.ref C_CutError) = some true)
    (v_NoWishes : PySem.W.subIn K (.ref C_NoWishes) (.type "ValueError") = some true)
    {n_MOST_WISHES : Tok} (m_MOST_WISHES : PySem.W.nsIn K mainGlobals "MOST_WISHES" = some (some (.int 120 n_MOST_WISHES)))
    (z0 : PySem.W.nsIn K mainGlobals "bool" = some none) (z1 : PySem.W.nsIn K mainGlobals "isinstance" = some none) (z2 : PySem.W.nsIn K mainGlobals "int" = some none) (z3 : PySem.W.nsIn K mainGlobals "tuple" = some none) (z4 : PySem.W.nsIn K mainGlobals "list" = some none) (z5 : PySem.W.nsIn K mainGlobals "len" = some none) (z6 : PySem.W.nsIn K mainGlobals "range" = some none) (z7 : PySem.W.nsIn K mainGlobals "enumerate" = some none) (z8 : PySem.W.nsIn K mainGlobals "sorted" = some none) (z9 : PySem.W.nsIn K mainGlobals "min" = some none) (z10 : PySem.W.nsIn K mainGlobals "all" = some none) (z11 : PySem.W.nsIn K mainGlobals "repr" = some none) :
    ∀ base : Heap, K.In base → base.Ns mainGlobals mg → TopOk l.prog w K mg base fa Φ_law := by
  have B : ∀ x, x ∈ blt → mg x = none := by
    intro x hx
    simp only [blt, List.mem_cons, List.not_mem_nil, or_false] at hx
    rcases hx with rfl | rfl | rfl | rfl | rfl | rfl | rfl | rfl | rfl | rfl | rfl | rfl
    · exact PySem.W.mg_none_of X G z0
    · exact PySem.W.mg_none_of X G z1
    · exact PySem.W.mg_none_of X G z2
    · exact PySem.W.mg_none_of X G z3
    · exact PySem.W.mg_none_of X G z4
    · exact PySem.W.mg_none_of X G z5
    · exact PySem.W.mg_none_of X G z6
    · exact PySem.W.mg_none_of X G z7
    · exact PySem.W.mg_none_of X G z8
    · exact PySem.W.mg_none_of X G z9
    · exact PySem.W.mg_none_of X G z10
    · exact PySem.W.mg_none_of X G z11
  have cs : Csts mg := ⟨⟨_, PySem.W.mg_of X G m_MOST_WISHES⟩⟩
  have cl : Cls K mg C_CutError C_NoWishes := ⟨PySem.W.mg_of X G g_CutError, PySem.W.mg_of X G g_NoWishes, ⟨PySem.W.mg_of X G g_NoWishes, x_NoWishes, k_NoWishes, b_NoWishes, t_NoWishes, s_NoWishes, ⟨e0_NoWishes, e1_NoWishes, e2_NoWishes, e3_NoWishes, e4_NoWishes, e5_NoWishes, e6_NoWishes, e7_NoWishes⟩⟩, kit_up i_NoWishes_CutError y_NoWishes_CutError u_NoWishes_CutError, kit_upT (by decide +kernel) v_NoWishes⟩
  have e := hfa.symm.trans (PySem.W.mg_of X G a24)
  cases e
  have F1 := fun_mk (st := s_is_whole) l1 c1 k1
  have F2 := fun_mk (st := s_is_row) l2 c2 k2
  have F3 := fun_mk (st := s_is_triple) l3 c3 k3
  have F4 := fun_mk (st := s_is_number_of) l4 c4 k4
  have F5 := fun_mk (st := s_are_unlike_points) l5 c5 k5
  have F6 := fun_mk (st := s_joins_at) l6 c6 k6
  have F7 := fun_mk (st := s_group_from) l7 c7 k7
  have F8 := fun_mk (st := s_spread) l8 c8 k8
  have F9 := fun_mk (st := s_ring_closed) l9 c9 k9
  have F10 := fun_mk (st := s_odd_rings) l10 c10 k10
  have F11 := fun_mk (st := s_parted) l11 c11 k11
  have F12 := fun_mk (st := s_is_wish) l12 c12 k12
  have F13 := fun_mk (st := s_made_wishes) l13 c13 k13
  have F14 := fun_mk (st := s_keeps) l14 c14 k14
  have F15 := fun_mk (st := s_grouped) l15 c15 k15
  have F16 := fun_mk (st := s__law_int) l16 c16 k16
  have F17 := fun_mk (st := s__law_truth) l17 c17 k17
  have F18 := fun_mk (st := s__law_stream) l18 c18 k18
  have F19 := fun_mk (st := s__law_next) l19 c19 k19
  have F20 := fun_mk (st := s__law_wishes) l20 c20 k20
  have F21 := fun_mk (st := s__law_groups) l21 c21 k21
  have F22 := fun_mk (st := s__law_keeps) l22 c22 k22
  have F23 := fun_mk (st := s__law_right) l23 c23 k23
  have F24 := fun_mk (st := s_law) l24 c24 k24
  have g_is_whole : ∀ base : Heap, Kn l.prog w K mg base "is_whole" 1 ["thing"] Φ_is_whole := fun base => ok_is_whole F1 (PySem.W.mg_of X G a1) B cs
  have g_is_row : ∀ base : Heap, Kn l.prog w K mg base "is_row" 1 ["thing"] Φ_is_row := fun base => ok_is_row F2 (PySem.W.mg_of X G a2) B cs
  have g_joins_at : ∀ base : Heap, Kn l.prog w K mg base "joins_at" 1 ["many", "joins"] Φ_joins_at := fun base => ok_joins_at F6 (PySem.W.mg_of X G a6) B cs
  have g_group_from : ∀ base : Heap, Kn l.prog w K mg base "group_from" 1 ["near", "first"] Φ_group_from := fun base => ok_group_from F7 (PySem.W.mg_of X G a7) B cs
  have g_ring_closed : ∀ base : Heap, Kn l.prog w K mg base "ring_closed" 1 ["way", "other_way", "number"] Φ_ring_closed := fun base => ok_ring_closed F9 (PySem.W.mg_of X G a9) B cs
  have g__law_int : ∀ base : Heap, Kn l.prog w K mg base "_law_int" 1 ["_law_found"] Φ__law_int := fun base => ok__law_int F16 (PySem.W.mg_of X G a16) B cs
  have g__law_truth : ∀ base : Heap, Kn l.prog w K mg base "_law_truth" 1 ["_law_found", "_law_due"] Φ__law_truth := fun base => ok__law_truth F17 (PySem.W.mg_of X G a17) B cs
  have g__law_stream : ∀ base : Heap, Kn l.prog w K mg base "_law_stream" 1 ["_law_cell", "_law_many"] Φ__law_stream := fun base => ok__law_stream F18 (PySem.W.mg_of X G a18) B cs
  have g__law_next : ∀ base : Heap, Kn l.prog w K mg base "_law_next" 1 ["_law_xs"] Φ__law_next := fun base => ok__law_next F19 (PySem.W.mg_of X G a19) B cs
  have g__law_groups : ∀ base : Heap, Kn l.prog w K mg base "_law_groups" 1 ["_law_many", "_law_wishes_here"] Φ__law_groups := fun base => ok__law_groups F21 (PySem.W.mg_of X G a21) B cs
  have g__law_keeps : ∀ base : Heap, Kn l.prog w K mg base "_law_keeps" 1 ["_law_wishes_here", "_law_side"] Φ__law_keeps := fun base => ok__law_keeps F22 (PySem.W.mg_of X G a22) B cs
  have g_is_triple : ∀ base : Heap, Kn l.prog w K mg base "is_triple" 2 ["thing"] Φ_is_triple := fun base => ok_is_triple F3 (PySem.W.mg_of X G a3) B cs (g_is_row base)
  have g_is_number_of : ∀ base : Heap, Kn l.prog w K mg base "is_number_of" 2 ["many", "thing"] Φ_is_number_of := fun base => ok_is_number_of F4 (PySem.W.mg_of X G a4) B cs (g_is_whole base)
  have g_spread : ∀ base : Heap, Kn l.prog w K mg base "spread" 2 ["many", "joins"] Φ_spread := fun base => ok_spread F8 (PySem.W.mg_of X G a8) B cs (g_joins_at base) (g_group_from base)
  have g_odd_rings : ∀ base : Heap, Kn l.prog w K mg base "odd_rings" 2 ["joins", "marks", "ways"] Φ_odd_rings := fun base => ok_odd_rings F10 (PySem.W.mg_of X G a10) B cs (g_ring_closed base)
  have g__law_wishes : ∀ base : Heap, Kn l.prog w K mg base "_law_wishes" 2 ["_law_xs", "_law_many", "_law_side"] Φ__law_wishes := fun base => ok__law_wishes F20 (PySem.W.mg_of X G a20) B cs (g__law_next base)
  have g__law_right : ∀ base : Heap, Kn l.prog w K mg base "_law_right" 2 ["_law_many", "_law_wishes_here", "_law_found"] Φ__law_right := fun base => ok__law_right F23 (PySem.W.mg_of X G a23) B cs (g__law_groups base) (g__law_int base) (g__law_keeps base)
  have g_are_unlike_points : ∀ base : Heap, Kn l.prog w K mg base "are_unlike_points" 3 ["many", "one", "other"] Φ_are_unlike_points := fun base => ok_are_unlike_points F5 (PySem.W.mg_of X G a5) B cs (g_is_number_of base)
  have g_parted : ∀ base : Heap, Kn l.prog w K mg base "parted" 3 ["many", "joins"] Φ_parted := fun base => ok_parted F11 (PySem.W.mg_of X G a11) B cs (g_spread base) (g_odd_rings base)
  have g_is_wish : ∀ base : Heap, Kn l.prog w K mg base "is_wish" 4 ["web", "thing"] Φ_is_wish := fun base => ok_is_wish F12 (PySem.W.mg_of X G a12) B cs (g_is_triple base) (g_is_number_of base) (g_are_unlike_points base)
  have g_made_wishes : ∀ base : Heap, KnX l.prog w K mg base "made_wishes" 5 ["web", "thing"] C_NoWishes Φ_made_wishes := fun base => ok_made_wishes F13 (PySem.W.mg_of X G a13) B cs cl (g_is_row base) (g_is_wish base)
  have g_keeps : ∀ base : Heap, Kn l.prog w K mg base "keeps" 6 ["web", "wishes", "side"] Φ_keeps := fun base => ok_keeps F14 (PySem.W.mg_of X G a14) B cs cl (g_made_wishes base)
  have g_grouped : ∀ base : Heap, Kn l.prog w K mg base "grouped" 6 ["web", "wishes"] Φ_grouped := fun base => ok_grouped F15 (PySem.W.mg_of X G a15) B cs cl (g_parted base) (g_made_wishes base)
  exact fun base _ _ => top_of F24 sc_law (fun s v => .of_eq rfl) len_law (by decide) ⟨rfl, by decide, by decide⟩ (fun cdv A s H E eA hr => ⟨_, dv_law hr (by rw [eA]; rfl) B cs (g__law_stream base) (g__law_next base) (g__law_wishes base) (g__law_truth base) (g_keeps base) (g__law_right base) (g_grouped base) (g__law_keeps base), rd_law⟩)
end K14
open PySem PySem.W PyProof.Rows
set_option maxRecDepth 100000 in
set_option maxHeartbeats 0 in
theorem PySem.Challenge.cw_heavycut_k14_groups_and_marks_holds : PySem.Challenge.rw_heavycut_k14_groups_and_marks.Holds := by
  w_on; o_law; k_head; (case hw => w_witness2)
  k_fill
  refine Hc.walk_top (l := PySem.Challenge.rw_heavycut_k14_groups_and_marks) (n := 63) (Φ := K14.Φ_law) rfl (by decide) rfl (fun w h Y => PySem.W.kIn_of Y) ?F (fun _ _ a ns hl hO hS => K14.law_at hl hO hS)
  case F =>
    intro w mg fa h KX G hmg
    refine' K14.all_mk KX G hmg ?a1 ?l1 ?c1 ?k1 ?a2 ?l2 ?c2 ?k2 ?a3 ?l3 ?c3 ?k3 ?a4 ?l4 ?c4 ?k4 ?a5 ?l5 ?c5 ?k5 ?a6 ?l6 ?c6 ?k6 ?a7 ?l7 ?c7 ?k7 ?a8 ?l8 ?c8 ?k8 ?a9 ?l9 ?c9 ?k9 ?a10 ?l10 ?c10 ?k10 ?a11 ?l11 ?c11 ?k11 ?a12 ?l12 ?c12 ?k12 ?a13 ?l13 ?c13 ?k13 ?a14 ?l14 ?c14 ?k14 ?a15 ?l15 ?c15 ?k15 ?a16 ?l16 ?c16 ?k16 ?a17 ?l17 ?c17 ?k17 ?a18 ?l18 ?c18 ?k18 ?a19 ?l19 ?c19 ?k19 ?a20 ?l20 ?c20 ?k20 ?a21 ?l21 ?c21 ?k21 ?a22 ?l22 ?c22 ?k22 ?a23 ?l23 ?c23 ?k23 ?a24 ?l24 ?c24 ?k24 ?g_CutError ?g_NoWishes ?x_NoWishes ?k_NoWishes ?b_NoWishes ?t_NoWishes ?s_NoWishes ?e0_NoWishes ?e1_NoWishes ?e2_NoWishes ?e3_NoWishes ?e4_NoWishes ?e5_NoWishes ?e6_NoWishes ?e7_NoWishes ?i_NoWishes_CutError ?y_NoWishes_CutError ?u_NoWishes_CutError ?v_NoWishes ?m_MOST_WISHES ?z0 ?z1 ?z2 ?z3 ?z4 ?z5 ?z6 ?z7 ?z8 ?z9 ?z10 ?z11
    (case a1 => k_is); (case l1 => k_is); (case c1 => k_is); (case k1 => k_is); (case a2 => k_is); (case l2 => k_is); (case c2 => k_is); (case k2 => k_is); (case a3 => k_is); (case l3 => k_is); (case c3 => k_is); (case k3 => k_is); (case a4 => k_is); (case l4 => k_is); (case c4 => k_is); (case k4 => k_is); (case a5 => k_is); (case l5 => k_is); (case c5 => k_is); (case k5 => k_is); (case a6 => k_is); (case l6 => k_is); (case c6 => k_is); (case k6 => k_is); (case a7 => k_is); (case l7 => k_is); (case c7 => k_is); (case k7 => k_is); (case a8 => k_is); (case l8 => k_is); (case c8 => k_is); (case k8 => k_is); (case a9 => k_is); (case l9 => k_is); (case c9 => k_is); (case k9 => k_is); (case a10 => k_is); (case l10 => k_is); (case c10 => k_is); (case k10 => k_is); (case a11 => k_is); (case l11 => k_is); (case c11 => k_is); (case k11 => k_is); (case a12 => k_is); (case l12 => k_is); (case c12 => k_is); (case k12 => k_is); (case a13 => k_is); (case l13 => k_is); (case c13 => k_is); (case k13 => k_is); (case a14 => k_is); (case l14 => k_is); (case c14 => k_is); (case k14 => k_is); (case a15 => k_is); (case l15 => k_is); (case c15 => k_is); (case k15 => k_is); (case a16 => k_is); (case l16 => k_is); (case c16 => k_is); (case k16 => k_is); (case a17 => k_is); (case l17 => k_is); (case c17 => k_is); (case k17 => k_is); (case a18 => k_is); (case l18 => k_is); (case c18 => k_is); (case k18 => k_is); (case a19 => k_is); (case l19 => k_is); (case c19 => k_is); (case k19 => k_is); (case a20 => k_is); (case l20 => k_is); (case c20 => k_is); (case k20 => k_is); (case a21 => k_is); (case l21 => k_is); (case c21 => k_is); (case k21 => k_is); (case a22 => k_is); (case l22 => k_is); (case c22 => k_is); (case k22 => k_is); (case a23 => k_is); (case l23 => k_is); (case c23 => k_is); (case k23 => k_is); (case a24 => k_is); (case l24 => k_is); (case c24 => k_is); (case k24 => k_is); (case g_CutError => k_is); (case g_NoWishes => k_is); (case x_NoWishes => k_exc); (case k_NoWishes => k_is); (case b_NoWishes => k_is); (case t_NoWishes => k_is); (case s_NoWishes => first | rfl | k_is); (case e0_NoWishes => k_is); (case e1_NoWishes => k_is); (case e2_NoWishes => k_is); (case e3_NoWishes => k_is); (case e4_NoWishes => k_is); (case e5_NoWishes => k_is); (case e6_NoWishes => k_is); (case e7_NoWishes => k_is); (case i_NoWishes_CutError => k_is); (case y_NoWishes_CutError => k_is); (case u_NoWishes_CutError => k_is); (case v_NoWishes => k_is); (case m_MOST_WISHES => k_is); (case z0 => k_is); (case z1 => k_is); (case z2 => k_is); (case z3 => k_is); (case z4 => k_is); (case z5 => k_is); (case z6 => k_is); (case z7 => k_is); (case z8 => k_is); (case z9 => k_is); (case z10 => k_is); (case z11 => k_is)
#print axioms PySem.Challenge.cw_heavycut_k14_groups_and_marks_holds
