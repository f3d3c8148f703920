import PyProof.Rows.All
import Wide.All
import OpenK.AllK
import Wide.FinOn
import HandS.ForMost
import HandS.Wide
import HandS.Style
import HandS.IsInst
import HandS.Flow
import HandS.TryOnly
import HandS.TupMul
import HandS.ForExc
import HandS.ExcIs
import HandS.Zip
import HandS.SortInts
import HandS.SetFor
import HandS.Conv
import HandS.Walk
import KE.GoesEnum
import HandS.SortOrd
import HandS.Deep
import KE.SortData
import HandS.TupAny
import HandS.NoneIn
import KE.GoesMore
import KE.GoesZip
import HandS.Small
import KE.KMinBuiltin
import HandS.SortKw
import HandS.SetKeys
import KE.DataMinMax
import KE.KDictSum
import PyProof.Transfer
import HandS.Iter
import HandS.List
import HandS.Rev
import HandS.RevRange
import HandS.WordsDict
import PyProof.ReprRoads
import HandS.Strs
import HandS.RevTup
import HandS.ExcValue
import KE.KIndexOf
import HandS.FStr
import HandS.Text
import HandS.StrMore
import HandS.SuiteRaise
import HandS.RaiseFrom
import HandS.ExcValueFrom
import HandS.TupLe
import PyProof.StrOps2
import PySem.Challenge.RW_heavycut_k07_no_texts
set_option Elab.async false
set_option linter.all false
set_option maxRecDepth 100000
set_option maxHeartbeats 4000000
namespace Hc
open PySem PySem.Spec PyProof.Rows L2

/-! ### data in the heap, apart from the things L that may change -/
def keyD : Key → PyData
  | .inl i => .int i
  | .inr x => .str x
mutual
inductive Rp (L : List Addr) (H : Hp) : V → PyData → Prop
  | non : Rp L H .non .none
  | bl (b : Bool) : Rp L H (.bl b) (.bool b)
  | int (i : Int) : Rp L H (.int i) (.int i)
  | str (x : Str) : Rp L H (.str x) (.str x)
  | lst {a : Addr} {xs : List V} {ds : List PyData} : a ∉ L → H a = some (.lst xs) → RpA L H xs ds → Rp L H (.ref a) (.list ds)
  | tup {a : Addr} {xs : List V} {ds : List PyData} : a ∉ L → H a = some (.tup xs) → RpA L H xs ds → Rp L H (.ref a) (.tuple ds)
  | dct {a : Addr} {kvs : List (Key × V)} {ds : List (PyData × PyData)} : a ∉ L → H a = some (.dK kvs) → RpK L H kvs ds → Rp L H (.ref a) (.dict ds)
inductive RpA (L : List Addr) (H : Hp) : List V → List PyData → Prop
  | nil : RpA L H [] []
  | cons {v : V} {vs : List V} {d : PyData} {ds : List PyData} : Rp L H v d → RpA L H vs ds → RpA L H (v :: vs) (d :: ds)
inductive RpK (L : List Addr) (H : Hp) : List (Key × V) → List (PyData × PyData) → Prop
  | nil : RpK L H [] []
  | cons {k : Key} {v : V} {kvs : List (Key × V)} {d : PyData} {ds : List (PyData × PyData)} : Rp L H v d → RpK L H kvs ds → RpK L H ((k, v) :: kvs) ((keyD k, d) :: ds)
end
/-- what is outside L stays, and stays outside L' -/
def To (L L' : List Addr) (H H' : Hp) : Prop := ∀ a o, a ∉ L → H a = some o → a ∉ L' ∧ H' a = some o
mutual
theorem Rp.toP {L L' : List Addr} {H H' : Hp} (w : To L L' H H') : ∀ {v : V} {d : PyData}, Rp L H v d → Rp L' H' v d
  | _, _, .non => .non
  | _, _, .bl b => .bl b
  | _, _, .int i => .int i
  | _, _, .str x => .str x
  | _, _, .lst n e r => .lst (w _ _ n e).1 (w _ _ n e).2 (RpA.toP w r)
  | _, _, .tup n e r => .tup (w _ _ n e).1 (w _ _ n e).2 (RpA.toP w r)
  | _, _, .dct n e r => .dct (w _ _ n e).1 (w _ _ n e).2 (RpK.toP w r)
theorem RpA.toP {L L' : List Addr} {H H' : Hp} (w : To L L' H H') : ∀ {vs : List V} {ds : List PyData}, RpA L H vs ds → RpA L' H' vs ds
  | _, _, .nil => .nil
  | _, _, .cons a b => .cons (Rp.toP w a) (RpA.toP w b)
theorem RpK.toP {L L' : List Addr} {H H' : Hp} (w : To L L' H H') : ∀ {vs : List (Key × V)} {ds : List (PyData × PyData)}, RpK L H vs ds → RpK L' H' vs ds
  | _, _, .nil => .nil
  | _, _, .cons a b => .cons (Rp.toP w a) (RpK.toP w b)
end
theorem Rp.to {L L' : List Addr} {H H' : Hp} (w : To L L' H H') (d : PyData) (v : V) (h : Rp L H v d) : Rp L' H' v d := h.toP w
theorem RpA.to {L L' : List Addr} {H H' : Hp} (w : To L L' H H') (ds : List PyData) (vs : List V) (h : RpA L H vs ds) : RpA L' H' vs ds := h.toP w
/-- a dict with rows as keys: the keys are the same, the values lie in the heap -/
inductive Rt (L : List Addr) (H : Hp) : List (List Key × V) → List (List Key × PyData) → Prop
  | nil : Rt L H [] []
  | cons {k : List Key} {v : V} {d : PyData} {kvs : List (List Key × V)} {m : List (List Key × PyData)} : Rp L H v d → Rt L H kvs m → Rt L H ((k, v) :: kvs) ((k, d) :: m)
theorem Rt.toP {L L' : List Addr} {H H' : Hp} (w : To L L' H H') : ∀ {kvs : List (List Key × V)} {m : List (List Key × PyData)}, Rt L H kvs m → Rt L' H' kvs m
  | _, _, .nil => .nil
  | _, _, .cons a b => .cons (Rp.toP w a) (Rt.toP w b)
def kindO : HO → Nat
  | .lst _ => 0
  | .tup _ => 1
  | .dK _ => 2
  | .dT _ => 3
  | .frz _ (.dK _) => 2
  | .frz _ (.dT _) => 3
  | _ => 4
/-- what is outside L stays; what is in L stays of its kind -/
structure Wk (L : List Addr) (H H' : Hp) : Prop where
  st : ∀ a o, a ∉ L → H a = some o → H' a = some o
  kd : ∀ a o, H a = some o → ∃ o', H' a = some o' ∧ kindO o' = kindO o
instance {L : List Addr} {H H' : Hp} : CoeFun (Wk L H H') fun _ => ∀ a o, a ∉ L → H a = some o → H' a = some o := ⟨Wk.st⟩
theorem Wk.refl (L : List Addr) (H : Hp) : Wk L H H := ⟨fun _ _ _ h => h, fun _ o h => ⟨o, h, rfl⟩⟩
theorem Wk.trans {L : List Addr} {H H1 H2 : Hp} (a : Wk L H H1) (b : Wk L H1 H2) : Wk L H H2 := ⟨fun x o n h => b x o n (a x o n h), fun x o h => by
  obtain ⟨o1, e1, k1⟩ := a.kd x o h
  obtain ⟨o2, e2, k2⟩ := b.kd x o1 e1
  exact ⟨o2, e2, k2.trans k1⟩⟩
theorem Wk.over {L : List Addr} {H H1 : Hp} {D : Addr} {o : HO} (w : Wk L H H1) (h : H D = none) : Wk L H (upd H1 D o) := ⟨fun a u n e => by
  rw [upd_ne (ne_of_none e h)]; exact w a u n e, fun a u e => by
  obtain ⟨o', e', k⟩ := w.kd a u e
  exact ⟨o', by rw [upd_ne (ne_of_none e h)]; exact e', k⟩⟩
theorem Wk.of {L : List Addr} {H H' : Hp} (h : ∀ a o, H a = some o → H' a = some o) : Wk L H H' := ⟨fun a o _ e => h a o e, fun a o e => ⟨o, h a o e, rfl⟩⟩
theorem Wk.to {L : List Addr} {H H' : Hp} (w : Wk L H H') : To L L H H' := fun a o n h => ⟨n, w a o n h⟩
theorem Wk.new {L : List Addr} {H : Hp} {p : Addr} {o : HO} (h : H p = none) : Wk L H (upd H p o) := .of fun a u e => by
  rw [upd_ne (ne_of_none e h)]; exact e
theorem Wk.mut {L : List Addr} {H : Hp} {p : Addr} {o o0 : HO} (h : p ∈ L) (e0 : H p = some o0) (k : kindO o = kindO o0 := by rfl) : Wk L H (upd H p o) := ⟨fun a u n e => by
  rw [upd_ne (fun z : a = p => n (by rw [z]; exact h))]; exact e, fun a u e => by
  by_cases z : a = p
  · subst z
    rw [e0] at e
    cases e
    exact ⟨o, upd_same, k⟩
  · exact ⟨u, by rw [upd_ne z]; exact e, rfl⟩⟩
theorem Rp.mono {L : List Addr} {H H' : Hp} (w : Wk L H H') {d : PyData} {v : V} (h : Rp L H v d) : Rp L H' v d := Rp.to w.to d v h
theorem RpA.mono {L : List Addr} {H H' : Hp} (w : Wk L H H') {ds : List PyData} {vs : List V} (h : RpA L H vs ds) : RpA L H' vs ds := RpA.to w.to ds vs h
theorem RpA.append {L : List Addr} {H : Hp} : ∀ {xs ys : List V} {ds es : List PyData}, RpA L H xs ds → RpA L H ys es → RpA L H (xs ++ ys) (ds ++ es)
  | _, _, _, _, .nil, h => h
  | _, _, _, _, .cons a b, h => .cons a (RpA.append b h)
theorem RpA.length {L : List Addr} {H : Hp} : ∀ {xs : List V} {ds : List PyData}, RpA L H xs ds → xs.length = ds.length
  | _, _, .nil => rfl
  | _, _, .cons _ b => by simp [RpA.length b]
theorem RpA.get {L : List Addr} {H : Hp} : ∀ {xs : List V} {ds : List PyData} {i : Nat} {d : PyData}, RpA L H xs ds → ds[i]? = some d → ∃ v, xs[i]? = some v ∧ Rp L H v d
  | _, _, _, _, .nil, e => by simp at e
  | _, _, 0, _, .cons a _, e => by simp at e; subst e; exact ⟨_, rfl, a⟩
  | _, _, i + 1, d, .cons _ b, e => by
    obtain ⟨v, h1, h2⟩ := RpA.get (i := i) (d := d) b (by simpa using e)
    exact ⟨v, by simpa using h1, h2⟩
theorem RpA.get' {L : List Addr} {H : Hp} : ∀ {xs : List V} {ds : List PyData} {i : Nat} {v : V}, RpA L H xs ds → xs[i]? = some v → ∃ d, ds[i]? = some d ∧ Rp L H v d
  | _, _, _, _, .nil, e => by simp at e
  | _, _, 0, _, .cons a _, e => by simp at e; subst e; exact ⟨_, rfl, a⟩
  | _, _, i + 1, v, .cons _ b, e => by
    obtain ⟨d, h1, h2⟩ := RpA.get' (i := i) (v := v) b (by simpa using e)
    exact ⟨d, by simpa using h1, h2⟩
theorem RpA.take {L : List Addr} {H : Hp} : ∀ {xs : List V} {ds : List PyData} (n : Nat), RpA L H xs ds → RpA L H (xs.take n) (ds.take n)
  | _, _, 0, _ => by simp only [List.take_zero]; exact .nil
  | _, _, n + 1, .nil => .nil
  | _, _, n + 1, .cons a b => .cons a (RpA.take n b)
theorem RpA.drop {L : List Addr} {H : Hp} : ∀ {xs : List V} {ds : List PyData} (n : Nat), RpA L H xs ds → RpA L H (xs.drop n) (ds.drop n)
  | _, _, 0, h => h
  | _, _, n + 1, .nil => .nil
  | _, _, n + 1, .cons _ b => RpA.drop n b
theorem RpA.set {L : List Addr} {H : Hp} : ∀ {xs : List V} {ds : List PyData} {v : V} {d : PyData} (n : Nat), RpA L H xs ds → Rp L H v d → RpA L H (xs.set n v) (ds.set n d)
  | _, _, _, _, _, .nil, _ => .nil
  | _, _, _, _, 0, .cons _ b, h => .cons h b
  | _, _, _, _, n + 1, .cons a b, h => .cons a (RpA.set n b h)
theorem RpA.ints {L : List Addr} {H : Hp} : ∀ (ns : List Int), RpA L H (ns.map V.int) (ns.map PyData.int)
  | [] => .nil
  | n :: r => .cons (.int n) (RpA.ints r)
theorem RpA.ints_inv {L : List Addr} {H : Hp} : ∀ {ns : List Int} {xs : List V}, RpA L H xs (ns.map PyData.int) → xs = ns.map V.int
  | [], _, h => by cases h; rfl
  | n :: r, _, h => by
    cases h with
    | cons a b => cases a; rw [RpA.ints_inv b]; rfl
mutual
theorem Rp.dp {K : PySem.W.Frag} {L : List Addr} {H : Hp} : ∀ (d : PyData) (v : V), d.canLay0 = true → Rp L H v d → Dp K H v d
  | .none, _, _, h => by cases h; exact .non
  | .bool b, _, _, h => by cases h; exact .bl b
  | .int i, _, _, h => by cases h; exact .int i
  | .str x, _, _, h => by cases h; exact .str x
  | .list ds, _, c, h => by
    cases h with
    | lst n e r => exact .lst (SqL.of e) (RpA.dp ds _ (by simpa [PyData.canLay0] using c) r)
  | .tuple ds, _, c, h => by
    cases h with
    | tup n e r => exact .tup (SqT.of e) (RpA.dp ds _ (by simpa [PyData.canLay0] using c) r)
  | .dict ds, _, c, h => by simp [PyData.canLay0] at c
theorem RpA.dp {K : PySem.W.Frag} {L : List Addr} {H : Hp} : ∀ (ds : List PyData) (vs : List V), PyData.canLayAll0 ds = true → RpA L H vs ds → DpAll K H vs ds
  | [], _, _, h => by cases h; exact .nil
  | d :: ds, _, c, h => by
    cases h with
    | cons a b =>
      have c' : d.canLay0 = true ∧ PyData.canLayAll0 ds = true := by simpa [PyData.canLayAll0, Bool.and_eq_true] using c
      exact .cons (Rp.dp d _ c'.1 a) (RpA.dp ds _ c'.2 b)
end
/-- the type of a datum -/
def tyN : PyData → String
  | .none => "NoneType" | .bool _ => "bool" | .int _ => "int" | .str _ => "str" | .list _ => "list" | .tuple _ => "tuple" | .dict _ => "dict"
theorem Rp.ty {K : PySem.W.Frag} {L : List Addr} {H : Hp} {v : V} {d : PyData} (h : Rp L H v d) : TyX K H v (.type (tyN d)) := by
  cases h with
  | non => exact .base .non
  | bl b => exact .base (.bl b)
  | int i => exact .base (.int i)
  | str x => exact .base (.str x)
  | lst n e r => exact .base (.lst e)
  | tup n e r => exact .base (.tup e)
  | dct n e r => exact .base (.dK e)


theorem Rp.keep {L M : List Addr} {H H' : Hp} (sub : ∀ p ∈ L, p ∈ M) (w : Wk L H H') {d : PyData} {v : V} (h : Rp M H v d) : Rp M H' v d := Rp.to (fun a o n e => ⟨n, w a o (fun z => n (sub a z)) e⟩) d v h
theorem RpA.keep {L M : List Addr} {H H' : Hp} (sub : ∀ p ∈ L, p ∈ M) (w : Wk L H H') {ds : List PyData} {vs : List V} (h : RpA M H vs ds) : RpA M H' vs ds := RpA.to (fun a o n e => ⟨n, w a o (fun z => n (sub a z)) e⟩) ds vs h

/-! ### slots, things that may change -/
inductive SD where
  | u | d (x : PyData) | m (k : Nat) | q (k : Nat) | g (ds : List (PyData × PyData)) | f (es : List PyData) | s (ns : List Int) | v (x : V) | h (φ : Addr → HO) | w (φ : List Addr → Hp → V → Prop) | o (k : Nat)
inductive MD where
  | l (es : List PyData)
  | r (ks : List Nat)
  | k (ds : List (PyData × PyData))
  | t (m : List (List Key × PyData))
  | z (o : Obj) (kvs : List (Key × V)) (ds : List (PyData × PyData))
  | x (ψ : List Addr → Hp → Addr → Prop)
/-- a fact on an object, that stays where what lies outside stays and the object stays -/
def StbO (ψ : List Addr → Hp → Addr → Prop) : Prop := ∀ (M M' : List Addr) (H H' : Hp) (p : Addr), To M M' H H' → H' p = H p → ψ M H p → ψ M' H' p
section
variable {K : PySem.W.Frag}
def MOk (L M : List Addr) (H : Hp) (j : Nat) (p : Addr) : MD → Prop
  | .l es => ∃ xs, H p = some (.lst xs) ∧ RpA M H xs es
  | .r ks => ∃ ps : List Addr, H p = some (.lst (ps.map V.ref)) ∧ ps.length = ks.length ∧ ∀ (i k : Nat) (q : Addr), ks[i]? = some k → ps[i]? = some q → L[k]? = some q ∧ k < j
  | .k ds => ∃ kvs, H p = some (.dK kvs) ∧ RpK M H kvs ds
  | .t m => ∃ kvs, H p = some (.dT kvs) ∧ Rt M H kvs m
  | .z o kvs ds => H p = some (.frz o (.dK kvs)) ∧ RpK M H kvs ds
  | .x ψ => ψ M H p ∧ StbO ψ
def NTup : HO → Prop
  | .tup _ => False
  | _ => True
/-- L: what may change, as ms tells it; M: all that is no part of data -/
structure At (L M : List Addr) (ms : List MD) (H : Hp) : Prop where
  nd : L.Nodup
  sub : ∀ p ∈ L, p ∈ M
  al : ∀ p ∈ M, ∃ o, H p = some o ∧ NTup o
  ln : L.length = ms.length
  ok : ∀ (k : Nat) (p : Addr) (m : MD), L[k]? = some p → ms[k]? = some m → MOk L M H k p m
section
variable {L M : List Addr} {ms : List MD} {H H' : Hp}
theorem MOk.toL {L L' M M' : List Addr} {p : Addr} {j : Nat} {m : MD} (t : To M M' H H') (hl : ∀ (k : Nat) (q : Addr), k < j → L[k]? = some q → L'[k]? = some q) (e : H' p = H p) (h : MOk L M H j p m) : MOk L' M' H' j p m := by
  cases m with
  | l es =>
    obtain ⟨xs, e1, r⟩ := h
    exact ⟨xs, by rw [e]; exact e1, RpA.to t _ _ r⟩
  | r ks =>
    obtain ⟨ps, e1, ln, r⟩ := h
    exact ⟨ps, by rw [e]; exact e1, ln, fun i k q h1 h2 => ⟨hl k q (r i k q h1 h2).2 (r i k q h1 h2).1, (r i k q h1 h2).2⟩⟩
  | k ds =>
    obtain ⟨kvs, e1, r⟩ := h
    exact ⟨kvs, by rw [e]; exact e1, r.toP t⟩
  | t ds =>
    obtain ⟨kvs, e1, r⟩ := h
    exact ⟨kvs, by rw [e]; exact e1, r.toP t⟩
  | z o kvs ds =>
    obtain ⟨e1, r⟩ := h
    exact ⟨by rw [e]; exact e1, r.toP t⟩
  | x ψ => exact ⟨h.2 _ _ _ _ _ t e h.1, h.2⟩
theorem MOk.to {L M M' : List Addr} {p : Addr} {j : Nat} {m : MD} (t : To M M' H H') (e : H' p = H p) (h : MOk L M H j p m) : MOk L M' H' j p m := h.toL t (fun _ _ _ q => q) e
theorem At.fresh (h : At L M ms H) {p : Addr} (e : H p = none) : p ∉ M := fun z => by
  obtain ⟨o, eo, _⟩ := h.al p z
  rw [e] at eo
  cases eo
theorem At.freshL (h : At L M ms H) {p : Addr} (e : H p = none) : p ∉ L := fun z => h.fresh e (h.sub p z)
theorem At.wk (h : At L M ms H) (w : Wk L H H') : To M M H H' := fun a o n e => ⟨n, w a o (fun z => n (h.sub a z)) e⟩
theorem At.new (h : At L M ms H) {p : Addr} {o : HO} (e : H p = none) : At L M ms (upd H p o) := by
  have ne : ∀ q, q ∈ M → q ≠ p := fun q hq z => h.fresh e (z ▸ hq)
  refine ⟨h.nd, h.sub, fun q hq => by rw [upd_ne (ne q hq)]; exact h.al q hq, h.ln, fun k q m e1 e2 => ?_⟩
  exact (h.ok k q m e1 e2).to (h.wk (Wk.new e)) (upd_ne (ne q (h.sub q (List.mem_of_getElem? e1))))
theorem At.put (h : At L M ms H) {k : Nat} {p : Addr} {xs xs0 : List V} {es : List PyData} (hk : L[k]? = some p) (e0 : H p = some (.lst xs0)) (r : RpA M H xs es) : At L M (ms.set k (.l es)) (upd H p (.lst xs)) := by
  have hp : p ∈ L := List.mem_of_getElem? hk
  have t : To M M H (upd H p (.lst xs)) := h.wk (Wk.mut hp e0)
  refine ⟨h.nd, h.sub, fun q hq => ?_, by rw [List.length_set]; exact h.ln, fun j q m e1 e2 => ?_⟩
  · by_cases e : q = p
    · subst e; rw [upd_same]; exact ⟨_, rfl, trivial⟩
    · rw [upd_ne e]; exact h.al q hq
  · by_cases hj : j = k
    · subst hj
      rw [e1] at hk
      cases hk
      have hl : j < ms.length := by rw [← h.ln]; exact (List.getElem?_eq_some_iff.mp e1).1
      rw [List.getElem?_set_self hl] at e2
      cases e2
      exact ⟨xs, upd_same, RpA.to t _ _ r⟩
    · rw [List.getElem?_set_ne (Ne.symm hj)] at e2
      have hq : q ≠ p := fun z => by
        subst z
        obtain ⟨l1, e1'⟩ := List.getElem?_eq_some_iff.mp e1
        obtain ⟨l2, e2'⟩ := List.getElem?_eq_some_iff.mp hk
        exact hj ((List.getElem_inj h.nd).mp (e1'.trans e2'.symm))
      exact (h.ok j q m e1 e2).to t (upd_ne hq)
theorem At.get (h : At L M ms H) {k : Nat} {p : Addr} {es : List PyData} (hk : L[k]? = some p) (e : ms[k]? = some (.l es)) : ∃ xs, H p = some (.lst xs) ∧ RpA M H xs es := h.ok k p _ hk e
/-- a new thing that may change -/
theorem to_new {p : Addr} (h : At L M ms H) (hp : H p = none) (w : Wk L H H') : To M (M ++ [p]) H H' := fun a o n e =>
  ⟨fun z => (List.mem_append.mp z).elim n fun z => ne_of_none e hp (by simpa using z), w a o (fun z => n (h.sub a z)) e⟩
theorem At.grow {p : Addr} {xs : List V} {es : List PyData} (h : At L M ms H) (hp : H p = none) (r : RpA M H xs es) : At (L ++ [p]) (M ++ [p]) (ms ++ [.l es]) (upd H p (.lst xs)) := by
  have n := h.freshL hp
  have t : To M (M ++ [p]) H (upd H p (.lst xs)) := to_new h hp (Wk.new hp)
  refine ⟨List.nodup_append.mpr ⟨h.nd, by simp, fun a ha b hb e => n (by simp at hb; subst hb e; exact ha)⟩, ?_, ?_, by simp [h.ln], fun k q m e1 e2 => ?_⟩
  · intro q hq
    rcases List.mem_append.mp hq with z | z
    · exact List.mem_append_left _ (h.sub q z)
    · exact List.mem_append_right _ z
  · intro q hq
    by_cases e : q = p
    · subst e; rw [upd_same]; exact ⟨_, rfl, trivial⟩
    · rw [upd_ne e]
      rcases List.mem_append.mp hq with z | z
      · exact h.al q z
      · exact absurd (by simpa using z) e
  · by_cases hk : k < L.length
    · rw [List.getElem?_append_left hk] at e1
      rw [List.getElem?_append_left (by rw [← h.ln]; exact hk)] at e2
      have hq : q ≠ p := fun z => n (z ▸ List.mem_of_getElem? e1)
      exact (h.ok k q m e1 e2).toL t (fun k' q' _ z => by rw [List.getElem?_append_left (List.getElem?_eq_some_iff.mp z).1]; exact z) (upd_ne hq)
    · have hk2 : k = L.length := by
        have := (List.getElem?_eq_some_iff.mp e1).1
        simp at this
        omega
      subst hk2
      simp at e1
      subst e1
      rw [h.ln] at e2
      simp at e2
      subst e2
      exact ⟨xs, upd_same, RpA.to t _ _ r⟩
theorem to_less {p : Addr} : To (M ++ [p]) M H H := fun a o n e => ⟨fun z => n (List.mem_append_left _ z), e⟩
theorem At.drop {p : Addr} {m : MD} (h : At (L ++ [p]) (M ++ [p]) (ms ++ [m]) H) (hl : ∀ q ∈ L, q ∈ M) : At L M ms H :=
  ⟨(List.nodup_append.mp h.nd).1, hl, fun q hq => h.al q (List.mem_append_left _ hq), by have := h.ln; simp at this; exact this, fun k q x e1 e2 => by
    have h1 : k < L.length := (List.getElem?_eq_some_iff.mp e1).1
    have h2 : k < ms.length := (List.getElem?_eq_some_iff.mp e2).1
    exact (h.ok k q x (by rw [List.getElem?_append_left h1]; exact e1) (by rw [List.getElem?_append_left h2]; exact e2)).toL to_less (fun k' q' hlt z => by rw [List.getElem?_append_left (by omega)] at z; exact z) rfl⟩
theorem At.last {p : Addr} {es : List PyData} (h : At (L ++ [p]) (M ++ [p]) (ms ++ [.l es]) H) : ∃ xs, H p = some (.lst xs) ∧ RpA (M ++ [p]) H xs es := by
  have hl : L.length = ms.length := by have := h.ln; simp at this; exact this
  exact h.ok L.length p (.l es) (by simp) (by rw [hl]; simp)
theorem At.putK (h : At L M ms H) {k : Nat} {p : Addr} {xs xs0 : List (Key × V)} {es : List (PyData × PyData)} (hk : L[k]? = some p) (e0 : H p = some (.dK xs0)) (r : RpK M H xs es) : At L M (ms.set k (.k es)) (upd H p (.dK xs)) := by
  have hp : p ∈ L := List.mem_of_getElem? hk
  have t : To M M H (upd H p (.dK xs)) := h.wk (Wk.mut hp e0)
  refine ⟨h.nd, h.sub, fun q hq => ?_, by rw [List.length_set]; exact h.ln, fun j q m e1 e2 => ?_⟩
  · by_cases e : q = p
    · subst e; rw [upd_same]; exact ⟨_, rfl, trivial⟩
    · rw [upd_ne e]; exact h.al q hq
  · by_cases hj : j = k
    · subst hj
      rw [e1] at hk
      cases hk
      have hl : j < ms.length := by rw [← h.ln]; exact (List.getElem?_eq_some_iff.mp e1).1
      rw [List.getElem?_set_self hl] at e2
      cases e2
      exact ⟨xs, upd_same, r.toP t⟩
    · rw [List.getElem?_set_ne (Ne.symm hj)] at e2
      have hq : q ≠ p := fun z => by
        subst z
        obtain ⟨l1, e1'⟩ := List.getElem?_eq_some_iff.mp e1
        obtain ⟨l2, e2'⟩ := List.getElem?_eq_some_iff.mp hk
        exact hj ((List.getElem_inj h.nd).mp (e1'.trans e2'.symm))
      exact (h.ok j q m e1 e2).to t (upd_ne hq)
theorem At.lastK {p : Addr} {es : List (PyData × PyData)} (h : At (L ++ [p]) (M ++ [p]) (ms ++ [.k es]) H) : ∃ xs, H p = some (.dK xs) ∧ RpK (M ++ [p]) H xs es := by
  have hl : L.length = ms.length := by have := h.ln; simp at this; exact this
  exact h.ok L.length p (.k es) (by simp) (by rw [hl]; simp)
theorem At.getK (h : At L M ms H) {k : Nat} {p : Addr} {es : List (PyData × PyData)} (hk : L[k]? = some p) (e : ms[k]? = some (.k es)) : ∃ xs, H p = some (.dK xs) ∧ RpK M H xs es := h.ok k p _ hk e
end
/-- a dict, of either kind -/
def IsDc (H : Hp) (p : Addr) : Prop := ∃ o, H p = some o ∧ (kindO o = 2 ∨ kindO o = 3)
/-- an object of another kind: a set, an instance -/
def IsOb (H : Hp) (p : Addr) : Prop := ∃ o, H p = some o ∧ kindO o = 4
/-- a fact that stays where what lies outside stays -/
def Stb (φ : List Addr → Hp → V → Prop) : Prop := ∀ (M M' : List Addr) (H H' : Hp) (v : V), To M M' H H' → φ M H v → φ M' H' v
def SlOk (K : PySem.W.Frag) (L M : List Addr) (H : Hp) : SD → V → Prop
  | .d x, v => Rp M H v x
  | .m k, v => ∃ p, v = .ref p ∧ L[k]? = some p ∧ ∃ xs, H p = some (.lst xs)
  | .q k, v => ∃ p, v = .ref p ∧ L[k]? = some p ∧ IsDc H p
  | .s ns, v => ∃ a, v = .ref a ∧ ((a ∉ M ∧ Rd H a (.lst (ns.map V.int))) ∨ ∀ H' : Hp, SqL K H' a (ns.map V.int))
  | .v x, v => v = x
  | .h φ, v => ∃ a, v = .ref a ∧ a ∉ M ∧ H a = some (φ a)
  | .w φ, v => φ M H v ∧ Stb φ
  | .o k, v => ∃ p, v = .ref p ∧ L[k]? = some p ∧ IsOb H p
  | _, _ => False
section
variable {L M : List Addr} {ms : List MD} {H H' : Hp} {σ : L2.St} {ds : List SD}
theorem kind_lst {p : Addr} {xs : List V} (kd : ∀ a o, H a = some o → ∃ o', H' a = some o' ∧ kindO o' = kindO o) (e : H p = some (.lst xs)) : ∃ ys, H' p = some (.lst ys) := by
  obtain ⟨o, e', k⟩ := kd p _ e
  cases o <;> first | exact ⟨_, e'⟩ | cases k | (rename_i b; cases b <;> cases k)
theorem IsDc.kind {p : Addr} (kd : ∀ a o, H a = some o → ∃ o', H' a = some o' ∧ kindO o' = kindO o) (h : IsDc H p) : IsDc H' p := by
  obtain ⟨o, e, k⟩ := h
  obtain ⟨o', e', k'⟩ := kd p o e
  exact ⟨o', e', by rw [k']; exact k⟩
theorem IsDc.notL {p : Addr} {xs : List V} (h : IsDc H p) (e : H p = some (.lst xs)) : False := by
  obtain ⟨o, e1, k⟩ := h
  rw [e] at e1
  cases e1
  rcases k with k | k <;> cases k
theorem IsOb.kind {p : Addr} (kd : ∀ a o, H a = some o → ∃ o', H' a = some o' ∧ kindO o' = kindO o) (h : IsOb H p) : IsOb H' p := by
  obtain ⟨o, e, k⟩ := h
  obtain ⟨o', e', k'⟩ := kd p o e
  exact ⟨o', e', by rw [k']; exact k⟩
theorem IsOb.notL {p : Addr} {xs : List V} (h : IsOb H p) (e : H p = some (.lst xs)) : False := by
  obtain ⟨o, e1, k⟩ := h
  rw [e] at e1
  cases e1
  cases k
theorem SlOk.to {L' M' : List Addr} (t : To M M' H H') (kd : ∀ a o, H a = some o → ∃ o', H' a = some o' ∧ kindO o' = kindO o) (hl : ∀ (k : Nat) (p : Addr), L[k]? = some p → L'[k]? = some p) : ∀ {s : SD} {v : V}, SlOk K L M H s v → SlOk K L' M' H' s v
  | .d x, v, h => Rp.to t _ _ h
  | .m k, v, ⟨p, e, q, xs, x⟩ => ⟨p, e, hl k p q, kind_lst kd x⟩
  | .q k, v, ⟨p, e, q, x⟩ => ⟨p, e, hl k p q, x.kind kd⟩
  | .s ns, v, ⟨a, e, .inl ⟨n, q⟩⟩ => ⟨a, e, .inl (by
      rcases q with q | ⟨o, q⟩
      · exact ⟨(t _ _ n q).1, .inl (t _ _ n q).2⟩
      · exact ⟨(t _ _ n q).1, .inr ⟨o, (t _ _ n q).2⟩⟩)⟩
  | .s ns, v, ⟨a, e, .inr q⟩ => ⟨a, e, .inr q⟩
  | .v x, v, h => h
  | .h φ, v, ⟨a, e, n, q⟩ => ⟨a, e, (t _ _ n q).1, (t _ _ n q).2⟩
  | .w φ, v, ⟨h, st⟩ => ⟨st _ _ _ _ _ t h, st⟩
  | .o k, v, ⟨p, e, q, x⟩ => ⟨p, e, hl k p q, x.kind kd⟩
  | .u, _, h => h.elim
  | .f _, _, h => h.elim
  | .g _, _, h => h.elim
theorem SlOk.mono (h : At L M ms H) (w : Wk L H H') {s : SD} {v : V} (r : SlOk K L M H s v) : SlOk K L M H' s v := r.to (h.wk w) w.kd fun _ _ e => e
def Sl (K : PySem.W.Frag) (L M : List Addr) (σ : L2.St) (H : Hp) (ds : List SD) : Prop := ∀ (i : Nat) (s : SD), ds[i]? = some s → match s with | .u => i < σ.length | s => ∃ v, σ[i]? = some (some v) ∧ SlOk K L M H s v
theorem Sl.lt (h : Sl K L M σ H ds) {i : Nat} (hi : i < ds.length) : i < σ.length := by
  have q := h i ds[i] (by simp [hi])
  split at q
  · exact q
  · obtain ⟨v, e, _⟩ := q
    exact (List.getElem?_eq_some_iff.mp e).1
theorem Sl.get (h : Sl K L M σ H ds) {i : Nat} {s : SD} (e : ds[i]? = some s) (n : s ≠ .u) : ∃ v, σ[i]? = some (some v) ∧ SlOk K L M H s v := by
  have q := h i s e
  split at q
  · exact absurd rfl n
  · exact q
theorem Sl.to {L' M' : List Addr} (t : To M M' H H') (kd : ∀ a o, H a = some o → ∃ o', H' a = some o' ∧ kindO o' = kindO o) (hl : ∀ (k : Nat) (p : Addr), L[k]? = some p → L'[k]? = some p) (h : Sl K L M σ H ds) : Sl K L' M' σ H' ds := fun i s e => by
  have q := h i s e
  split at q
  · exact q
  · obtain ⟨v, e1, e2⟩ := q
    exact ⟨v, e1, e2.to t kd hl⟩
theorem Sl.mono (a : At L M ms H) (w : Wk L H H') (h : Sl K L M σ H ds) : Sl K L M σ H' ds := h.to (a.wk w) w.kd fun _ _ e => e
theorem Sl.set (h : Sl K L M σ H ds) (i : Nat) {s : SD} {v : V} (r : SlOk K L M H s v) : Sl K L M (σ.set i (some v)) H (ds.set i s) := fun j t e => by
  by_cases hj : j = i
  · subst hj
    have hl : j < ds.length := by
      have := (List.getElem?_eq_some_iff.mp e).1
      rwa [List.length_set] at this
    rw [List.getElem?_set_self hl] at e
    cases e
    have hs := h.lt hl
    cases s with
    | u => exact r.elim
    | f _ => exact r.elim
    | g _ => exact r.elim
    | d x => exact ⟨v, List.getElem?_set_self hs, r⟩
    | m k => exact ⟨v, List.getElem?_set_self hs, r⟩
    | q k => exact ⟨v, List.getElem?_set_self hs, r⟩
    | s ns => exact ⟨v, List.getElem?_set_self hs, r⟩
    | v x => exact ⟨v, List.getElem?_set_self hs, r⟩
    | h φ => exact ⟨v, List.getElem?_set_self hs, r⟩
    | w φ => exact ⟨v, List.getElem?_set_self hs, r⟩
    | o k => exact ⟨v, List.getElem?_set_self hs, r⟩
  · rw [List.getElem?_set_ne (Ne.symm hj)] at e
    have q := h j t e
    split at q
    · show j < (σ.set i (some v)).length
      rw [List.length_set]; exact q
    · obtain ⟨w, e1, e2⟩ := q
      exact ⟨w, by rw [List.getElem?_set_ne (Ne.symm hj)]; exact e1, e2⟩
theorem Sl.forget (h : Sl K L M σ H ds) (i : Nat) (o : Option V) : Sl K L M (σ.set i o) H (ds.set i .u) := fun j t e => by
  by_cases hj : j = i
  · subst hj
    have hl : j < ds.length := by
      have := (List.getElem?_eq_some_iff.mp e).1
      rwa [List.length_set] at this
    rw [List.getElem?_set_self hl] at e
    cases e
    show j < (σ.set j o).length
    rw [List.length_set]; exact h.lt hl
  · rw [List.getElem?_set_ne (Ne.symm hj)] at e
    have q := h j t e
    split at q
    · show j < (σ.set i o).length
      rw [List.length_set]; exact q
    · obtain ⟨w, e1, e2⟩ := q
      exact ⟨w, by rw [List.getElem?_set_ne (Ne.symm hj)]; exact e1, e2⟩
end
def wipeD (ds : List SD) : List Nat → List SD
  | [] => ds
  | v :: vs => (wipeD ds vs).set v .u
theorem Sl.wipe {L M : List Addr} {σ : L2.St} {H : Hp} {ds : List SD} (h : Sl K L M σ H ds) : ∀ vs : List Nat, Sl K L M (L2.wipe σ vs) H (wipeD ds vs)
  | [] => h
  | v :: vs => (Sl.wipe h vs).forget v none
/-- what comes out of an evaluation that began at H -/
def Out (K : PySem.W.Frag) (L M : List Addr) (H H' : Hp) (ms : List MD) (v : V) : SD → Prop
  | .f es => ∃ p, v = .ref p ∧ H p = none ∧ p ∉ M ∧ At (L ++ [p]) (M ++ [p]) (ms ++ [.l es]) H' ∧ ∀ q ∈ L, q ∈ M
  | .g es => ∃ p, v = .ref p ∧ H p = none ∧ p ∉ M ∧ At (L ++ [p]) (M ++ [p]) (ms ++ [.k es]) H' ∧ ∀ q ∈ L, q ∈ M
  | s => At L M ms H' ∧ SlOk K L M H' s v
def dd : SD → SD
  | .f es => .d (.list es)
  | .g es => .d (.dict es)
  | s => s
section
variable {L M : List Addr} {ms : List MD} {H0 H H' : Hp} {v : V}
theorem Out.dd : ∀ {s : SD}, Out K L M H H' ms v s → Out K L M H H' ms v (dd s)
  | .f es, ⟨p, e, _, n, a, sb⟩ => by
    obtain ⟨xs, e1, r⟩ := a.last
    refine ⟨a.drop sb, ?_⟩
    subst e
    exact .lst n e1 (RpA.to to_less _ _ r)
  | .g es, ⟨p, e, _, n, a, sb⟩ => by
    obtain ⟨xs, e1, r⟩ := a.lastK
    refine ⟨a.drop sb, ?_⟩
    subst e
    exact .dct n e1 (r.toP to_less)
  | .d x, h => h
  | .m k, h => h
  | .q k, h => h
  | .s ns, h => h
  | .v x, h => h
  | .h x, h => h
  | .w x, h => h
  | .o x, h => h
  | .u, h => h
theorem none_back (a : At L M ms H) {p : Addr} (w : Wk L H0 H) (n : p ∉ M) (h : H p = none) : H0 p = none := by
  cases q : H0 p with
  | none => rfl
  | some o =>
    rw [w p o (fun z => n (a.sub p z)) q] at h
    cases h
theorem Out.back (a : At L M ms0 H) (w : Wk L H0 H) : ∀ {s : SD}, Out K L M H H' ms v s → Out K L M H0 H' ms v s
  | .f es, ⟨p, e, h, n, b, sb⟩ => ⟨p, e, none_back a w n h, n, b, sb⟩
  | .g es, ⟨p, e, h, n, b, sb⟩ => ⟨p, e, none_back a w n h, n, b, sb⟩
  | .d x, h => h
  | .m k, h => h
  | .q k, h => h
  | .s ns, h => h
  | .v x, h => h
  | .h x, h => h
  | .w x, h => h
  | .o x, h => h
  | .u, h => h
theorem Out.at : ∀ {s : SD}, Out K L M H H' ms v s → At L M ms H'
  | .f es, ⟨p, _, _, _, a, sb⟩ => a.drop sb
  | .g es, ⟨p, _, _, _, a, sb⟩ => a.drop sb
  | .d _, h => h.1
  | .m _, h => h.1
  | .q _, h => h.1
  | .s _, h => h.1
  | .v _, h => h.1
  | .h _, h => h.1
  | .w _, h => h.1
  | .o _, h => h.1
  | .u, h => h.1
theorem Out.of (a : At L M ms H') : ∀ {s : SD}, SlOk K L M H' s v → Out K L M H H' ms v s
  | .d x, h => ⟨a, h⟩
  | .m k, h => ⟨a, h⟩
  | .q k, h => ⟨a, h⟩
  | .s ns, h => ⟨a, h⟩
  | .v x, h => ⟨a, h⟩
  | .h x, h => ⟨a, h⟩
  | .w x, h => ⟨a, h⟩
  | .o x, h => ⟨a, h⟩
  | .u, h => h.elim
  | .f _, h => h.elim
  | .g _, h => h.elim
theorem Out.sl : ∀ {s : SD}, Out K L M H H' ms v s → SlOk K L M H' (Hc.dd s) v
  | .f es, h => (Out.dd h).2
  | .g es, h => (Out.dd h).2
  | .d _, h => h.2
  | .m _, h => h.2
  | .q _, h => h.2
  | .s _, h => h.2
  | .v _, h => h.2
  | .h _, h => h.2
  | .w _, h => h.2
  | .o _, h => h.2
  | .u, h => h.2
end

/-! ### evaluations, at the level of data -/
abbrev RS := SD → List MD → Prop
def E (K : PySem.W.Frag) (te : TE) (ds : List SD) (ms : List MD) (R : RS) : Prop :=
  ∀ (L M : List Addr) (σ : L2.St) (H : Hp), Sl K L M σ H ds → At L M ms H → ∀ Q : VK, (∀ s v H' ms', Wk L H H' → Out K L M H H' ms' v s → R s ms' → Q v H') → te σ H Q
def ET (K : PySem.W.Frag) (tt : TT) (ds : List SD) (ms : List MD) (R : Bool → List MD → Prop) : Prop :=
  ∀ (L M : List Addr) (σ : L2.St) (H : Hp), Sl K L M σ H ds → At L M ms H → ∀ Q : Bool → Hp → Prop, (∀ b H' ms', Wk L H H' → At L M ms' H' → R b ms' → Q b H') → tt σ H Q
def SlsOk (K : PySem.W.Frag) (L M : List Addr) (H : Hp) : List SD → List V → Prop
  | [], vs => vs = []
  | s :: r, vs => ∃ v t, vs = v :: t ∧ SlOk K L M H s v ∧ SlsOk K L M H r t
theorem SlsOk.mono {L M : List Addr} {ms : List MD} {H H' : Hp} (h : At L M ms H) (w : Wk L H H') : ∀ {as : List SD} {vs : List V}, SlsOk K L M H as vs → SlsOk K L M H' as vs
  | [], _, r => r
  | s :: r, _, ⟨v, t, e, a, b⟩ => ⟨v, t, e, a.mono h w, SlsOk.mono h w b⟩
def EA (K : PySem.W.Frag) (ta : TA) (ds : List SD) (ms : List MD) (R : List SD → List MD → Prop) : Prop :=
  ∀ (L M : List Addr) (σ : L2.St) (H : Hp), Sl K L M σ H ds → At L M ms H → ∀ Q : List V → Hp → Prop, (∀ as vs H' ms', Wk L H H' → At L M ms' H' → SlsOk K L M H' as vs → R as ms' → Q vs H') → ta σ H Q
/-- operations on values -/
def RR (K : PySem.W.Frag) (r : R2) (a b : SD) (ms : List MD) (R : RS) : Prop :=
  ∀ (L M : List Addr) (H : Hp) (x y : V), At L M ms H → SlOk K L M H a x → SlOk K L M H b y → ∀ Q : VK, (∀ s v H' ms', Wk L H H' → Out K L M H H' ms' v s → R s ms' → Q v H') → r x y H Q
def RU (K : PySem.W.Frag) (r : V → Hp → VK → Prop) (a : SD) (ms : List MD) (R : RS) : Prop :=
  ∀ (L M : List Addr) (H : Hp) (x : V), At L M ms H → SlOk K L M H a x → ∀ Q : VK, (∀ s v H' ms', Wk L H H' → Out K L M H H' ms' v s → R s ms' → Q v H') → r x H Q
def RC (K : PySem.W.Frag) (r : List V → Hp → VK → Prop) (as : List SD) (ms : List MD) (R : RS) : Prop :=
  ∀ (L M : List Addr) (H : Hp) (vs : List V), At L M ms H → SlsOk K L M H as vs → ∀ Q : VK, (∀ s v H' ms', Wk L H H' → Out K L M H H' ms' v s → R s ms' → Q v H') → r vs H Q

variable {te ta tb tc : TE} {tt tu : TT} {tA tB : TA} {ds : List SD} {ms : List MD} {R : RS}
theorem e_var {i : Nat} {x : PyData} (h : ds[i]? = some (.d x)) (r : R (.d x) ms) : E K (tVar i) ds ms R := fun L M σ H hS hA Q q => by
  obtain ⟨v, e, o⟩ := hS.get h (fun z => nomatch z)
  exact ⟨v, e, q _ v H ms (Wk.refl L H) (.of hA o) r⟩
theorem e_varm {i k : Nat} (h : ds[i]? = some (.m k)) (r : R (.m k) ms) : E K (tVar i) ds ms R := fun L M σ H hS hA Q q => by
  obtain ⟨v, e, o⟩ := hS.get h (fun z => nomatch z)
  exact ⟨v, e, q _ v H ms (Wk.refl L H) (.of hA o) r⟩
theorem e_vars {i : Nat} {ns : List Int} (h : ds[i]? = some (.s ns)) (r : R (.s ns) ms) : E K (tVar i) ds ms R := fun L M σ H hS hA Q q => by
  obtain ⟨v, e, o⟩ := hS.get h (fun z => nomatch z)
  exact ⟨v, e, q _ v H ms (Wk.refl L H) (.of hA o) r⟩
theorem e_int {i : Int} (r : R (.d (.int i)) ms) : E K (tC (.int i)) ds ms R := fun L M σ H hS hA Q q => q (.d (.int i)) _ H ms (Wk.refl L H) ⟨hA, .int i⟩ r
theorem e_bl {i : Bool} (r : R (.d (.bool i)) ms) : E K (tC (.bl i)) ds ms R := fun L M σ H hS hA Q q => q (.d (.bool i)) _ H ms (Wk.refl L H) ⟨hA, .bl i⟩ r
theorem e_non (r : R (.d .none) ms) : E K (tC .non) ds ms R := fun L M σ H hS hA Q q => q (.d .none) _ H ms (Wk.refl L H) ⟨hA, .non⟩ r
theorem e_str {x : Str} (r : R (.d (.str x)) ms) : E K (tC (.str x)) ds ms R := fun L M σ H hS hA Q q => q (.d (.str x)) _ H ms (Wk.refl L H) ⟨hA, .str x⟩ r
/-- two operands, then the operation -/
theorem e_op {r : R2} (h : E K ta ds ms fun a ms1 => E K tb ds ms1 fun b ms2 => RR K r (dd a) (dd b) ms2 R) : E K (tOp r ta tb) ds ms R := fun L M σ H hS hA Q q =>
  h L M σ H hS hA _ fun a x H1 ms1 w1 o1 h1 => h1 L M σ H1 (hS.mono hA w1) o1.at _ fun b y H2 ms2 w2 o2 h2 =>
    h2 L M H2 x y o2.at (o1.sl.mono o1.at w2) o2.sl Q fun s v H3 ms3 w3 o3 r3 => q s v H3 ms3 ((w1.trans w2).trans w3) (o3.back o2.at (w1.trans w2)) r3
theorem e_un {r : V → Hp → VK → Prop} (h : E K ta ds ms fun a ms1 => RU K r (dd a) ms1 R) : E K (tUn r ta) ds ms R := fun L M σ H hS hA Q q =>
  h L M σ H hS hA _ fun a x H1 ms1 w1 o1 h1 => h1 L M H1 x o1.at o1.sl Q fun s v H3 ms3 w3 o3 r3 => q s v H3 ms3 (w1.trans w3) (o3.back o1.at w1) r3
theorem ea_nil {R : List SD → List MD → Prop} (r : R [] ms) : EA K tNil ds ms R := fun L M σ H hS hA Q q => q [] [] H ms (Wk.refl L H) hA rfl r
theorem ea_cons {R : List SD → List MD → Prop} (h : E K ta ds ms fun a ms1 => EA K tA ds ms1 fun as ms2 => R (dd a :: as) ms2) : EA K (tCons ta tA) ds ms R := fun L M σ H hS hA Q q =>
  h L M σ H hS hA _ fun a x H1 ms1 w1 o1 h1 => h1 L M σ H1 (hS.mono hA w1) o1.at _ fun as vs H2 ms2 w2 a2 o2 r2 => q (dd a :: as) (x :: vs) H2 ms2 (w1.trans w2) a2 ⟨x, vs, rfl, o1.sl.mono o1.at w2, o2⟩ r2
theorem e_cb {r : List V → Hp → VK → Prop} (h : EA K tA ds ms fun as ms1 => RC K r as ms1 R) : E K (tCB r tA) ds ms R := fun L M σ H hS hA Q q =>
  h L M σ H hS hA _ fun as vs H1 ms1 w1 a1 o1 h1 => h1 L M H1 vs a1 o1 Q fun s v H3 ms3 w3 o3 r3 => q s v H3 ms3 (w1.trans w3) (o3.back a1 w1) r3
theorem SlsOk.data {L M : List Addr} {H : Hp} : ∀ {as : List PyData} {vs : List V}, SlsOk K L M H (as.map .d) vs → RpA M H vs as
  | [], _, h => by cases h; exact .nil
  | a :: r, _, ⟨v, t, e, x, y⟩ => by subst e; exact .cons x (SlsOk.data y)
/-- new tuples and lists -/
theorem e_tup (h : EA K tA ds ms fun as ms1 => ∃ xs, as = xs.map SD.d ∧ xs.length ≤ 10000 ∧ R (.d (.tuple xs)) ms1) : E K (tTup tA) ds ms R := fun L M σ H hS hA Q q =>
  h L M σ H hS hA _ fun as vs H1 ms1 w1 a1 o1 ⟨xs, e, hz, r⟩ => by
    subst e
    have hr := o1.data
    refine ⟨by rw [hr.length]; exact Nat.le_trans hz (by decide), fun p hp => ?_⟩
    refine q (.d (.tuple xs)) _ _ ms1 (w1.trans (Wk.new hp)) ⟨a1.new hp, ?_⟩ r
    exact .tup (a1.fresh hp) upd_same (RpA.to (a1.wk (Wk.new hp)) _ _ hr)
theorem out_new {L M : List Addr} {H H1 : Hp} {ms1 : List MD} {p : Addr} {xs : List V} {es : List PyData} (a1 : At L M ms1 H1) (w1 : Wk L H H1) (hp : H1 p = none) (hr : RpA M H1 xs es) : Out K L M H (upd H1 p (.lst xs)) ms1 (.ref p) (.f es) :=
  ⟨p, rfl, none_back a1 w1 (a1.fresh hp) hp, a1.fresh hp, a1.grow hp hr, a1.sub⟩
theorem e_lst (h : EA K tA ds ms fun as ms1 => ∃ xs, as = xs.map SD.d ∧ xs.length ≤ 10000 ∧ R (.f xs) ms1) : E K (tLst tA) ds ms R := fun L M σ H hS hA Q q =>
  h L M σ H hS hA _ fun as vs H1 ms1 w1 a1 o1 ⟨xs, e, hz, r⟩ => by
    subst e
    have hr := o1.data
    refine ⟨by rw [hr.length]; exact Nat.le_trans hz (by decide), fun p hp => ?_⟩
    exact q (.f xs) _ _ ms1 (w1.trans (Wk.new hp)) (out_new a1 w1 hp hr) r
/-! operations -/
theorem rr_I0 {g : Int → Int → Int} {a b : SD} (h : ∃ i j, a = .d (.int i) ∧ b = .d (.int j) ∧ R (.d (.int (g i j))) ms) : RR K (rI0 fun i j => .int (g i j)) a b ms R := fun L M H x y hA ha hb Q q => by
  obtain ⟨i, j, rfl, rfl, r⟩ := h
  cases ha; cases hb
  exact ⟨i, j, rfl, rfl, q (.d _) _ H ms (Wk.refl L H) ⟨hA, .int _⟩ r⟩
theorem rr_B0 {g : Int → Int → Bool} {a b : SD} (h : ∃ i j, a = .d (.int i) ∧ b = .d (.int j) ∧ R (.d (.bool (g i j))) ms) : RR K (rI0 fun i j => .bl (g i j)) a b ms R := fun L M H x y hA ha hb Q q => by
  obtain ⟨i, j, rfl, rfl, r⟩ := h
  cases ha; cases hb
  exact ⟨i, j, rfl, rfl, q (.d _) _ H ms (Wk.refl L H) ⟨hA, .bl _⟩ r⟩
theorem rr_I {C : Int → Int → Prop} {g : Int → Int → Int} {a b : SD} (h : ∃ i j, a = .d (.int i) ∧ b = .d (.int j) ∧ C i j ∧ R (.d (.int (g i j))) ms) : RR K (rI C fun i j => .int (g i j)) a b ms R := fun L M H x y hA ha hb Q q => by
  obtain ⟨i, j, rfl, rfl, c, r⟩ := h
  cases ha; cases hb
  exact ⟨i, j, rfl, rfl, c, q (.d _) _ H ms (Wk.refl L H) ⟨hA, .int _⟩ r⟩
theorem ru_I {g : Int → Int} {a : SD} (h : ∃ i, a = .d (.int i) ∧ R (.d (.int (g i))) ms) : RU K (rU fun i => .int (g i)) a ms R := fun L M H x hA ha Q q => by
  obtain ⟨i, rfl, r⟩ := h
  cases ha
  exact ⟨i, rfl, q (.d _) _ H ms (Wk.refl L H) ⟨hA, .int _⟩ r⟩
/-- a slot's datum, as it may be read -/
inductive Sv (ms : List MD) : SD → PyData → Prop
  | d (x : PyData) : Sv ms (.d x) x
  | m {k : Nat} {es : List PyData} : ms[k]? = some (.l es) → Sv ms (.m k) (.list es)
  | s (ns : List Int) : Sv ms (.s ns) (.list (ns.map .int))
section
variable {L M : List Addr} {H : Hp} {s : SD} {x : PyData} {v : V}
theorem Sv.lst {es : List PyData} (h : Sv ms s (.list es)) (hA : At L M ms H) (o : SlOk K L M H s v) : ∃ a xs, v = .ref a ∧ SqL K H a xs ∧ RpA M H xs es := by
  cases h with
  | d =>
    cases o with
    | lst n e r => exact ⟨_, _, rfl, SqL.of e, r⟩
  | m e =>
    obtain ⟨p, rfl, hp, hls⟩ := o
    obtain ⟨xs, e1, r⟩ := hA.get hp e
    exact ⟨p, xs, rfl, SqL.of e1, r⟩
  | s ns =>
    obtain ⟨a, rfl, ⟨_, q⟩ | q⟩ := o
    · exact ⟨a, _, rfl, .inl q, RpA.ints ns⟩
    · exact ⟨a, _, rfl, q H, RpA.ints ns⟩
theorem Sv.tup {es : List PyData} (h : Sv ms s (.tuple es)) (o : SlOk K L M H s v) : ∃ a xs, v = .ref a ∧ H a = some (.tup xs) ∧ RpA M H xs es := by
  cases h with
  | d =>
    cases o with
    | tup n e r => exact ⟨_, _, rfl, e, r⟩
theorem Sv.dp (h : Sv ms s x) (hA : At L M ms H) (o : SlOk K L M H s v) (c : x.canLay0 = true) : Dp K H v x := by
  cases h with
  | d => exact Rp.dp _ _ c o
  | m e =>
    obtain ⟨a, xs, rfl, q, r⟩ := Sv.lst (.m e) hA o
    exact .lst q (RpA.dp _ _ (by simpa [PyData.canLay0] using c) r)
  | s ns =>
    obtain ⟨a, xs, rfl, q, r⟩ := Sv.lst (.s ns) hA o
    exact .lst q (RpA.dp _ _ (by simpa [PyData.canLay0] using c) r)
theorem Sv.ty (h : Sv ms s x) (hA : At L M ms H) (o : SlOk K L M H s v) (hs : ∀ ns, s ≠ .s ns) : TyX K H v (.type (tyN x)) := by
  cases h with
  | d => exact Rp.ty o
  | m e =>
    obtain ⟨p, rfl, hp, hls⟩ := o
    obtain ⟨xs, e1, r⟩ := hA.get hp e
    exact .base (.lst e1)
  | s ns => exact absurd rfl (hs ns)
end
theorem rr_eq {a b : SD} (h : ∃ x y, Sv ms a x ∧ Sv ms b y ∧ SeqAt.shaped x = true ∧ SeqAt.shaped y = true ∧ R (.d (.bool (PyData.eqv x y))) ms) : RR K (rEqD K) a b ms R := fun L M H u v hA ha hb Q q => by
  obtain ⟨x, y, ea, eb, s1, s2, r⟩ := h
  exact ⟨x, y, ea.dp hA ha (SeqAt.canLay_of_shaped s1), eb.dp hA hb (SeqAt.canLay_of_shaped s2), s1, s2, q (.d _) _ H ms (Wk.refl L H) ⟨hA, .bl _⟩ r⟩
theorem rr_ne {a b : SD} (h : ∃ x y, Sv ms a x ∧ Sv ms b y ∧ SeqAt.shaped x = true ∧ SeqAt.shaped y = true ∧ R (.d (.bool (!PyData.eqv x y))) ms) : RR K (rNeD K) a b ms R := fun L M H u v hA ha hb Q q => by
  obtain ⟨x, y, ea, eb, s1, s2, r⟩ := h
  exact ⟨x, y, ea.dp hA ha (SeqAt.canLay_of_shaped s1), eb.dp hA hb (SeqAt.canLay_of_shaped s2), s1, s2, q (.d _) _ H ms (Wk.refl L H) ⟨hA, .bl _⟩ r⟩
end
end Hc

namespace Hc
open PySem PySem.Spec PyProof.Rows L2
section
variable {K : PySem.W.Frag} {te ta tb tc tl : TE} {tt tu : TT} {tA tB : TA} {ds : List SD} {ms : List MD} {R : RS}
/-! ### tests -/
theorem et_test {RB : Bool → List MD → Prop} (h : E K te ds ms fun s ms1 => ∃ b, s = .d (.bool b) ∧ RB b ms1) : ET K (tTest te) ds ms RB := fun L M σ H hS hA Q q =>
  h L M σ H hS hA _ fun s v H1 ms1 w o ⟨b, e, r⟩ => by
    subst e
    obtain ⟨a, z⟩ := o
    cases z
    exact ⟨b, rfl, q b H1 ms1 w a r⟩
theorem et_B {RB : Bool → List MD → Prop} (h : E K te ds ms fun s ms1 => ∃ b, s = .d (.bool b) ∧ RB b ms1) : ET K (L2.tB te) ds ms RB := fun L M σ H hS hA Q q =>
  h L M σ H hS hA _ fun s v H1 ms1 w o ⟨b, e, r⟩ => by
    subst e
    obtain ⟨a, z⟩ := o
    cases z
    exact ⟨b, rfl, q b H1 ms1 w a r⟩
theorem et_and {RB : Bool → List MD → Prop} (h : ET K tt ds ms fun b ms1 => (b = true → ET K tu ds ms1 RB) ∧ (b = false → RB false ms1)) : ET K (tAnd tt tu) ds ms RB := fun L M σ H hS hA Q q =>
  h L M σ H hS hA _ fun b H1 ms1 w a ⟨r1, r2⟩ => by
    cases b with
    | true =>
      show tu σ H1 Q
      exact r1 rfl L M σ H1 (hS.mono hA w) a Q fun c H2 ms2 w2 a2 r => q c H2 ms2 (w.trans w2) a2 r
    | false => exact q false H1 ms1 w a (r2 rfl)
theorem et_or {RB : Bool → List MD → Prop} (h : ET K tt ds ms fun b ms1 => (b = true → RB true ms1) ∧ (b = false → ET K tu ds ms1 RB)) : ET K (tOr tt tu) ds ms RB := fun L M σ H hS hA Q q =>
  h L M σ H hS hA _ fun b H1 ms1 w a ⟨r1, r2⟩ => by
    cases b with
    | false =>
      show tu σ H1 Q
      exact r2 rfl L M σ H1 (hS.mono hA w) a Q fun c H2 ms2 w2 a2 r => q c H2 ms2 (w.trans w2) a2 r
    | true => exact q true H1 ms1 w a (r1 rfl)
theorem et_not {RB : Bool → List MD → Prop} (h : ET K tt ds ms fun b ms1 => RB (!b) ms1) : ET K (tNot tt) ds ms RB := fun L M σ H hS hA Q q =>
  h L M σ H hS hA _ fun b H1 ms1 w a r => q (!b) H1 ms1 w a r
theorem et_yes {RB : Bool → List MD → Prop} (h : RB true ms) : ET K tYes ds ms RB := fun L M σ H hS hA Q q => q true H ms (Wk.refl L H) hA h
theorem e_and (h : E K ta ds ms fun s ms1 => ∃ b, s = .d (.bool b) ∧ (b = true → E K tb ds ms1 R) ∧ (b = false → R (.d (.bool false)) ms1)) : E K (tAndV ta tb) ds ms R := fun L M σ H hS hA Q q =>
  h L M σ H hS hA _ fun s v H1 ms1 w o ⟨b, e, r1, r2⟩ => by
    subst e
    obtain ⟨a, z⟩ := o
    cases z
    refine ⟨b, rfl, ?_⟩
    cases b with
    | true =>
      show tb σ H1 Q
      exact r1 rfl L M σ H1 (hS.mono hA w) a Q fun s v H2 ms2 w2 o2 r => q s v H2 ms2 (w.trans w2) (o2.back a w) r
    | false => exact q (.d (.bool false)) _ H1 ms1 w ⟨a, .bl false⟩ (r2 rfl)
theorem e_or (h : E K ta ds ms fun s ms1 => ∃ b, s = .d (.bool b) ∧ (b = true → R (.d (.bool true)) ms1) ∧ (b = false → E K tb ds ms1 R)) : E K (tOrV ta tb) ds ms R := fun L M σ H hS hA Q q =>
  h L M σ H hS hA _ fun s v H1 ms1 w o ⟨b, e, r1, r2⟩ => by
    subst e
    obtain ⟨a, z⟩ := o
    cases z
    refine ⟨b, rfl, ?_⟩
    cases b with
    | false =>
      show tb σ H1 Q
      exact r2 rfl L M σ H1 (hS.mono hA w) a Q fun s v H2 ms2 w2 o2 r => q s v H2 ms2 (w.trans w2) (o2.back a w) r
    | true => exact q (.d (.bool true)) _ H1 ms1 w ⟨a, .bl true⟩ (r1 rfl)
theorem e_not (h : E K ta ds ms fun s ms1 => ∃ b, s = .d (.bool b) ∧ R (.d (.bool (!b))) ms1) : E K (tNotV ta) ds ms R := fun L M σ H hS hA Q q =>
  h L M σ H hS hA _ fun s v H1 ms1 w o ⟨b, e, r⟩ => by
    subst e
    obtain ⟨a, z⟩ := o
    cases z
    exact ⟨b, rfl, q (.d (.bool (!b))) _ H1 ms1 w ⟨a, .bl (!b)⟩ r⟩
theorem e_if (h : ET K tt ds ms fun b ms1 => (b = true → E K ta ds ms1 R) ∧ (b = false → E K tb ds ms1 R)) : E K (tIf tt ta tb) ds ms R := fun L M σ H hS hA Q q =>
  h L M σ H hS hA _ fun b H1 ms1 w a ⟨r1, r2⟩ => by
    cases b with
    | true =>
      show ta σ H1 Q
      exact r1 rfl L M σ H1 (hS.mono hA w) a Q fun s v H2 ms2 w2 o2 r => q s v H2 ms2 (w.trans w2) (o2.back a w) r
    | false =>
      show tb σ H1 Q
      exact r2 rfl L M σ H1 (hS.mono hA w) a Q fun s v H2 ms2 w2 o2 r => q s v H2 ms2 (w.trans w2) (o2.back a w) r
theorem e_chain {r r' : R2} (h : E K ta ds ms fun a ms1 => E K tb ds ms1 fun b ms2 => RR K r (dd a) (dd b) ms2 fun s ms3 => ∃ k, s = .d (.bool k) ∧ (k = true → E K tc ds ms3 fun c ms4 => ∀ b', b' = dd b → RR K r' b' (dd c) ms4 R) ∧ (k = false → R (.d (.bool false)) ms3)) :
    E K (tChain r r' ta tb tc) ds ms R := fun L M σ H hS hA Q q =>
  h L M σ H hS hA _ fun a x H1 ms1 w1 o1 h1 => h1 L M σ H1 (hS.mono hA w1) o1.at _ fun b y H2 ms2 w2 o2 h2 =>
    h2 L M H2 x y o2.at (o1.sl.mono o1.at w2) o2.sl _ fun s z H3 ms3 w3 o3 ⟨k, e, k1, k2⟩ => by
      subst e
      obtain ⟨a3, zz⟩ := o3
      cases zz
      refine ⟨k, rfl, ?_⟩
      have w13 := (w1.trans w2).trans w3
      cases k with
      | true =>
        show tc σ H3 _
        exact k1 rfl L M σ H3 (hS.mono hA w13) a3 _ fun c u H4 ms4 w4 o4 h4 => h4 _ rfl L M H4 y u o4.at ((o2.sl.mono o2.at w3).mono a3 w4) o4.sl Q fun s v H5 ms5 w5 o5 r5 => q s v H5 ms5 ((w13.trans w4).trans w5) (o5.back o4.at (w13.trans w4)) r5
      | false => exact q (.d (.bool false)) _ H3 ms3 w13 ⟨a3, .bl false⟩ (k2 rfl)
/-! ### more operations -/
theorem atI_of {M : List Addr} {H : Hp} {xs : List V} {es : List PyData} {i : Int} {d : PyData} (r : RpA M H xs es) (h : atI es i = some d) : ∃ v, atI xs i = some v ∧ Rp M H v d := by
  unfold atI at h ⊢
  rw [r.length]
  cases e : ixN es.length i with
  | none => rw [e] at h; cases h
  | some j =>
    rw [e] at h
    obtain ⟨v, e1, e2⟩ := r.get (show es[j]? = some d from h)
    exact ⟨v, e1, e2⟩
theorem rr_ixL {a b : SD} (h : ∃ es i d, Sv ms a (.list es) ∧ b = .d (.int i) ∧ atI es i = some d ∧ R (.d d) ms) : RR K (rIxL K) a b ms R := fun L M H x y hA ha hb Q q => by
  obtain ⟨es, i, d, sa, rfl, e, r⟩ := h
  cases hb
  obtain ⟨p, xs, rfl, hq, hr⟩ := sa.lst hA ha
  obtain ⟨v, e1, e2⟩ := atI_of hr e
  exact ⟨p, xs, i, v, rfl, rfl, hq, e1, q (.d d) v H ms (Wk.refl L H) ⟨hA, e2⟩ r⟩
theorem rr_ixT {a b : SD} (h : ∃ es i d, Sv ms a (.tuple es) ∧ b = .d (.int i) ∧ atI es i = some d ∧ R (.d d) ms) : RR K (rIxT K) a b ms R := fun L M H x y hA ha hb Q q => by
  obtain ⟨es, i, d, sa, rfl, e, r⟩ := h
  cases hb
  obtain ⟨p, xs, rfl, hq, hr⟩ := sa.tup ha
  obtain ⟨v, e1, e2⟩ := atI_of hr e
  exact ⟨p, xs, i, v, rfl, rfl, SqT.of hq, e1, q (.d d) v H ms (Wk.refl L H) ⟨hA, e2⟩ r⟩
theorem rr_isB {a b : SD} (h : ∃ i j, a = .d (.bool i) ∧ b = .d (.bool j) ∧ R (.d (.bool (decide (i = j)))) ms) : RR K rIsB a b ms R := fun L M H x y hA ha hb Q q => by
  obtain ⟨i, j, rfl, rfl, r⟩ := h
  cases ha; cases hb
  exact ⟨i, j, rfl, rfl, q (.d _) _ H ms (Wk.refl L H) ⟨hA, .bl _⟩ r⟩
theorem rr_notB {a b : SD} (h : ∃ i j, a = .d (.bool i) ∧ b = .d (.bool j) ∧ R (.d (.bool (!decide (i = j)))) ms) : RR K rNotB a b ms R := fun L M H x y hA ha hb Q q => by
  obtain ⟨i, j, rfl, rfl, r⟩ := h
  cases ha; cases hb
  exact ⟨i, j, rfl, rfl, q (.d _) _ H ms (Wk.refl L H) ⟨hA, .bl _⟩ r⟩
theorem cat_lst {M : List Addr} {H : Hp} {x : V} {es : List PyData} (h : Rp M H x (.list es)) : ∃ p xs, x = .ref p ∧ H p = some (.lst xs) ∧ RpA M H xs es := by
  cases h with
  | lst n e r => exact ⟨_, _, rfl, e, r⟩
theorem rr_cat {a b : SD} (h : ∃ es fs, a = .d (.list es) ∧ b = .d (.list fs) ∧ es.length + fs.length ≤ 10000 ∧ R (.f (es ++ fs)) ms) : RR K rCat a b ms R := fun L M H x y hA ha hb Q q => by
  obtain ⟨es, fs, rfl, rfl, hz, r⟩ := h
  obtain ⟨p, xs, rfl, e1, r1⟩ := cat_lst ha
  obtain ⟨p2, ys, rfl, e2, r2⟩ := cat_lst hb
  refine ⟨p, p2, xs, ys, rfl, rfl, e1, e2, by rw [r1.length, r2.length]; exact Nat.le_trans hz (by decide), fun l hl => ?_⟩
  exact q (.f (es ++ fs)) _ _ ms (Wk.new hl) (out_new hA (Wk.refl L H) hl (r1.append r2)) r
/-! ### built-ins -/
theorem rc_abs {as : List SD} (h : ∃ i, as = [.d (.int i)] ∧ R (.d (.int (if i < 0 then -i else i))) ms) : RC K (fun xs H Q => ∃ i, xs = [.int i] ∧ Q (.int (if i < 0 then -i else i)) H) as ms R := fun L M H vs hA ha Q q => by
  obtain ⟨i, rfl, r⟩ := h
  obtain ⟨v, t, rfl, hv, rfl⟩ := ha
  cases hv
  exact ⟨i, rfl, q (.d _) _ H ms (Wk.refl L H) ⟨hA, .int _⟩ r⟩
theorem rc_max {as : List SD} (h : ∃ i j, as = [.d (.int i), .d (.int j)] ∧ R (.d (.int (if j > i then j else i))) ms) : RC K (fun xs H Q => ∃ i j, xs = [.int i, .int j] ∧ Q (.int (if j > i then j else i)) H) as ms R := fun L M H vs hA ha Q q => by
  obtain ⟨i, j, rfl, r⟩ := h
  obtain ⟨v, t, rfl, hv, v2, t2, rfl, hv2, rfl⟩ := ha
  cases hv; cases hv2
  exact ⟨i, j, rfl, q (.d _) _ H ms (Wk.refl L H) ⟨hA, .int _⟩ r⟩
theorem rc_min {as : List SD} (h : ∃ i j, as = [.d (.int i), .d (.int j)] ∧ R (.d (.int (if j < i then j else i))) ms) : RC K (fun xs H Q => ∃ i j, xs = [.int i, .int j] ∧ Q (.int (if j < i then j else i)) H) as ms R := fun L M H vs hA ha Q q => by
  obtain ⟨i, j, rfl, r⟩ := h
  obtain ⟨v, t, rfl, hv, v2, t2, rfl, hv2, rfl⟩ := ha
  cases hv; cases hv2
  exact ⟨i, j, rfl, q (.d _) _ H ms (Wk.refl L H) ⟨hA, .int _⟩ r⟩
theorem rc_len {as : List SD} (h : ∃ s es, as = [s] ∧ (Sv ms s (.list es) ∨ Sv ms s (.tuple es)) ∧ R (.d (.int es.length)) ms) : RC K (fun xs H Q => ∃ p ys, xs = [.ref p] ∧ (SqL K H p ys ∨ SqT K H p ys) ∧ Q (.int ys.length) H) as ms R := fun L M H vs hA ha Q q => by
  obtain ⟨s, es, rfl, sv, r⟩ := h
  obtain ⟨v, t, rfl, hv, rfl⟩ := ha
  rcases sv with sv | sv
  · obtain ⟨p, xs, rfl, hq, hr⟩ := sv.lst hA hv
    rw [← hr.length] at r
    exact ⟨p, xs, rfl, .inl hq, q (.d _) _ H ms (Wk.refl L H) ⟨hA, .int _⟩ r⟩
  · obtain ⟨p, xs, rfl, hq, hr⟩ := sv.tup hv
    rw [← hr.length] at r
    exact ⟨p, xs, rfl, .inr (SqT.of hq), q (.d _) _ H ms (Wk.refl L H) ⟨hA, .int _⟩ r⟩
theorem rc_str {as : List SD} (h : ∃ i, as = [.d (.int i)] ∧ i.natAbs.log2 < 1920 ∧ R (.d (.str (toString i))) ms) : RC K (fun xs H Q => ∃ i : Int, xs = [.int i] ∧ i.natAbs.log2 < 1920 ∧ Q (.str (toString i)) H) as ms R := fun L M H vs hA ha Q q => by
  obtain ⟨i, rfl, hi, r⟩ := h
  obtain ⟨v, t, rfl, hv, rfl⟩ := ha
  cases hv
  exact ⟨i, rfl, hi, q (.d _) _ H ms (Wk.refl L H) ⟨hA, .str _⟩ r⟩
theorem rc_tuple {as : List SD} (h : ∃ s es, as = [s] ∧ (Sv ms s (.list es) ∨ Sv ms s (.tuple es)) ∧ R (.d (.tuple es)) ms) :
    RC K (fun xs H Q => ∃ p ys, xs = [.ref p] ∧ ((SqL K H p ys ∧ ∀ l, H l = none → Q (.ref l) (upd H l (.tup ys))) ∨ (SqT K H p ys ∧ Q (.ref p) H))) as ms R := fun L M H vs hA ha Q q => by
  obtain ⟨s, es, rfl, sv, r⟩ := h
  obtain ⟨v, t, rfl, hv, rfl⟩ := ha
  rcases sv with sv | sv
  · obtain ⟨p, xs, rfl, hq, hr⟩ := sv.lst hA hv
    refine ⟨p, xs, rfl, .inl ⟨hq, fun l hl => ?_⟩⟩
    exact q (.d (.tuple es)) _ _ ms (Wk.new hl) ⟨hA.new hl, .tup (hA.fresh hl) upd_same (RpA.to (hA.wk (Wk.new hl)) _ _ hr)⟩ r
  · have hv2 : Rp M H v (.tuple es) := by cases sv; exact hv
    obtain ⟨p, xs, rfl, hq, hr⟩ := sv.tup hv
    exact ⟨p, xs, rfl, .inr ⟨SqT.of hq, q (.d (.tuple es)) _ H ms (Wk.refl L H) ⟨hA, hv2⟩ r⟩⟩
/-- isinstance -/
def inst (d : PyData) (T : String) : Bool := (kitB (tyN d) T).getD false
theorem e_isi {T : String} (hT : ∀ d, kitB (tyN d) T = some (inst d T)) (h : E K te ds ms fun s ms1 => ∃ x, Sv ms1 (dd s) x ∧ (∀ ns, dd s ≠ .s ns) ∧ R (.d (.bool (inst x T))) ms1) : E K (tCB (rIsi K) (tCons te (tCons (tC (.ty T)) tNil))) ds ms R := fun L M σ H hS hA Q q =>
  h L M σ H hS hA _ fun s v H1 ms1 w o ⟨x, sv, hs, r⟩ => ⟨v, .ty T, .type (tyN x), .type T, inst x T, rfl, .ty T, sv.ty o.at o.sl hs, kit_ty (hT x), q (.d _) _ H1 ms1 w ⟨o.at, .bl _⟩ r⟩
theorem e_isiT {T U : String} (hT : ∀ d, kitB (tyN d) T = some (inst d T)) (hU : ∀ d, kitB (tyN d) U = some (inst d U)) (h : E K te ds ms fun s ms1 => ∃ x, Sv ms1 (dd s) x ∧ (∀ ns, dd s ≠ .s ns) ∧ R (.d (.bool (inst x T || inst x U))) ms1) :
    E K (tCB (rIsiT K) (tCons te (tCons (tTup (tCons (tC (.ty T)) (tCons (tC (.ty U)) tNil))) tNil))) ds ms R := fun L M σ H hS hA Q q =>
  h L M σ H hS hA _ fun s v H1 ms1 w o ⟨x, sv, hs, r⟩ => ⟨by show 2 ≤ sizeLine; decide, fun p hp => by
    have a1 := o.at
    have k1 : PySem.W.kitAny K (.type (tyN x)) [.type T, .type U] = some (inst x T || inst x U) := by
      refine kitAny_cons (kit_ty (hT x)) (fun hb => ?_) (fun hb => by rw [hb]; rfl)
      rw [hb, Bool.false_or]
      refine kitAny_cons (kit_ty (hU x)) (fun hb => ?_) (fun hb => hb)
      rw [hb]; rfl
    have ty : TyX K (upd H1 p (.tup [.ty T, .ty U])) v (.type (tyN x)) := sv.ty (a1.new hp) (o.sl.mono a1 (Wk.new hp)) hs
    exact ⟨v, p, [.ty T, .ty U], .type (tyN x), [.type T, .type U], inst x T || inst x U, rfl, upd_same, .cons (.ty T) (.cons (.ty U) .nil), ty, k1, q (.d _) _ _ ms1 (w.trans (Wk.new hp)) ⟨a1.new hp, .bl _⟩ r⟩⟩
/-! ### methods of lists that may change -/
theorem e_pop (h : E K ta ds ms fun s ms1 => ∃ k es d, s = .m k ∧ ms1[k]? = some (.l (es ++ [d])) ∧ R (.d d) (ms1.set k (.l es))) : E K (tBM0 K "list" rPop ta) ds ms R := fun L M σ H hS hA Q q =>
  h L M σ H hS hA _ fun s v H1 ms1 w o ⟨k, es, d, e, em, r⟩ => by
    subst e
    obtain ⟨a1, p, rfl, hp, hls⟩ := o
    obtain ⟨xs, e1, r1⟩ := a1.get hp em
    have hpL : p ∈ L := List.mem_of_getElem? hp
    have hl : xs.length = es.length + 1 := by rw [r1.length]; simp
    obtain ⟨y, e2, r2⟩ := r1.get (i := es.length) (d := d) (by simp)
    refine ⟨.inl ⟨rfl, xs, SqL.of e1⟩, p, xs, y, rfl, rfl, e1, by rw [hl]; exact e2, ?_⟩
    have r3 : RpA M H1 xs.dropLast es := by
      have z := r1.take es.length
      rw [List.take_left] at z
      rw [List.dropLast_eq_take, hl]
      exact z
    exact q (.d d) y _ _ (w.trans (Wk.mut hpL e1)) ⟨a1.put hp e1 r3, Rp.to (a1.wk (Wk.mut hpL e1)) _ _ r2⟩ r
theorem e_append (h : E K ta ds ms fun s ms1 => ∃ k, s = .m k ∧ E K te ds ms1 fun x ms2 => ∃ d es, dd x = .d d ∧ ms2[k]? = some (.l es) ∧ es.length < 10000 ∧ R (.d .none) (ms2.set k (.l (es ++ [d])))) : E K (tBM K "list" rAppend ta (tCons te tNil)) ds ms R := fun L M σ H hS hA Q q =>
  h L M σ H hS hA _ fun s v H1 ms1 w o ⟨k, e, h2⟩ => by
    subst e
    obtain ⟨a1, p, rfl, hp, hls⟩ := o
    have hpL : p ∈ L := List.mem_of_getElem? hp
    have hk : k < ms1.length := by rw [← a1.ln]; exact (List.getElem?_eq_some_iff.mp hp).1
    · obtain ⟨xs0, e0⟩ := hls
      refine ⟨.inl ⟨rfl, xs0, SqL.of e0⟩, ?_⟩
      refine h2 L M σ H1 (hS.mono hA w) a1 _ fun x y H2 ms2 w2 o2 ⟨d, es, ed, em, hz, r⟩ => ?_
      have a2 := o2.at
      have ry := o2.sl
      rw [ed] at ry
      obtain ⟨xs, e1, r1⟩ := a2.get hp em
      refine ⟨p, xs, y, rfl, rfl, e1, by rw [r1.length]; exact Nat.lt_trans hz (by decide), ?_⟩
      exact q (.d .none) .non _ _ ((w.trans w2).trans (Wk.mut hpL e1)) ⟨a2.put hp e1 (r1.append (.cons ry .nil)), .non⟩ r
/-! ### calls of the program's own defs -/
abbrev Ph := List SD → List MD → RS → Prop
def SpD (K : PySem.W.Frag) (Φ : Ph) : Sp := fun vs H Q _ => ∃ L M ms as R, At L M ms H ∧ SlsOk K L M H as vs ∧ Φ as ms R ∧ ∀ s v H' ms', Wk L H H' → Out K L M H H' ms' v s → R s ms' → Q v H'
theorem e_call {Φ : Ph} {E0 : XK} (h : EA K tA ds ms fun as ms1 => Φ as ms1 R) : E K (tCall (SpD K Φ) [] E0 tA) ds ms R := fun L M σ H hS hA Q q =>
  h L M σ H hS hA _ fun as vs H1 ms1 w1 a1 o1 h1 => by
    rw [List.append_nil]
    exact ⟨L, M, ms1, as, R, a1, o1, h1, fun s v H3 ms3 w3 o3 r3 => q s v H3 ms3 (w1.trans w3) (o3.back a1 w1) r3⟩
/-! ### statements -/
structure Po where
  nx : List SD → List MD → Prop
  rt : RS
  bk : List SD → List MD → Prop
  ct : List SD → List MD → Prop
def Nx (K : PySem.W.Frag) (L M : List Addr) (H : Hp) (N : List SD → List MD → Prop) (C : L2.St → Hp → Prop) : Prop := ∀ σ' H' ds' ms', Wk L H H' → Sl K L M σ' H' ds' → At L M ms' H' → N ds' ms' → C σ' H'
def Rx (K : PySem.W.Frag) (L M : List Addr) (H : Hp) (R : RS) (Q : VK) : Prop := ∀ s v H' ms', Wk L H H' → Out K L M H H' ms' v s → R s ms' → Q v H'
def S (K : PySem.W.Frag) (t : TS) (ds : List SD) (ms : List MD) (P : Po) : Prop :=
  ∀ (L M : List Addr) (σ : L2.St) (H : Hp), Sl K L M σ H ds → At L M ms H → ∀ D : Ends, Nx K L M H P.nx D.nx → Rx K L M H P.rt D.rt → Nx K L M H P.bk D.bk → Nx K L M H P.ct D.ct → t D σ H
section
variable {L M : List Addr} {H H1 : Hp} {N : List SD → List MD → Prop} {C : L2.St → Hp → Prop} {Q : VK} {ms1 : List MD}
theorem Nx.on (w : Wk L H H1) (h : Nx K L M H N C) : Nx K L M H1 N C := fun σ' H' ds' ms' w2 => h σ' H' ds' ms' (w.trans w2)
theorem Rx.on (a : At L M ms1 H1) (w : Wk L H H1) (h : Rx K L M H R Q) : Rx K L M H1 R Q := fun s v H' ms' w2 o r => h s v H' ms' (w.trans w2) (o.back a w) r
end
variable {t u : TS} {P : Po}
theorem s_next (h : P.nx ds ms) : S K tNext ds ms P := fun L M σ H hS hA D n _ _ _ => n σ H ds ms (Wk.refl L H) hS hA h
theorem s_seq (h : S K t ds ms { P with nx := fun ds1 ms1 => S K u ds1 ms1 P }) : S K (tSeq t u) ds ms P := fun L M σ H hS hA D n r b c =>
  h L M σ H hS hA { D with nx := u D } (fun σ1 H1 ds1 ms1 w s1 a1 h1 => h1 L M σ1 H1 s1 a1 D (n.on w) (r.on a1 w) (b.on w) (c.on w)) r b c
theorem s_asg {i : Nat} (h : E K te ds ms fun s ms1 => P.nx (ds.set i (dd s)) ms1) : S K (tAsg te (gName i)) ds ms P := fun L M σ H hS hA D n r b c =>
  h L M σ H hS hA _ fun s v H1 ms1 w o h1 => n _ H1 _ ms1 w ((hS.mono hA w).set i o.sl) o.at h1
theorem s_ret (h : E K te ds ms P.rt) : S K (tRet te) ds ms P := fun L M σ H hS hA D n r b c => h L M σ H hS hA _ fun s v H1 ms1 w o h1 => r s v H1 ms1 w o h1
theorem s_drop (h : E K te ds ms fun _ ms1 => P.nx ds ms1) : S K (tDrop te) ds ms P := fun L M σ H hS hA D n r b c =>
  h L M σ H hS hA _ fun s v H1 ms1 w o h1 => n σ H1 ds ms1 w (hS.mono hA w) o.at h1
theorem s_if (h : ET K tt ds ms fun b ms1 => (b = true → S K t ds ms1 P) ∧ (b = false → S K u ds ms1 P)) : S K (tIfS tt t u) ds ms P := fun L M σ H hS hA D n r b c =>
  h L M σ H hS hA _ fun k H1 ms1 w a ⟨h1, h2⟩ => by
    cases k with
    | true => exact h1 rfl L M σ H1 (hS.mono hA w) a D (n.on w) (r.on a w) (b.on w) (c.on w)
    | false => exact h2 rfl L M σ H1 (hS.mono hA w) a D (n.on w) (r.on a w) (b.on w) (c.on w)
theorem s_par {i j : Nat} (h : EA K tA ds ms fun as ms1 => ∃ x y, as = [x, y] ∧ P.nx ((ds.set i x).set j y) ms1) : S K (tPar i j tA) ds ms P := fun L M σ H hS hA D n r b c =>
  h L M σ H hS hA _ fun as vs H1 ms1 w a o ⟨x, y, e, h1⟩ => by
    subst e
    obtain ⟨v1, t1, rfl, o1, v2, t2, rfl, o2, rfl⟩ := o
    exact ⟨v1, v2, rfl, n _ H1 _ ms1 w (((hS.mono hA w).set i o1).set j o2) a h1⟩
/-- targets: js the slots that are stored -/
def EG (K : PySem.W.Frag) (g : TG) (js : List Nat) (x : SD) (ds : List SD) (ms : List MD) (N : List SD → List MD → Prop) : Prop :=
  ∀ (L M : List Addr) (σ : L2.St) (H : Hp) (v : V), Sl K L M σ H ds → At L M ms H → SlOk K L M H x v → ∀ C : L2.St → Hp → Prop, (∀ σ' ds', Sl K L M σ' H ds' → (∀ vs : List Nat, (∀ j ∈ js, j ∈ vs) → L2.wipe σ' vs = L2.wipe σ vs) → N ds' ms → C σ' H) → g v σ H C
def EGs (K : PySem.W.Frag) (g : TGs) (js : List Nat) (xs : List PyData) (ds : List SD) (ms : List MD) (N : List SD → List MD → Prop) : Prop :=
  ∀ (L M : List Addr) (σ : L2.St) (H : Hp) (vs : List V), Sl K L M σ H ds → At L M ms H → RpA M H vs xs → ∀ C : L2.St → Hp → Prop, (∀ σ' ds', Sl K L M σ' H ds' → (∀ vs : List Nat, (∀ j ∈ js, j ∈ vs) → L2.wipe σ' vs = L2.wipe σ vs) → N ds' ms → C σ' H) → g vs σ H C
theorem wipe_get (σ : L2.St) (i : Nat) : ∀ vs : List Nat, (L2.wipe σ vs)[i]? = if i ∈ vs then (if i < σ.length then some none else none) else σ[i]?
  | [] => by simp [L2.wipe]
  | v :: vs => by
    unfold L2.wipe
    by_cases e : v = i
    · subst e
      rw [List.getElem?_set, if_pos rfl, if_pos List.mem_cons_self, wipe_length]
    · rw [List.getElem?_set_ne e, wipe_get σ i vs]
      by_cases h : i ∈ vs
      · rw [if_pos h, if_pos (List.mem_cons_of_mem _ h)]
      · rw [if_neg h, if_neg (fun z => (List.mem_cons.mp z).elim (fun z => e z.symm) h)]
theorem wipe_set (σ : L2.St) (j : Nat) (o : Option V) (vs : List Nat) (h : j ∈ vs) : L2.wipe (σ.set j o) vs = L2.wipe σ vs := by
  apply List.ext_getElem?
  intro i
  rw [wipe_get, wipe_get, List.length_set]
  by_cases e : i ∈ vs
  · rw [if_pos e, if_pos e]
  · rw [if_neg e, if_neg e, List.getElem?_set_ne (fun z : j = i => e (by rw [← z]; exact h))]
variable {N : List SD → List MD → Prop}
theorem eg_name {i : Nat} {x : SD} (h : N (ds.set i x) ms) : EG K (gName i) [i] x ds ms N := fun L M σ H v hS hA ho C c =>
  c _ _ (hS.set i ho) (fun vs hv => wipe_set σ i (some v) vs (hv i (by simp))) h
theorem egs_nil (h : N ds ms) : EGs K gNil [] [] ds ms N := fun L M σ H vs hS hA hr C c => by
  cases hr
  exact ⟨rfl, c σ ds hS (fun _ _ => rfl) h⟩
theorem egs_cons {g : TG} {gs : TGs} {js js' : List Nat} {x : PyData} {xs : List PyData} (h : EG K g js (.d x) ds ms fun ds1 ms1 => EGs K gs js' xs ds1 ms1 N) : EGs K (gCons g gs) (js ++ js') (x :: xs) ds ms N := fun L M σ H vs hS hA hr C c => by
  cases hr with
  | @cons v r _ _ r1 r2 =>
    refine ⟨v, r, rfl, ?_⟩
    refine h L M σ H v hS hA r1 _ fun σ1 ds1 s1 w1 h1 => ?_
    refine h1 L M σ1 H r s1 hA r2 C fun σ2 ds2 s2 w2 h2 => ?_
    exact c σ2 ds2 s2 (fun vs hv => (w2 vs fun j hj => hv j (List.mem_append_right _ hj)).trans (w1 vs fun j hj => hv j (List.mem_append_left _ hj))) h2
theorem eg_tup {gs : TGs} {js : List Nat} {n : Nat} {xs : List PyData} (hn : xs.length = n) (h : EGs K gs js xs ds ms N) : EG K (gTup K n gs) js (.d (.tuple xs)) ds ms N := fun L M σ H v hS hA ho C c => by
  obtain ⟨a, ys, rfl, e, r⟩ := Sv.tup (ms := ms) (K := K) (L := L) (.d (.tuple xs)) ho
  exact ⟨a, ys, rfl, SqT.of e, by rw [r.length]; exact hn, h L M σ H ys hS hA r C c⟩
theorem s_asgG {g : TG} {js : List Nat} (h : E K te ds ms fun s ms1 => EG K g js (dd s) ds ms1 P.nx) : S K (tAsg te g) ds ms P := fun L M σ H hS hA D n r b c =>
  h L M σ H hS hA _ fun s v H1 ms1 w o h1 => h1 L M σ H1 v (hS.mono hA w) o.at o.sl _ fun σ' ds' s' _ h2 => n σ' H1 ds' ms1 w s' o.at h2
/-- xs[i] = e, of a list that may change -/
theorem s_setL {to ti : TE} (h : E K te ds ms fun x ms1 => ∃ d, dd x = .d d ∧ E K to ds ms1 fun s ms2 => ∃ k, s = .m k ∧ E K ti ds ms2 fun y ms3 => ∃ (i : Int) (j : Nat) (es : List PyData), y = .d (.int i) ∧ ms3[k]? = some (.l es) ∧ ixN es.length i = some j ∧ P.nx ds (ms3.set k (.l (es.set j d)))) :
    S K (tAsg te (gSub to ti rSetL)) ds ms P := fun L M σ H hS hA D n r b c =>
  h L M σ H hS hA _ fun x v H1 ms1 w1 o1 ⟨d, ed, h1⟩ => h1 L M σ H1 (hS.mono hA w1) o1.at _ fun s v2 H2 ms2 w2 o2 ⟨k, ek, h2⟩ =>
    h2 L M σ H2 ((hS.mono hA w1).mono o1.at w2) o2.at _ fun y v3 H3 ms3 w3 o3 ⟨i, j, es, ey, em, hj, h3⟩ => by
      have rv := (o1.sl.mono o1.at w2).mono o2.at w3
      rw [ed] at rv
      have a3 := o3.at
      subst ey ek
      obtain ⟨_, p, rfl, hp, hls⟩ := o2
      obtain ⟨_, z⟩ := o3
      cases z
      have hpL : p ∈ L := List.mem_of_getElem? hp
      obtain ⟨xs, e1, r1⟩ := a3.get hp em
      refine ⟨p, xs, i, j, rfl, rfl, e1, by rw [r1.length]; exact hj, ?_⟩
      have w13 := ((w1.trans w2).trans w3).trans (Wk.mut (H := H3) (o := .lst (xs.set j v)) hpL e1)
      exact n σ _ ds _ w13 (hS.mono hA w13) (a3.put hp e1 (r1.set j rv)) h3
/-! ### loops -/
section
variable {L M : List Addr} {H H1 : Hp}
/-- a source that stands still -/
inductive Sw : SD → List PyData → Prop
  | d (es : List PyData) : Sw (.d (.list es)) es
  | s (ns : List Int) : Sw (.s ns) (ns.map .int)
theorem Sw.is {s : SD} {es : List PyData} {v : V} (h : Sw s es) (hA : At L M ms H) (o : SlOk K L M H s v) : ∃ a xs, v = .ref a ∧ RpA M H xs es ∧ ∀ H', Wk L H H' → SqL K H' a xs := by
  cases h with
  | d =>
    cases o with
    | @lst a xs _ n e r => exact ⟨a, xs, rfl, r, fun H' w => SqL.of (w a _ (fun z => n (hA.sub a z)) e)⟩
  | s ns =>
    obtain ⟨a, rfl, ⟨n, q⟩ | q⟩ := o
    · refine ⟨a, _, rfl, RpA.ints ns, fun H' w => ?_⟩
      have n' : a ∉ L := fun z => n (hA.sub a z)
      rcases q with q | ⟨o, q⟩
      · exact .inl (.inl (w _ _ n' q))
      · exact .inl (.inr ⟨o, w _ _ n' q⟩)
    · exact ⟨a, _, rfl, RpA.ints ns, fun H' _ => q H'⟩
end
theorem s_forL {g : TG} {js : List Nat} (h : E K tl ds ms fun s ms0 => ∃ es, Sw (dd s) es ∧ ∃ Pv : Nat → List SD → List MD → Prop, Pv 0 ds ms0 ∧
      (∀ i e ds1 ms1, es[i]? = some e → Pv i ds1 ms1 → EG K g js (.d e) ds1 ms1 fun ds2 ms2 => S K t ds2 ms2 { P with nx := Pv (i + 1), ct := Pv (i + 1), bk := P.nx }) ∧ ∀ ds1 ms1, Pv es.length ds1 ms1 → P.nx ds1 ms1) :
    S K (tFor (iList K tl) g t) ds ms P := fun L M σ H hS hA D n r b c =>
  h L M σ H hS hA _ fun s v H1 ms0 w o ⟨es, sw, Pv, h0, hs, hd⟩ => by
    have a1 := o.at
    obtain ⟨a, xs, rfl, rx, hx⟩ := sw.is a1 o.sl
    refine ⟨a, rfl, ⟨xs, hx H1 (Wk.refl L H1)⟩, for_list (xs := xs) (fun i σ' H' => ∃ ds' ms', Wk L H1 H' ∧ Sl K L M σ' H' ds' ∧ At L M ms' H' ∧ Pv i ds' ms') ⟨ds, ms0, Wk.refl L H1, hS.mono hA w, a1, h0⟩ (fun i σ' H' _ ⟨_, _, w', _⟩ => hx H' w') (fun i x σ' H' hi ⟨ds', ms', w', s', a', p'⟩ => ?_) (fun σ' H' ⟨ds', ms', w', s', a', p'⟩ => ?_)⟩
    · obtain ⟨e, e1, e2⟩ := rx.get' hi
      refine hs i e ds' ms' e1 p' L M σ' H' x s' a' (Rp.to (a1.wk w') _ _ e2) _ fun σ2 ds2 s2 _ h2 => ?_
      refine h2 L M σ2 H' s2 a' _ (fun σ3 H3 ds3 ms3 w3 s3 a3 p3 => ⟨ds3, ms3, w'.trans w3, s3, a3, p3⟩) (r.on a' (w.trans w')) (n.on (w.trans w')) (fun σ3 H3 ds3 ms3 w3 s3 a3 p3 => ⟨ds3, ms3, w'.trans w3, s3, a3, p3⟩)
    · rw [rx.length] at p'
      exact n σ' H' ds' ms' (w.trans w') s' a' (hd ds' ms' p')
theorem s_forT {g : TG} {js : List Nat} (h : E K tl ds ms fun s ms0 => ∃ es, s = .d (.tuple es) ∧ ∃ Pv : Nat → List SD → List MD → Prop, Pv 0 ds ms0 ∧
      (∀ i e ds1 ms1, es[i]? = some e → Pv i ds1 ms1 → EG K g js (.d e) ds1 ms1 fun ds2 ms2 => S K t ds2 ms2 { P with nx := Pv (i + 1), ct := Pv (i + 1), bk := P.nx }) ∧ ∀ ds1 ms1, Pv es.length ds1 ms1 → P.nx ds1 ms1) :
    S K (tFor (iTup K tl) g t) ds ms P := fun L M σ H hS hA D n r b c =>
  h L M σ H hS hA _ fun s v H1 ms0 w o ⟨es, es', Pv, h0, hs, hd⟩ => by
    subst es'
    obtain ⟨a1, z⟩ := o
    cases z with
    | @tup a xs _ na e rx =>
    have hx : ∀ H', Wk L H1 H' → SqT K H' a xs := fun H' w' => SqT.of (w' a _ (fun z => na (a1.sub a z)) e)
    refine ⟨a, rfl, ⟨xs, hx H1 (Wk.refl L H1)⟩, for_tup (xs := xs) (fun i σ' H' => ∃ ds' ms', Wk L H1 H' ∧ Sl K L M σ' H' ds' ∧ At L M ms' H' ∧ Pv i ds' ms') ⟨ds, ms0, Wk.refl L H1, hS.mono hA w, a1, h0⟩ (fun i σ' H' _ ⟨_, _, w', _⟩ => hx H' w') (fun i x σ' H' hi ⟨ds', ms', w', s', a', p'⟩ => ?_) (fun σ' H' ⟨ds', ms', w', s', a', p'⟩ => ?_)⟩
    · obtain ⟨e, e1, e2⟩ := rx.get' hi
      refine hs i e ds' ms' e1 p' L M σ' H' x s' a' (Rp.to (a1.wk w') _ _ e2) _ fun σ2 ds2 s2 _ h2 => ?_
      refine h2 L M σ2 H' s2 a' _ (fun σ3 H3 ds3 ms3 w3 s3 a3 p3 => ⟨ds3, ms3, w'.trans w3, s3, a3, p3⟩) (r.on a' (w.trans w')) (n.on (w.trans w')) (fun σ3 H3 ds3 ms3 w3 s3 a3 p3 => ⟨ds3, ms3, w'.trans w3, s3, a3, p3⟩)
    · rw [rx.length] at p'
      exact n σ' H' ds' ms' (w.trans w') s' a' (hd ds' ms' p')
theorem s_forR {g : TG} {js : List Nat} (h : EA K tA ds ms fun as ms0 => ∃ n : Int, as = [.d (.int n)] ∧ (-(2 ^ 62) ≤ n ∧ n < 2 ^ 62) ∧ ∃ Pv : Nat → List SD → List MD → Prop, Pv 0 ds ms0 ∧
      (∀ i ds1 ms1, i < n.toNat → Pv i ds1 ms1 → EG K g js (.d (.int i)) ds1 ms1 fun ds2 ms2 => S K t ds2 ms2 { P with nx := Pv (i + 1), ct := Pv (i + 1), bk := P.nx }) ∧ ∀ ds1 ms1, Pv n.toNat ds1 ms1 → P.nx ds1 ms1) :
    S K (tFor (iRng1 tA) g t) ds ms P := fun L M σ H hS hA D n r b c =>
  h L M σ H hS hA _ fun as vs H1 ms0 w a1 o ⟨m, ea, hm, Pv, h0, hs, hd⟩ => by
    subst ea
    obtain ⟨v, t1, rfl, hv, rfl⟩ := o
    cases hv
    refine ⟨m, rfl, hm.1, hm.2, for_range (fun i σ' H' => ∃ ds' ms', Wk L H1 H' ∧ Sl K L M σ' H' ds' ∧ At L M ms' H' ∧ Pv i ds' ms') ⟨ds, ms0, Wk.refl L H1, hS.mono hA w, a1, h0⟩ (fun i σ' H' hi ⟨ds', ms', w', s', a', p'⟩ => ?_) (fun σ' H' ⟨ds', ms', w', s', a', p'⟩ => ?_)⟩
    · refine hs i ds' ms' hi p' L M σ' H' _ s' a' (by show Rp M H' (.int (0 + (i : Int))) (.int i); rw [Int.zero_add]; exact .int _) _ fun σ2 ds2 s2 _ h2 => ?_
      refine h2 L M σ2 H' s2 a' _ (fun σ3 H3 ds3 ms3 w3 s3 a3 p3 => ⟨ds3, ms3, w'.trans w3, s3, a3, p3⟩) (r.on a' (w.trans w')) (n.on (w.trans w')) (fun σ3 H3 ds3 ms3 w3 s3 a3 p3 => ⟨ds3, ms3, w'.trans w3, s3, a3, p3⟩)
    · exact n σ' H' ds' ms' (w.trans w') s' a' (hd ds' ms' p')
theorem s_forR2 {g : TG} {js : List Nat} (h : EA K tA ds ms fun as ms0 => ∃ lo n : Int, as = [.d (.int lo), .d (.int n)] ∧ (-(2 ^ 62) ≤ lo ∧ lo < 2 ^ 62 ∧ -(2 ^ 62) ≤ n ∧ n < 2 ^ 62) ∧ ∃ Pv : Nat → List SD → List MD → Prop, Pv 0 ds ms0 ∧
      (∀ i ds1 ms1, i < (n - lo).toNat → Pv i ds1 ms1 → EG K g js (.d (.int (lo + i))) ds1 ms1 fun ds2 ms2 => S K t ds2 ms2 { P with nx := Pv (i + 1), ct := Pv (i + 1), bk := P.nx }) ∧ ∀ ds1 ms1, Pv (n - lo).toNat ds1 ms1 → P.nx ds1 ms1) :
    S K (tFor (iRng2 tA) g t) ds ms P := fun L M σ H hS hA D n r b c =>
  h L M σ H hS hA _ fun as vs H1 ms0 w a1 o ⟨lo, m, ea, hm, Pv, h0, hs, hd⟩ => by
    subst ea
    obtain ⟨v, t1, rfl, hv, v2, t2, rfl, hv2, rfl⟩ := o
    cases hv; cases hv2
    refine ⟨lo, m, rfl, hm, for_range (lo := lo) (fun i σ' H' => ∃ ds' ms', Wk L H1 H' ∧ Sl K L M σ' H' ds' ∧ At L M ms' H' ∧ Pv i ds' ms') ⟨ds, ms0, Wk.refl L H1, hS.mono hA w, a1, h0⟩ (fun i σ' H' hi ⟨ds', ms', w', s', a', p'⟩ => ?_) (fun σ' H' ⟨ds', ms', w', s', a', p'⟩ => ?_)⟩
    · refine hs i ds' ms' hi p' L M σ' H' _ s' a' (.int _) _ fun σ2 ds2 s2 _ h2 => ?_
      refine h2 L M σ2 H' s2 a' _ (fun σ3 H3 ds3 ms3 w3 s3 a3 p3 => ⟨ds3, ms3, w'.trans w3, s3, a3, p3⟩) (r.on a' (w.trans w')) (n.on (w.trans w')) (fun σ3 H3 ds3 ms3 w3 s3 a3 p3 => ⟨ds3, ms3, w'.trans w3, s3, a3, p3⟩)
    · exact n σ' H' ds' ms' (w.trans w') s' a' (hd ds' ms' p')
theorem s_while (W : Nat → List SD → List MD → Prop) (m0 : Nat) (h0 : W m0 ds ms) (hs : ∀ m ds1 ms1, W m ds1 ms1 → ET K tt ds1 ms1 fun b ms2 => (b = true → S K t ds1 ms2 { P with nx := fun ds3 ms3 => ∃ m', m' < m ∧ W m' ds3 ms3, ct := fun ds3 ms3 => ∃ m', m' < m ∧ W m' ds3 ms3, bk := P.nx }) ∧ (b = false → P.nx ds1 ms2)) :
    S K (tWhile tt t) ds ms P := fun L M σ H hS hA D n r b c => by
  refine ⟨fun m σ' H' => ∃ ds' ms', Wk L H H' ∧ Sl K L M σ' H' ds' ∧ At L M ms' H' ∧ W m ds' ms', ⟨m0, ds, ms, Wk.refl L H, hS, hA, h0⟩, ?_⟩
  rintro m σ' H' ⟨ds', ms', w', s', a', p'⟩
  refine hs m ds' ms' p' L M σ' H' s' a' _ fun k H2 ms2 w2 a2 ⟨k1, k2⟩ => ?_
  cases k with
  | true =>
    rw [if_pos rfl]
    refine ⟨fun σ3 H3 => ∃ m', m' < m ∧ ∃ ds3 ms3, Wk L H H3 ∧ Sl K L M σ3 H3 ds3 ∧ At L M ms3 H3 ∧ W m' ds3 ms3, fun σ3 H3 ⟨m', l, z⟩ => ⟨m', l, z⟩, ?_⟩
    refine k1 rfl L M σ' H2 (s'.mono a' w2) a2 _ (fun σ3 H3 ds3 ms3 w3 s3 a3 ⟨m', l, p3⟩ => ⟨m', l, ds3, ms3, (w'.trans w2).trans w3, s3, a3, p3⟩) (r.on a2 (w'.trans w2)) (n.on (w'.trans w2)) (fun σ3 H3 ds3 ms3 w3 s3 a3 ⟨m', l, p3⟩ => ⟨m', l, ds3, ms3, (w'.trans w2).trans w3, s3, a3, p3⟩)
  | false =>
    rw [if_neg Bool.false_ne_true]
    exact n σ' H2 ds' ms2 (w'.trans w2) (s'.mono a' w2) a2 (k2 rfl)
/-! ### comprehensions -/
def Lt (K : PySem.W.Frag) (g : TG) (js : List Nat) (tt : TT) (te : TE) (vs : List Nat) (ds : List SD) (x : SD) (ms : List MD) (acc : List PyData) (N : List PyData → List MD → Prop) : Prop :=
  EG K g js x (wipeD ds vs) ms fun ds2 ms2 => ET K tt ds2 ms2 fun b ms3 => (b = true → E K te ds2 ms3 fun s ms4 => ∃ d, dd s = .d d ∧ N (acc ++ [d]) ms4) ∧ (b = false → N acc ms3)
section
variable {L M : List Addr} {σ : L2.St} {H1 H' : Hp}
/-- how it stands within a comprehension whose list is at D -/
structure Cs (L M : List Addr) (H1 : Hp) (D : Addr) (i : Nat) (acc : List PyData) (ms : List MD) (H : Hp) : Prop where
  w : Wk L H1 H
  a : At L (M ++ [D]) ms H
  le : acc.length ≤ i
  d : ∃ xs, H D = some (.lst xs) ∧ RpA (M ++ [D]) H xs acc
theorem lock_new {D : Addr} {o : HO} (h : At L M ms H1) (hD : H1 D = none) (ho : NTup o := by trivial) : At L (M ++ [D]) ms (upd H1 D o) := by
  have a := h.new (o := o) hD
  have t : To M (M ++ [D]) H1 (upd H1 D o) := to_new h hD (Wk.new hD)
  refine ⟨a.nd, fun p hp => List.mem_append_left _ (h.sub p hp), fun p hp => ?_, a.ln, fun k p m e1 e2 => ?_⟩
  · rcases List.mem_append.mp hp with z | z
    · exact a.al p z
    · simp at z; subst z; rw [upd_same]; exact ⟨_, rfl, ho⟩
  · exact (h.ok k p m e1 e2).to t (upd_ne (fun z => h.freshL hD (z ▸ List.mem_of_getElem? e1)))
theorem Cs.start {D : Addr} (h : At L M ms H1) (hD : H1 D = none) : Cs L M H1 D 0 [] ms (upd H1 D (.lst [])) := ⟨Wk.new hD, lock_new h hD, Nat.le_refl _, [], upd_same, .nil⟩
theorem Cs.done {D : Addr} {i : Nat} {acc : List PyData} {ms1 : List MD} {H2 : Hp} (h : Cs L M H1 D i acc ms1 H2) (hs : ∀ p ∈ L, p ∈ M) (hD : D ∉ L) : At (L ++ [D]) (M ++ [D]) (ms1 ++ [.l acc]) H2 := by
  obtain ⟨w, a, _, xs, e, r⟩ := h
  refine ⟨List.nodup_append.mpr ⟨a.nd, by simp, fun x hx y hy z => hD (by simp at hy; subst hy z; exact hx)⟩, fun q hq => ?_, a.al, by simp [a.ln], fun k q m e1 e2 => ?_⟩
  · rcases List.mem_append.mp hq with z | z
    · exact a.sub q z
    · exact List.mem_append_right _ z
  · by_cases hk : k < L.length
    · rw [List.getElem?_append_left hk] at e1
      rw [List.getElem?_append_left (by rw [← a.ln]; exact hk)] at e2
      exact (a.ok k q m e1 e2).toL (fun _ _ n e => ⟨n, e⟩) (fun k' q' _ z => by rw [List.getElem?_append_left (List.getElem?_eq_some_iff.mp z).1]; exact z) rfl
    · have hk2 : k = L.length := by
        have := (List.getElem?_eq_some_iff.mp e1).1
        simp at this
        omega
      subst hk2
      simp at e1
      subst e1
      rw [a.ln] at e2
      simp at e2
      subst e2
      exact ⟨xs, e, r⟩
theorem lc_turn {g : TG} {js : List Nat} {vs : List Nat} {D : Addr} {i : Nat} {acc : List PyData} {ms0 ms1 : List MD} {H2 : Hp} {x : SD} {v : V} {Nn : Nat → List PyData → List MD → Prop} (hj : ∀ j ∈ js, j ∈ vs) (hi : i < 10000)
    (hS : Sl K L M σ H1 ds) (a0 : At L M ms0 H1) (hD : H1 D = none) (c : Cs L M H1 D i acc ms1 H2) (ho : SlOk K L M H1 x v) (h : Lt K g js tt te vs ds x ms1 acc (Nn (i + 1))) :
    g v (L2.wipe σ vs) H2 fun σ2 H3 => L2.wipe σ2 vs = L2.wipe σ vs ∧ tt σ2 H3 fun b H4 => if b = true then te σ2 H4 fun y H5 => ∃ ac, H5 D = some (.lst ac) ∧ ac.length < sizeLine ∧ (∃ acc' ms', Cs L M H1 D (i + 1) acc' ms' (upd H5 D (.lst (ac ++ [y]))) ∧ Nn (i + 1) acc' ms') else ∃ acc' ms', Cs L M H1 D (i + 1) acc' ms' H4 ∧ Nn (i + 1) acc' ms' := by
  have t : To M (M ++ [D]) H1 H2 := to_new a0 hD c.w
  have hDL : D ∉ L := a0.freshL hD
  have s2 : Sl K L (M ++ [D]) (L2.wipe σ vs) H2 (wipeD ds vs) := (hS.to t c.w.kd fun _ _ e => e).wipe vs
  refine h L (M ++ [D]) (L2.wipe σ vs) H2 v s2 c.a (ho.to t c.w.kd fun _ _ e => e) _ fun σ2 ds2 sl2 wp h2 => ?_
  have wv : L2.wipe σ2 vs = L2.wipe σ vs := by
    rw [wp vs hj]
    apply List.ext_getElem?
    intro i
    rw [wipe_get, wipe_get, wipe_length]
    by_cases e : i ∈ vs
    · rw [if_pos e, if_pos e]
    · simp only [if_neg e, wipe_get]
  refine ⟨wv, ?_⟩
  refine h2 L (M ++ [D]) σ2 H2 sl2 c.a _ fun b H4 ms4 w4 a4 ⟨k1, k2⟩ => ?_
  obtain ⟨xs, e, r⟩ := c.d
  have e4 : H4 D = some (.lst xs) := w4 D _ hDL e
  have r4 : RpA (M ++ [D]) H4 xs acc := RpA.to (c.a.wk w4) _ _ r
  cases b with
  | false =>
    rw [if_neg Bool.false_ne_true]
    exact ⟨acc, ms4, ⟨c.w.trans w4, a4, Nat.le_succ_of_le c.le, xs, e4, r4⟩, k2 rfl⟩
  | true =>
    rw [if_pos rfl]
    refine k1 rfl L (M ++ [D]) σ2 H4 (sl2.mono c.a w4) a4 _ fun s y H5 ms5 w5 o5 ⟨d, ed, hn⟩ => ?_
    have a5 := o5.at
    have ry := o5.sl
    rw [ed] at ry
    have e5 : H5 D = some (.lst xs) := w5 D _ hDL e4
    have r5 : RpA (M ++ [D]) H5 xs acc := RpA.to (a4.wk w5) _ _ r4
    have hDM : D ∈ M ++ [D] := by simp
    have tt5 : To (M ++ [D]) (M ++ [D]) H5 (upd H5 D (.lst (xs ++ [y]))) := fun a o n q => ⟨n, by rw [upd_ne (fun z : a = D => n (by rw [z]; exact hDM))]; exact q⟩
    refine ⟨xs, e5, by rw [r5.length]; exact Nat.lt_of_le_of_lt c.le (Nat.lt_trans hi (by decide)), acc ++ [d], ms5, ⟨((c.w.trans w4).trans w5).over hD, ⟨a5.nd, a5.sub, fun p hp => ?_, a5.ln, fun k p m e1 e2 => ?_⟩, ?_, xs ++ [y], upd_same, RpA.to tt5 _ _ (r5.append (.cons ry .nil))⟩, hn⟩
    · by_cases z : p = D
      · subst z; rw [upd_same]; exact ⟨_, rfl, trivial⟩
      · rw [upd_ne z]; exact a5.al p hp
    · exact (a5.ok k p m e1 e2).to tt5 (upd_ne (fun z => hDL (z ▸ List.mem_of_getElem? e1)))
    · rw [List.length_append]; have := c.le; simp; exact this
end
theorem e_lcL {g : TG} {js vs : List Nat} (hj : ∀ j ∈ js, j ∈ vs) (h : E K tl ds ms fun s ms0 => ∃ es, Sw (dd s) es ∧ es.length ≤ 10000 ∧ ∃ Pv : Nat → List PyData → List MD → Prop, Pv 0 [] ms0 ∧
      (∀ i e acc ms1, es[i]? = some e → Pv i acc ms1 → Lt K g js tt te vs ds (.d e) ms1 acc (Pv (i + 1))) ∧ ∀ acc ms1, Pv es.length acc ms1 → R (.f acc) ms1) :
    E K (tLc (iList K tl) g tt te vs) ds ms R := fun L M σ H hS hA Q q =>
  h L M σ H hS hA _ fun s v H1 ms0 w o ⟨es, sw, hz, Pv, h0, hs, hd⟩ => by
    have a1 := o.at
    obtain ⟨a, xs, rfl, rx, hx⟩ := sw.is a1 o.sl
    refine ⟨a, rfl, ⟨xs, hx H1 (Wk.refl L H1)⟩, fun D hD => ?_⟩
    have hDL := a1.freshL hD
    refine lc_list (xs := xs) (fun i H' => ∃ acc ms', Cs L M H1 D i acc ms' H' ∧ Pv i acc ms') ⟨[], ms0, .start a1 hD, h0⟩ (fun i H' _ ⟨_, _, c, _⟩ => hx H' c.w) (fun i x H' hi ⟨acc, ms', c, p⟩ => ?_) (fun H' ⟨acc, ms', c, p⟩ => ?_)
    · obtain ⟨e, e1, e2⟩ := rx.get' hi
      have hl := (List.getElem?_eq_some_iff.mp e1).1
      exact lc_turn (x := .d e) (v := x) (Nn := Pv) hj (by omega) (hS.mono hA w) a1 hD c e2 (hs i e acc ms' e1 p)
    · rw [rx.length] at p
      exact q (.f acc) _ H' ms' (w.trans c.w) ⟨D, rfl, none_back a1 w (a1.fresh hD) hD, a1.fresh hD, c.done a1.sub hDL, a1.sub⟩ (hd acc ms' p)
theorem e_lcT {g : TG} {js vs : List Nat} (hj : ∀ j ∈ js, j ∈ vs) (h : E K tl ds ms fun s ms0 => ∃ es, s = .d (.tuple es) ∧ es.length ≤ 10000 ∧ ∃ Pv : Nat → List PyData → List MD → Prop, Pv 0 [] ms0 ∧
      (∀ i e acc ms1, es[i]? = some e → Pv i acc ms1 → Lt K g js tt te vs ds (.d e) ms1 acc (Pv (i + 1))) ∧ ∀ acc ms1, Pv es.length acc ms1 → R (.f acc) ms1) :
    E K (tLc (iTup K tl) g tt te vs) ds ms R := fun L M σ H hS hA Q q =>
  h L M σ H hS hA _ fun s v H1 ms0 w o ⟨es, es', hz, Pv, h0, hs, hd⟩ => by
    subst es'
    obtain ⟨a1, z⟩ := o
    cases z with
    | @tup a xs _ na e rx =>
    have hx : ∀ H', Wk L H1 H' → SqT K H' a xs := fun H' w' => SqT.of (w' a _ (fun z => na (a1.sub a z)) e)
    refine ⟨a, rfl, ⟨xs, hx H1 (Wk.refl L H1)⟩, fun D hD => ?_⟩
    have hDL := a1.freshL hD
    refine lc_tup (xs := xs) (fun i H' => ∃ acc ms', Cs L M H1 D i acc ms' H' ∧ Pv i acc ms') ⟨[], ms0, .start a1 hD, h0⟩ (fun i H' _ ⟨_, _, c, _⟩ => hx H' c.w) (fun i x H' hi ⟨acc, ms', c, p⟩ => ?_) (fun H' ⟨acc, ms', c, p⟩ => ?_)
    · obtain ⟨e, e1, e2⟩ := rx.get' hi
      have hl := (List.getElem?_eq_some_iff.mp e1).1
      exact lc_turn (x := .d e) (v := x) (Nn := Pv) hj (by omega) (hS.mono hA w) a1 hD c e2 (hs i e acc ms' e1 p)
    · rw [rx.length] at p
      exact q (.f acc) _ H' ms' (w.trans c.w) ⟨D, rfl, none_back a1 w (a1.fresh hD) hD, a1.fresh hD, c.done a1.sub hDL, a1.sub⟩ (hd acc ms' p)
end
end Hc

namespace Hc
open PySem PySem.Spec PyProof.Rows L2
section
variable {K : PySem.W.Frag} {te ta tb tc tl : TE} {tt : TT} {tA : TA} {ds : List SD} {ms : List MD} {R : RS} {t u : TS} {P : Po}
/-! ### a new thing that may change, until the block's end -/
def frzS (n : Nat) (es : List PyData) : SD → SD
  | .m k => if k = n then .d (.list es) else .m k
  | s => s
def frzR (n : Nat) (es : List PyData) : SD → SD
  | .m k => if k = n then .f es else .m k
  | s => s
def Po.frz (P : Po) (n : Nat) : Po where
  nx := fun ds' ms' => ∃ ms1 es, ms' = ms1 ++ [.l es] ∧ ms1.length = n ∧ P.nx (ds'.map (frzS n es)) ms1
  rt := fun s ms' => ∃ ms1 es, ms' = ms1 ++ [.l es] ∧ ms1.length = n ∧ P.rt (frzR n es s) ms1
  bk := fun ds' ms' => ∃ ms1 es, ms' = ms1 ++ [.l es] ∧ ms1.length = n ∧ P.bk (ds'.map (frzS n es)) ms1
  ct := fun ds' ms' => ∃ ms1 es, ms' = ms1 ++ [.l es] ∧ ms1.length = n ∧ P.ct (ds'.map (frzS n es)) ms1
section
variable {L M : List Addr} {p : Addr} {H H0 H1 : Hp} {ms1 : List MD} {es : List PyData} {N : List SD → List MD → Prop} {C : L2.St → Hp → Prop}
theorem SlOk.frz {s : SD} {v : V} (a : At (L ++ [p]) (M ++ [p]) (ms1 ++ [.l es]) H) (np : p ∉ M) (h : SlOk K (L ++ [p]) (M ++ [p]) H s v) : SlOk K L M H (frzS ms1.length es s) v := by
  have hl : L.length = ms1.length := by have := a.ln; simp at this; exact this
  cases s with
  | u => exact h
  | f _ => exact h
  | g _ => exact h
  | d x => exact Rp.to to_less _ _ h
  | v x => exact h
  | w φ => exact ⟨h.2 _ _ _ _ _ to_less h.1, h.2⟩
  | h φ =>
    obtain ⟨b, e, n, q⟩ := h
    exact ⟨b, e, fun z => n (List.mem_append_left _ z), q⟩
  | s ns =>
    obtain ⟨b, e, ⟨n, q⟩ | q⟩ := h
    · exact ⟨b, e, .inl ⟨fun z => n (List.mem_append_left _ z), q⟩⟩
    · exact ⟨b, e, .inr q⟩
  | q k =>
    obtain ⟨q, rfl, hq, hls⟩ := h
    have hk : k < L.length := by
      have h1 := (List.getElem?_eq_some_iff.mp hq).1
      rw [List.length_append] at h1
      have h2 : k ≠ L.length := fun z => by
        subst z
        simp at hq
        subst hq
        obtain ⟨xs, e1, _⟩ := a.last
        exact hls.notL e1
      have h3 : k < L.length + 1 := h1
      omega
    rw [List.getElem?_append_left hk] at hq
    exact ⟨q, rfl, hq, hls⟩
  | o k =>
    obtain ⟨q, rfl, hq, hls⟩ := h
    have hk : k < L.length := by
      have h1 := (List.getElem?_eq_some_iff.mp hq).1
      rw [List.length_append] at h1
      have h2 : k ≠ L.length := fun z => by
        subst z
        simp at hq
        subst hq
        obtain ⟨xs, e1, _⟩ := a.last
        exact hls.notL e1
      have h3 : k < L.length + 1 := h1
      omega
    rw [List.getElem?_append_left hk] at hq
    exact ⟨q, rfl, hq, hls⟩
  | m k =>
    obtain ⟨q, rfl, hq, hls⟩ := h
    show SlOk K L M H (if k = ms1.length then .d (.list es) else .m k) _
    by_cases hk : k = ms1.length
    · rw [if_pos hk]
      subst hk
      rw [← hl] at hq
      simp at hq
      subst hq
      obtain ⟨xs, e1, r⟩ := a.last
      exact .lst np e1 (RpA.to to_less _ _ r)
    · rw [if_neg hk]
      have : k < L.length := by
        have := (List.getElem?_eq_some_iff.mp hq).1
        simp at this
        omega
      rw [List.getElem?_append_left this] at hq
      exact ⟨q, rfl, hq, hls⟩
theorem Sl.frz {σ : L2.St} (a : At (L ++ [p]) (M ++ [p]) (ms1 ++ [.l es]) H) (np : p ∉ M) (h : Sl K (L ++ [p]) (M ++ [p]) σ H ds) : Sl K L M σ H (ds.map (frzS ms1.length es)) := fun i s e => by
  rw [List.getElem?_map] at e
  cases q : ds[i]? with
  | none => rw [q] at e; cases e
  | some s0 =>
    rw [q] at e
    have e' : frzS ms1.length es s0 = s := Option.some.inj e
    by_cases hu : s0 = .u
    · subst hu
      subst e'
      exact h i .u q
    · obtain ⟨v, e1, e2⟩ := h.get q hu
      have z := e2.frz a np
      rw [e'] at z
      cases s with
      | u => exact z.elim
      | f _ => exact z.elim
      | g _ => exact z.elim
      | d x => exact ⟨v, e1, z⟩
      | m k => exact ⟨v, e1, z⟩
      | q k => exact ⟨v, e1, z⟩
      | s ns => exact ⟨v, e1, z⟩
      | v x => exact ⟨v, e1, z⟩
      | h φ => exact ⟨v, e1, z⟩
      | w φ => exact ⟨v, e1, z⟩
      | o k => exact ⟨v, e1, z⟩
def plainM : MD → Bool
  | .r _ => false
  | _ => true
theorem MOk.plain {L L' M M' : List Addr} {H : Hp} {j j' : Nat} {p : Addr} {m : MD} (hm : plainM m = true) (t : To M M' H H) (h : MOk L M H j p m) : MOk L' M' H j' p m := by
  cases m with
  | l es =>
    obtain ⟨xs, e1, r⟩ := h
    exact ⟨xs, e1, RpA.to t _ _ r⟩
  | r ks => cases hm
  | k ds =>
    obtain ⟨kvs, e1, r⟩ := h
    exact ⟨kvs, e1, r.toP t⟩
  | t ds =>
    obtain ⟨kvs, e1, r⟩ := h
    exact ⟨kvs, e1, r.toP t⟩
  | z o kvs ds =>
    obtain ⟨e1, r⟩ := h
    exact ⟨e1, r.toP t⟩
  | x ψ => exact ⟨h.2 _ _ _ _ _ t rfl h.1, h.2⟩
theorem At.dropMid {q : Addr} {m1 m2 : MD} (hm : plainM m2 = true) (a : At (L ++ [p] ++ [q]) (M ++ [p] ++ [q]) (ms1 ++ [m1] ++ [m2]) H) (sb : ∀ x ∈ L, x ∈ M) : At (L ++ [q]) (M ++ [q]) (ms1 ++ [m2]) H := by
  have hl : L.length = ms1.length := by have := a.ln; simp at this; exact this
  have t : To (M ++ [p] ++ [q]) (M ++ [q]) H H := fun b o n e => ⟨fun z => n (by
    rcases List.mem_append.mp z with z | z
    · exact List.mem_append_left _ (List.mem_append_left _ z)
    · exact List.mem_append_right _ z), e⟩
  have nd := a.nd
  refine ⟨?_, ?_, ?_, by simp [hl], fun k x m e1 e2 => ?_⟩
  · rw [List.append_assoc] at nd
    obtain ⟨n1, n2, n3⟩ := List.nodup_append.mp nd
    exact List.nodup_append.mpr ⟨n1, by simp, fun x hx y hy => n3 x hx y (by simp at hy ⊢; exact Or.inr hy)⟩
  · intro x hx
    rcases List.mem_append.mp hx with z | z
    · exact List.mem_append_left _ (sb x z)
    · exact List.mem_append_right _ z
  · intro x hx
    refine a.al x ?_
    rcases List.mem_append.mp hx with z | z
    · exact List.mem_append_left _ (List.mem_append_left _ z)
    · exact List.mem_append_right _ z
  · by_cases hk : k < L.length
    · rw [List.getElem?_append_left hk] at e1
      rw [List.getElem?_append_left (by rw [← hl]; exact hk)] at e2
      refine (a.ok k x m ?_ ?_).toL t (fun k' q' hlt z => by rw [List.append_assoc, List.getElem?_append_left (by omega)] at z; rw [List.getElem?_append_left (by omega)]; exact z) rfl
      · rw [List.append_assoc, List.getElem?_append_left hk]; exact e1
      · rw [List.append_assoc, List.getElem?_append_left (by rw [← hl]; exact hk)]; exact e2
    · have hk2 : k = L.length := by
        have := (List.getElem?_eq_some_iff.mp e1).1
        simp at this
        omega
      subst hk2
      have ex : q = x := by simpa using e1
      subst ex
      rw [hl] at e2
      have em : m2 = m := by simpa using e2
      subst em
      refine MOk.plain hm t (a.ok (L.length + 1) q m2 ?_ ?_)
      · rw [List.getElem?_append_right (by simp)]; simp
      · rw [List.getElem?_append_right (by simp [hl])]; simp [hl]
theorem Out.frz {v : V} {s : SD} (hp0 : H0 p = none) (a : At (L ++ [p]) (M ++ [p]) (ms1 ++ [.l es]) H) (w0 : ∀ q, q ∉ M → q ≠ p → H1 q = none → H0 q = none) (np : p ∉ M) (sb : ∀ x ∈ L, x ∈ M) (h : Out K (L ++ [p]) (M ++ [p]) H1 H (ms1 ++ [.l es]) v s) : Out K L M H0 H ms1 v (frzR ms1.length es s) := by
  have ad := a.drop sb
  cases s with
  | u => exact h.2.elim
  | d x => exact ⟨ad, Rp.to to_less _ _ h.2⟩
  | s ns => exact ⟨ad, SlOk.frz (s := .s ns) a np h.2⟩
  | v x => exact ⟨ad, h.2⟩
  | h φ => exact ⟨ad, SlOk.frz (s := .h φ) a np h.2⟩
  | w φ => exact ⟨ad, SlOk.frz (s := .w φ) a np h.2⟩
  | f fs =>
    obtain ⟨q, rfl, hq, nq, aq, _⟩ := h
    have nqM : q ∉ M := fun z => nq (List.mem_append_left _ z)
    have nqp : q ≠ p := fun z => nq (List.mem_append_right _ (by simp [z]))
    exact ⟨q, rfl, w0 q nqM nqp hq, nqM, At.dropMid rfl aq sb, sb⟩
  | g fs =>
    obtain ⟨q, rfl, hq, nq, aq, _⟩ := h
    have nqM : q ∉ M := fun z => nq (List.mem_append_left _ z)
    have nqp : q ≠ p := fun z => nq (List.mem_append_right _ (by simp [z]))
    exact ⟨q, rfl, w0 q nqM nqp hq, nqM, At.dropMid rfl aq sb, sb⟩
  | q k => exact ⟨ad, SlOk.frz (s := .q k) a np h.2⟩
  | o k => exact ⟨ad, SlOk.frz (s := .o k) a np h.2⟩
  | m k =>
    have hl : L.length = ms1.length := by have := a.ln; simp at this; exact this
    obtain ⟨_, q, rfl, hq, hls⟩ := h
    show Out K L M H0 H ms1 _ (if k = ms1.length then .f es else .m k)
    by_cases hk : k = ms1.length
    · rw [if_pos hk]
      subst hk
      rw [← hl] at hq
      simp at hq
      subst hq
      exact ⟨p, rfl, hp0, np, a, sb⟩
    · rw [if_neg hk]
      have : k < L.length := by
        have := (List.getElem?_eq_some_iff.mp hq).1
        simp at this
        omega
      rw [List.getElem?_append_left this] at hq
      exact ⟨ad, q, rfl, hq, hls⟩
end
theorem s_new {i : Nat} (h : E K te ds ms fun s ms1 => ∃ es, s = .f es ∧ S K u (ds.set i (.m ms1.length)) (ms1 ++ [.l es]) (P.frz ms1.length)) : S K (tSeq (tAsg te (gName i)) u) ds ms P := fun L M σ H hS hA D n r b c =>
  h L M σ H hS hA _ fun s v H1 ms1 w o ⟨es, e, h1⟩ => by
    subst e
    obtain ⟨p, rfl, hp, np, a1, sb⟩ := o
    have hl : L.length = ms1.length := by have := a1.ln; simp at this; exact this
    have npL : p ∉ L := fun z => np (hA.sub p z)
    have t : To M (M ++ [p]) H H1 := to_new hA hp w
    have hS1 : Sl K (L ++ [p]) (M ++ [p]) (σ.set i (some (.ref p))) H1 (ds.set i (.m ms1.length)) := by
      refine (hS.to t w.kd fun k q e => ?_).set i ⟨p, rfl, by rw [← hl]; simp, let ⟨xs, e, _⟩ := a1.last; ⟨xs, e⟩⟩
      rw [List.getElem?_append_left (List.getElem?_eq_some_iff.mp e).1]
      exact e
    have wk : ∀ {H2 : Hp}, Wk (L ++ [p]) H1 H2 → Wk L H H2 := fun {H2} w2 => ⟨fun x y nx ex => w2 x y (fun z => (List.mem_append.mp z).elim nx fun z => ne_of_none ex hp (by simpa using z)) (w x y nx ex), fun x y ex => by
      obtain ⟨o1, f1, k1⟩ := w.kd x y ex
      obtain ⟨o2, f2, k2⟩ := w2.kd x o1 f1
      exact ⟨o2, f2, k2.trans k1⟩⟩
    have go : ∀ {N : List SD → List MD → Prop} {C : L2.St → Hp → Prop}, Nx K L M H N C → Nx K (L ++ [p]) (M ++ [p]) H1 (fun ds' ms' => ∃ ms1' es, ms' = ms1' ++ [.l es] ∧ ms1'.length = ms1.length ∧ N (ds'.map (frzS ms1.length es)) ms1') C := by
      intro N C nn σ2 H2 ds2 ms2 w2 s2 a2 ⟨ms3, es3, e3, l3, n3⟩
      subst e3
      rw [← l3] at n3
      exact nn σ2 H2 _ ms3 (wk w2) (s2.frz a2 np) (a2.drop sb) n3
    refine h1 (L ++ [p]) (M ++ [p]) _ H1 hS1 a1 D (go n) ?_ (go b) (go c)
    intro s2 v2 H2 ms2 w2 o2 ⟨ms3, es3, e3, l3, n3⟩
    subst e3
    rw [← l3] at n3
    refine r _ v2 H2 ms3 (wk w2) ?_ n3
    refine Out.frz hp o2.at (fun q hq hqp hq1 => ?_) np sb o2
    cases e : H q with
    | none => rfl
    | some oo => rw [w q oo (fun z => hq (hA.sub q z)) e] at hq1; cases hq1
/-! ### a whole def -/
theorem SlsOk.len {L M : List Addr} {H : Hp} : ∀ {as : List SD} {vs : List V}, SlsOk K L M H as vs → as.length = vs.length
  | [], _, h => by cases h; rfl
  | s :: r, _, ⟨v, t, e, a, b⟩ => by subst e; simp [SlsOk.len b]
theorem SlsOk.get {L M : List Addr} {H : Hp} : ∀ {as : List SD} {vs : List V} {i : Nat} {s : SD}, SlsOk K L M H as vs → as[i]? = some s → ∃ v, vs[i]? = some v ∧ SlOk K L M H s v
  | [], _, _, _, h, e => by simp at e
  | s :: r, _, 0, _, ⟨v, t, e, a, b⟩, e2 => by subst e; simp at e2; subst e2; exact ⟨v, rfl, a⟩
  | s :: r, _, i + 1, x, ⟨v, t, e, a, b⟩, e2 => by
    subst e
    obtain ⟨v2, e3, e4⟩ := SlsOk.get (i := i) (s := x) b (by simpa using e2)
    exact ⟨v2, by simpa using e3, e4⟩
theorem Sl.start {L M : List Addr} {H : Hp} {N : List Str} {as : List SD} {vs : List V} (h : SlsOk K L M H as vs) (hn : as.length ≤ N.length) : Sl K L M (start N vs) H (as ++ List.replicate (N.length - as.length) .u) := fun i s e => by
  have hl := h.len
  by_cases hi : i < as.length
  · rw [List.getElem?_append_left hi] at e
    obtain ⟨v, e1, e2⟩ := h.get e
    have e3 : (L2.start N vs)[i]? = some (some v) := by
      unfold L2.start
      rw [List.getElem?_append_left (by simp [← hl]; exact hi), List.getElem?_map, e1]
      rfl
    cases s with
    | u => exact e2.elim
    | f _ => exact e2.elim
    | g _ => exact e2.elim
    | d x => exact ⟨v, e3, e2⟩
    | m k => exact ⟨v, e3, e2⟩
    | q k => exact ⟨v, e3, e2⟩
    | s ns => exact ⟨v, e3, e2⟩
    | v x => exact ⟨v, e3, e2⟩
    | h φ => exact ⟨v, e3, e2⟩
    | w φ => exact ⟨v, e3, e2⟩
    | o k => exact ⟨v, e3, e2⟩
  · rw [List.getElem?_append_right (by omega)] at e
    have hs : s = .u := by
      have := List.mem_of_getElem? e
      exact (List.mem_replicate.mp this).2
    subst hs
    show i < (L2.start N vs).length
    have := (List.getElem?_eq_some_iff.mp e).1
    unfold L2.start
    simp at this ⊢
    omega
def fin (R : RS) : Po where
  nx := fun _ ms' => R (.d .none) ms'
  rt := R
  bk := fun _ _ => False
  ct := fun _ _ => False
theorem read_of {N : List Str} {Φ : Ph} {vs : List V} {H : Hp} {Q : VK} {X : XK} (hn : ∀ as ms R, Φ as ms R → as.length ≤ N.length) (h : ∀ as ms R, Φ as ms R → S K t (as ++ List.replicate (N.length - as.length) .u) ms (fin R)) (hs : SpD K Φ vs H Q X) :
    t { nx := fun _ H' => Q .non H', rt := Q } (start N vs) H := by
  obtain ⟨L, M, ms, as, R, hA, ho, hp, q⟩ := hs
  exact h as ms R hp L M _ H (Sl.start ho (hn _ _ _ hp)) hA _ (fun σ' H' ds' ms' w s a r => q (.d .none) .non H' ms' w ⟨a, .non⟩ r) (fun s v H' ms' w o r => q s v H' ms' w o r) (fun _ _ _ _ _ _ _ z => z.elim) (fun _ _ _ _ _ _ _ z => z.elim)
end
section
variable {Pg : Program} {w : World} {K : PySem.W.Frag} {mg : Str → Option Value} {base : Heap}
/-- a def that keeps Φ -/
theorem ok_of {x qual : Str} {st : Stmt} {f : Addr} {fd : FuncData} {N ps : List Str} {k : Nat} {Φ : Ph} (F : Fun K x qual st f fd) (Sc : FnScope N ps (defScope st)) (hl : ∀ as ms R, Φ as ms R → as.length = ps.length) (hpn : ps.length ≤ N.length)
    (hbody : ∀ (cdv : Value) (A : Around) (outer : List Env) (s : Shared) (H : Hp) (E : XK), Room k (A.deeper (envOfC qual (defScope st) s.heap.objs.size f cdv)) →
      ∃ t, PSs (cxOf CX0 Pg w K mg base N qual (defScope st) f cdv A outer s H E).nox (defBody st) t ∧ ∀ as ms R, Φ as ms R → S K t (as ++ List.replicate (N.length - as.length) .u) ms (fin R)) : FnOk Pg w K mg base CX0 (k + 1) f fd ps (SpD K Φ) := by
  refine F.ok Sc (fun vs H Q E h => ?_) (fun cdv A outer s H vs Q E hr h => ?_)
  · obtain ⟨L, M, ms, as, R, hA, ho, hp, q⟩ := h
    rw [← ho.len]
    exact hl as ms R hp
  · obtain ⟨t, h1, h2⟩ := hbody cdv A outer s H E hr
    exact ⟨t, h1, read_of (fun as ms R z => by rw [hl as ms R z]; exact hpn) h2 h⟩
end
end Hc

namespace Hc
open PySem PySem.Spec PyProof.Rows L2
abbrev rAddI : R2 := rI0 fun i j => .int (i + j)
abbrev rSubI : R2 := rI0 fun i j => .int (i - j)
abbrev rMulI : R2 := rI CMul fun i j => .int (i * j)
abbrev rModN : R2 := rI (fun _ j => j ≠ 0) fun i j => .int (i.fmod j)
abbrev rPowI : R2 := rI CPow fun i j => .int (i ^ j.toNat)
abbrev rLtI : R2 := rI0 fun i j => .bl (decide (i < j))
abbrev rLeI : R2 := rI0 fun i j => .bl (decide (i ≤ j))
abbrev rGtI : R2 := rI0 fun i j => .bl (decide (j < i))
abbrev rGeI : R2 := rI0 fun i j => .bl (decide (j ≤ i))
abbrev rNegI : V → Hp → VK → Prop := rU fun i => .int (-i)
abbrev rAddStr : R2 := fun x y H Q => ∃ i j, x = .str i ∧ y = .str j ∧ i.length + j.length ≤ sizeLine ∧ Q (.str (i ++ j)) H
abbrev rIsNn : R2 := fun x y H Q => y = .non ∧ Q (.bl (decide (x = .non))) H
abbrev rAbs : List V → Hp → VK → Prop := fun xs H Q => ∃ i, xs = [.int i] ∧ Q (.int (if i < 0 then -i else i)) H
abbrev rMaxI : List V → Hp → VK → Prop := fun xs H Q => ∃ i j, xs = [.int i, .int j] ∧ Q (.int (if j > i then j else i)) H
abbrev rMinI : List V → Hp → VK → Prop := fun xs H Q => ∃ i j, xs = [.int i, .int j] ∧ Q (.int (if j < i then j else i)) H
abbrev rStrI : List V → Hp → VK → Prop := fun xs H Q => ∃ i : Int, xs = [.int i] ∧ i.natAbs.log2 < 1920 ∧ Q (.str (toString i)) H
abbrev rLenQ (K : PySem.W.Frag) : List V → Hp → VK → Prop := fun xs H Q => ∃ p ys, xs = [.ref p] ∧ (SqL K H p ys ∨ SqT K H p ys) ∧ Q (.int ys.length) H
abbrev rTupQ (K : PySem.W.Frag) : List V → Hp → VK → Prop := fun xs H Q => ∃ p ys, xs = [.ref p] ∧ ((SqL K H p ys ∧ ∀ l, H l = none → Q (.ref l) (upd H l (.tup ys))) ∨ (SqT K H p ys ∧ Q (.ref p) H))
/-- sizes -/
@[irreducible] def Bd (n : Nat) (i : Int) : Prop := i.natAbs < 2 ^ n
def CDivX (_ j : Int) : Prop := j ≠ 0 ∧ Bd 8000 j
abbrev rDivX : R2 := rI CDivX fun i j => .int (i.fdiv j)
theorem Bd.iff {n : Nat} {i : Int} : Bd n i ↔ i.natAbs < 2 ^ n := by unfold Bd; exact Iff.rfl
theorem Bd.mono {m n : Nat} {i : Int} (h : Bd m i) (l : m ≤ n) : Bd n i := Bd.iff.mpr (Nat.lt_of_lt_of_le (Bd.iff.mp h) (Nat.pow_le_pow_right (by decide) l))
theorem Bd.add {m : Nat} {i j : Int} (a : Bd m i) (b : Bd m j) : Bd (m + 1) (i + j) := by
  have ha := Bd.iff.mp a
  have hb := Bd.iff.mp b
  refine Bd.iff.mpr ?_
  rw [Nat.pow_succ]
  have := Int.natAbs_add_le i j
  omega
theorem Bd.neg {m : Nat} {i : Int} (a : Bd m i) : Bd m (-i) := Bd.iff.mpr (by rw [Int.natAbs_neg]; exact Bd.iff.mp a)
theorem Bd.sub {m : Nat} {i j : Int} (a : Bd m i) (b : Bd m j) : Bd (m + 1) (i - j) := by
  rw [Int.sub_eq_add_neg]
  exact a.add b.neg
theorem Bd.le {m : Nat} {i j : Int} (a : Bd m j) (h : i.natAbs ≤ j.natAbs) : Bd m i := Bd.iff.mpr (Nat.lt_of_le_of_lt h (Bd.iff.mp a))
theorem Bd.of {n : Nat} {i : Int} (h : i.natAbs < 2 ^ n) : Bd n i := Bd.iff.mpr h
section
variable {X : Cx}
theorem op_fdivX : OpR X (binaryOp .FloorDiv) rDivX := opI fun i j _ _ _ _ _ hc q => floordiv_int hc.1 q (.inl (PyProof.noPylong_of_log2 (Nat.lt_trans (PySem.Flt.log2_lt_of (by decide) (Bd.iff.mp hc.2)) (by decide))))
end
section
variable {K : PySem.W.Frag} {te ta tb tc tl : TE} {tt : TT} {tA : TA} {ds : List SD} {ms : List MD} {R : RS} {t u : TS} {P : Po}
theorem rr_ix {a b : SD} (h : ∃ es i d, (Sv ms a (.list es) ∨ Sv ms a (.tuple es)) ∧ b = .d (.int i) ∧ atI es i = some d ∧ R (.d d) ms) : RR K (rIx K) a b ms R := fun L M H x y hA ha hb Q q => by
  obtain ⟨es, i, d, sa | sa, e1, e2, r⟩ := h
  · exact .inl (rr_ixL ⟨es, i, d, sa, e1, e2, r⟩ L M H x y hA ha hb Q q)
  · exact .inr (.inl (rr_ixT ⟨es, i, d, sa, e1, e2, r⟩ L M H x y hA ha hb Q q))
end
/-! ### defs by name -/
structure Kn (Pg : Program) (w : World) (K : PySem.W.Frag) (mg : Str → Option Value) (base : Heap) (x : Str) (lv : Nat) (ps : List Str) (Φ : Ph) : Prop where
  ex : ∃ f fd, FnOk Pg w K mg base CX0 lv f fd ps (SpD K Φ) ∧ mg x = some (.ref f) ∧ PySem.W.keepIn K (.ref f) = true ∧ Binds K fd ps []
theorem pe_callD {X : Cx} {x : Str} {lv : Nat} {ps : List Str} {Φ : Ph} {e : Expr} {es : List Expr} {t : TA} {p pos : Pos} (h : Kn X.prog X.w X.K X.mg X.base x lv ps Φ) (hr : Room lv X.A) (hg : Gl X x) (ha : PA X (e :: es) t)
    (hdb : (x == ("__debug__" : Str)) = false := by decide) (he : starEach (e :: es) X.env = (false, eval e X.env) :: starEach es X.env := by rfl) (hpl : (backTo pos (starEach es X.env)).any (·.1) = false := by rfl) :
    PE X (.Call (.Name x p) (e :: es) [] pos) (tCall (SpD X.K Φ) [] E0 t) := by
  obtain ⟨f, fd, G, m, k, b⟩ := h.ex
  exact pe_call G hr hg m k b .nil pass0 ha hdb he hpl
def ph1 (f : SD → List MD → RS → Prop) : Ph := fun as ms R => ∃ a, as = [a] ∧ f a ms R
def ph2 (f : SD → SD → List MD → RS → Prop) : Ph := fun as ms R => ∃ a b, as = [a, b] ∧ f a b ms R
def ph3 (f : SD → SD → SD → List MD → RS → Prop) : Ph := fun as ms R => ∃ a b c, as = [a, b, c] ∧ f a b c ms R
theorem ph1_len {f : SD → List MD → RS → Prop} : ∀ as ms R, ph1 f as ms R → as.length = 1 := fun _ _ _ ⟨_, e, _⟩ => by rw [e]; rfl
theorem ph2_len {f : SD → SD → List MD → RS → Prop} : ∀ as ms R, ph2 f as ms R → as.length = 2 := fun _ _ _ ⟨_, _, e, _⟩ => by rw [e]; rfl
theorem ph3_len {f : SD → SD → SD → List MD → RS → Prop} : ∀ as ms R, ph3 f as ms R → as.length = 3 := fun _ _ _ ⟨_, _, _, e, _⟩ => by rw [e]; rfl
/-- the script at the law's door -/
theorem at_door {K : PySem.W.Frag} {H : Hp} {a : Addr} {ns : List Int} (hO : Only H) (hS : SqL K H a (ns.map V.int)) : SlOk K [] [] H (.s ns) (.ref a) := by
  refine ⟨a, rfl, ?_⟩
  rcases hS with h | h
  · exact .inl ⟨by simp, h⟩
  · exact .inr fun H' => .inr h
theorem at_nil {H : Hp} : At [] [] [] H := ⟨List.nodup_nil, fun _ h => by simp at h, fun _ h => by simp at h, rfl, fun _ _ _ h => by simp at h⟩
end Hc

namespace Hc
open PySem PySem.Spec PyProof.Rows L2
theorem instInt (d : PyData) : kitB (tyN d) "int" = some (inst d "int") := by
  have h : ∀ n : String, n ∈ ["NoneType", "bool", "int", "str", "list", "tuple", "dict"] → kitB n "int" = some ((kitB n "int").getD false) := by decide +kernel
  cases d <;> exact h _ (by simp [tyN])
theorem instBool (d : PyData) : kitB (tyN d) "bool" = some (inst d "bool") := by
  have h : ∀ n : String, n ∈ ["NoneType", "bool", "int", "str", "list", "tuple", "dict"] → kitB n "bool" = some ((kitB n "bool").getD false) := by decide +kernel
  cases d <;> exact h _ (by simp [tyN])
theorem instTuple (d : PyData) : kitB (tyN d) "tuple" = some (inst d "tuple") := by
  have h : ∀ n : String, n ∈ ["NoneType", "bool", "int", "str", "list", "tuple", "dict"] → kitB n "tuple" = some ((kitB n "tuple").getD false) := by decide +kernel
  cases d <;> exact h _ (by simp [tyN])
theorem instList (d : PyData) : kitB (tyN d) "list" = some (inst d "list") := by
  have h : ∀ n : String, n ∈ ["NoneType", "bool", "int", "str", "list", "tuple", "dict"] → kitB n "list" = some ((kitB n "list").getD false) := by decide +kernel
  cases d <;> exact h _ (by simp [tyN])
theorem instStr (d : PyData) : kitB (tyN d) "str" = some (inst d "str") := by
  have h : ∀ n : String, n ∈ ["NoneType", "bool", "int", "str", "list", "tuple", "dict"] → kitB n "str" = some ((kitB n "str").getD false) := by decide +kernel
  cases d <;> exact h _ (by simp [tyN])
def isWhole : PyData → Bool
  | .int _ => true
  | _ => false
def isTup : PyData → Bool
  | .tuple _ => true
  | _ => false
def isLst : PyData → Bool
  | .list _ => true
  | _ => false
def isRow : PyData → Bool
  | .list _ => true
  | .tuple _ => true
  | _ => false
theorem inst_tup (x : PyData) : inst x "tuple" = isTup x := by
  cases x with
  | none => exact (by decide +kernel : inst .none "tuple" = false)
  | bool b => exact (by decide +kernel : inst (.bool true) "tuple" = false)
  | int i => exact (by decide +kernel : inst (.int 0) "tuple" = false)
  | str s => exact (by decide +kernel : inst (.str "") "tuple" = false)
  | list s => exact (by decide +kernel : inst (.list []) "tuple" = false)
  | tuple s => exact (by decide +kernel : inst (.tuple []) "tuple" = true)
  | dict s => exact (by decide +kernel : inst (.dict []) "tuple" = false)
theorem inst_lst (x : PyData) : inst x "list" = isLst x := by
  cases x with
  | none => exact (by decide +kernel : inst .none "list" = false)
  | bool b => exact (by decide +kernel : inst (.bool true) "list" = false)
  | int i => exact (by decide +kernel : inst (.int 0) "list" = false)
  | str s => exact (by decide +kernel : inst (.str "") "list" = false)
  | list s => exact (by decide +kernel : inst (.list []) "list" = true)
  | tuple s => exact (by decide +kernel : inst (.tuple []) "list" = false)
  | dict s => exact (by decide +kernel : inst (.dict []) "list" = false)
theorem inst_row (x : PyData) : (inst x "list" || inst x "tuple") = isRow x := by rw [inst_lst, inst_tup]; cases x <;> rfl
theorem whole_and (x : PyData) : (inst x "int" && !inst x "bool") = isWhole x := by
  cases x with
  | none => exact (by decide +kernel : (inst .none "int" && !inst .none "bool") = false)
  | bool b => exact (by decide +kernel : (inst (.bool true) "int" && !inst (.bool true) "bool") = false)
  | int i => exact (by decide +kernel : (inst (.int 0) "int" && !inst (.int 0) "bool") = true)
  | str s => exact (by decide +kernel : (inst (.str "") "int" && !inst (.str "") "bool") = false)
  | list s => exact (by decide +kernel : (inst (.list []) "int" && !inst (.list []) "bool") = false)
  | tuple s => exact (by decide +kernel : (inst (.tuple []) "int" && !inst (.tuple []) "bool") = false)
  | dict s => exact (by decide +kernel : (inst (.dict []) "int" && !inst (.dict []) "bool") = false)
theorem whole_inv {x : PyData} (h : isWhole x = true) : ∃ i, x = .int i := by
  cases x with
  | int i => exact ⟨i, rfl⟩
  | _ => cases h
theorem tup_inv {x : PyData} (h : isTup x = true) : ∃ i, x = .tuple i := by
  cases x with
  | tuple i => exact ⟨i, rfl⟩
  | _ => cases h
/-! ### numbers -/
theorem abs_nat (i : Int) : (if i < 0 then -i else i) = (i.natAbs : Int) := by split <;> omega
theorem fmod_nat (x y : Nat) : Int.fmod (x : Int) (y : Int) = ((x % y : Nat) : Int) := by
  rw [Int.fmod_eq_emod_of_nonneg _ (by omega)]
  rfl
theorem gcd_step (x y : Nat) : Nat.gcd y (x % y) = Nat.gcd x y := by
  rw [Nat.gcd_comm y (x % y), ← Nat.gcd_rec, Nat.gcd_comm]
abbrev pr (p : Int × Int) : PyData := .tuple [.int p.1, .int p.2]
/-- the fraction of two ints -/
def fr (i j : Int) : Int × Int := if j < 0 then (i.fdiv (-(Int.gcd i j : Int)), j.fdiv (-(Int.gcd i j : Int))) else (i.fdiv (Int.gcd i j), j.fdiv (Int.gcd i j))
theorem fr_is {i j : Int} (hj : j ≠ 0) : ∃ c : Int, c ≠ 0 ∧ (0 < c ↔ 0 < j) ∧ c.natAbs = Int.gcd i j ∧ i = (fr i j).1 * c ∧ j = (fr i j).2 * c := by
  have hg : 0 < Int.gcd i j := Int.gcd_pos_of_ne_zero_right i hj
  have d1 : (Int.gcd i j : Int) ∣ i := Int.gcd_dvd_left ..
  have d2 : (Int.gcd i j : Int) ∣ j := Int.gcd_dvd_right ..
  unfold fr
  by_cases h : j < 0
  · rw [if_pos h]
    refine ⟨-(Int.gcd i j : Int), by omega, by omega, by omega, ?_, ?_⟩
    · exact (Int.fdiv_mul_cancel (Int.neg_dvd.mpr d1)).symm
    · exact (Int.fdiv_mul_cancel (Int.neg_dvd.mpr d2)).symm
  · rw [if_neg h]
    refine ⟨(Int.gcd i j : Int), by omega, by omega, by omega, ?_, ?_⟩
    · exact (Int.fdiv_mul_cancel d1).symm
    · exact (Int.fdiv_mul_cancel d2).symm
theorem fr_pos {i j : Int} (hj : j ≠ 0) : 0 < (fr i j).2 := by
  obtain ⟨c, c0, cs, _, _, e⟩ := fr_is (i := i) hj
  by_cases h : 0 < j
  · have hc := cs.mpr h
    rw [e] at h
    exact Int.pos_of_mul_pos_left h hc
  · have hc : c < 0 := by
      have : ¬ 0 < c := fun z => h (cs.mp z)
      omega
    have hn : (fr i j).2 * c < 0 := by rw [← e]; omega
    exact Int.pos_of_mul_neg_left hn hc
theorem fr_low {i j : Int} (hj : j ≠ 0) : Int.gcd (fr i j).1 (fr i j).2 = 1 := by
  obtain ⟨c, c0, cs, cg, e1, e2⟩ := fr_is (i := i) hj
  have h : Int.gcd i j = Int.gcd (fr i j).1 (fr i j).2 * c.natAbs := by
    have := Int.gcd_mul_right (fr i j).1 c (fr i j).2
    rw [← e1, ← e2] at this
    exact this
  have hg : 0 < Int.gcd i j := Int.gcd_pos_of_ne_zero_right i hj
  rw [cg] at h
  have h1 : 1 * Int.gcd i j = Int.gcd (fr i j).1 (fr i j).2 * Int.gcd i j := by rw [Nat.one_mul]; exact h
  exact (Nat.eq_of_mul_eq_mul_right hg h1).symm
theorem fr_le {i j : Int} (hj : j ≠ 0) : (fr i j).1.natAbs ≤ i.natAbs ∧ (fr i j).2.natAbs ≤ j.natAbs := by
  obtain ⟨c, c0, cs, cg, e1, e2⟩ := fr_is (i := i) hj
  have hc : 1 ≤ c.natAbs := by omega
  generalize (fr i j).1 = x at *
  generalize (fr i j).2 = y at *
  subst e1 e2
  rw [Int.natAbs_mul, Int.natAbs_mul]
  exact ⟨Nat.le_mul_of_pos_right _ hc, Nat.le_mul_of_pos_right _ hc⟩
def isFrac : PyData → Bool
  | .tuple [.int a, .int b] => decide (1 ≤ b) && decide (Int.gcd a b = 1)
  | _ => false
theorem isFrac_len {xs : List PyData} (h : xs.length ≠ 2) : isFrac (.tuple xs) = false := by
  unfold isFrac
  split
  · simp_all
  · rfl
theorem isFrac_one {p q : PyData} (h : isWhole p = false) : isFrac (.tuple [p, q]) = false := by
  unfold isFrac
  split
  · simp_all [isWhole]
  · rfl
theorem isFrac_two {p q : PyData} (h : isWhole q = false) : isFrac (.tuple [p, q]) = false := by
  unfold isFrac
  split
  · simp_all [isWhole]
  · rfl
theorem isFrac_kind {p : PyData} (h : isTup p = false) : isFrac p = false := by
  unfold isFrac
  split
  · simp_all [isTup]
  · rfl
theorem eqv_int (i j : Int) : PyData.eqv (.int i) (.int j) = decide (i = j) := by
  rw [PyData.eqv]
  by_cases h : i = j
  · subst h; simp
  · simp [h]
theorem shaped_int (i : Int) : SeqAt.shaped (.int i) = true := by simp [SeqAt.shaped, PyData.canLay0, PyData.depth]
end Hc

namespace Hc
open PySem PySem.Spec PyProof.Rows L2
/-! ### a tuple times one is itself -/
section
variable {K : PySem.W.Frag} {te ta tb tc tl : TE} {tt : TT} {tA : TA} {ds : List SD} {ms : List MD} {R : RS} {t u : TS} {P : Po}
/-! ### slices -/
def EO (K : PySem.W.Frag) (to : TO) (ds : List SD) (ms : List MD) (R : Option Int → List MD → Prop) : Prop :=
  ∀ (L M : List Addr) (σ : L2.St) (H : Hp), Sl K L M σ H ds → At L M ms H → ∀ Q : Option Int → Hp → Prop, (∀ o H' ms', Wk L H H' → At L M ms' H' → R o ms' → Q o H') → to σ H Q
theorem eo_none {RO : Option Int → List MD → Prop} (r : RO none ms) : EO K tNoPart ds ms RO := fun L M σ H hS hA Q q => q none H ms (Wk.refl L H) hA r
theorem eo_some {RO : Option Int → List MD → Prop} (h : E K te ds ms fun s ms1 => ∃ i, s = .d (.int i) ∧ RO (some i) ms1) : EO K (tPart te) ds ms RO := fun L M σ H hS hA Q q =>
  h L M σ H hS hA _ fun s v H1 ms1 w o ⟨i, e, r⟩ => by
    subst e
    obtain ⟨a, z⟩ := o
    cases z
    exact ⟨i, rfl, q (some i) H1 ms1 w a r⟩
def cutD (es : List PyData) (lo hi : Option Int) : List PyData := (es.drop (HT.sIx es.length 0 lo)).take (HT.sIx es.length es.length hi - HT.sIx es.length 0 lo)
theorem cut_of {M : List Addr} {H : Hp} {xs : List V} {es : List PyData} (r : RpA M H xs es) (lo hi : Option Int) : RpA M H (cutV xs lo hi) (cutD es lo hi) := by
  unfold cutV cutD
  rw [r.length]
  exact (r.drop _).take _
theorem e_slL {to th : TO} (h : E K te ds ms fun s ms1 => EO K to ds ms1 fun lo ms2 => EO K th ds ms2 fun hi ms3 => ∃ es, Sv ms3 (dd s) (.list es) ∧ R (.f (cutD es lo hi)) ms3) : E K (tSl (rSlL K) te to th) ds ms R := fun L M σ H hS hA Q q =>
  h L M σ H hS hA _ fun s v H1 ms1 w1 o1 h1 => h1 L M σ H1 (hS.mono hA w1) o1.at _ fun lo H2 ms2 w2 a2 h2 => h2 L M σ H2 ((hS.mono hA w1).mono o1.at w2) a2 _ fun hi H3 ms3 w3 a3 ⟨es, sv, r⟩ => by
    obtain ⟨p, xs, rfl, hq, hr⟩ := sv.lst a3 ((o1.sl.mono o1.at w2).mono a2 w3)
    have w := (w1.trans w2).trans w3
    exact ⟨p, xs, rfl, hq, fun l hl => q (.f (cutD es lo hi)) _ _ ms3 (w.trans (Wk.new hl)) (out_new a3 w hl (cut_of hr lo hi)) r⟩
/-- a part of a tuple that is not the whole -/
theorem e_slT {to th : TO} (h : E K te ds ms fun s ms1 => EO K to ds ms1 fun lo ms2 => EO K th ds ms2 fun hi ms3 => ∃ es, s = .d (.tuple es) ∧ ¬ (HT.sIx es.length 0 lo = 0 ∧ HT.sIx es.length es.length hi = es.length) ∧ R (.d (.tuple (cutD es lo hi))) ms3) : E K (tSl (rSlT K) te to th) ds ms R := fun L M σ H hS hA Q q =>
  h L M σ H hS hA _ fun s v H1 ms1 w1 o1 h1 => h1 L M σ H1 (hS.mono hA w1) o1.at _ fun lo H2 ms2 w2 a2 h2 => h2 L M σ H2 ((hS.mono hA w1).mono o1.at w2) a2 _ fun hi H3 ms3 w3 a3 ⟨es, e, hn, r⟩ => by
    subst e
    have z := (o1.sl.mono o1.at w2).mono a2 w3
    obtain ⟨p, xs, rfl, e1, hr⟩ := Sv.tup (ms := ms3) (.d _) z
    have w := (w1.trans w2).trans w3
    refine ⟨p, xs, rfl, SqT.of e1, by rw [hr.length]; exact hn, fun l hl => ?_⟩
    exact q (.d (.tuple (cutD es lo hi))) _ _ ms3 (w.trans (Wk.new hl)) ⟨a3.new hl, .tup (a3.fresh hl) upd_same (RpA.to (a3.wk (Wk.new hl)) _ _ (cut_of hr lo hi))⟩ r
end
/-! ### data that == takes -/
def Shp (n : Nat) (d : PyData) : Prop := d.canLay0 = true ∧ d.depth ≤ n
theorem Shp.ok {n : Nat} {d : PyData} (h : Shp n d) (hn : n ≤ 64) : SeqAt.shaped d = true := by
  unfold SeqAt.shaped
  rw [h.1, decide_eq_true (Nat.le_trans h.2 hn)]
  rfl
theorem Shp.all {n : Nat} : ∀ {es : List PyData}, (∀ e ∈ es, Shp n e) → PyData.canLayAll0 es = true ∧ PyData.depthAll es ≤ n
  | [], _ => ⟨rfl, by simp [PyData.depthAll]⟩
  | e :: r, h => by
    have h1 := h e (by simp)
    have h2 := Shp.all (es := r) fun x hx => h x (by simp [hx])
    exact ⟨by simp [PyData.canLayAll0, h1.1, h2.1], by simp only [PyData.depthAll]; exact Nat.max_le.mpr ⟨h1.2, h2.2⟩⟩
theorem Shp.tup {n : Nat} {es : List PyData} (h : ∀ e ∈ es, Shp n e) : Shp (n + 1) (.tuple es) := by
  have := Shp.all h
  exact ⟨by simp [PyData.canLay0, this.1], by simp only [PyData.depth]; have := this.2; omega⟩
theorem Shp.lst {n : Nat} {es : List PyData} (h : ∀ e ∈ es, Shp n e) : Shp (n + 1) (.list es) := by
  have := Shp.all h
  exact ⟨by simp [PyData.canLay0, this.1], by simp only [PyData.depth]; have := this.2; omega⟩
theorem Shp.int (i : Int) : Shp 0 (.int i) := ⟨rfl, Nat.le_refl _⟩
theorem Shp.bl (i : Bool) : Shp 0 (.bool i) := ⟨rfl, Nat.le_refl _⟩
theorem Shp.mono {m n : Nat} {d : PyData} (h : Shp m d) (l : m ≤ n) : Shp n d := ⟨h.1, Nat.le_trans h.2 l⟩
theorem Shp.ints (ns : List Int) : ∀ e ∈ ns.map PyData.int, Shp 0 e := fun e he => by
  obtain ⟨i, _, rfl⟩ := List.mem_map.mp he
  exact .int i
theorem Shp.pr (p : Int × Int) : Shp 1 (pr p) := Shp.tup fun e he => by
  simp at he
  rcases he with rfl | rfl <;> exact .int _
theorem eqv_self {n : Nat} {d : PyData} (h : Shp n d) : PyData.eqv d d = true := SeqAt.eqv_refl d h.1
/-! ### fractions as numbers -/
def val (p : Int × Int) : Rat := (p.1 : Rat) / (p.2 : Rat)
structure Lo (p : Int × Int) : Prop where
  pos : 0 < p.2
  low : Int.gcd p.1 p.2 = 1
theorem Lo.fr {i j : Int} (h : j ≠ 0) : Lo (fr i j) := ⟨fr_pos h, fr_low h⟩
structure Wt (p : Int × Int) : Prop where
  lo : Lo p
  b1 : Bd 32 p.1
  b2 : Bd 10 p.2
theorem lo01 : Lo (0, 1) := ⟨by decide, by decide⟩
theorem take_snoc {α : Type} {l : List α} {i : Nat} {x : α} (h : l[i]? = some x) : l.take (i + 1) = l.take i ++ [x] := by
  rw [List.take_add_one, h]
  rfl
/-! ### webs -/
abbrev Tie := Nat × Nat × (Int × Int)
abbrev encT (t : Tie) : PyData := .tuple [.int t.1, .int t.2.1, pr t.2.2]
abbrev encW (m : Nat) (ts : List Tie) : PyData := .tuple [.int m, .tuple (ts.map encT)]
structure TieOk (m : Nat) (t : Tie) : Prop where
  lt : t.1 < t.2.1
  lm : t.2.1 < m
  w : Wt t.2.2
structure WebOk (m : Nat) (ts : List Tie) : Prop where
  all : ∀ t ∈ ts, TieOk m t
  len : ts.length ≤ 170
  m1 : 1 ≤ m
  m60 : m ≤ 60
theorem get1 (ms : List MD) (A : MD) : (ms ++ [A])[ms.length]? = some A := by simp
theorem set1 (ms : List MD) (A X : MD) : (ms ++ [A]).set ms.length X = ms ++ [X] := by
  rw [List.set_append_right _ _ (Nat.le_refl _), Nat.sub_self]
  rfl
theorem get2b (ms : List MD) (A B : MD) : (ms ++ [A] ++ [B])[ms.length + 1]? = some B := by
  have := get1 (ms ++ [A]) B
  rw [List.length_append] at this
  exact this
theorem set2b (ms : List MD) (A B X : MD) : (ms ++ [A] ++ [B]).set (ms.length + 1) X = ms ++ [A] ++ [X] := by
  have := set1 (ms ++ [A]) B X
  rw [List.length_append] at this
  exact this
section
variable {K : PySem.W.Frag} {te ta tb tc tl : TE} {tt : TT} {tA : TA} {ds : List SD} {ms : List MD} {R : RS} {t u : TS} {P : Po}
/-- a statement, then what holds behind it, then the rest -/
theorem s_mid (Mid : List SD → List MD → Prop) (h1 : S K t ds ms { P with nx := Mid }) (h2 : ∀ ds1 ms1, Mid ds1 ms1 → S K u ds1 ms1 P) : S K (tSeq t u) ds ms P := fun L M σ H hS hA D n r b c =>
  h1 L M σ H hS hA { D with nx := u D } (fun σ1 H1 ds1 ms1 w s1 a1 h => h2 ds1 ms1 h L M σ1 H1 s1 a1 D (n.on w) (r.on a1 w) (b.on w) (c.on w)) r b c
end
end Hc

namespace Hc
open PySem PySem.Spec PyProof.Rows L2
/-! ### errors -/
abbrev PhX := List SD → List MD → RS → (List MD → Prop) → Prop
/-- a def that hands back, or raises the class at C -/
def SpX (K : PySem.W.Frag) (C : Addr) (Φ : PhX) : Sp := fun vs H Q X => ∃ L M ms as R Y, At L M ms H ∧ SlsOk K L M H as vs ∧ Φ as ms R Y ∧ (∀ s v H' ms', Wk L H H' → Out K L M H H' ms' v s → R s ms' → Q v H') ∧ ∀ H' ms', Wk L H H' → At L M ms' H' → Y ms' → X (.ref C) none H'
def Ex (L M : List Addr) (H : Hp) (C : Addr) (Y : List MD → Prop) (X : XK) : Prop := ∀ H' ms', Wk L H H' → At L M ms' H' → Y ms' → X (.ref C) none H'
def SX (K : PySem.W.Frag) (C : Addr) (t : XK → TS) (ds : List SD) (ms : List MD) (P : Po) (Y : List MD → Prop) : Prop :=
  ∀ (L M : List Addr) (σ : L2.St) (H : Hp), Sl K L M σ H ds → At L M ms H → ∀ (D : Ends) (X : XK), Nx K L M H P.nx D.nx → Rx K L M H P.rt D.rt → Nx K L M H P.bk D.bk → Nx K L M H P.ct D.ct → Ex L M H C Y X → t X D σ H
section
variable {K : PySem.W.Frag} {C : Addr} {te ta tb tc tl : TE} {tt : TT} {tA : TA} {ds : List SD} {ms : List MD} {R : RS} {P : Po} {Y : List MD → Prop}
theorem Ex.on {L M : List Addr} {H H1 : Hp} {X : XK} (w : Wk L H H1) (h : Ex L M H C Y X) : Ex L M H1 C Y X := fun H' ms' w2 => h H' ms' (w.trans w2)
theorem sx_of {t : TS} (h : S K t ds ms P) : SX K C (fun _ => t) ds ms P Y := fun L M σ H hS hA D X n r b c _ => h L M σ H hS hA D n r b c
theorem sx_seq {t u : XK → TS} (h : SX K C t ds ms { P with nx := fun ds1 ms1 => SX K C u ds1 ms1 P Y } Y) : SX K C (fun X => tSeq (t X) (u X)) ds ms P Y := fun L M σ H hS hA D X n r b c x =>
  h L M σ H hS hA { D with nx := u X D } X (fun σ1 H1 ds1 ms1 w s1 a1 h1 => h1 L M σ1 H1 s1 a1 D X (n.on w) (r.on a1 w) (b.on w) (c.on w) (x.on w)) r b c x
theorem sx_if {t u : XK → TS} (h : ET K tt ds ms fun b ms1 => (b = true → SX K C t ds ms1 P Y) ∧ (b = false → SX K C u ds ms1 P Y)) : SX K C (fun X => tIfS tt (t X) (u X)) ds ms P Y := fun L M σ H hS hA D X n r b c x =>
  h L M σ H hS hA _ fun k H1 ms1 w a ⟨h1, h2⟩ => by
    cases k with
    | true => exact h1 rfl L M σ H1 (hS.mono hA w) a D X (n.on w) (r.on a w) (b.on w) (c.on w) (x.on w)
    | false => exact h2 rfl L M σ H1 (hS.mono hA w) a D X (n.on w) (r.on a w) (b.on w) (c.on w) (x.on w)
/-- raise -/
def tRs (C : Addr) (X : XK) : TS := fun _ σ H => (fun (cls : Value) (d : Option Addr) (H' : Hp) => (fun (c : Value) (d : Option Addr) (_ : L2.St) (H : Hp) => X c d H) cls d σ H') (.ref C) none H
theorem sx_raise (h : Y ms) : SX K C (tRs C) ds ms P Y := fun L M σ H hS hA D X n r b c x => x H ms (Wk.refl L H) hA h
theorem kit_up {D : Addr} (hc : (PySem.W.clsIn K D).isSome = true) (ht : PySem.W.typeIn K (.ref D) = some (.type "type")) (hs : PySem.W.subIn K (.ref C) (.ref D) = some true) : PySem.W.kitOne K (.ref C) (.ref D) = some true := by
  unfold PySem.W.kitOne
  by_cases e : ((Value.ref C == Value.ref D) = true)
  · rw [if_pos e]
  · rw [if_neg e]
    show (if _ then _ else _) = _
    rw [hc, ht, hs]
    rfl
theorem kit_upT {T : String} (hm : PySem.W.kitMeta T = true) (hs : PySem.W.subIn K (.ref C) (.type T) = some true) : PySem.W.kitOne K (.ref C) (.type T) = some true := by
  unfold PySem.W.kitOne
  rw [if_neg (by simp)]
  show (if _ then _ else _) = _
  rw [if_pos hm, hs]
/-- a class of one's own over ValueError -/
structure Er (K : PySem.W.Frag) (mg : Str → Option Value) (x : Str) (C : Addr) : Prop where
  g : mg x = some (.ref C)
  x : PySem.W.excIn K C [.type "ValueError", .type "Exception", .type "BaseException", .type "object"] "ValueError.__new__" = true
  k : PySem.W.keepIn K (.ref C) = true
  b : PySem.W.subIn K (.ref C) (.type "BaseException") = some true
  t : PySem.W.typeIn K (.ref C) = some (.type "type")
  s : PySem.W.subIn K (.ref C) (.ref C) = some true
  e : ExcC K C
theorem ps_raiseD {X : Cx} {x m : Str} {j : Nat} {p p2 pos pos' : Pos} {E₁ : Value → Shared → Prop} {Y : XK} (e : Er X.K X.mg x C) (hc : X.calm = true) (hs : X.stack = X.env :: X.outer) (hf : X.env.frame = some X.env.locals) (hex : X.ex = [])
    (hx : X.xe = fun e s' => wpAny (model X.prog X.w) X.A (leaving X.env e) (fun _ s'' => L2.CX X.prog X.w X.outer X.H_0 X.s_0 Y e s'') E₁ s') (hg : Gl X x) (hdb : (x == ("__debug__" : Str)) = false := by decide) :
    PS X (.Raise (some (.Call (.Name x p) [.Constant (.str m) j p2] [] pos)) none pos') (tRs C Y) :=
  ps_raise hc (takes_of hs hf hex hx) (pmk_own PySem.F.excBase_ValueError e.x e.g e.k (raises_own e.b e.t) hg hdb)
/-- a def that may raise, by name -/
structure KnX (Pg : Program) (w : World) (K : PySem.W.Frag) (mg : Str → Option Value) (base : Heap) (x : Str) (lv : Nat) (ps : List Str) (C : Addr) (Φ : PhX) : Prop where
  ex : ∃ f fd, FnOk Pg w K mg base (L2.CX Pg w) lv f fd ps (SpX K C Φ) ∧ mg x = some (.ref f) ∧ PySem.W.keepIn K (.ref f) = true ∧ Binds K fd ps []
theorem pe_callX {X : Cx} {x : Str} {lv : Nat} {ps : List Str} {Φ : PhX} {W : WX} {e : Expr} {es : List Expr} {t : TA} {p pos : Pos} (h : KnX X.prog X.w X.K X.mg X.base x lv ps C Φ) (hr : Room lv X.A) (hg : Gl X x) (tk : Takes X W) (ha : PA X (e :: es) t)
    (hdb : (x == ("__debug__" : Str)) = false := by decide) (he : starEach (e :: es) X.env = (false, eval e X.env) :: starEach es X.env := by rfl) (hpl : (backTo pos (starEach es X.env)).any (·.1) = false := by rfl) :
    PE X (.Call (.Name x p) (e :: es) [] pos) (tCallS (SpX X.K C Φ) (WE W) t) := by
  obtain ⟨f, fd, G, m, k, b⟩ := h.ex
  exact pe_callS G hr hg m k b (fun σ => passAt tk σ) ha hdb he hpl
/-- in a place where it raises nothing -/
theorem pe_callX0 {X : Cx} {x : Str} {lv : Nat} {ps : List Str} {Φ : PhX} {e : Expr} {es : List Expr} {t : TA} {p pos : Pos} (h : KnX X.prog X.w X.K X.mg X.base x lv ps C Φ) (hr : Room lv X.A) (hg : Gl X x) (ha : PA X (e :: es) t)
    (hdb : (x == ("__debug__" : Str)) = false := by decide) (he : starEach (e :: es) X.env = (false, eval e X.env) :: starEach es X.env := by rfl) (hpl : (backTo pos (starEach es X.env)).any (·.1) = false := by rfl) :
    PE X (.Call (.Name x p) (e :: es) [] pos) (tCall (SpX X.K C Φ) [] E0 t) := by
  obtain ⟨f, fd, G, m, k, b⟩ := h.ex
  exact pe_call G hr hg m k b .nil passL ha hdb he hpl
theorem e_callX0 {Φ : PhX} (h : EA K tA ds ms fun as ms1 => Φ as ms1 R fun _ => False) : E K (tCall (SpX K C Φ) [] E0 tA) ds ms R := fun L M σ H hS hA Q q =>
  h L M σ H hS hA _ fun as vs H1 ms1 w1 a1 o1 h1 => by
    rw [List.append_nil]
    exact ⟨L, M, ms1, as, R, fun _ => False, a1, o1, h1, fun s v H3 ms3 w3 o3 r3 => q s v H3 ms3 (w1.trans w3) (o3.back a1 w1) r3, fun _ _ _ _ z => z.elim⟩
theorem okX_of {Pg : Program} {w : World} {mg : Str → Option Value} {base : Heap} {x qual : Str} {st : Stmt} {f : Addr} {fd : FuncData} {N ps : List Str} {k : Nat} {Φ : PhX} (F : Fun K x qual st f fd) (Sc : FnScope N ps (defScope st)) (hl : ∀ as ms R Y, Φ as ms R Y → as.length = ps.length) (hpn : ps.length ≤ N.length)
    (t : XK → TS) (hbody : ∀ (cdv : Value) (A : Around) (outer : List Env) (s : Shared) (H : Hp) (E : XK), Room k (A.deeper (envOfC qual (defScope st) s.heap.objs.size f cdv)) → PSs (cxOf (L2.CX Pg w) Pg w K mg base N qual (defScope st) f cdv A outer s H E) (defBody st) (t E))
    (h2 : ∀ as ms R Y, Φ as ms R Y → SX K C t (as ++ List.replicate (N.length - as.length) .u) ms (fin R) Y) : FnOk Pg w K mg base (L2.CX Pg w) (k + 1) f fd ps (SpX K C Φ) := by
  refine F.okX Sc (fun vs H Q E h => ?_) (fun cdv A outer s H vs Q E hr h => ⟨t E, hbody cdv A outer s H E hr, ?_⟩)
  · obtain ⟨L, M, ms, as, R, Y, hA, ho, hp, q⟩ := h
    rw [← ho.len]
    exact hl as ms R Y hp
  · obtain ⟨L, M, ms, as, R, Y, hA, ho, hp, q, x⟩ := h
    exact h2 as ms R Y hp L M _ H (Sl.start ho (by rw [hl as ms R Y hp]; exact hpn)) hA _ E (fun σ' H' ds' ms' w s a r => q (.d .none) .non H' ms' w ⟨a, .non⟩ r) (fun s v H' ms' w o r => q s v H' ms' w o r) (fun _ _ _ _ _ _ _ z => z.elim) (fun _ _ _ _ _ _ _ z => z.elim) x
/-! ### try .. except X as n -/
end
def phx2 (f : SD → SD → List MD → RS → (List MD → Prop) → Prop) : PhX := fun as ms R Y => ∃ a b, as = [a, b] ∧ f a b ms R Y
theorem phx2_len {f : SD → SD → List MD → RS → (List MD → Prop) → Prop} : ∀ as ms R Y, phx2 f as ms R Y → as.length = 2 := fun _ _ _ _ ⟨_, _, e, _⟩ => by rw [e]; rfl
end Hc

namespace Hc
open PySem PySem.Spec PyProof.Rows L2
/-! ### what is a list or a tuple, in a slot, walked -/
def iRow (K : PySem.W.Frag) (i : Nat) : TI := fun σ H R => iList K (tVar i) σ H R ∨ iTup K (tVar i) σ H R
theorem pi_row {X : Cx} {tg l : Expr} {i : Nat} (h : PE X l (tVar i)) : PI X tg l (iRow X.K i) := ⟨fun pins s σ H R I q => by
  rcases q with q | q
  · exact (pi_list h).run pins s σ H R I q
  · exact (pi_tup h).run pins s σ H R I q⟩
abbrev rJoinK (K : PySem.W.Frag) : V → List V → Hp → VK → Prop := fun x xs H Q => ∃ a p, ∃ ys : List Str, x = .str a ∧ xs = [.ref p] ∧ (SqL K H p (ys.map V.str) ∨ SqT K H p (ys.map V.str)) ∧ (ys.map (·.length)).sum + ys.length * a.length ≤ 16777216 ∧ Q (.str (Txt.join a ys)) H
section
variable {K : PySem.W.Frag} {te ta tb tc tl : TE} {tt : TT} {tA : TA} {ds : List SD} {ms : List MD} {R : RS} {P : Po}
theorem e_lcRowL {i : Nat} {g : TG} {vs : List Nat} (h : E K (tLc (iList K (tVar i)) g tt te vs) ds ms R) : E K (tLc (iRow K i) g tt te vs) ds ms R := fun L M σ H hS hA Q q => .inl (h L M σ H hS hA Q q)
theorem e_lcRowT {i : Nat} {g : TG} {vs : List Nat} (h : E K (tLc (iTup K (tVar i)) g tt te vs) ds ms R) : E K (tLc (iRow K i) g tt te vs) ds ms R := fun L M σ H hS hA Q q => .inr (h L M σ H hS hA Q q)
/-- both at once: the source a row es -/
theorem e_lcRow {i : Nat} {g : TG} {js vs : List Nat} {x : PyData} {es : List PyData} (hi : ds[i]? = some (.d x)) (hx : x = .list es ∨ x = .tuple es) (hj : ∀ j ∈ js, j ∈ vs) (hz : es.length ≤ 10000) (Pv : Nat → List PyData → List MD → Prop) (h0 : Pv 0 [] ms)
      (hs : ∀ i e acc ms1, es[i]? = some e → Pv i acc ms1 → Lt K g js tt te vs ds (.d e) ms1 acc (Pv (i + 1))) (hd : ∀ acc ms1, Pv es.length acc ms1 → R (.f acc) ms1) : E K (tLc (iRow K i) g tt te vs) ds ms R := by
  rcases hx with rfl | rfl
  · exact e_lcRowL (e_lcL hj (e_var hi ⟨es, .d es, hz, Pv, h0, hs, hd⟩))
  · exact e_lcRowT (e_lcT hj (e_var hi ⟨es, rfl, hz, Pv, h0, hs, hd⟩))
theorem strs_inv {M : List Addr} {H : Hp} : ∀ {zs : List Str} {xs : List V}, RpA M H xs (zs.map PyData.str) → xs = zs.map V.str
  | [], _, h => by cases h; rfl
  | n :: r, _, h => by
    cases h with
    | cons a b => cases a; rw [strs_inv b]; rfl
theorem e_join (h : E K ta ds ms fun s ms1 => ∃ a, s = .d (.str a) ∧ E K te ds ms1 fun s2 ms2 => ∃ zs : List Str, Sv ms2 (dd s2) (.list (zs.map .str)) ∧ (zs.map (·.length)).sum + zs.length * a.length ≤ 16777216 ∧ R (.d (.str (Txt.join a zs))) ms2) : E K (tM1 (rJoinK K) ta te) ds ms R := fun L M σ H hS hA Q q =>
  h L M σ H hS hA _ fun s v H1 ms1 w1 o1 ⟨a, e, h1⟩ => by
    subst e
    obtain ⟨a1, z⟩ := o1
    cases z
    refine ⟨⟨a, rfl⟩, ?_⟩
    refine h1 L M σ H1 (hS.mono hA w1) a1 _ fun s2 v2 H2 ms2 w2 o2 ⟨zs, sv, hz, r⟩ => ?_
    obtain ⟨p, xs, rfl, hq, hr⟩ := sv.lst o2.at o2.sl
    rw [strs_inv hr] at hq
    exact ⟨a, p, zs, rfl, rfl, .inl hq, hz, q (.d (.str _)) _ H2 ms2 (w1.trans w2) ⟨o2.at, .str _⟩ r⟩
end
end Hc

namespace Hc
open PySem PySem.Spec PyProof.Rows L2
/-! ### o[i] op= e -/
section
variable {K : PySem.W.Frag} {te ta tb tc tl : TE} {tt : TT} {tA : TA} {ds : List SD} {ms : List MD} {R : RS} {P : Po}
section
variable {L M : List Addr} {σ : L2.St} {H1 H' : Hp}
theorem Cs.new {D T : Addr} {i : Nat} {acc : List PyData} {ms1 : List MD} {H2 : Hp} {o : HO} (c : Cs L M H1 D i acc ms1 H2) (hT : H2 T = none) : Cs L M H1 D i acc ms1 (upd H2 T o) := by
  obtain ⟨xs, e, r⟩ := c.d
  exact ⟨c.w.trans (Wk.new hT), c.a.new hT, c.le, xs, by rw [upd_ne (ne_of_none e hT)]; exact e, RpA.to (c.a.wk (Wk.new hT)) _ _ r⟩
end
end
end Hc

namespace Hc
open PySem PySem.Spec PyProof.Rows L2
/-! ### enumerate(t) of a tuple -/
section
variable {pr : Program} {wd : World} {Ar : Around} {Ex : Value → Shared → Prop} {st : Shared}
end
section
variable {K : PySem.W.Frag} {te ta tb tc tl : TE} {tt : TT} {tA : TA} {ds : List SD} {ms : List MD} {R : RS} {t u : TS} {P : Po}
end
end Hc

namespace Hc
open PySem PySem.Spec PyProof.Rows L2
/-! ### sorted(xs) of data -/
theorem vals_each : ∀ {bs : List (V × PyData)} {us : List Value}, Vals (bs.map Prod.fst) us → PySem.W.EachIs (fun (u : Value) (b : V × PyData) => RelV b.1 u) us bs
  | [], us, h => by cases h; exact .nil
  | b :: r, us, h => by
    cases h with
    | cons z y => exact .cons z (vals_each y)
theorem each_vals : ∀ {bs : List (V × PyData)} {us : List Value}, PySem.W.EachIs (fun (u : Value) (b : V × PyData) => RelV b.1 u) us bs → Vals (bs.map Prod.fst) us
  | [], us, h => by cases h; exact .nil
  | b :: r, us, h => by
    cases h with
    | cons z y => exact .cons z (each_vals y)
def rSortV (K : PySem.W.Frag) : List V → Hp → VK → Prop := fun vs H Q => ∃ (a : Addr) (bs : List (V × PyData)), vs = [.ref a] ∧ SqL K H a (bs.map Prod.fst) ∧ (∀ b ∈ bs, Dp K H b.1 b.2) ∧ PySem.W.AllAlike (bs.map Prod.snd) ∧ PySem.W.Sortable (bs.map Prod.snd) ∧
  (∀ b ∈ bs, b.2.depth ≤ 60) ∧ ∀ p, H p = none → Q (.ref p) (upd H p (.lst ((bs.mergeSort (PySem.W.dataLe false Prod.snd)).map Prod.fst)))
theorem cr_sortV {X : Cx} (hu : X.A.units + 64 < cLine) : CallR X (.builtin "sorted") (rSortV X.K) := by
  intro pins s σ H vs us Q I r h
  obtain ⟨a, bs, rfl, sq, hd, al, so, dp, q⟩ := h
  obtain ⟨its, rv, hl, hz⟩ := I.list sq
  rw [Vals.ref1 r]
  have e := vals_each rv
  have er : PySem.W.EachIs (fun (u : Value) (b : V × PyData) => ∃ as, Reads s.heap u b.2 as) its bs :=
    (PySem.W.each_mem e).mono fun u b ⟨z, m⟩ => Dp.reads I b.2 b.1 u (hd b m) z
  rw [List.length_map] at hz
  refine PySem.W.sorted_data hl.isList e er al so hz (fun b m => by have := dp b m; omega) fun out ln eo => ?_
  obtain ⟨ep, he⟩ := PyProof.Rows.sortedAll_at s.heap its out.toArray
  have lm : ((bs.mergeSort (PySem.W.dataLe false Prod.snd)).map Prod.fst).length ≤ sizeLine := by
    rw [List.length_map, List.length_mergeSort]
    exact hz
  exact ⟨.ref _, upd H (s.heap.objs.size + 1) (.lst ((bs.mergeSort (PySem.W.dataLe false Prod.snd)).map Prod.fst)), I.laid (t' := s.toks) (fun _ _ => PyProof.Rows.sortedAll_old) (Nat.le_succ _) ⟨lm, out, ep, each_vals eo, he⟩, rfl, q _ (I.hok.fresh (Nat.le_succ _))⟩
section
variable {K : PySem.W.Frag} {ds : List SD} {ms : List MD} {R : RS}
theorem zip_fst : ∀ {xs : List V} {es : List PyData}, xs.length = es.length → (List.zip xs es).map Prod.fst = xs
  | [], _, _ => rfl
  | _ :: _, [], h => by cases h
  | x :: xs, e :: es, h => by
    show x :: (List.zip xs es).map Prod.fst = _
    rw [zip_fst (by simpa using h)]
theorem zip_snd : ∀ {xs : List V} {es : List PyData}, xs.length = es.length → (List.zip xs es).map Prod.snd = es
  | [], [], _ => rfl
  | [], _ :: _, h => by cases h
  | _ :: _, [], h => by cases h
  | x :: xs, e :: es, h => by
    show e :: (List.zip xs es).map Prod.snd = _
    rw [zip_snd (by simpa using h)]
theorem rpa_zip {M : List Addr} {H : Hp} : ∀ {xs : List V} {es : List PyData}, RpA M H xs es → ∀ b ∈ List.zip xs es, Rp M H b.1 b.2
  | [], _, _, b, hb => by cases hb
  | x :: xs, es, h, b, hb => by
    cases h with
    | cons z y =>
      rcases List.mem_cons.mp hb with rfl | hb
      · exact z
      · exact rpa_zip y b hb
theorem rpa_of {M : List Addr} {H : Hp} : ∀ {bs : List (V × PyData)}, (∀ b ∈ bs, Rp M H b.1 b.2) → RpA M H (bs.map Prod.fst) (bs.map Prod.snd)
  | [], _ => .nil
  | b :: r, h => .cons (h b (by simp)) (rpa_of fun c hc => h c (by simp [hc]))
abbrev sortD (es : List PyData) : List PyData := es.mergeSort (PySem.W.dataLe false id)
theorem rc_sortD {as : List SD} (h : ∃ (s : SD) (es : List PyData), as = [s] ∧ Sv ms s (.list es) ∧ (∀ e ∈ es, Shp 60 e) ∧ PySem.W.AllAlike es ∧ PySem.W.Sortable es ∧ R (.f (sortD es)) ms) : RC K (rSortV K) as ms R := fun L M H vs hA ha Q q => by
  obtain ⟨s, es, rfl, sv, sh, al, so, r⟩ := h
  obtain ⟨v, t, rfl, hv, rfl⟩ := ha
  obtain ⟨p, xs, rfl, hq, hr⟩ := sv.lst hA hv
  have ln := hr.length
  have zr := rpa_zip hr
  have e2 : ((List.zip xs es).mergeSort (PySem.W.dataLe false Prod.snd)).map Prod.snd = sortD es := by
    have := PySem.W.sort_maps (r := PySem.W.dataLe false Prod.snd) (s := PySem.W.dataLe false id) (Prod.snd : V × PyData → PyData) (l := List.zip xs es) (fun a _ b _ => rfl)
    rw [this, zip_snd ln]
  refine ⟨p, List.zip xs es, rfl, by rw [zip_fst ln]; exact hq, fun b hb => ?_, by rw [zip_snd ln]; exact al, by rw [zip_snd ln]; exact so, fun b hb => ?_, fun l hl => ?_⟩
  · have m2 : b.2 ∈ es := by
      have : b.2 ∈ (List.zip xs es).map Prod.snd := List.mem_map.mpr ⟨b, hb, rfl⟩
      rwa [zip_snd ln] at this
    exact Rp.dp b.2 b.1 (sh _ m2).1 (zr b hb)
  · have m2 : b.2 ∈ es := by
      have : b.2 ∈ (List.zip xs es).map Prod.snd := List.mem_map.mpr ⟨b, hb, rfl⟩
      rwa [zip_snd ln] at this
    exact (sh _ m2).2
  · have rr : RpA M H (((List.zip xs es).mergeSort (PySem.W.dataLe false Prod.snd)).map Prod.fst) (sortD es) := by
      rw [← e2]
      exact rpa_of fun b hb => zr b (List.mem_mergeSort.mp hb)
    exact q (.f (sortD es)) _ _ ms (Wk.new hl) (out_new hA (Wk.refl L H) hl rr) r
end
end Hc

namespace Hc
open PySem PySem.Spec PyProof.Rows L2
section
variable {K : PySem.W.Frag} {te ta tb tc tl : TE} {tt : TT} {tA : TA} {ds : List SD} {ms : List MD} {R : RS} {t u : TS} {P : Po}
/-! ### in, over data -/
theorem rr_inD {a b : SD} (h : ∃ (x : PyData) (es : List PyData), Sv ms a x ∧ Sv ms b (.list es) ∧ SeqAt.shaped x = true ∧ SeqAt.shaped (.list es) = true ∧ R (.d (.bool (es.any fun z => PyData.eqv z x))) ms) : RR K (rInD K) a b ms R := fun L M H u v hA ha hb Q q => by
  obtain ⟨x, es, ea, eb, s1, s2, r⟩ := h
  exact ⟨x, es, ea.dp hA ha (SeqAt.canLay_of_shaped s1), eb.dp hA hb (SeqAt.canLay_of_shaped s2), s1, s2, q (.d _) _ H ms (Wk.refl L H) ⟨hA, .bl _⟩ r⟩
/-! ### for a, b in zip(xs, ys), two lists -/
/-! ### xs.insert(i, e) -/
/-! ### a part of a list, or of a tuple that may be the whole -/
theorem units65 {k : Nat} {A : Around} (h : Room k A) : A.units + 65 < cLine := by
  have := h.un
  omega
theorem pe_num {X : Cx} {x : Str} {n : Int} {pos : Pos} (hg : Gl X x) (h : ∃ t, X.mg x = some (.int n t)) (hdb : (x == ("__debug__" : Str)) = false := by decide) : PE X (.Name x pos) (tC (.int n)) := by
  obtain ⟨t, m⟩ := h
  exact pe_glob hg m ⟨_, rfl⟩ hdb
/-! ### a, b = t of a list or a tuple -/
def gRw (K : PySem.W.Frag) (n : Nat) (gs : TGs) : TG := fun v σ H C => gTup K n gs v σ H C ∨ gUnl K n gs v σ H C
theorem pg_rw {X : Cx} {pos : Pos} {es : List Expr} {k : Nat} {gs : TGs} {n : Nat} (hc : X.calm = true) (h : PGs X es gs) (h1 : (assignEach es X.env).length = n := by rfl) (h2 : List.findIdx? (fun x => x.fst) (assignEach es X.env) = none := by rfl) :
    PG X (.Tuple es k pos) (gRw X.K n gs) := ⟨fun pins s σ H v u Q I rv z => by
  rcases z with z | z
  · exact (pg_tup hc h h1 h2).run pins s σ H v u Q I rv z
  · exact (pg_unl hc h h1 h2).run pins s σ H v u Q I rv z⟩
theorem eg_rw {gs : TGs} {js : List Nat} {n : Nat} {x : PyData} {xs : List PyData} {N : List SD → List MD → Prop} (hx : x = .list xs ∨ x = .tuple xs) (hn : xs.length = n) (h : EGs K gs js xs ds ms N) : EG K (gRw K n gs) js (.d x) ds ms N := fun L M σ H v hS hA ho C c => by
  rcases hx with rfl | rfl
  · obtain ⟨a, ys, rfl, e, r⟩ := Sv.lst (ms := ms) (K := K) (L := L) (.d (.list xs)) hA ho
    exact .inr ⟨a, ys, rfl, e, by rw [r.length]; exact hn, h L M σ H ys hS hA r C c⟩
  · exact .inl (eg_tup hn h L M σ H v hS hA ho C c)
/-- for a, b in zip(xs, ys), whose body may raise -/
theorem sx_forZ {C : Addr} {Y : List MD → Prop} {g : TG} {js : List Nat} {t : XK → TS} (h : EA K tA ds ms fun as ms0 => ∃ (s1 s2 : SD) (es fs : List PyData), as = [s1, s2] ∧ Sw s1 es ∧ Sw s2 fs ∧ ∃ Pv : Nat → List SD → List MD → Prop, Pv 0 ds ms0 ∧
      (∀ i e f ds1 ms1, es[i]? = some e → fs[i]? = some f → Pv i ds1 ms1 → EG K g js (.d (.tuple [e, f])) ds1 ms1 fun ds2 ms2 => SX K C t ds2 ms2 { P with nx := Pv (i + 1), ct := Pv (i + 1), bk := P.nx } Y) ∧ ∀ ds1 ms1, Pv (min es.length fs.length) ds1 ms1 → P.nx ds1 ms1) :
    SX K C (fun X => tFor (iZip K tA) g (t X)) ds ms P Y := fun L M σ H hS hA D X n r b c xx =>
  h L M σ H hS hA _ fun as vs H1 ms0 w a1 o ⟨s1, s2, es, fs, ea, sw1, sw2, Pv, h0, hs, hd⟩ => by
    subst ea
    obtain ⟨v1, t1, rfl, hv1, v2, t2, rfl, hv2, rfl⟩ := o
    obtain ⟨a, xs, rfl, rx, hx⟩ := sw1.is a1 hv1
    obtain ⟨b', ys, rfl, ry, hy⟩ := sw2.is a1 hv2
    refine ⟨a, b', xs, ys, rfl, hx H1 (Wk.refl L H1), hy H1 (Wk.refl L H1), for_it (walk_zip rfl) (fun i σ' H' => ∃ ds' ms', Wk L H1 H' ∧ Sl K L M σ' H' ds' ∧ At L M ms' H' ∧ Pv i ds' ms') ⟨ds, ms0, Wk.refl L H1, hS.mono hA w, a1, h0⟩ (fun i σ' H' _ ⟨_, _, w', _⟩ => ⟨hx H' w', hy H' w'⟩) (fun i x σ' H' H2 hi ⟨ds', ms', w', s', a', p'⟩ y => ?_) (fun σ' H' ⟨ds', ms', w', s', a', p'⟩ => ?_)⟩
    · obtain ⟨N, x1, y1, rfl, hN, rfl, q1, q2⟩ := y
      obtain ⟨e, e1, e2⟩ := rx.get' q1
      obtain ⟨f, f1, f2⟩ := ry.get' q2
      have w2 : Wk L H' (upd H' N (.tup [x1, y1])) := Wk.new hN
      have a2 := a'.new (o := .tup [x1, y1]) hN
      have w3 := w'.trans w2
      refine hs i e f ds' ms' e1 f1 p' L M σ' _ (.ref N) (s'.mono a' w2) a2 (Rp.tup (a'.fresh hN) upd_same (.cons (Rp.to (a1.wk w3) _ _ e2) (.cons (Rp.to (a1.wk w3) _ _ f2) .nil))) _ fun σ2 ds2 s2 _ h2 => ?_
      exact h2 L M σ2 _ s2 a2 _ X (fun σ3 H3 ds3 ms3 w4 s3 a3 p3 => ⟨ds3, ms3, w3.trans w4, s3, a3, p3⟩) (r.on a2 (w.trans w3)) (n.on (w.trans w3)) (fun σ3 H3 ds3 ms3 w4 s3 a3 p3 => ⟨ds3, ms3, w3.trans w4, s3, a3, p3⟩) (xx.on (w.trans w3))
    · rw [rx.length, ry.length] at p'
      exact n σ' H' ds' ms' (w.trans w') s' a' (hd ds' ms' p')
end
end Hc

namespace Hc
open PySem PySem.Spec PyProof.Rows L2
/-! ### xs[::2], xs[1::2] -/
section
variable {K : PySem.W.Frag} {te ta tb tc tl : TE} {tt : TT} {tA : TA} {ds : List SD} {ms : List MD} {R : RS} {t u : TS} {P : Po}
/-! ### a list or a tuple as a test -/
def tTru (K : PySem.W.Frag) (te : TE) : TT := fun σ H Q => te σ H fun x H' => ∃ k, TruV K x H' k ∧ Q k H'
theorem pt_tru {X : Cx} {a : Expr} (ha : PE X a ta) (he : ∀ whole, isTrue a X.env whole = (do let v ← whole; standAt a.pos; holding [v] (truthy v)) := by intro _; rfl) : PT X a (tTru X.K ta) := pt_truth ha he
end
end Hc

namespace Hc
open PySem PySem.Spec PyProof.Rows L2
section
variable {K : PySem.W.Frag} {te ta tb tc tl : TE} {tt : TT} {tA tB : TA} {ds : List SD} {ms : List MD} {R : RS} {t u : TS} {P : Po}
end
/-! ### sorted rows -/
theorem totalD : PySem.W.TotalLe (PySem.W.dataLe false (id : PyData → PyData)) := PySem.W.sortLe_total _ _ _
theorem sort_strict {m l : List PyData} (hm : m.Pairwise fun a b => PySem.W.dataLe false id a b = true ∧ PySem.W.dataLe false id b a = false) (hp : l.Perm m) : sortD l = m := by
  refine (PySem.W.sort_unique totalD (hm.imp fun h => h.1) fun c => ?_).symm
  have p2 := hp.filter (PySem.W.sameRank (PySem.W.dataLe false id) c)
  have pw : (m.filter (PySem.W.sameRank (PySem.W.dataLe false id) c)).Pairwise fun a b => PySem.W.dataLe false id a b = true ∧ PySem.W.dataLe false id b a = false := hm.filter _
  have al : ∀ x ∈ m.filter (PySem.W.sameRank (PySem.W.dataLe false id) c), PySem.W.sameRank (PySem.W.dataLe false id) c x = true := fun x hx => (List.mem_filter.mp hx).2
  generalize m.filter (PySem.W.sameRank (PySem.W.dataLe false id) c) = f at *
  match f, pw, al with
  | [], _, _ => exact (List.Perm.eq_nil p2).symm
  | [x], _, _ => exact (List.perm_singleton.mp p2).symm
  | x :: y :: r, pw, al =>
    have h1 := (List.pairwise_cons.mp pw).1 y (by simp)
    have hx := al x (by simp)
    have hy := al y (by simp)
    unfold PySem.W.sameRank at hx hy
    rw [Bool.and_eq_true] at hx hy
    have : PySem.W.dataLe false id y x = true := by
      first
        | exact totalD.trans y c x hy.2 hx.1
        | exact totalD.trans y c x hy.1 hx.2
    rw [this] at h1
    cases h1.2
theorem tri_lt (i j i' j' : Int) (w w' : PyData) (ha : PySem.W.alike w w' = true) : PySem.W.dataLt (.tuple [.int i, .int j, w]) (.tuple [.int i', .int j', w']) = if i = i' then (if j = j' then (if PyData.eqv w w' = true then false else PySem.W.dataLt w w') else decide (j < j')) else decide (i < i') := by
  rw [PySem.W.dataLt_tuple, PySem.W.dataLt_cons (by simp [PySem.W.alike]), PySem.W.dataLt_cons (by simp [PySem.W.alike]), PySem.W.dataLt_cons ha, PySem.W.dataLt_int, PySem.W.dataLt_int, eqv_int, eqv_int]
  have e : PyProof.Rows.lexLt PyProof.Rows.itemOrd (PySem.W.keyToksAll []) (PySem.W.keyToksAll []) = false := PyProof.Rows.lex_irrefl _
  rw [e]
  by_cases h1 : i = i' <;> by_cases h2 : j = j' <;> simp [h1, h2]
end Hc

namespace Hc
open PySem PySem.Spec PyProof.Rows L2
/-! ### lists of lists that may change -/
section
variable {K : PySem.W.Frag} {L M qs : List Addr} {ms1 xs : List MD} {H H' : Hp}
/-- the rows' own mutables, and the list of them -/
def rowsM (n : Nat) (ess : List (List PyData)) : List MD := ess.map MD.l ++ [.r (List.range' n ess.length)]
theorem rows_len (n : Nat) (ess : List (List PyData)) : (rowsM n ess).length = ess.length + 1 := by simp [rowsM]
theorem rows_at (n : Nat) (ms1 : List MD) (ess : List (List PyData)) {i : Nat} {es : List PyData} (h : ess[i]? = some es) : (ms1 ++ rowsM n ess)[ms1.length + i]? = some (.l es) := by
  have hi := (List.getElem?_eq_some_iff.mp h).1
  rw [List.getElem?_append_right (by omega)]
  unfold rowsM
  rw [List.getElem?_append_left (by simp; omega), List.getElem?_map]
  have : ms1.length + i - ms1.length = i := by omega
  rw [this, h]
  rfl
theorem rows_top (n : Nat) (ms1 : List MD) (ess : List (List PyData)) : (ms1 ++ rowsM n ess)[ms1.length + ess.length]? = some (.r (List.range' n ess.length)) := by
  rw [List.getElem?_append_right (by omega)]
  unfold rowsM
  have : ms1.length + ess.length - ms1.length = (ess.map MD.l).length := by simp
  rw [this, List.getElem?_append_right (Nat.le_refl _), Nat.sub_self]
  rfl
end
section
variable {K : PySem.W.Frag} {L M qs : List Addr} {ms ms1 : List MD} {H H1 H' : Hp} {ds : List SD} {P : Po} {tA : TA} {u : TS} {R : RS}
/-- how it stands within [[] for .. in range(..)] -/
structure Ls (H1 : Hp) (D : Addr) (i : Nat) (qs : List Addr) (H : Hp) : Prop where
  w : ∀ a o, H1 a = some o → H a = some o
  len : qs.length = i
  d : H D = some (.lst (qs.map V.ref))
  q : ∀ q ∈ qs, H q = some (.lst []) ∧ H1 q = none ∧ q ≠ D
  nd : qs.Nodup
theorem Ls.at {D : Addr} {i : Nat} {qs : List Addr} (a : At L M ms H1) (hD : H1 D = none) (c : Ls H1 D i qs H) : At (L ++ (qs ++ [D])) (M ++ (qs ++ [D])) (ms ++ rowsM ms.length (List.replicate i [])) H := by
  have fr : ∀ p ∈ qs ++ [D], H1 p = none := fun p hp => by
    rcases List.mem_append.mp hp with z | z
    · exact (c.q p z).2.1
    · rw [List.mem_singleton.mp z]; exact hD
  have nL : ∀ p ∈ qs ++ [D], p ∉ L := fun p hp => a.freshL (fr p hp)
  have t : To M (M ++ (qs ++ [D])) H1 H := fun b o n e => ⟨(fun z => (List.mem_append.mp z).elim n fun z => by
    have := fr b z
    rw [this] at e
    cases e), c.w b o e⟩
  have hl := a.ln
  refine ⟨?_, ?_, ?_, ?_, fun k p m e1 e2 => ?_⟩
  · refine List.nodup_append.mpr ⟨a.nd, List.nodup_append.mpr ⟨c.nd, by simp, fun x hx y hy z => ?_⟩, fun x hx y hy z => ?_⟩
    · rw [List.mem_singleton.mp hy] at z
      exact (c.q x hx).2.2 z
    · subst z
      exact nL x hy hx
  · intro p hp
    rcases List.mem_append.mp hp with z | z
    · exact List.mem_append_left _ (a.sub p z)
    · exact List.mem_append_right _ z
  · intro p hp
    rcases List.mem_append.mp hp with z | z
    · obtain ⟨o, e, no⟩ := a.al p z
      exact ⟨o, c.w p o e, no⟩
    · rcases List.mem_append.mp z with z | z
      · rw [(c.q p z).1]; exact ⟨_, rfl, trivial⟩
      · rw [List.mem_singleton.mp z, c.d]; exact ⟨_, rfl, trivial⟩
  · simp [rows_len, hl, c.len]
  · by_cases h1 : k < L.length
    · rw [List.getElem?_append_left h1] at e1
      rw [List.getElem?_append_left (by omega)] at e2
      refine (a.ok k p m e1 e2).toL t (fun k' q' _ z => by rw [List.getElem?_append_left (List.getElem?_eq_some_iff.mp z).1]; exact z) ?_
      obtain ⟨o, e, _⟩ := a.al p (a.sub p (List.mem_of_getElem? e1))
      rw [e]
      exact c.w p o e
    · have hk := (List.getElem?_eq_some_iff.mp e1).1
      simp at hk
      have hcl := c.len
      rw [List.getElem?_append_right (by omega)] at e1
      by_cases h2 : k - L.length < qs.length
      · rw [List.getElem?_append_left h2] at e1
        have := rows_at ms.length ms (List.replicate i []) (i := k - L.length) (es := []) (by rw [List.getElem?_replicate, if_pos (by omega)])
        rw [show ms.length + (k - L.length) = k by omega, e2] at this
        cases this
        exact ⟨[], (c.q p (List.mem_of_getElem? e1)).1, .nil⟩
      · have hk2 : k = ms.length + (List.replicate i ([] : List PyData)).length := by
          rw [List.length_replicate]
          omega
        have e3 := rows_top ms.length ms (List.replicate i [])
        rw [← hk2, e2] at e3
        cases e3
        rw [List.getElem?_append_right (by omega)] at e1
        have : k - L.length - qs.length = 0 := by rw [List.length_replicate] at hk2; omega
        rw [this] at e1
        cases e1
        refine ⟨qs, c.d, by rw [List.length_range', List.length_replicate]; exact hcl, fun j k' q h1 h2 => ?_⟩
        have hj := (List.getElem?_eq_some_iff.mp h2).1
        rw [List.length_replicate, List.getElem?_range' (by omega)] at h1
        have hk' : ms.length + j = k' := by simpa using h1
        subst hk'
        rw [List.length_replicate] at hk2
        refine ⟨?_, by omega⟩
        rw [List.getElem?_append_right (by omega), List.getElem?_append_left (by omega)]
        have : ms.length + j - L.length = j := by omega
        rw [this]
        exact h2
end
end Hc

namespace Hc
open PySem PySem.Spec PyProof.Rows L2
/-! ### zip(t, xs) of a tuple and a list -/
structure Apt (z t o c d a b : Addr) : Prop where
  nd : [z, t, o, c, d].Nodup
  na : a ∉ [z, t, o, c, d]
  nb : b ∉ [z, t, o, c, d]
theorem Apt.sep {z t o c d a b : Addr} (h : Apt z t o c d a b) : PySem.ZipSep2 z t o c d [c, a] [d, b] := by
  obtain ⟨nd, na, nb⟩ := h
  simp only [List.nodup_cons, List.mem_cons, List.not_mem_nil, or_false, not_or] at nd na nb
  obtain ⟨⟨zt, zo, zc, zd⟩, ⟨t_o, tc, td⟩, ⟨oc, od⟩, cd, _⟩ := nd
  obtain ⟨az, at', ao, ac, ad⟩ := na
  obtain ⟨bz, bt, bo, bc, bd⟩ := nb
  constructor <;> first | (simp; done) | (simp only [List.mem_cons, List.not_mem_nil, or_false, not_or]; exact ⟨by first | assumption | exact Ne.symm (by assumption), by first | assumption | exact Ne.symm (by assumption)⟩) | assumption | exact Ne.symm (by assumption)
section
variable {K : PySem.W.Frag} {te ta tb tc tl : TE} {tt : TT} {tA : TA} {ds : List SD} {ms : List MD} {R : RS} {t u : TS} {P : Po}
/-! ### sum(xs) of ints -/
end
end Hc

namespace Hc
open PySem PySem.Spec PyProof.Rows L2
/-! ### calls that change nothing, of things that may change elsewhere -/
mutual
def noL : PyData → Bool
  | .tuple ds => noLA ds
  | .list _ => false
  | .dict _ => false
  | _ => true
def noLA : List PyData → Bool
  | [] => true
  | d :: r => noL d && noLA r
end
section
variable {K : PySem.W.Frag} {L M : List Addr} {ms : List MD} {H H' : Hp}
mutual
theorem rp_back (a : At L M ms H) : ∀ (d : PyData) (v : V), noL d = true → Rp [] H v d → Rp M H v d
  | .none, _, _, h => by cases h; exact .non
  | .bool b, _, _, h => by cases h; exact .bl b
  | .int i, _, _, h => by cases h; exact .int i
  | .str x, _, _, h => by cases h; exact .str x
  | .list ds, _, n, _ => by simp [noL] at n
  | .dict ds, _, n, _ => by simp [noL] at n
  | .tuple ds, _, n, h => by
    cases h with
    | tup na e r =>
      refine .tup (fun z => ?_) e (rpa_back a ds _ (by simpa [noL] using n) r)
      obtain ⟨o, eo, no⟩ := a.al _ z
      rw [e] at eo
      cases eo
      exact no
theorem rpa_back (a : At L M ms H) : ∀ (ds : List PyData) (vs : List V), noLA ds = true → RpA [] H vs ds → RpA M H vs ds
  | [], _, _, h => by cases h; exact .nil
  | d :: ds, _, n, h => by
    cases h with
    | cons x y =>
      have n' : noL d = true ∧ noLA ds = true := by simpa [noLA, Bool.and_eq_true] using n
      exact .cons (rp_back a d _ n'.1 x) (rpa_back a ds _ n'.2 y)
end
theorem to_nil : To M [] H H := fun a o n e => ⟨by simp, e⟩
theorem At.all (a : At L M ms H) (w : Wk [] H H') : At L M ms H' :=
  ⟨a.nd, a.sub, fun p hp => by
    obtain ⟨o, e, no⟩ := a.al p hp
    exact ⟨o, w p o (by simp) e, no⟩, a.ln, fun k p m e1 e2 => (a.ok k p m e1 e2).to (fun b o n e => ⟨n, w b o (by simp) e⟩) (by
    obtain ⟨o, e, _⟩ := a.al p (a.sub p (List.mem_of_getElem? e1))
    rw [e]
    exact w p o (by simp) e)⟩
inductive Svs (ms : List MD) : List SD → List PyData → Prop
  | nil : Svs ms [] []
  | d {x : PyData} {as : List SD} {xs : List PyData} : Svs ms as xs → Svs ms (.d x :: as) (x :: xs)
  | m {k : Nat} {es : List PyData} {as : List SD} {xs : List PyData} : ms[k]? = some (.l es) → Svs ms as xs → Svs ms (.m k :: as) (.list es :: xs)
theorem Svs.go (a : At L M ms H) : ∀ {as : List SD} {xs : List PyData} {vs : List V}, Svs ms as xs → SlsOk K L M H as vs → SlsOk K [] [] H (xs.map .d) vs
  | _, _, _, .nil, h => h
  | _, _, _, .d s, ⟨v, t, e, x, y⟩ => ⟨v, t, e, Rp.to to_nil _ _ x, Svs.go a s y⟩
  | _, _, _, .m hk s, ⟨v, t, e, x, y⟩ => by
    obtain ⟨p, rfl, hp, hls⟩ := x
    obtain ⟨zs, e1, r⟩ := a.get hp hk
    exact ⟨_, t, e, .lst (by simp) e1 (RpA.to to_nil _ _ r), Svs.go a s y⟩
variable {te ta tb tc tl : TE} {tt : TT} {tA : TA} {ds : List SD} {R : RS} {P : Po}
/-! ### more built-ins -/
def isNn : PyData → Bool
  | .none => true
  | _ => false
theorem rp_non {M : List Addr} {H : Hp} {v : V} {x : PyData} (h : Rp M H v x) : decide (v = .non) = isNn x := by
  cases h <;> rfl
theorem rr_isN {a b : SD} (h : ∃ x, a = .d x ∧ b = .d .none ∧ R (.d (.bool (isNn x))) ms) : RR K rIsNn a b ms R := fun L M H u v hA ha hb Q q => by
  obtain ⟨x, rfl, rfl, r⟩ := h
  cases hb
  refine ⟨rfl, ?_⟩
  rw [rp_non ha]
  exact q (.d (.bool _)) _ H ms (Wk.refl L H) ⟨hA, .bl _⟩ r
end
end Hc

namespace Hc
open PySem PySem.Spec PyProof.Rows L2
/-! ### dicts that may change, with ints and texts as keys -/
def kD (m : List (Key × PyData)) : List (PyData × PyData) := m.map fun p => (keyD p.1, p.2)
def valD (m : List (Key × PyData)) (k : Key) : Option PyData := (m.find? fun kv => decide (kv.1 = k)).map (·.2)
def putD (m : List (Key × PyData)) (k : Key) (d : PyData) : List (Key × PyData) :=
  if (m.any fun kv => decide (kv.1 = k)) = true then m.map (fun kv => if kv.1 = k then (kv.1, d) else kv) else m ++ [(k, d)]
theorem keyD_inj {a b : Key} (h : keyD a = keyD b) : a = b := by
  cases a <;> cases b <;> cases h <;> rfl
section
variable {K : PySem.W.Frag} {L M : List Addr} {ms : List MD} {H H' : Hp}
/-- the keys are the same, the values lie in the heap -/
inductive Rk (M : List Addr) (H : Hp) : List (Key × V) → List (Key × PyData) → Prop
  | nil : Rk M H [] []
  | cons {k : Key} {v : V} {d : PyData} {kvs : List (Key × V)} {m : List (Key × PyData)} : Rp M H v d → Rk M H kvs m → Rk M H ((k, v) :: kvs) ((k, d) :: m)
theorem rk_of : ∀ {m : List (Key × PyData)} {kvs : List (Key × V)}, RpK M H kvs (kD m) → Rk M H kvs m
  | [], _, h => by cases h; exact .nil
  | (k, d) :: m, _, h => by
    have h' : RpK M H _ ((keyD k, d) :: kD m) := h
    generalize e : (keyD k, d) = x at h'
    cases h' with
    | @cons k2 v2 kvs2 d2 ds2 a b =>
      injection e with e1 e2
      have := keyD_inj e1
      subst this e2
      exact .cons a (rk_of b)
theorem Rk.to : ∀ {m : List (Key × PyData)} {kvs : List (Key × V)}, Rk M H kvs m → RpK M H kvs (kD m)
  | _, _, .nil => .nil
  | _, _, .cons a b => .cons a (Rk.to b)
theorem Rk.length : ∀ {m : List (Key × PyData)} {kvs : List (Key × V)}, Rk M H kvs m → kvs.length = m.length
  | _, _, .nil => rfl
  | _, _, .cons a b => by simp [Rk.length b]
theorem Rk.get' : ∀ {m : List (Key × PyData)} {kvs : List (Key × V)} {i : Nat} {k : Key} {v : V}, Rk M H kvs m → kvs[i]? = some (k, v) → ∃ d, m[i]? = some (k, d) ∧ Rp M H v d
  | _, _, _, _, _, .nil, e => by simp at e
  | _, _, 0, _, _, .cons a _, e => by simp at e; obtain ⟨rfl, rfl⟩ := e; exact ⟨_, rfl, a⟩
  | _, _, i + 1, k, v, .cons _ b, e => by
    obtain ⟨d, h1, h2⟩ := Rk.get' (i := i) (k := k) (v := v) b (by simpa using e)
    exact ⟨d, by simpa using h1, h2⟩
theorem Rk.val (k : Key) : ∀ {m : List (Key × PyData)} {kvs : List (Key × V)}, Rk M H kvs m → (valD m k = none → valV kvs k = none) ∧ ∀ d, valD m k = some d → ∃ v, valV kvs k = some v ∧ Rp M H v d
  | _, _, .nil => ⟨fun _ => rfl, fun d e => by cases e⟩
  | (k1, d1) :: m, (_, v1) :: kvs, .cons a b => by
    by_cases e : k1 = k
    · refine ⟨fun h => ?_, fun d h => ?_⟩
      · simp [valD, e] at h
      · simp [valD, e] at h
        subst h
        exact ⟨v1, valV_pos e, a⟩
    · obtain ⟨h1, h2⟩ := Rk.val k b
      have e1 : valD ((k1, d1) :: m) k = valD m k := by simp [valD, List.find?_cons, e]
      rw [e1, valV_neg e]
      exact ⟨h1, h2⟩
theorem Rk.any (k : Key) : ∀ {m : List (Key × PyData)} {kvs : List (Key × V)}, Rk M H kvs m → (kvs.any fun kv => decide (kv.1 = k)) = (m.any fun kv => decide (kv.1 = k))
  | _, _, .nil => rfl
  | _, _, .cons _ b => by simp [Rk.any k b]
theorem Rk.mapP (k : Key) {v : V} {d : PyData} (r : Rp M H v d) : ∀ {m : List (Key × PyData)} {kvs : List (Key × V)}, Rk M H kvs m → Rk M H (kvs.map (fun kv => if kv.1 = k then (kv.1, v) else kv)) (m.map (fun kv => if kv.1 = k then (kv.1, d) else kv))
  | _, _, .nil => .nil
  | (k1, d1) :: m, (_, v1) :: kvs, .cons a b => by
    rw [List.map_cons, List.map_cons]
    by_cases e : k1 = k
    · simp only [if_pos e]
      exact .cons r (Rk.mapP k r b)
    · simp only [if_neg e]
      exact .cons a (Rk.mapP k r b)
theorem Rk.snoc (k : Key) {v : V} {d : PyData} (r : Rp M H v d) : ∀ {m : List (Key × PyData)} {kvs : List (Key × V)}, Rk M H kvs m → Rk M H (kvs ++ [(k, v)]) (m ++ [(k, d)])
  | _, _, .nil => .cons r .nil
  | _, _, .cons a b => .cons a (Rk.snoc k r b)
theorem Rk.put (k : Key) {v : V} {d : PyData} {m : List (Key × PyData)} {kvs : List (Key × V)} (h : Rk M H kvs m) (r : Rp M H v d) : Rk M H (putK kvs k v) (putD m k d) := by
  unfold putK putD
  rw [h.any k]
  split
  · exact Rk.mapP k r h
  · exact Rk.snoc k r h
theorem Rp.key {v : V} {k : Key} (h : Rp M H v (keyD k)) : v = kV k := by
  cases k <;> cases h <;> rfl
/-- a slot's dict, as it may be read -/
inductive Dv (ms : List MD) : SD → List (Key × PyData) → Prop
  | d (m : List (Key × PyData)) : Dv ms (.d (.dict (kD m))) m
  | q {k : Nat} {m : List (Key × PyData)} : ms[k]? = some (.k (kD m)) → Dv ms (.q k) m
theorem Dv.go {s : SD} {m : List (Key × PyData)} {v : V} (h : Dv ms s m) (hA : At L M ms H) (o : SlOk K L M H s v) : ∃ a kvs, v = .ref a ∧ H a = some (.dK kvs) ∧ Rk M H kvs m := by
  cases h with
  | d =>
    have o' : Rp M H v (.dict (kD m)) := o
    cases o' with
    | dct n e r => exact ⟨_, _, rfl, e, rk_of r⟩
  | q e =>
    obtain ⟨p, rfl, hp, _⟩ := o
    obtain ⟨kvs, e1, r⟩ := hA.getK hp e
    exact ⟨p, kvs, rfl, e1, rk_of r⟩
variable {te ta tb tc tl td ty : TE} {tt : TT} {tA : TA} {ds : List SD} {R : RS} {t u : TS} {P : Po}
/-! ### targets that are places in dicts -/
/-! ### new dicts -/
theorem At.hide {p : Addr} {o : HO} (h : At L M ms H) (e : H p = none) (no : NTup o) : At L (M ++ [p]) ms (upd H p o) := by
  have t : To M (M ++ [p]) H (upd H p o) := to_new h e (Wk.new e)
  refine ⟨h.nd, fun q hq => List.mem_append_left _ (h.sub q hq), fun q hq => ?_, h.ln, fun k q m e1 e2 => ?_⟩
  · by_cases z : q = p
    · subst z; rw [upd_same]; exact ⟨_, rfl, no⟩
    · rw [upd_ne z]
      rcases List.mem_append.mp hq with y | y
      · exact h.al q y
      · exact absurd (by simpa using y) z
  · exact (h.ok k q m e1 e2).to t (upd_ne fun z => h.freshL e (z ▸ List.mem_of_getElem? e1))
theorem At.show {p : Addr} (h : At L (M ++ [p]) ms H) (sb : ∀ q ∈ L, q ∈ M) : At L M ms H :=
  ⟨h.nd, sb, fun q hq => h.al q (List.mem_append_left _ hq), h.ln, fun k q m e1 e2 => (h.ok k q m e1 e2).to to_less rfl⟩
theorem mut_hid {p : Addr} {o o0 : HO} {h : At L (M ++ [p]) ms H} (np : p ∉ L) (e0 : H p = some o0) (no : NTup o) : At L (M ++ [p]) ms (upd H p o) := by
  have t : To (M ++ [p]) (M ++ [p]) H (upd H p o) := fun a u n e => ⟨n, by rw [upd_ne (fun z : a = p => n (by rw [z]; simp))]; exact e⟩
  refine ⟨h.nd, h.sub, fun q hq => ?_, h.ln, fun k q m e1 e2 => (h.ok k q m e1 e2).to t (upd_ne fun z => np (z ▸ List.mem_of_getElem? e1))⟩
  by_cases z : q = p
  · subst z; rw [upd_same]; exact ⟨_, rfl, no⟩
  · rw [upd_ne z]; exact h.al q hq
/-- {k: v} -/
theorem e_disp1 (h : E K ta ds ms fun x ms1 => ∃ k, x = .d (keyD k) ∧ E K tb ds ms1 fun y ms2 => ∃ d, dd y = .d d ∧ R (.g [(keyD k, d)]) ms2) : E K (tDisp [(ta, tb)]) ds ms R := fun L M σ H hS hA Q q p hp => by
  have np := hA.freshL hp
  have a0 := hA.hide (o := .dK []) hp trivial
  have w0 : Wk L H (upd H p (.dK [])) := Wk.new hp
  have s0 : Sl K L (M ++ [p]) σ (upd H p (.dK [])) ds := hS.to (to_new hA hp w0) w0.kd fun _ _ e => e
  refine h L (M ++ [p]) σ _ s0 a0 _ fun x v1 H1 ms1 w1 o1 ⟨k, ex, h1⟩ => ?_
  subst ex
  have a1 := o1.at
  refine h1 L (M ++ [p]) σ H1 (s0.mono a0 w1) a1 _ fun y v2 H2 ms2 w2 o2 ⟨d, ey, r⟩ => ?_
  have a2 := o2.at
  have r2 := o2.sl
  rw [ey] at r2
  have r1 : Rp (M ++ [p]) H1 v1 (keyD k) := o1.2
  have e1 := Rp.key r1
  subst e1
  have ep : H2 p = some (.dK []) := w2 p _ np (w1 p _ np upd_same)
  refine ⟨ep, [(k, v2)], rfl, Nat.le_of_ble_eq_true rfl, ?_⟩
  have em : mergeK [] [(k, v2)] = [(k, v2)] := rfl
  rw [em]
  have sb := hA.sub
  have a3 : At L (M ++ [p]) ms2 (upd H2 p (.dK [(k, v2)])) := mut_hid (h := a2) np ep trivial
  have w3 : Wk L H (upd H2 p (.dK [(k, v2)])) := Wk.over ((w0.trans w1).trans w2) hp
  have t3 : To (M ++ [p]) (M ++ [p]) H2 (upd H2 p (.dK [(k, v2)])) := fun a u n e => ⟨n, by rw [upd_ne (fun z : a = p => n (by rw [z]; simp))]; exact e⟩
  refine q (.g [(keyD k, d)]) _ _ ms2 w3 ⟨p, rfl, hp, hA.fresh hp, ?_, sb⟩ r
  refine ⟨List.nodup_append.mpr ⟨hA.nd, by simp, fun a ha b hb e => np (by simp at hb; subst hb e; exact ha)⟩, ?_, a3.al, by simp [a3.ln], fun j c m e1 e2 => ?_⟩
  · intro z hz
    rcases List.mem_append.mp hz with y | y
    · exact List.mem_append_left _ (sb z y)
    · exact List.mem_append_right _ y
  · by_cases hj : j < L.length
    · rw [List.getElem?_append_left hj] at e1
      rw [List.getElem?_append_left (by rw [← a3.ln]; exact hj)] at e2
      exact (a3.ok j c m e1 e2).toL (fun a o n e => ⟨n, e⟩) (fun k' q' _ z => by rw [List.getElem?_append_left (List.getElem?_eq_some_iff.mp z).1]; exact z) rfl
    · have hk2 : j = L.length := by
        have := (List.getElem?_eq_some_iff.mp e1).1
        simp at this
        omega
      subst hk2
      simp at e1
      subst e1
      rw [a3.ln] at e2
      simp at e2
      subst e2
      exact ⟨_, upd_same, .cons (Rp.to t3 _ _ r2) .nil⟩
/-! ### a new dict that may change, until the block's end -/
section
variable {p : Addr} {H0 H1 : Hp} {ms1 : List MD} {es : List (PyData × PyData)}
end
/-! ### for k, v in (a new dict).items() -/
end
end Hc

namespace Hc
open PySem PySem.Spec PyProof.Rows L2
/-! ### min(xs, key=len), of a list of tuples -/
section
variable {prog : Program} {w : World} {A : Around} {E : Value → Shared → Prop} {s : Shared} {l I S : Addr} {vs : List Value} {R : Result → Shared → Prop} {Q : Value → Shared → Prop}
end
section
variable {K : PySem.W.Frag} {ms : List MD} {tA : TA} {ds : List SD} {R : RS}
end
section
variable {K : PySem.W.Frag} {ms : List MD} {te : TE} {ds : List SD} {P : Po}
theorem u1 {k : Nat} {A : Around} (h : Room k A) : A.units + 1 < cLine := by
  have := h.un
  omega
end
end Hc

namespace Hc
open PySem PySem.Spec PyProof.Rows L2
/-! ### zip(t, u, v) of three tuples -/
structure Apt3 (z t o c d f a b e : Addr) : Prop where
  sep : PySem.ZipSep3 z t o c d f [c, a] [d, b] [f, e]
  ac : a ≠ c
  bd : b ≠ d
  ef : e ≠ f
section
variable {K : PySem.W.Frag} {tA : TA} {ds : List SD} {ms : List MD} {R : RS} {t u : TS} {P : Po}
end
end Hc

namespace Hc
open PySem PySem.Spec PyProof.Rows L2
/-! ### t[::-1] of a tuple -/
section
variable {prog : Program} {w : World} {s : Shared} {A : Around} {E : Value → Shared → Prop}
/-! ### sorted(t) of a tuple of ints -/
end
section
variable {K : PySem.W.Frag} {te ta tb : TE} {ds : List SD} {ms : List MD} {R : RS}
end
end Hc

namespace Hc
open PySem PySem.Spec PyProof.Rows L2
/-! ### [e for x in xs for y in t] -/
structure Stays (M : List Addr) (H H' : Hp) : Prop where
  t : To M M H H'
  kd : ∀ a o, H a = some o → ∃ o', H' a = some o' ∧ kindO o' = kindO o
theorem Stays.refl (M : List Addr) (H : Hp) : Stays M H H := ⟨fun _ _ n e => ⟨n, e⟩, fun _ o e => ⟨o, e, rfl⟩⟩
theorem Stays.trans {M : List Addr} {H H1 H2 : Hp} (a : Stays M H H1) (b : Stays M H1 H2) : Stays M H H2 := ⟨fun x o n e => b.t x o n (a.t x o n e).2, fun x o e => by
  obtain ⟨o1, e1, k1⟩ := a.kd x o e
  obtain ⟨o2, e2, k2⟩ := b.kd x o1 e1
  exact ⟨o2, e2, k2.trans k1⟩⟩
theorem Stays.wk {L M : List Addr} {ms : List MD} {H H' : Hp} (a : At L M ms H) (w : Wk L H H') : Stays M H H' := ⟨a.wk w, w.kd⟩
theorem Stays.upd {M : List Addr} {H : Hp} {D : Addr} {xs ys : List V} (h : D ∈ M) (e : H D = some (.lst xs)) : Stays M H (upd H D (.lst ys)) := ⟨fun a o n q => ⟨n, by rw [upd_ne (fun z : a = D => n (by rw [z]; exact h))]; exact q⟩, (Wk.mut (L := M) h e).kd⟩
section
variable {K : PySem.W.Frag} {te ti tl : TE} {tt tt1 : TT} {ds : List SD} {ms : List MD} {R : RS}
end
/-! ### max(t) of a tuple of ints -/
section
variable {K : PySem.W.Frag} {ms : List MD} {R : RS}
end
end Hc

namespace Hc
open PySem PySem.Spec PyProof.Rows L2
/-! ### dicts that may change, with rows as keys -/
def valT (m : List (List Key × PyData)) (k : List Key) : Option PyData := (m.find? fun kv => decide (kv.1 = k)).map (·.2)
def putT (m : List (List Key × PyData)) (k : List Key) (d : PyData) : List (List Key × PyData) :=
  if (m.any fun kv => decide (kv.1 = k)) = true then m.map (fun kv => if kv.1 = k then (kv.1, d) else kv) else m ++ [(k, d)]
section
variable {K : PySem.W.Frag} {L M : List Addr} {ms : List MD} {H H' : Hp}
theorem Rt.length : ∀ {m : List (List Key × PyData)} {kvs : List (List Key × V)}, Rt M H kvs m → kvs.length = m.length
  | _, _, .nil => rfl
  | _, _, .cons _ b => congrArg (· + 1) (Rt.length b)
theorem Rt.keys : ∀ {m : List (List Key × PyData)} {kvs : List (List Key × V)}, Rt M H kvs m → kvs.map (·.1) = m.map (·.1)
  | _, _, .nil => rfl
  | _, _, .cons _ b => by rw [List.map_cons, List.map_cons, Rt.keys b]
theorem Rt.val (k : List Key) {d : PyData} : ∀ {m : List (List Key × PyData)} {kvs : List (List Key × V)}, Rt M H kvs m → valT m k = some d → ∃ v, valV kvs k = some v ∧ Rp M H v d
  | _, _, .nil, e => by cases e
  | (k1, d1) :: m, (_, v1) :: kvs, .cons a b, e => by
    by_cases q : k1 = k
    · have : d1 = d := by simpa [valT, q] using e
      subst this
      exact ⟨v1, valV_pos q, a⟩
    · have e1 : valT ((k1, d1) :: m) k = valT m k := by simp [valT, List.find?_cons, q]
      rw [e1] at e
      rw [valV_neg q]
      exact Rt.val k b e
theorem Rt.put (k : List Key) {v : V} {d : PyData} {m : List (List Key × PyData)} {kvs : List (List Key × V)} (h : Rt M H kvs m) (r : Rp M H v d) : Rt M H (putK kvs k v) (putT m k d) := by
  have any : (kvs.any fun kv => decide (kv.1 = k)) = (m.any fun kv => decide (kv.1 = k)) := by
    induction h with
    | nil => rfl
    | cons _ _ ih => simp [ih]
  unfold putK putT
  rw [any]
  split
  · rename_i hsp
    clear any hsp
    induction h with
    | nil => exact .nil
    | @cons k1 v1 d1 kvs1 m1 a b ih =>
      rw [List.map_cons, List.map_cons]
      by_cases e : k1 = k
      · rw [if_pos e, if_pos e]
        exact .cons r ih
      · rw [if_neg e, if_neg e]
        exact .cons a ih
  · rename_i hsp
    clear any hsp
    induction h with
    | nil => exact .cons r .nil
    | cons a _ ih => exact .cons a ih
variable {te ta tb td ty : TE} {tA : TA} {ds : List SD} {R : RS} {t u : TS} {P : Po}
/-! a new one, until the block's end -/
end
end Hc

namespace Hc
open PySem PySem.Spec PyProof.Rows L2
section
variable {prog : Program} {w : World} {A : Around} {E : Value → Shared → Prop} {s : Shared}
/-! ### sorted(d) of a dict with rows as keys -/
end
section
variable {K : PySem.W.Frag} {ms : List MD} {R : RS}
end
end Hc

namespace Hc
open PySem PySem.Spec PyProof.Rows L2
/-! ### a dict of lists that grow: d.setdefault(k, []).append(x) -/
def addL (k : Key) (d : PyData) : List (Key × List PyData) → List (Key × List PyData)
  | [] => [(k, [d])]
  | e :: r => if e.1 = k then (e.1, e.2 ++ [d]) :: r else e :: addL k d r
/-- the lists are new against H0, and no two are one -/
inductive Lv (H0 : Hp) (M : List Addr) (p : Addr) (H : Hp) : List (Key × V) → List (Key × List PyData) → Prop
  | nil : Lv H0 M p H [] []
  | cons {k : Key} {q : Addr} {xs : List V} {es : List PyData} {kvs : List (Key × V)} {m : List (Key × List PyData)} : H0 q = none → q ≠ p → H q = some (.lst xs) → RpA M H0 xs es → (∀ x ∈ kvs, x.2 ≠ .ref q) → Lv H0 M p H kvs m → Lv H0 M p H ((k, .ref q) :: kvs) ((k, es) :: m)
section
variable {H0 H H' : Hp} {M : List Addr} {p : Addr}
theorem Lv.else {q : Addr} (w : ∀ a, a ≠ q → H' a = H a) : ∀ {kvs : List (Key × V)} {m : List (Key × List PyData)}, Lv H0 M p H kvs m → (∀ x ∈ kvs, x.2 ≠ .ref q) → Lv H0 M p H' kvs m
  | _, _, .nil, _ => .nil
  | _, _, .cons (q := q1) a b c d e f, n => by
    have hq : q1 ≠ q := fun z => n _ (List.mem_cons_self ..) (by rw [z])
    exact .cons a b (by rw [w q1 hq]; exact c) d e (Lv.else w f fun x hx => n x (List.mem_cons_of_mem _ hx))
theorem Lv.length : ∀ {kvs : List (Key × V)} {m : List (Key × List PyData)}, Lv H0 M p H kvs m → kvs.length = m.length
  | _, _, .nil => rfl
  | _, _, .cons _ _ _ _ _ f => congrArg (· + 1) (Lv.length f)
theorem Lv.apart {q : Addr} (hq : H q = none) : ∀ {kvs : List (Key × V)} {m : List (Key × List PyData)}, Lv H0 M p H kvs m → ∀ x ∈ kvs, x.2 ≠ .ref q
  | _, _, .nil, x, hx => by cases hx
  | _, _, .cons a b c d e f, x, hx => by
    rcases List.mem_cons.mp hx with rfl | hx
    · intro z
      injection z with z
      rw [z, hq] at c
      cases c
    · exact Lv.apart hq f x hx
/-- one more at a key that is there -/
theorem Lv.more {k : Key} {y : V} {d : PyData} (ry : Rp M H0 y d) {v : V} : ∀ {kvs : List (Key × V)} {m : List (Key × List PyData)}, Lv H0 M p H kvs m → valV kvs k = some v →
    ∃ q xs, v = .ref q ∧ q ≠ p ∧ H q = some (.lst xs) ∧ H0 q = none ∧ (∃ x ∈ kvs, x.2 = .ref q) ∧ (∃ es, (k, es) ∈ m ∧ xs.length = es.length) ∧ Lv H0 M p (upd H q (.lst (xs ++ [y]))) kvs (addL k d m)
  | _, _, .nil, e => by cases e
  | _, _, .cons (k := k1) (q := q1) (xs := xs1) (es := es1) (kvs := kvs1) (m := m1) a b c d1 e f, hv => by
    by_cases hk : k1 = k
    · rw [valV_pos hk] at hv
      cases hv
      refine ⟨q1, xs1, rfl, b, c, a, ⟨_, List.mem_cons_self .., rfl⟩, ⟨es1, by rw [hk]; exact List.mem_cons_self .., d1.length⟩, ?_⟩
      have ea : addL k d ((k1, es1) :: m1) = (k1, es1 ++ [d]) :: m1 := if_pos hk
      rw [ea]
      exact .cons a b upd_same (d1.append (.cons ry .nil)) e (f.else (q := q1) (fun x hx => upd_ne hx) e)
    · rw [valV_neg hk] at hv
      obtain ⟨q, xs, h1, h2, h3, h4, ⟨x, hx, ex⟩, ⟨es2, hm, hl⟩, h6⟩ := Lv.more ry f hv
      have ea : addL k d ((k1, es1) :: m1) = (k1, es1) :: addL k d m1 := if_neg hk
      have ne : q1 ≠ q := fun z => e x hx (by rw [ex, z])
      refine ⟨q, xs, h1, h2, h3, h4, ⟨x, List.mem_cons_of_mem _ hx, ex⟩, ⟨es2, List.mem_cons_of_mem _ hm, hl⟩, ?_⟩
      rw [ea]
      exact .cons a b (by rw [upd_ne ne]; exact c) d1 e h6
/-- how the dict stands -/
structure Ld (H0 : Hp) (M : List Addr) (p : Addr) (m : List (Key × List PyData)) (H : Hp) : Prop where
  keep : ∀ a o, H0 a = some o → H a = some o
  new : H0 p = none
  dict : ∃ kvs, H p = some (.dK kvs) ∧ Lv H0 M p H kvs m
theorem Ld.back {m : List (Key × List PyData)} (h : Ld H0 M p m H) {q : Addr} (e : H q = none) : H0 q = none := by
  cases z : H0 q with
  | none => rfl
  | some o => rw [h.keep q o z] at e; cases e
end
section
variable {K : PySem.W.Frag} {ds : List SD} {ms : List MD} {L M : List Addr} {H H' : Hp} {P : Po} {u : TS}
theorem Lv.data {p : Addr} {M' : List Addr} (fr : ∀ q, H q = none → q ≠ p → q ∉ M') (t : To M M' H H') : ∀ {kvs : List (Key × V)} {m : List (Key × List PyData)}, Lv H M p H' kvs m → RpK M' H' kvs (kD (m.map fun e => (e.1, .list e.2)))
  | _, _, .nil => .nil
  | _, _, .cons a b c d e f => .cons (.lst (fr _ a b) c (RpA.to t _ _ d)) (Lv.data fr t f)
/-- behind it only what is told goes on -/
def Po.only (P : Po) (n : Nat) : Po where
  nx := fun _ _ => False
  rt := fun s ms' => ∃ ms1 x, ms' = ms1 ++ [x] ∧ ms1.length = n ∧ (∃ y, s = .d y ∨ ∃ fs, s = .f fs) ∧ P.rt s ms1
  bk := fun _ _ => False
  ct := fun _ _ => False
end
end Hc

namespace Hc
open PySem PySem.Spec PyProof.Rows L2
/-! ### a comprehension over a dict's keys: the dict is locked from there on -/
section
variable {K : PySem.W.Frag} {tt : TT} {te : TE} {ds : List SD} {ms : List MD} {R : RS}
end
end Hc

namespace Hc
open PySem PySem.Spec PyProof.Rows L2
/-! ### a def that is never called -/
/-! ### list(reversed(xs)), xs a list -/
section
variable {prog : Program} {w : World} {A : Around} {E : Value → Shared → Prop} {s : Shared}
end
/-! ### len of a dict that may change -/
end Hc

namespace Hc
open PySem PySem.Spec PyProof.Rows L2
section
variable {K : PySem.W.Frag} {te ta : TE} {ds : List SD} {ms : List MD} {R : RS}
/-! ### xs.extend(e), e a new list; xs.remove(e) of ints -/
end
end Hc

namespace Hc
open PySem PySem.Spec PyProof.Rows L2
section
variable {X : Cx} {a b c d : Expr} {ta tb tc td : TE} {pos : Pos}
/-! ### a chain of three comparisons, as a test -/
/-- what stands behind the first comparison: go on with u where it held -/
def goIf (u : Hp → VK → Prop) (Q : VK) : VK := fun z H => ∃ k, z = .bl k ∧ if k = true then u H Q else Q (.bl false) H
def tChain3 (r1 r2 r3 : R2) (ta tb tc td : TE) : TE := fun σ H Q =>
  ta σ H fun x H1 => tb σ H1 fun y H2 => r1 x y H2 (goIf (fun H3 Q1 => tc σ H3 fun u H4 => r2 y u H4 (goIf (fun H5 Q2 => td σ H5 fun w H6 => r3 u w H6 Q2) Q1)) Q)
theorem pt_chain3 {o1 o2 o3 : CmpOp} {r1 r2 r3 : R2} (h1 : OpR X (compareOp o1) r1) (h2 : OpR X (compareOp o2) r2) (h3 : OpR X (compareOp o3) r3)
    (pa : PE X a ta) (pb : PE X b tb) (pc : PE X c tc) (pd : PE X d td)
    (nm : lastMarks [o1, o2, o3] [b, c, d] = false := by with_unfolding_all rfl) : PT X (.Compare a [o1, o2, o3] [b, c, d] pos) (tTest (tChain3 r1 r2 r3 ta tb tc td)) := by
  constructor
  intro pins s σ H Q I h
  apply isTrue_chain _ nm
  apply thn (pa.run pins s σ H _ I h)
  rintro v1 s1 ⟨x1, H1, I1, e1, q1⟩
  apply test_link
  apply thn (pb.run pins s1 σ H1 _ I1 q1)
  rintro v2 s2 ⟨x2, H2, I2, e2, q2⟩
  apply thn (h1 pins s2 σ H2 x1 x2 v1 v2 _ I2 e1 e2 q2)
  rintro v3 s3 ⟨x3, H3, I3, e3, k3, rfl, q3⟩
  cases e3
  apply wpAny_truthy_bool
  cases k3 with
  | false =>
    obtain ⟨_, z, q⟩ := q3
    cases z
    exact ite_ff ⟨H3, I3, q⟩
  | true =>
    apply ite_tt
    apply test_link
    apply thn (pc.run pins s3 σ H3 _ I3 q3)
    rintro v4 s4 ⟨x4, H4, I4, e4, q4⟩
    apply thn (h2 pins s4 σ H4 x2 x4 v2 v4 _ I4 e2 e4 q4)
    rintro v5 s5 ⟨x5, H5, I5, e5, k5, rfl, q5⟩
    cases e5
    apply wpAny_truthy_bool
    cases k5 with
    | false =>
      obtain ⟨_, z, q⟩ := q5
      cases z
      exact ite_ff ⟨H5, I5, q⟩
    | true =>
      apply ite_tt
      apply test_last
      apply thn (pd.run pins s5 σ H5 _ I5 q5)
      rintro v6 s6 ⟨x6, H6, I6, e6, q6⟩
      apply thn (h3 pins s6 σ H6 x4 x6 v4 v6 _ I6 e4 e6 q6)
      rintro v7 s7 ⟨x7, H7, I7, e7, k7, rfl, q7⟩
      cases e7
      exact wpAny_truthy_bool ⟨H7, I7, q7⟩
end
section
variable {K : PySem.W.Frag} {ta tb tc td : TE} {ds : List SD} {ms : List MD} {R : RS}
theorem e_chain3 {r1 r2 r3 : R2} (h : E K ta ds ms fun a ms1 => E K tb ds ms1 fun b ms2 => RR K r1 (dd a) (dd b) ms2 fun s ms3 => ∃ k, s = .d (.bool k) ∧
      (k = true → E K tc ds ms3 fun c ms4 => ∀ b', b' = dd b → RR K r2 b' (dd c) ms4 fun s ms5 => ∃ k', s = .d (.bool k') ∧
        (k' = true → E K td ds ms5 fun d ms6 => ∀ c', c' = dd c → RR K r3 c' (dd d) ms6 R) ∧ (k' = false → R (.d (.bool false)) ms5)) ∧ (k = false → R (.d (.bool false)) ms3)) :
    E K (tChain3 r1 r2 r3 ta tb tc td) ds ms R := fun L M σ H hS hA Q q =>
  h L M σ H hS hA _ fun a x H1 ms1 w1 o1 h1 => h1 L M σ H1 (hS.mono hA w1) o1.at _ fun b y H2 ms2 w2 o2 h2 =>
    h2 L M H2 x y o2.at (o1.sl.mono o1.at w2) o2.sl _ fun s z H3 ms3 w3 o3 ⟨k, e, k1, k2⟩ => by
      subst e
      obtain ⟨a3, zz⟩ := o3
      cases zz
      refine ⟨k, rfl, ?_⟩
      have w13 := (w1.trans w2).trans w3
      cases k with
      | false => exact q (.d (.bool false)) _ H3 ms3 w13 ⟨a3, .bl false⟩ (k2 rfl)
      | true =>
        show tc σ H3 _
        refine k1 rfl L M σ H3 (hS.mono hA w13) a3 _ fun c u H4 ms4 w4 o4 h4 => ?_
        have w14 := w13.trans w4
        refine h4 _ rfl L M H4 y u o4.at ((o2.sl.mono o2.at w3).mono a3 w4) o4.sl _ fun s v H5 ms5 w5 o5 ⟨k', e5, k3, k4⟩ => ?_
        subst e5
        obtain ⟨a5, z5⟩ := o5
        cases z5
        refine ⟨k', rfl, ?_⟩
        have w15 := w14.trans w5
        cases k' with
        | false => exact q (.d (.bool false)) _ H5 ms5 w15 ⟨a5, .bl false⟩ (k4 rfl)
        | true =>
          show td σ H5 _
          exact k3 rfl L M σ H5 (hS.mono hA w15) a5 _ fun d w H6 ms6 w6 o6 h6 =>
            h6 _ rfl L M H6 u w o6.at ((o4.sl.mono o4.at w5).mono a5 w6) o6.sl Q fun s v H7 ms7 w7 o7 r7 => q s v H7 ms7 ((w15.trans w6).trans w7) (o7.back o6.at (w15.trans w6)) r7
variable {t : TS} {P : Po}
/-! ### for i in reversed(range(n)) -/
end
/-! ### t * k of a tuple that may be empty -/
section
variable {K : PySem.W.Frag} {ms : List MD} {R : RS}
end
end Hc

namespace Hc
open PySem PySem.Spec PyProof.Rows L2
/-! ### bool(i) of an int -/
section
variable {K : PySem.W.Frag} {ms : List MD} {R : RS}
end
end Hc

namespace Hc
open PySem PySem.Spec PyProof.Rows L2
/-! ### the law itself, called at the top: there the guards are known -/
section
variable {Pg : Program} {w : World} {K : PySem.W.Frag} {mg : Str → Option Value} {base : Heap}
end
/-! ### repr of rows of data, the guards known -/
section
variable {K : PySem.W.Frag} {ds : List SD} {ms : List MD} {R : RS}
/-- texts told apart -/
theorem rr_neT {a b : SD} (h : ∃ x y : Str, a = .d (.str x) ∧ b = .d (.str y) ∧ R (.d (.bool (!decide (x = y)))) ms) : RR K rNe a b ms R := fun L M H u v hA ha hb Q q => by
  obtain ⟨x, y, rfl, rfl, r⟩ := h
  have ha : Rp M H u (.str x) := ha
  have hb : Rp M H v (.str y) := hb
  cases ha
  cases hb
  refine ⟨rfl, ?_⟩
  have e : decide (V.str x = V.str y) = decide (x = y) := by simp
  rw [e]
  exact q (.d (.bool _)) _ H ms (Wk.refl L H) ⟨hA, .bl _⟩ r
end
/-! ### how long such a text is -/
mutual
def noText : PyData → Bool
  | .list xs | .tuple xs => noTexts xs
  | .str _ | .dict _ => false
  | _ => true
def noTexts : List PyData → Bool
  | [] => true
  | x :: r => noText x && noTexts r
end
mutual
def nodes : PyData → Nat
  | .list xs | .tuple xs => 2 + nodesAll xs
  | _ => 1
def nodesAll : List PyData → Nat
  | [] => 0
  | x :: r => nodes x + nodesAll r
end
theorem textFrom_le : ∀ (ts : List Str) (k : Nat) (acc : Str), (textFrom k acc ts).length ≤ acc.length + (ts.map fun t => t.length + 2).sum
  | [], _, acc => Nat.le_add_right _ _
  | t :: r, k, acc => by
    have ih := textFrom_le r (k + 1) (acc ++ (if k > 0 then ", " else "" : String) ++ t)
    have e : (acc ++ (if k > 0 then ", " else "" : String) ++ t).length ≤ acc.length + 2 + t.length := by
      rw [strLen_append, strLen_append]
      have : (((if k > 0 then ", " else "" : String) : Str)).length ≤ 2 := by split <;> decide
      omega
    rw [List.map_cons, List.sum_cons]
    show (textFrom (k + 1) _ r).length ≤ _
    omega
theorem join_le : ∀ ts : List Str, (Str.join ", " ts).length ≤ (ts.map fun t => t.length + 2).sum
  | [] => Nat.zero_le _
  | t :: r => by
    have e := join_length_add (t :: r) (by simp)
    have p : ∀ l : List Str, piled l = (l.map fun t => t.length + 2).sum := fun l => by
      induction l with
      | nil => rfl
      | cons a b ih => rw [piled_cons, List.map_cons, List.sum_cons, ih]
    rw [p] at e
    omega
mutual
theorem shown_le : ∀ d : PyData, d.showable = true → noText d = true → d.shown.length + 2 ≤ 1923 * nodes d
  | .none, _, _ => by decide
  | .bool b, _, _ => by cases b <;> decide
  | .int i, h, _ => by
    have h : i.natAbs.log2 < 1920 := by simpa [PyData.showable] using h
    have := int_text_len_1921 h
    show (PySem.Str.ofString (toString i)).length + 2 ≤ 1923 * 1
    omega
  | .str _, _, h => by cases h
  | .list xs, h, n => by
    have := showns_le xs (by simpa [PyData.showable] using h) n
    have e := textFrom_le (PyData.shownAll xs) 0 "["
    have e2 : (PyData.list xs).shown = textFrom 0 "[" (PyData.shownAll xs) ++ "]" := by simp [PyData.shown, listText]
    have e3 : nodes (.list xs) = 2 + nodesAll xs := rfl
    rw [e2, e3, strLen_append]
    have : (("[" : String) : Str).length = 1 := rfl
    have : (("]" : String) : Str).length = 1 := rfl
    omega
  | .tuple xs, h, n => by
    have := showns_le xs (by simpa [PyData.showable] using h) n
    have e := join_le (PyData.shownAll xs)
    have e2 : (PyData.tuple xs).shown = ("(" : Str) ++ Str.join ", " (PyData.shownAll xs) ++ (if (PyData.shownAll xs).length == 1 then ",)" else ")" : String) := by simp [PyData.shown, tupleText]
    have e3 : nodes (.tuple xs) = 2 + nodesAll xs := rfl
    rw [e2, e3, strLen_append, strLen_append]
    have : (("(" : String) : Str).length = 1 := rfl
    have : (((if (PyData.shownAll xs).length == 1 then ",)" else ")" : String) : Str)).length ≤ 2 := by split <;> decide
    omega
  | .dict _, _, h => by cases h
theorem showns_le : ∀ ds : List PyData, PyData.showableAll ds = true → noTexts ds = true → ((PyData.shownAll ds).map fun t => t.length + 2).sum ≤ 1923 * nodesAll ds
  | [], _, _ => Nat.le_refl _
  | d :: r, h, n => by
    have h : d.showable = true ∧ PyData.showableAll r = true := by simpa [PyData.showableAll] using h
    have n : noText d = true ∧ noTexts r = true := by simpa [noTexts] using n
    have a := shown_le d h.1 n.1
    have b := showns_le r h.2 n.2
    have e : ((PyData.shownAll (d :: r)).map fun t => t.length + 2).sum = (d.shown.length + 2) + ((PyData.shownAll r).map fun t => t.length + 2).sum := by
      rw [show PyData.shownAll (d :: r) = d.shown :: PyData.shownAll r from rfl, List.map_cons, List.sum_cons]
    have e2 : nodesAll (d :: r) = nodes d + nodesAll r := rfl
    rw [e, e2]
    omega
end
end Hc

namespace Hc
open PySem PySem.Spec PyProof.Rows L2
section
variable {K : PySem.W.Frag} {te ta tb tc tl : TE} {tt : TT} {tA : TA} {ds : List SD} {ms : List MD} {R : RS}
end
end Hc

namespace Hc
open PySem PySem.Spec PyProof.Rows L2
/-! ### try, where the first clause takes whatever the body raises: what stands behind it is not reached -/
section
variable {X : Cx} {x n : Str} {c : Value} {i : Nat} {body suite : List Stmt} {b1 : Stmt} {np pos pos2 : Pos} {rest : List ExceptHandler} {tb : WX → TS} {ts : Addr → Value → Option Addr → TS}
/-- what the clause is asked, once the body has raised -/
def toClause (X : Cx) (pins : List (Addr × Obj)) (D : Ends) (cl : List ExceptHandler) : Value → Shared → Prop := fun e s1 =>
  wpAny (model X.prog X.w) X.A (noteFrame e X.env) (fun _ s2 => wpAny (model X.prog X.w) X.A (setFlight e none)
    (fun _ s3 => wpAny (model X.prog X.w) X.A (handleBy e X.env cl) (SP X pins D) X.xe s3) X.xe s2) X.xe s1
/-- no frame's own object is an error -/
theorem not_frame {h B : Heap} {fs : List Env} {a : Addr} {o : Obj} {vs : Array Value} (ff : h.FunFrames B fs) (e : h.get? a = some o) (d : o.data = .fields vs) : a ∉ frs fs := fun m => by
  obtain ⟨_, u, eu, no⟩ := ff.mem m
  cases e.symm.trans eu
  exact no vs d
end
end Hc

namespace Hc
open PySem PySem.Spec PyProof.Rows L2
/-! ### sorted(set(xs)), xs a list of ints -/
/-- a set without members, as set() lays it -/
abbrev bareSet (w : World) : Obj := { cls := .type "set", dict := none, data := .set #[] 0 (.fresh 0 0 (!w.params.followText "set-order")) }
section
variable {P : Program} {w : World} {A : Around} {E : Value → Shared → Prop} {s : Shared} {l : Addr} {its : Array Value} {ns : List Int}
theorem ints_at (hi : IntsAre its.toList ns) {i : Nat} {v : Value} (e : its[i]? = some v) : ∃ k t, ns[i]? = some k ∧ v = .int k t := by
  have ln : its.size = ns.length := by
    have := IntsAre.length hi
    rwa [Array.length_toList] at this
  have li : i < ns.length := ln ▸ (Array.getElem?_eq_some_iff.mp e).1
  obtain ⟨t, q⟩ := PyProof.Rows.IntsAre.int_at hi i v (by rw [Array.getElem?_toList]; exact e)
  exact ⟨ns[i], t, List.getElem?_eq_getElem li, by rw [q, List.getD_eq_getElem?_getD, List.getElem?_eq_getElem li]; rfl⟩
/-- what set.__init__ leaves of a bare set at p -/
def Filled (w : World) (s : Shared) (ns : List Int) (p : Addr) (t : Shared) : Prop := ∃ (h : Heap) (tk c : Nat), t = { s with heap := h, toks := tk } ∧ SetR w h p (fun j => decide (j ∈ ns)) c ∧ c ≤ ns.length ∧ ∀ b o, s.heap.get? b = some o → h.get? b = some o
theorem set_init (hh : A.handled = none) (hl : s.heap.IsList l its) (hi : IntsAre its.toList ns) (hb : ns.length + 1 < scanBound) :
    codeAny (model P w) A (.call (.builtin "set.__init__") ⟨[.ref s.heap.objs.size, .ref l], []⟩) (wants (fun r t => r = .none ∧ Filled w s ns s.heap.objs.size t) E) { s with heap := s.heap.push (bareSet w) } := by
  obtain ⟨ob, at_l, cls, ep, dat⟩ := hl
  obtain ⟨c1, c2, c3, c4⟩ := ob
  cases cls
  cases dat
  have born : (s.heap.push (bareSet w)).get? s.heap.objs.size = some (bareSet w) := Heap.get?_push_size _ rfl
  have ty : Shared.TypeIs { s with heap := s.heap.push (bareSet w) } (.ref s.heap.objs.size) "set" := ⟨_, born, rfl⟩
  refine codeAny_call_builtin F.called_set.init.plain F.entry_set_init (check_set_init_1 ty ?_)
  have low : l < s.heap.objs.size := Heap.lt_size at_l
  have at_l2 : (s.heap.push (bareSet w)).get? l = _ := Heap.get?_push_of_some _ at_l
  have lst : (s.heap.push (bareSet w)).IsList l its := ⟨_, at_l2, rfl, ep, rfl⟩
  have n1 := F.sub_list_set
  have n2 := F.sub_list_frozenset
  have n3 : (Value.type "list" == Value.type "dict") = false := by decide
  have ln : its.size = ns.length := by
    have := IntsAre.length hi
    rwa [Array.length_toList] at this
  have sz : (s.heap.push (bareSet w)).objs.size = s.heap.objs.size + 1 := Heap.size_push ..
  unfold Builtin.«set.__init__» noKeywords Builtin.Frozenset.updateFrom
  generalize later : pyIter = walk
  wp_walk
  subst later
  refine wpAny_pyIter_list lst (wpAny_bind (wpAny_runValue ?_))
  have walks := (Walks.list (prog := P) (w := w) (show A.in1.in1.handled = none by simp [hh]) (s.heap.push (bareSet w)).objs.size l (fun z => Nat.ne_of_lt (Nat.lt_succ_of_lt low) (z.trans sz)) its).toS
  have apart : s.heap.objs.size ∉ [(s.heap.push (bareSet w)).objs.size, l] := fun m => by
    rcases List.mem_cons.mp m with z | z
    · exact Nat.ne_of_lt (Nat.lt_succ_self _) (z.trans sz)
    · exact Nat.ne_of_gt low (List.mem_singleton.mp z)
  refine set_update_ints walks s.heap.objs.size apart ns ln hb (fun i v e => ints_at hi e) (its.size - 0) 0 _ (by omega) (Nat.zero_le _)
    ?_ ?_ ?_
  · exact ⟨⟨_, Heap.get?_push_size _ rfl, rfl, rfl⟩, lst.push _⟩
  · exact ⟨0, Nat.le_refl 0, setR_new_at (Heap.get?_push_of_some _ born)⟩
  rintro ⟨h2, g2, d2, k2, o2⟩ c moved few filled
  cases show g2 = s.gens from moved.gens
  cases show d2 = s.drawn from moved.drawn
  cases show o2 = s.os from moved.os
  show wpAny _ _ _ _ _ _
  apply wpAny_pure
  show wpAny _ _ (ret Value.none) _ _ _
  refine wpAny_pure ⟨rfl, h2, k2, c, rfl, filled, ln ▸ few, fun b o e => ?_⟩
  have lb := Heap.lt_size e
  refine moved.heap b o (fun m => ?_) (Heap.get?_push_of_some _ (Heap.get?_push_of_some _ e))
  rcases List.mem_cons.mp m with z | z
  · exact Nat.ne_of_lt lb z
  · exact Nat.ne_of_lt (Nat.lt_succ_of_lt lb) ((List.mem_singleton.mp z).trans sz)
theorem set_list {Q : Value → Shared → Prop} (hh : A.handled = none) (hl : s.heap.IsList l its) (hi : IntsAre its.toList ns) (hb : ns.length + 1 < scanBound)
    (go : ∀ t, Filled w s ns s.heap.objs.size t → Q (.ref s.heap.objs.size) t) : wpAny (model P w) A (call (.type "set") [.ref l]) Q E s := by
  have C := F.called_set
  obtain ⟨_, _, mro⟩ := C.mro
  have a1 := C.made
  have a2 := C.sub
  have a3 := C.notType
  have a4 := C.canCreate
  have a5 := F.typeCall_set_1 (.ref l)
  apply wpAny_call
  apply codeAny_of_tree
  show wpAny _ _ (callAny (.type "set") _) _ _ _
  refine wpAny_pure ⟨Code.quiet_builtin _ (by decide +kernel), codeAny_builtin F.entry_type_call ?_⟩
  rw [Around.under_plain (weight_type_call_type "set" [.ref l] []) rfl]
  repeat (any_goals (first | assumption | wp_step))
  refine codeAny_mono (code_set_led1 (E := E) (.ref l) (Q₁ := fun p t => p = .ref s.heap.objs.size ∧ t = { s with heap := s.heap.push (bareSet w) }) ⟨rfl, rfl⟩) fun r t z => ?_
  match r, z with
  | .error _, z => exact z
  | .ok .next, z => exact z.elim
  | .ok .brk, z => exact z.elim
  | .ok .cont, z => exact z.elim
  | .ok (.ret p), ⟨ep, et⟩ =>
    subst ep et
    have ty : Shared.TypeIs { s with heap := s.heap.push (bareSet w) } (.ref s.heap.objs.size) "set" := ⟨_, Heap.get?_push_size _ rfl, rfl⟩
    have b1 := C.init.lookup
    have b2 := C.init.bind (.ref s.heap.objs.size)
    repeat (any_goals (first | assumption | wp_step))
    refine codeAny_mono (set_init (E := E) hh hl hi hb) fun r2 t2 z2 => ?_
    match r2, z2 with
    | .error _, z2 => exact z2
    | .ok .next, z2 => exact z2.elim
    | .ok .brk, z2 => exact z2.elim
    | .ok .cont, z2 => exact z2.elim
    | .ok (.ret v), ⟨ev, fl⟩ =>
      subst ev
      have := go t2 fl
      repeat (any_goals (first | assumption | wp_step))
end
section
variable {K : PySem.W.Frag} {te ta tb tc tl : TE} {tt : TT} {tA : TA} {ds : List SD} {ms : List MD} {R : RS}
/-- {} as a datum -/
theorem e_dnewE (r : R (.d (.dict [])) ms) : E K tDNewK ds ms R := fun L M σ H hS hA Q q => fun p hp => q (.d (.dict [])) _ _ ms (Wk.new hp) ⟨hA.new hp, .dct (hA.fresh hp) upd_same .nil⟩ r
end
end Hc

namespace Hc
open PySem PySem.Spec PyProof.Rows L2
/-! ### tuple(reversed(t)), t a tuple -/
section
variable {prog : Program} {w : World} {A : Around} {E : Value → Shared → Prop} {s : Shared}
end
end Hc

namespace Hc
open PySem PySem.Spec PyProof.Rows L2
/-! ### try: x = f(..), the first clause `except X as n` takes all -/
section
variable {K : PySem.W.Frag} {C : Addr} {tA : TA} {ds : List SD} {ms : List MD} {P : Po}
end
end Hc

namespace Hc
open PySem PySem.Spec PyProof.Rows L2
/-! ### data read off the heap, dicts too -/
section
variable {X : Cx} {pins : List (Addr × Obj)} {σ : L2.St} {H : Hp} {s : Shared} {M : List Addr}
theorem key_off {h : Heap} {k : Key} {e : Value} (z : keyIs k e = true) : Reads h e (keyD k) [] := by
  rcases keyIs_shape z with ⟨i, t, rfl, rfl⟩ | ⟨x, t, rfl, rfl⟩
  · exact .int i t
  · exact .str x t
mutual
theorem Rp.off (I : Inv X pins σ H s) (out : H sysModules = none) : ∀ {v : V} {d : PyData}, Rp M H v d → ∀ u, RelV v u → ∃ as, Reads s.heap u d as ∧ sysModules ∉ as
  | _, _, .non, u, r => by
    cases r
    exact ⟨[], .none, nofun⟩
  | _, _, .bl b, u, r => by
    cases r
    exact ⟨[], .bool b, nofun⟩
  | _, _, .int i, u, r => by
    obtain ⟨t, rfl⟩ := r
    exact ⟨[], .int i t, nofun⟩
  | _, _, .str x, u, r => by
    obtain ⟨t, rfl⟩ := r
    exact ⟨[], .str x t, nofun⟩
  | _, _, .lst (a := a) na e rs, u, r => by
    cases r
    obtain ⟨z, its, n, rv, g⟩ := I.hok a _ e
    obtain ⟨as, q, no⟩ := RpA.off I out rs its rv
    refine ⟨a :: as, .list (vs := its.toArray) g rfl rfl (by rw [List.toList_toArray]; exact q), fun m => ?_⟩
    rcases List.mem_cons.mp m with w | w
    · rw [w, e] at out
      cases out
    · exact no w
  | _, _, .tup (a := a) na e rs, u, r => by
    cases r
    obtain ⟨z, its, rv, o, g, c, n, d⟩ := I.hok a _ e
    obtain ⟨as, q, no⟩ := RpA.off I out rs its rv
    exact ⟨as, .tuple (vs := its.toArray) g c d (by rw [List.toList_toArray]; exact q), no⟩
  | _, _, .dct (a := a) na e rs, u, r => by
    cases r
    obtain ⟨z, ns, vs, kv, o, es, ep, g, ex, dd, ko, ps, nd⟩ := I.hok a _ e
    obtain ⟨bs, q1, q2, no⟩ := RpK.off I out rs vs kv es.toList ps
    refine ⟨a :: [] ++ bs, .dict g ex.1 dd q1 q2, fun m => ?_⟩
    rcases List.mem_cons.mp m with w | w
    · rw [w] at ns
      simp at ns
    · exact no w
theorem RpA.off (I : Inv X pins σ H s) (out : H sysModules = none) : ∀ {vs : List V} {ds : List PyData}, RpA M H vs ds → ∀ us, Vals vs us → ∃ as, ReadsAll s.heap us ds as ∧ sysModules ∉ as
  | _, _, .nil, us, r => by
    cases r
    exact ⟨[], .nil, nofun⟩
  | _, _, .cons h t, us, r => by
    cases r with
    | cons r1 r2 =>
      obtain ⟨as, q1, n1⟩ := Rp.off I out h _ r1
      obtain ⟨bs, q2, n2⟩ := RpA.off I out t _ r2
      exact ⟨as ++ bs, .cons q1 q2, fun m => (List.mem_append.mp m).elim n1 n2⟩
theorem RpK.off (I : Inv X pins σ H s) (out : H sysModules = none) : ∀ {kvs : List (Key × V)} {ds : List (PyData × PyData)}, RpK M H kvs ds → ∀ vs, KV kvs vs → ∀ es, Pairs (mixKind X.prog X.w) es vs →
    ∃ bs, ReadsAll s.heap (es.map (·.key)) (ds.map (·.1)) [] ∧ ReadsAll s.heap (es.map (·.val)) (ds.map (·.2)) bs ∧ sysModules ∉ bs
  | _, _, .nil, vs, kv, es, ps => by
    cases kv
    cases ps
    exact ⟨[], .nil, .nil, nofun⟩
  | _, _, .cons h t, vs, kv, es, ps => by
    cases kv with
    | cons r1 r2 =>
      cases ps with
      | cons p1 p2 p3 =>
        obtain ⟨e1, rv⟩ := r1
        obtain ⟨as, q1, n1⟩ := Rp.off I out h _ rv
        obtain ⟨bs, k2, q2, n2⟩ := RpK.off I out t _ r2 _ p3
        refine ⟨as ++ bs, ?_, .cons (by dsimp only; rw [p2]; exact q1) q2, fun m => (List.mem_append.mp m).elim n1 n2⟩
        refine ReadsAll.cons (as := []) (bs := []) ?_ k2
        rw [← e1] at p1
        exact key_off p1
end
end
/-! ### repr of any datum, where the guards are known and the table of modules stands in the base -/
end Hc

namespace Hc
open PySem PySem.Spec PyProof.Rows L2
section
variable {K : PySem.W.Frag} {ds : List SD} {ms : List MD} {R : RS} {P : Po}
end
/-! ### min(t) of a row of ints, a list or a tuple -/
end Hc

namespace Hc
open PySem PySem.Spec PyProof.Rows L2
/-! ### an error that is kept beyond its suite -/
/-- an error of the class at C, no more in the air, at a -/
def erO (C a : Addr) : HO := .ext fun h => ∃ (err : Obj) (vs : Array Value), h.get? a = some err ∧ Zc (.ref C) none err ∧ err.data = .fields vs
theorem erO_ok {P : Program} {w : World} {H : Hp} {h : Heap} {a C : Addr} {err : Obj} (g : h.get? a = some err) (z : Zc (.ref C) none err) (f : ∃ vs, err.data = .fields vs) : ObjOk P w H h a (erO C a) := by
  obtain ⟨vs, d⟩ := f
  refine ⟨⟨err, vs, g, z, d⟩, ⟨err, g⟩, ?_⟩
  rintro h1 h2 ⟨u, us, g1, z1, d1⟩ same
  exact ⟨u, us, same u g1, z1, d1⟩
section
variable {X : Cx} {pins : List (Addr × Obj)} {σ : L2.St} {H : Hp} {s : Shared}
/-- what is there, and new since the def began, may be told of -/
theorem inv_tell {a : Addr} {u : HO} (I : Inv X pins σ H s) (na : H a = none) (n0 : X.s_0.heap.get? a = none) (nl : a ≠ X.env.locals) (nc : ∀ x c, X.env.cells.lookup x = some c → c ≠ a) (np : ∀ p ∈ X.pn ++ pins, p.1 ≠ a) (ok : ObjOk X.prog X.w (upd H a u) s.heap a u) : Inv X pins σ (upd H a u) s := by
  have old : ∀ b o, H b = some o → b ≠ a := fun b o e => ne_of_none e na
  constructor
  · exact I.ok
  · exact I.os
  · exact I.bare
  · constructor
    · exact I.base.keep
    · exact I.base.slot
    · intro b o e n x
      have : b ≠ a := fun z => by rw [z, n0] at e; cases e
      rw [upd_ne this]
      exact I.base.free b o e n x
    · exact I.base.there
    · intro b xs e
      have q := I.base.tups b xs e
      rw [upd_ne (old b _ q)]
      exact q
    · intro b o v e
      have q := I.base.frzs b o v e
      rw [upd_ne (old b _ q)]
      exact q
    · intro b ps e
      obtain ⟨more, q⟩ := I.base.tbls b ps e
      exact ⟨more, by rw [upd_ne (old b _ q)]; exact q⟩
  · exact I.loc
  · exact I.cell
  · rw [upd_ne (Ne.symm nl)]
    exact I.free
  · intro x c e
    rw [upd_ne (nc x c e)]
    exact I.freeC x c e
  · intro p hp
    obtain ⟨q1, q2, q3⟩ := I.pin p hp
    exact ⟨q1, by rw [upd_ne (np p hp)]; exact q2, q3⟩
  · exact HOk.laidN I.hok (fun _ _ q => q) na ok
  · exact I.len
end
section
variable {X : Cx} {x n : Str} {c : Value} {i : Nat} {C : Addr} {body suite : List Stmt} {b1 : Stmt} {np pos pos2 : Pos} {tb : WX → TS} {ts : Addr → TS}
/-- what the clause wishes of the error, of the class at C: behind its suite it is kept -/
def wHold (K : PySem.W.Frag) (c : Value) (C : Addr) (i : Nat) (ts : Addr → TS) (D : Ends) : WX := fun cls d σ H =>
  cls = .ref C ∧ d = none ∧ PySem.W.exmOne K cls c = some true ∧ ∀ a, H a = none → ts a { nx := fun σ' H' => D.nx (σ'.set i none) (upd H' a (erO C a)), rt := fun _ _ => False, bk := fun _ _ => False, ct := fun _ _ => False } (σ.set i (some (.ref a))) H
theorem clause_holds (own : X.stack = X.env :: X.outer) (fr : X.env.frame = some X.env.locals) (ex0 : X.ex = []) (nd : X.N.Nodup) (hi : X.N[i]? = some n) (lc : X.env.kindOf n = some .local) (hc : Names X x c)
    (hsu : ∀ (a : Addr) (err : Obj) (ps : List (Addr × Obj)), PSs (X.suite a ((a, err) :: ps)) (b1 :: suite) (ts a))
    (ok : X.Ok) (pins : List (Addr × Obj)) (D : Ends) : Takes (X.tr (X.pn ++ pins) (toClause X pins D [.ExceptHandler (some (.Name x np)) (some n) (b1 :: suite) pos2])) (wHold X.K c C i ts D) := by
  rintro u t ⟨a, B, t0, ps, σ2, H2, cls, dd, rfl, J, nb, up, sky, un, os, ag, rfl, rfl, match_, yes⟩
  have frames : X.A.frames = some (X.env :: X.outer) := by rw [ok.frames, own]
  have J := J.ofTry ok
  show wpAny (model X.prog X.w) X.A (noteFrame (.ref a) X.env) _ _ _
  apply Sky.land Zc.steady frames fr (show Sky B (X.env :: X.outer) a (Zc (.ref C) none) X.env.locals t.heap by rw [← own]; exact sky)
  intro h1 f1 u1
  have J1 : Inv X pins σ2 H2 { t with heap := h1 } := J.landed nb f1.1 (up.trans u1) os ag
  obtain ⟨o1, v1, g1, z1, d1⟩ := f1.there
  have out := not_frame f1.2.2.1 g1 d1
  have here : a ≠ X.env.locals := fun z => out (List.mem_filterMap.mpr ⟨X.env, by simp, fr.trans (by rw [z])⟩)
  have outer : a ∉ X.fs := fun m => by
    obtain ⟨y, hy, q⟩ := List.mem_filterMap.mp m
    exact out (List.mem_filterMap.mpr ⟨y, by simp [hy], q⟩)
  have notB : ∀ b o, t0.heap.get? b = some o → b ∉ frs X.stack → b ≠ a := fun b o e h z => by
    have := nb b o e h
    rw [z, f1.2.1] at this
    cases this
  have new0 : X.s_0.heap.get? a = none := by
    cases q : X.s_0.heap.get? a with
    | none => rfl
    | some o =>
      obtain ⟨o', q'⟩ := J.base.there a o q (by rw [ex0]; nofun)
      exact absurd rfl (notB a o' q' (by rw [own]; exact out))
  have pinned : ∀ p ∈ X.pn ++ pins, p.1 ≠ a := fun p hp => by
    obtain ⟨q1, q2, q3, q4, q5⟩ := J.pin p hp
    refine notB p.1 p.2 q1 fun m => ?_
    rw [own] at m
    obtain ⟨y, hy, q⟩ := List.mem_filterMap.mp m
    rcases List.mem_cons.mp hy with e | e
    · subst e
      rw [fr] at q
      exact q3 (Option.some.inj q).symm
    · exact q4 (List.mem_filterMap.mpr ⟨y, e, q⟩)
  have T1 := J1.suite g1 d1 un here outer
  refine wpAny_handleBy_cons (codeAny_handlers_test ?_) nofun
  have cls_at : PySem.W.Looks (model X.prog X.w) h1 (typeOf (.ref a)) (.ref C) := fun _ _ _ _ kp q => wpAny_typeOf_ref (kp _ _ g1) (z1.1.symm ▸ q)
  have asked := PySem.W.exm_one (M := model X.prog X.w) J1.kIn cls_at match_
  have name : ∀ {Q E : Value → Shared → Prop}, Q c { t with heap := h1 } → wpAny (model X.prog X.w) (X.A.mark (some (.ref a))) (eval (.Name x np) X.env) Q E { t with heap := h1 } := fun q => by
    rcases hc with ⟨g, db, m | ⟨m, bb, ne⟩⟩
    · exact ld_glob (X := X.suite a ((a, o1) :: (X.pn ++ pins))) T1 g m q db
    · exact ld_blt (X := X.suite a ((a, o1) :: (X.pn ++ pins))) T1 g m bb q ne db
  apply name
  apply asked.here
  apply codeAny_handlers_suite_as
  apply HandSPX.lands_againZ f1
  intro h2 f2 u2
  have J2 : Inv X pins σ2 H2 { t with heap := h2 } := J.landed nb f2.1 ((up.trans u1).trans u2) os ag
  obtain ⟨o2, v2, g2, z2, d2⟩ := f2.there
  have T2 := J2.suite g2 d2 un here outer
  refine store_ok (X := X.suite a ((a, o2) :: (X.pn ++ pins))) (v := .ref a) T2 nd hi (.inl lc) rfl (fun s5 T5 => ?_) (.inr lc)
  refine wpAny_mono ((hsu a o2 (X.pn ++ pins)).run [] s5 _ H2 _ T5 (yes a un)) (fun fl s6 z => ?_) nofun
  match fl, z with
  | .next, ⟨_, H6, V, q⟩ =>
    obtain ⟨p1, p2, _⟩ := V.pin (a, o2) (List.mem_append.mpr (.inl List.mem_cons_self))
    have W := V.unsuite ok
    have K6 := inv_tell (u := erO C a) W p2 new0 here (fun y cc e z => by
      obtain ⟨v, o, g, dc⟩ := W.cell y cc e
      rw [z, p1] at g
      have := Option.some.inj g
      rw [← this, d2] at dc
      cases dc) pinned (erO_ok p1 z2 ⟨_, d2⟩)
    exact gone_ok K6 nd hi lc fun s7 K7 => ⟨_, _, K7, q⟩
  | .brk, ⟨_, _, _, q⟩ => exact q.elim
  | .cont, ⟨_, _, _, q⟩ => exact q.elim
  | .ret _, ⟨_, _, _, _, _, q⟩ => exact q.elim
theorem ps_try_hold (own : X.stack = X.env :: X.outer) (fr : X.env.frame = some X.env.locals) (ex0 : X.ex = []) (nd : X.N.Nodup) (hi : X.N[i]? = some n) (lc : X.env.kindOf n = some .local) (hc : Names X x c)
    (hb : ∀ (wish : WX) (ps : List (Addr × Obj)) (out : Value → Shared → Prop), Takes (X.tr ps out) wish → PassesOwn (model X.prog X.w) X.A X.env out → PSs (X.tr ps out) body (tb wish))
    (hsu : ∀ (a : Addr) (err : Obj) (ps : List (Addr × Obj)), PSs (X.suite a ((a, err) :: ps)) (b1 :: suite) (ts a)) :
    PS X (.Try body [.ExceptHandler (some (.Name x np)) (some n) (b1 :: suite) pos2] [] [] pos) (fun D σ H => tb (wHold X.K c C i ts D) D σ H) := by
  constructor
  intro pins s σ H D I h
  apply wpAny_Try_except
  have run := (hb _ _ _ (clause_holds (np := np) (pos2 := pos2) own fr ex0 nd hi lc hc hsu I.ok pins D) PassesOwn.looking).run [] s σ H D (I.toTry _) h
  refine wpAny_mono run (fun fl s1 z => ?_) fun _ _ z => z
  match fl, z with
  | .next, ⟨_, _, V, q⟩ => exact wpAny_execs_nil ⟨_, _, V.ofTry I.ok, q⟩
  | .brk, ⟨_, _, V, q⟩ => exact ⟨_, _, V.ofTry I.ok, q⟩
  | .cont, ⟨_, _, V, q⟩ => exact ⟨_, _, V.ofTry I.ok, q⟩
  | .ret _, ⟨_, _, _, V, r, q⟩ => exact ⟨_, _, _, V.ofTry I.ok, r, q⟩
end
section
variable {K : PySem.W.Frag} {C D : Addr} {tA : TA} {ds : List SD} {ms : List MD} {P : Po} {R : RS}
/-- try: f(..), except D as n: y = n, where f raises the class at C: slots i (n), j (y) -/
def tTryH (K : PySem.W.Frag) (C D : Addr) (i j : Nat) (te : WX → TE) : TS := fun E σ H => tDrop (te (wHold K (.ref D) C i (fun _ => tAsg (tVar i) (gName j)) E)) E σ H
theorem s_tryH {i j : Nat} {Φ : PhX} (li : i < ds.length) (ne : i ≠ j) (hm : PySem.W.exmOne K (.ref C) (.ref D) = some true) (h : EA K tA ds ms fun as ms1 => Φ as ms1 (fun _ ms2 => P.nx ds ms2) fun ms2 => P.nx ((ds.set j (.h (erO C))).set i .u) ms2) :
    S K (tTryH K C D i j (fun W => tCallS (SpX K C Φ) (WE W) tA)) ds ms P := fun L M σ H hS hA E n r b c =>
  h L M σ H hS hA _ fun as vs H1 ms1 w1 a1 o1 h1 => by
    refine ⟨L, M, ms1, as, _, _, a1, o1, h1, fun s v H2 ms2 w2 o2 r2 => n σ H2 ds ms2 (w1.trans w2) (hS.mono hA (w1.trans w2)) o2.at r2, fun H2 ms2 w2 a2 y => ⟨rfl, rfl, hm, fun a na => ?_⟩⟩
    have w := w1.trans w2
    have wn : Wk L H2 (upd H2 a (erO C a)) := Wk.new na
    refine ⟨.ref a, List.getElem?_set_self (hS.lt li), ?_⟩
    have slot : SlOk K L M (upd H2 a (erO C a)) (.h (erO C)) (.ref a) := ⟨a, rfl, a2.fresh na, upd_same⟩
    have s2 := (hS.mono hA w).mono a2 wn
    have s3 := ((s2.set j slot).forget i none)
    refine n _ _ _ ms2 (w.trans wn) ?_ (a2.new na) y
    have e : (((σ.set i (some (V.ref a))).set j (some (V.ref a))).set i none) = ((σ.set j (some (V.ref a))).set i none) := by
      rw [List.set_comm _ _ (Ne.symm ne), List.set_set, List.set_comm _ _ ne]
    rw [e]
    exact s3
/-- isinstance(x, c), x an error that is kept -/
def rIsH (K : PySem.W.Frag) : List V → Hp → VK → Prop := fun xs H Q => ∃ (a C : Addr) (c : V) (cv : Value) (b : Bool), xs = [.ref a, c] ∧ ExcC K C ∧ H a = some (erO C a) ∧ (∀ u, RelV c u → u = cv) ∧ PySem.W.kitOne K (.ref C) cv = some b ∧ Q (.bl b) H
theorem call_isH {X : Cx} : CallR X (.builtin "isinstance") (rIsH X.K) := by
  rintro pins s σ H xs us Q I r ⟨a, C, c, cv, b, rfl, x, ha, one, e, q⟩
  obtain ⟨rx, rr⟩ : RelV (.ref a) us.head! ∧ ∃ u2, us = [.ref a, u2] ∧ RelV c u2 := by
    cases r with
    | cons rx rr =>
      cases rr with
      | cons rt rr =>
        cases rr
        cases rx
        exact ⟨rfl, _, rfl, rt⟩
  obtain ⟨u2, rfl, rt⟩ := rr
  have := one _ rt
  subst this
  obtain ⟨⟨err, vs, g, z, d⟩, _⟩ := I.hok a _ ha
  have at_ : PySem.W.InstAt s.heap a err C none := by
    rcases err with ⟨k1, k2, k3, k4⟩
    rcases z with ⟨z1, z2⟩
    have z1 : k1 = .ref C := z1
    have z2 : k2 = none := z2
    have d : k3 = .fields vs := d
    rw [z1, z2, d] at g ⊢
    exact ⟨g, rfl, rfl, trivial⟩
  have kit := PySem.W.handS_kitx_exc (x := a) (ox := err) x.hg x.hk x.hs x.hd x.ha x.hn x.ht x.hm
  exact PySem.W.kia_one kit I.kIn at_ e nofun fun tk => ⟨.bl b, H, I.kept (t' := tk) fun _ _ z => z, rfl, q⟩
theorem e_isH {i : Nat} {c : V} {cv : Value} {b : Bool} (x : ExcC K C) (hi : ds[i]? = some (.h (erO C))) (hc : ∀ u, RelV c u → u = cv) (hb : PySem.W.kitOne K (.ref C) cv = some b) (r : R (.d (.bool b)) ms) : E K (tCB (rIsH K) (tCons (tVar i) (tCons (tC c) tNil))) ds ms R := fun L M σ H hS hA Q q => by
  obtain ⟨v, e, a, rfl, n, ha⟩ := hS.get hi (fun z => nomatch z)
  exact ⟨.ref a, e, a, C, c, cv, b, rfl, x, ha, hc, hb, q (.d (.bool b)) _ H ms (Wk.refl L H) ⟨hA, .bl b⟩ r⟩
theorem e_varh {i : Nat} {φ : Addr → HO} (h : ds[i]? = some (.h φ)) (r : R (.h φ) ms) : E K (tVar i) ds ms R := fun L M σ H hS hA Q q => by
  obtain ⟨v, e, o⟩ := hS.get h (fun z => nomatch z)
  exact ⟨v, e, q _ v H ms (Wk.refl L H) (.of hA o) r⟩
end
end Hc

namespace Hc
open PySem PySem.Spec PyProof.Rows L2
/-! ### errors of several classes -/
abbrev PhY := List SD → List MD → RS → (Addr → List MD → Prop) → Prop
/-- a def that hands back, or raises one of some classes -/
def SpY (K : PySem.W.Frag) (Φ : PhY) : Sp := fun vs H Q X => ∃ L M ms as R Y, At L M ms H ∧ SlsOk K L M H as vs ∧ Φ as ms R Y ∧ (∀ s v H' ms', Wk L H H' → Out K L M H H' ms' v s → R s ms' → Q v H') ∧ ∀ C H' ms', Wk L H H' → At L M ms' H' → Y C ms' → X (.ref C) none H'
def EyX (L M : List Addr) (H : Hp) (Y : Addr → List MD → Prop) (X : XK) : Prop := ∀ C H' ms', Wk L H H' → At L M ms' H' → Y C ms' → X (.ref C) none H'
section
variable {K : PySem.W.Frag} {C : Addr} {te ta tb tc tl : TE} {tt : TT} {tA : TA} {ds : List SD} {ms : List MD} {R : RS} {P : Po} {Y : Addr → List MD → Prop}
theorem EyX.on {L M : List Addr} {H H1 : Hp} {X : XK} (w : Wk L H H1) (h : EyX L M H Y X) : EyX L M H1 Y X := fun C H' ms' w2 => h C H' ms' (w.trans w2)
/-- such a def by name -/
structure KnY (Pg : Program) (w : World) (K : PySem.W.Frag) (mg : Str → Option Value) (base : Heap) (x : Str) (lv : Nat) (ps : List Str) (Φ : PhY) : Prop where
  ex : ∃ f fd, FnOk Pg w K mg base (L2.CX Pg w) lv f fd ps (SpY K Φ) ∧ mg x = some (.ref f) ∧ PySem.W.keepIn K (.ref f) = true ∧ Binds K fd ps []
end
/-! ### an error of whichever class that is kept, or handed back -/
section
variable {X : Cx} {x n : Str} {c : Value} {i : Nat} {body suite : List Stmt} {b1 : Stmt} {np pos pos2 : Pos} {tb : WX → TS} {ts : Addr → TS}
end
section
variable {K : PySem.W.Frag} {D : Addr} {tA : TA} {ds : List SD} {ms : List MD} {P : Po} {R : RS}
end
/-! ### what classes are, and are not, of each other -/
theorem kit_no {K : PySem.W.Frag} {C D : Addr} (hc : PySem.W.isClsIn K D = true) (ht : PySem.W.typeIn K (.ref D) = some (.type "type")) (hs : PySem.W.subIn K (.ref C) (.ref D) = some false) (hr : PySem.W.subIn K (.ref C) (.ref C) = some true) : PySem.W.kitOne K (.ref C) (.ref D) = some false := by
  have hc : (PySem.W.clsIn K D).isSome = true := hc
  unfold PySem.W.kitOne
  by_cases e : ((Value.ref C == Value.ref D) = true)
  · have : C = D := by simpa using e
    subst this
    rw [hr] at hs
    cases hs
  · rw [if_neg e]
    show (if _ then _ else _) = _
    rw [hc, ht, hs]
    rfl
theorem exm_up {K : PySem.W.Frag} {C D : Addr} {b : Bool} (h1 : PySem.W.subIn K (.ref D) (.type "BaseException") = some true) (hc : PySem.W.isClsIn K D = true) (ht : PySem.W.typeIn K (.ref D) = some (.type "type")) (hs : PySem.W.subIn K (.ref C) (.ref D) = some b) : PySem.W.exmOne K (.ref C) (.ref D) = some b := by
  have hc : (PySem.W.clsIn K D).isSome = true := hc
  unfold PySem.W.exmOne
  rw [if_pos (by rw [h1]; rfl)]
  show (if _ then _ else _) = _
  rw [hc, ht, hs]
  rfl
end Hc

namespace Hc
open PySem PySem.Spec PyProof.Rows L2
/-! ### tuples that are known to be bare: they have methods -/
section
variable {K : PySem.W.Frag} {te ta tb tc tl : TE} {tt : TT} {tA : TA} {ds : List SD} {ms : List MD} {R : RS} {P : Po}
/-- such a tuple of ints -/
def TupI (ns : List Int) (M : List Addr) (H : Hp) (v : V) : Prop := ∃ (b : Addr) (o : Obj), v = .ref b ∧ b ∉ M ∧ H b = some (.frz o (.tup (ns.map V.int))) ∧ o.cls = .type "tuple" ∧ o.dict = none
theorem TupI.sq {ns : List Int} {M : List Addr} {H : Hp} {v : V} (h : TupI ns M H v) : ∃ a, v = .ref a ∧ SqT K H a (ns.map V.int) := by
  obtain ⟨b, o, e, n, q, c, d⟩ := h
  exact ⟨b, e, .inl (.inr ⟨o, q⟩)⟩
/-- ("groups", such a tuple, a datum) -/
def Told3 (z : Str) (ns : List Int) (x : PyData) (M : List Addr) (H : Hp) (v : V) : Prop := ∃ (a : Addr) (u w : V), v = .ref a ∧ a ∉ M ∧ H a = some (.tup [.str z, u, w]) ∧ TupI ns M H u ∧ Rp M H w x
/-- of such slots: their type, their length -/
def TupW (φ : List Addr → Hp → V → Prop) (n : Nat) : Prop := ∀ M H v, φ M H v → ∃ (a : Addr) (xs : List V), v = .ref a ∧ xs.length = n ∧ (H a = some (.tup xs) ∨ ∃ o, H a = some (.frz o (.tup xs)))
theorem TupI.tup (ns : List Int) : TupW (TupI ns) ns.length := fun M H v ⟨b, o, e, n, q, c, d⟩ => ⟨b, _, e, by simp, .inr ⟨o, q⟩⟩
theorem Told3.tup (z : Str) (ns : List Int) (x : PyData) : TupW (Told3 z ns x) 3 := fun M H v ⟨a, u, w, e, n, q, hu, hw⟩ => ⟨a, _, e, rfl, .inl q⟩
end
end Hc

namespace Hc
open PySem PySem.Spec PyProof.Rows L2
/-! ### texts -/
/-- f"..." -/
def tJd (ts : List TE) : TE := fun σ H Q => tJs ts Str.empty σ H fun z H1 => Q (.str z) H1
theorem pe_fs {X : Cx} {v1 v2 : Expr} {rest : List Expr} {ts : List TE} {pos : Pos} (h : PJ X (v1 :: v2 :: rest) ts) : PE X (.JoinedStr (v1 :: v2 :: rest) pos) (tJd ts) := pe_joined h
/-- whole.split(mark) -/
def rSpl : V → List V → Hp → VK → Prop := fun v ws H Q => ∃ whole mark : Str, v = .str whole ∧ ws = [.str mark] ∧ mark.length ≠ 0 ∧ whole.length ≤ 1000000 ∧ ∀ l, H l = none → Q (.ref l) (upd H l (.lst ((Txt.split whole mark).map V.str)))
theorem pe_spl {X : Cx} {o e : Expr} {to te : TE} {apos pos : Pos} (ho : PE X o to) (he : PE X e te) (hs : starEach [e] X.env = [(false, eval e X.env)] := by rfl) (hbase : attributeBase o "split" X.env (eval o X.env) = eval o X.env := by rfl) (hline : (apos.endLine == pos.line) = true := by rfl) :
    PE X (.Call (.Attribute o "split" apos) [e] [] pos) (tM1 rSpl to te) :=
  pe_m1 PySem.F.slot_str_split PySem.F.type_str_split (fun pn s σ H x xs v us Q I rx rs ⟨w, m, e1, e2, n0, hz, q⟩ => mt_split pn s σ H x xs v us Q I rx rs ⟨w, m, e1, e2, by simpa using n0, Nat.le_trans (Nat.add_le_add_right hz 2) (by decide), fun p hp => q p hp⟩) ho he hs hbase hline
/-- whole.partition(mark) -/
def rPart : V → List V → Hp → VK → Prop := fun v ws H Q => ∃ whole mark : Str, v = .str whole ∧ ws = [.str mark] ∧ mark.length ≠ 0 ∧ whole.length ≤ 1000000 ∧ ∀ l, H l = none → Q (.ref l) (upd H l (.tup [.str (Txt.partition whole mark).1, .str (Txt.partition whole mark).2.1, .str (Txt.partition whole mark).2.2]))
theorem pe_prt {X : Cx} {o e : Expr} {to te : TE} {apos pos : Pos} (ho : PE X o to) (he : PE X e te) (hs : starEach [e] X.env = [(false, eval e X.env)] := by rfl) (hbase : attributeBase o "partition" X.env (eval o X.env) = eval o X.env := by rfl) (hline : (apos.endLine == pos.line) = true := by rfl) :
    PE X (.Call (.Attribute o "partition" apos) [e] [] pos) (tM1 rPart to te) :=
  pe_m1 PySem.F.slot_str_partition PySem.F.type_str_partition (fun pn s σ H x xs v us Q I rx rs ⟨w, m, e1, e2, n0, hz, q⟩ => mt_partition pn s σ H x xs v us Q I rx rs ⟨w, m, e1, e2, by simpa using n0, Nat.le_trans hz (by decide), fun p hp => q p hp⟩) ho he hs hbase hline
/-- whole.removeprefix(mark) -/
def rPre : V → List V → Hp → VK → Prop := fun v ws H Q => ∃ whole mark : Str, v = .str whole ∧ ws = [.str mark] ∧ whole.length ≤ 1000000 ∧ Q (.str (Txt.removeprefix whole mark)) H
theorem pe_pre {X : Cx} {o e : Expr} {to te : TE} {apos pos : Pos} (ho : PE X o to) (he : PE X e te) (hs : starEach [e] X.env = [(false, eval e X.env)] := by rfl) (hbase : attributeBase o "removeprefix" X.env (eval o X.env) = eval o X.env := by rfl) (hline : (apos.endLine == pos.line) = true := by rfl) :
    PE X (.Call (.Attribute o "removeprefix" apos) [e] [] pos) (tM1 rPre to te) :=
  pe_m1 PySem.F.slot_str_removeprefix PySem.F.type_str_removeprefix (fun pn s σ H x xs v us Q I rx rs ⟨w, m, e1, e2, hz, q⟩ => mt_removeprefix pn s σ H x xs v us Q I rx rs ⟨w, m, e1, e2, Nat.le_trans hz (by decide), q⟩) ho he hs hbase hline
/-- what is asked of a text alone -/
def rAsk (g : Str → Bool) : V → List V → Hp → VK → Prop := fun v ws H Q => ∃ whole : Str, v = .str whole ∧ ws = [] ∧ Q (.bl (g whole)) H
theorem pe_ascii {X : Cx} {o : Expr} {to : TE} {apos pos : Pos} (ho : PE X o to) (hbase : attributeBase o "isascii" X.env (eval o X.env) = eval o X.env := by rfl) (hline : (apos.endLine == pos.line) = true := by rfl) : PE X (.Call (.Attribute o "isascii" apos) [] [] pos) (tM0 (rAsk Txt.isascii) to) :=
  pe_m0 PySem.F.slot_str_isascii PySem.F.type_str_isascii (fun pn s σ H x xs v us Q I rx rs ⟨w, e1, e2, q⟩ => mt_isascii pn s σ H x xs v us Q I rx rs ⟨w, e1, e2, trivial, q⟩) ho hbase hline
theorem pe_digit {X : Cx} {o : Expr} {to : TE} {apos pos : Pos} (ho : PE X o to) (hbase : attributeBase o "isdigit" X.env (eval o X.env) = eval o X.env := by rfl) (hline : (apos.endLine == pos.line) = true := by rfl) : PE X (.Call (.Attribute o "isdigit" apos) [] [] pos) (tM0 (rAsk Txt.isdigit) to) :=
  pe_m0 PySem.F.slot_str_isdigit PySem.F.type_str_isdigit (fun pn s σ H x xs v us Q I rx rs ⟨w, e1, e2, q⟩ => mt_isdigit pn s σ H x xs v us Q I rx rs ⟨w, e1, e2, trivial, q⟩) ho hbase hline
/-- int(text) -/
def rIntS : List V → Hp → VK → Prop := fun ws H Q => ∃ (word : Str) (k : Int), ws = [.str word] ∧ word.length ≤ 640 ∧ PySem.intText? word = some k ∧ Q (.int k) H
theorem cr_intS {X : Cx} : CallR X (.type "int") rIntS := fun pn s σ H xs us Q I r ⟨w, k, e, hz, ek, q⟩ => call_int_str pn s σ H xs us Q I r ⟨w, k, e, ek, hz, q⟩
/-- len(text) -/
def rLenS : List V → Hp → VK → Prop := fun ws H Q => ∃ word : Str, ws = [.str word] ∧ word.length ≤ 1000000 ∧ Q (.int word.length) H
theorem cr_lenS {X : Cx} : CallR X (.builtin "len") rLenS := fun pn s σ H xs us Q I r ⟨w, e, hz, q⟩ => call_len_str pn s σ H xs us Q I r ⟨w, e, Nat.le_trans hz (by decide), q⟩
section
variable {K : PySem.W.Frag} {te ta tb tc tl : TE} {tt : TT} {tA : TA} {ds : List SD} {ms : List MD} {R : RS} {P : Po} {ts : List TE} {acc : Str}
def EJ (K : PySem.W.Frag) (ts : List TE) (acc : Str) (ds : List SD) (ms : List MD) (R : Str → List MD → Prop) : Prop :=
  ∀ (L M : List Addr) (σ : L2.St) (H : Hp), Sl K L M σ H ds → At L M ms H → ∀ Q : Str → Hp → Prop, (∀ z H' ms', Wk L H H' → At L M ms' H' → R z ms' → Q z H') → tJs ts acc σ H Q
theorem ej_nil {R : Str → List MD → Prop} (r : R acc ms) : EJ K [] acc ds ms R := fun L M σ H hS hA Q q => q acc H ms (Wk.refl L H) hA r
theorem ej_cons {t : TE} {R : Str → List MD → Prop} (h : E K t ds ms fun s ms1 => ∃ y : Str, s = .d (.str y) ∧ (acc ++ y).length ≤ sizeLine ∧ EJ K ts (acc ++ y) ds ms1 R) : EJ K (t :: ts) acc ds ms R := fun L M σ H hS hA Q q =>
  h L M σ H hS hA _ fun s v H1 ms1 w1 o1 ⟨y, e, hz, h1⟩ => by
    subst e
    obtain ⟨a1, z⟩ := o1
    cases z
    exact ⟨y, rfl, hz, h1 L M σ H1 (hS.mono hA w1) a1 Q fun z H2 ms2 w2 a2 r => q z H2 ms2 (w1.trans w2) a2 r⟩
theorem e_fs (h : EJ K ts Str.empty ds ms fun z ms1 => R (.d (.str z)) ms1) : E K (tJd ts) ds ms R := fun L M σ H hS hA Q q =>
  h L M σ H hS hA _ fun z H1 ms1 w1 a1 r => q (.d (.str z)) _ H1 ms1 w1 ⟨a1, .str z⟩ r
theorem e_fmtS (h : E K te ds ms fun s ms1 => ∃ y : Str, s = .d (.str y) ∧ y.length ≤ sizeLine ∧ R (.d (.str y)) ms1) : E K (tFmt te) ds ms R := fun L M σ H hS hA Q q =>
  h L M σ H hS hA _ fun s v H1 ms1 w1 o1 ⟨y, e, hz, r⟩ => by
    subst e
    obtain ⟨a1, z⟩ := o1
    cases z
    exact .inl ⟨y, rfl, hz, q (.d (.str y)) _ H1 ms1 w1 ⟨a1, .str y⟩ r⟩
theorem e_fmtI (h : E K te ds ms fun s ms1 => ∃ i : Int, s = .d (.int i) ∧ i.natAbs.log2 < 1920 ∧ R (.d (.str (toString i))) ms1) : E K (tFmt te) ds ms R := fun L M σ H hS hA Q q =>
  h L M σ H hS hA _ fun s v H1 ms1 w1 o1 ⟨i, e, hz, r⟩ => by
    subst e
    obtain ⟨a1, z⟩ := o1
    cases z
    exact .inr ⟨i, rfl, hz, q (.d (.str _)) _ H1 ms1 w1 ⟨a1, .str _⟩ r⟩
theorem RpA.strs {L : List Addr} {H : Hp} : ∀ zs : List Str, RpA L H (zs.map V.str) (zs.map PyData.str)
  | [] => .nil
  | z :: r => .cons (.str z) (RpA.strs r)
theorem e_spl (h : E K ta ds ms fun s ms1 => ∃ a : Str, s = .d (.str a) ∧ E K te ds ms1 fun s2 ms2 => ∃ b : Str, s2 = .d (.str b) ∧ b.length ≠ 0 ∧ a.length ≤ 1000000 ∧ R (.f ((Txt.split a b).map .str)) ms2) : E K (tM1 rSpl ta te) ds ms R := fun L M σ H hS hA Q q =>
  h L M σ H hS hA _ fun s v H1 ms1 w1 o1 ⟨a, e, h1⟩ => by
    subst e
    obtain ⟨a1, z⟩ := o1
    cases z
    refine ⟨⟨a, rfl⟩, ?_⟩
    refine h1 L M σ H1 (hS.mono hA w1) a1 _ fun s2 v2 H2 ms2 w2 o2 ⟨b, e2, n0, hz, r⟩ => ?_
    subst e2
    obtain ⟨a2, z2⟩ := o2
    cases z2
    exact ⟨a, b, rfl, rfl, n0, hz, fun l hl => q (.f _) _ _ ms2 ((w1.trans w2).trans (Wk.new hl)) (out_new a2 (w1.trans w2) hl (RpA.strs _)) r⟩
theorem e_prt (h : E K ta ds ms fun s ms1 => ∃ a : Str, s = .d (.str a) ∧ E K te ds ms1 fun s2 ms2 => ∃ b : Str, s2 = .d (.str b) ∧ b.length ≠ 0 ∧ a.length ≤ 1000000 ∧ R (.d (.tuple [.str (Txt.partition a b).1, .str (Txt.partition a b).2.1, .str (Txt.partition a b).2.2])) ms2) : E K (tM1 rPart ta te) ds ms R := fun L M σ H hS hA Q q =>
  h L M σ H hS hA _ fun s v H1 ms1 w1 o1 ⟨a, e, h1⟩ => by
    subst e
    obtain ⟨a1, z⟩ := o1
    cases z
    refine ⟨⟨a, rfl⟩, ?_⟩
    refine h1 L M σ H1 (hS.mono hA w1) a1 _ fun s2 v2 H2 ms2 w2 o2 ⟨b, e2, n0, hz, r⟩ => ?_
    subst e2
    obtain ⟨a2, z2⟩ := o2
    cases z2
    exact ⟨a, b, rfl, rfl, n0, hz, fun l hl => q (.d _) _ _ ms2 ((w1.trans w2).trans (Wk.new hl)) ⟨a2.new hl, .tup (a2.fresh hl) upd_same (.cons (.str _) (.cons (.str _) (.cons (.str _) .nil)))⟩ r⟩
theorem e_pre (h : E K ta ds ms fun s ms1 => ∃ a : Str, s = .d (.str a) ∧ E K te ds ms1 fun s2 ms2 => ∃ b : Str, s2 = .d (.str b) ∧ a.length ≤ 1000000 ∧ R (.d (.str (Txt.removeprefix a b))) ms2) : E K (tM1 rPre ta te) ds ms R := fun L M σ H hS hA Q q =>
  h L M σ H hS hA _ fun s v H1 ms1 w1 o1 ⟨a, e, h1⟩ => by
    subst e
    obtain ⟨a1, z⟩ := o1
    cases z
    refine ⟨⟨a, rfl⟩, ?_⟩
    refine h1 L M σ H1 (hS.mono hA w1) a1 _ fun s2 v2 H2 ms2 w2 o2 ⟨b, e2, hz, r⟩ => ?_
    subst e2
    obtain ⟨a2, z2⟩ := o2
    cases z2
    exact ⟨a, b, rfl, rfl, hz, q (.d (.str _)) _ H2 ms2 (w1.trans w2) ⟨a2, .str _⟩ r⟩
theorem e_ask {g : Str → Bool} (h : E K ta ds ms fun s ms1 => ∃ a : Str, s = .d (.str a) ∧ R (.d (.bool (g a))) ms1) : E K (tM0 (rAsk g) ta) ds ms R := fun L M σ H hS hA Q q =>
  h L M σ H hS hA _ fun s v H1 ms1 w1 o1 ⟨a, e, r⟩ => by
    subst e
    obtain ⟨a1, z⟩ := o1
    cases z
    exact ⟨⟨a, rfl⟩, a, rfl, rfl, q (.d (.bool _)) _ H1 ms1 w1 ⟨a1, .bl _⟩ r⟩
theorem rc_intS {as : List SD} (h : ∃ (a : Str) (k : Int), as = [.d (.str a)] ∧ a.length ≤ 640 ∧ PySem.intText? a = some k ∧ R (.d (.int k)) ms) : RC K rIntS as ms R := fun L M H vs hA ha Q q => by
  obtain ⟨a, k, rfl, hz, ek, r⟩ := h
  obtain ⟨v, t, rfl, hv, rfl⟩ := ha
  cases hv
  exact ⟨a, k, rfl, hz, ek, q (.d (.int k)) _ H ms (Wk.refl L H) ⟨hA, .int k⟩ r⟩
theorem rc_lenS {as : List SD} (h : ∃ a : Str, as = [.d (.str a)] ∧ a.length ≤ 1000000 ∧ R (.d (.int a.length)) ms) : RC K rLenS as ms R := fun L M H vs hA ha Q q => by
  obtain ⟨a, rfl, hz, r⟩ := h
  obtain ⟨v, t, rfl, hv, rfl⟩ := ha
  cases hv
  exact ⟨a, rfl, hz, q (.d (.int _)) _ H ms (Wk.refl L H) ⟨hA, .int _⟩ r⟩
theorem rr_addS {a b : SD} (h : ∃ x y : Str, a = .d (.str x) ∧ b = .d (.str y) ∧ x.length + y.length ≤ sizeLine ∧ R (.d (.str (x ++ y))) ms) : RR K rAddStr a b ms R := fun L M H u v hA ha hb Q q => by
  obtain ⟨x, y, rfl, rfl, hz, r⟩ := h
  cases ha
  cases hb
  exact ⟨x, y, rfl, rfl, hz, q (.d (.str _)) _ H ms (Wk.refl L H) ⟨hA, .str _⟩ r⟩
theorem rr_eqT {a b : SD} (h : ∃ x y : Str, a = .d (.str x) ∧ b = .d (.str y) ∧ R (.d (.bool (decide (x = y)))) ms) : RR K rEq a b ms R := fun L M H u v hA ha hb Q q => by
  obtain ⟨x, y, rfl, rfl, r⟩ := h
  have ha : Rp M H u (.str x) := ha
  have hb : Rp M H v (.str y) := hb
  cases ha
  cases hb
  refine ⟨rfl, ?_⟩
  rw [show decide (V.str x = V.str y) = decide (x = y) by simp]
  exact q (.d (.bool _)) _ H ms (Wk.refl L H) ⟨hA, .bl _⟩ r
/-- the truth of a text -/
theorem et_truS {RB : Bool → List MD → Prop} (h : E K te ds ms fun s ms1 => ∃ a : Str, s = .d (.str a) ∧ a.length ≤ 1000000 ∧ RB (decide (a.length ≠ 0)) ms1) : ET K (tTru K te) ds ms RB := fun L M σ H hS hA Q q =>
  h L M σ H hS hA _ fun s v H1 ms1 w1 o1 ⟨a, e, hz, r⟩ => by
    subst e
    obtain ⟨a1, z⟩ := o1
    cases z
    exact ⟨_, ⟨Nat.le_trans hz (by decide), by by_cases c : a.length = 0 <;> simp [c]⟩, q _ H1 ms1 w1 a1 r⟩
end
end Hc

namespace Hc
open PySem PySem.Spec PyProof.Rows L2
/-! ### expressions that may raise: errors that pass through a def -/
abbrev WO (X : XK) : WX := fun cls d _ H => X cls d H
section
variable {K : PySem.W.Frag} {C : Addr} {te : TE} {ue ua ub : XK → TE} {tA : TA} {uA : XK → TA} {ds : List SD} {ms : List MD} {R : RS} {P : Po} {Y : Addr → List MD → Prop}
section
variable {K : PySem.W.Frag} {uA : XK → TA} {ds : List SD} {ms : List MD} {P : Po} {Y : Addr → List MD → Prop}
end
/-! ### d.get(key, other) of a dict whose keys are rows -/
theorem Rt.not (k : List Key) {M : List Addr} {H : Hp} : ∀ {m : List (List Key × PyData)} {kvs : List (List Key × V)}, Rt M H kvs m → valT m k = none → valV kvs k = none
  | _, _, .nil, _ => rfl
  | (k1, d1) :: m, (_, v1) :: kvs, .cons a b, e => by
    by_cases q : k1 = k
    · simp [valT, q] at e
    · have e1 : valT ((k1, d1) :: m) k = valT m k := by simp [valT, List.find?_cons, q]
      rw [e1] at e
      have := Rt.not k b e
      unfold valV at this ⊢
      rw [List.find?_cons, show (decide (k1 = k)) = false from decide_eq_false q]
      exact this
end
end Hc

namespace Hc
open PySem PySem.Spec PyProof.Rows L2
/-! ### try with one clause that names nothing, whose suite raises nothing -/
section
variable {K : PySem.W.Frag} {C D : Addr} {tA : TA} {ds : List SD} {ms : List MD} {P : Po} {t : TS}
def tTryO (K : PySem.W.Frag) (D : Addr) (tb : WX → TS) (t : TS) : TS := fun E σ H => tb (wOnly K (.ref D) (fun _ _ _ => t) (fun _ _ _ _ => False) E) E σ H
theorem s_tryOA {j : Nat} {Φ : PhX} (hm : PySem.W.exmOne K (.ref C) (.ref D) = some true) (h : EA K tA ds ms fun as ms1 => Φ as ms1 (fun s ms2 => P.nx (ds.set j (dd s)) ms2) fun ms2 => S K t ds ms2 P) :
    S K (tTryO K D (fun W => tAsg (tCallS (SpX K C Φ) (WE W) tA) (gName j)) t) ds ms P := fun L M σ H hS hA E n r b c =>
  h L M σ H hS hA _ fun as vs H1 ms1 w1 a1 o1 h1 =>
    ⟨L, M, ms1, as, _, _, a1, o1, h1, fun s v H2 ms2 w2 o2 r2 => n _ H2 _ ms2 (w1.trans w2) ((hS.mono hA (w1.trans w2)).set j o2.sl) o2.at r2,
      fun H2 ms2 w2 a2 y => ⟨true, hm, fun _ a ha => y L M _ H2 (hS.mono hA (w1.trans w2)) a2 E (n.on (w1.trans w2)) (r.on a2 (w1.trans w2)) (b.on (w1.trans w2)) (c.on (w1.trans w2)), nofun⟩⟩
end
end Hc

namespace Hc
open PySem PySem.Spec PyProof.Rows L2
/-! ### except D: raise C('..') from None. What the body calls tells its errors by L2N -/
section
variable {K : PySem.W.Frag} {C D B : Addr} {tA : TA} {ds : List SD} {ms : List MD} {P : Po} {Y : List MD → Prop}
/-- a def whose errors have no context -/
structure KnN (Pg : Program) (w : World) (K : PySem.W.Frag) (mg : Str → Option Value) (base : Heap) (x : Str) (lv : Nat) (ps : List Str) (C : Addr) (Φ : PhX) : Prop where
  ex : ∃ f fd, FnOk Pg w K mg base (L2N.CX Pg w) lv f fd ps (SpX K C Φ) ∧ mg x = some (.ref f) ∧ PySem.W.keepIn K (.ref f) = true ∧ Binds K fd ps []
theorem pe_callN {X : Cx} {x : Str} {lv : Nat} {ps : List Str} {Φ : PhX} {W : WX} {e : Expr} {es : List Expr} {t : TA} {p pos : Pos} (h : KnN X.prog X.w X.K X.mg X.base x lv ps C Φ) (hr : Room lv X.A) (hg : Gl X x) (tk : L2N.Takes X W) (ha : PA X (e :: es) t)
    (hdb : (x == ("__debug__" : Str)) = false := by decide) (he : starEach (e :: es) X.env = (false, eval e X.env) :: starEach es X.env := by rfl) (hpl : (backTo pos (starEach es X.env)).any (·.1) = false := by rfl) :
    PE X (.Call (.Name x p) (e :: es) [] pos) (tCallS (SpX X.K C Φ) (WE W) t) := by
  obtain ⟨f, fd, known, named, kept, binds⟩ := h.ex
  exact pe_callS known hr hg named kept binds (L2N.passAt tk) ha hdb he hpl
theorem okN_of {Pg : Program} {w : World} {mg : Str → Option Value} {base : Heap} {x qual : Str} {st : Stmt} {f : Addr} {fd : FuncData} {N ps : List Str} {k : Nat} {Φ : PhX} (F : Fun K x qual st f fd) (Sc : FnScope N ps (defScope st)) (hl : ∀ as ms R Y, Φ as ms R Y → as.length = ps.length) (hpn : ps.length ≤ N.length)
    (t : XK → TS) (hbody : ∀ (cdv : Value) (A : Around) (outer : List Env) (s : Shared) (H : Hp) (E : XK), Room k (A.deeper (envOfC qual (defScope st) s.heap.objs.size f cdv)) → PSs (cxOf (L2N.CX Pg w) Pg w K mg base N qual (defScope st) f cdv A outer s H E) (defBody st) (t E))
    (h2 : ∀ as ms R Y, Φ as ms R Y → SX K C t (as ++ List.replicate (N.length - as.length) .u) ms (fin R) Y) : FnOk Pg w K mg base (L2N.CX Pg w) (k + 1) f fd ps (SpX K C Φ) := by
  obtain ⟨a1, a2, a3, a4, a5, a6, a7, a8, a9, made, found, code⟩ := F.ex
  subst made
  refine fn_of found code Sc (fun vs H Q E h => ?_) fun A outer s H vs Q E hr h => ⟨t E, hbody a7 A outer s H E hr, ?_⟩
  · obtain ⟨L, M, ms, as, R, Y, hA, ho, hp, q⟩ := h
    rw [← ho.len]
    exact hl as ms R Y hp
  · obtain ⟨L, M, ms, as, R, Y, hA, ho, hp, q, x⟩ := h
    exact h2 as ms R Y hp L M _ H (Sl.start ho (by rw [hl as ms R Y hp]; exact hpn)) hA _ E (fun σ' H' ds' ms' w s a r => q (.d .none) .non H' ms' w ⟨a, .non⟩ r) (fun s v H' ms' w o r => q s v H' ms' w o r) (fun _ _ _ _ _ _ _ z => z.elim) (fun _ _ _ _ _ _ _ z => z.elim) x
/-- raise C('..'), where nothing is handled -/
theorem ps_raiseN {X : Cx} {x m : Str} {j : Nat} {p p2 pos pos' : Pos} {E1 : Value → Shared → Prop} {Z : XK} (er : Er X.K X.mg x C) (calm : X.calm = true) (own : X.stack = X.env :: X.outer) (fr : X.env.frame = some X.env.locals) (ex0 : X.ex = [])
    (out : X.xe = fun e s' => wpAny (model X.prog X.w) X.A (leaving X.env e) (fun _ s'' => L2N.CX X.prog X.w X.outer X.H_0 X.s_0 Z e s'') E1 s') (hg : Gl X x) (hdb : (x == ("__debug__" : Str)) = false := by decide) :
    PS X (.Raise (some (.Call (.Name x p) [.Constant (.str m) j p2] [] pos)) none pos') (tRs C Z) :=
  L2N.ps_raise calm (L2N.takes_of own fr ex0 out) (L2N.pmk_own PySem.F.excBase_ValueError er.x er.g er.k (raises_own er.b er.t) hg hdb)
/-- C('..') in an except suite -/
theorem pmk_hot {X : Cx} {x m : Str} {j : Nat} {p p2 pos : Pos} (er : Er X.K X.mg x C) (hg : Gl X x) (hdb : (x == ("__debug__" : Str)) = false := by decide) :
    L2H.PMk5 X (.Call (.Name x p) [.Constant (.str m) j p2] [] pos) (fun _ H Q => Q (.ref C) none H) := by
  intro pins s σ H Q I h
  have given := (pa_cons pe_str pa_nil : PA X [Expr.Constant (.str m) j p2] (tCons (tC (.str m)) tNil)).run pos pins s σ H (fun vs H' => vs = [.str m] ∧ H' = H) I ⟨rfl, rfl⟩
  refine wpAny_Call_Name_kw (ld_glob I hg er.g (PySem.W.callWith_K (h₀ := X.base) I.ok.mod.kin er.k (thn given ?_)) hdb)
  rintro us ⟨hp, gs, dr, tk, os⟩ ⟨vs, H', I', same, rfl, rfl⟩
  obtain ⟨u, rfl, _⟩ := Vals.one same
  have seen := exc_obj I'.kIn er.x
  obtain ⟨_, _, _, _, _, _, _, _, _, _, _, _, _, _, _, _, _, there, names, bare, tail⟩ := seen
  exact ⟨I'.kIn, wpAny_call_exc_subT PySem.F.excBase_ValueError tail there names bare (fun h' e made => L2H.mk_of5 I' made (raises_own er.b er.t) h (I'.hok.gone made.new)) (show 1 ≤ sizeLine by decide)⟩
/-- try: x = f(..) / except D: raise B('..') from None -/
def tTryF (K : PySem.W.Frag) (D B : Addr) (tb : WX → TS) (Z : XK) : TS := fun E σ H => tb (wOnly K (.ref D) (fun _ _ _ => tRs B Z) (WO Z) E) E σ H
theorem sx_tryF {j : Nat} {Φ : PhX} (hm : PySem.W.exmOne K (.ref C) (.ref D) = some true) (h : EA K tA ds ms fun as ms1 => Φ as ms1 (fun s ms2 => P.nx (ds.set j (dd s)) ms2) Y) :
    SX K B (fun Z => tTryF K D B (fun W => tAsg (tCallS (SpX K C Φ) (WE W) tA) (gName j)) Z) ds ms P Y := fun L M σ H hS hA E Z n r b c x =>
  h L M σ H hS hA _ fun as vs H1 ms1 w1 a1 o1 h1 =>
    ⟨L, M, ms1, as, _, _, a1, o1, h1, fun s v H2 ms2 w2 o2 r2 => n _ H2 _ ms2 (w1.trans w2) ((hS.mono hA (w1.trans w2)).set j o2.sl) o2.at r2,
      fun H2 ms2 w2 a2 y => ⟨true, hm, fun _ a ha => x H2 ms2 (w1.trans w2) a2 y, nofun⟩⟩
end
/-! ### parts of a text -/
section
variable {K : PySem.W.Frag} {te : TE} {to th : TO} {ds : List SD} {ms : List MD} {R : RS}
theorem e_slS (h : E K te ds ms fun s ms1 => EO K to ds ms1 fun lo ms2 => EO K th ds ms2 fun hi ms3 => ∃ a : Str, s = .d (.str a) ∧ a.length ≤ 1000000 ∧ R (.d (.str (cutS a lo hi))) ms3) : E K (tSl rSlS te to th) ds ms R := fun L M σ H hS hA Q q =>
  h L M σ H hS hA _ fun s v H1 ms1 w1 o1 h1 => h1 L M σ H1 (hS.mono hA w1) o1.at _ fun lo H2 ms2 w2 a2 h2 => h2 L M σ H2 ((hS.mono hA w1).mono o1.at w2) a2 _ fun hi H3 ms3 w3 a3 ⟨a, e, hz, r⟩ => by
    subst e
    obtain ⟨_, z⟩ := o1
    cases z
    exact ⟨a, rfl, Nat.le_trans hz (by decide), q (.d (.str _)) _ H3 ms3 ((w1.trans w2).trans w3) ⟨a3, .str _⟩ r⟩
/-- t[i] of a text -/
theorem rr_ixS {a b : SD} (h : ∃ (z : Str) (i : Int) (c : Nat), a = .d (.str z) ∧ b = .d (.int i) ∧ z.length ≤ 1000000 ∧ atI z.cps.toList i = some c ∧ R (.d (.str ⟨#[c]⟩)) ms) : RR K (rIx K) a b ms R := fun L M H u v hA ha hb Q q => by
  obtain ⟨z, i, c, rfl, rfl, hz, e, r⟩ := h
  cases ha
  cases hb
  exact .inr (.inr ⟨z, i, c, rfl, rfl, Nat.le_trans hz (by decide), e, q (.d (.str _)) _ H ms (Wk.refl L H) ⟨hA, .str _⟩ r⟩)
/-- (a, b) <= (c, d) -/
theorem rr_le2 {x y : SD} (h : ∃ a b c d : Int, x = .d (.tuple [.int a, .int b]) ∧ y = .d (.tuple [.int c, .int d]) ∧ R (.d (.bool (decide (a < c ∨ (a = c ∧ b ≤ d))))) ms) : RR K (rLeT K) x y ms R := fun L M H u v hA ha hb Q q => by
  obtain ⟨a, b, c, d, rfl, rfl, r⟩ := h
  obtain ⟨p, xs, rfl, e1, r1⟩ := Sv.tup (ms := ms) (.d (.tuple [.int a, .int b])) ha
  obtain ⟨p2, ys, rfl, e2, r2⟩ := Sv.tup (ms := ms) (.d (.tuple [.int c, .int d])) hb
  have i1 := RpA.ints_inv (ns := [a, b]) r1
  have i2 := RpA.ints_inv (ns := [c, d]) r2
  subst i1 i2
  refine ⟨p, p2, [a, b], [c, d], rfl, rfl, SqT.of e1, SqT.of e2, ?_⟩
  have e : Ob.lexAt (fun j => decide ([a, b].getD j 0 = [c, d].getD j 0)) (fun j => decide ([a, b].getD j 0 ≤ [c, d].getD j 0)) (decide ([a, b].length ≤ [c, d].length)) 0 (min [a, b].length [c, d].length) = decide (a < c ∨ (a = c ∧ b ≤ d)) := by
    simp only [List.length_cons, List.length_nil, Ob.lexAt]
    by_cases h1 : a = c
    · subst h1
      by_cases h2 : b = d <;> simp [Ob.lexAt, h2] <;> omega
    · simp [Ob.lexAt, h1]
      omega
  rw [e]
  exact q (.d (.bool _)) _ H ms (Wk.refl L H) ⟨hA, .bl _⟩ r
/-- '9' * n -/
def timesS (z : Str) (n : Nat) : Str := ⟨(List.replicate n z.cps).foldl (· ++ ·) #[]⟩
def rRepS : R2 := fun x y H Q => ∃ (z : Str) (n : Nat), x = .str z ∧ y = .int n ∧ 2 ≤ n ∧ n ≤ 10000 ∧ z.length = 1 ∧ Q (.str (timesS z n)) H
theorem times_fold (c : Nat) : ∀ (n : Nat) (acc : Array Nat), ((List.replicate n #[c]).foldl (· ++ ·) acc).toList = acc.toList ++ List.replicate n c
  | 0, acc => by simp
  | n + 1, acc => by
    rw [List.replicate_succ, List.foldl_cons, times_fold c n, List.replicate_succ]
    simp
theorem tl_times (c n : Nat) : TL.tl (timesS ⟨#[c]⟩ n) = List.replicate n c := by
  show ((List.replicate n #[c]).foldl (· ++ ·) #[]).toList = _
  rw [times_fold]
  simp
theorem op_repS {X : Cx} : OpR X (binaryOp .Mult) rRepS := by
  rintro pins s σ H x y v u Q I rx ry ⟨z, n, rfl, rfl, h2, hz, h1, q⟩
  obtain ⟨t, rfl⟩ := rx
  obtain ⟨t2, rfl⟩ := ry
  obtain ⟨c, hc⟩ : ∃ c, z.cps = #[c] := by
    have e : z.cps.size = 1 := h1
    exact ⟨z.cps[0], Array.ext (by simp [e]) (fun i a b => by simp at b; subst b; rfl)⟩
  have len : (timesS z n).length = n := by
    obtain ⟨l⟩ := z
    cases hc
    rw [TL.len_tl, tl_times, List.length_replicate]
  refine P.mul_str ?_ (fun _ _ => ?_) (fun _ _ => ?_) ?_
  · rw [decide_eq_false (by omega), decide_eq_false (by omega)]
    rfl
  · rw [h1]
    have : (1 : Int) ≤ (2 ^ 63 - 1) / (n : Int) := Int.le_ediv_of_mul_le (by omega) (by omega)
    show ¬ ((1 : Nat) : Int) > _
    omega
  · rw [h1, Nat.one_mul, Int.toNat_natCast]
    unfold Builtin.Str.tooLong
    exact decide_eq_false (by have : (10000 : Nat) ≤ sizeLine := by decide
                              omega)
  · rw [if_neg (by omega), if_neg (by rw [h1]; simp; omega), Int.toNat_natCast]
    exact ⟨by show (timesS z n).length ≤ sizeLine; rw [len]; exact Nat.le_trans hz (by decide), .str _, H, I.tok _, ⟨_, rfl⟩, q⟩
theorem rr_repS {a b : SD} (h : ∃ (z : Str) (n : Nat), a = .d (.str z) ∧ b = .d (.int n) ∧ 2 ≤ n ∧ n ≤ 10000 ∧ z.length = 1 ∧ R (.d (.str (timesS z n))) ms) : RR K rRepS a b ms R := fun L M H u v hA ha hb Q q => by
  obtain ⟨z, n, rfl, rfl, h2, hz, h1, r⟩ := h
  cases ha
  cases hb
  exact ⟨z, n, rfl, rfl, h2, hz, h1, q (.d (.str _)) _ H ms (Wk.refl L H) ⟨hA, .str _⟩ r⟩
/-- t.index(mark), where it is found -/
def rIdxS : V → List V → Hp → VK → Prop := fun v ws H Q => ∃ (whole mark : Str) (k : Nat), v = .str whole ∧ ws = [.str mark] ∧ Txt.index0 whole mark = some k ∧ Q (.int k) H
theorem pe_idxS {X : Cx} {o e : Expr} {to te : TE} {apos pos : Pos} (calm : X.calm = true) (ho : PE X o to) (he : PE X e te) (hs : starEach [e] X.env = [(false, eval e X.env)] := by rfl) (hbase : attributeBase o "index" X.env (eval o X.env) = eval o X.env := by rfl) (hline : (apos.endLine == pos.line) = true := by rfl) :
    PE X (.Call (.Attribute o "index" apos) [e] [] pos) (tM1 rIdxS to te) :=
  pe_m1 PySem.F.slot_str_index PySem.F.type_str_index (fun pn s σ H x xs v us Q I rx rs ⟨w, m, k, e1, e2, found, q⟩ => mt_indexX calm takes0 pn s σ H x xs v us Q I rx rs ⟨w, m, e1, e2, fun k2 e3 => by
    rw [found] at e3
    cases e3
    exact q, fun e3 => by
    rw [found] at e3
    cases e3⟩) ho he hs hbase hline
theorem e_idxS {ta : TE} (h : E K ta ds ms fun s ms1 => ∃ a : Str, s = .d (.str a) ∧ E K te ds ms1 fun s2 ms2 => ∃ (b : Str) (k : Nat), s2 = .d (.str b) ∧ Txt.index0 a b = some k ∧ R (.d (.int k)) ms2) : E K (tM1 rIdxS ta te) ds ms R := fun L M σ H hS hA Q q =>
  h L M σ H hS hA _ fun s v H1 ms1 w1 o1 ⟨a, e, h1⟩ => by
    subst e
    obtain ⟨a1, z⟩ := o1
    cases z
    refine ⟨⟨a, rfl⟩, ?_⟩
    refine h1 L M σ H1 (hS.mono hA w1) a1 _ fun s2 v2 H2 ms2 w2 o2 ⟨b, k, e2, found, r⟩ => ?_
    subst e2
    obtain ⟨a2, z2⟩ := o2
    cases z2
    exact ⟨a, b, k, rfl, rfl, found, q (.d (.int k)) _ H2 ms2 (w1.trans w2) ⟨a2, .int _⟩ r⟩
end
end Hc

namespace Hc
open PySem PySem.Spec PyProof.Rows L2
section
variable {K : PySem.W.Frag} {ds : List SD} {ms : List MD} {R : RS}
/-! ### an error that is kept is not None -/
theorem rr_isNh {a b : SD} {φ : Addr → HO} (h : a = .h φ ∧ b = .d .none ∧ R (.d (.bool false)) ms) : RR K rIsNn a b ms R := fun L M H u v hA ha hb Q q => by
  obtain ⟨rfl, rfl, r⟩ := h
  cases hb
  obtain ⟨p, rfl, _⟩ := ha
  exact ⟨rfl, q (.d (.bool _)) _ H ms (Wk.refl L H) ⟨hA, .bl _⟩ r⟩
end
end Hc

namespace K07
open PySem PySem.Spec PyProof.Rows L2 Hc
def topS (i : Nat) : Stmt := PySem.Challenge.pw_heavycut_k07_no_texts.main.body.getD i (.Pass ⟨0, 0, 0, 0⟩)
def blt : List Str := ["bool", "isinstance", "int", "tuple", "list", "len", "abs", "max", "min", "sorted", "zip", "str", "range", "ValueError"]
structure Cls (K : PySem.W.Frag) (mg : Str → Option Value) (C_CutError C_NoWeb C_NoText C_TooGreat : Addr) : Prop where
  g_CutError : mg "CutError" = some (.ref C_CutError)
  g_NoWeb : mg "NoWeb" = some (.ref C_NoWeb)
  g_NoText : mg "NoText" = some (.ref C_NoText)
  g_TooGreat : mg "TooGreat" = some (.ref C_TooGreat)
  er_NoText : Er K mg "NoText" C_NoText
  k_NoText_CutError : PySem.W.kitOne K (.ref C_NoText) (.ref C_CutError) = some true
  n_NoText_NoWeb : PySem.W.kitOne K (.ref C_NoText) (.ref C_NoWeb) = some false
  n_NoText_TooGreat : PySem.W.kitOne K (.ref C_NoText) (.ref C_TooGreat) = some false
  m_NoText : PySem.W.exmOne K (.ref C_NoText) (.ref C_CutError) = some true
  k_NoText_ValueError : PySem.W.kitOne K (.ref C_NoText) (.type "ValueError") = some true
  er_NoWeb : Er K mg "NoWeb" C_NoWeb
  k_NoWeb_CutError : PySem.W.kitOne K (.ref C_NoWeb) (.ref C_CutError) = some true
  n_NoWeb_NoText : PySem.W.kitOne K (.ref C_NoWeb) (.ref C_NoText) = some false
  n_NoWeb_TooGreat : PySem.W.kitOne K (.ref C_NoWeb) (.ref C_TooGreat) = some false
  m_NoWeb : PySem.W.exmOne K (.ref C_NoWeb) (.ref C_CutError) = some true
  k_NoWeb_ValueError : PySem.W.kitOne K (.ref C_NoWeb) (.type "ValueError") = some true
abbrev s_is_whole : Stmt := topS 6
theorem sc_is_whole : FnScope ["thing"] ["thing"] (defScope s_is_whole) := ⟨rfl, rfl, rfl, by decide +kernel, rfl, by decide +kernel, by decide +kernel⟩
abbrev s_is_row : Stmt := topS 7
theorem sc_is_row : FnScope ["thing"] ["thing"] (defScope s_is_row) := ⟨rfl, rfl, rfl, by decide +kernel, rfl, by decide +kernel, by decide +kernel⟩
abbrev s_is_triple : Stmt := topS 8
theorem sc_is_triple : FnScope ["thing"] ["thing"] (defScope s_is_triple) := ⟨rfl, rfl, rfl, by decide +kernel, rfl, by decide +kernel, by decide +kernel⟩
abbrev s_is_number_of : Stmt := topS 9
theorem sc_is_number_of : FnScope ["many", "thing"] ["many", "thing"] (defScope s_is_number_of) := ⟨rfl, rfl, rfl, by decide +kernel, rfl, by decide +kernel, by decide +kernel⟩
abbrev s_are_unlike_points : Stmt := topS 10
theorem sc_are_unlike_points : FnScope ["many", "one", "other"] ["many", "one", "other"] (defScope s_are_unlike_points) := ⟨rfl, rfl, rfl, by decide +kernel, rfl, by decide +kernel, by decide +kernel⟩
abbrev s_common_divisor : Stmt := topS 12
theorem sc_common_divisor : FnScope ["one", "other"] ["one", "other"] (defScope s_common_divisor) := ⟨rfl, rfl, rfl, by decide +kernel, rfl, by decide +kernel, by decide +kernel⟩
abbrev s_is_fraction : Stmt := topS 13
theorem sc_is_fraction : FnScope ["thing", "top", "bottom"] ["thing"] (defScope s_is_fraction) := ⟨rfl, rfl, rfl, by decide +kernel, rfl, by decide +kernel, by decide +kernel⟩
abbrev s_is_weight : Stmt := topS 19
theorem sc_is_weight : FnScope ["thing"] ["thing"] (defScope s_is_weight) := ⟨rfl, rfl, rfl, by decide +kernel, rfl, by decide +kernel, by decide +kernel⟩
abbrev s_told_tie : Stmt := topS 20
theorem sc_told_tie : FnScope ["many", "thing", "one", "other", "weight"] ["many", "thing"] (defScope s_told_tie) := ⟨rfl, rfl, rfl, by decide +kernel, rfl, by decide +kernel, by decide +kernel⟩
abbrev s_made_web : Stmt := topS 21
theorem sc_made_web : FnScope ["many", "ties", "told", "thing", "tie", "following"] ["many", "ties"] (defScope s_made_web) := ⟨rfl, rfl, rfl, by decide +kernel, rfl, by decide +kernel, by decide +kernel⟩
abbrev s_shown_weight : Stmt := topS 24
theorem sc_shown_weight : FnScope ["weight", "top", "bottom"] ["weight"] (defScope s_shown_weight) := ⟨rfl, rfl, rfl, by decide +kernel, rfl, by decide +kernel, by decide +kernel⟩
abbrev s_show_web : Stmt := topS 25
theorem sc_show_web : FnScope ["web", "many", "ties", "words", "one", "other", "weight"] ["web"] (defScope s_show_web) := ⟨rfl, rfl, rfl, by decide +kernel, rfl, by decide +kernel, by decide +kernel⟩
abbrev s_read_int : Stmt := topS 26
theorem sc_read_int : FnScope ["word", "digits"] ["word"] (defScope s_read_int) := ⟨rfl, rfl, rfl, by decide +kernel, rfl, by decide +kernel, by decide +kernel⟩
abbrev s_read_weight : Stmt := topS 27
theorem sc_read_weight : FnScope ["word", "top", "slash", "bottom"] ["word"] (defScope s_read_weight) := ⟨rfl, rfl, rfl, by decide +kernel, rfl, by decide +kernel, by decide +kernel⟩
abbrev s_read_tie : Stmt := topS 28
theorem sc_read_tie : FnScope ["word", "points", "sign", "weight", "one", "dash", "other"] ["word"] (defScope s_read_tie) := ⟨rfl, rfl, rfl, by decide +kernel, rfl, by decide +kernel, by decide +kernel⟩
abbrev s_read_web : Stmt := topS 29
theorem sc_read_web : FnScope ["text", "words", "web", "word"] ["text"] (defScope s_read_web) := ⟨rfl, rfl, rfl, by decide +kernel, rfl, by decide +kernel, by decide +kernel⟩
abbrev s__law_cell_at : Stmt := topS 31
theorem sc__law_cell_at : FnScope ["_law_script", "_law_k"] ["_law_script", "_law_k"] (defScope s__law_cell_at) := ⟨rfl, rfl, rfl, by decide +kernel, rfl, by decide +kernel, by decide +kernel⟩
abbrev s__law_stream : Stmt := topS 32
theorem sc__law_stream : FnScope ["_law_cell", "_law_many", "_law_digits", "_law_left", "_law_k", "_law_found", "_law_number", "_law_other"] ["_law_cell", "_law_many"] (defScope s__law_stream) := ⟨rfl, rfl, rfl, by decide +kernel, rfl, by decide +kernel, by decide +kernel⟩
abbrev s__law_take : Stmt := topS 33
theorem sc__law_take : FnScope ["_law_xs"] ["_law_xs"] (defScope s__law_take) := ⟨rfl, rfl, rfl, by decide +kernel, rfl, by decide +kernel, by decide +kernel⟩
abbrev s__law_reduced : Stmt := topS 34
theorem sc__law_reduced : FnScope ["_law_top", "_law_bottom", "_law_one", "_law_other"] ["_law_top", "_law_bottom"] (defScope s__law_reduced) := ⟨rfl, rfl, rfl, by decide +kernel, rfl, by decide +kernel, by decide +kernel⟩
abbrev s__law_weight : Stmt := topS 35
theorem sc__law_weight : FnScope ["_law_number", "_law_way", "_law_far"] ["_law_number"] (defScope s__law_weight) := ⟨rfl, rfl, rfl, by decide +kernel, rfl, by decide +kernel, by decide +kernel⟩
abbrev s__law_web : Stmt := topS 36
theorem sc__law_web : FnScope ["_law_xs", "_law_most", "_law_many", "_law_share", "_law_ties", "_law_a", "_law_b", "_law_number"] ["_law_xs", "_law_most"] (defScope s__law_web) := ⟨rfl, rfl, rfl, by decide +kernel, rfl, by decide +kernel, by decide +kernel⟩
abbrev s__law_text : Stmt := topS 37
theorem sc__law_text : FnScope ["_law_web_here", "_law_words", "_law_a", "_law_b", "_law_weight_here", "_law_word"] ["_law_web_here"] (defScope s__law_text) := ⟨rfl, rfl, rfl, by decide +kernel, rfl, by decide +kernel, by decide +kernel⟩
abbrev s__law_refused : Stmt := topS 38
theorem sc__law_refused : FnScope ["_law_thing", "_law_caught", "error"] ["_law_thing"] (defScope s__law_refused) := ⟨rfl, rfl, rfl, by decide +kernel, rfl, by decide +kernel, by decide +kernel⟩
abbrev s__law_is_weight : Stmt := topS 39
theorem sc__law_is_weight : FnScope ["_law_weight_here", "_law_top", "_law_bottom"] ["_law_weight_here"] (defScope s__law_is_weight) := ⟨rfl, rfl, rfl, by decide +kernel, rfl, by decide +kernel, by decide +kernel⟩
abbrev s__law_is_web : Stmt := topS 40
theorem sc__law_is_web : FnScope ["_law_web_here", "_law_before", "_law_a", "_law_b", "_law_weight_here"] ["_law_web_here"] (defScope s__law_is_web) := ⟨rfl, rfl, rfl, by decide +kernel, rfl, by decide +kernel, by decide +kernel⟩
abbrev s__law_told : Stmt := topS 41
theorem sc__law_told : FnScope ["_law_text_here", "_law_found"] ["_law_text_here"] (defScope s__law_told) := ⟨rfl, rfl, rfl, by decide +kernel, rfl, by decide +kernel, by decide +kernel⟩
abbrev s__law_spoiled : Stmt := topS 42
theorem sc__law_spoiled : FnScope ["_law_text_here", "_law_xs", "_law_at", "_law_signs", "_law_sign", "_law_way", "_law_far", "_law_two"] ["_law_text_here", "_law_xs"] (defScope s__law_spoiled) := ⟨rfl, rfl, rfl, by decide +kernel, rfl, by decide +kernel, by decide +kernel⟩
abbrev s__law_none : Stmt := topS 43
theorem sc__law_none : FnScope ["_law_number", "_law_some", "_law_nines"] ["_law_number"] (defScope s__law_none) := ⟨rfl, rfl, rfl, by decide +kernel, rfl, by decide +kernel, by decide +kernel⟩
abbrev s__law_ties_changed : Stmt := topS 44
theorem sc__law_ties_changed : FnScope ["_law_web_here", "_law_xs", "_law_words", "_law_at", "_law_way", "_law_a", "_law_b", "_law_weight_here"] ["_law_web_here", "_law_xs"] (defScope s__law_ties_changed) := ⟨rfl, rfl, rfl, by decide +kernel, rfl, by decide +kernel, by decide +kernel⟩
abbrev s__law_full : Stmt := topS 45
theorem sc__law_full : FnScope ["_law_cell", "_law_xs", "_law_left_out", "_law_ties", "_law_a", "_law_b", "_law_web_here"] ["_law_cell"] (defScope s__law_full) := ⟨rfl, rfl, rfl, by decide +kernel, rfl, by decide +kernel, by decide +kernel⟩
abbrev s_law : Stmt := topS 46
theorem sc_law : FnScope ["_law_script", "_law_k", "_law_xs", "_law_web_here", "_law_more", "_law_thing"] ["_law_script"] (defScope s_law) := ⟨rfl, rfl, rfl, by decide +kernel, rfl, by decide +kernel, by decide +kernel⟩
structure Csts (mg : Str → Option Value) : Prop where
  c_MOST_POINTS : ∃ t, mg "MOST_POINTS" = some (.int 60 t)
  c_MOST_TIES : ∃ t, mg "MOST_TIES" = some (.int 170 t)
  c_MOST_TOP : ∃ t, mg "MOST_TOP" = some (.int 1000000000 t)
  c_MOST_BOTTOM : ∃ t, mg "MOST_BOTTOM" = some (.int 1000 t)
  c_MOST_DIGITS : ∃ t, mg "MOST_DIGITS" = some (.int 10 t)
section
variable {Pg : Program} {w : World} {K : PySem.W.Frag} {mg : Str → Option Value} {base : Heap}
def t_is_whole (K : PySem.W.Frag) : TS := (tRet (tAndV (tCB (rIsi K) (tCons (tVar 0) (tCons (tC (.ty "int")) tNil))) (tNotV (tCB (rIsi K) (tCons (tVar 0) (tCons (tC (.ty "bool")) tNil))))))
theorem dv_is_whole {f : Addr} {cdv : Value} {A : Around} {outer : List Env} {s : Shared} {H : Hp} {E : XK} (hr : Room 0 (A.deeper (envOfC "is_whole" (defScope s_is_whole) s.heap.objs.size f cdv))) (B : ∀ x, x ∈ blt → mg x = none) (cs : Csts mg) :
    PSs (cxOf CX0 Pg w K mg base ["thing"] "is_whole" (defScope s_is_whole) f cdv A outer s H E).nox (defBody s_is_whole) (t_is_whole K) :=
  (pss_one (ps_ret (pe_and (pe_callB call_isi (by rfl) (B "isinstance" (by decide)) (by decide +kernel) (pa_cons (pv 0) (pa_cons (pe_bltn (by rfl) (B "int" (by decide)) (by decide +kernel) rfl) pa_nil))) (pe_one (pe_not (pe_callB call_isi (by rfl) (B "isinstance" (by decide)) (by decide +kernel) (pa_cons (pv 0) (pa_cons (pe_bltn (by rfl) (B "bool" (by decide)) (by decide +kernel) rfl) pa_nil))))))))
def t_is_row (K : PySem.W.Frag) : TS := (tRet (tCB (rIsiT K) (tCons (tVar 0) (tCons (tTup (tCons (tC (.ty "list")) (tCons (tC (.ty "tuple")) tNil))) tNil))))
theorem dv_is_row {f : Addr} {cdv : Value} {A : Around} {outer : List Env} {s : Shared} {H : Hp} {E : XK} (hr : Room 0 (A.deeper (envOfC "is_row" (defScope s_is_row) s.heap.objs.size f cdv))) (B : ∀ x, x ∈ blt → mg x = none) (cs : Csts mg) :
    PSs (cxOf CX0 Pg w K mg base ["thing"] "is_row" (defScope s_is_row) f cdv A outer s H E).nox (defBody s_is_row) (t_is_row K) :=
  (pss_one (ps_ret (pe_callB call_isiT (by rfl) (B "isinstance" (by decide)) (by decide +kernel) (pa_cons (pv 0) (pa_cons (pe_tup (pa_cons (pe_bltn (by rfl) (B "list" (by decide)) (by decide +kernel) rfl) (pa_cons (pe_bltn (by rfl) (B "tuple" (by decide)) (by decide +kernel) rfl) pa_nil))) pa_nil)))))
def t_is_triple (K : PySem.W.Frag) (Φ_is_row : Ph) : TS := (tRet (tAndV (tCall (SpD K Φ_is_row) [] E0 (tCons (tVar 0) tNil)) (tOp (rEqD K) (tCB (rLenQ K) (tCons (tVar 0) tNil)) (tC (.int 3)))))
theorem dv_is_triple {f : Addr} {cdv : Value} {A : Around} {outer : List Env} {s : Shared} {H : Hp} {E : XK} (hr : Room 1 (A.deeper (envOfC "is_triple" (defScope s_is_triple) s.heap.objs.size f cdv))) (B : ∀ x, x ∈ blt → mg x = none) (cs : Csts mg) {Φ_is_row : Ph} (g_is_row : Kn Pg w K mg base "is_row" 1 ["thing"] Φ_is_row) :
    PSs (cxOf CX0 Pg w K mg base ["thing"] "is_triple" (defScope s_is_triple) f cdv A outer s H E).nox (defBody s_is_triple) (t_is_triple K Φ_is_row) :=
  (pss_one (ps_ret (pe_and (pe_callD g_is_row (hr.mono (by decide)) (by rfl) (pa_cons (pv 0) pa_nil)) (pe_one (pe_cmpR (op_eqD hr.units) (pe_callB call_len_seq (by rfl) (B "len" (by decide)) (by decide +kernel) (pa_cons (pv 0) pa_nil)) pe_int (nomark _))))))
def t_is_number_of (K : PySem.W.Frag) (Φ_is_whole : Ph) : TS := (tRet (tAndV (tCall (SpD K Φ_is_whole) [] E0 (tCons (tVar 1) tNil)) (tChain rLeI rLtI (tC (.int 0)) (tVar 1) (tVar 0))))
theorem dv_is_number_of {f : Addr} {cdv : Value} {A : Around} {outer : List Env} {s : Shared} {H : Hp} {E : XK} (hr : Room 1 (A.deeper (envOfC "is_number_of" (defScope s_is_number_of) s.heap.objs.size f cdv))) (B : ∀ x, x ∈ blt → mg x = none) (cs : Csts mg) {Φ_is_whole : Ph} (g_is_whole : Kn Pg w K mg base "is_whole" 1 ["thing"] Φ_is_whole) :
    PSs (cxOf CX0 Pg w K mg base ["many", "thing"] "is_number_of" (defScope s_is_number_of) f cdv A outer s H E).nox (defBody s_is_number_of) (t_is_number_of K Φ_is_whole) :=
  (pss_one (ps_ret (pe_and (pe_callD g_is_whole (hr.mono (by decide)) (by rfl) (pa_cons (pv 1) pa_nil)) (pe_one (pe_chain op_le op_lt pe_int (pv 1) (pv 0))))))
def t_are_unlike_points (K : PySem.W.Frag) (Φ_is_number_of : Ph) : TS := (tRet (tAndV (tCall (SpD K Φ_is_number_of) [] E0 (tCons (tVar 0) (tCons (tVar 1) tNil))) (tAndV (tCall (SpD K Φ_is_number_of) [] E0 (tCons (tVar 0) (tCons (tVar 2) tNil))) (tOp (rNeD K) (tVar 1) (tVar 2)))))
theorem dv_are_unlike_points {f : Addr} {cdv : Value} {A : Around} {outer : List Env} {s : Shared} {H : Hp} {E : XK} (hr : Room 2 (A.deeper (envOfC "are_unlike_points" (defScope s_are_unlike_points) s.heap.objs.size f cdv))) (B : ∀ x, x ∈ blt → mg x = none) (cs : Csts mg) {Φ_is_number_of : Ph} (g_is_number_of : Kn Pg w K mg base "is_number_of" 2 ["many", "thing"] Φ_is_number_of) :
    PSs (cxOf CX0 Pg w K mg base ["many", "one", "other"] "are_unlike_points" (defScope s_are_unlike_points) f cdv A outer s H E).nox (defBody s_are_unlike_points) (t_are_unlike_points K Φ_is_number_of) :=
  (pss_one (ps_ret (pe_and (pe_callD g_is_number_of (hr.mono (by decide)) (by rfl) (pa_cons (pv 0) (pa_cons (pv 1) pa_nil))) (pe_and (pe_callD g_is_number_of (hr.mono (by decide)) (by rfl) (pa_cons (pv 0) (pa_cons (pv 2) pa_nil))) (pe_one (pe_cmpR (op_neD hr.units) (pv 1) (pv 2) (nomark _)))))))
def t_common_divisor (K : PySem.W.Frag) : TS := (tSeq (tPar 0 1 (tCons (tCB rAbs (tCons (tVar 0) tNil)) (tCons (tCB rAbs (tCons (tVar 1) tNil)) tNil)))
    (tSeq (tWhile (tTest (tOp (rNeD K) (tVar 1) (tC (.int 0)))) (tPar 0 1 (tCons (tVar 1) (tCons (tOp rModN (tVar 0) (tVar 1)) tNil))))
    (tRet (tVar 0))))
theorem dv_common_divisor {f : Addr} {cdv : Value} {A : Around} {outer : List Env} {s : Shared} {H : Hp} {E : XK} (hr : Room 0 (A.deeper (envOfC "common_divisor" (defScope s_common_divisor) s.heap.objs.size f cdv))) (B : ∀ x, x ∈ blt → mg x = none) (cs : Csts mg) :
    PSs (cxOf CX0 Pg w K mg base ["one", "other"] "common_divisor" (defScope s_common_divisor) f cdv A outer s H E).nox (defBody s_common_divisor) (t_common_divisor K) :=
  (pss_cons (ps_par (by rfl) sc_common_divisor.nd (i := 0) (j := 1) rfl rfl (by decide) rfl rfl (pa_cons (pe_callB call_abs (by rfl) (B "abs" (by decide)) (by decide +kernel) (pa_cons (pv 0) pa_nil)) (pa_cons (pe_callB call_abs (by rfl) (B "abs" (by decide)) (by decide +kernel) (pa_cons (pv 1) pa_nil)) pa_nil)) (by rfl))
      (pss_cons (ps_while PassesOwn.never (pt_cmpR (op_neD hr.units) (pv 1) pe_int (nomark _)) (pss_one (ps_par (by rfl) sc_common_divisor.nd (i := 0) (j := 1) rfl rfl (by decide) rfl rfl (pa_cons (pv 1) (pa_cons (pe_op op_modN (pv 0) (pv 1)) pa_nil)) (by rfl))))
      (pss_one (ps_ret (pv 0)))))
def t_is_fraction (K : PySem.W.Frag) (Φ_is_whole : Ph) (Φ_common_divisor : Ph) : TS := (tSeq (tIfS (tOr (tNot (L2.tB (tCB (rIsi K) (tCons (tVar 0) (tCons (tC (.ty "tuple")) tNil))))) (tTest (tOp (rNeD K) (tCB (rLenQ K) (tCons (tVar 0) tNil)) (tC (.int 2))))) (tRet (tC (.bl false))) tNext)
    (tSeq (tAsg (tVar 0) (gTup K 2 (gCons (gName 1) (gCons (gName 2) gNil))))
    (tSeq (tIfS (tOr (tNot (L2.tB (tCall (SpD K Φ_is_whole) [] E0 (tCons (tVar 1) tNil)))) (tNot (L2.tB (tCall (SpD K Φ_is_whole) [] E0 (tCons (tVar 2) tNil))))) (tRet (tC (.bl false))) tNext)
    (tRet (tAndV (tOp rGeI (tVar 2) (tC (.int 1))) (tOp (rEqD K) (tCall (SpD K Φ_common_divisor) [] E0 (tCons (tVar 1) (tCons (tVar 2) tNil))) (tC (.int 1))))))))
theorem dv_is_fraction {f : Addr} {cdv : Value} {A : Around} {outer : List Env} {s : Shared} {H : Hp} {E : XK} (hr : Room 1 (A.deeper (envOfC "is_fraction" (defScope s_is_fraction) s.heap.objs.size f cdv))) (B : ∀ x, x ∈ blt → mg x = none) (cs : Csts mg) {Φ_is_whole : Ph} {Φ_common_divisor : Ph} (g_is_whole : Kn Pg w K mg base "is_whole" 1 ["thing"] Φ_is_whole) (g_common_divisor : Kn Pg w K mg base "common_divisor" 1 ["one", "other"] Φ_common_divisor) :
    PSs (cxOf CX0 Pg w K mg base ["thing", "top", "bottom"] "is_fraction" (defScope s_is_fraction) f cdv A outer s H E).nox (defBody s_is_fraction) (t_is_fraction K Φ_is_whole Φ_common_divisor) :=
  (pss_cons (ps_if (PW.pt (pw_or (pt_not (pt_val (pe_callB call_isi (by rfl) (B "isinstance" (by decide)) (by decide +kernel) (pa_cons (pv 0) (pa_cons (pe_bltn (by rfl) (B "tuple" (by decide)) (by decide +kernel) rfl) pa_nil))))) (pw_or1 (pt_cmpR (op_neD hr.units) (pe_callB call_len_seq (by rfl) (B "len" (by decide)) (by decide +kernel) (pa_cons (pv 0) pa_nil)) pe_int (nomark _))))) (pss_one (ps_ret pe_bl)) pss_nil)
      (pss_cons (ps_asg (pv 0) (pg_tup rfl (pgs_cons (pg_name (i := 1) sc_is_fraction.nd rfl (by first | exact .inl rfl | exact .inr rfl)) (pgs_cons (pg_name (i := 2) sc_is_fraction.nd rfl (by first | exact .inl rfl | exact .inr rfl)) pgs_nil))))
      (pss_cons (ps_if (PW.pt (pw_or (pt_not (pt_val (pe_callD g_is_whole (hr.mono (by decide)) (by rfl) (pa_cons (pv 1) pa_nil)))) (pw_or1 (pt_not (pt_val (pe_callD g_is_whole (hr.mono (by decide)) (by rfl) (pa_cons (pv 2) pa_nil))))))) (pss_one (ps_ret pe_bl)) pss_nil)
      (pss_one (ps_ret (pe_and (pe_cmpR op_ge (pv 2) pe_int (nomark _)) (pe_one (pe_cmpR (op_eqD hr.units) (pe_callD g_common_divisor (hr.mono (by decide)) (by rfl) (pa_cons (pv 1) (pa_cons (pv 2) pa_nil))) pe_int (nomark _)))))))))
def t_is_weight (K : PySem.W.Frag) (Φ_is_fraction : Ph) : TS := (tRet (tAndV (tCall (SpD K Φ_is_fraction) [] E0 (tCons (tVar 0) tNil)) (tAndV (tOp rLeI (tCB rAbs (tCons (tOp (rIx K) (tVar 0) (tC (.int 0))) tNil)) (tC (.int 1000000000))) (tOp rLeI (tOp (rIx K) (tVar 0) (tC (.int 1))) (tC (.int 1000))))))
theorem dv_is_weight {f : Addr} {cdv : Value} {A : Around} {outer : List Env} {s : Shared} {H : Hp} {E : XK} (hr : Room 2 (A.deeper (envOfC "is_weight" (defScope s_is_weight) s.heap.objs.size f cdv))) (B : ∀ x, x ∈ blt → mg x = none) (cs : Csts mg) {Φ_is_fraction : Ph} (g_is_fraction : Kn Pg w K mg base "is_fraction" 2 ["thing"] Φ_is_fraction) :
    PSs (cxOf CX0 Pg w K mg base ["thing"] "is_weight" (defScope s_is_weight) f cdv A outer s H E).nox (defBody s_is_weight) (t_is_weight K Φ_is_fraction) :=
  (pss_one (ps_ret (pe_and (pe_callD g_is_fraction (hr.mono (by decide)) (by rfl) (pa_cons (pv 0) pa_nil)) (pe_and (pe_cmpR op_le (pe_callB call_abs (by rfl) (B "abs" (by decide)) (by decide +kernel) (pa_cons (pe_ix ix_seq (pv 0) pe_int (fun _ _ => rfl)) pa_nil)) (pe_num rfl cs.c_MOST_TOP) (nomark _)) (pe_one (pe_cmpR op_le (pe_ix ix_seq (pv 0) pe_int (fun _ _ => rfl)) (pe_num rfl cs.c_MOST_BOTTOM) (nomark _)))))))
def t_told_tie (K : PySem.W.Frag) (Φ_is_triple : Ph) (Φ_is_weight : Ph) (Φ_are_unlike_points : Ph) : TS := (tSeq (tIfS (tNot (L2.tB (tCall (SpD K Φ_is_triple) [] E0 (tCons (tVar 1) tNil)))) (tRet (tC .non)) tNext)
    (tSeq (tAsg (tVar 1) (gRw K 3 (gCons (gName 2) (gCons (gName 3) (gCons (gName 4) gNil)))))
    (tSeq (tIfS (tOr (tNot (L2.tB (tCall (SpD K Φ_are_unlike_points) [] E0 (tCons (tVar 0) (tCons (tVar 2) (tCons (tVar 3) tNil)))))) (tNot (L2.tB (tCall (SpD K Φ_is_weight) [] E0 (tCons (tVar 4) tNil))))) (tRet (tC .non)) tNext)
    (tRet (tTup (tCons (tCB rMinI (tCons (tVar 2) (tCons (tVar 3) tNil))) (tCons (tCB rMaxI (tCons (tVar 2) (tCons (tVar 3) tNil))) (tCons (tVar 4) tNil))))))))
theorem dv_told_tie {f : Addr} {cdv : Value} {A : Around} {outer : List Env} {s : Shared} {H : Hp} {E : XK} (hr : Room 3 (A.deeper (envOfC "told_tie" (defScope s_told_tie) s.heap.objs.size f cdv))) (B : ∀ x, x ∈ blt → mg x = none) (cs : Csts mg) {Φ_is_triple : Ph} {Φ_is_weight : Ph} {Φ_are_unlike_points : Ph} (g_is_triple : Kn Pg w K mg base "is_triple" 2 ["thing"] Φ_is_triple) (g_is_weight : Kn Pg w K mg base "is_weight" 3 ["thing"] Φ_is_weight) (g_are_unlike_points : Kn Pg w K mg base "are_unlike_points" 3 ["many", "one", "other"] Φ_are_unlike_points) :
    PSs (cxOf CX0 Pg w K mg base ["many", "thing", "one", "other", "weight"] "told_tie" (defScope s_told_tie) f cdv A outer s H E).nox (defBody s_told_tie) (t_told_tie K Φ_is_triple Φ_is_weight Φ_are_unlike_points) :=
  (pss_cons (ps_if (pt_not (pt_val (pe_callD g_is_triple (hr.mono (by decide)) (by rfl) (pa_cons (pv 1) pa_nil)))) (pss_one (ps_ret pe_non)) pss_nil)
      (pss_cons (ps_asg (pv 1) (pg_rw rfl (pgs_cons (pg_name (i := 2) sc_told_tie.nd rfl (by first | exact .inl rfl | exact .inr rfl)) (pgs_cons (pg_name (i := 3) sc_told_tie.nd rfl (by first | exact .inl rfl | exact .inr rfl)) (pgs_cons (pg_name (i := 4) sc_told_tie.nd rfl (by first | exact .inl rfl | exact .inr rfl)) pgs_nil)))))
      (pss_cons (ps_if (PW.pt (pw_or (pt_not (pt_val (pe_callD g_are_unlike_points (hr.mono (by decide)) (by rfl) (pa_cons (pv 0) (pa_cons (pv 2) (pa_cons (pv 3) pa_nil)))))) (pw_or1 (pt_not (pt_val (pe_callD g_is_weight (hr.mono (by decide)) (by rfl) (pa_cons (pv 4) pa_nil))))))) (pss_one (ps_ret pe_non)) pss_nil)
      (pss_one (ps_ret (pe_tup (pa_cons (pe_callB (call_min2 rfl) (by rfl) (B "min" (by decide)) (by decide +kernel) (pa_cons (pv 2) (pa_cons (pv 3) pa_nil))) (pa_cons (pe_callB (call_max2 rfl) (by rfl) (B "max" (by decide)) (by decide +kernel) (pa_cons (pv 2) (pa_cons (pv 3) pa_nil))) (pa_cons (pv 4) pa_nil)))))))))
def t_made_web (K : PySem.W.Frag) (C_CutError C_NoWeb C_NoText C_TooGreat : Addr) (Φ_is_whole : Ph) (Φ_is_row : Ph) (Φ_told_tie : Ph) : XK → TS := fun E => (tSeq (tIfS (tOr (tNot (L2.tB (tCall (SpD K Φ_is_whole) [] E0 (tCons (tVar 0) tNil)))) (tNot (tTest (tChain rLeI rLeI (tC (.int 1)) (tVar 0) (tC (.int 60)))))) (tRs C_NoWeb E) tNext)
    (tSeq (tIfS (tOr (tNot (L2.tB (tCall (SpD K Φ_is_row) [] E0 (tCons (tVar 1) tNil)))) (tTest (tOp rGtI (tCB (rLenQ K) (tCons (tVar 1) tNil)) (tC (.int 170))))) (tRs C_NoWeb E) tNext)
    (tSeq (tAsg (tLc (iRow K 1) (gName 3) tYes (tCall (SpD K Φ_told_tie) [] E0 (tCons (tVar 0) (tCons (tVar 3) tNil))) [3]) (gName 2))
    (tSeq (tIfS (tTest (tOp (rInD K) (tC .non) (tVar 2))) (tRs C_NoWeb E) tNext)
    (tSeq (tAsg (tCB (rSortV K) (tCons (tVar 2) tNil)) (gName 2))
    (tSeq (tFor (iZip K (tCons (tVar 2) (tCons (tSl (rSlL K) (tVar 2) (tPart (tC (.int 1))) tNoPart) tNil))) (gTup K 2 (gCons (gName 4) (gCons (gName 5) gNil))) (tIfS (tTest (tOp (rEqD K) (tSl (rSlT K) (tVar 4) tNoPart (tPart (tC (.int 2)))) (tSl (rSlT K) (tVar 5) tNoPart (tPart (tC (.int 2)))))) (tRs C_NoWeb E) tNext))
    (tRet (tTup (tCons (tVar 0) (tCons (tCB (rTupQ K) (tCons (tVar 2) tNil)) tNil))))))))))
theorem dv_made_web {f : Addr} {cdv : Value} {A : Around} {outer : List Env} {s : Shared} {H : Hp} {E : XK} (hr : Room 4 (A.deeper (envOfC "made_web" (defScope s_made_web) s.heap.objs.size f cdv))) (B : ∀ x, x ∈ blt → mg x = none) (cs : Csts mg) {C_CutError C_NoWeb C_NoText C_TooGreat : Addr} (cl : Cls K mg C_CutError C_NoWeb C_NoText C_TooGreat) {Φ_is_whole : Ph} {Φ_is_row : Ph} {Φ_told_tie : Ph} (g_is_whole : Kn Pg w K mg base "is_whole" 1 ["thing"] Φ_is_whole) (g_is_row : Kn Pg w K mg base "is_row" 1 ["thing"] Φ_is_row) (g_told_tie : Kn Pg w K mg base "told_tie" 4 ["many", "thing"] Φ_told_tie) :
    PSs (cxOf (L2N.CX Pg w) Pg w K mg base ["many", "ties", "told", "thing", "tie", "following"] "made_web" (defScope s_made_web) f cdv A outer s H E) (defBody s_made_web) (t_made_web K C_CutError C_NoWeb C_NoText C_TooGreat Φ_is_whole Φ_is_row Φ_told_tie E) :=
  (pss_cons (ps_if (PW.pt (pw_or (pt_not (pt_val (pe_callD g_is_whole (hr.mono (by decide)) (by rfl) (pa_cons (pv 0) pa_nil)))) (pw_or1 (pt_not (pt_chain op_le op_le pe_int (pv 0) (pe_num rfl cs.c_MOST_POINTS)))))) (pss_one (ps_raiseN cl.er_NoWeb rfl rfl rfl rfl rfl (by rfl))) pss_nil)
      (pss_cons (ps_if (PW.pt (pw_or (pt_not (pt_val (pe_callD g_is_row (hr.mono (by decide)) (by rfl) (pa_cons (pv 1) pa_nil)))) (pw_or1 (pt_cmpR op_gt (pe_callB call_len_seq (by rfl) (B "len" (by decide)) (by decide +kernel) (pa_cons (pv 1) pa_nil)) (pe_num rfl cs.c_MOST_TIES) (nomark _))))) (pss_one (ps_raiseN cl.er_NoWeb rfl rfl rfl rfl rfl (by rfl))) pss_nil)
      (pss_cons (ps_setLc (i := 2) (own := [("thing", 3)]) (g := (gName 3)) (tt := tYes) rfl sc_made_web.nd rfl rfl (sw_true rfl rfl rfl (by decide +kernel)) (pi_row (i := 1) (pv 1)) (blkOk_by (own := [("thing", 3)]) (N := ["many", "ties", "told", "thing", "tie", "following"]) (sc := defScope s_made_web) (by decide +kernel)) (fun _ _ _ _ _ => (pg_name (i := 3) sc_made_web.nd rfl (by first | exact .inl rfl | exact .inr rfl))) (fun _ _ _ _ _ => pts_nil) (fun _ _ _ _ _ => (pe_callD g_told_tie (hr.mono (by decide)) (by rfl) (pa_cons (pv 0) (pa_cons (pv 3) pa_nil)))))
      (pss_cons (ps_if (pt_cmpR (op_inD (units65 hr)) pe_non (pv 2) (by rfl)) (pss_one (ps_raiseN cl.er_NoWeb rfl rfl rfl rfl rfl (by rfl))) pss_nil)
      (pss_cons (ps_set (i := 2) sc_made_web.nd rfl (by first | exact .inl rfl | exact .inr rfl) (pe_callB (cr_sortV hr.units) (by rfl) (B "sorted" (by decide)) (by decide +kernel) (pa_cons (pv 2) pa_nil)))
      (pss_cons (ps_for (passes_of rfl) rfl (pi_zip (by rfl) (B "zip" (by decide)) (pa_cons (pv 2) (pa_cons (pe_slice sl_list (pv 2) (po_some pe_int) po_none) pa_nil))) (pg_tup rfl (pgs_cons (pg_name (i := 4) sc_made_web.nd rfl (by first | exact .inl rfl | exact .inr rfl)) (pgs_cons (pg_name (i := 5) sc_made_web.nd rfl (by first | exact .inl rfl | exact .inr rfl)) pgs_nil))) (pss_one (ps_if (pt_cmpR (op_eqD hr.units) (pe_slice sl_tup (pv 4) po_none (po_some pe_int)) (pe_slice sl_tup (pv 5) po_none (po_some pe_int)) (nomark _)) (pss_one (ps_raiseN cl.er_NoWeb rfl rfl rfl rfl rfl (by rfl))) pss_nil)))
      (pss_one (ps_ret (pe_tup (pa_cons (pv 0) (pa_cons (pe_callTy call_tuple_of (by rfl) (B "tuple" (by decide)) (by decide +kernel) (pa_cons (pv 2) pa_nil)) pa_nil)))))))))))
def t_shown_weight (K : PySem.W.Frag) : TS := (tSeq (tAsg (tVar 0) (gTup K 2 (gCons (gName 1) (gCons (gName 2) gNil))))
    (tRet (tIf (tTest (tOp (rEqD K) (tVar 2) (tC (.int 1)))) (tCB rStrI (tCons (tVar 1) tNil)) (tJd ((tFmt (tVar 1)) :: ((tC (.str "/")) :: ((tFmt (tVar 2)) :: [])))))))
theorem dv_shown_weight {f : Addr} {cdv : Value} {A : Around} {outer : List Env} {s : Shared} {H : Hp} {E : XK} (hr : Room 0 (A.deeper (envOfC "shown_weight" (defScope s_shown_weight) s.heap.objs.size f cdv))) (B : ∀ x, x ∈ blt → mg x = none) (cs : Csts mg) :
    PSs (cxOf CX0 Pg w K mg base ["weight", "top", "bottom"] "shown_weight" (defScope s_shown_weight) f cdv A outer s H E).nox (defBody s_shown_weight) (t_shown_weight K) :=
  (pss_cons (ps_asg (pv 0) (pg_tup rfl (pgs_cons (pg_name (i := 1) sc_shown_weight.nd rfl (by first | exact .inl rfl | exact .inr rfl)) (pgs_cons (pg_name (i := 2) sc_shown_weight.nd rfl (by first | exact .inl rfl | exact .inr rfl)) pgs_nil))))
      (pss_one (ps_ret (pe_ifExp (pt_cmpR (op_eqD hr.units) (pv 2) pe_int (nomark _)) (pe_callTy call_str_int (by rfl) (B "str" (by decide)) (by decide +kernel) (pa_cons (pv 1) pa_nil)) (pe_fs (.cons (pe_fmt (pv 1)) (.cons pe_str (.cons (pe_fmt (pv 2)) .nil))))))))
def t_show_web (K : PySem.W.Frag) (Φ_shown_weight : Ph) : TS := (tSeq (tAsg (tVar 0) (gTup K 2 (gCons (gName 1) (gCons (gName 2) gNil))))
    (tSeq (tAsg (tLc (iTup K (tVar 2)) (gTup K 3 (gCons (gName 4) (gCons (gName 5) (gCons (gName 6) gNil)))) tYes (tJd ((tFmt (tVar 4)) :: ((tC (.str "-")) :: ((tFmt (tVar 5)) :: ((tC (.str "=")) :: ((tFmt (tCall (SpD K Φ_shown_weight) [] E0 (tCons (tVar 6) tNil))) :: [])))))) [4, 5, 6]) (gName 3))
    (tRet (tM1 (rJoinK K) (tC (.str " ")) (tOp rCat (tLst (tCons (tCB rStrI (tCons (tVar 1) tNil)) tNil)) (tVar 3))))))
theorem dv_show_web {f : Addr} {cdv : Value} {A : Around} {outer : List Env} {s : Shared} {H : Hp} {E : XK} (hr : Room 1 (A.deeper (envOfC "show_web" (defScope s_show_web) s.heap.objs.size f cdv))) (B : ∀ x, x ∈ blt → mg x = none) (cs : Csts mg) {Φ_shown_weight : Ph} (g_shown_weight : Kn Pg w K mg base "shown_weight" 1 ["weight"] Φ_shown_weight) :
    PSs (cxOf CX0 Pg w K mg base ["web", "many", "ties", "words", "one", "other", "weight"] "show_web" (defScope s_show_web) f cdv A outer s H E).nox (defBody s_show_web) (t_show_web K Φ_shown_weight) :=
  (pss_cons (ps_asg (pv 0) (pg_tup rfl (pgs_cons (pg_name (i := 1) sc_show_web.nd rfl (by first | exact .inl rfl | exact .inr rfl)) (pgs_cons (pg_name (i := 2) sc_show_web.nd rfl (by first | exact .inl rfl | exact .inr rfl)) pgs_nil))))
      (pss_cons (ps_setLc (i := 3) (own := [("one", 4), ("other", 5), ("weight", 6)]) (g := (gTup K 3 (gCons (gName 4) (gCons (gName 5) (gCons (gName 6) gNil))))) (tt := tYes) rfl sc_show_web.nd rfl rfl (sw_true rfl rfl rfl (by decide +kernel)) (pi_tup (pv 2)) (blkOk_by (own := [("one", 4), ("other", 5), ("weight", 6)]) (N := ["web", "many", "ties", "words", "one", "other", "weight"]) (sc := defScope s_show_web) (by decide +kernel)) (fun _ _ _ _ _ => (pg_tup rfl (pgs_cons (pg_name (i := 4) sc_show_web.nd rfl (by first | exact .inl rfl | exact .inr rfl)) (pgs_cons (pg_name (i := 5) sc_show_web.nd rfl (by first | exact .inl rfl | exact .inr rfl)) (pgs_cons (pg_name (i := 6) sc_show_web.nd rfl (by first | exact .inl rfl | exact .inr rfl)) pgs_nil))))) (fun _ _ _ _ _ => pts_nil) (fun _ _ _ _ _ => (pe_fs (.cons (pe_fmt (pv 4)) (.cons pe_str (.cons (pe_fmt (pv 5)) (.cons pe_str (.cons (pe_fmt (pe_callD g_shown_weight (hr.mono (by decide)) (by rfl) (pa_cons (pv 6) pa_nil))) .nil))))))))
      (pss_one (ps_ret (pe_join pe_str (pe_op op_cat (pe_lst (pa_cons (pe_callTy call_str_int (by rfl) (B "str" (by decide)) (by decide +kernel) (pa_cons (pv 1) pa_nil)) pa_nil)) (pv 3)))))))
def t_read_int (K : PySem.W.Frag) : TS := (tSeq (tAsg (tM1 rPre (tVar 0) (tC (.str "-"))) (gName 1))
    (tSeq (tIfS (tOr (tTest (tOp rGtI (tCB rLenS (tCons (tVar 1) tNil)) (tC (.int 10)))) (tOr (tNot (L2.tB (tM0 (rAsk Txt.isascii) (tVar 1)))) (tNot (L2.tB (tM0 (rAsk Txt.isdigit) (tVar 1)))))) (tRet (tC .non)) tNext)
    (tRet (tCB rIntS (tCons (tVar 0) tNil)))))
theorem dv_read_int {f : Addr} {cdv : Value} {A : Around} {outer : List Env} {s : Shared} {H : Hp} {E : XK} (hr : Room 0 (A.deeper (envOfC "read_int" (defScope s_read_int) s.heap.objs.size f cdv))) (B : ∀ x, x ∈ blt → mg x = none) (cs : Csts mg) :
    PSs (cxOf CX0 Pg w K mg base ["word", "digits"] "read_int" (defScope s_read_int) f cdv A outer s H E).nox (defBody s_read_int) (t_read_int K) :=
  (pss_cons (ps_set (i := 1) sc_read_int.nd rfl (by first | exact .inl rfl | exact .inr rfl) (pe_pre (pv 0) pe_str))
      (pss_cons (ps_if (PW.pt (pw_or (pt_cmpR op_gt (pe_callB cr_lenS (by rfl) (B "len" (by decide)) (by decide +kernel) (pa_cons (pv 1) pa_nil)) (pe_num rfl cs.c_MOST_DIGITS) (nomark _)) (pw_or (pt_not (pt_val (pe_ascii (pv 1)))) (pw_or1 (pt_not (pt_val (pe_digit (pv 1)))))))) (pss_one (ps_ret pe_non)) pss_nil)
      (pss_one (ps_ret (pe_callTy cr_intS (by rfl) (B "int" (by decide)) (by decide +kernel) (pa_cons (pv 0) pa_nil))))))
def t_read_weight (K : PySem.W.Frag) (Φ_read_int : Ph) : TS := (tSeq (tAsg (tM1 rPart (tVar 0) (tC (.str "/"))) (gTup K 3 (gCons (gName 1) (gCons (gName 2) (gCons (gName 3) gNil)))))
    (tRet (tTup (tCons (tCall (SpD K Φ_read_int) [] E0 (tCons (tVar 1) tNil)) (tCons (tIf (tTru K (tVar 2)) (tCall (SpD K Φ_read_int) [] E0 (tCons (tVar 3) tNil)) (tC (.int 1))) tNil)))))
theorem dv_read_weight {f : Addr} {cdv : Value} {A : Around} {outer : List Env} {s : Shared} {H : Hp} {E : XK} (hr : Room 1 (A.deeper (envOfC "read_weight" (defScope s_read_weight) s.heap.objs.size f cdv))) (B : ∀ x, x ∈ blt → mg x = none) (cs : Csts mg) {Φ_read_int : Ph} (g_read_int : Kn Pg w K mg base "read_int" 1 ["word"] Φ_read_int) :
    PSs (cxOf CX0 Pg w K mg base ["word", "top", "slash", "bottom"] "read_weight" (defScope s_read_weight) f cdv A outer s H E).nox (defBody s_read_weight) (t_read_weight K Φ_read_int) :=
  (pss_cons (ps_asg (pe_prt (pv 0) pe_str) (pg_tup rfl (pgs_cons (pg_name (i := 1) sc_read_weight.nd rfl (by first | exact .inl rfl | exact .inr rfl)) (pgs_cons (pg_name (i := 2) sc_read_weight.nd rfl (by first | exact .inl rfl | exact .inr rfl)) (pgs_cons (pg_name (i := 3) sc_read_weight.nd rfl (by first | exact .inl rfl | exact .inr rfl)) pgs_nil)))))
      (pss_one (ps_ret (pe_tup (pa_cons (pe_callD g_read_int (hr.mono (by decide)) (by rfl) (pa_cons (pv 1) pa_nil)) (pa_cons (pe_ifExp (pt_tru (pv 2)) (pe_callD g_read_int (hr.mono (by decide)) (by rfl) (pa_cons (pv 3) pa_nil)) pe_int) pa_nil))))))
def t_read_tie (K : PySem.W.Frag) (Φ_read_weight : Ph) (Φ_read_int : Ph) : TS := (tSeq (tAsg (tM1 rPart (tVar 0) (tC (.str "="))) (gTup K 3 (gCons (gName 1) (gCons (gName 2) (gCons (gName 3) gNil)))))
    (tSeq (tAsg (tM1 rPart (tVar 1) (tC (.str "-"))) (gTup K 3 (gCons (gName 4) (gCons (gName 5) (gCons (gName 6) gNil)))))
    (tRet (tTup (tCons (tCall (SpD K Φ_read_int) [] E0 (tCons (tVar 4) tNil)) (tCons (tCall (SpD K Φ_read_int) [] E0 (tCons (tVar 6) tNil)) (tCons (tCall (SpD K Φ_read_weight) [] E0 (tCons (tVar 3) tNil)) tNil)))))))
theorem dv_read_tie {f : Addr} {cdv : Value} {A : Around} {outer : List Env} {s : Shared} {H : Hp} {E : XK} (hr : Room 2 (A.deeper (envOfC "read_tie" (defScope s_read_tie) s.heap.objs.size f cdv))) (B : ∀ x, x ∈ blt → mg x = none) (cs : Csts mg) {Φ_read_weight : Ph} {Φ_read_int : Ph} (g_read_weight : Kn Pg w K mg base "read_weight" 2 ["word"] Φ_read_weight) (g_read_int : Kn Pg w K mg base "read_int" 1 ["word"] Φ_read_int) :
    PSs (cxOf CX0 Pg w K mg base ["word", "points", "sign", "weight", "one", "dash", "other"] "read_tie" (defScope s_read_tie) f cdv A outer s H E).nox (defBody s_read_tie) (t_read_tie K Φ_read_weight Φ_read_int) :=
  (pss_cons (ps_asg (pe_prt (pv 0) pe_str) (pg_tup rfl (pgs_cons (pg_name (i := 1) sc_read_tie.nd rfl (by first | exact .inl rfl | exact .inr rfl)) (pgs_cons (pg_name (i := 2) sc_read_tie.nd rfl (by first | exact .inl rfl | exact .inr rfl)) (pgs_cons (pg_name (i := 3) sc_read_tie.nd rfl (by first | exact .inl rfl | exact .inr rfl)) pgs_nil)))))
      (pss_cons (ps_asg (pe_prt (pv 1) pe_str) (pg_tup rfl (pgs_cons (pg_name (i := 4) sc_read_tie.nd rfl (by first | exact .inl rfl | exact .inr rfl)) (pgs_cons (pg_name (i := 5) sc_read_tie.nd rfl (by first | exact .inl rfl | exact .inr rfl)) (pgs_cons (pg_name (i := 6) sc_read_tie.nd rfl (by first | exact .inl rfl | exact .inr rfl)) pgs_nil)))))
      (pss_one (ps_ret (pe_tup (pa_cons (pe_callD g_read_int (hr.mono (by decide)) (by rfl) (pa_cons (pv 4) pa_nil)) (pa_cons (pe_callD g_read_int (hr.mono (by decide)) (by rfl) (pa_cons (pv 6) pa_nil)) (pa_cons (pe_callD g_read_weight (hr.mono (by decide)) (by rfl) (pa_cons (pv 3) pa_nil)) pa_nil))))))))
def t_read_web (K : PySem.W.Frag) (C_CutError C_NoWeb C_NoText C_TooGreat : Addr) (Φ_made_web : PhX) (Φ_read_tie : Ph) (Φ_read_int : Ph) (Φ_show_web : Ph) : XK → TS := fun E => (tSeq (tIfS (tNot (L2.tB (tCB (rIsi K) (tCons (tVar 0) (tCons (tC (.ty "str")) tNil))))) (tRs C_NoText E) tNext)
    (tSeq (tAsg (tM1 rSpl (tVar 0) (tC (.str " "))) (gName 1))
    (tSeq (tTryF K C_NoWeb C_NoText (fun W => tAsg (tCallS (SpX K C_NoWeb Φ_made_web) (WE W) (tCons (tCall (SpD K Φ_read_int) [] E0 (tCons (tOp (rIx K) (tVar 1) (tC (.int 0))) tNil)) (tCons (tLc (iList K (tSl (rSlL K) (tVar 1) (tPart (tC (.int 1))) tNoPart)) (gName 3) tYes (tCall (SpD K Φ_read_tie) [] E0 (tCons (tVar 3) tNil)) [3]) tNil))) (gName 2)) E)
    (tSeq (tIfS (tTest (tOp rNe (tCall (SpD K Φ_show_web) [] E0 (tCons (tVar 2) tNil)) (tVar 0))) (tRs C_NoText E) tNext)
    (tRet (tVar 2))))))
theorem dv_read_web {f : Addr} {cdv : Value} {A : Around} {outer : List Env} {s : Shared} {H : Hp} {E : XK} (hr : Room 5 (A.deeper (envOfC "read_web" (defScope s_read_web) s.heap.objs.size f cdv))) (B : ∀ x, x ∈ blt → mg x = none) (cs : Csts mg) {C_CutError C_NoWeb C_NoText C_TooGreat : Addr} (cl : Cls K mg C_CutError C_NoWeb C_NoText C_TooGreat) {Φ_made_web : PhX} {Φ_read_tie : Ph} {Φ_read_int : Ph} {Φ_show_web : Ph} (g_made_web : KnN Pg w K mg base "made_web" 5 ["many", "ties"] C_NoWeb Φ_made_web) (g_read_tie : Kn Pg w K mg base "read_tie" 3 ["word"] Φ_read_tie) (g_read_int : Kn Pg w K mg base "read_int" 1 ["word"] Φ_read_int) (g_show_web : Kn Pg w K mg base "show_web" 2 ["web"] Φ_show_web) :
    PSs (cxOf (L2.CX Pg w) Pg w K mg base ["text", "words", "web", "word"] "read_web" (defScope s_read_web) f cdv A outer s H E) (defBody s_read_web) (t_read_web K C_CutError C_NoWeb C_NoText C_TooGreat Φ_made_web Φ_read_tie Φ_read_int Φ_show_web E) :=
  (pss_cons (ps_if (pt_not (pt_val (pe_callB call_isi (by rfl) (B "isinstance" (by decide)) (by decide +kernel) (pa_cons (pv 0) (pa_cons (pe_bltn (by rfl) (B "str" (by decide)) (by decide +kernel) rfl) pa_nil))))) (pss_one (ps_raiseD cl.er_NoText rfl rfl rfl rfl rfl (by rfl))) pss_nil)
      (pss_cons (ps_set (i := 1) sc_read_web.nd rfl (by first | exact .inl rfl | exact .inr rfl) (pe_spl (pv 0) pe_str))
      (pss_cons (L2H.ps_try_onlyX (tb := fun W => tAsg (tCallS (SpX K C_NoWeb Φ_made_web) (WE W) (tCons (tCall (SpD K Φ_read_int) [] E0 (tCons (tOp (rIx K) (tVar 1) (tC (.int 0))) tNil)) (tCons (tLc (iList K (tSl (rSlL K) (tVar 1) (tPart (tC (.int 1))) tNoPart)) (gName 3) tYes (tCall (SpD K Φ_read_tie) [] E0 (tCons (tVar 3) tNil)) [3]) tNil))) (gName 2)) (ts := fun _ _ _ => tRs C_NoText E) (Wout := WO E) rfl rfl ⟨rfl, by decide, .inl cl.g_NoWeb⟩ (L2H.passesAt_of rfl) (takes_of rfl rfl rfl rfl) (fun W pn xe tk _ _ => pss_one (ps_set (i := 2) sc_read_web.nd rfl (by first | exact .inl rfl | exact .inr rfl) (pe_callN g_made_web (hr.mono (by decide)) (by rfl) tk (pa_cons (pe_callD g_read_int (hr.mono (by decide)) (by rfl) (pa_cons (pe_ix ix_seq (pv 1) pe_int (fun _ _ => rfl)) pa_nil)) (pa_cons (pe_lc (own := [("word", 3)]) (g := (gName 3)) (tt := tYes) rfl sc_read_web.nd (pi_list (pe_slice sl_list (pv 1) (po_some pe_int) po_none)) (blkOk_by (own := [("word", 3)]) (N := ["text", "words", "web", "word"]) (sc := defScope s_read_web) (by decide +kernel)) (fun _ _ _ _ _ => (pg_name (i := 3) sc_read_web.nd rfl (by first | exact .inl rfl | exact .inr rfl))) (fun _ _ _ _ _ => pts_nil) (fun _ _ _ _ _ => (pe_callD g_read_tie (hr.mono (by decide)) (by rfl) (pa_cons (pv 3) pa_nil)))) pa_nil))))) (fun a oe cls d pn hz hf tk hot => pss_one (L2H.ps_raiseHN hot tk (pmk_hot cl.er_NoText rfl))))
      (pss_cons (ps_if (pt_cmpR op_ne (pe_callD g_show_web (hr.mono (by decide)) (by rfl) (pa_cons (pv 2) pa_nil)) (pv 0) (nomark _)) (pss_one (ps_raiseD cl.er_NoText rfl rfl rfl rfl rfl (by rfl))) pss_nil)
      (pss_one (ps_ret (pv 2)))))))
def t__law_cell_at (K : PySem.W.Frag) : TS := (tSeq (tIfS (tTest (tOp rLtI (tVar 1) (tCB (rLenQ K) (tCons (tVar 0) tNil)))) (tRet (tOp (rIx K) (tVar 0) (tVar 1))) tNext)
    (tRet (tC (.int 0))))
theorem dv__law_cell_at {f : Addr} {cdv : Value} {A : Around} {outer : List Env} {s : Shared} {H : Hp} {E : XK} (hr : Room 0 (A.deeper (envOfC "_law_cell_at" (defScope s__law_cell_at) s.heap.objs.size f cdv))) (B : ∀ x, x ∈ blt → mg x = none) (cs : Csts mg) :
    PSs (cxOf CX0 Pg w K mg base ["_law_script", "_law_k"] "_law_cell_at" (defScope s__law_cell_at) f cdv A outer s H E).nox (defBody s__law_cell_at) (t__law_cell_at K) :=
  (pss_cons (ps_if (pt_cmpR op_lt (pv 1) (pe_callB call_len_seq (by rfl) (B "len" (by decide)) (by decide +kernel) (pa_cons (pv 0) pa_nil)) (nomark _)) (pss_one (ps_ret (pe_ix ix_seq (pv 0) (pv 1) (fun _ _ => rfl)))) pss_nil)
      (pss_one (ps_ret pe_int)))
def t__law_stream (K : PySem.W.Frag) : TS := (tSeq (tAsg (tLst tNil) (gName 2))
    (tSeq (tAsg (tCB rAbs (tCons (tVar 0) tNil)) (gName 3))
    (tSeq (tFor (iRng1 (tCons (tVar 1) tNil)) (gName 4) (tSeq (tDrop (tBM K "list" rAppend (tVar 2) (tCons (tOp rModN (tVar 3) (tC (.int 1000003))) tNil)))
    (tAsg (tOp rDivX (tVar 3) (tC (.int 1000003))) (gName 3))))
    (tSeq (tIfS (tTest (tOp rGtI (tVar 3) (tC (.int 0)))) (tRet (tVar 2)) tNext)
    (tSeq (tAsg (tLst tNil) (gName 5))
    (tSeq (tAsg (tOp rAddI (tOp rModN (tVar 0) (tC (.int 2147483647))) (tC (.int 48271))) (gName 6))
    (tSeq (tAsg (tOp rAddI (tOp rModN (tVar 0) (tC (.int 2147483629))) (tC (.int 16807))) (gName 7))
    (tSeq (tFor (iRng1 (tCons (tVar 1) tNil)) (gName 4) (tSeq (tAsg (tOp rModN (tOp rMulI (tVar 6) (tC (.int 48271))) (tC (.int 2147483647))) (gName 6))
    (tSeq (tAsg (tOp rModN (tOp rAddI (tOp rMulI (tVar 7) (tC (.int 69621))) (tVar 4)) (tC (.int 2147483629))) (gName 7))
    (tDrop (tBM K "list" rAppend (tVar 5) (tCons (tOp rDivX (tOp rAddI (tVar 6) (tVar 7)) (tC (.int 7))) tNil))))))
    (tRet (tVar 5))))))))))
theorem dv__law_stream {f : Addr} {cdv : Value} {A : Around} {outer : List Env} {s : Shared} {H : Hp} {E : XK} (hr : Room 0 (A.deeper (envOfC "_law_stream" (defScope s__law_stream) s.heap.objs.size f cdv))) (B : ∀ x, x ∈ blt → mg x = none) (cs : Csts mg) :
    PSs (cxOf CX0 Pg w K mg base ["_law_cell", "_law_many", "_law_digits", "_law_left", "_law_k", "_law_found", "_law_number", "_law_other"] "_law_stream" (defScope s__law_stream) f cdv A outer s H E).nox (defBody s__law_stream) (t__law_stream K) :=
  (pss_cons (ps_set (i := 2) sc__law_stream.nd rfl (by first | exact .inl rfl | exact .inr rfl) (pe_lst pa_nil))
      (pss_cons (ps_set (i := 3) sc__law_stream.nd rfl (by first | exact .inl rfl | exact .inr rfl) (pe_callB call_abs (by rfl) (B "abs" (by decide)) (by decide +kernel) (pa_cons (pv 0) pa_nil)))
      (pss_cons (ps_for PassesOwn.never rfl (pi_range1 (by rfl) (B "range" (by decide)) (pa_cons (pv 1) pa_nil)) (pg_name (i := 4) sc__law_stream.nd rfl (by first | exact .inl rfl | exact .inr rfl)) (pss_cons (ps_expr (pe_bm PySem.F.plainAttrs_list PySem.F.slot_list_append PySem.F.type_list_append mt_append (pv 2) (pa_cons (pe_op op_modN (pv 3) pe_int) pa_nil)))
      (pss_one (ps_set (i := 3) sc__law_stream.nd rfl (by first | exact .inl rfl | exact .inr rfl) (pe_op op_fdivX (pv 3) pe_int)))))
      (pss_cons (ps_if (pt_cmpR op_gt (pv 3) pe_int (nomark _)) (pss_one (ps_ret (pv 2))) pss_nil)
      (pss_cons (ps_set (i := 5) sc__law_stream.nd rfl (by first | exact .inl rfl | exact .inr rfl) (pe_lst pa_nil))
      (pss_cons (ps_set (i := 6) sc__law_stream.nd rfl (by first | exact .inl rfl | exact .inr rfl) (pe_op op_add (pe_op op_modN (pv 0) pe_int) pe_int))
      (pss_cons (ps_set (i := 7) sc__law_stream.nd rfl (by first | exact .inl rfl | exact .inr rfl) (pe_op op_add (pe_op op_modN (pv 0) pe_int) pe_int))
      (pss_cons (ps_for PassesOwn.never rfl (pi_range1 (by rfl) (B "range" (by decide)) (pa_cons (pv 1) pa_nil)) (pg_name (i := 4) sc__law_stream.nd rfl (by first | exact .inl rfl | exact .inr rfl)) (pss_cons (ps_set (i := 6) sc__law_stream.nd rfl (by first | exact .inl rfl | exact .inr rfl) (pe_op op_modN (pe_op op_mul (pv 6) pe_int) pe_int))
      (pss_cons (ps_set (i := 7) sc__law_stream.nd rfl (by first | exact .inl rfl | exact .inr rfl) (pe_op op_modN (pe_op op_add (pe_op op_mul (pv 7) pe_int) (pv 4)) pe_int))
      (pss_one (ps_expr (pe_bm PySem.F.plainAttrs_list PySem.F.slot_list_append PySem.F.type_list_append mt_append (pv 5) (pa_cons (pe_op op_fdivX (pe_op op_add (pv 6) (pv 7)) pe_int) pa_nil)))))))
      (pss_one (ps_ret (pv 5)))))))))))
def t__law_take (K : PySem.W.Frag) : TS := (tSeq (tIfS (tTest (tOp (rEqD K) (tCB (rLenQ K) (tCons (tVar 0) tNil)) (tC (.int 0)))) (tRet (tC (.int 0))) tNext)
    (tRet (tBM0 K "list" rPop (tVar 0))))
theorem dv__law_take {f : Addr} {cdv : Value} {A : Around} {outer : List Env} {s : Shared} {H : Hp} {E : XK} (hr : Room 0 (A.deeper (envOfC "_law_take" (defScope s__law_take) s.heap.objs.size f cdv))) (B : ∀ x, x ∈ blt → mg x = none) (cs : Csts mg) :
    PSs (cxOf CX0 Pg w K mg base ["_law_xs"] "_law_take" (defScope s__law_take) f cdv A outer s H E).nox (defBody s__law_take) (t__law_take K) :=
  (pss_cons (ps_if (pt_cmpR (op_eqD hr.units) (pe_callB call_len_seq (by rfl) (B "len" (by decide)) (by decide +kernel) (pa_cons (pv 0) pa_nil)) pe_int (nomark _)) (pss_one (ps_ret pe_int)) pss_nil)
      (pss_one (ps_ret (pe_bm0 PySem.F.plainAttrs_list PySem.F.slot_list_pop PySem.F.type_list_pop mt_pop (pv 0)))))
def t__law_reduced (K : PySem.W.Frag) : TS := (tSeq (tAsg (tCB rAbs (tCons (tVar 0) tNil)) (gName 2))
    (tSeq (tAsg (tVar 1) (gName 3))
    (tSeq (tWhile (tTest (tOp (rNeD K) (tVar 3) (tC (.int 0)))) (tPar 2 3 (tCons (tVar 3) (tCons (tOp rModN (tVar 2) (tVar 3)) tNil))))
    (tRet (tTup (tCons (tOp rDivX (tVar 0) (tVar 2)) (tCons (tOp rDivX (tVar 1) (tVar 2)) tNil)))))))
theorem dv__law_reduced {f : Addr} {cdv : Value} {A : Around} {outer : List Env} {s : Shared} {H : Hp} {E : XK} (hr : Room 0 (A.deeper (envOfC "_law_reduced" (defScope s__law_reduced) s.heap.objs.size f cdv))) (B : ∀ x, x ∈ blt → mg x = none) (cs : Csts mg) :
    PSs (cxOf CX0 Pg w K mg base ["_law_top", "_law_bottom", "_law_one", "_law_other"] "_law_reduced" (defScope s__law_reduced) f cdv A outer s H E).nox (defBody s__law_reduced) (t__law_reduced K) :=
  (pss_cons (ps_set (i := 2) sc__law_reduced.nd rfl (by first | exact .inl rfl | exact .inr rfl) (pe_callB call_abs (by rfl) (B "abs" (by decide)) (by decide +kernel) (pa_cons (pv 0) pa_nil)))
      (pss_cons (ps_set (i := 3) sc__law_reduced.nd rfl (by first | exact .inl rfl | exact .inr rfl) (pv 1))
      (pss_cons (ps_while PassesOwn.never (pt_cmpR (op_neD hr.units) (pv 3) pe_int (nomark _)) (pss_one (ps_par (by rfl) sc__law_reduced.nd (i := 2) (j := 3) rfl rfl (by decide) rfl rfl (pa_cons (pv 3) (pa_cons (pe_op op_modN (pv 2) (pv 3)) pa_nil)) (by rfl))))
      (pss_one (ps_ret (pe_tup (pa_cons (pe_op op_fdivX (pv 0) (pv 2)) (pa_cons (pe_op op_fdivX (pv 1) (pv 2)) pa_nil))))))))
def t__law_weight (K : PySem.W.Frag) (Φ__law_reduced : Ph) : TS := (tSeq (tAsg (tOp rModN (tVar 0) (tC (.int 8))) (gName 1))
    (tSeq (tAsg (tOp rDivX (tVar 0) (tC (.int 8))) (gName 0))
    (tSeq (tIfS (tTest (tOp (rEqD K) (tVar 1) (tC (.int 0)))) (tRet (tTup (tCons (tC (.int 0)) (tCons (tC (.int 1)) tNil)))) tNext)
    (tSeq (tIfS (tTest (tOp rLtI (tVar 1) (tC (.int 4)))) (tRet (tTup (tCons (tOp rSubI (tOp rModN (tVar 0) (tC (.int 9))) (tC (.int 4))) (tCons (tC (.int 1)) tNil)))) tNext)
    (tSeq (tIfS (tTest (tOp rLtI (tVar 1) (tC (.int 7)))) (tRet (tCall (SpD K Φ__law_reduced) [] E0 (tCons (tOp rSubI (tOp rModN (tVar 0) (tC (.int 13))) (tC (.int 6))) (tCons (tOp rAddI (tC (.int 1)) (tOp rModN (tOp rDivX (tVar 0) (tC (.int 13))) (tC (.int 4)))) tNil)))) tNext)
    (tSeq (tAsg (tOp rSubI (tOp rPowI (tC (.int 10)) (tC (.int 9))) (tOp rModN (tOp rDivX (tVar 0) (tC (.int 2))) (tC (.int 3)))) (gName 2))
    (tSeq (tIfS (tTest (tOp (rEqD K) (tOp rModN (tVar 0) (tC (.int 2))) (tC (.int 0)))) (tAsg (tOp rSubI (tC (.int 0)) (tVar 2)) (gName 2)) tNext)
    (tRet (tCall (SpD K Φ__law_reduced) [] E0 (tCons (tVar 2) (tCons (tOp rSubI (tC (.int 1000)) (tOp rModN (tOp rDivX (tVar 0) (tC (.int 6))) (tC (.int 4)))) tNil)))))))))))
theorem dv__law_weight {f : Addr} {cdv : Value} {A : Around} {outer : List Env} {s : Shared} {H : Hp} {E : XK} (hr : Room 1 (A.deeper (envOfC "_law_weight" (defScope s__law_weight) s.heap.objs.size f cdv))) (B : ∀ x, x ∈ blt → mg x = none) (cs : Csts mg) {Φ__law_reduced : Ph} (g__law_reduced : Kn Pg w K mg base "_law_reduced" 1 ["_law_top", "_law_bottom"] Φ__law_reduced) :
    PSs (cxOf CX0 Pg w K mg base ["_law_number", "_law_way", "_law_far"] "_law_weight" (defScope s__law_weight) f cdv A outer s H E).nox (defBody s__law_weight) (t__law_weight K Φ__law_reduced) :=
  (pss_cons (ps_set (i := 1) sc__law_weight.nd rfl (by first | exact .inl rfl | exact .inr rfl) (pe_op op_modN (pv 0) pe_int))
      (pss_cons (ps_set (i := 0) sc__law_weight.nd rfl (by first | exact .inl rfl | exact .inr rfl) (pe_op op_fdivX (pv 0) pe_int))
      (pss_cons (ps_if (pt_cmpR (op_eqD hr.units) (pv 1) pe_int (nomark _)) (pss_one (ps_ret (pe_tup (pa_cons pe_int (pa_cons pe_int pa_nil))))) pss_nil)
      (pss_cons (ps_if (pt_cmpR op_lt (pv 1) pe_int (nomark _)) (pss_one (ps_ret (pe_tup (pa_cons (pe_op op_sub (pe_op op_modN (pv 0) pe_int) pe_int) (pa_cons pe_int pa_nil))))) pss_nil)
      (pss_cons (ps_if (pt_cmpR op_lt (pv 1) pe_int (nomark _)) (pss_one (ps_ret (pe_callD g__law_reduced (hr.mono (by decide)) (by rfl) (pa_cons (pe_op op_sub (pe_op op_modN (pv 0) pe_int) pe_int) (pa_cons (pe_op op_add pe_int (pe_op op_modN (pe_op op_fdivX (pv 0) pe_int) pe_int)) pa_nil))))) pss_nil)
      (pss_cons (ps_set (i := 2) sc__law_weight.nd rfl (by first | exact .inl rfl | exact .inr rfl) (pe_op op_sub (pe_op op_pow pe_int pe_int) (pe_op op_modN (pe_op op_fdivX (pv 0) pe_int) pe_int)))
      (pss_cons (ps_if (pt_cmpR (op_eqD hr.units) (pe_op op_modN (pv 0) pe_int) pe_int (nomark _)) (pss_one (ps_set (i := 2) sc__law_weight.nd rfl (by first | exact .inl rfl | exact .inr rfl) (pe_op op_sub pe_int (pv 2)))) pss_nil)
      (pss_one (ps_ret (pe_callD g__law_reduced (hr.mono (by decide)) (by rfl) (pa_cons (pv 2) (pa_cons (pe_op op_sub pe_int (pe_op op_modN (pe_op op_fdivX (pv 0) pe_int) pe_int)) pa_nil))))))))))))
def t__law_web (K : PySem.W.Frag) (Φ__law_take : Ph) (Φ__law_weight : Ph) : TS := (tSeq (tAsg (tOp rAddI (tC (.int 1)) (tOp rModN (tCall (SpD K Φ__law_take) [] E0 (tCons (tVar 0) tNil)) (tVar 1))) (gName 2))
    (tSeq (tAsg (tOp rModN (tCall (SpD K Φ__law_take) [] E0 (tCons (tVar 0) tNil)) (tC (.int 6))) (gName 3))
    (tSeq (tAsg (tLst tNil) (gName 4))
    (tSeq (tFor (iRng1 (tCons (tVar 2) tNil)) (gName 5) (tFor (iRng2 (tCons (tOp rAddI (tVar 5) (tC (.int 1))) (tCons (tVar 2) tNil))) (gName 6) (tSeq (tAsg (tCall (SpD K Φ__law_take) [] E0 (tCons (tVar 0) tNil)) (gName 7))
    (tIfS (tTest (tOp rLeI (tOp rModN (tVar 7) (tC (.int 6))) (tVar 3))) (tDrop (tBM K "list" rAppend (tVar 4) (tCons (tTup (tCons (tVar 5) (tCons (tVar 6) (tCons (tCall (SpD K Φ__law_weight) [] E0 (tCons (tOp rDivX (tVar 7) (tC (.int 6))) tNil)) tNil)))) tNil))) tNext))))
    (tRet (tTup (tCons (tVar 2) (tCons (tCB (rTupQ K) (tCons (tVar 4) tNil)) tNil))))))))
theorem dv__law_web {f : Addr} {cdv : Value} {A : Around} {outer : List Env} {s : Shared} {H : Hp} {E : XK} (hr : Room 2 (A.deeper (envOfC "_law_web" (defScope s__law_web) s.heap.objs.size f cdv))) (B : ∀ x, x ∈ blt → mg x = none) (cs : Csts mg) {Φ__law_take : Ph} {Φ__law_weight : Ph} (g__law_take : Kn Pg w K mg base "_law_take" 1 ["_law_xs"] Φ__law_take) (g__law_weight : Kn Pg w K mg base "_law_weight" 2 ["_law_number"] Φ__law_weight) :
    PSs (cxOf CX0 Pg w K mg base ["_law_xs", "_law_most", "_law_many", "_law_share", "_law_ties", "_law_a", "_law_b", "_law_number"] "_law_web" (defScope s__law_web) f cdv A outer s H E).nox (defBody s__law_web) (t__law_web K Φ__law_take Φ__law_weight) :=
  (pss_cons (ps_set (i := 2) sc__law_web.nd rfl (by first | exact .inl rfl | exact .inr rfl) (pe_op op_add pe_int (pe_op op_modN (pe_callD g__law_take (hr.mono (by decide)) (by rfl) (pa_cons (pv 0) pa_nil)) (pv 1))))
      (pss_cons (ps_set (i := 3) sc__law_web.nd rfl (by first | exact .inl rfl | exact .inr rfl) (pe_op op_modN (pe_callD g__law_take (hr.mono (by decide)) (by rfl) (pa_cons (pv 0) pa_nil)) pe_int))
      (pss_cons (ps_set (i := 4) sc__law_web.nd rfl (by first | exact .inl rfl | exact .inr rfl) (pe_lst pa_nil))
      (pss_cons (ps_for PassesOwn.never rfl (pi_range1 (by rfl) (B "range" (by decide)) (pa_cons (pv 2) pa_nil)) (pg_name (i := 5) sc__law_web.nd rfl (by first | exact .inl rfl | exact .inr rfl)) (pss_one (ps_for PassesOwn.never rfl (pi_range2 (by rfl) (B "range" (by decide)) (pa_cons (pe_op op_add (pv 5) pe_int) (pa_cons (pv 2) pa_nil))) (pg_name (i := 6) sc__law_web.nd rfl (by first | exact .inl rfl | exact .inr rfl)) (pss_cons (ps_set (i := 7) sc__law_web.nd rfl (by first | exact .inl rfl | exact .inr rfl) (pe_callD g__law_take (hr.mono (by decide)) (by rfl) (pa_cons (pv 0) pa_nil)))
      (pss_one (ps_if (pt_cmpR op_le (pe_op op_modN (pv 7) pe_int) (pv 3) (nomark _)) (pss_one (ps_expr (pe_bm PySem.F.plainAttrs_list PySem.F.slot_list_append PySem.F.type_list_append mt_append (pv 4) (pa_cons (pe_tup (pa_cons (pv 5) (pa_cons (pv 6) (pa_cons (pe_callD g__law_weight (hr.mono (by decide)) (by rfl) (pa_cons (pe_op op_fdivX (pv 7) pe_int) pa_nil)) pa_nil)))) pa_nil)))) pss_nil))))))
      (pss_one (ps_ret (pe_tup (pa_cons (pv 2) (pa_cons (pe_callTy call_tuple_of (by rfl) (B "tuple" (by decide)) (by decide +kernel) (pa_cons (pv 4) pa_nil)) pa_nil)))))))))
def t__law_text (K : PySem.W.Frag) : TS := (tSeq (tAsg (tLst (tCons (tCB rStrI (tCons (tOp (rIx K) (tVar 0) (tC (.int 0))) tNil)) tNil)) (gName 1))
    (tSeq (tFor (iTup K (tOp (rIx K) (tVar 0) (tC (.int 1)))) (gTup K 3 (gCons (gName 2) (gCons (gName 3) (gCons (gName 4) gNil)))) (tSeq (tAsg (tOp rAddStr (tOp rAddStr (tOp rAddStr (tOp rAddStr (tCB rStrI (tCons (tVar 2) tNil)) (tC (.str "-"))) (tCB rStrI (tCons (tVar 3) tNil))) (tC (.str "="))) (tCB rStrI (tCons (tOp (rIx K) (tVar 4) (tC (.int 0))) tNil))) (gName 5))
    (tSeq (tIfS (tTest (tOp rGtI (tOp (rIx K) (tVar 4) (tC (.int 1))) (tC (.int 1)))) (tAsg (tOp rAddStr (tOp rAddStr (tVar 5) (tC (.str "/"))) (tCB rStrI (tCons (tOp (rIx K) (tVar 4) (tC (.int 1))) tNil))) (gName 5)) tNext)
    (tDrop (tBM K "list" rAppend (tVar 1) (tCons (tVar 5) tNil))))))
    (tRet (tM1 (rJoinK K) (tC (.str " ")) (tVar 1)))))
theorem dv__law_text {f : Addr} {cdv : Value} {A : Around} {outer : List Env} {s : Shared} {H : Hp} {E : XK} (hr : Room 0 (A.deeper (envOfC "_law_text" (defScope s__law_text) s.heap.objs.size f cdv))) (B : ∀ x, x ∈ blt → mg x = none) (cs : Csts mg) :
    PSs (cxOf CX0 Pg w K mg base ["_law_web_here", "_law_words", "_law_a", "_law_b", "_law_weight_here", "_law_word"] "_law_text" (defScope s__law_text) f cdv A outer s H E).nox (defBody s__law_text) (t__law_text K) :=
  (pss_cons (ps_set (i := 1) sc__law_text.nd rfl (by first | exact .inl rfl | exact .inr rfl) (pe_lst (pa_cons (pe_callTy call_str_int (by rfl) (B "str" (by decide)) (by decide +kernel) (pa_cons (pe_ix ix_seq (pv 0) pe_int (fun _ _ => rfl)) pa_nil)) pa_nil)))
      (pss_cons (ps_for PassesOwn.never rfl (pi_tup (pe_ix ix_seq (pv 0) pe_int (fun _ _ => rfl))) (pg_tup rfl (pgs_cons (pg_name (i := 2) sc__law_text.nd rfl (by first | exact .inl rfl | exact .inr rfl)) (pgs_cons (pg_name (i := 3) sc__law_text.nd rfl (by first | exact .inl rfl | exact .inr rfl)) (pgs_cons (pg_name (i := 4) sc__law_text.nd rfl (by first | exact .inl rfl | exact .inr rfl)) pgs_nil)))) (pss_cons (ps_set (i := 5) sc__law_text.nd rfl (by first | exact .inl rfl | exact .inr rfl) (pe_op op_add_str (pe_op op_add_str (pe_op op_add_str (pe_op op_add_str (pe_callTy call_str_int (by rfl) (B "str" (by decide)) (by decide +kernel) (pa_cons (pv 2) pa_nil)) pe_str) (pe_callTy call_str_int (by rfl) (B "str" (by decide)) (by decide +kernel) (pa_cons (pv 3) pa_nil))) pe_str) (pe_callTy call_str_int (by rfl) (B "str" (by decide)) (by decide +kernel) (pa_cons (pe_ix ix_seq (pv 4) pe_int (fun _ _ => rfl)) pa_nil))))
      (pss_cons (ps_if (pt_cmpR op_gt (pe_ix ix_seq (pv 4) pe_int (fun _ _ => rfl)) pe_int (nomark _)) (pss_one (ps_set (i := 5) sc__law_text.nd rfl (by first | exact .inl rfl | exact .inr rfl) (pe_op op_add_str (pe_op op_add_str (pv 5) pe_str) (pe_callTy call_str_int (by rfl) (B "str" (by decide)) (by decide +kernel) (pa_cons (pe_ix ix_seq (pv 4) pe_int (fun _ _ => rfl)) pa_nil))))) pss_nil)
      (pss_one (ps_expr (pe_bm PySem.F.plainAttrs_list PySem.F.slot_list_append PySem.F.type_list_append mt_append (pv 1) (pa_cons (pv 5) pa_nil)))))))
      (pss_one (ps_ret (pe_join pe_str (pv 1))))))
def t__law_refused (K : PySem.W.Frag) (C_CutError C_NoWeb C_NoText C_TooGreat : Addr) (Φ_read_web : PhX) : TS := (tSeq (tAsg (tC .non) (gName 1))
    (tSeq (tTryH K C_NoText C_CutError 2 1 (fun W => (tCallS (SpX K C_NoText Φ_read_web) (WE W) (tCons (tVar 0) tNil))))
    (tSeq (tIfS (tOr (tTest (tOp rIsNn (tVar 1) (tC .non))) (tOr (tNot (L2.tB (tCB (rIsH K) (tCons (tVar 1) (tCons (tC (.ref C_NoText)) tNil))))) (tNot (L2.tB (tCB (rIsH K) (tCons (tVar 1) (tCons (tC (.ty "ValueError")) tNil))))))) (tRet (tC (.bl false))) tNext)
    (tRet (tAndV (tNotV (tCB (rIsH K) (tCons (tVar 1) (tCons (tC (.ref C_NoWeb)) tNil)))) (tNotV (tCB (rIsH K) (tCons (tVar 1) (tCons (tC (.ref C_TooGreat)) tNil)))))))))
theorem dv__law_refused {f : Addr} {cdv : Value} {A : Around} {outer : List Env} {s : Shared} {H : Hp} {E : XK} (hr : Room 6 (A.deeper (envOfC "_law_refused" (defScope s__law_refused) s.heap.objs.size f cdv))) (B : ∀ x, x ∈ blt → mg x = none) (cs : Csts mg) {C_CutError C_NoWeb C_NoText C_TooGreat : Addr} (cl : Cls K mg C_CutError C_NoWeb C_NoText C_TooGreat) {Φ_read_web : PhX} (g_read_web : KnX Pg w K mg base "read_web" 6 ["text"] C_NoText Φ_read_web) :
    PSs (cxOf CX0 Pg w K mg base ["_law_thing", "_law_caught", "error"] "_law_refused" (defScope s__law_refused) f cdv A outer s H E).nox (defBody s__law_refused) (t__law_refused K C_CutError C_NoWeb C_NoText C_TooGreat Φ_read_web) :=
  (pss_cons (ps_set (i := 1) sc__law_refused.nd rfl (by first | exact .inl rfl | exact .inr rfl) pe_non)
      (pss_cons (ps_try_hold (i := 2) (C := C_NoText) (tb := fun W => tDrop (tCallS (SpX K C_NoText Φ_read_web) (WE W) (tCons (tVar 0) tNil))) (ts := fun _ => (tAsg (tVar 2) (gName 1))) rfl rfl rfl sc__law_refused.nd rfl rfl ⟨rfl, by decide, .inl cl.g_CutError⟩ (fun W pn xe tk _ => pss_one (ps_expr (pe_callX g_read_web (hr.mono (by decide)) (by rfl) tk (pa_cons (pv 0) pa_nil)))) (fun a err ps => (pss_one (ps_set (i := 1) sc__law_refused.nd rfl (by first | exact .inl rfl | exact .inr rfl) (pv 2)))))
      (pss_cons (ps_if (PW.pt (pw_or (pt_cmpR op_isN (pv 1) pe_non (nomark _)) (pw_or (pt_not (pt_val (pe_callB call_isH (by rfl) (B "isinstance" (by decide)) (by decide +kernel) (pa_cons (pv 1) (pa_cons (pe_glob rfl cl.g_NoText rfl) pa_nil))))) (pw_or1 (pt_not (pt_val (pe_callB call_isH (by rfl) (B "isinstance" (by decide)) (by decide +kernel) (pa_cons (pv 1) (pa_cons (pe_bltn (by rfl) (B "ValueError" (by decide)) (by decide +kernel) rfl) pa_nil))))))))) (pss_one (ps_ret pe_bl)) pss_nil)
      (pss_one (ps_ret (pe_and (pe_not (pe_callB call_isH (by rfl) (B "isinstance" (by decide)) (by decide +kernel) (pa_cons (pv 1) (pa_cons (pe_glob rfl cl.g_NoWeb rfl) pa_nil)))) (pe_one (pe_not (pe_callB call_isH (by rfl) (B "isinstance" (by decide)) (by decide +kernel) (pa_cons (pv 1) (pa_cons (pe_glob rfl cl.g_TooGreat rfl) pa_nil)))))))))))
def t__law_is_weight (K : PySem.W.Frag) (Φ__law_reduced : Ph) : TS := (tSeq (tAsg (tVar 0) (gTup K 2 (gCons (gName 1) (gCons (gName 2) gNil))))
    (tRet (tAndV (tOp rLeI (tCB rAbs (tCons (tVar 1) tNil)) (tOp rPowI (tC (.int 10)) (tC (.int 9)))) (tAndV (tChain rLeI rLeI (tC (.int 1)) (tVar 2) (tC (.int 1000))) (tOp (rEqD K) (tCall (SpD K Φ__law_reduced) [] E0 (tCons (tVar 1) (tCons (tVar 2) tNil))) (tVar 0))))))
theorem dv__law_is_weight {f : Addr} {cdv : Value} {A : Around} {outer : List Env} {s : Shared} {H : Hp} {E : XK} (hr : Room 1 (A.deeper (envOfC "_law_is_weight" (defScope s__law_is_weight) s.heap.objs.size f cdv))) (B : ∀ x, x ∈ blt → mg x = none) (cs : Csts mg) {Φ__law_reduced : Ph} (g__law_reduced : Kn Pg w K mg base "_law_reduced" 1 ["_law_top", "_law_bottom"] Φ__law_reduced) :
    PSs (cxOf CX0 Pg w K mg base ["_law_weight_here", "_law_top", "_law_bottom"] "_law_is_weight" (defScope s__law_is_weight) f cdv A outer s H E).nox (defBody s__law_is_weight) (t__law_is_weight K Φ__law_reduced) :=
  (pss_cons (ps_asg (pv 0) (pg_tup rfl (pgs_cons (pg_name (i := 1) sc__law_is_weight.nd rfl (by first | exact .inl rfl | exact .inr rfl)) (pgs_cons (pg_name (i := 2) sc__law_is_weight.nd rfl (by first | exact .inl rfl | exact .inr rfl)) pgs_nil))))
      (pss_one (ps_ret (pe_and (pe_cmpR op_le (pe_callB call_abs (by rfl) (B "abs" (by decide)) (by decide +kernel) (pa_cons (pv 1) pa_nil)) (pe_op op_pow pe_int pe_int) (nomark _)) (pe_and (pe_chain op_le op_le pe_int (pv 2) pe_int) (pe_one (pe_cmpR (op_eqD hr.units) (pe_callD g__law_reduced (hr.mono (by decide)) (by rfl) (pa_cons (pv 1) (pa_cons (pv 2) pa_nil))) (pv 0) (nomark _))))))))
def t__law_is_web (K : PySem.W.Frag) (Φ__law_is_weight : Ph) : TS := (tSeq (tIfS (tOr (tNot (L2.tB (tCB (rIsi K) (tCons (tVar 0) (tCons (tC (.ty "tuple")) tNil))))) (tOr (tNot (tTest (tChain rLeI rLeI (tC (.int 1)) (tOp (rIx K) (tVar 0) (tC (.int 0))) (tC (.int 60))))) (tNot (L2.tB (tCB (rIsi K) (tCons (tOp (rIx K) (tVar 0) (tC (.int 1))) (tCons (tC (.ty "tuple")) tNil))))))) (tRet (tC (.bl false))) tNext)
    (tSeq (tAsg (tTup (tCons (tUn rNegI (tC (.int 1))) (tCons (tUn rNegI (tC (.int 1))) tNil))) (gName 1))
    (tSeq (tFor (iTup K (tOp (rIx K) (tVar 0) (tC (.int 1)))) (gTup K 3 (gCons (gName 2) (gCons (gName 3) (gCons (gName 4) gNil)))) (tSeq (tIfS (tOr (tNot (tTest (tChain3 rLeI rLtI rLtI (tC (.int 0)) (tVar 2) (tVar 3) (tOp (rIx K) (tVar 0) (tC (.int 0)))))) (tOr (tTest (tOp (rLeT K) (tTup (tCons (tVar 2) (tCons (tVar 3) tNil))) (tVar 1))) (tNot (L2.tB (tCall (SpD K Φ__law_is_weight) [] E0 (tCons (tVar 4) tNil)))))) (tRet (tC (.bl false))) tNext)
    (tAsg (tTup (tCons (tVar 2) (tCons (tVar 3) tNil))) (gName 1))))
    (tRet (tOp rLeI (tCB (rLenQ K) (tCons (tOp (rIx K) (tVar 0) (tC (.int 1))) tNil)) (tC (.int 170)))))))
theorem dv__law_is_web {f : Addr} {cdv : Value} {A : Around} {outer : List Env} {s : Shared} {H : Hp} {E : XK} (hr : Room 2 (A.deeper (envOfC "_law_is_web" (defScope s__law_is_web) s.heap.objs.size f cdv))) (B : ∀ x, x ∈ blt → mg x = none) (cs : Csts mg) {Φ__law_is_weight : Ph} (g__law_is_weight : Kn Pg w K mg base "_law_is_weight" 2 ["_law_weight_here"] Φ__law_is_weight) :
    PSs (cxOf CX0 Pg w K mg base ["_law_web_here", "_law_before", "_law_a", "_law_b", "_law_weight_here"] "_law_is_web" (defScope s__law_is_web) f cdv A outer s H E).nox (defBody s__law_is_web) (t__law_is_web K Φ__law_is_weight) :=
  (pss_cons (ps_if (PW.pt (pw_or (pt_not (pt_val (pe_callB call_isi (by rfl) (B "isinstance" (by decide)) (by decide +kernel) (pa_cons (pv 0) (pa_cons (pe_bltn (by rfl) (B "tuple" (by decide)) (by decide +kernel) rfl) pa_nil))))) (pw_or (pt_not (pt_chain op_le op_le pe_int (pe_ix ix_seq (pv 0) pe_int (fun _ _ => rfl)) pe_int)) (pw_or1 (pt_not (pt_val (pe_callB call_isi (by rfl) (B "isinstance" (by decide)) (by decide +kernel) (pa_cons (pe_ix ix_seq (pv 0) pe_int (fun _ _ => rfl)) (pa_cons (pe_bltn (by rfl) (B "tuple" (by decide)) (by decide +kernel) rfl) pa_nil))))))))) (pss_one (ps_ret pe_bl)) pss_nil)
      (pss_cons (ps_set (i := 1) sc__law_is_web.nd rfl (by first | exact .inl rfl | exact .inr rfl) (pe_tup (pa_cons (pe_un un_neg pe_int) (pa_cons (pe_un un_neg pe_int) pa_nil))))
      (pss_cons (ps_for PassesOwn.never rfl (pi_tup (pe_ix ix_seq (pv 0) pe_int (fun _ _ => rfl))) (pg_tup rfl (pgs_cons (pg_name (i := 2) sc__law_is_web.nd rfl (by first | exact .inl rfl | exact .inr rfl)) (pgs_cons (pg_name (i := 3) sc__law_is_web.nd rfl (by first | exact .inl rfl | exact .inr rfl)) (pgs_cons (pg_name (i := 4) sc__law_is_web.nd rfl (by first | exact .inl rfl | exact .inr rfl)) pgs_nil)))) (pss_cons (ps_if (PW.pt (pw_or (pt_not (pt_chain3 op_le op_lt op_lt pe_int (pv 2) (pv 3) (pe_ix ix_seq (pv 0) pe_int (fun _ _ => rfl)))) (pw_or (pt_cmpR (op_leT (Nat.lt_of_succ_lt (u1 hr))) (pe_tup (pa_cons (pv 2) (pa_cons (pv 3) pa_nil))) (pv 1) (nomark _)) (pw_or1 (pt_not (pt_val (pe_callD g__law_is_weight (hr.mono (by decide)) (by rfl) (pa_cons (pv 4) pa_nil)))))))) (pss_one (ps_ret pe_bl)) pss_nil)
      (pss_one (ps_set (i := 1) sc__law_is_web.nd rfl (by first | exact .inl rfl | exact .inr rfl) (pe_tup (pa_cons (pv 2) (pa_cons (pv 3) pa_nil)))))))
      (pss_one (ps_ret (pe_cmpR op_le (pe_callB call_len_seq (by rfl) (B "len" (by decide)) (by decide +kernel) (pa_cons (pe_ix ix_seq (pv 0) pe_int (fun _ _ => rfl)) pa_nil)) pe_int (nomark _)))))))
def t__law_told (K : PySem.W.Frag) (C_CutError C_NoWeb C_NoText C_TooGreat : Addr) (Φ_read_web : PhX) (Φ__law_refused : Ph) (Φ__law_text : Ph) (Φ__law_is_web : Ph) : TS := (tSeq (tAsg (tC .non) (gName 1))
    (tSeq (tTryO K C_NoText (fun W => tAsg (tCallS (SpX K C_NoText Φ_read_web) (WE W) (tCons (tVar 0) tNil)) (gName 1)) (tAsg (tC .non) (gName 1)))
    (tSeq (tIfS (tTest (tOp rIsNn (tVar 1) (tC .non))) (tRet (tCall (SpD K Φ__law_refused) [] E0 (tCons (tVar 0) tNil))) tNext)
    (tRet (tAndV (tCall (SpD K Φ__law_is_web) [] E0 (tCons (tVar 1) tNil)) (tOp rEq (tCall (SpD K Φ__law_text) [] E0 (tCons (tVar 1) tNil)) (tVar 0)))))))
theorem dv__law_told {f : Addr} {cdv : Value} {A : Around} {outer : List Env} {s : Shared} {H : Hp} {E : XK} (hr : Room 7 (A.deeper (envOfC "_law_told" (defScope s__law_told) s.heap.objs.size f cdv))) (B : ∀ x, x ∈ blt → mg x = none) (cs : Csts mg) {C_CutError C_NoWeb C_NoText C_TooGreat : Addr} (cl : Cls K mg C_CutError C_NoWeb C_NoText C_TooGreat) {Φ_read_web : PhX} {Φ__law_refused : Ph} {Φ__law_text : Ph} {Φ__law_is_web : Ph} (g_read_web : KnX Pg w K mg base "read_web" 6 ["text"] C_NoText Φ_read_web) (g__law_refused : Kn Pg w K mg base "_law_refused" 7 ["_law_thing"] Φ__law_refused) (g__law_text : Kn Pg w K mg base "_law_text" 1 ["_law_web_here"] Φ__law_text) (g__law_is_web : Kn Pg w K mg base "_law_is_web" 3 ["_law_web_here"] Φ__law_is_web) :
    PSs (cxOf CX0 Pg w K mg base ["_law_text_here", "_law_found"] "_law_told" (defScope s__law_told) f cdv A outer s H E).nox (defBody s__law_told) (t__law_told K C_CutError C_NoWeb C_NoText C_TooGreat Φ_read_web Φ__law_refused Φ__law_text Φ__law_is_web) :=
  (pss_cons (ps_set (i := 1) sc__law_told.nd rfl (by first | exact .inl rfl | exact .inr rfl) pe_non)
      (pss_cons (ps_try_only (tb := fun W => tAsg (tCallS (SpX K C_NoText Φ_read_web) (WE W) (tCons (tVar 0) tNil)) (gName 1)) (ts := fun _ _ _ => (tAsg (tC .non) (gName 1))) (Wout := fun _ _ _ _ => False) rfl rfl ⟨rfl, by decide, .inl cl.g_NoText⟩ takes0 (fun W pn xe tk _ => pss_one (ps_set (i := 1) sc__law_told.nd rfl (by first | exact .inl rfl | exact .inr rfl) (pe_callX g_read_web (hr.mono (by decide)) (by rfl) tk (pa_cons (pv 0) pa_nil)))) (fun a oe cls d pn hz hf => (pss_one (ps_set (i := 1) sc__law_told.nd rfl (by first | exact .inl rfl | exact .inr rfl) pe_non))))
      (pss_cons (ps_if (pt_cmpR op_isN (pv 1) pe_non (nomark _)) (pss_one (ps_ret (pe_callD g__law_refused (hr.mono (by decide)) (by rfl) (pa_cons (pv 0) pa_nil)))) pss_nil)
      (pss_one (ps_ret (pe_and (pe_callD g__law_is_web (hr.mono (by decide)) (by rfl) (pa_cons (pv 1) pa_nil)) (pe_one (pe_cmpR op_eq (pe_callD g__law_text (hr.mono (by decide)) (by rfl) (pa_cons (pv 1) pa_nil)) (pv 0) (nomark _)))))))))
def t__law_spoiled (K : PySem.W.Frag) (Φ__law_take : Ph) : TS := (tSeq (tAsg (tOp rModN (tCall (SpD K Φ__law_take) [] E0 (tCons (tVar 1) tNil)) (tOp rAddI (tCB rLenS (tCons (tVar 0) tNil)) (tC (.int 1)))) (gName 2))
    (tSeq (tAsg (tC (.str "0123456789 -=/+._~\n")) (gName 3))
    (tSeq (tAsg (tOp (rIx K) (tVar 3) (tOp rModN (tCall (SpD K Φ__law_take) [] E0 (tCons (tVar 1) tNil)) (tCB rLenS (tCons (tVar 3) tNil)))) (gName 4))
    (tSeq (tAsg (tOp rModN (tCall (SpD K Φ__law_take) [] E0 (tCons (tVar 1) tNil)) (tC (.int 6))) (gName 5))
    (tSeq (tAsg (tOp rAddI (tC (.int 1)) (tOp rModN (tCall (SpD K Φ__law_take) [] E0 (tCons (tVar 1) tNil)) (tC (.int 9)))) (gName 6))
    (tSeq (tIfS (tTest (tOp rLtI (tVar 5) (tC (.int 2)))) (tRet (tOp rAddStr (tOp rAddStr (tSl rSlS (tVar 0) tNoPart (tPart (tVar 2))) (tVar 4)) (tSl rSlS (tVar 0) (tPart (tVar 2)) tNoPart))) tNext)
    (tSeq (tIfS (tTest (tOp (rEqD K) (tVar 5) (tC (.int 2)))) (tRet (tOp rAddStr (tOp rAddStr (tSl rSlS (tVar 0) tNoPart (tPart (tVar 2))) (tVar 4)) (tSl rSlS (tVar 0) (tPart (tOp rAddI (tVar 2) (tC (.int 1)))) tNoPart))) tNext)
    (tSeq (tIfS (tTest (tOp (rEqD K) (tVar 5) (tC (.int 3)))) (tSeq (tAsg (tSl rSlS (tVar 0) (tPart (tVar 2)) (tPart (tOp rAddI (tVar 2) (tC (.int 2))))) (gName 7))
    (tRet (tOp rAddStr (tOp rAddStr (tOp rAddStr (tSl rSlS (tVar 0) tNoPart (tPart (tVar 2))) (tSl rSlS (tVar 7) (tPart (tC (.int 1))) tNoPart)) (tSl rSlS (tVar 7) tNoPart (tPart (tC (.int 1))))) (tSl rSlS (tVar 0) (tPart (tOp rAddI (tVar 2) (tC (.int 2)))) tNoPart)))) tNext)
    (tSeq (tIfS (tTest (tOp (rEqD K) (tVar 5) (tC (.int 4)))) (tRet (tOp rAddStr (tSl rSlS (tVar 0) tNoPart (tPart (tOp rAddI (tVar 2) (tVar 6)))) (tSl rSlS (tVar 0) (tPart (tVar 2)) tNoPart))) tNext)
    (tRet (tOp rAddStr (tSl rSlS (tVar 0) tNoPart (tPart (tVar 2))) (tSl rSlS (tVar 0) (tPart (tOp rAddI (tVar 2) (tVar 6))) tNoPart))))))))))))
theorem dv__law_spoiled {f : Addr} {cdv : Value} {A : Around} {outer : List Env} {s : Shared} {H : Hp} {E : XK} (hr : Room 1 (A.deeper (envOfC "_law_spoiled" (defScope s__law_spoiled) s.heap.objs.size f cdv))) (B : ∀ x, x ∈ blt → mg x = none) (cs : Csts mg) {Φ__law_take : Ph} (g__law_take : Kn Pg w K mg base "_law_take" 1 ["_law_xs"] Φ__law_take) :
    PSs (cxOf CX0 Pg w K mg base ["_law_text_here", "_law_xs", "_law_at", "_law_signs", "_law_sign", "_law_way", "_law_far", "_law_two"] "_law_spoiled" (defScope s__law_spoiled) f cdv A outer s H E).nox (defBody s__law_spoiled) (t__law_spoiled K Φ__law_take) :=
  (pss_cons (ps_set (i := 2) sc__law_spoiled.nd rfl (by first | exact .inl rfl | exact .inr rfl) (pe_op op_modN (pe_callD g__law_take (hr.mono (by decide)) (by rfl) (pa_cons (pv 1) pa_nil)) (pe_op op_add (pe_callB cr_lenS (by rfl) (B "len" (by decide)) (by decide +kernel) (pa_cons (pv 0) pa_nil)) pe_int)))
      (pss_cons (ps_set (i := 3) sc__law_spoiled.nd rfl (by first | exact .inl rfl | exact .inr rfl) pe_str)
      (pss_cons (ps_set (i := 4) sc__law_spoiled.nd rfl (by first | exact .inl rfl | exact .inr rfl) (pe_ix ix_seq (pv 3) (pe_op op_modN (pe_callD g__law_take (hr.mono (by decide)) (by rfl) (pa_cons (pv 1) pa_nil)) (pe_callB cr_lenS (by rfl) (B "len" (by decide)) (by decide +kernel) (pa_cons (pv 3) pa_nil))) (fun _ _ => rfl)))
      (pss_cons (ps_set (i := 5) sc__law_spoiled.nd rfl (by first | exact .inl rfl | exact .inr rfl) (pe_op op_modN (pe_callD g__law_take (hr.mono (by decide)) (by rfl) (pa_cons (pv 1) pa_nil)) pe_int))
      (pss_cons (ps_set (i := 6) sc__law_spoiled.nd rfl (by first | exact .inl rfl | exact .inr rfl) (pe_op op_add pe_int (pe_op op_modN (pe_callD g__law_take (hr.mono (by decide)) (by rfl) (pa_cons (pv 1) pa_nil)) pe_int)))
      (pss_cons (ps_if (pt_cmpR op_lt (pv 5) pe_int (nomark _)) (pss_one (ps_ret (pe_op op_add_str (pe_op op_add_str (pe_slice sl_str (pv 0) po_none (po_some (pv 2))) (pv 4)) (pe_slice sl_str (pv 0) (po_some (pv 2)) po_none)))) pss_nil)
      (pss_cons (ps_if (pt_cmpR (op_eqD hr.units) (pv 5) pe_int (nomark _)) (pss_one (ps_ret (pe_op op_add_str (pe_op op_add_str (pe_slice sl_str (pv 0) po_none (po_some (pv 2))) (pv 4)) (pe_slice sl_str (pv 0) (po_some (pe_op op_add (pv 2) pe_int)) po_none)))) pss_nil)
      (pss_cons (ps_if (pt_cmpR (op_eqD hr.units) (pv 5) pe_int (nomark _)) (pss_cons (ps_set (i := 7) sc__law_spoiled.nd rfl (by first | exact .inl rfl | exact .inr rfl) (pe_slice sl_str (pv 0) (po_some (pv 2)) (po_some (pe_op op_add (pv 2) pe_int))))
      (pss_one (ps_ret (pe_op op_add_str (pe_op op_add_str (pe_op op_add_str (pe_slice sl_str (pv 0) po_none (po_some (pv 2))) (pe_slice sl_str (pv 7) (po_some pe_int) po_none)) (pe_slice sl_str (pv 7) po_none (po_some pe_int))) (pe_slice sl_str (pv 0) (po_some (pe_op op_add (pv 2) pe_int)) po_none))))) pss_nil)
      (pss_cons (ps_if (pt_cmpR (op_eqD hr.units) (pv 5) pe_int (nomark _)) (pss_one (ps_ret (pe_op op_add_str (pe_slice sl_str (pv 0) po_none (po_some (pe_op op_add (pv 2) (pv 6)))) (pe_slice sl_str (pv 0) (po_some (pv 2)) po_none)))) pss_nil)
      (pss_one (ps_ret (pe_op op_add_str (pe_slice sl_str (pv 0) po_none (po_some (pv 2))) (pe_slice sl_str (pv 0) (po_some (pe_op op_add (pv 2) (pv 6))) po_none)))))))))))))
def t__law_none (K : PySem.W.Frag) : TS := (tSeq (tAsg (tLst (tCons (tC (.str "")) (tCons (tC (.str " ")) (tCons (tC (.str "0")) (tCons (tC (.str "61")) (tCons (tC (.str "4 ")) (tCons (tC (.str " 4")) (tCons (tC (.str "04")) (tCons (tC (.str "+4")) (tCons (tC (.str "-4")) (tCons (tC (.str "4.0")) (tCons (tC (.str "four")) (tCons (tC (.str "2  0-1=1")) (tCons (tC (.str "2 0-1=1 ")) (tCons (tC (.str "2 0-1")) (tCons (tC (.str "2 0-1=")) tNil)))))))))))))))) (gName 1))
    (tSeq (tAsg (tOp rCat (tVar 1) (tLst (tCons (tC (.str "2 0=1")) (tCons (tC (.str "2 0-1-1")) (tCons (tC (.str "2 0-1=1=1")) (tCons (tC (.str "2 1-0=1")) (tCons (tC (.str "2 0-0=1")) (tCons (tC (.str "2 0-2=1")) (tCons (tC (.str "2 0--1=1")) (tCons (tC (.str "2 0-1=+1")) (tCons (tC (.str "2 0-1=01")) tNil))))))))))) (gName 1))
    (tSeq (tAsg (tOp rCat (tVar 1) (tLst (tCons (tC (.str "2 00-1=1")) (tCons (tC (.str "2 0-1=-0")) (tCons (tC (.str "2 0-1=0/2")) (tCons (tC (.str "2 0-1=2/2")) (tCons (tC (.str "2 0-1=1/1")) (tCons (tC (.str "2 0-1=1/0")) (tCons (tC (.str "2 0-1=1/-2")) tNil))))))))) (gName 1))
    (tSeq (tAsg (tOp rCat (tVar 1) (tLst (tCons (tC (.str "2 0-1=1/2/3")) (tCons (tC (.str "2 0-1=1/1001")) (tCons (tC (.str "2 0-1=1000000001")) (tCons (tC (.str "2 0-1=-1000000001")) (tCons (tOp rAddStr (tC (.str "2 0-1=")) (tOp rRepS (tC (.str "9")) (tC (.int 40)))) tNil))))))) (gName 1))
    (tSeq (tAsg (tOp rCat (tVar 1) (tLst (tCons (tC (.str "2 0-1=1.5")) (tCons (tC (.str "2 0-1=--1")) tNil)))) (gName 1))
    (tSeq (tAsg (tOp rCat (tVar 1) (tLst (tCons (tC (.str "3 0-2=1 0-1=1")) (tCons (tC (.str "3 0-1=1 0-1=1")) (tCons (tC (.str "3 0-1=1 0-1=2")) (tCons (tC (.str "3 0-1=1,0-2=1")) (tCons (tC (.str "3 0-1=1\n0-2=1")) (tCons (tC (.str "2 0-1= 1")) tNil)))))))) (gName 1))
    (tSeq (tAsg (tOp rRepS (tC (.str "9")) (tC (.int 5000))) (gName 2))
    (tSeq (tAsg (tOp rCat (tVar 1) (tLst (tCons (tC (.str "4\n")) (tCons (tC (.str "\n4")) (tCons (tC (.str "2 0-1=1\n")) (tCons (tC (.str "\n2 0-1=1")) (tCons (tC (.str "2\n0-1=1")) (tCons (tOp rAddStr (tC (.str "2 0-1=")) (tVar 2)) (tCons (tVar 2) (tCons (tOp rAddStr (tOp rAddStr (tC (.str "2 0-")) (tVar 2)) (tC (.str "=1"))) tNil)))))))))) (gName 1))
    (tSeq (tAsg (tOp rCat (tVar 1) (tLst (tCons (tOp rAddStr (tC (.str "2 0-1=1/")) (tVar 2)) (tCons (tOp rAddStr (tC (.str "2 0-1=-")) (tVar 2)) (tCons (tOp rAddStr (tVar 2) (tC (.str " 0-1=1"))) (tCons (tOp rAddStr (tOp rAddStr (tC (.str "2 ")) (tVar 2)) (tC (.str "-1=1"))) tNil)))))) (gName 1))
    (tRet (tOp (rIx K) (tVar 1) (tOp rModN (tVar 0) (tCB (rLenQ K) (tCons (tVar 1) tNil))))))))))))))
theorem dv__law_none {f : Addr} {cdv : Value} {A : Around} {outer : List Env} {s : Shared} {H : Hp} {E : XK} (hr : Room 0 (A.deeper (envOfC "_law_none" (defScope s__law_none) s.heap.objs.size f cdv))) (B : ∀ x, x ∈ blt → mg x = none) (cs : Csts mg) :
    PSs (cxOf CX0 Pg w K mg base ["_law_number", "_law_some", "_law_nines"] "_law_none" (defScope s__law_none) f cdv A outer s H E).nox (defBody s__law_none) (t__law_none K) :=
  (pss_cons (ps_set (i := 1) sc__law_none.nd rfl (by first | exact .inl rfl | exact .inr rfl) (pe_lst (pa_cons pe_str (pa_cons pe_str (pa_cons pe_str (pa_cons pe_str (pa_cons pe_str (pa_cons pe_str (pa_cons pe_str (pa_cons pe_str (pa_cons pe_str (pa_cons pe_str (pa_cons pe_str (pa_cons pe_str (pa_cons pe_str (pa_cons pe_str (pa_cons pe_str pa_nil)))))))))))))))))
      (pss_cons (ps_set (i := 1) sc__law_none.nd rfl (by first | exact .inl rfl | exact .inr rfl) (pe_op op_cat (pv 1) (pe_lst (pa_cons pe_str (pa_cons pe_str (pa_cons pe_str (pa_cons pe_str (pa_cons pe_str (pa_cons pe_str (pa_cons pe_str (pa_cons pe_str (pa_cons pe_str pa_nil))))))))))))
      (pss_cons (ps_set (i := 1) sc__law_none.nd rfl (by first | exact .inl rfl | exact .inr rfl) (pe_op op_cat (pv 1) (pe_lst (pa_cons pe_str (pa_cons pe_str (pa_cons pe_str (pa_cons pe_str (pa_cons pe_str (pa_cons pe_str (pa_cons pe_str pa_nil))))))))))
      (pss_cons (ps_set (i := 1) sc__law_none.nd rfl (by first | exact .inl rfl | exact .inr rfl) (pe_op op_cat (pv 1) (pe_lst (pa_cons pe_str (pa_cons pe_str (pa_cons pe_str (pa_cons pe_str (pa_cons (pe_op op_add_str pe_str (pe_op op_repS pe_str pe_int)) pa_nil))))))))
      (pss_cons (ps_set (i := 1) sc__law_none.nd rfl (by first | exact .inl rfl | exact .inr rfl) (pe_op op_cat (pv 1) (pe_lst (pa_cons pe_str (pa_cons pe_str pa_nil)))))
      (pss_cons (ps_set (i := 1) sc__law_none.nd rfl (by first | exact .inl rfl | exact .inr rfl) (pe_op op_cat (pv 1) (pe_lst (pa_cons pe_str (pa_cons pe_str (pa_cons pe_str (pa_cons pe_str (pa_cons pe_str (pa_cons pe_str pa_nil)))))))))
      (pss_cons (ps_set (i := 2) sc__law_none.nd rfl (by first | exact .inl rfl | exact .inr rfl) (pe_op op_repS pe_str pe_int))
      (pss_cons (ps_set (i := 1) sc__law_none.nd rfl (by first | exact .inl rfl | exact .inr rfl) (pe_op op_cat (pv 1) (pe_lst (pa_cons pe_str (pa_cons pe_str (pa_cons pe_str (pa_cons pe_str (pa_cons pe_str (pa_cons (pe_op op_add_str pe_str (pv 2)) (pa_cons (pv 2) (pa_cons (pe_op op_add_str (pe_op op_add_str pe_str (pv 2)) pe_str) pa_nil)))))))))))
      (pss_cons (ps_set (i := 1) sc__law_none.nd rfl (by first | exact .inl rfl | exact .inr rfl) (pe_op op_cat (pv 1) (pe_lst (pa_cons (pe_op op_add_str pe_str (pv 2)) (pa_cons (pe_op op_add_str pe_str (pv 2)) (pa_cons (pe_op op_add_str (pv 2) pe_str) (pa_cons (pe_op op_add_str (pe_op op_add_str pe_str (pv 2)) pe_str) pa_nil)))))))
      (pss_one (ps_ret (pe_ix ix_seq (pv 1) (pe_op op_modN (pv 0) (pe_callB call_len_seq (by rfl) (B "len" (by decide)) (by decide +kernel) (pa_cons (pv 1) pa_nil))) (fun _ _ => rfl)))))))))))))
def t__law_ties_changed (K : PySem.W.Frag) (Φ__law_text : Ph) (Φ__law_take : Ph) : TS := (tSeq (tAsg (tM1 rSpl (tCall (SpD K Φ__law_text) [] E0 (tCons (tVar 0) tNil)) (tC (.str " "))) (gName 2))
    (tSeq (tIfS (tTest (tOp rLtI (tCB (rLenQ K) (tCons (tVar 2) tNil)) (tC (.int 3)))) (tRet (tOp rAddStr (tOp rAddStr (tOp rAddStr (tOp (rIx K) (tVar 2) (tC (.int 0))) (tC (.str " 0-"))) (tOp (rIx K) (tVar 2) (tC (.int 0)))) (tC (.str "=1")))) tNext)
    (tSeq (tAsg (tOp rAddI (tC (.int 1)) (tOp rModN (tCall (SpD K Φ__law_take) [] E0 (tCons (tVar 1) tNil)) (tOp rSubI (tCB (rLenQ K) (tCons (tVar 2) tNil)) (tC (.int 2))))) (gName 3))
    (tSeq (tAsg (tOp rModN (tCall (SpD K Φ__law_take) [] E0 (tCons (tVar 1) tNil)) (tC (.int 3))) (gName 4))
    (tSeq (tIfS (tTest (tOp (rEqD K) (tVar 4) (tC (.int 0)))) (tAsg (tOp rCat (tOp rCat (tSl (rSlL K) (tVar 2) tNoPart (tPart (tVar 3))) (tLst (tCons (tOp (rIx K) (tVar 2) (tOp rAddI (tVar 3) (tC (.int 1)))) (tCons (tOp (rIx K) (tVar 2) (tVar 3)) tNil)))) (tSl (rSlL K) (tVar 2) (tPart (tOp rAddI (tVar 3) (tC (.int 2)))) tNoPart)) (gName 2)) (tIfS (tTest (tOp (rEqD K) (tVar 4) (tC (.int 1)))) (tAsg (tOp rCat (tOp rCat (tSl (rSlL K) (tVar 2) tNoPart (tPart (tVar 3))) (tLst (tCons (tOp (rIx K) (tVar 2) (tVar 3)) tNil))) (tSl (rSlL K) (tVar 2) (tPart (tVar 3)) tNoPart)) (gName 2)) (tSeq (tAsg (tOp (rIx K) (tOp (rIx K) (tVar 0) (tC (.int 1))) (tOp rSubI (tVar 3) (tC (.int 1)))) (gTup K 3 (gCons (gName 5) (gCons (gName 6) (gCons (gName 7) gNil)))))
    (tAsg (tOp rAddStr (tOp rAddStr (tOp rAddStr (tCB rStrI (tCons (tVar 6) tNil)) (tC (.str "-"))) (tCB rStrI (tCons (tVar 5) tNil))) (tSl rSlS (tOp (rIx K) (tVar 2) (tVar 3)) (tPart (tM1 rIdxS (tOp (rIx K) (tVar 2) (tVar 3)) (tC (.str "=")))) tNoPart)) (gSub (tVar 2) (tVar 3) rSetL)))))
    (tRet (tM1 (rJoinK K) (tC (.str " ")) (tVar 2))))))))
theorem dv__law_ties_changed {f : Addr} {cdv : Value} {A : Around} {outer : List Env} {s : Shared} {H : Hp} {E : XK} (hr : Room 1 (A.deeper (envOfC "_law_ties_changed" (defScope s__law_ties_changed) s.heap.objs.size f cdv))) (B : ∀ x, x ∈ blt → mg x = none) (cs : Csts mg) {Φ__law_text : Ph} {Φ__law_take : Ph} (g__law_text : Kn Pg w K mg base "_law_text" 1 ["_law_web_here"] Φ__law_text) (g__law_take : Kn Pg w K mg base "_law_take" 1 ["_law_xs"] Φ__law_take) :
    PSs (cxOf CX0 Pg w K mg base ["_law_web_here", "_law_xs", "_law_words", "_law_at", "_law_way", "_law_a", "_law_b", "_law_weight_here"] "_law_ties_changed" (defScope s__law_ties_changed) f cdv A outer s H E).nox (defBody s__law_ties_changed) (t__law_ties_changed K Φ__law_text Φ__law_take) :=
  (pss_cons (ps_set (i := 2) sc__law_ties_changed.nd rfl (by first | exact .inl rfl | exact .inr rfl) (pe_spl (pe_callD g__law_text (hr.mono (by decide)) (by rfl) (pa_cons (pv 0) pa_nil)) pe_str))
      (pss_cons (ps_if (pt_cmpR op_lt (pe_callB call_len_seq (by rfl) (B "len" (by decide)) (by decide +kernel) (pa_cons (pv 2) pa_nil)) pe_int (nomark _)) (pss_one (ps_ret (pe_op op_add_str (pe_op op_add_str (pe_op op_add_str (pe_ix ix_seq (pv 2) pe_int (fun _ _ => rfl)) pe_str) (pe_ix ix_seq (pv 2) pe_int (fun _ _ => rfl))) pe_str))) pss_nil)
      (pss_cons (ps_set (i := 3) sc__law_ties_changed.nd rfl (by first | exact .inl rfl | exact .inr rfl) (pe_op op_add pe_int (pe_op op_modN (pe_callD g__law_take (hr.mono (by decide)) (by rfl) (pa_cons (pv 1) pa_nil)) (pe_op op_sub (pe_callB call_len_seq (by rfl) (B "len" (by decide)) (by decide +kernel) (pa_cons (pv 2) pa_nil)) pe_int))))
      (pss_cons (ps_set (i := 4) sc__law_ties_changed.nd rfl (by first | exact .inl rfl | exact .inr rfl) (pe_op op_modN (pe_callD g__law_take (hr.mono (by decide)) (by rfl) (pa_cons (pv 1) pa_nil)) pe_int))
      (pss_cons (ps_if (pt_cmpR (op_eqD hr.units) (pv 4) pe_int (nomark _)) (pss_one (ps_set (i := 2) sc__law_ties_changed.nd rfl (by first | exact .inl rfl | exact .inr rfl) (pe_op op_cat (pe_op op_cat (pe_slice sl_list (pv 2) po_none (po_some (pv 3))) (pe_lst (pa_cons (pe_ix ix_seq (pv 2) (pe_op op_add (pv 3) pe_int) (fun _ _ => rfl)) (pa_cons (pe_ix ix_seq (pv 2) (pv 3) (fun _ _ => rfl)) pa_nil)))) (pe_slice sl_list (pv 2) (po_some (pe_op op_add (pv 3) pe_int)) po_none)))) (pss_one (ps_if (pt_cmpR (op_eqD hr.units) (pv 4) pe_int (nomark _)) (pss_one (ps_set (i := 2) sc__law_ties_changed.nd rfl (by first | exact .inl rfl | exact .inr rfl) (pe_op op_cat (pe_op op_cat (pe_slice sl_list (pv 2) po_none (po_some (pv 3))) (pe_lst (pa_cons (pe_ix ix_seq (pv 2) (pv 3) (fun _ _ => rfl)) pa_nil))) (pe_slice sl_list (pv 2) (po_some (pv 3)) po_none)))) (pss_cons (ps_asg (pe_ix ix_seq (pe_ix ix_seq (pv 0) pe_int (fun _ _ => rfl)) (pe_op op_sub (pv 3) pe_int) (fun _ _ => rfl)) (pg_tup rfl (pgs_cons (pg_name (i := 5) sc__law_ties_changed.nd rfl (by first | exact .inl rfl | exact .inr rfl)) (pgs_cons (pg_name (i := 6) sc__law_ties_changed.nd rfl (by first | exact .inl rfl | exact .inr rfl)) (pgs_cons (pg_name (i := 7) sc__law_ties_changed.nd rfl (by first | exact .inl rfl | exact .inr rfl)) pgs_nil)))))
      (pss_one (ps_asg (pe_op op_add_str (pe_op op_add_str (pe_op op_add_str (pe_callTy call_str_int (by rfl) (B "str" (by decide)) (by decide +kernel) (pa_cons (pv 6) pa_nil)) pe_str) (pe_callTy call_str_int (by rfl) (B "str" (by decide)) (by decide +kernel) (pa_cons (pv 5) pa_nil))) (pe_slice sl_str (pe_ix ix_seq (pv 2) (pv 3) (fun _ _ => rfl)) (po_some (pe_idxS rfl (pe_ix ix_seq (pv 2) (pv 3) (fun _ _ => rfl)) pe_str)) po_none)) (pg_sub (pv 2) (pv 3) set_list)))))))
      (pss_one (ps_ret (pe_join pe_str (pv 2)))))))))
def t__law_full (K : PySem.W.Frag) (C_CutError C_NoWeb C_NoText C_TooGreat : Addr) (Φ__law_stream : Ph) (Φ__law_take : Ph) (Φ__law_weight : Ph) (Φ__law_refused : Ph) (Φ__law_text : Ph) (Φ_read_web : PhX) : TS := (tSeq (tAsg (tCall (SpD K Φ__law_stream) [] E0 (tCons (tVar 0) (tCons (tC (.int 172)) tNil))) (gName 1))
    (tSeq (tAsg (tOp rModN (tCall (SpD K Φ__law_take) [] E0 (tCons (tVar 1) tNil)) (tC (.int 171))) (gName 2))
    (tSeq (tAsg (tLst tNil) (gName 3))
    (tSeq (tFor (iRng1 (tCons (tC (.int 19)) tNil)) (gName 4) (tFor (iRng2 (tCons (tOp rAddI (tVar 4) (tC (.int 1))) (tCons (tC (.int 19)) tNil))) (gName 5) (tDrop (tBM K "list" rAppend (tVar 3) (tCons (tTup (tCons (tVar 4) (tCons (tVar 5) (tCons (tCall (SpD K Φ__law_weight) [] E0 (tCons (tCall (SpD K Φ__law_take) [] E0 (tCons (tVar 1) tNil)) tNil)) tNil)))) tNil)))))
    (tSeq (tIfS (tNot (L2.tB (tCall (SpD K Φ__law_refused) [] E0 (tCons (tCall (SpD K Φ__law_text) [] E0 (tCons (tTup (tCons (tC (.int 19)) (tCons (tCB (rTupQ K) (tCons (tVar 3) tNil)) tNil))) tNil)) tNil)))) (tRet (tC (.bl false))) tNext)
    (tSeq (tAsg (tTup (tCons (tC (.int 19)) (tCons (tCB (rTupQ K) (tCons (tOp rCat (tSl (rSlL K) (tVar 3) tNoPart (tPart (tVar 2))) (tSl (rSlL K) (tVar 3) (tPart (tOp rAddI (tVar 2) (tC (.int 1)))) tNoPart)) tNil)) tNil))) (gName 6))
    (tRet (tOp (rEqD K) (tCall (SpX K C_NoText Φ_read_web) [] E0 (tCons (tCall (SpD K Φ__law_text) [] E0 (tCons (tVar 6) tNil)) tNil)) (tVar 6)))))))))
theorem dv__law_full {f : Addr} {cdv : Value} {A : Around} {outer : List Env} {s : Shared} {H : Hp} {E : XK} (hr : Room 7 (A.deeper (envOfC "_law_full" (defScope s__law_full) s.heap.objs.size f cdv))) (B : ∀ x, x ∈ blt → mg x = none) (cs : Csts mg) {C_CutError C_NoWeb C_NoText C_TooGreat : Addr} (cl : Cls K mg C_CutError C_NoWeb C_NoText C_TooGreat) {Φ__law_stream : Ph} {Φ__law_take : Ph} {Φ__law_weight : Ph} {Φ__law_refused : Ph} {Φ__law_text : Ph} {Φ_read_web : PhX} (g__law_stream : Kn Pg w K mg base "_law_stream" 1 ["_law_cell", "_law_many"] Φ__law_stream) (g__law_take : Kn Pg w K mg base "_law_take" 1 ["_law_xs"] Φ__law_take) (g__law_weight : Kn Pg w K mg base "_law_weight" 2 ["_law_number"] Φ__law_weight) (g__law_refused : Kn Pg w K mg base "_law_refused" 7 ["_law_thing"] Φ__law_refused) (g__law_text : Kn Pg w K mg base "_law_text" 1 ["_law_web_here"] Φ__law_text) (g_read_web : KnX Pg w K mg base "read_web" 6 ["text"] C_NoText Φ_read_web) :
    PSs (cxOf CX0 Pg w K mg base ["_law_cell", "_law_xs", "_law_left_out", "_law_ties", "_law_a", "_law_b", "_law_web_here"] "_law_full" (defScope s__law_full) f cdv A outer s H E).nox (defBody s__law_full) (t__law_full K C_CutError C_NoWeb C_NoText C_TooGreat Φ__law_stream Φ__law_take Φ__law_weight Φ__law_refused Φ__law_text Φ_read_web) :=
  (pss_cons (ps_set (i := 1) sc__law_full.nd rfl (by first | exact .inl rfl | exact .inr rfl) (pe_callD g__law_stream (hr.mono (by decide)) (by rfl) (pa_cons (pv 0) (pa_cons pe_int pa_nil))))
      (pss_cons (ps_set (i := 2) sc__law_full.nd rfl (by first | exact .inl rfl | exact .inr rfl) (pe_op op_modN (pe_callD g__law_take (hr.mono (by decide)) (by rfl) (pa_cons (pv 1) pa_nil)) pe_int))
      (pss_cons (ps_set (i := 3) sc__law_full.nd rfl (by first | exact .inl rfl | exact .inr rfl) (pe_lst pa_nil))
      (pss_cons (ps_for PassesOwn.never rfl (pi_range1 (by rfl) (B "range" (by decide)) (pa_cons pe_int pa_nil)) (pg_name (i := 4) sc__law_full.nd rfl (by first | exact .inl rfl | exact .inr rfl)) (pss_one (ps_for PassesOwn.never rfl (pi_range2 (by rfl) (B "range" (by decide)) (pa_cons (pe_op op_add (pv 4) pe_int) (pa_cons pe_int pa_nil))) (pg_name (i := 5) sc__law_full.nd rfl (by first | exact .inl rfl | exact .inr rfl)) (pss_one (ps_expr (pe_bm PySem.F.plainAttrs_list PySem.F.slot_list_append PySem.F.type_list_append mt_append (pv 3) (pa_cons (pe_tup (pa_cons (pv 4) (pa_cons (pv 5) (pa_cons (pe_callD g__law_weight (hr.mono (by decide)) (by rfl) (pa_cons (pe_callD g__law_take (hr.mono (by decide)) (by rfl) (pa_cons (pv 1) pa_nil)) pa_nil)) pa_nil)))) pa_nil)))))))
      (pss_cons (ps_if (pt_not (pt_val (pe_callD g__law_refused (hr.mono (by decide)) (by rfl) (pa_cons (pe_callD g__law_text (hr.mono (by decide)) (by rfl) (pa_cons (pe_tup (pa_cons pe_int (pa_cons (pe_callTy call_tuple_of (by rfl) (B "tuple" (by decide)) (by decide +kernel) (pa_cons (pv 3) pa_nil)) pa_nil))) pa_nil)) pa_nil)))) (pss_one (ps_ret pe_bl)) pss_nil)
      (pss_cons (ps_set (i := 6) sc__law_full.nd rfl (by first | exact .inl rfl | exact .inr rfl) (pe_tup (pa_cons pe_int (pa_cons (pe_callTy call_tuple_of (by rfl) (B "tuple" (by decide)) (by decide +kernel) (pa_cons (pe_op op_cat (pe_slice sl_list (pv 3) po_none (po_some (pv 2))) (pe_slice sl_list (pv 3) (po_some (pe_op op_add (pv 2) pe_int)) po_none)) pa_nil)) pa_nil))))
      (pss_one (ps_ret (pe_cmpR (op_eqD hr.units) (pe_callX0 g_read_web (hr.mono (by decide)) (by rfl) (pa_cons (pe_callD g__law_text (hr.mono (by decide)) (by rfl) (pa_cons (pv 6) pa_nil)) pa_nil)) (pv 6) (nomark _))))))))))
def t_law (K : PySem.W.Frag) (C_CutError C_NoWeb C_NoText C_TooGreat : Addr) (Φ__law_stream : Ph) (Φ__law_cell_at : Ph) (Φ__law_web : Ph) (Φ__law_told : Ph) (Φ__law_text : Ph) (Φ__law_spoiled : Ph) (Φ__law_refused : Ph) (Φ__law_ties_changed : Ph) (Φ__law_none : Ph) (Φ__law_take : Ph) (Φ__law_full : Ph) (Φ_read_web : PhX) : TS := (tSeq (tFor (iRng1 (tCons (tCB rMaxI (tCons (tC (.int 4)) (tCons (tCB rMinI (tCons (tC (.int 12)) (tCons (tCB (rLenQ K) (tCons (tVar 0) tNil)) tNil))) tNil))) tNil)) (gName 1) (tSeq (tAsg (tCall (SpD K Φ__law_stream) [] E0 (tCons (tOp rAddI (tCall (SpD K Φ__law_cell_at) [] E0 (tCons (tVar 0) (tCons (tVar 1) tNil))) (tVar 1)) (tCons (tC (.int 50)) tNil))) (gName 2))
    (tSeq (tAsg (tCall (SpD K Φ__law_web) [] E0 (tCons (tVar 2) (tCons (tC (.int 9)) tNil))) (gName 3))
    (tSeq (tIfS (tOr (tNot (L2.tB (tCall (SpD K Φ__law_told) [] E0 (tCons (tCall (SpD K Φ__law_spoiled) [] E0 (tCons (tCall (SpD K Φ__law_text) [] E0 (tCons (tVar 3) tNil)) (tCons (tVar 2) tNil))) tNil)))) (tNot (L2.tB (tCall (SpD K Φ__law_told) [] E0 (tCons (tCall (SpD K Φ__law_text) [] E0 (tCons (tVar 3) tNil)) tNil))))) (tRet (tC (.bl false))) tNext)
    (tSeq (tIfS (tOr (tNot (L2.tB (tCall (SpD K Φ__law_refused) [] E0 (tCons (tOp rAddStr (tCall (SpD K Φ__law_text) [] E0 (tCons (tVar 3) tNil)) (tC (.str "\n"))) tNil)))) (tNot (L2.tB (tCall (SpD K Φ__law_refused) [] E0 (tCons (tOp rAddStr (tC (.str "\n")) (tCall (SpD K Φ__law_text) [] E0 (tCons (tVar 3) tNil))) tNil))))) (tRet (tC (.bl false))) tNext)
    (tSeq (tAsg (tCall (SpD K Φ__law_stream) [] E0 (tCons (tOp rAddI (tOp rAddI (tCall (SpD K Φ__law_cell_at) [] E0 (tCons (tVar 0) (tCons (tVar 1) tNil))) (tOp rMulI (tC (.int 3)) (tVar 1))) (tC (.int 1))) (tCons (tC (.int 3)) tNil))) (gName 4))
    (tIfS (tOr (tNot (L2.tB (tCall (SpD K Φ__law_refused) [] E0 (tCons (tCall (SpD K Φ__law_none) [] E0 (tCons (tCall (SpD K Φ__law_take) [] E0 (tCons (tVar 4) tNil)) tNil)) tNil)))) (tNot (L2.tB (tCall (SpD K Φ__law_refused) [] E0 (tCons (tCall (SpD K Φ__law_ties_changed) [] E0 (tCons (tVar 3) (tCons (tVar 4) tNil))) tNil))))) (tRet (tC (.bl false))) tNext)))))))
    (tSeq (tIfS (tNot (L2.tB (tCall (SpD K Φ__law_full) [] E0 (tCons (tCall (SpD K Φ__law_cell_at) [] E0 (tCons (tVar 0) (tCons (tC (.int 0)) tNil))) tNil)))) (tRet (tC (.bl false))) tNext)
    (tSeq (tFor (iList K (tLst (tCons (tC .non) (tCons (tC (.int 3)) (tCons (tC (.bl true)) (tCons (tLst (tCons (tC (.str "2 0-1=1")) tNil)) (tCons (tTup (tCons (tC (.str "2")) (tCons (tC (.str "0-1=1")) tNil))) (tCons (tTup (tCons (tC (.int 2)) (tCons (tTup (tCons (tTup (tCons (tC (.int 0)) (tCons (tC (.int 1)) (tCons (tTup (tCons (tC (.int 1)) (tCons (tC (.int 1)) tNil))) tNil)))) tNil)) tNil))) (tCons tDNewK (tCons (tDisp (((tC (.str "2")), (tC (.str "0-1=1"))) :: [])) (tCons (tTup (tCons (tC (.int 1)) (tCons (tTup tNil) tNil))) tNil))))))))))) (gName 5) (tIfS (tNot (L2.tB (tCall (SpD K Φ__law_refused) [] E0 (tCons (tVar 5) tNil)))) (tRet (tC (.bl false))) tNext))
    (tRet (tAndV (tOp (rEqD K) (tCall (SpX K C_NoText Φ_read_web) [] E0 (tCons (tC (.str "1")) tNil)) (tTup (tCons (tC (.int 1)) (tCons (tTup tNil) tNil)))) (tOp (rEqD K) (tCall (SpX K C_NoText Φ_read_web) [] E0 (tCons (tC (.str "2 0-1=-1000000000/999")) tNil)) (tTup (tCons (tC (.int 2)) (tCons (tTup (tCons (tTup (tCons (tC (.int 0)) (tCons (tC (.int 1)) (tCons (tTup (tCons (tUn rNegI (tC (.int 1000000000))) (tCons (tC (.int 999)) tNil))) tNil)))) tNil)) tNil)))))))))
theorem dv_law {f : Addr} {cdv : Value} {A : Around} {outer : List Env} {s : Shared} {H : Hp} {E : XK} (hr : Room 8 (A.deeper (envOfC "law" (defScope s_law) s.heap.objs.size f cdv))) (B : ∀ x, x ∈ blt → mg x = none) (cs : Csts mg) {C_CutError C_NoWeb C_NoText C_TooGreat : Addr} (cl : Cls K mg C_CutError C_NoWeb C_NoText C_TooGreat) {Φ__law_stream : Ph} {Φ__law_cell_at : Ph} {Φ__law_web : Ph} {Φ__law_told : Ph} {Φ__law_text : Ph} {Φ__law_spoiled : Ph} {Φ__law_refused : Ph} {Φ__law_ties_changed : Ph} {Φ__law_none : Ph} {Φ__law_take : Ph} {Φ__law_full : Ph} {Φ_read_web : PhX} (g__law_stream : Kn Pg w K mg base "_law_stream" 1 ["_law_cell", "_law_many"] Φ__law_stream) (g__law_cell_at : Kn Pg w K mg base "_law_cell_at" 1 ["_law_script", "_law_k"] Φ__law_cell_at) (g__law_web : Kn Pg w K mg base "_law_web" 3 ["_law_xs", "_law_most"] Φ__law_web) (g__law_told : Kn Pg w K mg base "_law_told" 8 ["_law_text_here"] Φ__law_told) (g__law_text : Kn Pg w K mg base "_law_text" 1 ["_law_web_here"] Φ__law_text) (g__law_spoiled : Kn Pg w K mg base "_law_spoiled" 2 ["_law_text_here", "_law_xs"] Φ__law_spoiled) (g__law_refused : Kn Pg w K mg base "_law_refused" 7 ["_law_thing"] Φ__law_refused) (g__law_ties_changed : Kn Pg w K mg base "_law_ties_changed" 2 ["_law_web_here", "_law_xs"] Φ__law_ties_changed) (g__law_none : Kn Pg w K mg base "_law_none" 1 ["_law_number"] Φ__law_none) (g__law_take : Kn Pg w K mg base "_law_take" 1 ["_law_xs"] Φ__law_take) (g__law_full : Kn Pg w K mg base "_law_full" 8 ["_law_cell"] Φ__law_full) (g_read_web : KnX Pg w K mg base "read_web" 6 ["text"] C_NoText Φ_read_web) :
    PSs (cxOf CX0 Pg w K mg base ["_law_script", "_law_k", "_law_xs", "_law_web_here", "_law_more", "_law_thing"] "law" (defScope s_law) f cdv A outer s H E).nox (defBody s_law) (t_law K C_CutError C_NoWeb C_NoText C_TooGreat Φ__law_stream Φ__law_cell_at Φ__law_web Φ__law_told Φ__law_text Φ__law_spoiled Φ__law_refused Φ__law_ties_changed Φ__law_none Φ__law_take Φ__law_full Φ_read_web) :=
  (pss_cons (ps_for PassesOwn.never rfl (pi_range1 (by rfl) (B "range" (by decide)) (pa_cons (pe_callB (call_max2 rfl) (by rfl) (B "max" (by decide)) (by decide +kernel) (pa_cons pe_int (pa_cons (pe_callB (call_min2 rfl) (by rfl) (B "min" (by decide)) (by decide +kernel) (pa_cons pe_int (pa_cons (pe_callB call_len_seq (by rfl) (B "len" (by decide)) (by decide +kernel) (pa_cons (pv 0) pa_nil)) pa_nil))) pa_nil))) pa_nil)) (pg_name (i := 1) sc_law.nd rfl (by first | exact .inl rfl | exact .inr rfl)) (pss_cons (ps_set (i := 2) sc_law.nd rfl (by first | exact .inl rfl | exact .inr rfl) (pe_callD g__law_stream (hr.mono (by decide)) (by rfl) (pa_cons (pe_op op_add (pe_callD g__law_cell_at (hr.mono (by decide)) (by rfl) (pa_cons (pv 0) (pa_cons (pv 1) pa_nil))) (pv 1)) (pa_cons pe_int pa_nil))))
      (pss_cons (ps_set (i := 3) sc_law.nd rfl (by first | exact .inl rfl | exact .inr rfl) (pe_callD g__law_web (hr.mono (by decide)) (by rfl) (pa_cons (pv 2) (pa_cons pe_int pa_nil))))
      (pss_cons (ps_if (PW.pt (pw_or (pt_not (pt_val (pe_callD g__law_told (hr.mono (by decide)) (by rfl) (pa_cons (pe_callD g__law_spoiled (hr.mono (by decide)) (by rfl) (pa_cons (pe_callD g__law_text (hr.mono (by decide)) (by rfl) (pa_cons (pv 3) pa_nil)) (pa_cons (pv 2) pa_nil))) pa_nil)))) (pw_or1 (pt_not (pt_val (pe_callD g__law_told (hr.mono (by decide)) (by rfl) (pa_cons (pe_callD g__law_text (hr.mono (by decide)) (by rfl) (pa_cons (pv 3) pa_nil)) pa_nil))))))) (pss_one (ps_ret pe_bl)) pss_nil)
      (pss_cons (ps_if (PW.pt (pw_or (pt_not (pt_val (pe_callD g__law_refused (hr.mono (by decide)) (by rfl) (pa_cons (pe_op op_add_str (pe_callD g__law_text (hr.mono (by decide)) (by rfl) (pa_cons (pv 3) pa_nil)) pe_str) pa_nil)))) (pw_or1 (pt_not (pt_val (pe_callD g__law_refused (hr.mono (by decide)) (by rfl) (pa_cons (pe_op op_add_str pe_str (pe_callD g__law_text (hr.mono (by decide)) (by rfl) (pa_cons (pv 3) pa_nil))) pa_nil))))))) (pss_one (ps_ret pe_bl)) pss_nil)
      (pss_cons (ps_set (i := 4) sc_law.nd rfl (by first | exact .inl rfl | exact .inr rfl) (pe_callD g__law_stream (hr.mono (by decide)) (by rfl) (pa_cons (pe_op op_add (pe_op op_add (pe_callD g__law_cell_at (hr.mono (by decide)) (by rfl) (pa_cons (pv 0) (pa_cons (pv 1) pa_nil))) (pe_op op_mul pe_int (pv 1))) pe_int) (pa_cons pe_int pa_nil))))
      (pss_one (ps_if (PW.pt (pw_or (pt_not (pt_val (pe_callD g__law_refused (hr.mono (by decide)) (by rfl) (pa_cons (pe_callD g__law_none (hr.mono (by decide)) (by rfl) (pa_cons (pe_callD g__law_take (hr.mono (by decide)) (by rfl) (pa_cons (pv 4) pa_nil)) pa_nil)) pa_nil)))) (pw_or1 (pt_not (pt_val (pe_callD g__law_refused (hr.mono (by decide)) (by rfl) (pa_cons (pe_callD g__law_ties_changed (hr.mono (by decide)) (by rfl) (pa_cons (pv 3) (pa_cons (pv 4) pa_nil))) pa_nil))))))) (pss_one (ps_ret pe_bl)) pss_nil))))))))
      (pss_cons (ps_if (pt_not (pt_val (pe_callD g__law_full (hr.mono (by decide)) (by rfl) (pa_cons (pe_callD g__law_cell_at (hr.mono (by decide)) (by rfl) (pa_cons (pv 0) (pa_cons pe_int pa_nil))) pa_nil)))) (pss_one (ps_ret pe_bl)) pss_nil)
      (pss_cons (ps_for PassesOwn.never rfl (pi_list (pe_lst (pa_cons pe_non (pa_cons pe_int (pa_cons pe_bl (pa_cons (pe_lst (pa_cons pe_str pa_nil)) (pa_cons (pe_tup (pa_cons pe_str (pa_cons pe_str pa_nil))) (pa_cons (pe_tup (pa_cons pe_int (pa_cons (pe_tup (pa_cons (pe_tup (pa_cons pe_int (pa_cons pe_int (pa_cons (pe_tup (pa_cons pe_int (pa_cons pe_int pa_nil))) pa_nil)))) pa_nil)) pa_nil))) (pa_cons pe_dnewK (pa_cons (pe_disp (pps_cons pe_str pe_str pps_nil) (by rfl) (by rfl) (fun z => by cases z) (by decide)) (pa_cons (pe_tup (pa_cons pe_int (pa_cons (pe_tup pa_nil) pa_nil))) pa_nil))))))))))) (pg_name (i := 5) sc_law.nd rfl (by first | exact .inl rfl | exact .inr rfl)) (pss_one (ps_if (pt_not (pt_val (pe_callD g__law_refused (hr.mono (by decide)) (by rfl) (pa_cons (pv 5) pa_nil)))) (pss_one (ps_ret pe_bl)) pss_nil)))
      (pss_one (ps_ret (pe_and (pe_cmpR (op_eqD hr.units) (pe_callX0 g_read_web (hr.mono (by decide)) (by rfl) (pa_cons pe_str pa_nil)) (pe_tup (pa_cons pe_int (pa_cons (pe_tup pa_nil) pa_nil))) (nomark _)) (pe_one (pe_cmpR (op_eqD hr.units) (pe_callX0 g_read_web (hr.mono (by decide)) (by rfl) (pa_cons pe_str pa_nil)) (pe_tup (pa_cons pe_int (pa_cons (pe_tup (pa_cons (pe_tup (pa_cons pe_int (pa_cons pe_int (pa_cons (pe_tup (pa_cons (pe_un un_neg pe_int) (pa_cons pe_int pa_nil))) pa_nil)))) pa_nil)) pa_nil))) (nomark _)))))))))
end
local macro_rules | `(tactic| walk_at "ev") => `(tactic| first
  | ((with_reducible apply e_var); exact rfl) | ((with_reducible apply e_varm); exact rfl) | ((with_reducible apply e_vars); exact rfl)
  | with_reducible refine e_int ?_ | with_reducible refine e_bl ?_ | with_reducible refine e_non ?_ | with_reducible refine e_str ?_
  | with_reducible refine e_op ?_ | with_reducible refine e_un ?_
  | ((with_reducible refine rr_I0 ?_); refine ⟨_, _, rfl, rfl, ?_⟩) | ((with_reducible refine rr_B0 ?_); refine ⟨_, _, rfl, rfl, ?_⟩)
  | ((with_reducible refine rr_isB ?_); refine ⟨_, _, rfl, rfl, ?_⟩) | ((with_reducible refine rr_notB ?_); refine ⟨_, _, rfl, rfl, ?_⟩)
  | ((with_reducible refine ru_I ?_); refine ⟨_, rfl, ?_⟩)
  | with_reducible refine e_isi instInt ?_ | with_reducible refine e_isi instBool ?_ | with_reducible refine e_isi instTuple ?_ | with_reducible refine e_isiT instList instTuple ?_
  | with_reducible refine e_cb ?_ | with_reducible refine e_call ?_ | with_reducible refine e_callX0 ?_ | with_reducible refine e_chain ?_
  | with_reducible refine ea_cons ?_ | with_reducible refine ea_nil ?_
  | with_reducible refine e_slL ?_ | with_reducible refine eo_some ?_ | with_reducible refine eo_none ?_
  | with_reducible refine e_tup ?_ | with_reducible refine e_lst ?_
  | with_reducible refine e_and ?_ | with_reducible refine e_or ?_ | with_reducible refine e_not ?_ | with_reducible refine e_if ?_
  | with_reducible refine et_test ?_ | with_reducible refine et_B ?_ | with_reducible refine et_and ?_ | with_reducible refine et_or ?_ | with_reducible refine et_not ?_ | with_reducible refine et_yes ?_
  | with_reducible refine s_seq ?_ | with_reducible refine s_asg ?_ | with_reducible refine s_ret ?_ | with_reducible refine s_drop ?_ | with_reducible refine s_if ?_ | with_reducible refine s_next ?_ | with_reducible refine s_par ?_
  | ((with_reducible refine rc_abs ?_); refine ⟨_, rfl, ?_⟩) | ((with_reducible refine rc_max ?_); refine ⟨_, _, rfl, ?_⟩) | ((with_reducible refine rc_min ?_); refine ⟨_, _, rfl, ?_⟩)
  | ((with_reducible refine rr_ix ?_); first | refine ⟨_, _, _, .inr (.d _), rfl, atI_nat (j := 0) rfl, ?_⟩ | refine ⟨_, _, _, .inr (.d _), rfl, atI_nat (j := 1) rfl, ?_⟩ | refine ⟨_, _, _, .inr (.d _), rfl, atI_nat (j := 2) rfl, ?_⟩ | refine ⟨_, _, _, .inl (.d _), rfl, atI_nat (j := 0) rfl, ?_⟩ | refine ⟨_, _, _, .inl (.d _), rfl, atI_nat (j := 1) rfl, ?_⟩ | refine ⟨_, _, _, .inl (.d _), rfl, atI_nat (j := 2) rfl, ?_⟩)
  | ((with_reducible apply Exists.intro); first | refine ⟨(rfl : _ = List.map SD.d []), Nat.le_of_ble_eq_true rfl, ?_⟩ | refine ⟨(rfl : _ = List.map SD.d [_]), Nat.le_of_ble_eq_true rfl, ?_⟩ | refine ⟨(rfl : _ = List.map SD.d [_, _]), Nat.le_of_ble_eq_true rfl, ?_⟩ | refine ⟨(rfl : _ = List.map SD.d [_, _, _]), Nat.le_of_ble_eq_true rfl, ?_⟩ | refine ⟨(rfl : _ = List.map SD.d [_, _, _, _]), Nat.le_of_ble_eq_true rfl, ?_⟩ | refine ⟨Sv.d _, nofun, ?_⟩ | refine ⟨Sv.d _, ?_⟩ | refine ⟨rfl, ?_⟩ | ((with_reducible apply Exists.intro); refine ⟨rfl, ?_⟩)))
local macro_rules | `(tactic| walk_at "evs") => `(tactic| repeat walk_at "ev")

def Φ_is_whole : Ph := ph1 fun a ms R => ∃ x, a = .d x ∧ R (.d (.bool (isWhole x))) ms
theorem len_is_whole : ∀ as ms R, Φ_is_whole as ms R → as.length = 1 := ph1_len
theorem rd_is_whole {K : PySem.W.Frag} : ∀ as ms R, Φ_is_whole as ms R → S K (t_is_whole K) (as ++ List.replicate (1 - as.length) .u) ms (fin R) := by
  rintro as ms R ⟨a, rfl, x, rfl, r⟩
  rw [← whole_and] at r
  unfold t_is_whole
  walk_at "evs"
  refine ⟨fun h => ?_, fun h => ?_⟩
  · walk_at "evs"
    rw [h, Bool.true_and] at r
    exact r
  · rw [h, Bool.false_and] at r
    exact r

def Φ_is_row : Ph := ph1 fun a ms R => ∃ x, a = .d x ∧ R (.d (.bool (isRow x))) ms
theorem len_is_row : ∀ as ms R, Φ_is_row as ms R → as.length = 1 := ph1_len
theorem rd_is_row {K : PySem.W.Frag} : ∀ as ms R, Φ_is_row as ms R → S K (t_is_row K) (as ++ List.replicate (1 - as.length) .u) ms (fin R) := by
  rintro as ms R ⟨a, rfl, x, rfl, r⟩
  rw [← inst_row] at r
  unfold t_is_row
  walk_at "evs"
  exact r

def tripB : PyData → Bool
  | .list es => decide (es.length = 3)
  | .tuple es => decide (es.length = 3)
  | _ => false
def Φ_is_triple : Ph := ph1 fun a ms R => ∃ x, a = .d x ∧ R (.d (.bool (tripB x))) ms
theorem len_is_triple : ∀ as ms R, Φ_is_triple as ms R → as.length = 1 := ph1_len
theorem rd_is_triple {K : PySem.W.Frag} : ∀ as ms R, Φ_is_triple as ms R → S K (t_is_triple K Φ_is_row) (as ++ List.replicate (1 - as.length) .u) ms (fin R) := by
  rintro as ms R ⟨a, rfl, x, rfl, r⟩
  unfold t_is_triple
  walk_at "evs"
  refine ⟨_, rfl, x, rfl, ?_⟩
  refine ⟨_, rfl, fun h => ?_, fun h => ?_⟩
  · obtain ⟨es, sv, e⟩ : ∃ es, (Sv ms (.d x) (.list es) ∨ Sv ms (.d x) (.tuple es)) ∧ tripB x = decide (es.length = 3) := by
      cases x with
      | list es => exact ⟨es, .inl (.d _), rfl⟩
      | tuple es => exact ⟨es, .inr (.d _), rfl⟩
      | _ => cases h
    walk_at "evs"
    refine rc_len ⟨_, es, rfl, sv, ?_⟩
    walk_at "evs"
    refine rr_eq ⟨_, _, .d _, .d _, shaped_int _, shaped_int _, ?_⟩
    rw [eqv_int]
    rw [e] at r
    have : decide (((es.length : Nat) : Int) = 3) = decide (es.length = 3) := decide_eq_decide.mpr (by omega)
    rw [this]
    exact r
  · have e : tripB x = false := by
      cases x with
      | list es => cases h
      | tuple es => cases h
      | _ => rfl
    rw [e] at r
    exact r

def numB (m : Int) : PyData → Bool
  | .int i => decide (0 ≤ i) && decide (i < m)
  | _ => false
def Φ_is_number_of : Ph := ph2 fun a b ms R => ∃ m x, a = .d (.int m) ∧ b = .d x ∧ R (.d (.bool (numB m x))) ms
theorem len_is_number_of : ∀ as ms R, Φ_is_number_of as ms R → as.length = 2 := ph2_len
theorem rd_is_number_of {K : PySem.W.Frag} : ∀ as ms R, Φ_is_number_of as ms R → S K (t_is_number_of K Φ_is_whole) (as ++ List.replicate (2 - as.length) .u) ms (fin R) := by
  rintro as ms R ⟨a, b, rfl, m, x, rfl, rfl, r⟩
  unfold t_is_number_of
  walk_at "evs"
  refine ⟨_, rfl, x, rfl, _, rfl, fun h => ?_, fun h => ?_⟩
  · obtain ⟨i, rfl⟩ := whole_inv h
    walk_at "evs"
    refine ⟨fun h2 => ?_, fun h2 => ?_⟩
    · walk_at "evs"
      rintro b' rfl
      walk_at "evs"
      have e : numB m (.int i) = decide (i < m) := by show (decide (0 ≤ i) && decide (i < m)) = _; rw [h2, Bool.true_and]
      rw [e] at r
      exact r
    · have e : numB m (.int i) = false := by show (decide (0 ≤ i) && decide (i < m)) = _; rw [h2, Bool.false_and]
      rw [e] at r
      exact r
  · have e : numB m x = false := by
      cases x with
      | int i => cases h
      | _ => rfl
    rw [e] at r
    exact r

def unlB (m : Int) (x y : PyData) : Bool := numB m x && (numB m y && !PyData.eqv x y)
def Φ_are_unlike_points : Ph := ph3 fun a b c ms R => ∃ m x y, a = .d (.int m) ∧ b = .d x ∧ c = .d y ∧ R (.d (.bool (unlB m x y))) ms
theorem len_are_unlike_points : ∀ as ms R, Φ_are_unlike_points as ms R → as.length = 3 := ph3_len
theorem numI {n : Int} {e : PyData} (h : numB n e = true) : ∃ i : Int, e = .int i := by
  cases e with
  | int i => exact ⟨i, rfl⟩
  | _ => cases h
theorem rd_are_unlike_points {K : PySem.W.Frag} : ∀ as ms R, Φ_are_unlike_points as ms R → S K (t_are_unlike_points K Φ_is_number_of) (as ++ List.replicate (3 - as.length) .u) ms (fin R) := by
  rintro as ms R ⟨a, b, c, rfl, m, x, y, rfl, rfl, rfl, r⟩
  unfold t_are_unlike_points
  walk_at "evs"
  refine ⟨_, _, rfl, m, x, rfl, rfl, ?_⟩
  unfold unlB at r
  refine ⟨_, rfl, fun h => ?_, fun h => ?_⟩
  · obtain ⟨i, rfl⟩ := numI h
    rw [h, Bool.true_and] at r
    walk_at "evs"
    refine ⟨_, _, rfl, m, y, rfl, rfl, ?_⟩
    refine ⟨_, rfl, fun h2 => ?_, fun h2 => ?_⟩
    · obtain ⟨j, rfl⟩ := numI h2
      rw [h2, Bool.true_and] at r
      walk_at "evs"
      exact rr_ne ⟨_, _, .d _, .d _, shaped_int _, shaped_int _, r⟩
    · rw [h2, Bool.false_and] at r
      exact r
  · rw [h, Bool.false_and] at r
    exact r

def Φ_common_divisor : Ph := ph2 fun a b ms R => ∃ i j, a = .d (.int i) ∧ b = .d (.int j) ∧ R (.d (.int (Int.gcd i j))) ms
theorem len_common_divisor : ∀ as ms R, Φ_common_divisor as ms R → as.length = 2 := ph2_len
theorem rd_common_divisor {K : PySem.W.Frag} : ∀ as ms R, Φ_common_divisor as ms R → S K (t_common_divisor K) (as ++ List.replicate (2 - as.length) .u) ms (fin R) := by
  rintro as ms R ⟨a, b, rfl, i, j, rfl, rfl, r⟩
  unfold t_common_divisor
  walk_at "evs"
  rw [abs_nat, abs_nat]
  refine s_while (fun m ds ms' => ∃ x y : Nat, ds = [.d (.int x), .d (.int y)] ∧ ms' = ms ∧ Nat.gcd x y = Int.gcd i j ∧ m = y) j.natAbs ⟨i.natAbs, j.natAbs, rfl, rfl, rfl, rfl⟩ ?_
  rintro m ds ms' ⟨x, y, rfl, rfl, hg, hm⟩
  walk_at "evs"
  refine rr_ne ⟨_, _, .d _, .d _, shaped_int _, shaped_int _, _, rfl, ?_, ?_⟩
  · intro h
    walk_at "evs"
    have hy : y ≠ 0 := by
      intro z
      subst z
      rw [eqv_int] at h
      simp at h
    refine rr_I ⟨_, _, rfl, rfl, by omega, ?_⟩
    walk_at "evs"
    rw [fmod_nat]
    exact ⟨x % y, by rw [hm]; exact Nat.mod_lt _ (by omega), y, x % y, rfl, rfl, by rw [gcd_step]; exact hg, rfl⟩
  · intro h
    walk_at "evs"
    have hy : y = 0 := by
      rw [eqv_int] at h
      simp at h
      omega
    subst hy
    rw [Nat.gcd_zero_right] at hg
    rw [hg]
    exact r

def Φ_is_fraction : Ph := ph1 fun a ms R => ∃ x, a = .d x ∧ R (.d (.bool (isFrac x))) ms
theorem len_is_fraction : ∀ as ms R, Φ_is_fraction as ms R → as.length = 1 := ph1_len
theorem rd_is_fraction {K : PySem.W.Frag} : ∀ as ms R, Φ_is_fraction as ms R → S K (t_is_fraction K Φ_is_whole Φ_common_divisor) (as ++ List.replicate (3 - as.length) .u) ms (fin R) := by
  rintro as ms R ⟨a, rfl, x, rfl, r⟩
  unfold t_is_fraction
  walk_at "evs"
  refine ⟨fun h => ?_, fun h => ?_⟩
  · rw [inst_tup] at h
    refine ⟨fun _ => ?_, nofun⟩
    rw [isFrac_kind (by simpa using h)] at r
    walk_at "evs"
    exact r
  · rw [inst_tup] at h
    obtain ⟨xs, rfl⟩ := tup_inv (by simpa using h)
    walk_at "evs"
    refine rc_len ⟨_, xs, rfl, .inr (.d _), ?_⟩
    walk_at "evs"
    refine rr_ne ⟨_, _, .d _, .d _, shaped_int _, shaped_int _, _, rfl, fun h2 => ?_, fun h2 => ?_⟩
    · rw [eqv_int] at h2
      rw [isFrac_len (by simp at h2; omega)] at r
      walk_at "evs"
      exact r
    · rw [eqv_int] at h2
      obtain ⟨p, q, rfl⟩ : ∃ p q, xs = [p, q] := by
        match xs, h2 with
        | [], z => simp at z
        | [_], z => simp at z
        | [p, q], _ => exact ⟨p, q, rfl⟩
        | _ :: _ :: _ :: l, z => simp at z; omega
      walk_at "evs"
      refine s_asgG (js := [1, 2]) ?_
      walk_at "evs"
      refine eg_tup rfl (egs_cons (eg_name (egs_cons (eg_name (egs_nil ?_)))))
      walk_at "evs"
      refine ⟨_, rfl, p, rfl, _, rfl, ?_, ?_⟩
      · intro h3
        refine ⟨fun _ => ?_, nofun⟩
        rw [isFrac_one (by simpa using h3)] at r
        walk_at "evs"
        exact r
      · intro h3
        obtain ⟨i, rfl⟩ := whole_inv (by simpa using h3)
        walk_at "evs"
        refine ⟨_, rfl, q, rfl, _, rfl, ?_, ?_⟩
        · intro h4
          rw [isFrac_two (by simpa using h4)] at r
          walk_at "evs"
          exact r
        · intro h4
          obtain ⟨j, rfl⟩ := whole_inv (by simpa using h4)
          walk_at "evs"
          refine ⟨fun h5 => ?_, fun h5 => ?_⟩
          · walk_at "evs"
            refine ⟨_, _, rfl, i, j, rfl, rfl, ?_⟩
            walk_at "evs"
            refine rr_eq ⟨_, _, .d _, .d _, shaped_int _, shaped_int _, ?_⟩
            rw [eqv_int]
            have e : isFrac (.tuple [.int i, .int j]) = decide ((Int.gcd i j : Int) = 1) := by
              show (decide (1 ≤ j) && decide (Int.gcd i j = 1)) = _
              rw [h5, Bool.true_and]
              by_cases z : Int.gcd i j = 1
              · rw [z]; rfl
              · rw [decide_eq_false z, decide_eq_false (by omega)]
            rw [e] at r
            exact r
          · have e : isFrac (.tuple [.int i, .int j]) = false := by
              show (decide (1 ≤ j) && decide (Int.gcd i j = 1)) = _
              rw [h5, Bool.false_and]
            rw [e] at r
            exact r

def wtB (x : PyData) : Bool := isFrac x && (match x with
  | .tuple [.int t, .int b] => decide ((t.natAbs : Int) ≤ 1000000000) && decide (b ≤ 1000)
  | _ => false)
def Φ_is_weight : Ph := ph1 fun a ms R => ∃ x, a = .d x ∧ R (.d (.bool (wtB x))) ms
theorem len_is_weight : ∀ as ms R, Φ_is_weight as ms R → as.length = 1 := ph1_len
theorem fracI {x : PyData} (h : isFrac x = true) : ∃ t b : Int, x = .tuple [.int t, .int b] := by
  unfold isFrac at h
  split at h
  · exact ⟨_, _, rfl⟩
  · cases h
theorem rd_is_weight {K : PySem.W.Frag} : ∀ as ms R, Φ_is_weight as ms R → S K (t_is_weight K Φ_is_fraction) (as ++ List.replicate (1 - as.length) .u) ms (fin R) := by
  rintro as ms R ⟨a, rfl, x, rfl, r⟩
  unfold t_is_weight
  walk_at "evs"
  refine ⟨_, rfl, x, rfl, ?_⟩
  unfold wtB at r
  refine ⟨_, rfl, fun h => ?_, fun h => ?_⟩
  · obtain ⟨t, b, rfl⟩ := fracI h
    rw [h, Bool.true_and] at r
    walk_at "evs"
    rw [abs_nat]
    refine ⟨fun h2 => ?_, fun h2 => ?_⟩
    · simp only [h2, Bool.true_and] at r
      walk_at "evs"
      exact r
    · simp only [h2, Bool.false_and] at r
      exact r
  · rw [h, Bool.false_and] at r
    exact r

def rowOf : PyData → Option (List PyData)
  | .list es => some es
  | .tuple es => some es
  | _ => none
theorem row_inv {x : PyData} (h : isRow x = true) : ∃ es, rowOf x = some es ∧ (x = .list es ∨ x = .tuple es) := by
  cases x with
  | list es => exact ⟨es, rfl, .inl rfl⟩
  | tuple es => exact ⟨es, rfl, .inr rfl⟩
  | _ => cases h
theorem row_no {x : PyData} (h : isRow x = false) : rowOf x = none := by
  cases x with
  | list es => cases h
  | tuple es => cases h
  | _ => rfl

def mkT : PyData → PyData → PyData → PyData
  | .int i, .int j, w => .tuple [.int (if j < i then j else i), .int (if j > i then j else i), w]
  | _, _, _ => .none
def tie3 (m : Int) (a b w : PyData) : PyData := if (unlB m a b && wtB w) = true then mkT a b w else .none
/-- the tie that a thing tells, if it tells one -/
def tieOf (m : Int) (x : PyData) : PyData := match rowOf x with
  | some [a, b, w] => tie3 m a b w
  | _ => .none
def Φ_told_tie : Ph := ph2 fun a b ms R => ∃ (m : Int) (x : PyData), a = .d (.int m) ∧ b = .d x ∧ R (.d (tieOf m x)) ms
theorem len_told_tie : ∀ as ms R, Φ_told_tie as ms R → as.length = 2 := ph2_len
theorem unl_inv {m : Int} {a b : PyData} (h : unlB m a b = true) : ∃ i j : Int, a = .int i ∧ b = .int j := by
  unfold unlB at h
  rw [Bool.and_eq_true, Bool.and_eq_true] at h
  obtain ⟨i, rfl⟩ := numI h.1
  obtain ⟨j, rfl⟩ := numI h.2.1
  exact ⟨i, j, rfl, rfl⟩
theorem trip_inv {x : PyData} (h : tripB x = true) : ∃ a b c, rowOf x = some [a, b, c] ∧ (x = .list [a, b, c] ∨ x = .tuple [a, b, c]) := by
  cases x with
  | list es =>
    have h2 : es.length = 3 := of_decide_eq_true h
    match es, h2 with
    | [a, b, c], _ => exact ⟨a, b, c, rfl, .inl rfl⟩
  | tuple es =>
    have h2 : es.length = 3 := of_decide_eq_true h
    match es, h2 with
    | [a, b, c], _ => exact ⟨a, b, c, rfl, .inr rfl⟩
  | _ => cases h
theorem trip_no {m : Int} {x : PyData} (h : tripB x = false) : tieOf m x = .none := by
  have z : ∀ es : List PyData, es.length ≠ 3 → (match some es with
      | some [a, b, w] => tie3 m a b w
      | _ => PyData.none) = .none := fun es he => by
    split
    · rename_i q
      have := Option.some.inj q
      subst this
      exact absurd rfl he
    · rfl
  cases x with
  | list es => exact z es (of_decide_eq_false h)
  | tuple es => exact z es (of_decide_eq_false h)
  | _ => rfl
theorem rd_told_tie {K : PySem.W.Frag} : ∀ as ms R, Φ_told_tie as ms R → S K (t_told_tie K Φ_is_triple Φ_is_weight Φ_are_unlike_points) (as ++ List.replicate (5 - as.length) .u) ms (fin R) := by
  rintro as ms R ⟨a, b, rfl, m, x, rfl, rfl, r⟩
  unfold t_told_tie
  walk_at "evs"
  refine ⟨_, rfl, x, rfl, ?_⟩
  refine ⟨_, rfl, fun h => ?_, fun h => ?_⟩
  · rw [trip_no (by simpa using h)] at r
    walk_at "evs"
    exact r
  obtain ⟨c, d, w, hr, hx⟩ := trip_inv (x := x) (by simpa using h)
  refine s_next ?_
  refine s_seq (s_asgG (js := [2, 3, 4]) (e_var rfl ?_))
  refine eg_rw hx rfl (egs_cons (eg_name (egs_cons (eg_name (egs_cons (eg_name (egs_nil ?_)))))))
  have e : tieOf m x = tie3 m c d w := by
    unfold tieOf
    rw [hr]
  rw [e] at r
  unfold tie3 at r
  walk_at "evs"
  refine ⟨_, _, _, rfl, m, c, d, rfl, rfl, rfl, ?_⟩
  refine ⟨_, rfl, fun h1 => ?_, fun h1 => ?_⟩
  · have h1 : unlB m c d = false := by simpa using h1
    rw [h1, Bool.false_and, if_neg Bool.false_ne_true] at r
    refine ⟨fun _ => ?_, nofun⟩
    walk_at "evs"
    exact r
  · have h1 : unlB m c d = true := by simpa using h1
    obtain ⟨i, j, rfl, rfl⟩ := unl_inv h1
    rw [h1, Bool.true_and] at r
    walk_at "evs"
    refine ⟨_, rfl, w, rfl, ?_⟩
    refine ⟨_, rfl, fun h2 => ?_, fun h2 => ?_⟩
    · have h2 : wtB w = false := by simpa using h2
      rw [h2, if_neg Bool.false_ne_true] at r
      walk_at "evs"
      exact r
    · have h2 : wtB w = true := by simpa using h2
      rw [h2, if_pos rfl] at r
      walk_at "evs"
      exact r

def dupB (es : List PyData) : Bool := (List.zip es (es.drop 1)).any fun p => match p.1, p.2 with
  | .tuple (a :: b :: _), .tuple (c :: d :: _) => PyData.eqv (.tuple [a, b]) (.tuple [c, d])
  | _, _ => false
def isT : PyData → Bool
  | .tuple _ => true
  | _ => false
/-- what made_web tells of ties in a row -/
def webR (m : Int) (es : List PyData) : Bool := (es.map (tieOf m)).all isT && !dupB (sortD (es.map (tieOf m)))
def okW (n x : PyData) : Bool := match n, rowOf x with
  | .int m, some es => (decide (1 ≤ m) && decide (m ≤ 60)) && (decide (es.length ≤ 170) && webR m es)
  | _, _ => false
def Φ_made_web : PhX := phx2 fun a b ms R Y => ∃ n x : PyData, a = .d n ∧ b = .d x ∧ (∀ es, rowOf x = some es → es.length ≤ 10000) ∧ (okW n x = true → ∀ m es, n = .int m → rowOf x = some es → R (.d (.tuple [.int m, .tuple (sortD (es.map (tieOf m)))])) ms) ∧ (okW n x = false → Y ms)
theorem len_made_web : ∀ as ms R Y, Φ_made_web as ms R Y → as.length = 2 := phx2_len
theorem tie_shape {m : Int} {x : PyData} : tieOf m x = .none ∨ ∃ i j t b : Int, tieOf m x = .tuple [.int i, .int j, .tuple [.int t, .int b]] := by
  unfold tieOf
  split
  · rename_i a b w _
    unfold tie3
    by_cases h : (unlB m a b && wtB w) = true
    · rw [if_pos h]
      rw [Bool.and_eq_true] at h
      obtain ⟨i, j, rfl, rfl⟩ := unl_inv h.1
      have hw : isFrac w = true := by
        have := h.2
        unfold wtB at this
        rw [Bool.and_eq_true] at this
        exact this.1
      obtain ⟨t, b, rfl⟩ := fracI hw
      exact .inr ⟨_, _, t, b, rfl⟩
    · rw [if_neg h]
      exact .inl rfl
  · exact .inl rfl
theorem told_alike {m : Int} {es : List PyData} (h : (es.map (tieOf m)).all isT = true) : (∀ e ∈ es.map (tieOf m), Shp 60 e) ∧ PySem.W.AllAlike (es.map (tieOf m)) ∧ PySem.W.Sortable (es.map (tieOf m)) ∧ ∀ e ∈ es.map (tieOf m), ∃ i j t b : Int, e = .tuple [.int i, .int j, .tuple [.int t, .int b]] := by
  have sh : ∀ e ∈ es.map (tieOf m), ∃ i j t b : Int, e = .tuple [.int i, .int j, .tuple [.int t, .int b]] := fun e he => by
    have h1 := List.all_eq_true.mp h e he
    obtain ⟨x, _, rfl⟩ := List.mem_map.mp he
    rcases tie_shape (m := m) (x := x) with z | z
    · rw [z] at h1
      cases h1
    · exact z
  refine ⟨fun e he => ?_, fun d hd d' hd' => ?_, .inl fun d hd => ?_, sh⟩
  · obtain ⟨i, j, t, b, rfl⟩ := sh e he
    have s1 : Shp 3 (.tuple [.int i, .int j, .tuple [.int t, .int b]]) := Shp.tup fun e he => by
      simp only [List.mem_cons, List.not_mem_nil, or_false] at he
      rcases he with rfl | rfl | rfl
      · exact (Shp.int _).mono (by decide)
      · exact (Shp.int _).mono (by decide)
      · exact (Shp.tup (Shp.ints [_, _])).mono (by decide)
    exact s1.mono (by decide)
  · obtain ⟨i, j, t, b, rfl⟩ := sh d hd
    obtain ⟨i', j', t', b', rfl⟩ := sh d' hd'
    simp [PySem.W.alike, PySem.W.alikeAll]
  · obtain ⟨i, j, t, b, rfl⟩ := sh d hd
    exact ⟨_, _, rfl⟩
theorem none_in (es : List PyData) (h : ∀ e ∈ es, e = .none ∨ ∃ xs, e = .tuple xs) : (es.any fun z => PyData.eqv z .none) = !es.all isT := by
  induction es with
  | nil => rfl
  | cons e r ih =>
    rw [List.any_cons, List.all_cons, ih fun x hx => h x (by simp [hx])]
    rcases h e (by simp) with rfl | ⟨xs, rfl⟩
    · simp [PyData.eqv, isT]
    · simp [PyData.eqv, isT]
theorem cut_from1 (es : List PyData) : Hc.cutD es (some 1) none = es.drop 1 := by
  unfold Hc.cutD
  rw [show HT.sIx es.length 0 (some 1) = min 1 es.length from HT.sIx_nat es.length 0 1, HT.sIx_none]
  cases es with
  | nil => rfl
  | cons a r =>
    have : min 1 (a :: r).length = 1 := by simp
    rw [this]
    exact List.take_of_length_le (by simp)
theorem cut2 (a b : PyData) (r : List PyData) : Hc.cutD (a :: b :: r) none (some 2) = [a, b] := by
  unfold Hc.cutD
  rw [HT.sIx_none]
  have : HT.sIx (a :: b :: r).length (a :: b :: r).length (some 2) = 2 := by
    have := HT.sIx_nat (a :: b :: r).length (a :: b :: r).length 2
    rw [show ((2 : Int)) = ((2 : Nat) : Int) from rfl, this]
    simp
  rw [this]
  rfl
theorem rd_made_web {K : PySem.W.Frag} {C_CutError C_NoWeb C_NoText C_TooGreat : Addr} : ∀ as ms R Y, Φ_made_web as ms R Y → SX K C_NoWeb (t_made_web K C_CutError C_NoWeb C_NoText C_TooGreat Φ_is_whole Φ_is_row Φ_told_tie) (as ++ List.replicate (6 - as.length) .u) ms (fin R) Y := by
  rintro as ms R Y ⟨a, b, rfl, n, x, rfl, rfl, hz, r, y⟩
  unfold t_made_web
  refine sx_seq (sx_if ?_)
  walk_at "evs"
  refine ⟨_, rfl, n, rfl, _, rfl, fun h => ?_, fun h => ?_⟩
  · refine ⟨fun _ => ?_, nofun⟩
    refine sx_raise (y ?_)
    cases n with
    | int _ => cases h
    | _ => rfl
  obtain ⟨m, rfl⟩ := whole_inv (x := n) (by simpa using h)
  have ow : ∀ es, rowOf x = some es → okW (.int m) x = ((decide (1 ≤ m) && decide (m ≤ 60)) && (decide (es.length ≤ 170) && webR m es)) := fun es he => by
    unfold okW
    rw [he]
  have on : (decide (1 ≤ m) && decide (m ≤ 60)) = false → okW (.int m) x = false := fun z => by
    unfold okW
    split
    · rename_i q _
      cases q
      rw [z, Bool.false_and]
    · rfl
  have go : (decide (1 ≤ m) && decide (m ≤ 60)) = true → SX K C_NoWeb (fun E => (tSeq (tIfS (tOr (tNot (L2.tB (tCall (SpD K Φ_is_row) [] E0 (tCons (tVar 1) tNil)))) (tTest (tOp rGtI (tCB (rLenQ K) (tCons (tVar 1) tNil)) (tC (.int 170))))) (tRs C_NoWeb E) tNext)
    (tSeq (tAsg (tLc (iRow K 1) (gName 3) tYes (tCall (SpD K Φ_told_tie) [] E0 (tCons (tVar 0) (tCons (tVar 3) tNil))) [3]) (gName 2))
    (tSeq (tIfS (tTest (tOp (rInD K) (tC .non) (tVar 2))) (tRs C_NoWeb E) tNext)
    (tSeq (tAsg (tCB (rSortV K) (tCons (tVar 2) tNil)) (gName 2))
    (tSeq (tFor (iZip K (tCons (tVar 2) (tCons (tSl (rSlL K) (tVar 2) (tPart (tC (.int 1))) tNoPart) tNil))) (gTup K 2 (gCons (gName 4) (gCons (gName 5) gNil))) (tIfS (tTest (tOp (rEqD K) (tSl (rSlT K) (tVar 4) tNoPart (tPart (tC (.int 2)))) (tSl (rSlT K) (tVar 5) tNoPart (tPart (tC (.int 2)))))) (tRs C_NoWeb E) tNext))
    (tRet (tTup (tCons (tVar 0) (tCons (tCB (rTupQ K) (tCons (tVar 2) tNil)) tNil)))))))))) [.d (.int m), .d x, .u, .u, .u, .u] ms (fin R) Y := fun hm => by
    refine sx_seq (sx_if ?_)
    walk_at "evs"
    refine ⟨_, rfl, x, rfl, _, rfl, fun h => ?_, fun h => ?_⟩
    · refine ⟨fun _ => ?_, nofun⟩
      refine sx_raise (y ?_)
      have h1 := row_no (x := x) (by simpa using h)
      unfold okW
      rw [h1]
    obtain ⟨es, he, hx⟩ := row_inv (x := x) (by simpa using h)
    have hz := hz es he
    have ow := ow es he
    rw [hm, Bool.true_and] at ow
    have sv : Sv ms (.d x) (.list es) ∨ Sv ms (.d x) (.tuple es) := by
      rcases hx with rfl | rfl
      · exact .inl (.d _)
      · exact .inr (.d _)
    walk_at "evs"
    refine rc_len ⟨_, es, rfl, sv, ?_⟩
    walk_at "evs"
    refine ⟨fun h2 => ?_, fun h2 => ?_⟩
    · refine sx_raise (y ?_)
      rw [ow, decide_eq_false (by simp at h2; omega), Bool.false_and]
    have hl : es.length ≤ 170 := by simp at h2; omega
    rw [decide_eq_true hl, Bool.true_and] at ow
    refine sx_of (s_next ?_)
    refine sx_seq (sx_of ?_)
    refine s_asg ?_
    refine e_lcRow (js := [3]) (es := es) rfl hx (by simp) hz (fun k acc ms' => acc = (es.take k).map (tieOf m) ∧ ms' = ms) ⟨rfl, rfl⟩ ?_ ?_
    · rintro k e acc ms' hk ⟨rfl, rfl⟩
      refine eg_name ?_
      walk_at "evs"
      refine ⟨fun _ => ?_, nofun⟩
      walk_at "evs"
      refine ⟨_, _, rfl, m, e, rfl, rfl, ?_⟩
      exact ⟨_, rfl, by rw [take_snoc hk]; simp, rfl⟩
    rintro acc ms' ⟨rfl, rfl⟩
    rw [List.take_length]
    have ni := none_in (es.map (tieOf m)) fun e he => by
      obtain ⟨z, _, rfl⟩ := List.mem_map.mp he
      rcases tie_shape (m := m) (x := z) with q | ⟨i, j, t, b, q⟩
      · exact .inl q
      · exact .inr ⟨_, q⟩
    have shp : ∀ e ∈ es.map (tieOf m), Shp 60 e := fun e he => by
      obtain ⟨z, _, rfl⟩ := List.mem_map.mp he
      rcases tie_shape (m := m) (x := z) with q | ⟨i, j, t, b, q⟩
      · rw [q]
        exact ⟨rfl, by decide⟩
      · rw [q]
        have s1 : Shp 3 (.tuple [.int i, .int j, .tuple [.int t, .int b]]) := Shp.tup fun e he => by
          simp only [List.mem_cons, List.not_mem_nil, or_false] at he
          rcases he with rfl | rfl | rfl
          · exact (Shp.int _).mono (by decide)
          · exact (Shp.int _).mono (by decide)
          · exact (Shp.tup (Shp.ints [_, _])).mono (by decide)
        exact s1.mono (by decide)
    refine sx_seq (sx_if ?_)
    walk_at "evs"
    refine rr_inD ⟨.none, es.map (tieOf m), .d _, .d _, (show Shp 0 PyData.none from ⟨rfl, by decide⟩).ok (by decide), (Shp.lst shp).ok (by decide), ?_⟩
    rw [ni]
    refine ⟨_, rfl, fun h3 => ?_, fun h3 => ?_⟩
    · refine sx_raise (y ?_)
      rw [ow]
      unfold webR
      rw [show (es.map (tieOf m)).all isT = false by simpa using h3, Bool.false_and]
    have hall : (es.map (tieOf m)).all isT = true := by simpa using h3
    obtain ⟨_, al, so, sh⟩ := told_alike hall
    unfold webR at ow
    rw [hall, Bool.true_and] at ow
    refine sx_of (s_next ?_)
    refine sx_seq (sx_of ?_)
    walk_at "evs"
    refine rc_sortD ⟨_, es.map (tieOf m), rfl, .d _, shp, al, so, ?_⟩
    have ssh : ∀ e ∈ sortD (es.map (tieOf m)), ∃ i j t b : Int, e = .tuple [.int i, .int j, .tuple [.int t, .int b]] := fun e he => sh e (List.mem_mergeSort.mp he)
    have rr := fun ok => r ok m es rfl he
    generalize hS : sortD (es.map (tieOf m)) = ss at *
    refine sx_seq ?_
    refine sx_forZ (js := [4, 5]) ?_
    walk_at "evs"
    rw [cut_from1]
    refine ⟨_, _, ss, ss.drop 1, rfl, .d _, .d _, fun k ds' ms2 => ∃ o3 o4 o5 : SD, ds' = [.d (.int m), .d x, .d (.list ss), o3, o4, o5] ∧ ms2 = ms' ∧ ∀ l p, l < k → (List.zip ss (ss.drop 1))[l]? = some p → (match p.1, p.2 with
      | .tuple (a :: b :: _), .tuple (c :: d :: _) => PyData.eqv (.tuple [a, b]) (.tuple [c, d])
      | _, _ => false) = false, ⟨_, _, _, rfl, rfl, fun _ _ h => by omega⟩, ?_, ?_⟩
    · rintro k e f ds' ms2 hk hk2 ⟨o3, o4, o5, rfl, rfl, hb⟩
      have zk : (List.zip ss (ss.drop 1))[k]? = some (e, f) := by rw [List.getElem?_zip_eq_some]; exact ⟨hk, hk2⟩
      obtain ⟨i, j, t, b, rfl⟩ := ssh e (List.mem_of_getElem? hk)
      obtain ⟨i', j', t', b', rfl⟩ := ssh f (List.mem_of_mem_drop (List.mem_of_getElem? hk2))
      refine eg_tup rfl (egs_cons (eg_name (egs_cons (eg_name (egs_nil ?_)))))
      refine sx_if ?_
      walk_at "evs"
      refine e_slT ?_
      walk_at "evs"
      refine ⟨by simp [HT.sIx], ?_⟩
      walk_at "evs"
      refine e_slT ?_
      walk_at "evs"
      refine ⟨by simp [HT.sIx], ?_⟩
      rw [cut2, cut2]
      refine rr_eq ⟨_, _, .d _, .d _, (Shp.tup (Shp.ints [_, _])).ok (by decide), (Shp.tup (Shp.ints [_, _])).ok (by decide), ?_⟩
      refine ⟨_, rfl, fun h => ?_, fun h => ?_⟩
      · refine sx_raise (y ?_)
        rw [ow]
        have : dupB ss = true := List.any_eq_true.mpr ⟨_, List.mem_of_getElem? zk, h⟩
        rw [this]
        rfl
      · refine sx_of (s_next ?_)
        refine ⟨_, _, _, rfl, rfl, fun l p hl hp => ?_⟩
        rcases Nat.lt_succ_iff_lt_or_eq.mp hl with z | z
        · exact hb l p z hp
        · subst z
          rw [zk] at hp
          cases hp
          exact h
    · rintro ds' ms2 ⟨o3, o4, o5, rfl, rfl, hb⟩
      have nd : dupB ss = false := by
        unfold dupB
        rw [List.any_eq_false]
        intro p hp
        obtain ⟨l, hl⟩ := List.mem_iff_getElem?.mp hp
        have l2 := (List.getElem?_eq_some_iff.mp hl).1
        rw [List.length_zip] at l2
        rw [hb l p l2 hl]
        decide
      rw [nd] at ow
      refine sx_of ?_
      walk_at "evs"
      refine rc_tuple ⟨_, ss, rfl, .inl (.d _), ?_⟩
      walk_at "evs"
      exact rr ow
  walk_at "evs"
  refine ⟨fun h2 => ?_, fun h2 => ?_⟩
  · walk_at "evs"
    rintro b' rfl
    walk_at "evs"
    refine ⟨fun h3 => ?_, fun h3 => ?_⟩
    · refine sx_raise (y (on ?_))
      rw [h2, Bool.true_and]
      simpa using h3
    · refine sx_of (s_next ?_)
      exact go (by rw [h2, Bool.true_and]; simpa using h3)
  · refine ⟨_, rfl, fun _ => ?_, nofun⟩
    refine sx_raise (y (on ?_))
    rw [h2, Bool.false_and]

def Φ__law_cell_at : Ph := ph2 fun a b ms R => ∃ (ns : List Int) (k : Nat), a = .s ns ∧ b = .d (.int k) ∧ ∀ v : Int, R (.d (.int v)) ms
theorem len__law_cell_at : ∀ as ms R, Φ__law_cell_at as ms R → as.length = 2 := ph2_len
theorem rd__law_cell_at {K : PySem.W.Frag} : ∀ as ms R, Φ__law_cell_at as ms R → S K (t__law_cell_at K) (as ++ List.replicate (2 - as.length) .u) ms (fin R) := by
  rintro as ms R ⟨a, b, rfl, ns, k, rfl, rfl, r⟩
  unfold t__law_cell_at
  walk_at "evs"
  refine rc_len ⟨_, _, rfl, .inl (.s ns), ?_⟩
  walk_at "evs"
  refine ⟨fun h => ?_, fun h => ?_⟩
  · walk_at "evs"
    have hk : k < ns.length := by simpa using h
    refine rr_ix ⟨_, _, .int ns[k], .inl (.s ns), rfl, atI_nat (j := k) (by rw [List.getElem?_map, List.getElem?_eq_getElem hk]; rfl), ?_⟩
    exact r _
  · walk_at "evs"
    exact r 0

def Φ__law_stream : Ph := ph2 fun a b ms R => ∃ (c : Int) (n : Nat), a = .d (.int c) ∧ b = .d (.int n) ∧ n ≤ 1000 ∧ ∀ ns : List Int, R (.f (ns.map .int)) ms
theorem len__law_stream : ∀ as ms R, Φ__law_stream as ms R → as.length = 2 := ph2_len
theorem rd__law_stream {K : PySem.W.Frag} : ∀ as ms R, Φ__law_stream as ms R → S K (t__law_stream K) (as ++ List.replicate (8 - as.length) .u) ms (fin R) := by
  rintro as ms R ⟨a, b, rfl, c, n, rfl, rfl, hn, r⟩
  unfold t__law_stream
  refine s_new (e_lst (ea_nil ⟨[], rfl, Nat.zero_le _, _, rfl, ?_⟩))
  walk_at "evs"
  refine s_forR (js := [4]) ?_
  walk_at "evs"
  refine ⟨⟨by omega, by omega⟩, fun i ds' ms' => ∃ (c' : Int) (o : SD) (ns : List Int), ds' = [.d (.int c), .d (.int n), .m ms.length, .d (.int c'), o, .u, .u, .u] ∧ ms' = ms ++ [.l (ns.map .int)] ∧ ns.length = i, ⟨_, .u, [], rfl, rfl, rfl⟩, ?_, ?_⟩
  · rintro i ds' ms' hi ⟨c', o, ns, rfl, rfl, hl⟩
    refine eg_name ?_
    refine s_seq (s_drop ?_)
    refine e_append ?_
    refine e_varm rfl ⟨_, rfl, ?_⟩
    walk_at "evs"
    refine rr_I ⟨_, _, rfl, rfl, by decide, ?_⟩
    refine ⟨_, _, rfl, get1 _ _, by rw [List.length_map]; omega, ?_⟩
    rw [set1]
    walk_at "evs"
    refine rr_I ⟨_, _, rfl, rfl, ⟨by decide, Bd.mono (Bd.of (n := 64) (by decide)) (by decide)⟩, ?_⟩
    exact ⟨_, _, ns ++ [c'.fmod 1000003], rfl, by simp, by simp [hl]⟩
  rintro ds' ms' ⟨c', o, ns, rfl, rfl, hl⟩
  refine s_seq ?_
  walk_at "evs"
  refine ⟨fun _ => ?_, fun _ => ?_⟩
  · walk_at "evs"
    refine ⟨ms, ns.map .int, rfl, rfl, ?_⟩
    show R (if ms.length = ms.length then _ else _) ms
    rw [if_pos rfl]
    exact r ns
  refine s_next ?_
  refine s_new (e_lst (ea_nil ⟨[], rfl, Nat.zero_le _, _, rfl, ?_⟩))
  have n1 : (ms ++ [MD.l (ns.map .int)]).length = ms.length + 1 := by simp
  rw [n1]
  walk_at "evs"
  refine rr_I ⟨_, _, rfl, rfl, by decide, ?_⟩
  walk_at "evs"
  refine rr_I ⟨_, _, rfl, rfl, by decide, ?_⟩
  walk_at "evs"
  refine s_forR (js := [4]) ?_
  walk_at "evs"
  refine ⟨⟨by omega, by omega⟩, fun i ds' ms' => ∃ (x y : Int) (o : SD) (ns2 : List Int), ds' = [.d (.int c), .d (.int n), .m ms.length, .d (.int c'), o, .m (ms.length + 1), .d (.int x), .d (.int y)] ∧ ms' = ms ++ [.l (ns.map .int)] ++ [.l (ns2.map .int)] ∧ ns2.length = i, ⟨_, _, _, [], rfl, rfl, rfl⟩, ?_, ?_⟩
  · rintro i ds' ms' hi ⟨x, y, o, ns2, rfl, rfl, hl2⟩
    refine eg_name ?_
    walk_at "evs"
    refine rr_I ⟨_, _, rfl, rfl, .inr ⟨by decide, by decide⟩, ?_⟩
    walk_at "evs"
    refine rr_I ⟨_, _, rfl, rfl, by decide, ?_⟩
    walk_at "evs"
    refine rr_I ⟨_, _, rfl, rfl, .inr ⟨by decide, by decide⟩, ?_⟩
    walk_at "evs"
    refine rr_I ⟨_, _, rfl, rfl, by decide, ?_⟩
    refine s_drop (e_append ?_)
    refine e_varm rfl ⟨_, rfl, ?_⟩
    walk_at "evs"
    refine rr_I ⟨_, _, rfl, rfl, ⟨by decide, Bd.mono (Bd.of (n := 64) (by decide)) (by decide)⟩, ?_⟩
    refine ⟨_, _, rfl, get2b _ _ _, by rw [List.length_map]; omega, ?_⟩
    rw [set2b]
    exact ⟨_, _, _, ns2 ++ [_], rfl, by simp; rfl, by simp [hl2]⟩
  · rintro ds' ms' ⟨x, y, o, ns2, rfl, rfl, hl2⟩
    walk_at "evs"
    refine ⟨_, ns2.map .int, rfl, n1, ms, ns.map .int, rfl, rfl, ?_⟩
    show R (frzR ms.length _ (if ms.length + 1 = ms.length + 1 then _ else _)) ms
    rw [if_pos rfl]
    exact r ns2

def Φ__law_take : Ph := ph1 fun a ms R => ∃ (k : Nat) (ns : List Int), a = .m k ∧ ms[k]? = some (.l (ns.map .int)) ∧ ∀ (v : Int) (ns' : List Int), R (.d (.int v)) (ms.set k (.l (ns'.map .int)))
theorem len__law_take : ∀ as ms R, Φ__law_take as ms R → as.length = 1 := ph1_len
theorem set_same {α : Type} : ∀ (l : List α) (k : Nat) (x : α), l[k]? = some x → l.set k x = l
  | [], k, x, h => by simp at h
  | a :: r, 0, x, h => by simp at h; simp [h]
  | a :: r, k + 1, x, h => by simp at h; simp [set_same r k x h]
theorem rd__law_take {K : PySem.W.Frag} : ∀ as ms R, Φ__law_take as ms R → S K (t__law_take K) (as ++ List.replicate (1 - as.length) .u) ms (fin R) := by
  rintro as ms R ⟨a, rfl, k, ns, rfl, hk, r⟩
  unfold t__law_take
  walk_at "evs"
  refine rc_len ⟨_, _, rfl, .inl (.m hk), ?_⟩
  walk_at "evs"
  refine rr_eq ⟨_, _, .d _, .d _, shaped_int _, shaped_int _, ?_⟩
  rw [eqv_int, List.length_map]
  refine ⟨_, rfl, fun h => ?_, fun h => ?_⟩
  · walk_at "evs"
    have := r 0 ns
    rw [set_same _ _ _ hk] at this
    exact this
  · have hn : ns ≠ [] := by
      intro z
      subst z
      cases h
    obtain ⟨ps, v, rfl⟩ : ∃ ps v, ns = ps ++ [v] := ⟨ns.dropLast, ns.getLast hn, (List.dropLast_concat_getLast hn).symm⟩
    walk_at "evs"
    refine e_pop ?_
    walk_at "evs"
    refine ⟨k, ps.map .int, .int v, rfl, by rw [hk]; simp, ?_⟩
    exact r _ ps

theorem fmod_bd {a b : Int} (hb : 0 < b) : 0 ≤ a.fmod b ∧ a.fmod b < b := by
  rw [Int.fmod_eq_emod_of_nonneg _ (by omega)]
  exact ⟨Int.emod_nonneg _ (by omega), Int.emod_lt_of_pos _ hb⟩
def Φ__law_reduced : Ph := ph2 fun a b ms R => ∃ i j : Int, a = .d (.int i) ∧ b = .d (.int j) ∧ 0 < j ∧ Bd 8000 j ∧ R (.d (pr (fr i j))) ms
theorem len__law_reduced : ∀ as ms R, Φ__law_reduced as ms R → as.length = 2 := ph2_len
theorem rd__law_reduced {K : PySem.W.Frag} : ∀ as ms R, Φ__law_reduced as ms R → S K (t__law_reduced K) (as ++ List.replicate (4 - as.length) .u) ms (fin R) := by
  rintro as ms R ⟨a, b, rfl, i, j, rfl, rfl, hj, hb, r⟩
  have hg : 0 < Int.gcd i j := Int.gcd_pos_of_ne_zero_right i (by omega)
  have hgb : Bd 8000 (Int.gcd i j : Int) := hb.le (by
    have := Int.gcd_le_natAbs_right i (show j ≠ 0 by omega)
    omega)
  unfold t__law_reduced
  walk_at "evs"
  rw [abs_nat]
  have ej : j = (j.natAbs : Int) := by omega
  refine s_while (fun m ds' ms' => ∃ x y : Nat, ds' = [.d (.int i), .d (.int j), .d (.int x), .d (.int y)] ∧ ms' = ms ∧ Nat.gcd x y = Int.gcd i j ∧ m = y) j.natAbs ⟨i.natAbs, j.natAbs, by rw [← ej]; rfl, rfl, rfl, rfl⟩ ?_
  rintro m ds ms' ⟨x, y, rfl, rfl, hgc, hm⟩
  walk_at "evs"
  refine rr_ne ⟨_, _, .d _, .d _, shaped_int _, shaped_int _, ?_⟩
  rw [eqv_int]
  refine ⟨_, rfl, fun h => ?_, fun h => ?_⟩
  · walk_at "evs"
    have hy : y ≠ 0 := by
      intro z
      subst z
      simp at h
    refine rr_I ⟨_, _, rfl, rfl, by omega, ?_⟩
    walk_at "evs"
    rw [fmod_nat]
    have := Nat.mod_lt x (show 0 < y by omega)
    exact ⟨x % y, by omega, y, x % y, rfl, rfl, by rw [gcd_step]; exact hgc, rfl⟩
  have hy : y = 0 := by
    simp at h
    omega
  subst hy
  rw [Nat.gcd_zero_right] at hgc
  subst hgc
  walk_at "evs"
  refine rr_I ⟨_, _, rfl, rfl, ⟨by omega, hgb⟩, ?_⟩
  walk_at "evs"
  refine rr_I ⟨_, _, rfl, rfl, ⟨by omega, hgb⟩, ?_⟩
  walk_at "evs"
  have e : fr i j = (i.fdiv (Int.gcd i j), j.fdiv (Int.gcd i j)) := if_neg (by omega)
  rw [e] at r
  exact r

def Sm (t : Tie) : Prop := t.2.2.1.natAbs ≤ 1000000000 ∧ t.2.2.2 ≤ 1000
def Φ__law_weight : Ph := ph1 fun a ms R => ∃ v : Int, a = .d (.int v) ∧ ∀ w : Int × Int, Wt w → w.1.natAbs ≤ 1000000000 → w.2 ≤ 1000 → R (.d (pr w)) ms
theorem len__law_weight : ∀ as ms R, Φ__law_weight as ms R → as.length = 1 := ph1_len
theorem wt_fr {i j : Int} (hj : 0 < j) (h1 : i.natAbs ≤ 1000000000) (h2 : j ≤ 1000) : Wt (fr i j) ∧ (fr i j).1.natAbs ≤ 1000000000 ∧ (fr i j).2 ≤ 1000 := by
  have hne : j ≠ 0 := by omega
  have l := fr_le (i := i) hne
  have p := fr_pos (i := i) hne
  exact ⟨⟨Lo.fr hne, Bd.of (by omega), Bd.of (by omega)⟩, by omega, by omega⟩
theorem rd__law_weight {K : PySem.W.Frag} : ∀ as ms R, Φ__law_weight as ms R → S K (t__law_weight K Φ__law_reduced) (as ++ List.replicate (3 - as.length) .u) ms (fin R) := by
  rintro as ms R ⟨a, rfl, v, rfl, r⟩
  have d8 : ∀ {x : Int}, x ≠ 0 → x.natAbs < 2 ^ 64 → CDivX 0 x := fun h0 h => ⟨h0, Bd.mono (Bd.of (n := 64) h) (by decide)⟩
  unfold t__law_weight
  walk_at "evs"
  refine rr_I ⟨_, _, rfl, rfl, by decide, ?_⟩
  walk_at "evs"
  refine rr_I ⟨_, _, rfl, rfl, d8 (by decide) (by decide), ?_⟩
  walk_at "evs"
  refine rr_eq ⟨_, _, .d _, .d _, shaped_int _, shaped_int _, ?_⟩
  rw [eqv_int]
  refine ⟨_, rfl, fun h => ?_, fun h => ?_⟩
  · walk_at "evs"
    exact r (0, 1) ⟨lo01, Bd.of (by decide), Bd.of (by decide)⟩ (by decide) (by decide)
  walk_at "evs"
  generalize hw : v.fmod 8 = way
  generalize hn : v.fdiv 8 = nu
  refine ⟨fun h1 => ?_, fun h1 => ?_⟩
  · walk_at "evs"
    refine rr_I ⟨_, _, rfl, rfl, by decide, ?_⟩
    walk_at "evs"
    have b := fmod_bd (a := nu) (b := 9) (by decide)
    exact r (nu.fmod 9 - 4, 1) ⟨⟨by show (0 : Int) < 1; decide, by show Int.gcd _ 1 = 1; exact Int.gcd_one_right _⟩, Bd.of (by show (nu.fmod 9 - 4).natAbs < _; omega), Bd.of (by show (1 : Int).natAbs < _; decide)⟩ (by show (nu.fmod 9 - 4).natAbs ≤ _; omega) (by show (1 : Int) ≤ 1000; decide)
  walk_at "evs"
  refine ⟨fun h2 => ?_, fun h2 => ?_⟩
  · walk_at "evs"
    refine rr_I ⟨_, _, rfl, rfl, by decide, ?_⟩
    walk_at "evs"
    refine rr_I ⟨_, _, rfl, rfl, d8 (by decide) (by decide), ?_⟩
    walk_at "evs"
    refine rr_I ⟨_, _, rfl, rfl, by decide, ?_⟩
    walk_at "evs"
    have b := fmod_bd (a := nu) (b := 13) (by decide)
    have b2 := fmod_bd (a := nu.fdiv 13) (b := 4) (by decide)
    have f := wt_fr (i := nu.fmod 13 - 6) (j := 1 + (nu.fdiv 13).fmod 4) (by omega) (by omega) (by omega)
    exact ⟨_, _, rfl, _, _, rfl, rfl, by omega, Bd.mono (Bd.of (n := 64) (by omega)) (by decide), r _ f.1 f.2.1 f.2.2⟩
  walk_at "evs"
  refine rr_I ⟨_, _, rfl, rfl, ⟨by decide, by decide, by decide⟩, ?_⟩
  walk_at "evs"
  refine rr_I ⟨_, _, rfl, rfl, d8 (by decide) (by decide), ?_⟩
  walk_at "evs"
  refine rr_I ⟨_, _, rfl, rfl, by decide, ?_⟩
  have e9 : ((10 : Int) ^ (9 : Int).toNat) = 1000000000 := by decide
  rw [e9]
  have b := fmod_bd (a := nu.fdiv 2) (b := 3) (by decide)
  generalize (nu.fdiv 2).fmod 3 = u at *
  refine rr_I0 ⟨_, _, rfl, rfl, ?_⟩
  refine s_mid (fun ds' ms' => ∃ far : Int, ds' = [.d (.int nu), .d (.int way), .d (.int far)] ∧ ms' = ms ∧ far.natAbs ≤ 1000000000) ?_ ?_
  · walk_at "evs"
    refine rr_I ⟨_, _, rfl, rfl, by decide, ?_⟩
    walk_at "evs"
    refine rr_eq ⟨_, _, .d _, .d _, shaped_int _, shaped_int _, ?_⟩
    refine ⟨_, rfl, fun _ => ?_, fun _ => ?_⟩
    · walk_at "evs"
      exact ⟨rfl, by omega⟩
    · walk_at "evs"
      exact ⟨rfl, by omega⟩
  rintro ds' ms' ⟨far, rfl, rfl, hf⟩
  walk_at "evs"
  refine rr_I ⟨_, _, rfl, rfl, d8 (by decide) (by decide), ?_⟩
  walk_at "evs"
  refine rr_I ⟨_, _, rfl, rfl, by decide, ?_⟩
  walk_at "evs"
  have b2 := fmod_bd (a := nu.fdiv 6) (b := 4) (by decide)
  have f := wt_fr (i := far) (j := 1000 - (nu.fdiv 6).fmod 4) (by omega) hf (by omega)
  exact ⟨_, _, rfl, _, _, rfl, rfl, by omega, Bd.mono (Bd.of (n := 64) (by omega)) (by decide), r _ f.1 f.2.1 f.2.2⟩

def Rise (ts : List Tie) : Prop := ts.Pairwise fun a b => a.1 < b.1 ∨ (a.1 = b.1 ∧ a.2.1 < b.2.1)
def Φ__law_web : Ph := ph2 fun a b ms R => ∃ (k : Nat) (ns : List Int) (mo : Nat), a = .m k ∧ b = .d (.int mo) ∧ ms[k]? = some (.l (ns.map .int)) ∧ 1 ≤ mo ∧ mo ≤ 9 ∧
  ∀ (m : Nat) (ts : List Tie) (ns' : List Int), m ≤ mo → WebOk m ts → Rise ts → (∀ t ∈ ts, Sm t) → ts.length ≤ 81 → R (.d (encW m ts)) (ms.set k (.l (ns'.map .int)))
theorem len__law_web : ∀ as ms R, Φ__law_web as ms R → as.length = 2 := ph2_len
theorem rise_snoc {ts : List Tie} {t : Tie} (h : Rise ts) (h2 : ∀ x ∈ ts, x.1 < t.1 ∨ (x.1 = t.1 ∧ x.2.1 < t.2.1)) : Rise (ts ++ [t]) :=
  List.pairwise_append.mpr ⟨h, by simp, fun a ha b hb => by simp at hb; subst hb; exact h2 a ha⟩
theorem rd__law_web {K : PySem.W.Frag} : ∀ as ms R, Φ__law_web as ms R → S K (t__law_web K Φ__law_take Φ__law_weight) (as ++ List.replicate (8 - as.length) .u) ms (fin R) := by
  rintro as ms R ⟨a, b, rfl, k, ns, mo, rfl, rfl, hk, h2, h3, r⟩
  have hkl : k < ms.length := (List.getElem?_eq_some_iff.mp hk).1
  unfold t__law_web
  walk_at "evs"
  refine ⟨_, rfl, k, ns, rfl, hk, fun v ns1 => ?_⟩
  walk_at "evs"
  refine rr_I ⟨_, _, rfl, rfl, by omega, ?_⟩
  walk_at "evs"
  have hv := fmod_bd (a := v) (b := (mo : Int)) (by omega)
  obtain ⟨m, hm⟩ : ∃ m : Nat, (1 : Int) + v.fmod mo = m := ⟨((1 : Int) + v.fmod mo).toNat, by omega⟩
  rw [hm]
  refine ⟨_, rfl, k, ns1, rfl, by rw [List.getElem?_set_self hkl], fun sh ns3 => ?_⟩
  rw [List.set_set]
  walk_at "evs"
  refine rr_I ⟨_, _, rfl, rfl, by decide, ?_⟩
  generalize sh.fmod 6 = share
  refine s_new ?_
  walk_at "evs"
  refine s_forR (js := [5]) ?_
  walk_at "evs"
  have hm9 : m ≤ 9 := by omega
  have hl : (ms.set k (.l (ns3.map .int))).length = ms.length := List.length_set
  rw [hl]
  refine ⟨⟨by omega, by omega⟩, fun i ds' ms' => ∃ (ts : List Tie) (ns4 : List Int) (o o2 o3 : SD), ds' = [.m k, .d (.int mo), .d (.int m), .d (.int share), .m ms.length, o, o2, o3] ∧ ms' = ms.set k (.l (ns4.map .int)) ++ [.l (ts.map encT)] ∧ (∀ t ∈ ts, TieOk m t ∧ Sm t ∧ t.1 < i) ∧ Rise ts ∧ ts.length ≤ 9 * i, ⟨[], ns3, .u, .u, .u, rfl, rfl, by simp, List.Pairwise.nil, by simp⟩, ?_, ?_⟩
  · rintro i ds' ms' hi2 ⟨ts, ns4, o, o2, o3, rfl, rfl, ht, hr, hz⟩
    have hi3 : i < m := by simpa using hi2
    refine eg_name ?_
    refine s_forR2 (js := [6]) ?_
    walk_at "evs"
    refine ⟨⟨by omega, by omega, by omega, by omega⟩, fun j ds' ms' => ∃ (ts : List Tie) (ns4 : List Int) (o2 o3 : SD), ds' = [.m k, .d (.int mo), .d (.int m), .d (.int share), .m ms.length, .d (.int i), o2, o3] ∧ ms' = ms.set k (.l (ns4.map .int)) ++ [.l (ts.map encT)] ∧ (∀ t ∈ ts, TieOk m t ∧ Sm t ∧ (t.1 < i ∨ (t.1 = i ∧ t.2.1 < i + 1 + j))) ∧ Rise ts ∧ ts.length ≤ 9 * i + j, ⟨ts, ns4, o2, o3, rfl, rfl, fun t h => ⟨(ht t h).1, (ht t h).2.1, .inl (ht t h).2.2⟩, hr, by omega⟩, ?_, ?_⟩
    · rintro j ds' ms' hj ⟨ts, ns5, o3, o4, rfl, rfl, ht, hr, hz⟩
      have hj2 : i + 1 + j < m := by omega
      have hkl2 : ∀ x : MD, k < (ms.set k x).length := fun x => by rw [List.length_set]; exact hkl
      refine eg_name ?_
      walk_at "evs"
      refine ⟨_, rfl, k, ns5, rfl, by rw [List.getElem?_append_left (hkl2 _), List.getElem?_set_self hkl], fun z ns6 => ?_⟩
      rw [List.set_append_left _ _ (hkl2 _), List.set_set]
      walk_at "evs"
      refine rr_I ⟨_, _, rfl, rfl, by decide, ?_⟩
      walk_at "evs"
      refine ⟨fun _ => ?_, fun _ => ?_⟩
      · walk_at "evs"
        refine e_append ?_
        walk_at "evs"
        refine rr_I ⟨_, _, rfl, rfl, ⟨by decide, Bd.mono (Bd.of (n := 64) (by decide)) (by decide)⟩, ?_⟩
        walk_at "evs"
        refine ⟨_, rfl, _, rfl, fun w ww w1 w2 => ?_⟩
        walk_at "evs"
        have ln : (ms.set k (.l (ns6.map PyData.int))).length = ms.length := List.length_set
        refine ⟨(show _ = some (MD.l (ts.map encT)) by rw [List.getElem?_append_right (by omega), ln, Nat.sub_self]; rfl), by rw [List.length_map]; omega, ?_⟩
        refine ⟨ts ++ [(i, i + 1 + j, w)], ns6, _, _, rfl, ?_, ?_, ?_, ?_⟩
        · rw [List.set_append_right _ _ (by omega), ln, Nat.sub_self, List.map_append]
          have e : ((i : Int) + 1 + (j : Int)) = ((i + 1 + j : Nat) : Int) := by omega
          show _ ++ [MD.l _] = _
          rw [e]
          rfl
        · intro t h
          rcases List.mem_append.mp h with h | h
          · obtain ⟨h1, h2, h3⟩ := ht t h
            exact ⟨h1, h2, by omega⟩
          · simp at h
            subst h
            exact ⟨⟨by show i < i + 1 + j; omega, hj2, ww⟩, ⟨w1, w2⟩, .inr ⟨rfl, by show i + 1 + j < i + 1 + (j + 1); omega⟩⟩
        · exact rise_snoc hr fun x hx => (ht x hx).2.2
        · rw [List.length_append]
          show ts.length + 1 ≤ _
          omega
      · walk_at "evs"
        refine ⟨ts, ns6, _, _, rfl, rfl, fun t h => ?_, hr, by omega⟩
        obtain ⟨h1, h2, h3⟩ := ht t h
        exact ⟨h1, h2, by omega⟩
    · rintro ds' ms' ⟨ts, ns5, o3, o4, rfl, rfl, ht, hr, hz⟩
      refine ⟨ts, ns5, _, _, _, rfl, rfl, fun t h => ?_, hr, by omega⟩
      obtain ⟨h1, h2, h3⟩ := ht t h
      exact ⟨h1, h2, by omega⟩
  · rintro ds' ms' ⟨ts, ns4, o, o2, o3, rfl, rfl, ht, hr, hz⟩
    have ln : (ms.set k (.l (ns4.map PyData.int))).length = ms.length := List.length_set
    walk_at "evs"
    refine rc_tuple ⟨_, ts.map encT, rfl, .inl (.m (by rw [List.getElem?_append_right (by omega), ln, Nat.sub_self]; rfl)), ?_⟩
    walk_at "evs"
    refine ⟨_, _, rfl, ln, ?_⟩
    exact r m ts ns4 (by omega) ⟨fun t h => (ht t h).1, by simp at hz; omega, by omega, by omega⟩ hr (fun t h => (ht t h).2.1) (by simp at hz; omega)

def Var (t : Tie) (x : PyData) : Prop := ∃ es, (x = .tuple es ∨ x = .list es) ∧ (es = [.int t.1, .int t.2.1, pr t.2.2] ∨ es = [.int t.2.1, .int t.1, pr t.2.2])
theorem var_row {t : Tie} {x : PyData} (h : Var t x) : ∃ es, rowOf x = some es ∧ (es = [.int t.1, .int t.2.1, pr t.2.2] ∨ es = [.int t.2.1, .int t.1, pr t.2.2]) := by
  obtain ⟨es, rfl | rfl, h⟩ := h
  · exact ⟨es, rfl, h⟩
  · exact ⟨es, rfl, h⟩
theorem wt_tie {t : Tie} (hw : Wt t.2.2) (hs : Sm t) : wtB (pr t.2.2) = true := by
  unfold wtB
  have h1 : isFrac (pr t.2.2) = true := by
    have := hw.lo.pos
    show (decide (1 ≤ t.2.2.2) && decide (Int.gcd t.2.2.1 t.2.2.2 = 1)) = true
    rw [decide_eq_true (by omega), decide_eq_true hw.lo.low]
    rfl
  rw [h1]
  obtain ⟨s1, s2⟩ := hs
  simp [s2]
  omega
theorem tie_var {m : Nat} {t : Tie} {x : PyData} (h : Var t x) (ht : TieOk m t) (hs : Sm t) : tieOf m x = encT t := by
  obtain ⟨es, hr, he⟩ := var_row h
  have w := wt_tie ht.w hs
  have h1 := ht.lt
  have h2 := ht.lm
  unfold tieOf
  rw [hr]
  rcases he with rfl | rfl
  · show tie3 m (.int t.1) (.int t.2.1) (pr t.2.2) = _
    unfold tie3
    have u : unlB m (.int t.1) (.int t.2.1) = true := by
      unfold unlB
      simp [numB, eqv_int]
      omega
    rw [u, w]
    show PyData.tuple [.int (if (t.2.1 : Int) < t.1 then t.2.1 else t.1), .int (if (t.2.1 : Int) > t.1 then t.2.1 else t.1), pr t.2.2] = _
    rw [if_neg (by omega), if_pos (by omega)]
  · show tie3 m (.int t.2.1) (.int t.1) (pr t.2.2) = _
    unfold tie3
    have u : unlB m (.int t.2.1) (.int t.1) = true := by
      unfold unlB
      simp [numB, eqv_int]
      omega
    rw [u, w]
    show PyData.tuple [.int (if (t.1 : Int) < t.2.1 then t.1 else t.2.1), .int (if (t.1 : Int) > t.2.1 then t.1 else t.2.1), pr t.2.2] = _
    rw [if_pos (by omega), if_neg (by omega)]
theorem ne_nil (es : List PyData) : PyData.eqv (.list es) (.list []) = es.isEmpty := by
  cases es <;> simp [PyData.eqv, PyData.eqvAll]
theorem shp_encT (t : Tie) : Shp 2 (encT t) := Shp.tup fun e he => by
  simp only [List.mem_cons, List.not_mem_nil, or_false] at he
  rcases he with rfl | rfl | rfl
  · exact (Shp.int _).mono (by decide)
  · exact (Shp.int _).mono (by decide)
  · exact Shp.pr _
theorem shp_ties (ts : List Tie) : Shp 3 (.list (ts.map encT)) := Shp.lst fun e he => by
  obtain ⟨t, _, rfl⟩ := List.mem_map.mp he
  exact shp_encT t

theorem lt_rise {a b : Tie} (h : a.1 < b.1 ∨ (a.1 = b.1 ∧ a.2.1 < b.2.1)) : PySem.W.dataLe false id (encT a) (encT b) = true ∧ PySem.W.dataLe false id (encT b) (encT a) = false := by
  have al : ∀ p q : Int × Int, PySem.W.alike (pr p) (pr q) = true := fun p q => by simp [PySem.W.alike, PySem.W.alikeAll]
  constructor
  · show (!PySem.W.dataLt (encT b) (encT a)) = true
    rw [tri_lt _ _ _ _ _ _ (al _ _)]
    rcases h with h | ⟨h1, h2⟩
    · rw [if_neg (by omega), decide_eq_false (by omega)]; rfl
    · rw [if_pos (by omega), if_neg (by omega), decide_eq_false (by omega)]; rfl
  · show (!PySem.W.dataLt (encT a) (encT b)) = false
    rw [tri_lt _ _ _ _ _ _ (al _ _)]
    rcases h with h | ⟨h1, h2⟩
    · rw [if_neg (by omega), decide_eq_true (by omega)]; rfl
    · rw [if_pos (by omega), if_neg (by omega), decide_eq_true (by omega)]; rfl
theorem sort_rise {ts : List Tie} {l : List PyData} (hr : Rise ts) (hp : l.Perm (ts.map encT)) : sortD l = ts.map encT := by
  refine sort_strict ?_ hp
  rw [List.pairwise_map]
  exact hr.imp fun h => lt_rise h
theorem dup_rise : ∀ {ts : List Tie}, Rise ts → dupB (ts.map encT) = false := fun {ts} hr => by
  unfold dupB
  rw [List.any_eq_false]
  intro p hp
  obtain ⟨l, hl⟩ := List.mem_iff_getElem?.mp hp
  rw [List.getElem?_zip_eq_some] at hl
  obtain ⟨h1, h2⟩ := hl
  rw [List.getElem?_drop, List.getElem?_map] at h2
  rw [List.getElem?_map] at h1
  cases q1 : ts[l]? with
  | none => rw [q1] at h1; cases h1
  | some a =>
    cases q2 : ts[1 + l]? with
    | none => rw [q2] at h2; cases h2
    | some b =>
      rw [q1] at h1
      rw [q2] at h2
      obtain ⟨p1, p2⟩ := p
      have e1 : encT a = p1 := Option.some.inj h1
      have e2 : encT b = p2 := Option.some.inj h2
      subst e1 e2
      obtain ⟨l1, e1⟩ := List.getElem?_eq_some_iff.mp q1
      obtain ⟨l2, e2⟩ := List.getElem?_eq_some_iff.mp q2
      have := List.pairwise_iff_getElem.mp hr l (1 + l) l1 l2 (by omega)
      rw [e1, e2] at this
      show ¬ PyData.eqv (.tuple [.int a.1, .int a.2.1]) (.tuple [.int b.1, .int b.2.1]) = true
      simp [PyData.eqv, PyData.eqvAll]
      omega
theorem told_vars {m : Nat} {ps : List (Tie × PyData)} (hw : ∀ p ∈ ps, TieOk m p.1 ∧ Sm p.1) (hv : ∀ p ∈ ps, Var p.1 p.2) : (ps.map Prod.snd).map (tieOf m) = (ps.map Prod.fst).map encT := by
  rw [List.map_map, List.map_map]
  apply List.map_congr_left
  intro p hp
  exact tie_var (hv p hp) (hw p hp).1 (hw p hp).2
theorem all_isT (ts : List Tie) : (ts.map encT).all isT = true := by
  rw [List.all_eq_true]
  intro x hx
  obtain ⟨t, _, rfl⟩ := List.mem_map.mp hx
  rfl
theorem web_ok {m : Nat} {ts : List Tie} {ps : List (Tie × PyData)} {x : PyData} (hw : WebOk m ts) (hr : Rise ts) (hs : ∀ t ∈ ts, Sm t) (hp : (ps.map Prod.fst).Perm ts) (hv : ∀ p ∈ ps, Var p.1 p.2) (hx : rowOf x = some (ps.map Prod.snd)) :
    okW (.int m) x = true ∧ sortD ((ps.map Prod.snd).map (tieOf m)) = ts.map encT := by
  have mem : ∀ p ∈ ps, p.1 ∈ ts := fun p h => hp.mem_iff.mp (List.mem_map.mpr ⟨p, h, rfl⟩)
  have e := told_vars (fun p h => ⟨hw.all _ (mem p h), hs _ (mem p h)⟩) hv
  have so : sortD ((ps.map Prod.snd).map (tieOf m)) = ts.map encT := by
    rw [e]
    exact sort_rise hr (hp.map encT)
  refine ⟨?_, so⟩
  unfold okW
  rw [hx]
  show ((decide (1 ≤ (m : Int)) && decide ((m : Int) ≤ 60)) && (decide ((ps.map Prod.snd).length ≤ 170) && webR m (ps.map Prod.snd))) = true
  unfold webR
  rw [so, dup_rise hr, e, all_isT]
  have h1 := hw.m1
  have h2 := hw.m60
  have h3 := hw.len
  have h4 := hp.length_eq
  rw [List.length_map] at h4
  rw [List.length_map, decide_eq_true (by omega), decide_eq_true (by omega), decide_eq_true (by omega)]
  rfl
/-- as they stand -/
theorem web_plain {m : Nat} {ts : List Tie} {x : PyData} (hw : WebOk m ts) (hr : Rise ts) (hs : ∀ t ∈ ts, Sm t) (hx : rowOf x = some (ts.map encT)) :
    okW (.int m) x = true ∧ sortD ((ts.map encT).map (tieOf m)) = ts.map encT := by
  have e : (ts.map fun t => (t, encT t)).map Prod.snd = ts.map encT := by rw [List.map_map]; rfl
  have e2 : (ts.map fun t => (t, encT t)).map Prod.fst = ts := by rw [List.map_map]; exact List.map_id _
  have := web_ok (ps := ts.map fun t => (t, encT t)) hw hr hs (by rw [e2]) (fun p hp => by
    obtain ⟨t, _, rfl⟩ := List.mem_map.mp hp
    exact ⟨_, .inl rfl, .inl rfl⟩) (by rw [e]; exact hx)
  rw [e] at this
  exact this
/-- a thing that is no tie among them -/
theorem bad_row {m : Int} {es : List PyData} {b : PyData} {x : PyData} (hx : rowOf x = some es) (hb : b ∈ es) (h : tieOf m b = .none) : okW (.int m) x = false := by
  unfold okW
  rw [hx]
  show (_ && (_ && webR m es)) = false
  have : (es.map (tieOf m)).all isT = false := by
    rw [Bool.eq_false_iff]
    intro z
    have := List.all_eq_true.mp z _ (List.mem_map.mpr ⟨b, hb, rfl⟩)
    rw [h] at this
    cases this
  unfold webR
  rw [this, Bool.false_and, Bool.and_false, Bool.and_false]
/-! one pair twice -/
def pairOf : PyData → Int × Int
  | .tuple (.int a :: .int b :: _) => (a, b)
  | _ => (0, 0)
def ltP (a b : Int × Int) : Prop := a.1 < b.1 ∨ (a.1 = b.1 ∧ a.2 < b.2)
theorem sorted_pairs : ∀ (ss : List PyData), (∀ e ∈ ss, ∃ i j t b : Int, e = .tuple [.int i, .int j, .tuple [.int t, .int b]]) → ss.Pairwise (fun a b => PySem.W.dataLe false id a b = true) → dupB ss = false → (ss.map pairOf).Pairwise ltP
  | [], _, _, _ => .nil
  | [a], _, _, _ => by simp
  | a :: b :: r, sh, pw, nd => by
    have nd2 : dupB (b :: r) = false := by
      unfold dupB at nd ⊢
      have : (List.zip (a :: b :: r) ((a :: b :: r).drop 1)) = (a, b) :: List.zip (b :: r) ((b :: r).drop 1) := rfl
      rw [this, List.any_cons, Bool.or_eq_false_iff] at nd
      exact nd.2
    have ih := sorted_pairs (b :: r) (fun e he => sh e (by simp [he])) (List.pairwise_cons.mp pw).2 nd2
    have hab : ltP (pairOf a) (pairOf b) := by
      obtain ⟨i, j, t, u, rfl⟩ := sh a (by simp)
      obtain ⟨i', j', t', u', rfl⟩ := sh b (by simp)
      have h1 := (List.pairwise_cons.mp pw).1 (.tuple [.int i', .int j', .tuple [.int t', .int u']]) (by simp)
      have h1' : (!PySem.W.dataLt (.tuple [.int i', .int j', .tuple [.int t', .int u']]) (.tuple [.int i, .int j, .tuple [.int t, .int u]])) = true := h1
      rw [tri_lt _ _ _ _ _ _ (by simp [PySem.W.alike, PySem.W.alikeAll])] at h1'
      have h2 : PyData.eqv (.tuple [.int i, .int j]) (.tuple [.int i', .int j']) = false := by
        unfold dupB at nd
        rw [show (List.zip (PyData.tuple [.int i, .int j, .tuple [.int t, .int u]] :: .tuple [.int i', .int j', .tuple [.int t', .int u']] :: r) ((PyData.tuple [.int i, .int j, .tuple [.int t, .int u]] :: .tuple [.int i', .int j', .tuple [.int t', .int u']] :: r).drop 1)) = (PyData.tuple [.int i, .int j, .tuple [.int t, .int u]], .tuple [.int i', .int j', .tuple [.int t', .int u']]) :: List.zip (PyData.tuple [.int i', .int j', .tuple [.int t', .int u']] :: r) ((PyData.tuple [.int i', .int j', .tuple [.int t', .int u']] :: r).drop 1) from rfl, List.any_cons, Bool.or_eq_false_iff] at nd
        exact nd.1
      simp [PyData.eqv, PyData.eqvAll] at h2
      show i < i' ∨ (i = i' ∧ j < j')
      by_cases e1 : i' = i
      · rw [if_pos e1] at h1'
        by_cases e2 : j' = j
        · exact absurd e2.symm (h2 e1.symm)
        · rw [if_neg e2] at h1'
          simp at h1'
          omega
      · rw [if_neg e1] at h1'
        simp at h1'
        omega
    rw [List.map_cons]
    refine List.pairwise_cons.mpr ⟨fun x hx => ?_, ih⟩
    rcases List.mem_cons.mp hx with rfl | hx
    · exact hab
    · have := (List.pairwise_cons.mp ih).1 x hx
      unfold ltP at *
      omega
theorem twice_row {m : Nat} {es : List PyData} {x : PyData} (hx : rowOf x = some es) (h : ¬ ((es.map (tieOf m)).map pairOf).Nodup) : okW (.int m) x = false := by
  unfold okW
  rw [hx]
  show (_ && (_ && webR m es)) = false
  have : webR m es = false := by
    unfold webR
    cases ha : (es.map (tieOf m)).all isT with
    | false => rfl
    | true =>
      rw [Bool.true_and]
      obtain ⟨_, _, _, sh⟩ := told_alike ha
      cases hd : dupB (sortD (es.map (tieOf m))) with
      | true => rfl
      | false =>
        exfalso
        have pw := sorted_pairs _ (fun e he => sh e (List.mem_mergeSort.mp he)) (PySem.W.sort_pairwise totalD _) hd
        have nd : ((sortD (es.map (tieOf m))).map pairOf).Nodup := pw.imp fun h e => by
          subst e
          unfold ltP at h
          omega
        exact h (((List.mergeSort_perm (es.map (tieOf m)) _).map pairOf).nodup_iff.mp nd)
  rw [this, Bool.and_false, Bool.and_false]

/-- what a thing tells, if it tells a tie -/
theorem tie_told {k : Nat} {x : PyData} (h : isT (tieOf k x) = true) : ∃ t : Tie, tieOf k x = encT t ∧ TieOk k t ∧ Sm t := by
  unfold tieOf at h ⊢
  split at h
  · rename_i a b w hr
    unfold tie3 at h ⊢
    by_cases c : (unlB k a b && wtB w) = true
    · rw [if_pos c] at h ⊢
      rw [Bool.and_eq_true] at c
      obtain ⟨i, j, rfl, rfl⟩ := unl_inv c.1
      obtain ⟨hu, hw⟩ := c
      have hf : isFrac w = true := by
        unfold wtB at hw
        rw [Bool.and_eq_true] at hw
        exact hw.1
      obtain ⟨t, u, rfl⟩ := fracI hf
      unfold wtB at hw
      rw [hf, Bool.true_and] at hw
      simp only [Bool.and_eq_true, decide_eq_true_eq] at hw
      unfold unlB at hu
      simp [numB, eqv_int] at hu
      have hl : 1 ≤ u ∧ Int.gcd t u = 1 := by
        unfold isFrac at hf
        simp only [Bool.and_eq_true, decide_eq_true_eq] at hf
        exact hf
      refine ⟨((min i j).toNat, (max i j).toNat, (t, u)), ?_, ⟨?_, ?_, ⟨⟨by show 0 < u; omega, hl.2⟩, Bd.of (by show t.natAbs < _; omega), Bd.of (by show u.natAbs < _; omega)⟩⟩, by show t.natAbs ≤ _; omega, by show u ≤ _; omega⟩
      · show PyData.tuple [.int (if j < i then j else i), .int (if j > i then j else i), _] = PyData.tuple [.int ((min i j).toNat : Int), .int ((max i j).toNat : Int), .tuple [.int t, .int u]]
        have e1 : (if j < i then j else i) = ((min i j).toNat : Int) := by split <;> omega
        have e2 : (if j > i then j else i) = ((max i j).toNat : Int) := by split <;> omega
        rw [e1, e2]
      · show (min i j).toNat < (max i j).toNat
        omega
      · show (max i j).toNat < k
        omega
    · rw [if_neg c] at h
      cases h
  · cases h
/-- what made_web takes is a web -/
theorem okW_web {m : Int} {x : PyData} {es : List PyData} (hx : rowOf x = some es) (h : okW (.int m) x = true) : ∃ (k : Nat) (ts : List Tie), m = k ∧ sortD (es.map (tieOf m)) = ts.map encT ∧ WebOk k ts ∧ Rise ts ∧ ∀ t ∈ ts, Sm t := by
  unfold okW at h
  rw [hx] at h
  simp only [Bool.and_eq_true, decide_eq_true_eq] at h
  obtain ⟨⟨m1, m60⟩, l170, hw⟩ := h
  obtain ⟨k, rfl⟩ := Int.eq_ofNat_of_zero_le (show 0 ≤ m by omega)
  unfold webR at hw
  rw [Bool.and_eq_true] at hw
  obtain ⟨ha, hd⟩ := hw
  have hd : dupB (sortD (es.map (tieOf k))) = false := by simpa using hd
  have mem : ∀ e ∈ sortD (es.map (tieOf k)), ∃ t : Tie, e = encT t ∧ TieOk k t ∧ Sm t := fun e he => by
    have h1 := List.mem_mergeSort.mp he
    obtain ⟨y, hy, rfl⟩ := List.mem_map.mp h1
    exact tie_told (List.all_eq_true.mp ha _ h1)
  have len : (sortD (es.map (tieOf k))).length ≤ 170 := by
    have := (List.mergeSort_perm (es.map (tieOf k)) (PySem.W.dataLe false id)).length_eq
    show (List.mergeSort _ _).length ≤ 170
    rw [this, List.length_map]
    omega
  have pw : List.Pairwise ltP ((sortD (es.map (tieOf k))).map pairOf) := sorted_pairs _ (fun e he => by
    obtain ⟨t, rfl, _⟩ := mem e he
    exact ⟨_, _, _, _, rfl⟩) (PySem.W.sort_pairwise totalD _) hd
  generalize sortD (es.map (tieOf k)) = ss at *
  have split : ∀ l : List PyData, (∀ e ∈ l, ∃ t : Tie, e = encT t ∧ TieOk k t ∧ Sm t) → ∃ ts : List Tie, l = ts.map encT ∧ ∀ t ∈ ts, TieOk k t ∧ Sm t := by
    intro l
    induction l with
    | nil => intro _; exact ⟨[], rfl, nofun⟩
    | cons e r ih =>
      intro z
      obtain ⟨t, rfl, ok⟩ := z e (by simp)
      obtain ⟨ts, rfl, oks⟩ := ih fun y hy => z y (by simp [hy])
      exact ⟨t :: ts, rfl, fun y hy => by
        rcases List.mem_cons.mp hy with rfl | hy
        · exact ok
        · exact oks y hy⟩
  obtain ⟨ts, rfl, ok⟩ := split ss mem
  refine ⟨k, ts, rfl, rfl, ⟨fun t ht => (ok t ht).1, by simpa using len, by omega, by omega⟩, ?_, fun t ht => (ok t ht).2⟩
  rw [List.map_map, List.pairwise_map] at pw
  refine pw.imp fun {a b} q => ?_
  have q : (a.1 : Int) < b.1 ∨ ((a.1 : Int) = b.1 ∧ (a.2.1 : Int) < b.2.1) := q
  omega

/-! ### the texts of numbers -/
theorem tl_dash : TL.tl ("-" : Str) = [45] := by rw [TL.tl_ofString]; rfl
theorem tl_sls : TL.tl ("/" : Str) = [47] := by rw [TL.tl_ofString]; rfl
theorem tl_eqs : TL.tl ("=" : Str) = [61] := by rw [TL.tl_ofString]; rfl
theorem tl_spc : TL.tl (" " : Str) = [32] := by rw [TL.tl_ofString]; rfl
theorem tl_emp : TL.tl Str.empty = [] := rfl
def numS (i : Int) : Str := Str.ofString (toString i)
theorem tl_nat (n : Nat) : TL.tl (numS (n : Int)) = TL.numL n := TL.tl_num n
theorem tl_neg (n : Nat) : TL.tl (numS (Int.negSucc n)) = 45 :: TL.numL (n + 1) := by
  have h := TL.tl_num (n + 1)
  rw [TL.tl_ofString] at h
  unfold numS
  rw [TL.tl_ofString]
  have e : toString (Int.negSucc n) = "-" ++ toString (((n + 1 : Nat)) : Int) := rfl
  rw [e, String.toList_append, List.map_append, h]
  rfl
theorem num_cases (i : Int) : (∃ n : Nat, i = n ∧ TL.tl (numS i) = TL.numL n) ∨ ∃ n : Nat, i = -((n + 1 : Nat) : Int) ∧ TL.tl (numS i) = 45 :: TL.numL (n + 1) := by
  cases i with
  | ofNat n => exact .inl ⟨n, rfl, tl_nat n⟩
  | negSucc n => exact .inr ⟨n, rfl, tl_neg n⟩
theorem numS_len {i : Int} (h : i.natAbs < 10 ^ 10) : (numS i).length ≤ 11 := by
  rw [TL.len_tl]
  rcases num_cases i with ⟨n, rfl, e⟩ | ⟨n, rfl, e⟩
  · rw [e]
    exact Nat.le_trans (TL.numL_len (k := 10) (by decide) (by omega)) (by decide)
  · rw [e, List.length_cons]
    exact Nat.succ_le_succ (TL.numL_len (k := 10) (by decide) (by omega))
theorem numS_free {i : Int} {s : Nat} (h1 : s ≠ 45) (h2 : s < 48 ∨ 57 < s) : s ∉ TL.tl (numS i) := by
  rcases num_cases i with ⟨n, rfl, e⟩ | ⟨n, rfl, e⟩
  · rw [e]
    exact TL.numL_free h2
  · rw [e]
    intro z
    rcases List.mem_cons.mp z with z | z
    · exact h1 z
    · exact TL.numL_free h2 z
theorem natS_free {n s : Nat} (h2 : s < 48 ∨ 57 < s) : s ∉ TL.tl (numS (n : Int)) := by
  rw [tl_nat]
  exact TL.numL_free h2
/-- how a word is read as a number -/
def strip : List Nat → List Nat
  | 45 :: r => r
  | l => l
def digB (l : List Nat) : Bool := decide (l.length ≤ 10) && (decide (l ≠ []) && l.all fun c => decide (48 ≤ c) && decide (c ≤ 57))
def valL : List Nat → Int
  | 45 :: r => -(NumText.digitsVal r : Int)
  | l => (NumText.digitsVal l : Int)
def readI (x : Str) : PyData := if digB (strip (TL.tl x)) then .int (valL (TL.tl x)) else .none
theorem pre_tl (x : Str) : TL.tl (Txt.removeprefix x "-") = strip (TL.tl x) := by
  have l1 : ("-" : Str).length = 1 := by rw [TL.len_tl, tl_dash]; rfl
  rw [StrLaws.removeprefix_eq, StrLaws.subAt_eq, l1, TL.len_tl x]
  rw [show ("-" : Str).cps.toList = [45] from tl_dash]
  show TL.tl (if _ then _ else _) = _
  generalize hx : TL.tl x = l
  have hx2 : x.cps.toList = l := hx
  rw [hx2]
  cases l with
  | nil => exact hx
  | cons c r =>
    by_cases hc : c = 45
    · subst hc
      rw [if_pos (by simp)]
      show (((45 :: r).drop 1).take ((45 :: r).length - 1)) = r
      simp
    · rw [if_neg (by simp [hc])]
      have : strip (c :: r) = c :: r := by
        unfold strip
        split
        · rename_i q
          exact absurd (List.cons.inj q).1 hc
        · rfl
      rw [this]
      exact hx
theorem dig_at : ∀ c : Nat, c < 128 → Unicode.isDigit c = (decide (48 ≤ c) && decide (c ≤ 57)) := by decide +kernel
theorem asks_tl (d : Str) : (Txt.isascii d && Txt.isdigit d) = (decide (TL.tl d ≠ []) && (TL.tl d).all fun c => decide (48 ≤ c) && decide (c ≤ 57)) := by
  have e1 : Txt.isascii d = (TL.tl d).all (fun c => decide (c < 128)) := by
    unfold Txt.isascii
    rw [← Array.all_toList]
  have e2 : Txt.isdigit d = (decide (TL.tl d ≠ []) && (TL.tl d).all Unicode.isDigit) := by
    unfold Txt.isdigit
    rw [← Array.all_toList, TL.len_tl]
    show (decide ((TL.tl d).length > 0) && (TL.tl d).all Unicode.isDigit) = _
    cases TL.tl d <;> simp
  rw [e1, e2]
  generalize TL.tl d = l
  have h : ∀ l : List Nat, ((l.all fun c => decide (c < 128)) && l.all Unicode.isDigit) = l.all fun c => decide (48 ≤ c) && decide (c ≤ 57) := by
    intro l
    induction l with
    | nil => rfl
    | cons c r ih =>
      rw [List.all_cons, List.all_cons, List.all_cons, ← ih]
      by_cases hc : c < 128
      · rw [dig_at c hc, decide_eq_true hc]
        cases (r.all fun c => decide (c < 128)) <;> cases (r.all Unicode.isDigit) <;> cases (decide (48 ≤ c) && decide (c ≤ 57)) <;> rfl
      · rw [decide_eq_false hc, show (decide (48 ≤ c) && decide (c ≤ 57)) = false by rw [decide_eq_false (show ¬ c ≤ 57 by omega), Bool.and_false]]
        simp
  rw [← h l]
  cases (decide (l ≠ [])) <;> simp
theorem dig_all {l : List Nat} (h : digB l = true) : NumText.AllDigits l ∧ l ≠ [] ∧ l.length ≤ 10 := by
  unfold digB at h
  rw [Bool.and_eq_true, Bool.and_eq_true] at h
  refine ⟨fun c hc => ?_, of_decide_eq_true h.2.1, of_decide_eq_true h.1⟩
  have := List.all_eq_true.mp h.2.2 c hc
  rw [Bool.and_eq_true] at this
  exact ⟨of_decide_eq_true this.1, of_decide_eq_true this.2⟩
theorem int_read {x : Str} (h : digB (strip (TL.tl x)) = true) : intText? x = some (valL (TL.tl x)) ∧ x.length ≤ 640 := by
  obtain ⟨a, n, l⟩ := dig_all h
  rw [TL.len_tl]
  generalize hx : TL.tl x = y at *
  have hx2 : x.cps.toList = y := hx
  by_cases c : ∃ r, y = 45 :: r
  · obtain ⟨r, rfl⟩ := c
    have e : strip (45 :: r) = r := rfl
    rw [e] at a n l
    exact ⟨intText_neg hx2 a n (by rw [TL.len_tl, hx, List.length_cons]; omega), by rw [List.length_cons]; omega⟩
  · have e : strip y = y := by
      unfold strip
      split
      · exact absurd ⟨_, rfl⟩ c
      · rfl
    have e2 : valL y = (NumText.digitsVal y : Int) := by
      unfold valL
      split
      · exact absurd ⟨_, rfl⟩ c
      · rfl
    rw [e] at a n l
    rw [e2, ← hx]
    exact ⟨intText_digits (by rw [hx2]; exact a) (by rw [hx2]; exact n) (by rw [TL.len_tl, hx]; omega), by rw [hx]; omega⟩
theorem numL_head (n : Nat) : ∀ r, TL.numL n ≠ 45 :: r := fun r e => by
  have := TL.numL_free (n := n) (s := 45) (by decide)
  rw [e] at this
  exact this (List.mem_cons_self ..)
theorem numL_dig {n : Nat} (h : n < 10 ^ 10) : digB (TL.numL n) = true := by
  unfold digB
  rw [decide_eq_true (TL.numL_len (k := 10) (by decide) h), decide_eq_true (TL.numL_ne n), Bool.true_and, Bool.true_and, List.all_eq_true]
  intro c hc
  have := TL.numL_digits n c hc
  rw [decide_eq_true this.1, decide_eq_true this.2]
  rfl
theorem readI_num {i : Int} (h : i.natAbs < 10 ^ 10) : readI (numS i) = .int i := by
  unfold readI
  rcases num_cases i with ⟨n, rfl, e⟩ | ⟨n, rfl, e⟩
  · have e1 : strip (TL.numL n) = TL.numL n := by
      unfold strip
      split
      · rename_i q
        exact absurd q (numL_head n _)
      · rfl
    have e2 : valL (TL.numL n) = (NumText.digitsVal (TL.numL n) : Int) := by
      unfold valL
      split
      · rename_i q
        exact absurd q (numL_head n _)
      · rfl
    rw [e, e1, numL_dig (by omega), if_pos rfl, e2, TL.numL_val]
  · rw [e]
    show (if digB (TL.numL (n + 1)) = true then PyData.int (-(NumText.digitsVal (TL.numL (n + 1)) : Int)) else .none) = _
    rw [numL_dig (by omega), if_pos rfl, TL.numL_val]
/-- the parts of a text are no longer -/
theorem part_len (x y : Str) : (Txt.partition x y).1.length ≤ x.length ∧ (Txt.partition x y).2.2.length ≤ x.length := by
  unfold Txt.partition
  split
  · refine ⟨?_, ?_⟩
    · show Str.length _ ≤ _
      rw [TL.len_tl, TL.tl_strSub, TL.len_tl, List.length_take, List.length_drop]
      omega
    · show Str.length _ ≤ _
      rw [TL.len_tl, TL.tl_strSub, TL.len_tl, List.length_take, List.length_drop]
      omega
  · exact ⟨Nat.le_refl _, Nat.zero_le _⟩
/-- the texts of weights, ties, webs -/
def wtS (w : Int × Int) : Str := if w.2 = 1 then numS w.1 else numS w.1 ++ "/" ++ numS w.2
def ptS (t : Tie) : Str := numS t.1 ++ "-" ++ numS t.2.1
def tieS (t : Tie) : Str := ptS t ++ "=" ++ wtS t.2.2
def webS (m : Nat) (ts : List Tie) : Str := Txt.join " " (numS m :: ts.map tieS)
theorem app_len (a b : Str) : (a ++ b).length = a.length + b.length := by
  rw [TL.len_tl, TL.tl_append, List.length_append, TL.len_tl a, TL.len_tl b]
theorem len1_dash : ("-" : Str).length = 1 := by rw [TL.len_tl, tl_dash]; rfl
theorem len1_sls : ("/" : Str).length = 1 := by rw [TL.len_tl, tl_sls]; rfl
theorem len1_eqs : ("=" : Str).length = 1 := by rw [TL.len_tl, tl_eqs]; rfl
theorem len1_spc : (" " : Str).length = 1 := by rw [TL.len_tl, tl_spc]; rfl
theorem emp_app (x : Str) : Str.empty ++ x = x := TL.ext_tl (by rw [TL.tl_append, tl_emp, List.nil_append])
theorem app_ass (x y z : Str) : x ++ y ++ z = x ++ (y ++ z) := TL.ext_tl (by rw [TL.tl_append, TL.tl_append, TL.tl_append, TL.tl_append, List.append_assoc])

theorem lg_ok {i : Int} (h : i.natAbs < 10 ^ 10) : i.natAbs.log2 < 1920 := PySem.Flt.log2_lt_of (by decide) (Nat.lt_of_lt_of_le h (by decide))
theorem le_line {x : Str} (h : x.length ≤ 1000) : x.length ≤ sizeLine := Nat.le_trans h (by decide)
theorem app_le {x y : Str} {a b c : Nat} (hx : x.length ≤ a) (hy : y.length ≤ b) (h : a + b ≤ c) : (x ++ y).length ≤ c := by
  rw [app_len]
  omega
theorem emp_le {x : Str} {a : Nat} (hx : x.length ≤ a) : (Str.empty ++ x).length ≤ a := by
  rw [emp_app]
  exact hx
theorem wt_small {w : Int × Int} (h : Wt w) (h1 : w.1.natAbs ≤ 1000000000) (h2 : w.2 ≤ 1000) : w.1.natAbs < 10 ^ 10 ∧ w.2.natAbs < 10 ^ 10 := by
  have := h.lo.pos
  exact ⟨by omega, by omega⟩
theorem wtS_len {w : Int × Int} (h1 : w.1.natAbs < 10 ^ 10) (h2 : w.2.natAbs < 10 ^ 10) : (wtS w).length ≤ 23 := by
  unfold wtS
  split
  · exact Nat.le_trans (numS_len h1) (by decide)
  · exact app_le (a := 12) (app_le (a := 11) (b := 1) (numS_len h1) (by rw [len1_sls]; decide) (by decide)) (numS_len h2) (by decide)
theorem nat_small {n : Nat} (h : n ≤ 60) : (n : Int).natAbs < 10 ^ 10 := by omega
theorem ptS_len {m : Nat} {t : Tie} (h : TieOk m t) (hm : m ≤ 60) : (ptS t).length ≤ 23 := by
  have h1 := h.lt
  have h2 := h.lm
  exact app_le (a := 12) (app_le (a := 11) (b := 1) (numS_len (nat_small (by omega))) (by rw [len1_dash]; decide) (by decide)) (numS_len (nat_small (by omega))) (by decide)
theorem tieS_len {m : Nat} {t : Tie} (h : TieOk m t) (hs : Sm t) (hm : m ≤ 60) : (tieS t).length ≤ 47 := by
  have z := wt_small h.w hs.1 hs.2
  exact app_le (a := 24) (app_le (a := 23) (b := 1) (ptS_len h hm) (by rw [len1_eqs]; decide) (by decide)) (wtS_len z.1 z.2) (by decide)
def Φ_shown_weight : Ph := ph1 fun a ms R => ∃ w : Int × Int, a = .d (pr w) ∧ w.1.natAbs < 10 ^ 10 ∧ w.2.natAbs < 10 ^ 10 ∧ R (.d (.str (wtS w))) ms
theorem len_shown_weight : ∀ as ms R, Φ_shown_weight as ms R → as.length = 1 := ph1_len
theorem rd_shown_weight {K : PySem.W.Frag} : ∀ as ms R, Φ_shown_weight as ms R → S K (t_shown_weight K) (as ++ List.replicate (3 - as.length) .u) ms (fin R) := by
  rintro as ms R ⟨a, rfl, w, rfl, h1, h2, r⟩
  unfold t_shown_weight
  refine s_seq (s_asgG (js := [1, 2]) (e_var rfl ?_))
  refine eg_tup rfl (egs_cons (eg_name (egs_cons (eg_name (egs_nil ?_)))))
  walk_at "evs"
  refine rr_eq ⟨_, _, .d _, .d _, shaped_int _, shaped_int _, ?_⟩
  rw [eqv_int]
  refine ⟨_, rfl, fun h => ?_, fun h => ?_⟩
  · walk_at "evs"
    refine rc_str ⟨w.1, rfl, lg_ok h1, ?_⟩
    have e : wtS w = numS w.1 := if_pos (of_decide_eq_true h)
    rw [e] at r
    exact r
  · have e : wtS w = numS w.1 ++ "/" ++ numS w.2 := if_neg (of_decide_eq_false h)
    refine e_fs (ej_cons (e_fmtI (e_var rfl ⟨_, rfl, lg_ok h1, _, rfl, le_line (emp_le (Nat.le_trans (numS_len h1) (by decide))), ?_⟩)))
    refine ej_cons (e_str ⟨_, rfl, le_line (app_le (a := 11) (b := 1) (emp_le (numS_len h1)) (by rw [len1_sls]; decide) (by decide)), ?_⟩)
    refine ej_cons (e_fmtI (e_var rfl ⟨_, rfl, lg_ok h2, _, rfl, le_line (app_le (a := 12) (app_le (a := 11) (b := 1) (emp_le (numS_len h1)) (by rw [len1_sls]; decide) (by decide)) (numS_len h2) (by decide)), ej_nil ?_⟩))
    rw [emp_app]
    rw [e] at r
    exact r

def Φ_show_web : Ph := ph1 fun a ms R => ∃ (m : Nat) (ts : List Tie), a = .d (encW m ts) ∧ WebOk m ts ∧ (∀ t ∈ ts, Sm t) ∧ R (.d (.str (webS m ts))) ms
theorem len_show_web : ∀ as ms R, Φ_show_web as ms R → as.length = 1 := ph1_len
theorem enc_at {ts : List Tie} {i : Nat} {e : PyData} (h : (ts.map encT)[i]? = some e) : ∃ t, ts[i]? = some t ∧ e = encT t := by
  rw [List.getElem?_map] at h
  cases q : ts[i]? with
  | none => rw [q] at h; cases h
  | some t => rw [q] at h; cases h; exact ⟨t, rfl, rfl⟩
theorem words_sum {m : Nat} {ts : List Tie} (hw : WebOk m ts) (hs : ∀ t ∈ ts, Sm t) : ((numS m :: ts.map tieS).map (·.length)).sum + (numS m :: ts.map tieS).length * (" " : Str).length ≤ 10000 := by
  have h : ∀ l : List Tie, (∀ t ∈ l, TieOk m t ∧ Sm t) → ((l.map tieS).map (·.length)).sum ≤ 47 * l.length := by
    intro l
    induction l with
    | nil => intro _; decide
    | cons t r ih =>
      intro z
      have z1 := z t (by simp)
      have := ih fun x hx => z x (by simp [hx])
      have l1 := tieS_len z1.1 z1.2 hw.m60
      simp only [List.map_cons, List.sum_cons, List.length_cons]
      omega
  have h1 := h ts fun t ht => ⟨hw.all t ht, hs t ht⟩
  have h2 := hw.len
  have h3 := numS_len (nat_small hw.m60)
  rw [len1_spc]
  simp only [List.map_cons, List.sum_cons, List.length_cons, List.length_map] at h1 ⊢
  omega
theorem rd_show_web {K : PySem.W.Frag} : ∀ as ms R, Φ_show_web as ms R → S K (t_show_web K Φ_shown_weight) (as ++ List.replicate (7 - as.length) .u) ms (fin R) := by
  rintro as ms R ⟨a, rfl, m, ts, rfl, hw, hs, r⟩
  have h60 := hw.m60
  unfold t_show_web
  refine s_seq (s_asgG (js := [1, 2]) (e_var rfl ?_))
  refine eg_tup rfl (egs_cons (eg_name (egs_cons (eg_name (egs_nil ?_)))))
  refine s_seq (s_asg (e_lcT (js := [4, 5, 6]) (by simp) (e_var rfl ⟨ts.map encT, rfl, by rw [List.length_map]; have := hw.len; omega, fun k acc ms' => acc = (ts.take k).map (fun t => PyData.str (tieS t)) ∧ ms' = ms, ⟨rfl, rfl⟩, ?_, ?_⟩)))
  · rintro i e acc ms1 he ⟨rfl, rfl⟩
    obtain ⟨t, ht, rfl⟩ := enc_at he
    have mem := List.mem_of_getElem? ht
    have ok := hw.all t mem
    have sm := hs t mem
    have h1 := ok.lt
    have h2 := ok.lm
    have z := wt_small ok.w sm.1 sm.2
    refine eg_tup rfl (egs_cons (eg_name (egs_cons (eg_name (egs_cons (eg_name (egs_nil ?_)))))))
    walk_at "evs"
    refine ⟨fun _ => ?_, nofun⟩
    have s1 := nat_small (n := t.1) (by omega)
    have s2 := nat_small (n := t.2.1) (by omega)
    have l1 := emp_le (numS_len s1)
    have l2 : (Str.empty ++ numS t.1 ++ "-").length ≤ 12 := app_le l1 (b := 1) (by rw [len1_dash]; decide) (by decide)
    have l3 : (Str.empty ++ numS t.1 ++ "-" ++ numS t.2.1).length ≤ 23 := app_le l2 (numS_len s2) (by decide)
    have l4 : (Str.empty ++ numS t.1 ++ "-" ++ numS t.2.1 ++ "=").length ≤ 24 := app_le l3 (b := 1) (by rw [len1_eqs]; decide) (by decide)
    refine e_fs (ej_cons (e_fmtI (e_var rfl ⟨_, rfl, lg_ok s1, _, rfl, le_line (Nat.le_trans l1 (by decide)), ?_⟩)))
    refine ej_cons (e_str ⟨_, rfl, le_line (Nat.le_trans l2 (by decide)), ?_⟩)
    refine ej_cons (e_fmtI (e_var rfl ⟨_, rfl, lg_ok s2, _, rfl, le_line (Nat.le_trans l3 (by decide)), ?_⟩))
    refine ej_cons (e_str ⟨_, rfl, le_line (Nat.le_trans l4 (by decide)), ?_⟩)
    refine ej_cons (e_fmtS ?_)
    walk_at "evs"
    refine ⟨_, rfl, t.2.2, rfl, z.1, z.2, ?_⟩
    refine ⟨_, rfl, le_line (Nat.le_trans (wtS_len z.1 z.2) (by decide)), _, rfl, le_line (app_le l4 (wtS_len z.1 z.2) (by decide)), ej_nil ?_⟩
    refine ⟨_, rfl, ?_, rfl⟩
    rw [emp_app, take_snoc ht, List.map_append]
    rfl
  rintro acc ms1 ⟨rfl, rfl⟩
  rw [List.length_map, List.take_length]
  have sum := words_sum hw hs
  refine s_ret (e_join (e_str ⟨_, rfl, ?_⟩))
  walk_at "evs"
  refine rc_str ⟨(m : Int), rfl, lg_ok (nat_small h60), ?_⟩
  walk_at "evs"
  refine rr_cat ⟨_, _, rfl, rfl, by rw [List.length_map]; have := hw.len; simp; omega, ?_⟩
  refine ⟨numS m :: ts.map tieS, ?_, Nat.le_trans sum (by decide), r⟩
  rw [List.map_cons, List.map_map]
  exact .d _

def Φ_read_int : Ph := ph1 fun a ms R => ∃ x : Str, a = .d (.str x) ∧ x.length ≤ 1000000 ∧ R (.d (readI x)) ms
theorem len_read_int : ∀ as ms R, Φ_read_int as ms R → as.length = 1 := ph1_len
theorem strip_le (l : List Nat) : (strip l).length ≤ l.length := by
  unfold strip
  split
  · rw [List.length_cons]
    omega
  · exact Nat.le_refl _
theorem rd_read_int {K : PySem.W.Frag} : ∀ as ms R, Φ_read_int as ms R → S K (t_read_int K) (as ++ List.replicate (2 - as.length) .u) ms (fin R) := by
  rintro as ms R ⟨a, rfl, x, rfl, hz, r⟩
  have dl : (Txt.removeprefix x "-").length = (strip (TL.tl x)).length := by rw [TL.len_tl, pre_tl]
  have da := asks_tl (Txt.removeprefix x "-")
  rw [pre_tl] at da
  have dz : (Txt.removeprefix x "-").length ≤ 1000000 := by
    have := strip_le (TL.tl x)
    rw [TL.len_tl] at hz
    omega
  have eB : digB (strip (TL.tl x)) = (decide ((Txt.removeprefix x "-").length ≤ 10) && (Txt.isascii (Txt.removeprefix x "-") && Txt.isdigit (Txt.removeprefix x "-"))) := by
    rw [da, dl]
    rfl
  unfold t_read_int
  refine s_seq (s_asg (e_pre (e_var rfl ⟨x, rfl, e_str ⟨_, rfl, hz, ?_⟩⟩)))
  generalize hd : Txt.removeprefix x "-" = d at *
  unfold readI at r
  have no : digB (strip (TL.tl x)) = false → R (.d .none) ms := fun e => by
    rw [e, if_neg (by decide)] at r
    exact r
  walk_at "evs"
  refine rc_lenS ⟨d, rfl, dz, ?_⟩
  walk_at "evs"
  refine ⟨fun h => ?_, fun h => ?_⟩
  · refine ⟨fun _ => ?_, nofun⟩
    walk_at "evs"
    refine no ?_
    rw [eB, decide_eq_false (by simp at h; omega), Bool.false_and]
  have h10 : d.length ≤ 10 := by simp at h; omega
  rw [decide_eq_true h10, Bool.true_and] at eB
  walk_at "evs"
  refine e_ask (e_var rfl ⟨d, rfl, ?_⟩)
  refine ⟨_, rfl, fun h1 => ?_, fun h1 => ?_⟩
  · refine ⟨fun _ => ?_, nofun⟩
    walk_at "evs"
    refine no ?_
    rw [eB, show Txt.isascii d = false by simpa using h1, Bool.false_and]
  rw [show Txt.isascii d = true by simpa using h1, Bool.true_and] at eB
  walk_at "evs"
  refine e_ask (e_var rfl ⟨d, rfl, ?_⟩)
  refine ⟨_, rfl, fun h2 => ?_, fun h2 => ?_⟩
  · walk_at "evs"
    refine no ?_
    rw [eB]
    simpa using h2
  rw [show Txt.isdigit d = true by simpa using h2] at eB
  rw [eB, if_pos rfl] at r
  obtain ⟨e1, e2⟩ := int_read eB
  walk_at "evs"
  exact rc_intS ⟨x, _, rfl, e2, e1, r⟩

def partD (x y : Str) : PyData := .tuple [.str (Txt.partition x y).1, .str (Txt.partition x y).2.1, .str (Txt.partition x y).2.2]
def readW (x : Str) : PyData := .tuple [readI (Txt.partition x "/").1, if (Txt.partition x "/").2.1.length ≠ 0 then readI (Txt.partition x "/").2.2 else .int 1]
theorem mid_len (x y : Str) : (Txt.partition x y).2.1.length ≤ y.length := by
  unfold Txt.partition
  split
  · exact Nat.le_refl _
  · exact Nat.zero_le _
def Φ_read_weight : Ph := ph1 fun a ms R => ∃ x : Str, a = .d (.str x) ∧ x.length ≤ 1000000 ∧ R (.d (readW x)) ms
theorem len_read_weight : ∀ as ms R, Φ_read_weight as ms R → as.length = 1 := ph1_len
theorem rd_read_weight {K : PySem.W.Frag} : ∀ as ms R, Φ_read_weight as ms R → S K (t_read_weight K Φ_read_int) (as ++ List.replicate (4 - as.length) .u) ms (fin R) := by
  rintro as ms R ⟨a, rfl, x, rfl, hz, r⟩
  have p := part_len x "/"
  have p2 := mid_len x "/"
  rw [len1_sls] at p2
  unfold readW at r
  unfold t_read_weight
  refine s_seq (s_asgG (js := [1, 2, 3]) (e_prt (e_var rfl ⟨x, rfl, e_str ⟨_, rfl, by rw [len1_sls]; decide, hz, ?_⟩⟩)))
  generalize Txt.partition x "/" = q at *
  refine eg_tup rfl (egs_cons (eg_name (egs_cons (eg_name (egs_cons (eg_name (egs_nil ?_)))))))
  walk_at "evs"
  refine ⟨_, rfl, q.1, rfl, by omega, ?_⟩
  walk_at "evs"
  refine et_truS (e_var rfl ⟨q.2.1, rfl, by omega, ?_⟩)
  refine ⟨fun h => ?_, fun h => ?_⟩
  · rw [if_pos (of_decide_eq_true h)] at r
    walk_at "evs"
    refine ⟨_, rfl, q.2.2, rfl, by omega, ?_⟩
    walk_at "evs"
    exact r
  · rw [if_neg (of_decide_eq_false h)] at r
    walk_at "evs"
    exact r

def readT (x : Str) : PyData := .tuple [readI (Txt.partition (Txt.partition x "=").1 "-").1, readI (Txt.partition (Txt.partition x "=").1 "-").2.2, readW (Txt.partition x "=").2.2]
def Φ_read_tie : Ph := ph1 fun a ms R => ∃ x : Str, a = .d (.str x) ∧ x.length ≤ 1000000 ∧ R (.d (readT x)) ms
theorem len_read_tie : ∀ as ms R, Φ_read_tie as ms R → as.length = 1 := ph1_len
theorem rd_read_tie {K : PySem.W.Frag} : ∀ as ms R, Φ_read_tie as ms R → S K (t_read_tie K Φ_read_weight Φ_read_int) (as ++ List.replicate (7 - as.length) .u) ms (fin R) := by
  rintro as ms R ⟨a, rfl, x, rfl, hz, r⟩
  have p := part_len x "="
  unfold readT at r
  unfold t_read_tie
  refine s_seq (s_asgG (js := [1, 2, 3]) (e_prt (e_var rfl ⟨x, rfl, e_str ⟨_, rfl, by rw [len1_eqs]; decide, hz, ?_⟩⟩)))
  generalize Txt.partition x "=" = q at *
  refine eg_tup rfl (egs_cons (eg_name (egs_cons (eg_name (egs_cons (eg_name (egs_nil ?_)))))))
  have p3 := part_len q.1 "-"
  refine s_seq (s_asgG (js := [4, 5, 6]) (e_prt (e_var rfl ⟨q.1, rfl, e_str ⟨_, rfl, by rw [len1_dash]; decide, by omega, ?_⟩⟩)))
  generalize Txt.partition q.1 "-" = q2 at *
  refine eg_tup rfl (egs_cons (eg_name (egs_cons (eg_name (egs_cons (eg_name (egs_nil ?_)))))))
  walk_at "evs"
  refine ⟨_, rfl, q2.1, rfl, by omega, ?_⟩
  walk_at "evs"
  refine ⟨_, rfl, q2.2.2, rfl, by omega, ?_⟩
  walk_at "evs"
  refine ⟨_, rfl, q.2.2, rfl, by omega, ?_⟩
  walk_at "evs"
  exact r
/-- what is shown is read -/
theorem readW_wt {w : Int × Int} (h1 : w.1.natAbs < 10 ^ 10) (h2 : w.2.natAbs < 10 ^ 10) : readW (wtS w) = pr w := by
  unfold readW wtS
  by_cases c : w.2 = 1
  · rw [if_pos c, TL.partition_none tl_sls (numS_free (by decide) (by decide))]
    show PyData.tuple [readI (numS w.1), if Str.empty.length ≠ 0 then _ else .int 1] = _
    rw [if_neg (by decide), readI_num h1]
    show _ = PyData.tuple [.int w.1, .int w.2]
    rw [c]
  · rw [if_neg c, TL.partition_app tl_sls (numS_free (by decide) (by decide))]
    show PyData.tuple [readI (numS w.1), if ("/" : Str).length ≠ 0 then readI (numS w.2) else .int 1] = _
    rw [if_pos (by rw [len1_sls]; decide), readI_num h1, readI_num h2]
theorem ptS_free {t : Tie} : (61 : Nat) ∉ TL.tl (ptS t) := by
  unfold ptS
  rw [TL.tl_append, TL.tl_append, tl_dash]
  intro z
  rcases List.mem_append.mp z with z | z
  · rcases List.mem_append.mp z with z | z
    · exact numS_free (by decide) (by decide) z
    · exact absurd z (by decide)
  · exact numS_free (by decide) (by decide) z
theorem readT_tie {m : Nat} {t : Tie} (h : TieOk m t) (hs : Sm t) (hm : m ≤ 60) : readT (tieS t) = encT t := by
  have z := wt_small h.w hs.1 hs.2
  have h1 := h.lt
  have h2 := h.lm
  have e : Txt.partition (tieS t) "=" = (ptS t, ("=" : Str), wtS t.2.2) := TL.partition_app tl_eqs ptS_free
  have e2 : Txt.partition (ptS t) "-" = (numS t.1, ("-" : Str), numS t.2.1) := TL.partition_app tl_dash (natS_free (by decide))
  unfold readT
  rw [e]
  show PyData.tuple [readI (Txt.partition (ptS t) "-").1, readI (Txt.partition (ptS t) "-").2.2, readW (wtS t.2.2)] = _
  rw [e2, readW_wt z.1 z.2]
  show PyData.tuple [readI (numS t.1), readI (numS t.2.1), pr t.2.2] = _
  rw [readI_num (nat_small (by omega)), readI_num (nat_small (by omega))]
theorem wtS_free {w : Int × Int} : (32 : Nat) ∉ TL.tl (wtS w) := by
  unfold wtS
  split
  · exact numS_free (by decide) (by decide)
  · rw [TL.tl_append, TL.tl_append, tl_sls]
    intro z
    rcases List.mem_append.mp z with z | z
    · rcases List.mem_append.mp z with z | z
      · exact numS_free (by decide) (by decide) z
      · exact absurd z (by decide)
    · exact numS_free (by decide) (by decide) z
theorem tieS_free {t : Tie} : (32 : Nat) ∉ TL.tl (tieS t) := by
  unfold tieS ptS
  rw [TL.tl_append, TL.tl_append, TL.tl_append, TL.tl_append, tl_dash, tl_eqs]
  intro z
  simp only [List.mem_append, List.mem_singleton] at z
  rcases z with (((z | z) | z) | z) | z
  · exact numS_free (by decide) (by decide) z
  · exact absurd z (by decide)
  · exact numS_free (by decide) (by decide) z
  · exact absurd z (by decide)
  · exact wtS_free z
theorem split_web {m : Nat} {ts : List Tie} : Txt.split (webS m ts) " " = numS m :: ts.map tieS := by
  refine TL.split_join tl_spc ?_ (by simp) ?_
  · have := tl_spc
    rw [← Array.all_toList]
    show (TL.tl (" " : Str)).all _ = true
    rw [tl_spc]
    rfl
  · intro p hp
    rcases List.mem_cons.mp hp with rfl | hp
    · exact numS_free (by decide) (by decide)
    · obtain ⟨t, _, rfl⟩ := List.mem_map.mp hp
      exact tieS_free
/-- how long a joined text is -/
theorem joinL_len (S : List Nat) : ∀ ps : List (List Nat), (TL.joinL S ps).length ≤ (ps.map List.length).sum + ps.length * S.length
  | [] => Nat.zero_le _
  | [p] => by simp [TL.joinL]
  | p :: q :: r => by
    have ih := joinL_len S (q :: r)
    show (p ++ (S ++ TL.joinL S (q :: r))).length ≤ _
    rw [List.length_append, List.length_append, List.map_cons, List.sum_cons, List.length_cons (a := p), Nat.add_mul, Nat.one_mul]
    omega
theorem webS_len {m : Nat} {ts : List Tie} (hw : WebOk m ts) (hs : ∀ t ∈ ts, Sm t) : (webS m ts).length ≤ 10000 := by
  have s := words_sum hw hs
  have l := joinL_len (TL.tl " ") ((numS m :: ts.map tieS).map TL.tl)
  unfold webS
  rw [TL.len_tl, TL.join_eq, TL.tl_join]
  refine Nat.le_trans l (Nat.le_trans ?_ s)
  rw [List.map_map, List.length_map, TL.len_tl " "]
  have e : (numS m :: ts.map tieS).map (List.length ∘ TL.tl) = (numS m :: ts.map tieS).map (·.length) := List.map_congr_left fun x _ => (TL.len_tl x).symm
  rw [e]
  exact Nat.le_refl _

def phxO (f : SD → List MD → RS → (List MD → Prop) → Prop) : PhX := fun as ms R Y => ∃ a, as = [a] ∧ f a ms R Y
theorem phxO_len {f : SD → List MD → RS → (List MD → Prop) → Prop} : ∀ as ms R Y, phxO f as ms R Y → as.length = 1 := by
  rintro as ms R Y ⟨a, rfl, _⟩
  rfl
theorem spl_parts (S : List Nat) : ∀ (l : List Nat) (k : Nat) (acc : List Nat), TL.spl S k acc l ≠ [] ∧ (∀ p ∈ TL.spl S k acc l, p.length ≤ acc.length + l.length)
  | [], k, acc => by
    rw [TL.spl_nil]
    exact ⟨by simp, fun p hp => by rw [List.mem_singleton.mp hp]; exact Nat.le_add_right _ _⟩
  | c :: r, 0, acc => by
    cases h : TL.pre S (c :: r) with
    | true =>
      rw [TL.spl_hit h]
      refine ⟨by simp, fun p hp => ?_⟩
      rcases List.mem_cons.mp hp with rfl | hp
      · omega
      · have := (spl_parts S r (S.length - 1) []).2 p hp
        simp at this ⊢
        omega
    | false =>
      rw [TL.spl_miss h]
      refine ⟨(spl_parts S r 0 (acc ++ [c])).1, fun p hp => ?_⟩
      have := (spl_parts S r 0 (acc ++ [c])).2 p hp
      simp at this ⊢
      omega
  | c :: r, k + 1, acc => by
    have e : TL.spl S (k + 1) acc (c :: r) = TL.spl S k acc r := rfl
    rw [e]
    refine ⟨(spl_parts S r k acc).1, fun p hp => ?_⟩
    have := (spl_parts S r k acc).2 p hp
    simp at this ⊢
    omega
theorem spc_kind : (" " : Str).cps.all (· < 256) = true := by
  rw [← Array.all_toList]
  show (TL.tl (" " : Str)).all _ = true
  rw [tl_spc]
  rfl
theorem words_of (z : Str) : ∃ (w : Str) (ws : List Str), Txt.split z " " = w :: ws ∧ w.length ≤ z.length ∧ (∀ v ∈ ws, v.length ≤ z.length) ∧ ws.length ≤ z.length + 1 := by
  have e := TL.split_spl z " " (by rw [tl_spc]; simp) (TL.kind_ok spc_kind)
  have p := spl_parts (TL.tl (" " : Str)) (TL.tl z) 0 []
  rw [← e] at p
  have n := PyProof.Rows.split_le z " "
  have all : ∀ v ∈ Txt.split z " ", v.length ≤ z.length := fun v hv => by
    have := p.2 (TL.tl v) (List.mem_map.mpr ⟨v, hv, rfl⟩)
    rw [TL.len_tl, TL.len_tl z]
    simpa using this
  cases q : Txt.split z " " with
  | nil => rw [q] at p; exact absurd rfl p.1
  | cons w ws =>
    rw [q] at all n
    refine ⟨w, ws, rfl, all w (by simp), fun v hv => all v (by simp [hv]), ?_⟩
    simp at n
    omega
/-- the text of a web -/
def IsWebS (x : PyData) (k : Nat) (ts : List Tie) : Prop := x = .str (webS k ts) ∧ WebOk k ts ∧ Rise ts ∧ ∀ t ∈ ts, Sm t
def Φ_read_web : PhX := phxO fun a ms R Y => ∃ x : PyData, a = .d x ∧ (∀ z, x = .str z → z.length ≤ 9000) ∧ (∀ k ts, IsWebS x k ts → R (.d (encW k ts)) ms) ∧ ((∀ k ts, ¬ IsWebS x k ts) → Y ms)
theorem len_read_web : ∀ as ms R Y, Φ_read_web as ms R Y → as.length = 1 := phxO_len
theorem web_words {k : Nat} {ts : List Tie} {w : Str} {ws : List Str} {z : Str} (e : Txt.split z " " = w :: ws) (h : IsWebS (.str z) k ts) : readI w = .int k ∧ ws.map readT = ts.map encT ∧ okW (.int k) (.list (ws.map readT)) = true ∧ sortD ((ws.map readT).map (tieOf k)) = ts.map encT := by
  obtain ⟨h1, hw, hr, hs⟩ := h
  cases h1
  rw [split_web] at e
  cases e
  have r : (ts.map tieS).map readT = ts.map encT := by
    rw [List.map_map]
    exact List.map_congr_left fun t ht => readT_tie (hw.all t ht) (hs t ht) hw.m60
  obtain ⟨ok, so⟩ := web_plain (x := .list ((ts.map tieS).map readT)) hw hr hs (by rw [r]; rfl)
  rw [r] at ok ⊢
  exact ⟨readI_num (nat_small hw.m60), rfl, ok, so⟩
theorem encT_inj {a b : Tie} (h : encT a = encT b) : a = b := by
  obtain ⟨a1, a2, a3, a4⟩ := a
  obtain ⟨b1, b2, b3, b4⟩ := b
  injection h with h
  injection h with h1 h
  injection h with h2 h
  injection h with h3 h
  injection h1 with h1
  injection h2 with h2
  injection h3 with h3
  injection h3 with h4 h3
  injection h3 with h5 h3
  injection h4 with h4
  injection h5 with h5
  have e1 : a1 = b1 := by have : (a1 : Int) = b1 := h1; omega
  have e2 : a2 = b2 := by have : (a2 : Int) = b2 := h2; omega
  have e3 : a3 = b3 := h4
  have e4 : a4 = b4 := h5
  rw [e1, e2, e3, e4]
theorem map_enc : ∀ {l m : List Tie}, l.map encT = m.map encT → l = m
  | [], [], _ => rfl
  | [], _ :: _, h => by cases h
  | _ :: _, [], h => by cases h
  | a :: r, b :: s, h => by
    rw [List.map_cons, List.map_cons] at h
    obtain ⟨h1, h2⟩ := List.cons.inj h
    rw [encT_inj h1, map_enc h2]
theorem rd_read_web {K : PySem.W.Frag} {mg : Str → Option Value} {C_CutError C_NoWeb C_NoText C_TooGreat : Addr} (cl : Cls K mg C_CutError C_NoWeb C_NoText C_TooGreat) : ∀ as ms R Y, Φ_read_web as ms R Y → SX K C_NoText (t_read_web K C_CutError C_NoWeb C_NoText C_TooGreat Φ_made_web Φ_read_tie Φ_read_int Φ_show_web) (as ++ List.replicate (4 - as.length) .u) ms (fin R) Y := by
  rintro as ms R Y ⟨a, rfl, x, rfl, hz, r, y⟩
  have er := cl.er_NoWeb
  have em := PySem.W.exm_ref er.b er.e.hd er.t er.s
  unfold t_read_web
  refine sx_seq (sx_if ?_)
  refine et_not (et_B (e_isi instStr (e_var rfl ⟨x, .d _, nofun, ?_⟩)))
  refine ⟨_, rfl, fun h => ?_, fun h => ?_⟩
  · refine sx_raise (y fun k ts w => ?_)
    rw [w.1] at h
    rw [show inst (.str (webS k ts)) "str" = true from (by decide +kernel : inst (.str Str.empty) "str" = true)] at h
    cases h
  obtain ⟨z, rfl⟩ : ∃ z, x = .str z := by
    cases x with
    | str z => exact ⟨z, rfl⟩
    | none => exact absurd h (by decide +kernel)
    | bool b => exact absurd h (by rw [show inst (.bool b) "str" = false from (by decide +kernel : inst (.bool true) "str" = false)]; decide)
    | int i => exact absurd h (by rw [show inst (.int i) "str" = false from (by decide +kernel : inst (.int 0) "str" = false)]; decide)
    | list es => exact absurd h (by rw [show inst (.list es) "str" = false from (by decide +kernel : inst (.list []) "str" = false)]; decide)
    | tuple es => exact absurd h (by rw [show inst (.tuple es) "str" = false from (by decide +kernel : inst (.tuple []) "str" = false)]; decide)
    | dict es => exact absurd h (by rw [show inst (.dict es) "str" = false from (by decide +kernel : inst (.dict []) "str" = false)]; decide)
  have hz := hz z rfl
  obtain ⟨w, ws, ew, wl, wsl, wsn⟩ := words_of z
  refine sx_of (s_next ?_)
  refine sx_seq (sx_of (s_asg (e_spl (e_var rfl ⟨_, rfl, e_str ⟨_, rfl, by rw [len1_spc]; decide, by omega, ?_⟩⟩))))
  rw [ew]
  refine sx_seq (sx_tryF (C := C_NoWeb) em ?_)
  walk_at "evs"
  refine ⟨_, rfl, w, rfl, by omega, ?_⟩
  have cut : Hc.cutD ((w :: ws).map PyData.str) (some 1) none = ws.map PyData.str := by
    rw [cut_from1]
    rfl
  refine ea_cons (e_lcL (js := [3]) (by simp) (e_slL (e_var rfl (eo_some (e_int ⟨_, rfl, eo_none ⟨_, .d _, ?_⟩⟩)))))
  rw [cut]
  refine ⟨ws.map PyData.str, .d _, by rw [List.length_map]; omega, fun k acc ms' => acc = (ws.take k).map readT ∧ ms' = ms, ⟨rfl, rfl⟩, ?_, ?_⟩
  · rintro i e acc ms' he ⟨rfl, rfl⟩
    obtain ⟨v, hv, rfl⟩ : ∃ v, ws[i]? = some v ∧ e = .str v := by
      rw [List.getElem?_map] at he
      cases q : ws[i]? with
      | none => rw [q] at he; cases he
      | some t => rw [q] at he; cases he; exact ⟨t, rfl, rfl⟩
    have mem := wsl v (List.mem_of_getElem? hv)
    refine eg_name ?_
    walk_at "evs"
    refine ⟨fun _ => ?_, nofun⟩
    walk_at "evs"
    refine ⟨_, rfl, v, rfl, by omega, ?_⟩
    exact ⟨_, rfl, by rw [take_snoc hv]; simp, rfl⟩
  rintro acc ms' ⟨rfl, rfl⟩
  rw [List.length_map, List.take_length]
  refine ea_nil ⟨_, _, rfl, readI w, .list (ws.map readT), rfl, rfl, fun es he => ?_, fun ok m' es hm he => ?_, fun no => ?_⟩
  · cases he
    rw [List.length_map]
    omega
  · cases he
    rw [hm] at ok
    obtain ⟨k, ts, rfl, so, hw, hr, hs⟩ := okW_web rfl ok
    rw [so]
    refine sx_seq (sx_if ?_)
    walk_at "evs"
    refine ⟨_, rfl, k, ts, rfl, hw, hs, ?_⟩
    walk_at "evs"
    refine rr_neT ⟨_, _, rfl, rfl, ?_⟩
    refine ⟨_, rfl, fun q => ?_, fun q => ?_⟩
    · refine sx_raise (y fun k2 ts2 w2 => ?_)
      obtain ⟨n2, _, _, s2⟩ := web_words ew w2
      rw [hm] at n2
      have ek : k = k2 := by injection n2 with n2; omega
      subst ek
      rw [so] at s2
      have et := map_enc s2
      subst et
      have := w2.1
      injection this with this
      rw [this] at q
      simp at q
    · have e : webS k ts = z := by simpa using q
      refine sx_of (s_next (sx_of ?_))
      walk_at "evs"
      exact r k ts ⟨by rw [e], hw, hr, hs⟩
  · refine y fun k2 ts2 w2 => ?_
    obtain ⟨n2, _, o2, _⟩ := web_words ew w2
    rw [n2, o2] at no
    cases no

/-! ### ties as they are written, webs or not -/
def SmT (t : Tie) : Prop := t.1 ≤ 60 ∧ t.2.1 ≤ 60 ∧ t.2.2.1.natAbs < 10 ^ 10 ∧ t.2.2.2.natAbs < 10 ^ 10 ∧ 0 < t.2.2.2
theorem smT_of {m : Nat} {t : Tie} (h : TieOk m t) (hs : Sm t) (hm : m ≤ 60) : SmT t := by
  have z := wt_small h.w hs.1 hs.2
  have h1 := h.lt
  have h2 := h.lm
  exact ⟨by omega, by omega, z.1, z.2, h.w.lo.pos⟩
theorem readT_sm {t : Tie} (h : SmT t) : readT (tieS t) = encT t := by
  obtain ⟨h1, h2, h3, h4, _⟩ := h
  have e : Txt.partition (tieS t) "=" = (ptS t, ("=" : Str), wtS t.2.2) := TL.partition_app tl_eqs ptS_free
  have e2 : Txt.partition (ptS t) "-" = (numS t.1, ("-" : Str), numS t.2.1) := TL.partition_app tl_dash (natS_free (by decide))
  unfold readT
  rw [e]
  show PyData.tuple [readI (Txt.partition (ptS t) "-").1, readI (Txt.partition (ptS t) "-").2.2, readW (wtS t.2.2)] = _
  rw [e2, readW_wt h3 h4]
  show PyData.tuple [readI (numS t.1), readI (numS t.2.1), pr t.2.2] = _
  rw [readI_num (nat_small h1), readI_num (nat_small h2)]
theorem tieS_sm {t : Tie} (h : SmT t) : (tieS t).length ≤ 47 := by
  obtain ⟨h1, h2, h3, h4, _⟩ := h
  have p : (ptS t).length ≤ 23 := app_le (a := 12) (app_le (a := 11) (b := 1) (numS_len (nat_small h1)) (by rw [len1_dash]; decide) (by decide)) (numS_len (nat_small h2)) (by decide)
  exact app_le (a := 24) (app_le (a := 23) (b := 1) p (by rw [len1_eqs]; decide) (by decide)) (wtS_len h3 h4) (by decide)
theorem wordsum_sm {m : Nat} {ts : List Tie} (hm : m ≤ 60) (hs : ∀ t ∈ ts, SmT t) : ((numS m :: ts.map tieS).map (·.length)).sum + (numS m :: ts.map tieS).length * (" " : Str).length ≤ 12 + 48 * ts.length := by
  have h : ∀ l : List Tie, (∀ t ∈ l, SmT t) → ((l.map tieS).map (·.length)).sum ≤ 47 * l.length := by
    intro l
    induction l with
    | nil => intro _; decide
    | cons t r ih =>
      intro z
      have l1 := tieS_sm (z t (by simp))
      have := ih fun x hx => z x (by simp [hx])
      simp only [List.map_cons, List.sum_cons, List.length_cons]
      omega
  have h1 := h ts hs
  have h3 := numS_len (nat_small hm)
  rw [len1_spc]
  simp only [List.map_cons, List.sum_cons, List.length_cons, List.length_map] at h1 ⊢
  omega
theorem webS_sm {m : Nat} {ts : List Tie} (hm : m ≤ 60) (hs : ∀ t ∈ ts, SmT t) : (webS m ts).length ≤ 12 + 48 * ts.length := by
  have l := joinL_len (TL.tl " ") ((numS m :: ts.map tieS).map TL.tl)
  unfold webS
  rw [TL.len_tl, TL.join_eq, TL.tl_join]
  refine Nat.le_trans l (Nat.le_trans ?_ (wordsum_sm hm hs))
  rw [List.map_map, List.length_map, TL.len_tl " "]
  have e : (numS m :: ts.map tieS).map (List.length ∘ TL.tl) = (numS m :: ts.map tieS).map (·.length) := List.map_congr_left fun x _ => (TL.len_tl x).symm
  rw [e]
  exact Nat.le_refl _
theorem webS_inj {m k : Nat} {ts us : List Tie} (hm : m ≤ 60) (hk : k ≤ 60) (h1 : ∀ t ∈ ts, SmT t) (h2 : ∀ t ∈ us, SmT t) (e : webS m ts = webS k us) : m = k ∧ ts = us := by
  have s : Txt.split (webS m ts) " " = Txt.split (webS k us) " " := by rw [e]
  rw [split_web, split_web] at s
  obtain ⟨s1, s2⟩ := List.cons.inj s
  have a : readI (numS m) = readI (numS k) := by rw [s1]
  rw [readI_num (nat_small hm), readI_num (nat_small hk)] at a
  have r : ∀ l : List Tie, (∀ t ∈ l, SmT t) → (l.map tieS).map readT = l.map encT := fun l z => by
    rw [List.map_map]
    exact List.map_congr_left fun t ht => readT_sm (z t ht)
  refine ⟨by injection a with a; omega, map_enc ?_⟩
  rw [← r ts h1, ← r us h2, s2]
theorem notWeb {m : Nat} {ts : List Tie} (hm : m ≤ 60) (h1 : ∀ t ∈ ts, SmT t) (no : ¬ (WebOk m ts ∧ Rise ts)) : ∀ k us, ¬ IsWebS (.str (webS m ts)) k us := by
  rintro k us ⟨e, hw, hr, hs⟩
  injection e with e
  obtain ⟨rfl, rfl⟩ := webS_inj hm hw.m60 h1 (fun t ht => smT_of (hw.all t ht) (hs t ht) hw.m60) e
  exact no ⟨hw, hr⟩
theorem tieS_sign {c : Nat} {t : Tie} (h : c ≠ 45 ∧ (c < 48 ∨ 57 < c) ∧ c ≠ 47 ∧ c ≠ 61) : c ∉ TL.tl (tieS t) := by
  obtain ⟨h1, h2, h3, h4⟩ := h
  have w : c ∉ TL.tl (wtS t.2.2) := by
    unfold wtS
    split
    · exact numS_free h1 h2
    · rw [TL.tl_append, TL.tl_append, tl_sls]
      intro z
      simp only [List.mem_append, List.mem_singleton] at z
      rcases z with (z | z) | z
      · exact numS_free h1 h2 z
      · exact h3 z
      · exact numS_free h1 h2 z
  unfold tieS ptS
  rw [TL.tl_append, TL.tl_append, TL.tl_append, TL.tl_append, tl_dash, tl_eqs]
  intro z
  simp only [List.mem_append, List.mem_singleton] at z
  rcases z with (((z | z) | z) | z) | z
  · exact numS_free h1 h2 z
  · exact h1 z
  · exact numS_free h1 h2 z
  · exact h4 z
  · exact w z
theorem joinL_mem {c : Nat} {S : List Nat} : ∀ {ps : List (List Nat)}, c ∈ TL.joinL S ps → c ∈ S ∨ ∃ p ∈ ps, c ∈ p
  | [], h => by cases h
  | [p], h => .inr ⟨p, by simp, h⟩
  | p :: q :: r, h => by
    rcases List.mem_append.mp (show c ∈ p ++ (S ++ TL.joinL S (q :: r)) from h) with h | h
    · exact .inr ⟨p, by simp, h⟩
    rcases List.mem_append.mp h with h | h
    · exact .inl h
    · rcases joinL_mem h with h | ⟨x, hx, h⟩
      · exact .inl h
      · exact .inr ⟨x, List.mem_cons_of_mem _ hx, h⟩
theorem webS_sign {c m : Nat} {ts : List Tie} (h : c ≠ 45 ∧ (c < 48 ∨ 57 < c) ∧ c ≠ 47 ∧ c ≠ 61) (h2 : c ≠ 32) : c ∉ TL.tl (webS m ts) := by
  unfold webS
  rw [TL.join_eq, TL.tl_join, tl_spc]
  intro z
  rcases joinL_mem z with z | ⟨p, hp, z⟩
  · exact h2 (by simpa using z)
  · obtain ⟨x, hx, rfl⟩ := List.mem_map.mp hp
    rcases List.mem_cons.mp hx with rfl | hx
    · exact numS_free h.1 h.2.1 z
    · obtain ⟨t, _, rfl⟩ := List.mem_map.mp hx
      exact tieS_sign h z
theorem joinL_count : ∀ {ps : List (List Nat)}, (∀ p ∈ ps, (32 : Nat) ∉ p) → (TL.joinL [32] ps).count 32 + 1 = max ps.length 1
  | [], _ => rfl
  | [p], h => by
    show p.count 32 + 1 = 1
    rw [List.count_eq_zero_of_not_mem (h p (by simp))]
  | p :: q :: r, h => by
    have ih := joinL_count (ps := q :: r) fun x hx => h x (List.mem_cons_of_mem _ hx)
    show (p ++ ([32] ++ TL.joinL [32] (q :: r))).count 32 + 1 = _
    rw [List.count_append, List.count_append, List.count_eq_zero_of_not_mem (h p (by simp))]
    have o : ([32] : List Nat).count 32 = 1 := by decide
    rw [o]
    simp only [List.length_cons] at ih ⊢
    omega
theorem web_short {y : Str} {k : Nat} {ts : List Tie} (h : IsWebS (.str y) k ts) : y.length ≤ 12 + 48 * (TL.tl y).count 32 := by
  obtain ⟨e, hw, hr, hs⟩ := h
  injection e with e
  subst e
  have l := webS_sm hw.m60 fun t ht => smT_of (hw.all t ht) (hs t ht) hw.m60
  have c : (TL.tl (webS k ts)).count 32 + 1 = max ((numS k :: ts.map tieS).map TL.tl).length 1 := by
    unfold webS
    rw [TL.join_eq, TL.tl_join, tl_spc]
    refine joinL_count fun p hp => ?_
    obtain ⟨x, hx, rfl⟩ := List.mem_map.mp hp
    rcases List.mem_cons.mp hx with rfl | hx
    · exact numS_free (by decide) (by decide)
    · obtain ⟨t, _, rfl⟩ := List.mem_map.mp hx
      exact tieS_free
  rw [List.length_map, List.length_cons, List.length_map] at c
  have : (TL.tl (webS k ts)).count 32 = ts.length := by omega
  rw [this]
  exact l
/-- a sign that no web has -/
theorem signWeb {c : Nat} {y : Str} (hc : c ∈ TL.tl y) (h : c ≠ 45 ∧ (c < 48 ∨ 57 < c) ∧ c ≠ 47 ∧ c ≠ 61) (h2 : c ≠ 32) : ∀ k us, ¬ IsWebS (.str y) k us := by
  rintro k us ⟨e, _⟩
  injection e with e
  subst e
  exact webS_sign h h2 hc
theorem fm_ex (x : Int) {m : Int} (h : 0 < m) : ∃ a : Nat, (a : Int) < m ∧ x.fmod m = a := by
  have h1 := Int.fmod_nonneg_of_pos x h
  have h2 := Int.fmod_lt_of_pos x h
  exact ⟨(x.fmod m).toNat, by omega, by omega⟩
/-- whether a text tells a web, reckoned -/
def decT : PyData → Tie
  | .tuple [.int a, .int b, .tuple [.int c, .int d]] => (a.toNat, b.toNat, (c, d))
  | _ => (0, 0, (0, 0))
theorem decT_enc (t : Tie) : decT (encT t) = t := rfl
def okT (m : Nat) (t : Tie) : Bool := decide (t.1 < t.2.1) && (decide (t.2.1 < m) && (decide (0 < t.2.2.2) && (decide (Int.gcd t.2.2.1 t.2.2.2 = 1) && (decide (t.2.2.1.natAbs ≤ 1000000000) && decide (t.2.2.2 ≤ 1000)))))
def riB : List Tie → Bool
  | a :: b :: r => (decide (a.1 < b.1) || (decide (a.1 = b.1) && decide (a.2.1 < b.2.1))) && riB (b :: r)
  | _ => true
theorem riB_of : ∀ {ts : List Tie}, Rise ts → riB ts = true
  | [], _ => rfl
  | [_], _ => rfl
  | a :: b :: r, h => by
    have h1 := (List.pairwise_cons.mp h).1 b (by simp)
    have ih := riB_of (ts := b :: r) (List.pairwise_cons.mp h).2
    show ((decide (a.1 < b.1) || (decide (a.1 = b.1) && decide (a.2.1 < b.2.1))) && riB (b :: r)) = true
    rw [ih, Bool.and_true, Bool.or_eq_true, Bool.and_eq_true, decide_eq_true_iff, decide_eq_true_iff, decide_eq_true_iff]
    exact h1
def webB (y : Str) : Bool :=
  match Txt.split y " " with
  | [] => false
  | w :: ws => match readI w with
    | .int k => decide (1 ≤ k) && (decide (k ≤ 60) && ((ws.map fun x => decT (readT x)).all (okT k.toNat) && (riB (ws.map fun x => decT (readT x)) && (decide (w = numS k) && decide (ws = (ws.map fun x => decT (readT x)).map tieS)))))
    | _ => false
theorem webB_yes {y : Str} {k : Nat} {ts : List Tie} (h : IsWebS (.str y) k ts) : webB y = true := by
  obtain ⟨e, hw, hr, hs⟩ := h
  injection e with e
  subst e
  unfold webB
  rw [split_web]
  show (match readI (numS k) with
    | .int j => _
    | _ => false) = true
  rw [readI_num (nat_small hw.m60)]
  have m1 := hw.m1
  have m60 := hw.m60
  have d : ((ts.map tieS).map fun x => decT (readT x)) = ts := by
    rw [List.map_map]
    refine Eq.trans (List.map_congr_left (g := id) fun t ht => ?_) (List.map_id _)
    show decT (readT (tieS t)) = t
    rw [readT_sm (smT_of (hw.all t ht) (hs t ht) m60), decT_enc]
  show (decide (1 ≤ (k : Int)) && (decide ((k : Int) ≤ 60) && (((ts.map tieS).map fun x => decT (readT x)).all (okT (k : Int).toNat) && (riB ((ts.map tieS).map fun x => decT (readT x)) && (decide (numS k = numS k) && decide (ts.map tieS = ((ts.map tieS).map fun x => decT (readT x)).map tieS)))))) = true
  rw [d, riB_of hr, decide_eq_true (rfl : numS k = numS k), decide_eq_true (rfl : ts.map tieS = ts.map tieS), decide_eq_true (show (1 : Int) ≤ k by omega), decide_eq_true (show (k : Int) ≤ 60 by omega)]
  simp only [Bool.true_and, Bool.and_true]
  rw [List.all_eq_true]
  intro t ht
  have ok := hw.all t ht
  have sm := hs t ht
  have h1 := ok.lt
  have h2 := ok.lm
  have p := ok.w.lo.pos
  have g := ok.w.lo.low
  unfold okT
  rw [decide_eq_true h1, decide_eq_true (show t.2.1 < (k : Int).toNat by omega), decide_eq_true p, decide_eq_true g, decide_eq_true sm.1, decide_eq_true sm.2]
  rfl
theorem webB_no {y : Str} (h : webB y = false) : ∀ k us, ¬ IsWebS (.str y) k us := fun k us w => by
  rw [webB_yes w] at h
  cases h

def Φ__law_text : Ph := ph1 fun a ms R => ∃ (m : Nat) (ts : List Tie), a = .d (encW m ts) ∧ m ≤ 60 ∧ ts.length ≤ 171 ∧ (∀ t ∈ ts, SmT t) ∧ R (.d (.str (webS m ts))) ms
theorem len__law_text : ∀ as ms R, Φ__law_text as ms R → as.length = 1 := ph1_len
theorem rd__law_text {K : PySem.W.Frag} : ∀ as ms R, Φ__law_text as ms R → S K (t__law_text K) (as ++ List.replicate (6 - as.length) .u) ms (fin R) := by
  rintro as ms R ⟨a, rfl, m, ts, rfl, h60, l170, hs, r⟩
  unfold t__law_text
  refine s_new ?_
  walk_at "evs"
  refine rc_str ⟨(m : Int), rfl, lg_ok (nat_small h60), ?_⟩
  walk_at "evs"
  refine s_forT (js := [2, 3, 4]) ?_
  walk_at "evs"
  refine ⟨fun k ds' ms' => ∃ o2 o3 o4 o5 : SD, ds' = [.d (encW m ts), .m ms.length, o2, o3, o4, o5] ∧ ms' = ms ++ [.l ((numS m :: (ts.take k).map tieS).map PyData.str)], ⟨.u, .u, .u, .u, rfl, rfl⟩, ?_, ?_⟩
  · rintro i e ds1 ms1 he ⟨o2, o3, o4, o5, rfl, rfl⟩
    obtain ⟨t, ht, rfl⟩ := enc_at he
    have mem := List.mem_of_getElem? ht
    have sm := hs t mem
    obtain ⟨h1, h2, z1, z2, zp⟩ := sm
    have z : t.2.2.1.natAbs < 10 ^ 10 ∧ t.2.2.2.natAbs < 10 ^ 10 := ⟨z1, z2⟩
    have s1 := nat_small (n := t.1) (by omega)
    have s2 := nat_small (n := t.2.1) (by omega)
    have d1 : ("-" : Str).length ≤ 1 := by rw [len1_dash]; decide
    have e1 : ("=" : Str).length ≤ 1 := by rw [len1_eqs]; decide
    have c1 : ("/" : Str).length ≤ 1 := by rw [len1_sls]; decide
    have l1 := numS_len s1
    have l2 := numS_len s2
    have l3 := numS_len z.1
    have l4 := numS_len z.2
    have big : ∀ {a b : Nat}, a ≤ 100 → b ≤ 100 → a + b ≤ sizeLine := fun ha hb => Nat.le_trans (Nat.add_le_add ha hb) (by decide)
    refine eg_tup rfl (egs_cons (eg_name (egs_cons (eg_name (egs_cons (eg_name (egs_nil ?_)))))))
    walk_at "evs"
    refine rc_str ⟨(t.1 : Int), rfl, lg_ok s1, ?_⟩
    walk_at "evs"
    refine rr_addS ⟨numS t.1, "-", rfl, rfl, big (by omega) (by omega), ?_⟩
    walk_at "evs"
    refine rc_str ⟨(t.2.1 : Int), rfl, lg_ok s2, ?_⟩
    walk_at "evs"
    refine rr_addS ⟨numS t.1 ++ "-", numS t.2.1, rfl, rfl, big (by rw [app_len]; omega) (by omega), ?_⟩
    walk_at "evs"
    refine rr_addS ⟨numS t.1 ++ "-" ++ numS t.2.1, "=", rfl, rfl, big (by rw [app_len, app_len]; omega) (by omega), ?_⟩
    walk_at "evs"
    refine rc_str ⟨t.2.2.1, rfl, lg_ok z.1, ?_⟩
    walk_at "evs"
    refine rr_addS ⟨ptS t ++ "=", numS t.2.2.1, rfl, rfl, big (by unfold ptS; rw [app_len, app_len, app_len]; omega) (by omega), ?_⟩
    have ap : ∀ {ds' : List SD}, ds' = [.d (encW m ts), .m ms.length, .d (.int t.1), .d (.int t.2.1), .d (pr t.2.2), .d (.str (tieS t))] → ∃ o2 o3 o4 o5 : SD, ds' = [.d (encW m ts), .m ms.length, o2, o3, o4, o5] ∧ ms ++ [MD.l ((numS m :: (ts.take i).map tieS).map PyData.str ++ [PyData.str (tieS t)])] = ms ++ [.l ((numS m :: (ts.take (i + 1)).map tieS).map PyData.str)] := fun e => ⟨_, _, _, _, e, by
      rw [take_snoc ht, List.map_append, List.map_cons, List.map_cons, List.map_append, List.cons_append]
      rfl⟩
    refine s_mid (fun ds' ms' => ds' = [.d (encW m ts), .m ms.length, .d (.int t.1), .d (.int t.2.1), .d (pr t.2.2), .d (.str (tieS t))] ∧ ms' = ms ++ [.l ((numS m :: (ts.take i).map tieS).map PyData.str)]) ?_ ?_
    · walk_at "evs"
      refine ⟨fun h => ?_, fun h => ?_⟩
      · have h3 : t.2.2.2 ≠ 1 := by have := of_decide_eq_true h; omega
        walk_at "evs"
        refine rr_addS ⟨ptS t ++ "=" ++ numS t.2.2.1, "/", rfl, rfl, big (by unfold ptS; rw [app_len, app_len, app_len, app_len]; omega) (by omega), ?_⟩
        walk_at "evs"
        refine rc_str ⟨t.2.2.2, rfl, lg_ok z.2, ?_⟩
        walk_at "evs"
        refine rr_addS ⟨ptS t ++ "=" ++ numS t.2.2.1 ++ "/", numS t.2.2.2, rfl, rfl, big (by unfold ptS; rw [app_len, app_len, app_len, app_len, app_len]; omega) (by omega), ?_⟩
        refine ⟨?_, rfl⟩
        have e : tieS t = ptS t ++ "=" ++ numS t.2.2.1 ++ "/" ++ numS t.2.2.2 := by
          unfold tieS wtS
          rw [if_neg h3, app_ass (ptS t ++ "=") (numS t.2.2.1) "/", app_ass (ptS t ++ "=")]
        rw [e]
        rfl
      · have h3 : t.2.2.2 = 1 := by have := of_decide_eq_false h; omega
        walk_at "evs"
        refine ⟨?_, rfl⟩
        have e : tieS t = ptS t ++ "=" ++ numS t.2.2.1 := by
          unfold tieS wtS
          rw [if_pos h3]
        rw [e]
        rfl
    · rintro ds' ms' ⟨rfl, rfl⟩
      refine s_drop (e_append (e_varm rfl ⟨_, rfl, ?_⟩))
      walk_at "evs"
      refine ⟨List.getElem?_concat_length, by rw [List.length_map, List.length_cons, List.length_map, List.length_take]; omega, ?_⟩
      rw [List.set_append_right _ _ (Nat.le_refl _), Nat.sub_self]
      exact ap rfl
  · rintro ds' ms' ⟨o2, o3, o4, o5, rfl, rfl⟩
    rw [List.length_map, List.take_length]
    refine s_ret (e_join (e_str ⟨_, rfl, e_varm rfl ⟨numS m :: ts.map tieS, .m (List.getElem?_concat_length), Nat.le_trans (wordsum_sm h60 hs) (Nat.le_trans (show 12 + 48 * ts.length ≤ 10000 by omega) (by decide)), ?_⟩⟩))
    exact ⟨ms, _, rfl, rfl, r⟩

def Φ__law_is_weight : Ph := ph1 fun a ms R => ∃ w : Int × Int, a = .d (pr w) ∧ Wt w ∧ w.1.natAbs ≤ 1000000000 ∧ w.2 ≤ 1000 ∧ R (.d (.bool true)) ms
theorem len__law_is_weight : ∀ as ms R, Φ__law_is_weight as ms R → as.length = 1 := ph1_len
theorem fr_self_wt {w : Int × Int} (h : Wt w) : fr w.1 w.2 = w := by
  obtain ⟨p, q⟩ := w
  have hq : (0 : Int) < q := h.lo.pos
  have hg : Int.gcd p q = 1 := h.lo.low
  show fr p q = (p, q)
  rw [show fr p q = (p.fdiv (Int.gcd p q), q.fdiv (Int.gcd p q)) from if_neg (by omega), hg]
  simp
theorem rd__law_is_weight {K : PySem.W.Frag} : ∀ as ms R, Φ__law_is_weight as ms R → S K (t__law_is_weight K Φ__law_reduced) (as ++ List.replicate (3 - as.length) .u) ms (fin R) := by
  rintro as ms R ⟨a, rfl, w, rfl, hw, h1, h2, r⟩
  have hq : (0 : Int) < w.2 := hw.lo.pos
  unfold t__law_is_weight
  refine s_seq (s_asgG (js := [1, 2]) (e_var rfl ?_))
  refine eg_tup rfl (egs_cons (eg_name (egs_cons (eg_name (egs_nil ?_)))))
  walk_at "evs"
  refine rr_I ⟨_, _, rfl, rfl, ⟨by decide, by decide, by decide⟩, ?_⟩
  rw [abs_nat, show ((10 : Int) ^ (9 : Int).toNat) = 1000000000 by decide]
  walk_at "evs"
  refine ⟨fun _ => ?_, fun q => absurd (of_decide_eq_false q) (by omega)⟩
  walk_at "evs"
  refine ⟨fun _ => ?_, fun q => absurd (of_decide_eq_false q) (by omega)⟩
  walk_at "evs"
  rintro b rfl
  walk_at "evs"
  refine ⟨fun _ => ?_, fun q => absurd (of_decide_eq_false q) (by omega)⟩
  walk_at "evs"
  refine ⟨_, _, rfl, w.1, w.2, rfl, rfl, hq, hw.b2.mono (by decide), ?_⟩
  rw [fr_self_wt hw]
  walk_at "evs"
  refine rr_eq ⟨_, _, .d _, .d _, (Shp.pr w).ok (by decide), (Shp.pr w).ok (by decide), ?_⟩
  rw [eqv_self (Shp.pr w)]
  exact r

theorem kit_same {K : PySem.W.Frag} {C : Addr} : PySem.W.kitOne K (.ref C) (.ref C) = some true := by
  unfold PySem.W.kitOne
  rw [if_pos (by simp)]
def NoWebS (x : PyData) : Prop := (∀ z, x = .str z → z.length ≤ 9000) ∧ ∀ k ts, ¬ IsWebS x k ts
def Φ__law_refused : Ph := ph1 fun a ms R => ∃ x : PyData, a = .d x ∧ NoWebS x ∧ R (.d (.bool true)) ms
theorem len__law_refused : ∀ as ms R, Φ__law_refused as ms R → as.length = 1 := ph1_len
theorem rd__law_refused {K : PySem.W.Frag} {mg : Str → Option Value} {C_CutError C_NoWeb C_NoText C_TooGreat : Addr} (cl : Cls K mg C_CutError C_NoWeb C_NoText C_TooGreat) : ∀ as ms R, Φ__law_refused as ms R →
    S K (t__law_refused K C_CutError C_NoWeb C_NoText C_TooGreat Φ_read_web) (as ++ List.replicate (3 - as.length) .u) ms (fin R) := by
  rintro as ms R ⟨a, rfl, x, rfl, ⟨hz, no⟩, r⟩
  have ex := cl.er_NoText.e
  unfold t__law_refused
  refine s_seq (s_asg (e_non ?_))
  refine s_seq (s_tryH (Nat.le_of_ble_eq_true rfl) (by decide) cl.m_NoText (ea_cons (e_var rfl (ea_nil ⟨_, rfl, x, rfl, hz, fun k ts w => absurd w (no k ts), fun _ => ?_⟩))))
  refine s_seq (s_if (et_or (et_test (e_op (e_varh rfl (e_non (rr_isNh ⟨rfl, rfl, false, rfl, nofun, fun _ => ?_⟩)))))))
  refine et_or (et_not (et_B (e_isH ex rfl (fun _ h => h) kit_same ⟨true, rfl, nofun, fun _ => ?_⟩)))
  refine et_not (et_B (e_isH ex rfl (fun _ h => h) cl.k_NoText_ValueError ⟨true, rfl, nofun, fun _ => ?_⟩))
  refine s_next ?_
  refine s_ret (e_and (e_not (e_isH ex rfl (fun _ h => h) cl.n_NoText_NoWeb ⟨_, rfl, _, rfl, fun _ => ?_, nofun⟩)))
  refine e_not (e_isH ex rfl (fun _ h => h) cl.n_NoText_TooGreat ?_)
  exact ⟨_, rfl, r⟩

def Φ__law_is_web : Ph := ph1 fun a ms R => ∃ (m : Nat) (ts : List Tie), a = .d (encW m ts) ∧ WebOk m ts ∧ Rise ts ∧ (∀ t ∈ ts, Sm t) ∧ R (.d (.bool true)) ms
theorem len__law_is_web : ∀ as ms R, Φ__law_is_web as ms R → as.length = 1 := ph1_len
theorem rd__law_is_web {K : PySem.W.Frag} : ∀ as ms R, Φ__law_is_web as ms R → S K (t__law_is_web K Φ__law_is_weight) (as ++ List.replicate (5 - as.length) .u) ms (fin R) := by
  rintro as ms R ⟨a, rfl, m, ts, rfl, hw, hr, hs, r⟩
  have m1 := hw.m1
  have m60 := hw.m60
  unfold t__law_is_web
  have iT : inst (encW m ts) "tuple" = true := by rw [inst_tup]; rfl
  have iU : inst (.tuple (ts.map encT)) "tuple" = true := by rw [inst_tup]; rfl
  walk_at "evs"
  rw [iT]
  refine ⟨nofun, fun _ => ?_⟩
  walk_at "evs"
  refine ⟨fun _ => ?_, fun q => absurd (of_decide_eq_false q) (by omega)⟩
  walk_at "evs"
  rintro b rfl
  walk_at "evs"
  rw [decide_eq_true (show (m : Int) ≤ 60 by omega)]
  refine ⟨nofun, fun _ => ?_⟩
  walk_at "evs"
  rw [iU]
  refine ⟨nofun, fun _ => ?_⟩
  walk_at "evs"
  refine s_forT (js := [2, 3, 4]) ?_
  walk_at "evs"
  refine ⟨fun k ds' ms' => ∃ (p q : Int) (o2 o3 o4 : SD), ds' = [.d (encW m ts), .d (.tuple [.int p, .int q]), o2, o3, o4] ∧ ms' = ms ∧ ∀ t : Tie, ts[k]? = some t → p < t.1 ∨ (p = t.1 ∧ q < t.2.1), ⟨-1, -1, .u, .u, .u, rfl, rfl, fun t _ => by omega⟩, ?_, ?_⟩
  · rintro i e ds1 ms1 he ⟨p, q, o2, o3, o4, rfl, rfl, hp⟩
    obtain ⟨t, ht, rfl⟩ := enc_at he
    have mem := List.mem_of_getElem? ht
    have ok := hw.all t mem
    have sm := hs t mem
    have h1 := ok.lt
    have h2 := ok.lm
    have h3 := hp t ht
    refine eg_tup rfl (egs_cons (eg_name (egs_cons (eg_name (egs_cons (eg_name (egs_nil ?_)))))))
    refine s_seq (s_if (et_or (et_not (et_test (e_chain3 (e_int (e_var rfl (rr_B0 ⟨_, _, rfl, rfl, _, rfl, fun _ => ?_, fun z => absurd (of_decide_eq_false z) (by omega)⟩))))))))
    refine e_var rfl fun b' eb => ?_
    subst eb
    refine rr_B0 ⟨_, _, rfl, rfl, _, rfl, fun _ => ?_, fun z => absurd (of_decide_eq_false z) (by omega)⟩
    refine e_op (e_var rfl (e_int (rr_ix ⟨_, _, _, .inr (.d _), rfl, atI_nat (j := 0) rfl, fun c' ec => ?_⟩)))
    subst ec
    refine rr_B0 ⟨_, _, rfl, rfl, ?_⟩
    rw [decide_eq_true (show (t.2.1 : Int) < m by omega)]
    refine ⟨_, rfl, nofun, fun _ => ?_⟩
    walk_at "evs"
    refine rr_le2 ⟨t.1, t.2.1, p, q, rfl, rfl, ?_⟩
    rw [decide_eq_false (show ¬ ((t.1 : Int) < p ∨ ((t.1 : Int) = p ∧ (t.2.1 : Int) ≤ q)) by omega)]
    refine ⟨_, rfl, nofun, fun _ => ?_⟩
    walk_at "evs"
    refine ⟨_, rfl, t.2.2, rfl, ok.w, sm.1, sm.2, ?_⟩
    refine ⟨_, rfl, nofun, fun _ => ?_⟩
    walk_at "evs"
    refine ⟨_, _, _, _, _, rfl, rfl, fun u hu => ?_⟩
    obtain ⟨l1, e1⟩ := List.getElem?_eq_some_iff.mp ht
    obtain ⟨l2, e2⟩ := List.getElem?_eq_some_iff.mp hu
    have := List.pairwise_iff_getElem.mp hr i (i + 1) l1 l2 (by omega)
    rw [e1, e2] at this
    omega
  · rintro ds1 ms1 ⟨p, q, o2, o3, o4, rfl, rfl, _⟩
    walk_at "evs"
    refine rc_len ⟨_, _, rfl, .inr (.d _), ?_⟩
    walk_at "evs"
    rw [List.length_map, decide_eq_true (show ((ts.length : Nat) : Int) ≤ 170 by have := hw.len; omega)]
    exact r

def Φ__law_told : Ph := ph1 fun a ms R => ∃ z : Str, a = .d (.str z) ∧ z.length ≤ 9000 ∧ R (.d (.bool true)) ms
theorem len__law_told : ∀ as ms R, Φ__law_told as ms R → as.length = 1 := ph1_len
theorem rd__law_told {K : PySem.W.Frag} {mg : Str → Option Value} {C_CutError C_NoWeb C_NoText C_TooGreat : Addr} (cl : Cls K mg C_CutError C_NoWeb C_NoText C_TooGreat) : ∀ as ms R, Φ__law_told as ms R →
    S K (t__law_told K C_CutError C_NoWeb C_NoText C_TooGreat Φ_read_web Φ__law_refused Φ__law_text Φ__law_is_web) (as ++ List.replicate (2 - as.length) .u) ms (fin R) := by
  rintro as ms R ⟨a, rfl, z, rfl, hz, r⟩
  have er := cl.er_NoText
  have em := PySem.W.exm_ref er.b er.e.hd er.t er.s
  have len : ∀ y, PyData.str z = .str y → y.length ≤ 9000 := fun y e => by injection e with e; rw [← e]; exact hz
  unfold t__law_told
  refine s_seq (s_asg (e_non ?_))
  refine s_seq (s_tryOA em (ea_cons (e_var rfl (ea_nil ⟨_, rfl, _, rfl, len, fun k ts w => ?_, fun no => ?_⟩))))
  · obtain ⟨e, hw, hr, hs⟩ := w
    injection e with e
    subst e
    refine s_seq (s_if (et_test (e_op (e_var rfl (e_non (rr_isN ⟨_, rfl, rfl, false, rfl, nofun, fun _ => s_next ?_⟩))))))
    refine s_ret (e_and (e_call (ea_cons (e_var rfl (ea_nil ⟨_, rfl, k, ts, rfl, hw, hr, hs, _, rfl, fun _ => ?_, nofun⟩)))))
    refine e_op (e_call (ea_cons (e_var rfl (ea_nil ⟨_, rfl, k, ts, rfl, hw.m60, by have := hw.len; omega, fun t ht => smT_of (hw.all t ht) (hs t ht) hw.m60, e_var rfl ?_⟩))))
    refine rr_eqT ⟨_, _, rfl, rfl, ?_⟩
    rw [decide_eq_true rfl]
    exact r
  · refine s_asg (e_non ?_)
    refine s_seq (s_if (et_test (e_op (e_var rfl (e_non (rr_isN ⟨_, rfl, rfl, true, rfl, fun _ => ?_, nofun⟩))))))
    exact s_ret (e_call (ea_cons (e_var rfl (ea_nil ⟨_, rfl, _, rfl, ⟨len, no⟩, r⟩))))

def Φ__law_spoiled : Ph := ph2 fun a b ms R => ∃ (z : Str) (k : Nat) (ns : List Int), a = .d (.str z) ∧ b = .m k ∧ ms[k]? = some (.l (ns.map .int)) ∧ z.length ≤ 4000 ∧ ∀ (y : Str) (ns' : List Int), y.length ≤ 9000 → R (.d (.str y)) (ms.set k (.l (ns'.map .int)))
theorem len__law_spoiled : ∀ as ms R, Φ__law_spoiled as ms R → as.length = 2 := ph2_len
theorem cut_two (z : Str) (lo hi : Nat) : (cutS z (some (lo : Int)) (some (hi : Int))).length ≤ hi - lo := by
  show (((z.cps.toList.drop (HT.sIx z.length 0 (some (lo : Int)))).take (HT.sIx z.length z.length (some (hi : Int)) - HT.sIx z.length 0 (some (lo : Int)))).toArray).size ≤ _
  rw [List.size_toArray, List.length_take, HT.sIx_nat, HT.sIx_nat]
  omega
theorem rd__law_spoiled {K : PySem.W.Frag} : ∀ as ms R, Φ__law_spoiled as ms R → S K (t__law_spoiled K Φ__law_take) (as ++ List.replicate (8 - as.length) .u) ms (fin R) := by
  rintro as ms R ⟨a, b, rfl, z, k, ns, rfl, rfl, hk, hz, r⟩
  have hkl : k < ms.length := (List.getElem?_eq_some_iff.mp hk).1
  have big : ∀ {a b : Nat}, a ≤ 10000 → b ≤ 10000 → a + b ≤ sizeLine := fun ha hb => Nat.le_trans (Nat.add_le_add ha hb) (by decide)
  have cl := cutS_length z
  unfold t__law_spoiled
  walk_at "evs"
  refine ⟨_, rfl, k, ns, rfl, hk, fun v1 ns1 => ?_⟩
  walk_at "evs"
  refine rc_lenS ⟨z, rfl, by omega, ?_⟩
  walk_at "evs"
  refine rr_I ⟨_, _, rfl, rfl, by omega, ?_⟩
  obtain ⟨at_, hat, eat⟩ := fm_ex v1 (m := ((z.length : Int) + 1)) (by omega)
  rw [eat]
  walk_at "evs"
  refine ⟨_, rfl, k, ns1, rfl, by rw [List.getElem?_set_self hkl], fun v2 ns2 => ?_⟩
  rw [List.set_set]
  walk_at "evs"
  refine rc_lenS ⟨_, rfl, by decide +kernel, ?_⟩
  have l20 : ("0123456789 -=/+._~\n" : Str).length = 19 := by decide +kernel
  rw [l20]
  refine rr_I ⟨_, _, rfl, rfl, by decide, ?_⟩
  obtain ⟨sg, hsg, esg⟩ := fm_ex v2 (m := ((19 : Nat) : Int)) (by decide)
  rw [esg]
  have hsg2 : sg < ("0123456789 -=/+._~\n" : Str).cps.toList.length := by rw [Array.length_toList]; show sg < ("0123456789 -=/+._~\n" : Str).length; omega
  refine rr_ixS ⟨_, _, _, rfl, rfl, by rw [l20]; decide, atI_nat (j := sg) (List.getElem?_eq_getElem hsg2), ?_⟩
  generalize ("0123456789 -=/+._~\n" : Str).cps.toList[sg] = c
  have one : (⟨#[c]⟩ : Str).length = 1 := rfl
  walk_at "evs"
  refine ⟨_, rfl, k, ns2, rfl, by rw [List.getElem?_set_self hkl], fun v3 ns3 => ?_⟩
  rw [List.set_set]
  walk_at "evs"
  refine rr_I ⟨_, _, rfl, rfl, by decide, ?_⟩
  generalize v3.fmod 6 = way
  walk_at "evs"
  refine ⟨_, rfl, k, ns3, rfl, by rw [List.getElem?_set_self hkl], fun v4 ns4 => ?_⟩
  rw [List.set_set]
  walk_at "evs"
  refine rr_I ⟨_, _, rfl, rfl, by decide, ?_⟩
  generalize v4.fmod 9 = far
  walk_at "evs"
  have cz : ∀ {lo hi : Option Int}, (cutS z lo hi).length ≤ 4000 := Nat.le_trans (cl _ _) hz
  refine ⟨fun _ => ?_, fun _ => ?_⟩
  · refine s_ret (e_op (e_op (e_slS (e_var rfl (eo_none (eo_some (e_var rfl ⟨_, rfl, z, rfl, by omega, ?_⟩)))))))
    refine e_var rfl (rr_addS ⟨_, _, rfl, rfl, big (Nat.le_trans cz (by decide)) (by rw [one]; decide), ?_⟩)
    refine e_slS (e_var rfl (eo_some (e_var rfl ⟨_, rfl, eo_none ⟨z, rfl, by omega, ?_⟩⟩)))
    refine rr_addS ⟨_, _, rfl, rfl, big (app_le cz (Nat.le_of_eq one) (by decide)) (Nat.le_trans cz (by decide)), ?_⟩
    exact r _ _ (app_le (app_le cz (Nat.le_of_eq one) (Nat.le_refl _)) cz (by decide))
  refine s_next (s_seq (s_if (et_test (e_op (e_var rfl (e_int (rr_eq ⟨_, _, .d _, .d _, shaped_int _, shaped_int _, _, rfl, fun _ => ?_, fun _ => ?_⟩)))))))
  · refine s_ret (e_op (e_op (e_slS (e_var rfl (eo_none (eo_some (e_var rfl ⟨_, rfl, z, rfl, by omega, ?_⟩)))))))
    refine e_var rfl (rr_addS ⟨_, _, rfl, rfl, big (Nat.le_trans cz (by decide)) (by rw [one]; decide), ?_⟩)
    refine e_slS (e_var rfl (eo_some (e_op (e_var rfl (e_int (rr_I0 ⟨_, _, rfl, rfl, _, rfl, eo_none ⟨z, rfl, by omega, ?_⟩⟩))))))
    refine rr_addS ⟨_, _, rfl, rfl, big (app_le cz (Nat.le_of_eq one) (by decide)) (Nat.le_trans cz (by decide)), ?_⟩
    exact r _ _ (app_le (app_le cz (Nat.le_of_eq one) (Nat.le_refl _)) cz (by decide))
  refine s_next (s_seq (s_if (et_test (e_op (e_var rfl (e_int (rr_eq ⟨_, _, .d _, .d _, shaped_int _, shaped_int _, _, rfl, fun _ => ?_, fun _ => ?_⟩)))))))
  · refine s_seq (s_asg (e_slS (e_var rfl (eo_some (e_var rfl ⟨_, rfl, eo_some (e_op (e_var rfl (e_int (rr_I0 ⟨_, _, rfl, rfl, _, rfl, z, rfl, by omega, ?_⟩))))⟩)))))
    have two : (cutS z (some (at_ : Int)) (some ((at_ : Int) + 2))).length ≤ 2 := by
      have := cut_two z at_ (at_ + 2)
      have e : ((at_ + 2 : Nat) : Int) = (at_ : Int) + 2 := by omega
      rw [e] at this
      omega
    generalize cutS z (some (at_ : Int)) (some ((at_ : Int) + 2)) = y at *
    have cy : ∀ {lo hi : Option Int}, (cutS y lo hi).length ≤ 2 := Nat.le_trans (cutS_length y _ _) two
    refine s_ret (e_op (e_op (e_op (e_slS (e_var rfl (eo_none (eo_some (e_var rfl ⟨_, rfl, z, rfl, by omega, ?_⟩))))))))
    refine e_slS (e_var rfl (eo_some (e_int ⟨_, rfl, eo_none ⟨y, rfl, by omega, ?_⟩⟩)))
    refine rr_addS ⟨_, _, rfl, rfl, big (Nat.le_trans cz (by decide)) (Nat.le_trans cy (by decide)), ?_⟩
    refine e_slS (e_var rfl (eo_none (eo_some (e_int ⟨_, rfl, y, rfl, by omega, ?_⟩))))
    refine rr_addS ⟨_, _, rfl, rfl, big (app_le cz cy (by decide)) (Nat.le_trans cy (by decide)), ?_⟩
    refine e_slS (e_var rfl (eo_some (e_op (e_var rfl (e_int (rr_I0 ⟨_, _, rfl, rfl, _, rfl, eo_none ⟨z, rfl, by omega, ?_⟩⟩))))))
    refine rr_addS ⟨_, _, rfl, rfl, big (app_le (app_le cz cy (Nat.le_refl _)) cy (by decide)) (Nat.le_trans cz (by decide)), ?_⟩
    exact r _ _ (app_le (app_le (app_le cz cy (Nat.le_refl _)) cy (Nat.le_refl _)) cz (by decide))
  refine s_next (s_seq (s_if (et_test (e_op (e_var rfl (e_int (rr_eq ⟨_, _, .d _, .d _, shaped_int _, shaped_int _, _, rfl, fun _ => ?_, fun _ => ?_⟩)))))))
  · refine s_ret (e_op (e_slS (e_var rfl (eo_none (eo_some (e_op (e_var rfl (e_var rfl (rr_I0 ⟨_, _, rfl, rfl, _, rfl, z, rfl, by omega, ?_⟩)))))))))
    refine e_slS (e_var rfl (eo_some (e_var rfl ⟨_, rfl, eo_none ⟨z, rfl, by omega, ?_⟩⟩)))
    refine rr_addS ⟨_, _, rfl, rfl, big (Nat.le_trans cz (by decide)) (Nat.le_trans cz (by decide)), ?_⟩
    exact r _ _ (app_le cz cz (by decide))
  refine s_next (s_ret (e_op (e_slS (e_var rfl (eo_none (eo_some (e_var rfl ⟨_, rfl, z, rfl, by omega, ?_⟩)))))))
  refine e_slS (e_var rfl (eo_some (e_op (e_var rfl (e_var rfl (rr_I0 ⟨_, _, rfl, rfl, _, rfl, eo_none ⟨z, rfl, by omega, ?_⟩⟩))))))
  refine rr_addS ⟨_, _, rfl, rfl, big (Nat.le_trans cz (by decide)) (Nat.le_trans cz (by decide)), ?_⟩
  exact r _ _ (app_le cz cz (by decide))

def NoWs (y : Str) : Prop := y.length ≤ 9000 ∧ ∀ k us, ¬ IsWebS (.str y) k us
def Φ__law_none : Ph := ph1 fun a ms R => ∃ v : Int, a = .d (.int v) ∧ ∀ y : Str, NoWs y → R (.d (.str y)) ms
theorem len__law_none : ∀ as ms R, Φ__law_none as ms R → as.length = 1 := ph1_len
def tStrs : List Str → TA
  | [] => tNil
  | z :: r => tCons (tC (.str z)) (tStrs r)
theorem ea_strs {K : PySem.W.Frag} {ds : List SD} {ms : List MD} : ∀ (zs) {R : List SD → List MD → Prop}, R (zs.map fun z => SD.d (.str z)) ms → EA K (tStrs zs) ds ms R
  | [], R, r => ea_nil r
  | z :: zs, R, r => ea_cons (e_str (ea_strs zs (R := fun as ms1 => R (SD.d (.str z) :: as) ms1) r))
theorem e_strs {K : PySem.W.Frag} {ds : List SD} {ms : List MD} {R : RS} (zs) (hl : zs.length ≤ 64) (r : R (.f (zs.map .str)) ms) : E K (tLst (tStrs zs)) ds ms R :=
  e_lst (ea_strs zs ⟨zs.map .str, by rw [List.map_map]; rfl, by rw [List.length_map]; omega, r⟩)
theorem none_step {K : PySem.W.Frag} {ms : List MD} {v : Int} {o : SD} {t : TS} {P : Po} (zs L) (h1 : zs.length ≤ 64) (h2 : L.length ≤ 100) (h : S K t [.d (.int v), .d (.list ((L ++ zs).map .str)), o] ms P) :
    S K (tSeq (tAsg (tOp rCat (tVar 1) (tLst (tStrs zs))) (gName 1)) t) [.d (.int v), .d (.list (L.map .str)), o] ms P := by
  refine s_seq (s_asg (e_op (e_var rfl (e_strs zs h1 (rr_cat ⟨_, _, rfl, rfl, by rw [List.length_map, List.length_map]; omega, ?_⟩)))))
  rw [← List.map_append]
  exact h
theorem short_no {zs : List Str} (h : (zs.all fun y => !webB y && decide (y.length ≤ 9000)) = true) : ∀ y ∈ zs, NoWs y := fun y hy => by
  have := List.all_eq_true.mp h y hy
  rw [Bool.and_eq_true] at this
  exact ⟨of_decide_eq_true this.2, webB_no (by simpa using this.1)⟩
theorem nine_cps : ("9" : Str) = ⟨#[57]⟩ := by decide +kernel
theorem tl_nines (n : Nat) : TL.tl (timesS "9" n) = List.replicate n 57 := by
  rw [nine_cps, tl_times]
/-- a text with one word beyond -/
theorem long_no {a b : Str} {n : Nat} (h1 : (TL.tl a).count 32 + (TL.tl b).count 32 ≤ 1) (h2 : 1000 ≤ n) (h3 : n ≤ 5000) (h4 : a.length ≤ 20) (h5 : b.length ≤ 20) : NoWs (a ++ timesS "9" n ++ b) := by
  have l : (a ++ timesS "9" n ++ b).length = a.length + n + b.length := by rw [app_len, app_len, TL.len_tl (timesS "9" n), tl_nines, List.length_replicate]
  refine ⟨by omega, fun k us w => ?_⟩
  have s := web_short w
  rw [l, TL.tl_append, TL.tl_append, tl_nines, List.count_append, List.count_append, List.count_replicate, if_neg (by decide)] at s
  omega
theorem e_rep9 {K : PySem.W.Frag} {ds : List SD} {ms : List MD} {R : RS} {n : Nat} (h1 : 2 ≤ n) (h2 : n ≤ 10000) (r : R (.d (.str (timesS "9" n))) ms) : E K (tOp rRepS (tC (.str "9")) (tC (.int n))) ds ms R :=
  e_op (e_str (e_int (rr_repS ⟨"9", n, rfl, rfl, h1, h2, by decide +kernel, r⟩)))
theorem emp_appR (x : Str) : x ++ Str.empty = x := TL.ext_tl (by rw [TL.tl_append, tl_emp, List.append_nil])
def nA : List Str := ["", " ", "0", "61", "4 ", " 4", "04", "+4", "-4", "4.0", "four", "2  0-1=1", "2 0-1=1 ", "2 0-1", "2 0-1="]
def nB : List Str := ["2 0=1", "2 0-1-1", "2 0-1=1=1", "2 1-0=1", "2 0-0=1", "2 0-2=1", "2 0--1=1", "2 0-1=+1", "2 0-1=01"]
def nC : List Str := ["2 00-1=1", "2 0-1=-0", "2 0-1=0/2", "2 0-1=2/2", "2 0-1=1/1", "2 0-1=1/0", "2 0-1=1/-2"]
def nD : List Str := ["2 0-1=1/2/3", "2 0-1=1/1001", "2 0-1=1000000001", "2 0-1=-1000000001", ("2 0-1=" : Str) ++ (timesS "9" 40 : Str)]
def nE : List Str := ["2 0-1=1.5", "2 0-1=--1"]
def nF : List Str := ["3 0-2=1 0-1=1", "3 0-1=1 0-1=1", "3 0-1=1 0-1=2", "3 0-1=1,0-2=1", "3 0-1=1\n0-2=1", "2 0-1= 1"]
def nG : List Str := ["4\n", "\n4", "2 0-1=1\n", "\n2 0-1=1", "2\n0-1=1"]
def nH (N : Str) : List Str := [("2 0-1=" : Str) ++ N, N, ("2 0-" : Str) ++ N ++ ("=1" : Str), ("2 0-1=1/" : Str) ++ N, ("2 0-1=-" : Str) ++ N, N ++ (" 0-1=1" : Str), ("2 " : Str) ++ N ++ ("-1=1" : Str)]
theorem rd__law_none {K : PySem.W.Frag} : ∀ as ms R, Φ__law_none as ms R → S K (t__law_none K) (as ++ List.replicate (3 - as.length) .u) ms (fin R) := by
  rintro as ms R ⟨a, rfl, v, rfl, r⟩
  unfold t__law_none
  refine s_seq (s_asg (e_strs nA (by decide) ?_))
  refine none_step nB _ (by decide) (by decide) ?_
  refine none_step nC _ (by decide) (by decide) ?_
  have s1 : ∀ y ∈ (nA ++ nB ++ nC), NoWs y := short_no (by decide +kernel)
  have z1 : (nA ++ nB ++ nC).length = 31 := rfl
  revert s1 z1
  generalize (nA ++ nB ++ nC) = L
  intro s1 z1
  have big : ∀ {a b : Nat}, a ≤ 10000 → b ≤ 10000 → a + b ≤ sizeLine := fun ha hb => Nat.le_trans (Nat.add_le_add ha hb) (by decide)
  refine s_seq (s_asg (e_op (e_var rfl (e_lst (ea_cons (e_str (ea_cons (e_str (ea_cons (e_str (ea_cons (e_str (ea_cons (e_op (e_str (e_rep9 (n := 40) (by decide) (by decide) (rr_addS ⟨_, _, rfl, rfl, by decide +kernel, ea_nil ⟨[_, _, _, _, _], rfl, Nat.le_of_ble_eq_true rfl, ?_⟩⟩)))))))))))))))))
  refine rr_cat ⟨_, _, rfl, rfl, by rw [List.length_map, z1]; decide, ?_⟩
  have s2 : ∀ y ∈ L ++ nD, NoWs y := fun y hy => by
    rcases List.mem_append.mp hy with h | h
    · exact s1 y h
    · exact short_no (by decide +kernel) y h
  have z2 : (L ++ nD).length = 36 := by rw [List.length_append, z1]; rfl
  have e2 : L.map PyData.str ++ [.str "2 0-1=1/2/3", .str "2 0-1=1/1001", .str "2 0-1=1000000001", .str "2 0-1=-1000000001", .str ("2 0-1=" ++ timesS "9" 40)] = (L ++ nD).map PyData.str := by rw [List.map_append]; rfl
  rw [e2]
  clear e2
  revert s2 z2
  generalize L ++ nD = L2
  intro s2 z2
  refine none_step nE L2 (by decide) (by omega) ?_
  refine none_step nF _ (by decide) (by rw [List.length_append, z2]; decide) ?_
  have s3 : ∀ y ∈ L2 ++ nE ++ nF, NoWs y := fun y hy => by
    rw [List.append_assoc] at hy
    rcases List.mem_append.mp hy with h | h
    · exact s2 y h
    · exact short_no (by decide +kernel) y h
  have z3 : (L2 ++ nE ++ nF).length = 44 := by rw [List.append_assoc, List.length_append, z2]; rfl
  revert s3 z3
  generalize L2 ++ nE ++ nF = L3
  intro s3 z3
  refine s_seq (s_asg (e_rep9 (n := 5000) (by decide) (by decide) ?_))
  have n0 : NoWs (timesS "9" 5000) := by
    have := long_no (a := Str.empty) (b := Str.empty) (n := 5000) (by decide) (by decide) (by decide) (by decide) (by decide)
    rw [emp_app, emp_appR] at this
    exact this
  have n1 : NoWs ("2 0-1=" ++ timesS "9" 5000) := by
    have := long_no (a := "2 0-1=") (b := Str.empty) (n := 5000) (by decide +kernel) (by decide) (by decide) (by decide +kernel) (by decide)
    rw [emp_appR] at this
    exact this
  have n2 : NoWs ("2 0-" ++ timesS "9" 5000 ++ "=1") := long_no (by decide +kernel) (by decide) (by decide) (by decide +kernel) (by decide +kernel)
  have n3 : NoWs ("2 0-1=1/" ++ timesS "9" 5000) := by
    have := long_no (a := "2 0-1=1/") (b := Str.empty) (n := 5000) (by decide +kernel) (by decide) (by decide) (by decide +kernel) (by decide)
    rw [emp_appR] at this
    exact this
  have n4 : NoWs ("2 0-1=-" ++ timesS "9" 5000) := by
    have := long_no (a := "2 0-1=-") (b := Str.empty) (n := 5000) (by decide +kernel) (by decide) (by decide) (by decide +kernel) (by decide)
    rw [emp_appR] at this
    exact this
  have n5 : NoWs (timesS "9" 5000 ++ " 0-1=1") := by
    have := long_no (a := Str.empty) (b := " 0-1=1") (n := 5000) (by decide +kernel) (by decide) (by decide) (by decide) (by decide +kernel)
    rw [emp_app] at this
    exact this
  have n6 : NoWs ("2 " ++ timesS "9" 5000 ++ "-1=1") := long_no (by decide +kernel) (by decide) (by decide) (by decide +kernel) (by decide +kernel)
  have l9 : (timesS "9" 5000).length = 5000 := by rw [TL.len_tl, tl_nines, List.length_replicate]
  have ls : ∀ {a : Str}, a.length ≤ 20 → (a ++ timesS "9" 5000).length ≤ 10000 := fun h => by rw [app_len, l9]; omega
  generalize timesS "9" 5000 = N at *
  have bs : ∀ {a : Str}, a.length ≤ 20 → a.length + N.length ≤ sizeLine := fun h => big (by omega) (by omega)
  have bt : ∀ {a b : Str}, a.length ≤ 20 → b.length ≤ 20 → (a ++ N).length + b.length ≤ sizeLine := fun h h2 => big (ls h) (by omega)
  refine s_seq (s_asg (e_op (e_var rfl (e_lst (ea_cons (e_str (ea_cons (e_str (ea_cons (e_str (ea_cons (e_str (ea_cons (e_str (ea_cons (e_op (e_str (e_var rfl (rr_addS ⟨_, _, rfl, rfl, bs (by decide +kernel), ?_⟩)))))))))))))))))))
  refine ea_cons (e_var rfl (ea_cons (e_op (e_op (e_str (e_var rfl (rr_addS ⟨_, _, rfl, rfl, bs (by decide +kernel), e_str (rr_addS ⟨_, _, rfl, rfl, bt (by decide +kernel) (by decide +kernel), ea_nil ⟨[_, _, _, _, _, _, _, _], rfl, Nat.le_of_ble_eq_true rfl, ?_⟩⟩)⟩)))))))
  refine rr_cat ⟨_, _, rfl, rfl, by rw [List.length_map, z3]; exact Nat.le_of_ble_eq_true rfl, ?_⟩
  refine s_seq (s_asg (e_op (e_var rfl (e_lst (ea_cons (e_op (e_str (e_var rfl (rr_addS ⟨_, _, rfl, rfl, bs (by decide +kernel), ?_⟩)))))))))
  refine ea_cons (e_op (e_str (e_var rfl (rr_addS ⟨_, _, rfl, rfl, bs (by decide +kernel), ?_⟩))))
  refine ea_cons (e_op (e_var rfl (e_str (rr_addS ⟨_, _, rfl, rfl, by rw [Nat.add_comm]; exact bs (by decide +kernel), ?_⟩))))
  refine ea_cons (e_op (e_op (e_str (e_var rfl (rr_addS ⟨_, _, rfl, rfl, bs (by decide +kernel), e_str (rr_addS ⟨_, _, rfl, rfl, bt (by decide +kernel) (by decide +kernel), ea_nil ⟨[_, _, _, _], rfl, Nat.le_of_ble_eq_true rfl, ?_⟩⟩)⟩)))))
  refine rr_cat ⟨_, _, rfl, rfl, by rw [List.length_append, List.length_map, z3]; exact Nat.le_of_ble_eq_true rfl, ?_⟩
  have s4 : ∀ y ∈ L3 ++ (nG ++ nH N), NoWs y := fun y hy => by
    rcases List.mem_append.mp hy with h | h
    · exact s3 y h
    rcases List.mem_append.mp h with h | h
    · exact short_no (by decide +kernel) y h
    · simp only [nH, List.mem_cons, List.not_mem_nil, or_false] at h
      rcases h with rfl | rfl | rfl | rfl | rfl | rfl | rfl
      · exact n1
      · exact n0
      · exact n2
      · exact n3
      · exact n4
      · exact n5
      · exact n6
  have e4 : L3.map PyData.str ++ [.str "4\n", .str "\n4", .str "2 0-1=1\n", .str "\n2 0-1=1", .str "2\n0-1=1", .str ("2 0-1=" ++ N), .str N, .str ("2 0-" ++ N ++ "=1")] ++ [.str ("2 0-1=1/" ++ N), .str ("2 0-1=-" ++ N), .str (N ++ " 0-1=1"), .str ("2 " ++ N ++ "-1=1")] = (L3 ++ (nG ++ nH N)).map PyData.str := by
    rw [List.map_append, List.append_assoc]
    rfl
  rw [e4]
  clear e4
  have z4 : (L3 ++ (nG ++ nH N)).length = 56 := by rw [List.length_append, z3]; rfl
  revert s4 z4
  generalize L3 ++ (nG ++ nH N) = L4
  intro s4 z4
  refine s_ret (e_op (e_var rfl (e_op (e_var rfl (e_cb (ea_cons (e_var rfl (ea_nil (rc_len ⟨_, _, rfl, .inl (.d _), rr_I ⟨_, _, rfl, rfl, by rw [List.length_map, z4]; decide, ?_⟩⟩)))))))))
  rw [List.length_map, z4]
  obtain ⟨c, hc, ec⟩ := fm_ex v (m := ((56 : Nat) : Int)) (by decide)
  rw [ec]
  have lt : c < L4.length := by omega
  exact rr_ix ⟨_, _, _, .inl (.d _), rfl, atI_nat (j := c) (by rw [List.getElem?_map, List.getElem?_eq_getElem lt]; rfl), r _ (s4 _ (List.getElem_mem lt))⟩

def Φ__law_ties_changed : Ph := ph2 fun a b ms R => ∃ (m : Nat) (ts : List Tie) (k : Nat) (ns : List Int), a = .d (encW m ts) ∧ b = .m k ∧ ms[k]? = some (.l (ns.map .int)) ∧ WebOk m ts ∧ Rise ts ∧ (∀ t ∈ ts, Sm t) ∧ ts.length ≤ 81 ∧ ∀ (y : Str) (ns' : List Int), NoWs y → R (.d (.str y)) (ms.set k (.l (ns'.map .int)))
theorem len__law_ties_changed : ∀ as ms R, Φ__law_ties_changed as ms R → as.length = 2 := ph2_len
theorem cut_hd (es : List PyData) (n : Nat) : Hc.cutD es none (some (n : Int)) = es.take n := by
  unfold Hc.cutD
  rw [HT.sIx_none, HT.sIx_nat, List.drop_zero, Nat.sub_zero]
  rcases Nat.le_total n es.length with h | h
  · rw [Nat.min_eq_left h]
  · rw [Nat.min_eq_right h, List.take_of_length_le (Nat.le_refl _), List.take_of_length_le h]
theorem cut_tl (es : List PyData) (n : Nat) : Hc.cutD es (some (n : Int)) none = es.drop n := by
  unfold Hc.cutD
  rw [HT.sIx_nat, HT.sIx_none]
  rcases Nat.le_total n es.length with h | h
  · rw [Nat.min_eq_left h, List.take_of_length_le (by rw [List.length_drop]; omega)]
  · rw [Nat.min_eq_right h, Nat.sub_self, List.take_zero, List.drop_of_length_le h]
theorem ix_sign {t : Tie} : ∃ k : Nat, Txt.index0 (tieS t) "=" = some k ∧ cutS (tieS t) (some (k : Int)) none = "=" ++ wtS t.2.2 := by
  have e : Txt.partition (tieS t) "=" = (ptS t, ("=" : Str), wtS t.2.2) := TL.partition_app tl_eqs ptS_free
  have len : (tieS t).length = (ptS t).length + 1 + (wtS t.2.2).length := by
    show (ptS t ++ "=" ++ wtS t.2.2).length = _
    rw [app_len, app_len, len1_eqs]
  unfold Txt.partition at e
  unfold Txt.index0
  cases h : Builtin.Str.occurrences (tieS t) "=" 0 (tieS t).length 1 with
  | nil =>
    rw [h] at e
    injection e with _ e
    injection e with e _
    exact absurd (congrArg Str.length e) (by rw [len1_eqs]; decide)
  | cons i r =>
    rw [h] at e
    injection e with e _
    have l : (ptS t).length = min i (tieS t).length := by
      rw [← e, TL.len_tl, TL.tl_strSub, List.drop_zero, Nat.sub_zero, List.length_take, ← TL.len_tl]
    have i1 : i = (ptS t).length := by omega
    refine ⟨i, rfl, TL.ext_tl ?_⟩
    have c : TL.tl (cutS (tieS t) (some (i : Int)) none) = (TL.tl (tieS t)).drop i := by
      show (((tieS t).cps.toList.drop (HT.sIx (tieS t).length 0 (some (i : Int)))).take (HT.sIx (tieS t).length (tieS t).length none - HT.sIx (tieS t).length 0 (some (i : Int)))) = (tieS t).cps.toList.drop i
      rw [HT.sIx_nat, HT.sIx_none, Nat.min_eq_left (by omega), List.take_of_length_le]
      rw [List.length_drop, Array.length_toList]
      exact Nat.le_refl _
    rw [c]
    show (TL.tl (ptS t ++ "=" ++ wtS t.2.2)).drop i = _
    rw [app_ass, TL.tl_append, i1, TL.len_tl, List.drop_left]
theorem rd__law_ties_changed {K : PySem.W.Frag} : ∀ as ms R, Φ__law_ties_changed as ms R → S K (t__law_ties_changed K Φ__law_text Φ__law_take) (as ++ List.replicate (8 - as.length) .u) ms (fin R) := by
  rintro as ms R ⟨a, b, rfl, m, ts, k, ns, rfl, rfl, hk, hw, hr, hs, h81, r⟩
  have hkl : k < ms.length := (List.getElem?_eq_some_iff.mp hk).1
  have m60 := hw.m60
  have sm : ∀ t ∈ ts, SmT t := fun t ht => smT_of (hw.all t ht) (hs t ht) m60
  have w0 := webS_sm m60 sm
  -- what is answered is no web
  have out : ∀ (xs : List Tie) (ns' : List Int), (∀ t ∈ xs, SmT t) → xs.length ≤ 90 → ¬ (WebOk m xs ∧ Rise xs) → R (.d (.str (webS m xs))) (ms.set k (.l (ns'.map .int))) := fun xs ns' h1 h2 h3 => r _ ns' ⟨by have := webS_sm m60 h1; omega, notWeb m60 h1 h3⟩
  unfold t__law_ties_changed
  refine s_new (e_spl (e_call (ea_cons (e_var rfl (ea_nil ⟨_, rfl, m, ts, rfl, m60, by omega, sm, _, rfl, e_str ⟨_, rfl, by rw [len1_spc]; decide, by omega, _, rfl, ?_⟩⟩)))))
  rw [split_web]
  have g0 : ∀ ns' : List Int, ((ms.set k (.l (ns'.map .int))) ++ [MD.l ((numS m :: ts.map tieS).map PyData.str)])[ms.length]? = some (.l ((numS m :: ts.map tieS).map PyData.str)) := fun ns' => by
    rw [List.getElem?_append_right (by rw [List.length_set]; exact Nat.le_refl _), List.length_set, Nat.sub_self]
    rfl
  have g1 : (ms ++ [MD.l ((numS m :: ts.map tieS).map PyData.str)])[ms.length]? = some (.l ((numS m :: ts.map tieS).map PyData.str)) := List.getElem?_concat_length
  have wl : ((numS m :: ts.map tieS).map PyData.str).length = ts.length + 1 := by rw [List.length_map, List.length_cons, List.length_map]
  have big : ∀ {a b : Nat}, a ≤ 100 → b ≤ 100 → a + b ≤ sizeLine := fun ha hb => Nat.le_trans (Nat.add_le_add ha hb) (by decide)
  have nl := numS_len (nat_small m60)
  refine s_seq (s_if (et_test (e_op (e_cb (ea_cons (e_varm rfl (ea_nil (rc_len ⟨_, _, rfl, .inl (.m g1), e_int (rr_B0 ⟨_, _, rfl, rfl, _, rfl, fun h => ?_, fun h => ?_⟩)⟩))))))))
  · have z0 : (" 0-" : Str).length = 3 := by decide +kernel
    have z1 : ("=1" : Str).length = 2 := by decide +kernel
    refine s_ret (e_op (e_op (e_op (e_op (e_varm rfl (e_int (rr_ix ⟨_, _, _, .inl (.m g1), rfl, atI_nat (j := 0) rfl, ?_⟩)))))))
    refine e_str (rr_addS ⟨_, _, rfl, rfl, big (by omega) (by rw [z0]; decide), ?_⟩)
    refine e_op (e_varm rfl (e_int (rr_ix ⟨_, _, _, .inl (.m g1), rfl, atI_nat (j := 0) rfl, ?_⟩)))
    refine rr_addS ⟨_, _, rfl, rfl, big (by rw [app_len, z0]; omega) (by omega), ?_⟩
    refine e_str (rr_addS ⟨_, _, rfl, rfl, big (by rw [app_len, app_len, z0]; omega) (by rw [z1]; decide), ?_⟩)
    refine ⟨ms, _, rfl, rfl, ?_⟩
    have e : numS m ++ " 0-" ++ numS m ++ "=1" = webS m [(0, m, (1, 1))] := by
      apply TL.ext_tl
      unfold webS
      rw [TL.join_eq, TL.tl_join, tl_spc]
      show _ = TL.tl (numS m) ++ ([32] ++ TL.tl (numS (0 : Nat) ++ "-" ++ numS m ++ "=" ++ numS 1))
      rw [TL.tl_append, TL.tl_append, TL.tl_append, TL.tl_append, TL.tl_append, TL.tl_append, TL.tl_append, tl_dash, tl_eqs, show TL.tl (numS ((0 : Nat) : Int)) = [48] from by decide +kernel, show TL.tl (numS 1) = [49] from by decide +kernel, show TL.tl (" 0-" : Str) = [32, 48, 45] from by decide +kernel, show TL.tl ("=1" : Str) = [61, 49] from by decide +kernel]
      simp
    rw [e]
    have := out [(0, m, (1, 1))] ns (fun t ht => by
      rw [List.mem_singleton.mp ht]
      exact ⟨Nat.zero_le _, m60, by show (1 : Int).natAbs < 10 ^ 10; decide, by show (1 : Int).natAbs < 10 ^ 10; decide, by show (0 : Int) < 1; decide⟩) (Nat.le_of_ble_eq_true rfl) fun z => by
      have : m < m := (z.1.all (0, m, (1, 1)) (by simp)).lm
      omega
    rw [set_same _ _ _ hk] at this
    exact this
  have h2 : 2 ≤ ts.length := by
    have := of_decide_eq_false h
    rw [wl] at this
    omega
  refine s_next (s_seq (s_asg (e_op (e_int (e_op (e_call (ea_cons (e_varm rfl (ea_nil ⟨_, rfl, k, ns, rfl, by rw [List.getElem?_append_left hkl]; exact hk, fun v1 ns1 => ?_⟩)))))))))
  rw [List.set_append_left _ _ hkl]
  refine e_op (e_cb (ea_cons (e_varm rfl (ea_nil (rc_len ⟨_, _, rfl, .inl (.m (g0 ns1)), e_int (rr_I0 ⟨_, _, rfl, rfl, ?_⟩)⟩)))))
  rw [wl]
  refine rr_I ⟨_, _, rfl, rfl, by omega, ?_⟩
  obtain ⟨c, hc, ec⟩ := fm_ex v1 (m := (((ts.length + 1 : Nat) : Int) - 2)) (by omega)
  rw [ec]
  have c1 : c + 1 < ts.length := by omega
  have ea : (1 : Int) + (c : Int) = ((c + 1 : Nat) : Int) := by omega
  refine rr_I0 ⟨_, _, rfl, rfl, ?_⟩
  rw [ea]
  refine s_seq (s_asg (e_op (e_call (ea_cons (e_varm rfl (ea_nil ⟨_, rfl, k, ns1, rfl, by rw [List.getElem?_append_left (by rw [List.length_set]; exact hkl), List.getElem?_set_self hkl], fun v2 ns2 => ?_⟩))))))
  have ap : ∀ (x y z : MD), (ms.set k x ++ [z]).set k y = ms.set k y ++ [z] := fun x y z => by rw [List.set_append_left _ _ (by rw [List.length_set]; exact hkl), List.set_set]
  rw [ap]
  refine e_int (rr_I ⟨_, _, rfl, rfl, by decide, ?_⟩)
  obtain ⟨wy, hwy, ewy⟩ := fm_ex v2 (m := 3) (by decide)
  rw [ewy]
  have q0 : ts[c]? = some ts[c] := List.getElem?_eq_getElem (by omega)
  have q1 : ts[c + 1]? = some ts[c + 1] := List.getElem?_eq_getElem c1
  have m0 : ts[c] ∈ ts := List.getElem_mem (by omega)
  have m1 : ts[c + 1] ∈ ts := List.getElem_mem c1
  have rise := List.pairwise_iff_getElem.mp hr c (c + 1) (by omega) c1 (by omega)
  have dr : ts.drop c = ts[c] :: ts.drop (c + 1) := List.drop_eq_getElem_cons (by omega)
  have s0 := sm _ m0
  have t0 := sm _ m1
  have ok0 := hw.all _ m0
  revert q0 q1 m0 m1 rise dr s0 t0 ok0
  generalize ts[c] = p
  generalize ts[c + 1] = q
  intro q0 q1 m0 m1 rise dr s0 t0 ok0
  have wc : ((numS m :: ts.map tieS).map PyData.str)[c + 1]? = some (.str (tieS p)) := by
    rw [List.map_cons, List.getElem?_cons_succ, List.map_map, List.getElem?_map, q0]
    rfl
  have wd : ((numS m :: ts.map tieS).map PyData.str)[c + 2]? = some (.str (tieS q)) := by
    rw [List.map_cons, List.getElem?_cons_succ, List.map_map, List.getElem?_map, q1]
    rfl
  have tk : ((numS m :: ts.map tieS).map PyData.str).take (c + 1) = (numS m :: (ts.take c).map tieS).map PyData.str := by
    rw [List.map_cons, List.take_succ_cons, List.map_cons, List.map_take, List.map_take]
  have dk : ∀ n, ((numS m :: ts.map tieS).map PyData.str).drop (n + 1) = ((ts.drop n).map tieS).map PyData.str := fun n => by
    rw [List.map_cons, List.drop_succ_cons, List.map_drop, List.map_drop]
  have jn : ∀ {ws : List Str} {xs : List Tie}, ws = numS m :: xs.map tieS → (∀ t ∈ xs, SmT t) → xs.length ≤ 90 → (ws.map (·.length)).sum + ws.length * (" " : Str).length ≤ 16777216 := fun {ws xs} e h1 h2 => by
    have := wordsum_sm m60 h1
    rw [← e] at this
    omega
  refine s_seq (s_if (et_test (e_op (e_var rfl (e_int (rr_eq ⟨_, _, .d _, .d _, shaped_int _, shaped_int _, _, rfl, fun _ => ?_, fun hn0 => ?_⟩))))))
  · -- two exchanged
    refine s_asg (e_op (e_op (e_slL (e_varm rfl (eo_none (eo_some (e_var rfl ⟨_, rfl, _, .m (g0 ns2), ?_⟩)))))))
    rw [cut_hd, tk]
    refine e_lst (ea_cons (e_op (e_varm rfl (e_op (e_var rfl (e_int (rr_I0 ⟨_, _, rfl, rfl, rr_ix ⟨_, _, _, .inl (.m (g0 ns2)), rfl, atI_nat (j := c + 2) wd, ?_⟩⟩)))))))
    refine ea_cons (e_op (e_varm rfl (e_var rfl (rr_ix ⟨_, _, _, .inl (.m (g0 ns2)), rfl, atI_nat (j := c + 1) wc, ea_nil ⟨[_, _], rfl, Nat.le_of_ble_eq_true rfl, rr_cat ⟨_, _, rfl, rfl, ?_, ?_⟩⟩⟩))))
    · rw [List.length_map, List.length_cons, List.length_map, List.length_take]
      show _ + 2 ≤ _
      omega
    refine e_slL (e_varm rfl (eo_some (e_op (e_var rfl (e_int (rr_I0 ⟨_, _, rfl, rfl, _, rfl, eo_none ⟨_, .m (g0 ns2), ?_⟩⟩))))))
    rw [show ((c + 1 : Nat) : Int) + 2 = ((c + 2 + 1 : Nat) : Int) by omega, cut_tl, dk]
    have mem : ∀ t ∈ ts.take c ++ [q, p] ++ ts.drop (c + 2), SmT t := fun t ht => by
      rcases List.mem_append.mp ht with ht | ht
      · rcases List.mem_append.mp ht with ht | ht
        · exact sm t (List.mem_of_mem_take ht)
        · rcases List.mem_cons.mp ht with rfl | ht
          · exact t0
          · rw [List.mem_singleton.mp ht]; exact s0
      · exact sm t (List.mem_of_mem_drop ht)
    have ln : (ts.take c ++ [q, p] ++ ts.drop (c + 2)).length ≤ 90 := by
      rw [List.length_append, List.length_append, List.length_take, List.length_drop]
      show _ + 2 + _ ≤ _
      omega
    have ew : (numS m :: (ts.take c).map tieS).map PyData.str ++ [.str (tieS q), .str (tieS p)] ++ ((ts.drop (c + 2)).map tieS).map PyData.str = (numS m :: (ts.take c ++ [q, p] ++ ts.drop (c + 2)).map tieS).map PyData.str := by
      simp
    refine rr_cat ⟨_, _, rfl, rfl, ?_, ?_⟩
    · simp
      omega
    rw [ew]
    refine s_ret (e_join (e_str ⟨_, rfl, e_var rfl ⟨numS m :: (ts.take c ++ [q, p] ++ ts.drop (c + 2)).map tieS, .d _, jn rfl mem ln, ?_⟩⟩))
    refine ⟨_, _, rfl, List.length_set, out _ ns2 mem ln fun z => ?_⟩
    have z := (List.pairwise_append.mp (List.pairwise_append.mp z.2).1).2.1
    have := (List.pairwise_cons.mp z).1 p (by simp)
    omega
  refine s_if (et_test (e_op (e_var rfl (e_int (rr_eq ⟨_, _, .d _, .d _, shaped_int _, shaped_int _, _, rfl, fun _ => ?_, fun hn1 => ?_⟩)))))
  · -- one twice
    refine s_asg (e_op (e_op (e_slL (e_varm rfl (eo_none (eo_some (e_var rfl ⟨_, rfl, _, .m (g0 ns2), ?_⟩)))))))
    rw [cut_hd, tk]
    refine e_lst (ea_cons (e_op (e_varm rfl (e_var rfl (rr_ix ⟨_, _, _, .inl (.m (g0 ns2)), rfl, atI_nat (j := c + 1) wc, ea_nil ⟨[_], rfl, Nat.le_of_ble_eq_true rfl, rr_cat ⟨_, _, rfl, rfl, ?_, ?_⟩⟩⟩)))))
    · rw [List.length_map, List.length_cons, List.length_map, List.length_take]
      show _ + 1 ≤ _
      omega
    refine e_slL (e_varm rfl (eo_some (e_var rfl ⟨_, rfl, eo_none ⟨_, .m (g0 ns2), ?_⟩⟩)))
    rw [cut_tl, dk]
    have mem : ∀ t ∈ ts.take c ++ [p] ++ ts.drop c, SmT t := fun t ht => by
      rcases List.mem_append.mp ht with ht | ht
      · rcases List.mem_append.mp ht with ht | ht
        · exact sm t (List.mem_of_mem_take ht)
        · rw [List.mem_singleton.mp ht]; exact s0
      · exact sm t (List.mem_of_mem_drop ht)
    have ln : (ts.take c ++ [p] ++ ts.drop c).length ≤ 90 := by
      rw [List.length_append, List.length_append, List.length_take, List.length_drop]
      show _ + 1 + _ ≤ _
      omega
    have ew : (numS m :: (ts.take c).map tieS).map PyData.str ++ [.str (tieS p)] ++ ((ts.drop c).map tieS).map PyData.str = (numS m :: (ts.take c ++ [p] ++ ts.drop c).map tieS).map PyData.str := by
      simp
    refine rr_cat ⟨_, _, rfl, rfl, ?_, ?_⟩
    · simp
      omega
    rw [ew]
    refine s_ret (e_join (e_str ⟨_, rfl, e_var rfl ⟨numS m :: (ts.take c ++ [p] ++ ts.drop c).map tieS, .d _, jn rfl mem ln, ?_⟩⟩))
    refine ⟨_, _, rfl, List.length_set, out _ ns2 mem ln fun z => ?_⟩
    have z := (List.pairwise_append.mp z.2).2.2 p (by simp) p (by rw [dr]; simp)
    omega
  -- the other way round
  refine s_seq (s_asgG (js := [5, 6, 7]) (e_op (e_op (e_var rfl (e_int (rr_ix ⟨_, _, _, .inr (.d _), rfl, atI_nat (j := 1) rfl, ?_⟩))))))
  refine e_op (e_var rfl (e_int (rr_I0 ⟨_, _, rfl, rfl, ?_⟩)))
  rw [show ((c + 1 : Nat) : Int) - 1 = (c : Int) by omega]
  refine rr_ix ⟨_, _, encT p, .inr (.d _), rfl, atI_nat (j := c) (by rw [List.getElem?_map, q0]; rfl), ?_⟩
  refine eg_tup rfl (egs_cons (eg_name (egs_cons (eg_name (egs_cons (eg_name (egs_nil ?_)))))))
  obtain ⟨ix, hix, hcut⟩ := ix_sign (t := p)
  have l1 := numS_len (nat_small s0.1)
  have l2 := numS_len (nat_small s0.2.1)
  have l3 := wtS_len s0.2.2.1 s0.2.2.2.1
  have l4 := tieS_sm s0
  refine s_setL (e_op (e_op (e_op (e_cb (ea_cons (e_var rfl (ea_nil (rc_str ⟨(p.2.1 : Int), rfl, lg_ok (nat_small s0.2.1), ?_⟩))))))))
  refine e_str (rr_addS ⟨numS p.2.1, "-", rfl, rfl, big (by omega) (by rw [len1_dash]; decide), ?_⟩)
  refine e_cb (ea_cons (e_var rfl (ea_nil (rc_str ⟨(p.1 : Int), rfl, lg_ok (nat_small s0.1), ?_⟩))))
  refine rr_addS ⟨numS p.2.1 ++ "-", numS p.1, rfl, rfl, big (by rw [app_len, len1_dash]; omega) (by omega), ?_⟩
  refine e_slS (e_op (e_varm rfl (e_var rfl (rr_ix ⟨_, _, _, .inl (.m (g0 ns2)), rfl, atI_nat (j := c + 1) wc, ?_⟩))))
  refine eo_some (e_idxS (e_op (e_varm rfl (e_var rfl (rr_ix ⟨_, _, _, .inl (.m (g0 ns2)), rfl, atI_nat (j := c + 1) wc, ?_⟩)))))
  refine ⟨_, rfl, e_str ⟨_, ix, rfl, hix, _, rfl, eo_none ⟨_, rfl, by omega, ?_⟩⟩⟩
  rw [hcut]
  refine rr_addS ⟨numS p.2.1 ++ "-" ++ numS p.1, "=" ++ wtS p.2.2, rfl, rfl, big (by rw [app_len, app_len, len1_dash]; omega) (by rw [app_len, len1_eqs]; omega), ?_⟩
  have es : numS p.2.1 ++ "-" ++ numS p.1 ++ ("=" ++ wtS p.2.2) = tieS (p.2.1, p.1, p.2.2) := by
    rw [← app_ass]
    rfl
  rw [es]
  refine ⟨_, rfl, e_varm rfl ⟨_, rfl, e_var rfl ⟨_, c + 1, _, rfl, g0 ns2, ?_, ?_⟩⟩⟩
  · unfold ixN
    rw [wl, if_pos (by omega), if_pos (by omega)]
    rfl
  have mem : ∀ t ∈ ts.set c (p.2.1, p.1, p.2.2), SmT t := fun t ht => by
    rcases List.mem_or_eq_of_mem_set ht with ht | rfl
    · exact sm t ht
    · exact ⟨s0.2.1, s0.1, s0.2.2.1, s0.2.2.2.1, s0.2.2.2.2⟩
  have ln : (ts.set c (p.2.1, p.1, p.2.2)).length ≤ 90 := by rw [List.length_set]; omega
  have ew : ((numS m :: ts.map tieS).map PyData.str).set (c + 1) (.str (tieS (p.2.1, p.1, p.2.2))) = (numS m :: (ts.set c (p.2.1, p.1, p.2.2)).map tieS).map PyData.str := by
    rw [List.map_cons, List.set_cons_succ, List.map_cons, List.map_set, List.map_set]
  have gl : (ms.set k (.l (ns2.map .int))).length = ms.length := List.length_set
  have ar : ∀ (y z : MD), (ms.set k (.l (ns2.map .int)) ++ [z]).set ms.length y = ms.set k (.l (ns2.map .int)) ++ [y] := fun y z => by
    rw [List.set_append_right _ _ (by rw [gl]; exact Nat.le_refl _), gl, Nat.sub_self]
    rfl
  rw [ew, ar]
  refine s_ret (e_join (e_str ⟨_, rfl, e_varm rfl ⟨numS m :: (ts.set c (p.2.1, p.1, p.2.2)).map tieS, .m (by rw [List.getElem?_append_right (by rw [gl]; exact Nat.le_refl _), gl, Nat.sub_self]; rfl), jn rfl mem ln, ?_⟩⟩))
  refine ⟨_, _, rfl, gl, out _ ns2 mem ln fun z => ?_⟩
  have := (z.1.all (p.2.1, p.1, p.2.2) (List.mem_iff_getElem?.mpr ⟨c, List.getElem?_set_self (by omega)⟩)).lt
  have h3 := ok0.lt
  have this : p.2.1 < p.1 := this
  omega

def Φ__law_full : Ph := ph1 fun a ms R => ∃ v : Int, a = .d (.int v) ∧ R (.d (.bool true)) ms
theorem len__law_full : ∀ as ms R, Φ__law_full as ms R → as.length = 1 := ph1_len
def fullN (i : Nat) : Nat := ((List.range i).map fun k => 18 - k).sum
theorem fullN_step (i : Nat) : fullN (i + 1) = fullN i + (18 - i) := by
  unfold fullN
  rw [List.range_succ, List.map_append, List.sum_append]
  simp
theorem rise_of_sub {xs ts : List Tie} (h : xs.Sublist ts) (hr : Rise ts) : Rise xs := List.Pairwise.sublist h hr
theorem shp_webT (m : Nat) (ts : List Tie) : Shp 4 (encW m ts) := Shp.tup fun e he => by
  simp only [List.mem_cons, List.not_mem_nil, or_false] at he
  rcases he with rfl | rfl
  · exact (Shp.int _).mono (by decide)
  · exact Shp.tup fun e he => by
      obtain ⟨t, _, rfl⟩ := List.mem_map.mp he
      exact shp_encT t
theorem rd__law_full {K : PySem.W.Frag} {C_CutError C_NoWeb C_NoText C_TooGreat : Addr} : ∀ as ms R, Φ__law_full as ms R →
    S K (t__law_full K C_CutError C_NoWeb C_NoText C_TooGreat Φ__law_stream Φ__law_take Φ__law_weight Φ__law_refused Φ__law_text Φ_read_web) (as ++ List.replicate (7 - as.length) .u) ms (fin R) := by
  rintro as ms R ⟨a, rfl, v, rfl, r⟩
  unfold t__law_full
  refine s_new (e_call (ea_cons (e_var rfl (ea_cons (e_int (ea_nil ⟨_, _, rfl, v, 172, rfl, rfl, by decide, fun xs => ⟨_, rfl, ?_⟩⟩))))))
  have hkl : ms.length < (ms ++ [MD.l (xs.map .int)]).length := by simp
  refine s_seq (s_asg (e_op (e_call (ea_cons (e_varm rfl (ea_nil ⟨_, rfl, ms.length, xs, rfl, List.getElem?_concat_length, fun v1 xs1 => ?_⟩))))))
  rw [set1]
  refine e_int (rr_I ⟨_, _, rfl, rfl, by decide, ?_⟩)
  obtain ⟨lo, hlo, elo⟩ := fm_ex v1 (m := 171) (by decide)
  rw [elo]
  refine s_new (e_lst (ea_nil ⟨[], rfl, Nat.zero_le _, _, rfl, ?_⟩))
  have n1 : (ms ++ [MD.l (xs1.map .int)]).length = ms.length + 1 := by simp
  rw [n1]
  have g1 : ∀ (ys : List Int) (m2 : MD), (ms ++ [MD.l (ys.map .int)] ++ [m2])[ms.length]? = some (.l (ys.map .int)) := fun ys m2 => by
    rw [List.append_assoc, List.getElem?_append_right (Nat.le_refl _), Nat.sub_self]
    rfl
  have s1 : ∀ (ys : List Int) (m2 x : MD), (ms ++ [MD.l (ys.map .int)] ++ [m2]).set ms.length x = ms ++ [x] ++ [m2] := fun ys m2 x => by
    rw [List.append_assoc, List.set_append_right _ _ (Nat.le_refl _), Nat.sub_self, List.append_assoc]
    rfl
  have g2 : ∀ (ys : List Int) (es : List PyData), (ms ++ [MD.l (ys.map .int)] ++ [MD.l es])[ms.length + 1]? = some (.l es) := fun ys es => by
    rw [List.getElem?_append_right (by simp)]
    simp
  have s2 : ∀ (ys : List Int) (m2 x : MD), (ms ++ [MD.l (ys.map .int)] ++ [m2]).set (ms.length + 1) x = ms ++ [MD.l (ys.map .int)] ++ [x] := fun ys m2 x => by
    rw [List.set_append_right _ _ (by simp)]
    simp
  refine s_seq (s_forR (js := [4]) (ea_cons (e_int (ea_nil ?_))))
  refine ⟨19, rfl, ⟨by omega, by omega⟩, fun i ds' ms' => ∃ (ts : List Tie) (ys : List Int) (o o2 : SD), ds' = [.d (.int v), .m ms.length, .d (.int lo), .m (ms.length + 1), o, o2, .u] ∧ ms' = ms ++ [.l (ys.map .int)] ++ [.l (ts.map encT)] ∧ (∀ t ∈ ts, TieOk 19 t ∧ Sm t ∧ t.1 < i) ∧ Rise ts ∧ ts.length = fullN i, ⟨[], xs1, .u, .u, rfl, rfl, by simp, List.Pairwise.nil, rfl⟩, ?_, ?_⟩
  · rintro i ds' ms' hi ⟨ts, ys, o, o2, rfl, rfl, ht, hr, hn⟩
    have hi3 : i < 19 := by simpa using hi
    refine eg_name ?_
    refine s_forR2 (js := [5]) (ea_cons (e_op (e_var rfl (e_int (rr_I0 ⟨_, _, rfl, rfl, ea_cons (e_int (ea_nil ?_))⟩)))))
    have ei : (i : Int) + 1 = ((i + 1 : Nat) : Int) := by omega
    rw [ei]
    refine ⟨i + 1, 19, rfl, ⟨by omega, by omega, by omega, by omega⟩, fun j ds' ms' => ∃ (ts : List Tie) (ys : List Int) (o2 : SD), ds' = [.d (.int v), .m ms.length, .d (.int lo), .m (ms.length + 1), .d (.int i), o2, .u] ∧ ms' = ms ++ [.l (ys.map .int)] ++ [.l (ts.map encT)] ∧ (∀ t ∈ ts, TieOk 19 t ∧ Sm t ∧ (t.1 < i ∨ (t.1 = i ∧ t.2.1 < i + 1 + j))) ∧ Rise ts ∧ ts.length = fullN i + j, ⟨ts, ys, o2, rfl, rfl, fun t h => ⟨(ht t h).1, (ht t h).2.1, .inl (ht t h).2.2⟩, hr, hn⟩, ?_, ?_⟩
    · rintro j ds' ms' hj ⟨ts, ys, o3, rfl, rfl, ht, hr, hn⟩
      have hj2 : i + 1 + j < 19 := by omega
      have cap : fullN i + j < 10000 := by
        have : ∀ i < 19, fullN i ≤ 200 := by decide +kernel
        have := this i hi3
        omega
      refine eg_name ?_
      refine s_drop (e_append (e_varm rfl ⟨_, rfl, ?_⟩))
      refine e_tup (ea_cons (e_var rfl (ea_cons (e_var rfl (ea_cons (e_call (ea_cons (e_call (ea_cons (e_varm rfl (ea_nil ⟨_, rfl, ms.length, ys, rfl, g1 _ _, fun z ys2 => ?_⟩)))))))))))
      rw [s1]
      refine ea_nil ⟨_, rfl, z, rfl, fun w ww w1 w2 => ?_⟩
      refine ea_nil ⟨[_, _, _], rfl, Nat.le_of_ble_eq_true rfl, ?_⟩
      refine ⟨_, _, rfl, g2 _ _, by rw [List.length_map]; omega, ?_⟩
      rw [s2]
      refine ⟨ts ++ [(i, i + 1 + j, w)], ys2, _, rfl, ?_, ?_, ?_, ?_⟩
      · rw [List.map_append]
        rfl
      · intro t h
        rcases List.mem_append.mp h with h | h
        · obtain ⟨h1, h2, h3⟩ := ht t h
          exact ⟨h1, h2, by omega⟩
        · simp at h
          subst h
          exact ⟨⟨by show i < i + 1 + j; omega, hj2, ww⟩, ⟨w1, w2⟩, .inr ⟨rfl, by show i + 1 + j < i + 1 + (j + 1); omega⟩⟩
      · refine rise_snoc hr fun x hx => ?_
        have := (ht x hx).2.2
        show x.1 < i ∨ (x.1 = i ∧ x.2.1 < i + 1 + j)
        omega
      · rw [List.length_append, hn]
        rfl
    · rintro ds' ms' ⟨ts, ys, o3, rfl, rfl, ht, hr, hn⟩
      refine ⟨ts, ys, _, _, rfl, rfl, fun t h => ?_, hr, ?_⟩
      · obtain ⟨h1, h2, h3⟩ := ht t h
        exact ⟨h1, h2, by omega⟩
      · rw [hn, fullN_step]
        omega
  · rintro ds' ms' ⟨ts, ys, o, o2, rfl, rfl, ht, hr, hn⟩
    have n171 : ts.length = 171 := by rw [hn]; decide
    have sm : ∀ t ∈ ts, SmT t := fun t h => smT_of (ht t h).1 (ht t h).2.1 (by decide)
    have no : NoWebS (.str (webS 19 ts)) := ⟨fun z e => by
      injection e with e
      have := webS_sm (m := 19) (by decide) sm
      rw [← e]
      omega, notWeb (by decide) sm fun z => by have := z.1.len; omega⟩
    refine s_seq (s_if (et_not (et_B (e_call (ea_cons (e_call (ea_cons (e_tup (ea_cons (e_int (ea_cons (e_cb (ea_cons (e_varm rfl (ea_nil (rc_tuple ⟨_, ts.map encT, rfl, .inl (.m (g2 _ _)), ?_⟩))))))))))))))))
    refine ea_nil ⟨[_, _], rfl, Nat.le_of_ble_eq_true rfl, ea_nil ⟨_, rfl, 19, ts, rfl, by decide, by omega, sm, ea_nil ⟨_, rfl, _, rfl, no, true, rfl, nofun, fun _ => s_next ?_⟩⟩⟩
    have lt : lo < 171 := by omega
    refine s_seq (s_asg (e_tup (ea_cons (e_int (ea_cons (e_cb (ea_cons (e_op (e_slL (e_varm rfl (eo_none (eo_some (e_var rfl ⟨_, rfl, _, .m (g2 _ _), ?_⟩)))))))))))))
    rw [cut_hd]
    refine e_slL (e_varm rfl (eo_some (e_op (e_var rfl (e_int (rr_I0 ⟨_, _, rfl, rfl, _, rfl, eo_none ⟨_, .m (g2 _ _), ?_⟩⟩))))))
    rw [show (lo : Int) + 1 = ((lo + 1 : Nat) : Int) by omega, cut_tl]
    refine rr_cat ⟨_, _, rfl, rfl, by rw [List.length_take, List.length_drop, List.length_map]; omega, ?_⟩
    rw [← List.map_take, ← List.map_drop, ← List.map_append]
    have sub : (ts.take lo ++ ts.drop (lo + 1)).Sublist ts := by
      have h := List.Sublist.append (List.Sublist.refl (ts.take lo)) (List.drop_sublist_drop_left ts (Nat.le_succ lo))
      rw [List.take_append_drop] at h
      exact h
    have ok : ∀ t ∈ ts.take lo ++ ts.drop (lo + 1), TieOk 19 t ∧ Sm t := fun t h => ⟨(ht t (sub.subset h)).1, (ht t (sub.subset h)).2.1⟩
    have ln : (ts.take lo ++ ts.drop (lo + 1)).length = 170 := by rw [List.length_append, List.length_take, List.length_drop]; omega
    have rs := rise_of_sub sub hr
    generalize ts.take lo ++ ts.drop (lo + 1) = us at *
    have wk : WebOk 19 us := ⟨fun t h => (ok t h).1, by omega, by decide, by decide⟩
    refine ea_nil (rc_tuple ⟨_, us.map encT, rfl, .inl (.d _), ea_nil ⟨[_, _], rfl, Nat.le_of_ble_eq_true rfl, ?_⟩⟩)
    have su : ∀ t ∈ us, SmT t := fun t h => smT_of (ok t h).1 (ok t h).2 (by decide)
    have w := webS_sm (m := 19) (by decide) su
    refine s_ret (e_op (e_callX0 (ea_cons (e_call (ea_cons (e_var rfl (ea_nil ⟨_, rfl, 19, us, rfl, by decide, by omega, su, ?_⟩)))))))
    refine ea_nil ⟨_, rfl, _, rfl, fun z e => by injection e with e; rw [← e]; omega, fun k vs q => ?_, fun q => absurd ⟨rfl, wk, rs, fun t h => (ok t h).2⟩ (q 19 us)⟩
    obtain ⟨e, hw, hr2, hs2⟩ := q
    injection e with e
    obtain ⟨rfl, rfl⟩ := webS_inj (by decide) hw.m60 su (fun t h => smT_of (hw.all t h) (hs2 t h) hw.m60) e
    have so := (shp_webT 19 us).ok (n := 4) (by decide)
    refine e_var rfl (rr_eq ⟨_, _, .d _, .d _, so, so, ?_⟩)
    have ev : PyData.eqv (encW 19 us) (.tuple [.int 19, .tuple (us.map encT)]) = true := eqv_self (shp_webT 19 us)
    rw [ev]
    exact ⟨ms ++ [MD.l (ys.map .int)], _, rfl, by simp, ms, _, rfl, rfl, r⟩

def Φ_law : Ph := ph1 fun a ms R => ∃ ns : List Int, a = .s ns ∧ ns.length ≤ 63 ∧ ms = [] ∧ R (.d (.bool true)) ms
theorem len_law : ∀ as ms R, Φ_law as ms R → as.length = 1 := ph1_len
theorem law_at {K : PySem.W.Frag} {H : Hp} {a : Addr} {ns : List Int} (hl : ns.length ≤ 63) (hO : Only H) (hS : SqL K H a (ns.map V.int)) : SpD K Φ_law [.ref a] H (fun v _ => v = .bl true) fun _ _ _ => False :=
  ⟨[], [], [], [.s ns], fun s _ => s = .d (.bool true), at_nil, ⟨.ref a, [], rfl, at_door hO hS, rfl⟩, ⟨_, rfl, ns, rfl, hl, rfl, rfl⟩, fun s v H' ms' w o e => by
    subst e
    obtain ⟨_, h⟩ := o
    cases h
    rfl⟩
theorem noS {x : PyData} (h : ∀ z, x ≠ .str z) : NoWebS x := ⟨fun z e => absurd e (h z), fun k ts w => h _ w.1⟩
theorem one_web : IsWebS (.str "1") 1 [] := ⟨congrArg PyData.str (by decide +kernel), ⟨nofun, by decide, by decide, by decide⟩, List.Pairwise.nil, nofun⟩
theorem far_web : IsWebS (.str "2 0-1=-1000000000/999") 2 [(0, 1, (-1000000000, 999))] := ⟨congrArg PyData.str (by decide +kernel), ⟨fun t ht => by
    rw [List.mem_singleton.mp ht]
    exact ⟨by decide, by decide, ⟨⟨by show (0 : Int) < 999; decide, by show Int.gcd (-1000000000) 999 = 1; decide +kernel⟩, Bd.of (by show (-1000000000 : Int).natAbs < _; decide), Bd.of (by show (999 : Int).natAbs < _; decide)⟩⟩, by decide, by decide, by decide⟩, by simp [Rise], fun t ht => by
    rw [List.mem_singleton.mp ht]
    exact ⟨by show (-1000000000 : Int).natAbs ≤ 1000000000; decide, by show (999 : Int) ≤ 1000; decide⟩⟩
theorem mm (L : Int) : ∃ n : Nat, n ≤ 12 ∧ (if (if L < 12 then L else 12) > 4 then (if L < 12 then L else 12) else 4) = (n : Int) := by
  refine ⟨(if (if L < 12 then L else 12) > 4 then (if L < 12 then L else 12) else 4).toNat, ?_, ?_⟩ <;> repeat' split
  all_goals omega
theorem web_same {y : Str} {k m : Nat} {ts us : List Tie} (h1 : IsWebS (.str y) k ts) (h2 : IsWebS (.str y) m us) : k = m ∧ ts = us := by
  obtain ⟨e1, w1, r1, s1⟩ := h1
  obtain ⟨e2, w2, r2, s2⟩ := h2
  injection e1 with e1
  injection e2 with e2
  exact webS_inj w1.m60 w2.m60 (fun t h => smT_of (w1.all t h) (s1 t h) w1.m60) (fun t h => smT_of (w2.all t h) (s2 t h) w2.m60) (e1.symm.trans e2)
theorem rd_law {K : PySem.W.Frag} {C_CutError C_NoWeb C_NoText C_TooGreat : Addr} : ∀ as ms R, Φ_law as ms R →
    S K (t_law K C_CutError C_NoWeb C_NoText C_TooGreat Φ__law_stream Φ__law_cell_at Φ__law_web Φ__law_told Φ__law_text Φ__law_spoiled Φ__law_refused Φ__law_ties_changed Φ__law_none Φ__law_take Φ__law_full Φ_read_web) (as ++ List.replicate (6 - as.length) .u) ms (fin R) := by
  rintro as ms R ⟨a, rfl, ns, rfl, hns, rfl, r⟩
  have nlt : (TL.tl ("\n" : Str)) = [10] := by decide +kernel
  have nll : ("\n" : Str).length = 1 := by rw [TL.len_tl, nlt]; rfl
  unfold t_law
  refine s_seq (s_forR (js := [1]) (ea_cons (e_cb (ea_cons (e_int (ea_cons (e_cb (ea_cons (e_int (ea_cons (e_cb (ea_cons (e_vars rfl (ea_nil (rc_len ⟨_, _, rfl, .inl (.s ns), ?_⟩)))))))))))))))
  refine ea_nil (rc_min ⟨_, _, rfl, ea_nil (rc_max ⟨_, _, rfl, ea_nil ?_⟩)⟩)
  obtain ⟨n, hn, en⟩ := mm ((ns.map PyData.int).length : Int)
  rw [en]
  refine ⟨n, rfl, ⟨by omega, by omega⟩, fun k ds' ms' => ∃ o1 o2 o3 o4 : SD, ds' = [.s ns, o1, o2, o3, o4, .u] ∧ ms' = [], ⟨.u, .u, .u, .u, rfl, rfl⟩, ?_, ?_⟩
  · rintro k ds' ms' hk ⟨o1, o2, o3, o4, rfl, rfl⟩
    refine eg_name ?_
    refine s_new (e_call (ea_cons (e_op (e_call (ea_cons (e_vars rfl (ea_cons (e_var rfl (ea_nil ⟨_, _, rfl, ns, k, rfl, rfl, fun c => ?_⟩)))))))))
    refine e_var rfl (rr_I0 ⟨_, _, rfl, rfl, ea_cons (e_int (ea_nil ⟨_, _, rfl, _, 50, rfl, rfl, by decide, fun xs => ⟨_, rfl, ?_⟩⟩))⟩)
    refine s_seq (s_asg (e_call (ea_cons (e_varm rfl (ea_cons (e_int (ea_nil ⟨_, _, rfl, 0, xs, 9, rfl, rfl, rfl, by decide, by decide, fun m ts xs1 m9 hw hr hs h81 => ?_⟩)))))))
    have sm : ∀ t ∈ ts, SmT t := fun t ht => smT_of (hw.all t ht) (hs t ht) hw.m60
    have wl := webS_sm hw.m60 sm
    have big : ∀ {a b : Nat}, a ≤ 10000 → b ≤ 10000 → a + b ≤ sizeLine := fun ha hb => Nat.le_trans (Nat.add_le_add ha hb) (by decide)
    refine s_seq (s_if (et_or (et_not (et_B (e_call (ea_cons (e_call (ea_cons (e_call (ea_cons (e_var rfl (ea_nil ⟨_, rfl, m, ts, rfl, hw.m60, by omega, sm, ?_⟩))))))))))))
    refine ea_cons (e_varm rfl (ea_nil ⟨_, _, rfl, _, 0, xs1, rfl, rfl, rfl, by omega, fun y xs2 hy => ?_⟩))
    refine ea_nil ⟨_, rfl, y, rfl, hy, true, rfl, nofun, fun _ => ?_⟩
    refine et_not (et_B (e_call (ea_cons (e_call (ea_cons (e_var rfl (ea_nil ⟨_, rfl, m, ts, rfl, hw.m60, by omega, sm, ?_⟩)))))))
    refine ea_nil ⟨_, rfl, _, rfl, by omega, true, rfl, nofun, fun _ => s_next ?_⟩
    refine s_seq (s_if (et_or (et_not (et_B (e_call (ea_cons (e_op (e_call (ea_cons (e_var rfl (ea_nil ⟨_, rfl, m, ts, rfl, hw.m60, by omega, sm, ?_⟩)))))))))))
    refine e_str (rr_addS ⟨_, _, rfl, rfl, big (by omega) (by rw [nll]; decide), ?_⟩)
    refine ea_nil ⟨_, rfl, _, rfl, ⟨fun z e => by injection e with e; rw [← e, app_len, nll]; omega, signWeb (c := 10) (by rw [TL.tl_append, nlt]; simp) (by decide) (by decide)⟩, true, rfl, nofun, fun _ => ?_⟩
    refine et_not (et_B (e_call (ea_cons (e_op (e_str (e_call (ea_cons (e_var rfl (ea_nil ⟨_, rfl, m, ts, rfl, hw.m60, by omega, sm, ?_⟩)))))))))
    refine rr_addS ⟨_, _, rfl, rfl, big (by rw [nll]; decide) (by omega), ?_⟩
    refine ea_nil ⟨_, rfl, _, rfl, ⟨fun z e => by injection e with e; rw [← e, app_len, nll]; omega, signWeb (c := 10) (by rw [TL.tl_append, nlt]; simp) (by decide) (by decide)⟩, true, rfl, nofun, fun _ => s_next ?_⟩
    refine s_new (e_call (ea_cons (e_op (e_op (e_call (ea_cons (e_vars rfl (ea_cons (e_var rfl (ea_nil ⟨_, _, rfl, ns, k, rfl, rfl, fun c2 => ?_⟩))))))))))
    refine e_op (e_int (e_var rfl (rr_I ⟨_, _, rfl, rfl, .inl ⟨by decide, by decide⟩, ?_⟩)))
    refine rr_I0 ⟨_, _, rfl, rfl, e_int (rr_I0 ⟨_, _, rfl, rfl, ea_cons (e_int (ea_nil ⟨_, _, rfl, _, 3, rfl, rfl, by decide, fun ys => ⟨_, rfl, ?_⟩⟩))⟩)⟩
    refine s_if (et_or (et_not (et_B (e_call (ea_cons (e_call (ea_cons (e_call (ea_cons (e_varm rfl (ea_nil ⟨_, rfl, 1, ys, rfl, rfl, fun v3 ys2 => ?_⟩)))))))))))
    refine ea_nil ⟨_, rfl, v3, rfl, fun y hy => ?_⟩
    refine ea_nil ⟨_, rfl, _, rfl, ⟨fun z e => by injection e with e; rw [← e]; exact hy.1, hy.2⟩, true, rfl, nofun, fun _ => ?_⟩
    refine et_not (et_B (e_call (ea_cons (e_call (ea_cons (e_var rfl (ea_cons (e_varm rfl (ea_nil ⟨_, _, rfl, m, ts, 1, ys2, rfl, rfl, rfl, hw, hr, hs, h81, fun y ys3 hy => ?_⟩)))))))))
    refine ea_nil ⟨_, rfl, _, rfl, ⟨fun z e => by injection e with e; rw [← e]; exact hy.1, hy.2⟩, true, rfl, nofun, fun _ => s_next ?_⟩
    exact ⟨[_], _, rfl, rfl, [], _, rfl, rfl, _, _, _, _, rfl, rfl⟩
  · rintro ds' ms' ⟨o1, o2, o3, o4, rfl, rfl⟩
    refine s_seq (s_if (et_not (et_B (e_call (ea_cons (e_call (ea_cons (e_vars rfl (ea_cons (e_int (ea_nil ⟨_, _, rfl, ns, 0, rfl, rfl, fun c => ?_⟩)))))))))))
    refine ea_nil ⟨_, rfl, c, rfl, true, rfl, nofun, fun _ => s_next ?_⟩
    refine s_seq (s_forL (js := [5]) (e_lst (ea_cons (e_non (ea_cons (e_int (ea_cons (e_bl (ea_cons (e_lst (ea_cons (e_str (ea_nil ⟨[_], rfl, Nat.le_of_ble_eq_true rfl, ?_⟩)))))))))))))
    refine ea_cons (e_tup (ea_cons (e_str (ea_cons (e_str (ea_nil ⟨[_, _], rfl, Nat.le_of_ble_eq_true rfl, ?_⟩))))))
    refine ea_cons (e_tup (ea_cons (e_int (ea_cons (e_tup (ea_cons (e_tup (ea_cons (e_int (ea_cons (e_int (ea_cons (e_tup (ea_cons (e_int (ea_cons (e_int (ea_nil ⟨[_, _], rfl, Nat.le_of_ble_eq_true rfl, ?_⟩))))))))))))))))))
    refine ea_nil ⟨[_, _, _], rfl, Nat.le_of_ble_eq_true rfl, ea_nil ⟨[_], rfl, Nat.le_of_ble_eq_true rfl, ea_nil ⟨[_, _], rfl, Nat.le_of_ble_eq_true rfl, ?_⟩⟩⟩
    refine ea_cons (e_dnewE ?_)
    refine ea_cons (e_disp1 (e_str ⟨.inr "2", rfl, e_str ?_⟩))
    refine ⟨_, rfl, ?_⟩
    refine ea_cons (e_tup (ea_cons (e_int (ea_cons (e_tup (ea_nil ⟨[], rfl, Nat.zero_le _, ea_nil ⟨[_, _], rfl, Nat.le_of_ble_eq_true rfl, ?_⟩⟩))))))
    refine ea_nil ⟨[_, _, _, _, _, _, _, _, _], rfl, Nat.le_of_ble_eq_true rfl, ?_⟩
    refine ⟨_, .d _, fun k ds' ms' => ∃ o5 : SD, ds' = [.s ns, o1, o2, o3, o4, o5] ∧ ms' = [], ⟨.u, rfl, rfl⟩, ?_, ?_⟩
    · rintro i e ds' ms' he ⟨o5, rfl, rfl⟩
      have no : NoWebS e := by
        have := List.mem_of_getElem? he
        simp only [List.mem_cons, List.not_mem_nil, or_false] at this
        rcases this with rfl | rfl | rfl | rfl | rfl | rfl | rfl | rfl | rfl <;> exact noS (fun z => nofun)
      refine eg_name ?_
      exact s_if (et_not (et_B (e_call (ea_cons (e_var rfl (ea_nil ⟨_, rfl, e, rfl, no, true, rfl, nofun, fun _ => s_next ⟨_, rfl, rfl⟩⟩))))))
    · rintro ds' ms' ⟨o5, rfl, rfl⟩
      refine s_ret (e_and (e_op (e_callX0 (ea_cons (e_str (ea_nil ⟨_, rfl, _, rfl, fun z e => by injection e with e; rw [← e]; decide +kernel, fun k ts w => ?_, fun q => absurd one_web (q 1 [])⟩))))))
      obtain ⟨rfl, rfl⟩ := web_same w one_web
      refine e_tup (ea_cons (e_int (ea_cons (e_tup (ea_nil ⟨[], rfl, Nat.zero_le _, ea_nil ⟨[_, _], rfl, Nat.le_of_ble_eq_true rfl, ?_⟩⟩)))))
      refine rr_eq ⟨_, _, .d _, .d _, (shp_webT 1 []).ok (by decide), by decide +kernel, true, congrArg SD.d (congrArg PyData.bool (by decide +kernel)), fun _ => ?_, nofun⟩
      refine e_op (e_callX0 (ea_cons (e_str (ea_nil ⟨_, rfl, _, rfl, fun z e => by injection e with e; rw [← e]; decide +kernel, fun k ts w => ?_, fun q => absurd far_web (q _ _)⟩))))
      obtain ⟨rfl, rfl⟩ := web_same w far_web
      refine e_tup (ea_cons (e_int (ea_cons (e_tup (ea_cons (e_tup (ea_cons (e_int (ea_cons (e_int (ea_cons (e_tup (ea_cons (e_un (e_int (ru_I ⟨_, rfl, ?_⟩))))))))))))))))
      refine ea_cons (e_int (ea_nil ⟨[_, _], rfl, Nat.le_of_ble_eq_true rfl, ea_nil ⟨[_, _, _], rfl, Nat.le_of_ble_eq_true rfl, ea_nil ⟨[_], rfl, Nat.le_of_ble_eq_true rfl, ea_nil ⟨[_, _], rfl, Nat.le_of_ble_eq_true rfl, ?_⟩⟩⟩⟩))
      refine rr_eq ⟨_, _, .d _, .d _, (shp_webT 2 _).ok (by decide), by decide +kernel, ?_⟩
      have e : PyData.eqv (encW 2 [(0, 1, (-1000000000, 999))]) (.tuple [.int 2, .tuple [.tuple [.int 0, .int 1, .tuple [.int (-1000000000), .int 999]]]]) = true := by decide +kernel
      rw [show PyData.bool (PyData.eqv _ _) = .bool true from congrArg PyData.bool e]
      exact r

theorem ok_is_whole {Pg : Program} {w : World} {K : PySem.W.Frag} {mg : Str → Option Value} {base : Heap} {f : Addr} {fd : FuncData} (F : Fun K "is_whole" "is_whole" s_is_whole f fd) (hm : mg "is_whole" = some (.ref f)) (B : ∀ x, x ∈ blt → mg x = none) (cs : Csts mg) : Kn Pg w K mg base "is_whole" 1 ["thing"] Φ_is_whole :=
  ⟨f, fd, ok_of F sc_is_whole len_is_whole (by decide) (fun cdv A outer s H E hr => ⟨_, dv_is_whole hr B cs, rd_is_whole⟩), hm, F.kp, F.binds fun _ _ _ _ _ _ us hl => match us, hl with | [_], _ => rfl⟩
theorem ok_is_row {Pg : Program} {w : World} {K : PySem.W.Frag} {mg : Str → Option Value} {base : Heap} {f : Addr} {fd : FuncData} (F : Fun K "is_row" "is_row" s_is_row f fd) (hm : mg "is_row" = some (.ref f)) (B : ∀ x, x ∈ blt → mg x = none) (cs : Csts mg) : Kn Pg w K mg base "is_row" 1 ["thing"] Φ_is_row :=
  ⟨f, fd, ok_of F sc_is_row len_is_row (by decide) (fun cdv A outer s H E hr => ⟨_, dv_is_row hr B cs, rd_is_row⟩), hm, F.kp, F.binds fun _ _ _ _ _ _ us hl => match us, hl with | [_], _ => rfl⟩
theorem ok_is_triple {Pg : Program} {w : World} {K : PySem.W.Frag} {mg : Str → Option Value} {base : Heap} {f : Addr} {fd : FuncData} (F : Fun K "is_triple" "is_triple" s_is_triple f fd) (hm : mg "is_triple" = some (.ref f)) (B : ∀ x, x ∈ blt → mg x = none) (cs : Csts mg) (g_is_row : Kn Pg w K mg base "is_row" 1 ["thing"] Φ_is_row) : Kn Pg w K mg base "is_triple" 2 ["thing"] Φ_is_triple :=
  ⟨f, fd, ok_of F sc_is_triple len_is_triple (by decide) (fun cdv A outer s H E hr => ⟨_, dv_is_triple hr B cs g_is_row, rd_is_triple⟩), hm, F.kp, F.binds fun _ _ _ _ _ _ us hl => match us, hl with | [_], _ => rfl⟩
theorem ok_is_number_of {Pg : Program} {w : World} {K : PySem.W.Frag} {mg : Str → Option Value} {base : Heap} {f : Addr} {fd : FuncData} (F : Fun K "is_number_of" "is_number_of" s_is_number_of f fd) (hm : mg "is_number_of" = some (.ref f)) (B : ∀ x, x ∈ blt → mg x = none) (cs : Csts mg) (g_is_whole : Kn Pg w K mg base "is_whole" 1 ["thing"] Φ_is_whole) : Kn Pg w K mg base "is_number_of" 2 ["many", "thing"] Φ_is_number_of :=
  ⟨f, fd, ok_of F sc_is_number_of len_is_number_of (by decide) (fun cdv A outer s H E hr => ⟨_, dv_is_number_of hr B cs g_is_whole, rd_is_number_of⟩), hm, F.kp, F.binds fun _ _ _ _ _ _ us hl => match us, hl with | [_, _], _ => rfl⟩
theorem ok_are_unlike_points {Pg : Program} {w : World} {K : PySem.W.Frag} {mg : Str → Option Value} {base : Heap} {f : Addr} {fd : FuncData} (F : Fun K "are_unlike_points" "are_unlike_points" s_are_unlike_points f fd) (hm : mg "are_unlike_points" = some (.ref f)) (B : ∀ x, x ∈ blt → mg x = none) (cs : Csts mg) (g_is_number_of : Kn Pg w K mg base "is_number_of" 2 ["many", "thing"] Φ_is_number_of) : Kn Pg w K mg base "are_unlike_points" 3 ["many", "one", "other"] Φ_are_unlike_points :=
  ⟨f, fd, ok_of F sc_are_unlike_points len_are_unlike_points (by decide) (fun cdv A outer s H E hr => ⟨_, dv_are_unlike_points hr B cs g_is_number_of, rd_are_unlike_points⟩), hm, F.kp, F.binds fun _ _ _ _ _ _ us hl => match us, hl with | [_, _, _], _ => rfl⟩
theorem ok_common_divisor {Pg : Program} {w : World} {K : PySem.W.Frag} {mg : Str → Option Value} {base : Heap} {f : Addr} {fd : FuncData} (F : Fun K "common_divisor" "common_divisor" s_common_divisor f fd) (hm : mg "common_divisor" = some (.ref f)) (B : ∀ x, x ∈ blt → mg x = none) (cs : Csts mg) : Kn Pg w K mg base "common_divisor" 1 ["one", "other"] Φ_common_divisor :=
  ⟨f, fd, ok_of F sc_common_divisor len_common_divisor (by decide) (fun cdv A outer s H E hr => ⟨_, dv_common_divisor hr B cs, rd_common_divisor⟩), hm, F.kp, F.binds fun _ _ _ _ _ _ us hl => match us, hl with | [_, _], _ => rfl⟩
theorem ok_is_fraction {Pg : Program} {w : World} {K : PySem.W.Frag} {mg : Str → Option Value} {base : Heap} {f : Addr} {fd : FuncData} (F : Fun K "is_fraction" "is_fraction" s_is_fraction f fd) (hm : mg "is_fraction" = some (.ref f)) (B : ∀ x, x ∈ blt → mg x = none) (cs : Csts mg) (g_is_whole : Kn Pg w K mg base "is_whole" 1 ["thing"] Φ_is_whole) (g_common_divisor : Kn Pg w K mg base "common_divisor" 1 ["one", "other"] Φ_common_divisor) : Kn Pg w K mg base "is_fraction" 2 ["thing"] Φ_is_fraction :=
  ⟨f, fd, ok_of F sc_is_fraction len_is_fraction (by decide) (fun cdv A outer s H E hr => ⟨_, dv_is_fraction hr B cs g_is_whole g_common_divisor, rd_is_fraction⟩), hm, F.kp, F.binds fun _ _ _ _ _ _ us hl => match us, hl with | [_], _ => rfl⟩
theorem ok_is_weight {Pg : Program} {w : World} {K : PySem.W.Frag} {mg : Str → Option Value} {base : Heap} {f : Addr} {fd : FuncData} (F : Fun K "is_weight" "is_weight" s_is_weight f fd) (hm : mg "is_weight" = some (.ref f)) (B : ∀ x, x ∈ blt → mg x = none) (cs : Csts mg) (g_is_fraction : Kn Pg w K mg base "is_fraction" 2 ["thing"] Φ_is_fraction) : Kn Pg w K mg base "is_weight" 3 ["thing"] Φ_is_weight :=
  ⟨f, fd, ok_of F sc_is_weight len_is_weight (by decide) (fun cdv A outer s H E hr => ⟨_, dv_is_weight hr B cs g_is_fraction, rd_is_weight⟩), hm, F.kp, F.binds fun _ _ _ _ _ _ us hl => match us, hl with | [_], _ => rfl⟩
theorem ok_told_tie {Pg : Program} {w : World} {K : PySem.W.Frag} {mg : Str → Option Value} {base : Heap} {f : Addr} {fd : FuncData} (F : Fun K "told_tie" "told_tie" s_told_tie f fd) (hm : mg "told_tie" = some (.ref f)) (B : ∀ x, x ∈ blt → mg x = none) (cs : Csts mg) (g_is_triple : Kn Pg w K mg base "is_triple" 2 ["thing"] Φ_is_triple) (g_is_weight : Kn Pg w K mg base "is_weight" 3 ["thing"] Φ_is_weight) (g_are_unlike_points : Kn Pg w K mg base "are_unlike_points" 3 ["many", "one", "other"] Φ_are_unlike_points) : Kn Pg w K mg base "told_tie" 4 ["many", "thing"] Φ_told_tie :=
  ⟨f, fd, ok_of F sc_told_tie len_told_tie (by decide) (fun cdv A outer s H E hr => ⟨_, dv_told_tie hr B cs g_is_triple g_is_weight g_are_unlike_points, rd_told_tie⟩), hm, F.kp, F.binds fun _ _ _ _ _ _ us hl => match us, hl with | [_, _], _ => rfl⟩
theorem ok_made_web {Pg : Program} {w : World} {K : PySem.W.Frag} {mg : Str → Option Value} {base : Heap} {f : Addr} {fd : FuncData} (F : Fun K "made_web" "made_web" s_made_web f fd) (hm : mg "made_web" = some (.ref f)) (B : ∀ x, x ∈ blt → mg x = none) (cs : Csts mg) {C_CutError C_NoWeb C_NoText C_TooGreat : Addr} (cl : Cls K mg C_CutError C_NoWeb C_NoText C_TooGreat) (g_is_whole : Kn Pg w K mg base "is_whole" 1 ["thing"] Φ_is_whole) (g_is_row : Kn Pg w K mg base "is_row" 1 ["thing"] Φ_is_row) (g_told_tie : Kn Pg w K mg base "told_tie" 4 ["many", "thing"] Φ_told_tie) : KnN Pg w K mg base "made_web" 5 ["many", "ties"] C_NoWeb Φ_made_web :=
  ⟨f, fd, okN_of F sc_made_web len_made_web (by decide) (t_made_web K C_CutError C_NoWeb C_NoText C_TooGreat Φ_is_whole Φ_is_row Φ_told_tie) (fun cdv A outer s H E hr => dv_made_web hr B cs cl g_is_whole g_is_row g_told_tie) rd_made_web, hm, F.kp, F.binds fun _ _ _ _ _ _ us hl => match us, hl with | [_, _], _ => rfl⟩
theorem ok_shown_weight {Pg : Program} {w : World} {K : PySem.W.Frag} {mg : Str → Option Value} {base : Heap} {f : Addr} {fd : FuncData} (F : Fun K "shown_weight" "shown_weight" s_shown_weight f fd) (hm : mg "shown_weight" = some (.ref f)) (B : ∀ x, x ∈ blt → mg x = none) (cs : Csts mg) : Kn Pg w K mg base "shown_weight" 1 ["weight"] Φ_shown_weight :=
  ⟨f, fd, ok_of F sc_shown_weight len_shown_weight (by decide) (fun cdv A outer s H E hr => ⟨_, dv_shown_weight hr B cs, rd_shown_weight⟩), hm, F.kp, F.binds fun _ _ _ _ _ _ us hl => match us, hl with | [_], _ => rfl⟩
theorem ok_show_web {Pg : Program} {w : World} {K : PySem.W.Frag} {mg : Str → Option Value} {base : Heap} {f : Addr} {fd : FuncData} (F : Fun K "show_web" "show_web" s_show_web f fd) (hm : mg "show_web" = some (.ref f)) (B : ∀ x, x ∈ blt → mg x = none) (cs : Csts mg) (g_shown_weight : Kn Pg w K mg base "shown_weight" 1 ["weight"] Φ_shown_weight) : Kn Pg w K mg base "show_web" 2 ["web"] Φ_show_web :=
  ⟨f, fd, ok_of F sc_show_web len_show_web (by decide) (fun cdv A outer s H E hr => ⟨_, dv_show_web hr B cs g_shown_weight, rd_show_web⟩), hm, F.kp, F.binds fun _ _ _ _ _ _ us hl => match us, hl with | [_], _ => rfl⟩
theorem ok_read_int {Pg : Program} {w : World} {K : PySem.W.Frag} {mg : Str → Option Value} {base : Heap} {f : Addr} {fd : FuncData} (F : Fun K "read_int" "read_int" s_read_int f fd) (hm : mg "read_int" = some (.ref f)) (B : ∀ x, x ∈ blt → mg x = none) (cs : Csts mg) : Kn Pg w K mg base "read_int" 1 ["word"] Φ_read_int :=
  ⟨f, fd, ok_of F sc_read_int len_read_int (by decide) (fun cdv A outer s H E hr => ⟨_, dv_read_int hr B cs, rd_read_int⟩), hm, F.kp, F.binds fun _ _ _ _ _ _ us hl => match us, hl with | [_], _ => rfl⟩
theorem ok_read_weight {Pg : Program} {w : World} {K : PySem.W.Frag} {mg : Str → Option Value} {base : Heap} {f : Addr} {fd : FuncData} (F : Fun K "read_weight" "read_weight" s_read_weight f fd) (hm : mg "read_weight" = some (.ref f)) (B : ∀ x, x ∈ blt → mg x = none) (cs : Csts mg) (g_read_int : Kn Pg w K mg base "read_int" 1 ["word"] Φ_read_int) : Kn Pg w K mg base "read_weight" 2 ["word"] Φ_read_weight :=
  ⟨f, fd, ok_of F sc_read_weight len_read_weight (by decide) (fun cdv A outer s H E hr => ⟨_, dv_read_weight hr B cs g_read_int, rd_read_weight⟩), hm, F.kp, F.binds fun _ _ _ _ _ _ us hl => match us, hl with | [_], _ => rfl⟩
theorem ok_read_tie {Pg : Program} {w : World} {K : PySem.W.Frag} {mg : Str → Option Value} {base : Heap} {f : Addr} {fd : FuncData} (F : Fun K "read_tie" "read_tie" s_read_tie f fd) (hm : mg "read_tie" = some (.ref f)) (B : ∀ x, x ∈ blt → mg x = none) (cs : Csts mg) (g_read_weight : Kn Pg w K mg base "read_weight" 2 ["word"] Φ_read_weight) (g_read_int : Kn Pg w K mg base "read_int" 1 ["word"] Φ_read_int) : Kn Pg w K mg base "read_tie" 3 ["word"] Φ_read_tie :=
  ⟨f, fd, ok_of F sc_read_tie len_read_tie (by decide) (fun cdv A outer s H E hr => ⟨_, dv_read_tie hr B cs g_read_weight g_read_int, rd_read_tie⟩), hm, F.kp, F.binds fun _ _ _ _ _ _ us hl => match us, hl with | [_], _ => rfl⟩
theorem ok_read_web {Pg : Program} {w : World} {K : PySem.W.Frag} {mg : Str → Option Value} {base : Heap} {f : Addr} {fd : FuncData} (F : Fun K "read_web" "read_web" s_read_web f fd) (hm : mg "read_web" = some (.ref f)) (B : ∀ x, x ∈ blt → mg x = none) (cs : Csts mg) {C_CutError C_NoWeb C_NoText C_TooGreat : Addr} (cl : Cls K mg C_CutError C_NoWeb C_NoText C_TooGreat) (g_made_web : KnN Pg w K mg base "made_web" 5 ["many", "ties"] C_NoWeb Φ_made_web) (g_read_tie : Kn Pg w K mg base "read_tie" 3 ["word"] Φ_read_tie) (g_read_int : Kn Pg w K mg base "read_int" 1 ["word"] Φ_read_int) (g_show_web : Kn Pg w K mg base "show_web" 2 ["web"] Φ_show_web) : KnX Pg w K mg base "read_web" 6 ["text"] C_NoText Φ_read_web :=
  ⟨f, fd, okX_of F sc_read_web len_read_web (by decide) (t_read_web K C_CutError C_NoWeb C_NoText C_TooGreat Φ_made_web Φ_read_tie Φ_read_int Φ_show_web) (fun cdv A outer s H E hr => dv_read_web hr B cs cl g_made_web g_read_tie g_read_int g_show_web) (rd_read_web cl), hm, F.kp, F.binds fun _ _ _ _ _ _ us hl => match us, hl with | [_], _ => rfl⟩
theorem ok__law_cell_at {Pg : Program} {w : World} {K : PySem.W.Frag} {mg : Str → Option Value} {base : Heap} {f : Addr} {fd : FuncData} (F : Fun K "_law_cell_at" "_law_cell_at" s__law_cell_at f fd) (hm : mg "_law_cell_at" = some (.ref f)) (B : ∀ x, x ∈ blt → mg x = none) (cs : Csts mg) : Kn Pg w K mg base "_law_cell_at" 1 ["_law_script", "_law_k"] Φ__law_cell_at :=
  ⟨f, fd, ok_of F sc__law_cell_at len__law_cell_at (by decide) (fun cdv A outer s H E hr => ⟨_, dv__law_cell_at hr B cs, rd__law_cell_at⟩), hm, F.kp, F.binds fun _ _ _ _ _ _ us hl => match us, hl with | [_, _], _ => rfl⟩
theorem ok__law_stream {Pg : Program} {w : World} {K : PySem.W.Frag} {mg : Str → Option Value} {base : Heap} {f : Addr} {fd : FuncData} (F : Fun K "_law_stream" "_law_stream" s__law_stream f fd) (hm : mg "_law_stream" = some (.ref f)) (B : ∀ x, x ∈ blt → mg x = none) (cs : Csts mg) : Kn Pg w K mg base "_law_stream" 1 ["_law_cell", "_law_many"] Φ__law_stream :=
  ⟨f, fd, ok_of F sc__law_stream len__law_stream (by decide) (fun cdv A outer s H E hr => ⟨_, dv__law_stream hr B cs, rd__law_stream⟩), hm, F.kp, F.binds fun _ _ _ _ _ _ us hl => match us, hl with | [_, _], _ => rfl⟩
theorem ok__law_take {Pg : Program} {w : World} {K : PySem.W.Frag} {mg : Str → Option Value} {base : Heap} {f : Addr} {fd : FuncData} (F : Fun K "_law_take" "_law_take" s__law_take f fd) (hm : mg "_law_take" = some (.ref f)) (B : ∀ x, x ∈ blt → mg x = none) (cs : Csts mg) : Kn Pg w K mg base "_law_take" 1 ["_law_xs"] Φ__law_take :=
  ⟨f, fd, ok_of F sc__law_take len__law_take (by decide) (fun cdv A outer s H E hr => ⟨_, dv__law_take hr B cs, rd__law_take⟩), hm, F.kp, F.binds fun _ _ _ _ _ _ us hl => match us, hl with | [_], _ => rfl⟩
theorem ok__law_reduced {Pg : Program} {w : World} {K : PySem.W.Frag} {mg : Str → Option Value} {base : Heap} {f : Addr} {fd : FuncData} (F : Fun K "_law_reduced" "_law_reduced" s__law_reduced f fd) (hm : mg "_law_reduced" = some (.ref f)) (B : ∀ x, x ∈ blt → mg x = none) (cs : Csts mg) : Kn Pg w K mg base "_law_reduced" 1 ["_law_top", "_law_bottom"] Φ__law_reduced :=
  ⟨f, fd, ok_of F sc__law_reduced len__law_reduced (by decide) (fun cdv A outer s H E hr => ⟨_, dv__law_reduced hr B cs, rd__law_reduced⟩), hm, F.kp, F.binds fun _ _ _ _ _ _ us hl => match us, hl with | [_, _], _ => rfl⟩
theorem ok__law_weight {Pg : Program} {w : World} {K : PySem.W.Frag} {mg : Str → Option Value} {base : Heap} {f : Addr} {fd : FuncData} (F : Fun K "_law_weight" "_law_weight" s__law_weight f fd) (hm : mg "_law_weight" = some (.ref f)) (B : ∀ x, x ∈ blt → mg x = none) (cs : Csts mg) (g__law_reduced : Kn Pg w K mg base "_law_reduced" 1 ["_law_top", "_law_bottom"] Φ__law_reduced) : Kn Pg w K mg base "_law_weight" 2 ["_law_number"] Φ__law_weight :=
  ⟨f, fd, ok_of F sc__law_weight len__law_weight (by decide) (fun cdv A outer s H E hr => ⟨_, dv__law_weight hr B cs g__law_reduced, rd__law_weight⟩), hm, F.kp, F.binds fun _ _ _ _ _ _ us hl => match us, hl with | [_], _ => rfl⟩
theorem ok__law_web {Pg : Program} {w : World} {K : PySem.W.Frag} {mg : Str → Option Value} {base : Heap} {f : Addr} {fd : FuncData} (F : Fun K "_law_web" "_law_web" s__law_web f fd) (hm : mg "_law_web" = some (.ref f)) (B : ∀ x, x ∈ blt → mg x = none) (cs : Csts mg) (g__law_take : Kn Pg w K mg base "_law_take" 1 ["_law_xs"] Φ__law_take) (g__law_weight : Kn Pg w K mg base "_law_weight" 2 ["_law_number"] Φ__law_weight) : Kn Pg w K mg base "_law_web" 3 ["_law_xs", "_law_most"] Φ__law_web :=
  ⟨f, fd, ok_of F sc__law_web len__law_web (by decide) (fun cdv A outer s H E hr => ⟨_, dv__law_web hr B cs g__law_take g__law_weight, rd__law_web⟩), hm, F.kp, F.binds fun _ _ _ _ _ _ us hl => match us, hl with | [_, _], _ => rfl⟩
theorem ok__law_text {Pg : Program} {w : World} {K : PySem.W.Frag} {mg : Str → Option Value} {base : Heap} {f : Addr} {fd : FuncData} (F : Fun K "_law_text" "_law_text" s__law_text f fd) (hm : mg "_law_text" = some (.ref f)) (B : ∀ x, x ∈ blt → mg x = none) (cs : Csts mg) : Kn Pg w K mg base "_law_text" 1 ["_law_web_here"] Φ__law_text :=
  ⟨f, fd, ok_of F sc__law_text len__law_text (by decide) (fun cdv A outer s H E hr => ⟨_, dv__law_text hr B cs, rd__law_text⟩), hm, F.kp, F.binds fun _ _ _ _ _ _ us hl => match us, hl with | [_], _ => rfl⟩
theorem ok__law_refused {Pg : Program} {w : World} {K : PySem.W.Frag} {mg : Str → Option Value} {base : Heap} {f : Addr} {fd : FuncData} (F : Fun K "_law_refused" "_law_refused" s__law_refused f fd) (hm : mg "_law_refused" = some (.ref f)) (B : ∀ x, x ∈ blt → mg x = none) (cs : Csts mg) {C_CutError C_NoWeb C_NoText C_TooGreat : Addr} (cl : Cls K mg C_CutError C_NoWeb C_NoText C_TooGreat) (g_read_web : KnX Pg w K mg base "read_web" 6 ["text"] C_NoText Φ_read_web) : Kn Pg w K mg base "_law_refused" 7 ["_law_thing"] Φ__law_refused :=
  ⟨f, fd, ok_of F sc__law_refused len__law_refused (by decide) (fun cdv A outer s H E hr => ⟨_, dv__law_refused hr B cs cl g_read_web, rd__law_refused cl⟩), hm, F.kp, F.binds fun _ _ _ _ _ _ us hl => match us, hl with | [_], _ => rfl⟩
theorem ok__law_is_weight {Pg : Program} {w : World} {K : PySem.W.Frag} {mg : Str → Option Value} {base : Heap} {f : Addr} {fd : FuncData} (F : Fun K "_law_is_weight" "_law_is_weight" s__law_is_weight f fd) (hm : mg "_law_is_weight" = some (.ref f)) (B : ∀ x, x ∈ blt → mg x = none) (cs : Csts mg) (g__law_reduced : Kn Pg w K mg base "_law_reduced" 1 ["_law_top", "_law_bottom"] Φ__law_reduced) : Kn Pg w K mg base "_law_is_weight" 2 ["_law_weight_here"] Φ__law_is_weight :=
  ⟨f, fd, ok_of F sc__law_is_weight len__law_is_weight (by decide) (fun cdv A outer s H E hr => ⟨_, dv__law_is_weight hr B cs g__law_reduced, rd__law_is_weight⟩), hm, F.kp, F.binds fun _ _ _ _ _ _ us hl => match us, hl with | [_], _ => rfl⟩
theorem ok__law_is_web {Pg : Program} {w : World} {K : PySem.W.Frag} {mg : Str → Option Value} {base : Heap} {f : Addr} {fd : FuncData} (F : Fun K "_law_is_web" "_law_is_web" s__law_is_web f fd) (hm : mg "_law_is_web" = some (.ref f)) (B : ∀ x, x ∈ blt → mg x = none) (cs : Csts mg) (g__law_is_weight : Kn Pg w K mg base "_law_is_weight" 2 ["_law_weight_here"] Φ__law_is_weight) : Kn Pg w K mg base "_law_is_web" 3 ["_law_web_here"] Φ__law_is_web :=
  ⟨f, fd, ok_of F sc__law_is_web len__law_is_web (by decide) (fun cdv A outer s H E hr => ⟨_, dv__law_is_web hr B cs g__law_is_weight, rd__law_is_web⟩), hm, F.kp, F.binds fun _ _ _ _ _ _ us hl => match us, hl with | [_], _ => rfl⟩
theorem ok__law_told {Pg : Program} {w : World} {K : PySem.W.Frag} {mg : Str → Option Value} {base : Heap} {f : Addr} {fd : FuncData} (F : Fun K "_law_told" "_law_told" s__law_told f fd) (hm : mg "_law_told" = some (.ref f)) (B : ∀ x, x ∈ blt → mg x = none) (cs : Csts mg) {C_CutError C_NoWeb C_NoText C_TooGreat : Addr} (cl : Cls K mg C_CutError C_NoWeb C_NoText C_TooGreat) (g_read_web : KnX Pg w K mg base "read_web" 6 ["text"] C_NoText Φ_read_web) (g__law_refused : Kn Pg w K mg base "_law_refused" 7 ["_law_thing"] Φ__law_refused) (g__law_text : Kn Pg w K mg base "_law_text" 1 ["_law_web_here"] Φ__law_text) (g__law_is_web : Kn Pg w K mg base "_law_is_web" 3 ["_law_web_here"] Φ__law_is_web) : Kn Pg w K mg base "_law_told" 8 ["_law_text_here"] Φ__law_told :=
  ⟨f, fd, ok_of F sc__law_told len__law_told (by decide) (fun cdv A outer s H E hr => ⟨_, dv__law_told hr B cs cl g_read_web g__law_refused g__law_text g__law_is_web, rd__law_told cl⟩), hm, F.kp, F.binds fun _ _ _ _ _ _ us hl => match us, hl with | [_], _ => rfl⟩
theorem ok__law_spoiled {Pg : Program} {w : World} {K : PySem.W.Frag} {mg : Str → Option Value} {base : Heap} {f : Addr} {fd : FuncData} (F : Fun K "_law_spoiled" "_law_spoiled" s__law_spoiled f fd) (hm : mg "_law_spoiled" = some (.ref f)) (B : ∀ x, x ∈ blt → mg x = none) (cs : Csts mg) (g__law_take : Kn Pg w K mg base "_law_take" 1 ["_law_xs"] Φ__law_take) : Kn Pg w K mg base "_law_spoiled" 2 ["_law_text_here", "_law_xs"] Φ__law_spoiled :=
  ⟨f, fd, ok_of F sc__law_spoiled len__law_spoiled (by decide) (fun cdv A outer s H E hr => ⟨_, dv__law_spoiled hr B cs g__law_take, rd__law_spoiled⟩), hm, F.kp, F.binds fun _ _ _ _ _ _ us hl => match us, hl with | [_, _], _ => rfl⟩
theorem ok__law_none {Pg : Program} {w : World} {K : PySem.W.Frag} {mg : Str → Option Value} {base : Heap} {f : Addr} {fd : FuncData} (F : Fun K "_law_none" "_law_none" s__law_none f fd) (hm : mg "_law_none" = some (.ref f)) (B : ∀ x, x ∈ blt → mg x = none) (cs : Csts mg) : Kn Pg w K mg base "_law_none" 1 ["_law_number"] Φ__law_none :=
  ⟨f, fd, ok_of F sc__law_none len__law_none (by decide) (fun cdv A outer s H E hr => ⟨_, dv__law_none hr B cs, rd__law_none⟩), hm, F.kp, F.binds fun _ _ _ _ _ _ us hl => match us, hl with | [_], _ => rfl⟩
theorem ok__law_ties_changed {Pg : Program} {w : World} {K : PySem.W.Frag} {mg : Str → Option Value} {base : Heap} {f : Addr} {fd : FuncData} (F : Fun K "_law_ties_changed" "_law_ties_changed" s__law_ties_changed f fd) (hm : mg "_law_ties_changed" = some (.ref f)) (B : ∀ x, x ∈ blt → mg x = none) (cs : Csts mg) (g__law_text : Kn Pg w K mg base "_law_text" 1 ["_law_web_here"] Φ__law_text) (g__law_take : Kn Pg w K mg base "_law_take" 1 ["_law_xs"] Φ__law_take) : Kn Pg w K mg base "_law_ties_changed" 2 ["_law_web_here", "_law_xs"] Φ__law_ties_changed :=
  ⟨f, fd, ok_of F sc__law_ties_changed len__law_ties_changed (by decide) (fun cdv A outer s H E hr => ⟨_, dv__law_ties_changed hr B cs g__law_text g__law_take, rd__law_ties_changed⟩), hm, F.kp, F.binds fun _ _ _ _ _ _ us hl => match us, hl with | [_, _], _ => rfl⟩
theorem ok__law_full {Pg : Program} {w : World} {K : PySem.W.Frag} {mg : Str → Option Value} {base : Heap} {f : Addr} {fd : FuncData} (F : Fun K "_law_full" "_law_full" s__law_full f fd) (hm : mg "_law_full" = some (.ref f)) (B : ∀ x, x ∈ blt → mg x = none) (cs : Csts mg) {C_CutError C_NoWeb C_NoText C_TooGreat : Addr} (cl : Cls K mg C_CutError C_NoWeb C_NoText C_TooGreat) (g__law_stream : Kn Pg w K mg base "_law_stream" 1 ["_law_cell", "_law_many"] Φ__law_stream) (g__law_take : Kn Pg w K mg base "_law_take" 1 ["_law_xs"] Φ__law_take) (g__law_weight : Kn Pg w K mg base "_law_weight" 2 ["_law_number"] Φ__law_weight) (g__law_refused : Kn Pg w K mg base "_law_refused" 7 ["_law_thing"] Φ__law_refused) (g__law_text : Kn Pg w K mg base "_law_text" 1 ["_law_web_here"] Φ__law_text) (g_read_web : KnX Pg w K mg base "read_web" 6 ["text"] C_NoText Φ_read_web) : Kn Pg w K mg base "_law_full" 8 ["_law_cell"] Φ__law_full :=
  ⟨f, fd, ok_of F sc__law_full len__law_full (by decide) (fun cdv A outer s H E hr => ⟨_, dv__law_full hr B cs cl g__law_stream g__law_take g__law_weight g__law_refused g__law_text g_read_web, rd__law_full⟩), hm, F.kp, F.binds fun _ _ _ _ _ _ us hl => match us, hl with | [_], _ => rfl⟩
theorem all_mk {l : PySem.W.OpenLaw} {w : World} {K : PySem.W.Frag} {h : Heap} {mg : Str → Option Value} {fa f1 f2 f3 f4 f5 f6 f7 f8 f9 f10 f11 f12 f13 f14 f15 f16 f17 f18 f19 f20 f21 f22 f23 f24 f25 f26 f27 f28 f29 f30 f31 f32 C_CutError C_NoWeb C_NoText C_TooGreat : Addr} (X : K.In h) (G : h.Ns mainGlobals mg) (hfa : mg "law" = some (.ref fa))
    {od1 an1 od2 an2 od3 an3 od4 an4 od5 an5 od6 an6 od7 an7 od8 an8 od9 an9 od10 an10 od11 an11 od12 an12 od13 an13 od14 an14 od15 an15 od16 an16 od17 an17 od18 an18 od19 an19 od20 an20 od21 an21 od22 an22 od23 an23 od24 an24 od25 an25 od26 an26 od27 an27 od28 an28 od29 an29 od30 an30 od31 an31 od32 an32 : Option Addr} {sl1 sl2 sl3 sl4 sl5 sl6 sl7 sl8 sl9 sl10 sl11 sl12 sl13 sl14 sl15 sl16 sl17 sl18 sl19 sl20 sl21 sl22 sl23 sl24 sl25 sl26 sl27 sl28 sl29 sl30 sl31 sl32 : Array (Option Value)} {oc1 kV1 dc1 pm1 cd1 ct1 oc2 kV2 dc2 pm2 cd2 ct2 oc3 kV3 dc3 pm3 cd3 ct3 oc4 kV4 dc4 pm4 cd4 ct4 oc5 kV5 dc5 pm5 cd5 ct5 oc6 kV6 dc6 pm6 cd6 ct6 oc7 kV7 dc7 pm7 cd7 ct7 oc8 kV8 dc8 pm8 cd8 ct8 oc9 kV9 dc9 pm9 cd9 ct9 oc10 kV10 dc10 pm10 cd10 ct10 oc11 kV11 dc11 pm11 cd11 ct11 oc12 kV12 dc12 pm12 cd12 ct12 oc13 kV13 dc13 pm13 cd13 ct13 oc14 kV14 dc14 pm14 cd14 ct14 oc15 kV15 dc15 pm15 cd15 ct15 oc16 kV16 dc16 pm16 cd16 ct16 oc17 kV17 dc17 pm17 cd17 ct17 oc18 kV18 dc18 pm18 cd18 ct18 oc19 kV19 dc19 pm19 cd19 ct19 oc20 kV20 dc20 pm20 cd20 ct20 oc21 kV21 dc21 pm21 cd21 ct21 oc22 kV22 dc22 pm22 cd22 ct22 oc23 kV23 dc23 pm23 cd23 ct23 oc24 kV24 dc24 pm24 cd24 ct24 oc25 kV25 dc25 pm25 cd25 ct25 oc26 kV26 dc26 pm26 cd26 ct26 oc27 kV27 dc27 pm27 cd27 ct27 oc28 kV28 dc28 pm28 cd28 ct28 oc29 kV29 dc29 pm29 cd29 ct29 oc30 kV30 dc30 pm30 cd30 ct30 oc31 kV31 dc31 pm31 cd31 ct31 oc32 kV32 dc32 pm32 cd32 ct32 : Value}
    (a1 : PySem.W.nsIn K mainGlobals "is_whole" = some (some (.ref f1))) (l1 : K.lookup f1 = some ⟨oc1, od1, .func (PySem.W.fnOf "is_whole" "is_whole" (defArgs s_is_whole) (defBody s_is_whole) (defScope s_is_whole) .none kV1 dc1 pm1 an1 cd1 ct1), sl1⟩) (c1 : PySem.W.codeIn K cd1 "is_whole" = true) (k1 : PySem.W.keepIn K (.ref f1) = true)
    (a2 : PySem.W.nsIn K mainGlobals "is_row" = some (some (.ref f2))) (l2 : K.lookup f2 = some ⟨oc2, od2, .func (PySem.W.fnOf "is_row" "is_row" (defArgs s_is_row) (defBody s_is_row) (defScope s_is_row) .none kV2 dc2 pm2 an2 cd2 ct2), sl2⟩) (c2 : PySem.W.codeIn K cd2 "is_row" = true) (k2 : PySem.W.keepIn K (.ref f2) = true)
    (a3 : PySem.W.nsIn K mainGlobals "is_triple" = some (some (.ref f3))) (l3 : K.lookup f3 = some ⟨oc3, od3, .func (PySem.W.fnOf "is_triple" "is_triple" (defArgs s_is_triple) (defBody s_is_triple) (defScope s_is_triple) .none kV3 dc3 pm3 an3 cd3 ct3), sl3⟩) (c3 : PySem.W.codeIn K cd3 "is_triple" = true) (k3 : PySem.W.keepIn K (.ref f3) = true)
    (a4 : PySem.W.nsIn K mainGlobals "is_number_of" = some (some (.ref f4))) (l4 : K.lookup f4 = some ⟨oc4, od4, .func (PySem.W.fnOf "is_number_of" "is_number_of" (defArgs s_is_number_of) (defBody s_is_number_of) (defScope s_is_number_of) .none kV4 dc4 pm4 an4 cd4 ct4), sl4⟩) (c4 : PySem.W.codeIn K cd4 "is_number_of" = true) (k4 : PySem.W.keepIn K (.ref f4) = true)
    (a5 : PySem.W.nsIn K mainGlobals "are_unlike_points" = some (some (.ref f5))) (l5 : K.lookup f5 = some ⟨oc5, od5, .func (PySem.W.fnOf "are_unlike_points" "are_unlike_points" (defArgs s_are_unlike_points) (defBody s_are_unlike_points) (defScope s_are_unlike_points) .none kV5 dc5 pm5 an5 cd5 ct5), sl5⟩) (c5 : PySem.W.codeIn K cd5 "are_unlike_points" = true) (k5 : PySem.W.keepIn K (.ref f5) = true)
    (a6 : PySem.W.nsIn K mainGlobals "common_divisor" = some (some (.ref f6))) (l6 : K.lookup f6 = some ⟨oc6, od6, .func (PySem.W.fnOf "common_divisor" "common_divisor" (defArgs s_common_divisor) (defBody s_common_divisor) (defScope s_common_divisor) .none kV6 dc6 pm6 an6 cd6 ct6), sl6⟩) (c6 : PySem.W.codeIn K cd6 "common_divisor" = true) (k6 : PySem.W.keepIn K (.ref f6) = true)
    (a7 : PySem.W.nsIn K mainGlobals "is_fraction" = some (some (.ref f7))) (l7 : K.lookup f7 = some ⟨oc7, od7, .func (PySem.W.fnOf "is_fraction" "is_fraction" (defArgs s_is_fraction) (defBody s_is_fraction) (defScope s_is_fraction) .none kV7 dc7 pm7 an7 cd7 ct7), sl7⟩) (c7 : PySem.W.codeIn K cd7 "is_fraction" = true) (k7 : PySem.W.keepIn K (.ref f7) = true)
    (a8 : PySem.W.nsIn K mainGlobals "is_weight" = some (some (.ref f8))) (l8 : K.lookup f8 = some ⟨oc8, od8, .func (PySem.W.fnOf "is_weight" "is_weight" (defArgs s_is_weight) (defBody s_is_weight) (defScope s_is_weight) .none kV8 dc8 pm8 an8 cd8 ct8), sl8⟩) (c8 : PySem.W.codeIn K cd8 "is_weight" = true) (k8 : PySem.W.keepIn K (.ref f8) = true)
    (a9 : PySem.W.nsIn K mainGlobals "told_tie" = some (some (.ref f9))) (l9 : K.lookup f9 = some ⟨oc9, od9, .func (PySem.W.fnOf "told_tie" "told_tie" (defArgs s_told_tie) (defBody s_told_tie) (defScope s_told_tie) .none kV9 dc9 pm9 an9 cd9 ct9), sl9⟩) (c9 : PySem.W.codeIn K cd9 "told_tie" = true) (k9 : PySem.W.keepIn K (.ref f9) = true)
    (a10 : PySem.W.nsIn K mainGlobals "made_web" = some (some (.ref f10))) (l10 : K.lookup f10 = some ⟨oc10, od10, .func (PySem.W.fnOf "made_web" "made_web" (defArgs s_made_web) (defBody s_made_web) (defScope s_made_web) .none kV10 dc10 pm10 an10 cd10 ct10), sl10⟩) (c10 : PySem.W.codeIn K cd10 "made_web" = true) (k10 : PySem.W.keepIn K (.ref f10) = true)
    (a11 : PySem.W.nsIn K mainGlobals "shown_weight" = some (some (.ref f11))) (l11 : K.lookup f11 = some ⟨oc11, od11, .func (PySem.W.fnOf "shown_weight" "shown_weight" (defArgs s_shown_weight) (defBody s_shown_weight) (defScope s_shown_weight) .none kV11 dc11 pm11 an11 cd11 ct11), sl11⟩) (c11 : PySem.W.codeIn K cd11 "shown_weight" = true) (k11 : PySem.W.keepIn K (.ref f11) = true)
    (a12 : PySem.W.nsIn K mainGlobals "show_web" = some (some (.ref f12))) (l12 : K.lookup f12 = some ⟨oc12, od12, .func (PySem.W.fnOf "show_web" "show_web" (defArgs s_show_web) (defBody s_show_web) (defScope s_show_web) .none kV12 dc12 pm12 an12 cd12 ct12), sl12⟩) (c12 : PySem.W.codeIn K cd12 "show_web" = true) (k12 : PySem.W.keepIn K (.ref f12) = true)
    (a13 : PySem.W.nsIn K mainGlobals "read_int" = some (some (.ref f13))) (l13 : K.lookup f13 = some ⟨oc13, od13, .func (PySem.W.fnOf "read_int" "read_int" (defArgs s_read_int) (defBody s_read_int) (defScope s_read_int) .none kV13 dc13 pm13 an13 cd13 ct13), sl13⟩) (c13 : PySem.W.codeIn K cd13 "read_int" = true) (k13 : PySem.W.keepIn K (.ref f13) = true)
    (a14 : PySem.W.nsIn K mainGlobals "read_weight" = some (some (.ref f14))) (l14 : K.lookup f14 = some ⟨oc14, od14, .func (PySem.W.fnOf "read_weight" "read_weight" (defArgs s_read_weight) (defBody s_read_weight) (defScope s_read_weight) .none kV14 dc14 pm14 an14 cd14 ct14), sl14⟩) (c14 : PySem.W.codeIn K cd14 "read_weight" = true) (k14 : PySem.W.keepIn K (.ref f14) = true)
    (a15 : PySem.W.nsIn K mainGlobals "read_tie" = some (some (.ref f15))) (l15 : K.lookup f15 = some ⟨oc15, od15, .func (PySem.W.fnOf "read_tie" "read_tie" (defArgs s_read_tie) (defBody s_read_tie) (defScope s_read_tie) .none kV15 dc15 pm15 an15 cd15 ct15), sl15⟩) (c15 : PySem.W.codeIn K cd15 "read_tie" = true) (k15 : PySem.W.keepIn K (.ref f15) = true)
    (a16 : PySem.W.nsIn K mainGlobals "read_web" = some (some (.ref f16))) (l16 : K.lookup f16 = some ⟨oc16, od16, .func (PySem.W.fnOf "read_web" "read_web" (defArgs s_read_web) (defBody s_read_web) (defScope s_read_web) .none kV16 dc16 pm16 an16 cd16 ct16), sl16⟩) (c16 : PySem.W.codeIn K cd16 "read_web" = true) (k16 : PySem.W.keepIn K (.ref f16) = true)
    (a17 : PySem.W.nsIn K mainGlobals "_law_cell_at" = some (some (.ref f17))) (l17 : K.lookup f17 = some ⟨oc17, od17, .func (PySem.W.fnOf "_law_cell_at" "_law_cell_at" (defArgs s__law_cell_at) (defBody s__law_cell_at) (defScope s__law_cell_at) .none kV17 dc17 pm17 an17 cd17 ct17), sl17⟩) (c17 : PySem.W.codeIn K cd17 "_law_cell_at" = true) (k17 : PySem.W.keepIn K (.ref f17) = true)
    (a18 : PySem.W.nsIn K mainGlobals "_law_stream" = some (some (.ref f18))) (l18 : K.lookup f18 = some ⟨oc18, od18, .func (PySem.W.fnOf "_law_stream" "_law_stream" (defArgs s__law_stream) (defBody s__law_stream) (defScope s__law_stream) .none kV18 dc18 pm18 an18 cd18 ct18), sl18⟩) (c18 : PySem.W.codeIn K cd18 "_law_stream" = true) (k18 : PySem.W.keepIn K (.ref f18) = true)
    (a19 : PySem.W.nsIn K mainGlobals "_law_take" = some (some (.ref f19))) (l19 : K.lookup f19 = some ⟨oc19, od19, .func (PySem.W.fnOf "_law_take" "_law_take" (defArgs s__law_take) (defBody s__law_take) (defScope s__law_take) .none kV19 dc19 pm19 an19 cd19 ct19), sl19⟩) (c19 : PySem.W.codeIn K cd19 "_law_take" = true) (k19 : PySem.W.keepIn K (.ref f19) = true)
    (a20 : PySem.W.nsIn K mainGlobals "_law_reduced" = some (some (.ref f20))) (l20 : K.lookup f20 = some ⟨oc20, od20, .func (PySem.W.fnOf "_law_reduced" "_law_reduced" (defArgs s__law_reduced) (defBody s__law_reduced) (defScope s__law_reduced) .none kV20 dc20 pm20 an20 cd20 ct20), sl20⟩) (c20 : PySem.W.codeIn K cd20 "_law_reduced" = true) (k20 : PySem.W.keepIn K (.ref f20) = true)
    (a21 : PySem.W.nsIn K mainGlobals "_law_weight" = some (some (.ref f21))) (l21 : K.lookup f21 = some ⟨oc21, od21, .func (PySem.W.fnOf "_law_weight" "_law_weight" (defArgs s__law_weight) (defBody s__law_weight) (defScope s__law_weight) .none kV21 dc21 pm21 an21 cd21 ct21), sl21⟩) (c21 : PySem.W.codeIn K cd21 "_law_weight" = true) (k21 : PySem.W.keepIn K (.ref f21) = true)
    (a22 : PySem.W.nsIn K mainGlobals "_law_web" = some (some (.ref f22))) (l22 : K.lookup f22 = some ⟨oc22, od22, .func (PySem.W.fnOf "_law_web" "_law_web" (defArgs s__law_web) (defBody s__law_web) (defScope s__law_web) .none kV22 dc22 pm22 an22 cd22 ct22), sl22⟩) (c22 : PySem.W.codeIn K cd22 "_law_web" = true) (k22 : PySem.W.keepIn K (.ref f22) = true)
    (a23 : PySem.W.nsIn K mainGlobals "_law_text" = some (some (.ref f23))) (l23 : K.lookup f23 = some ⟨oc23, od23, .func (PySem.W.fnOf "_law_text" "_law_text" (defArgs s__law_text) (defBody s__law_text) (defScope s__law_text) .none kV23 dc23 pm23 an23 cd23 ct23), sl23⟩) (c23 : PySem.W.codeIn K cd23 "_law_text" = true) (k23 : PySem.W.keepIn K (.ref f23) = true)
    (a24 : PySem.W.nsIn K mainGlobals "_law_refused" = some (some (.ref f24))) (l24 : K.lookup f24 = some ⟨oc24, od24, .func (PySem.W.fnOf "_law_refused" "_law_refused" (defArgs s__law_refused) (defBody s__law_refused) (defScope s__law_refused) .none kV24 dc24 pm24 an24 cd24 ct24), sl24⟩) (c24 : PySem.W.codeIn K cd24 "_law_refused" = true) (k24 : PySem.W.keepIn K (.ref f24) = true)
    (a25 : PySem.W.nsIn K mainGlobals "_law_is_weight" = some (some (.ref f25))) (l25 : K.lookup f25 = some ⟨oc25, od25, .func (PySem.W.fnOf "_law_is_weight" "_law_is_weight" (defArgs s__law_is_weight) (defBody s__law_is_weight) (defScope s__law_is_weight) .none kV25 dc25 pm25 an25 cd25 ct25), sl25⟩) (c25 : PySem.W.codeIn K cd25 "_law_is_weight" = true) (k25 : PySem.W.keepIn K (.ref f25) = true)
    (a26 : PySem.W.nsIn K mainGlobals "_law_is_web" = some (some (.ref f26))) (l26 : K.lookup f26 = some ⟨oc26, od26, .func (PySem.W.fnOf "_law_is_web" "_law_is_web" (defArgs s__law_is_web) (defBody s__law_is_web) (defScope s__law_is_web) .none kV26 dc26 pm26 an26 cd26 ct26), sl26⟩) (c26 : PySem.W.codeIn K cd26 "_law_is_web" = true) (k26 : PySem.W.keepIn K (.ref f26) = true)
    (a27 : PySem.W.nsIn K mainGlobals "_law_told" = some (some (.ref f27))) (l27 : K.lookup f27 = some ⟨oc27, od27, .func (PySem.W.fnOf "_law_told" "_law_told" (defArgs s__law_told) (defBody s__law_told) (defScope s__law_told) .none kV27 dc27 pm27 an27 cd27 ct27), sl27⟩) (c27 : PySem.W.codeIn K cd27 "_law_told" = true) (k27 : PySem.W.keepIn K (.ref f27) = true)
    (a28 : PySem.W.nsIn K mainGlobals "_law_spoiled" = some (some (.ref f28))) (l28 : K.lookup f28 = some ⟨oc28, od28, .func (PySem.W.fnOf "_law_spoiled" "_law_spoiled" (defArgs s__law_spoiled) (defBody s__law_spoiled) (defScope s__law_spoiled) .none kV28 dc28 pm28 an28 cd28 ct28), sl28⟩) (c28 : PySem.W.codeIn K cd28 "_law_spoiled" = true) (k28 : PySem.W.keepIn K (.ref f28) = true)
    (a29 : PySem.W.nsIn K mainGlobals "_law_none" = some (some (.ref f29))) (l29 : K.lookup f29 = some ⟨oc29, od29, .func (PySem.W.fnOf "_law_none" "_law_none" (defArgs s__law_none) (defBody s__law_none) (defScope s__law_none) .none kV29 dc29 pm29 an29 cd29 ct29), sl29⟩) (c29 : PySem.W.codeIn K cd29 "_law_none" = true) (k29 : PySem.W.keepIn K (.ref f29) = true)
    (a30 : PySem.W.nsIn K mainGlobals "_law_ties_changed" = some (some (.ref f30))) (l30 : K.lookup f30 = some ⟨oc30, od30, .func (PySem.W.fnOf "_law_ties_changed" "_law_ties_changed" (defArgs s__law_ties_changed) (defBody s__law_ties_changed) (defScope s__law_ties_changed) .none kV30 dc30 pm30 an30 cd30 ct30), sl30⟩) (c30 : PySem.W.codeIn K cd30 "_law_ties_changed" = true) (k30 : PySem.W.keepIn K (.ref f30) = true)
    (a31 : PySem.W.nsIn K mainGlobals "_law_full" = some (some (.ref f31))) (l31 : K.lookup f31 = some ⟨oc31, od31, .func (PySem.W.fnOf "_law_full" "_law_full" (defArgs s__law_full) (defBody s__law_full) (defScope s__law_full) .none kV31 dc31 pm31 an31 cd31 ct31), sl31⟩) (c31 : PySem.W.codeIn K cd31 "_law_full" = true) (k31 : PySem.W.keepIn K (.ref f31) = true)
    (a32 : PySem.W.nsIn K mainGlobals "law" = some (some (.ref f32))) (l32 : K.lookup f32 = some ⟨oc32, od32, .func (PySem.W.fnOf "law" "law" (defArgs s_law) (defBody s_law) (defScope s_law) .none kV32 dc32 pm32 an32 cd32 ct32), sl32⟩) (c32 : PySem.W.codeIn K cd32 "law" = true) (k32 : PySem.W.keepIn K (.ref f32) = true)
    (g_CutError : PySem.W.nsIn K mainGlobals "CutError" = some (some (.ref C_CutError)))
    (g_NoWeb : PySem.W.nsIn K mainGlobals "NoWeb" = some (some (.ref C_NoWeb)))
    (g_NoText : PySem.W.nsIn K mainGlobals "NoText" = some (some (.ref C_NoText)))
    (g_TooGreat : PySem.W.nsIn K mainGlobals "TooGreat" = some (some (.ref C_TooGreat)))
    (iq_CutError : PySem.W.isClsIn K C_CutError = true)
    (yq_CutError : PySem.W.typeIn K (.ref C_CutError) = some (.type "type"))
    (iq_NoWeb : PySem.W.isClsIn K C_NoWeb = true)
    (yq_NoWeb : PySem.W.typeIn K (.ref C_NoWeb) = some (.type "type"))
    (iq_NoText : PySem.W.isClsIn K C_NoText = true)
    (yq_NoText : PySem.W.typeIn K (.ref C_NoText) = some (.type "type"))
    (iq_TooGreat : PySem.W.isClsIn K C_TooGreat = true)
    (yq_TooGreat : PySem.W.typeIn K (.ref C_TooGreat) = some (.type "type"))
    (bq_CutError : PySem.W.subIn K (.ref C_CutError) (.type "BaseException") = some true)
    (x_NoText : PySem.W.excIn K C_NoText [.type "ValueError", .type "Exception", .type "BaseException", .type "object"] "ValueError.__new__" = true)
    (k_NoText : PySem.W.keepIn K (.ref C_NoText) = true)
    (b_NoText : PySem.W.subIn K (.ref C_NoText) (.type "BaseException") = some true)
    (t_NoText : PySem.W.typeIn K (.ref C_NoText) = some (.type "type"))
    (s_NoText : PySem.W.subIn K (.ref C_NoText) (.ref C_NoText) = some true)
    (e0_NoText : PySem.W.findIn K (.ref C_NoText) "__getattribute__" = some (some (.builtin "BaseException.__getattribute__")))
    (e1_NoText : PySem.W.findIn K (.ref C_NoText) "__getattr__" = some none)
    (e2_NoText : PySem.W.subIn K (.ref C_NoText) (.type "BaseException") = some true)
    (e3_NoText : PySem.W.hasDictIn K C_NoText = true)
    (e4_NoText : PySem.W.findIn K (.ref C_NoText) "__class__" = some (some (.builtin "object.__class__")))
    (e5_NoText : PySem.W.specialIn K (.builtin "object.__class__") "__get__" = some (some (.builtin "getset_descriptor.__get__")))
    (e6_NoText : PySem.W.takesIn K (.builtin "object.__class__") = some true)
    (e7_NoText : PySem.W.mroIn K C_NoText (.type "object") = some true)
    (n_NoText_NoWeb : PySem.W.subIn K (.ref C_NoText) (.ref C_NoWeb) = some false)
    (n_NoText_TooGreat : PySem.W.subIn K (.ref C_NoText) (.ref C_TooGreat) = some false)
    (i_NoText_CutError : PySem.W.isClsIn K C_CutError = true)
    (y_NoText_CutError : PySem.W.typeIn K (.ref C_CutError) = some (.type "type"))
    (u_NoText_CutError : PySem.W.subIn K (.ref C_NoText) (.ref C_CutError) = some true)
    (v_NoText : PySem.W.subIn K (.ref C_NoText) (.type "ValueError") = some true)
    (x_NoWeb : PySem.W.excIn K C_NoWeb [.type "ValueError", .type "Exception", .type "BaseException", .type "object"] "ValueError.__new__" = true)
    (k_NoWeb : PySem.W.keepIn K (.ref C_NoWeb) = true)
    (b_NoWeb : PySem.W.subIn K (.ref C_NoWeb) (.type "BaseException") = some true)
    (t_NoWeb : PySem.W.typeIn K (.ref C_NoWeb) = some (.type "type"))
    (s_NoWeb : PySem.W.subIn K (.ref C_NoWeb) (.ref C_NoWeb) = some true)
    (e0_NoWeb : PySem.W.findIn K (.ref C_NoWeb) "__getattribute__" = some (some (.builtin "BaseException.__getattribute__")))
    (e1_NoWeb : PySem.W.findIn K (.ref C_NoWeb) "__getattr__" = some none)
    (e2_NoWeb : PySem.W.subIn K (.ref C_NoWeb) (.type "BaseException") = some true)
    (e3_NoWeb : PySem.W.hasDictIn K C_NoWeb = true)
    (e4_NoWeb : PySem.W.findIn K (.ref C_NoWeb) "__class__" = some (some (.builtin "object.__class__")))
    (e5_NoWeb : PySem.W.specialIn K (.builtin "object.__class__") "__get__" = some (some (.builtin "getset_descriptor.__get__")))
    (e6_NoWeb : PySem.W.takesIn K (.builtin "object.__class__") = some true)
    (e7_NoWeb : PySem.W.mroIn K C_NoWeb (.type "object") = some true)
    (n_NoWeb_NoText : PySem.W.subIn K (.ref C_NoWeb) (.ref C_NoText) = some false)
    (n_NoWeb_TooGreat : PySem.W.subIn K (.ref C_NoWeb) (.ref C_TooGreat) = some false)
    (i_NoWeb_CutError : PySem.W.isClsIn K C_CutError = true)
    (y_NoWeb_CutError : PySem.W.typeIn K (.ref C_CutError) = some (.type "type"))
    (u_NoWeb_CutError : PySem.W.subIn K (.ref C_NoWeb) (.ref C_CutError) = some true)
    (v_NoWeb : PySem.W.subIn K (.ref C_NoWeb) (.type "ValueError") = some true)
    {n_MOST_POINTS : Tok} (m_MOST_POINTS : PySem.W.nsIn K mainGlobals "MOST_POINTS" = some (some (.int 60 n_MOST_POINTS)))
    {n_MOST_TIES : Tok} (m_MOST_TIES : PySem.W.nsIn K mainGlobals "MOST_TIES" = some (some (.int 170 n_MOST_TIES)))
    {n_MOST_TOP : Tok} (m_MOST_TOP : PySem.W.nsIn K mainGlobals "MOST_TOP" = some (some (.int 1000000000 n_MOST_TOP)))
    {n_MOST_BOTTOM : Tok} (m_MOST_BOTTOM : PySem.W.nsIn K mainGlobals "MOST_BOTTOM" = some (some (.int 1000 n_MOST_BOTTOM)))
    {n_MOST_DIGITS : Tok} (m_MOST_DIGITS : PySem.W.nsIn K mainGlobals "MOST_DIGITS" = some (some (.int 10 n_MOST_DIGITS)))
    (z0 : PySem.W.nsIn K mainGlobals "bool" = some none) (z1 : PySem.W.nsIn K mainGlobals "isinstance" = some none) (z2 : PySem.W.nsIn K mainGlobals "int" = some none) (z3 : PySem.W.nsIn K mainGlobals "tuple" = some none) (z4 : PySem.W.nsIn K mainGlobals "list" = some none) (z5 : PySem.W.nsIn K mainGlobals "len" = some none) (z6 : PySem.W.nsIn K mainGlobals "abs" = some none) (z7 : PySem.W.nsIn K mainGlobals "max" = some none) (z8 : PySem.W.nsIn K mainGlobals "min" = some none) (z9 : PySem.W.nsIn K mainGlobals "sorted" = some none) (z10 : PySem.W.nsIn K mainGlobals "zip" = some none) (z11 : PySem.W.nsIn K mainGlobals "str" = some none) (z12 : PySem.W.nsIn K mainGlobals "range" = some none) (z13 : PySem.W.nsIn K mainGlobals "ValueError" = some none) :
    ∃ fd : FuncData, (∀ (s : Shared) (v : Value), BindsTo s fd ⟨[v], []⟩ [("_law_script", v)]) ∧ ∀ base : Heap, K.In base → base.Ns mainGlobals mg → FnOk l.prog w K mg base CX0 9 fa fd ["_law_script"] (SpD K Φ_law) := by
  have B : ∀ x, x ∈ blt → mg x = none := by
    intro x hx
    simp only [blt, List.mem_cons, List.not_mem_nil, or_false] at hx
    rcases hx with rfl | rfl | rfl | rfl | rfl | rfl | rfl | rfl | rfl | rfl | rfl | rfl | rfl | rfl
    · exact PySem.W.mg_none_of X G z0
    · exact PySem.W.mg_none_of X G z1
    · exact PySem.W.mg_none_of X G z2
    · exact PySem.W.mg_none_of X G z3
    · exact PySem.W.mg_none_of X G z4
    · exact PySem.W.mg_none_of X G z5
    · exact PySem.W.mg_none_of X G z6
    · exact PySem.W.mg_none_of X G z7
    · exact PySem.W.mg_none_of X G z8
    · exact PySem.W.mg_none_of X G z9
    · exact PySem.W.mg_none_of X G z10
    · exact PySem.W.mg_none_of X G z11
    · exact PySem.W.mg_none_of X G z12
    · exact PySem.W.mg_none_of X G z13
  have cs : Csts mg := ⟨⟨_, PySem.W.mg_of X G m_MOST_POINTS⟩, ⟨_, PySem.W.mg_of X G m_MOST_TIES⟩, ⟨_, PySem.W.mg_of X G m_MOST_TOP⟩, ⟨_, PySem.W.mg_of X G m_MOST_BOTTOM⟩, ⟨_, PySem.W.mg_of X G m_MOST_DIGITS⟩⟩
  have cl : Cls K mg C_CutError C_NoWeb C_NoText C_TooGreat := ⟨PySem.W.mg_of X G g_CutError, PySem.W.mg_of X G g_NoWeb, PySem.W.mg_of X G g_NoText, PySem.W.mg_of X G g_TooGreat, ⟨PySem.W.mg_of X G g_NoText, x_NoText, k_NoText, b_NoText, t_NoText, s_NoText, ⟨e0_NoText, e1_NoText, e2_NoText, e3_NoText, e4_NoText, e5_NoText, e6_NoText, e7_NoText⟩⟩, kit_up i_NoText_CutError y_NoText_CutError u_NoText_CutError, kit_no iq_NoWeb yq_NoWeb n_NoText_NoWeb s_NoText, kit_no iq_TooGreat yq_TooGreat n_NoText_TooGreat s_NoText, exm_up bq_CutError iq_CutError yq_CutError u_NoText_CutError, kit_upT (by decide +kernel) v_NoText, ⟨PySem.W.mg_of X G g_NoWeb, x_NoWeb, k_NoWeb, b_NoWeb, t_NoWeb, s_NoWeb, ⟨e0_NoWeb, e1_NoWeb, e2_NoWeb, e3_NoWeb, e4_NoWeb, e5_NoWeb, e6_NoWeb, e7_NoWeb⟩⟩, kit_up i_NoWeb_CutError y_NoWeb_CutError u_NoWeb_CutError, kit_no iq_NoText yq_NoText n_NoWeb_NoText s_NoWeb, kit_no iq_TooGreat yq_TooGreat n_NoWeb_TooGreat s_NoWeb, exm_up bq_CutError iq_CutError yq_CutError u_NoWeb_CutError, kit_upT (by decide +kernel) v_NoWeb⟩
  have e := hfa.symm.trans (PySem.W.mg_of X G a32)
  cases e
  have F1 := fun_mk (st := s_is_whole) l1 c1 k1
  have F2 := fun_mk (st := s_is_row) l2 c2 k2
  have F3 := fun_mk (st := s_is_triple) l3 c3 k3
  have F4 := fun_mk (st := s_is_number_of) l4 c4 k4
  have F5 := fun_mk (st := s_are_unlike_points) l5 c5 k5
  have F6 := fun_mk (st := s_common_divisor) l6 c6 k6
  have F7 := fun_mk (st := s_is_fraction) l7 c7 k7
  have F8 := fun_mk (st := s_is_weight) l8 c8 k8
  have F9 := fun_mk (st := s_told_tie) l9 c9 k9
  have F10 := fun_mk (st := s_made_web) l10 c10 k10
  have F11 := fun_mk (st := s_shown_weight) l11 c11 k11
  have F12 := fun_mk (st := s_show_web) l12 c12 k12
  have F13 := fun_mk (st := s_read_int) l13 c13 k13
  have F14 := fun_mk (st := s_read_weight) l14 c14 k14
  have F15 := fun_mk (st := s_read_tie) l15 c15 k15
  have F16 := fun_mk (st := s_read_web) l16 c16 k16
  have F17 := fun_mk (st := s__law_cell_at) l17 c17 k17
  have F18 := fun_mk (st := s__law_stream) l18 c18 k18
  have F19 := fun_mk (st := s__law_take) l19 c19 k19
  have F20 := fun_mk (st := s__law_reduced) l20 c20 k20
  have F21 := fun_mk (st := s__law_weight) l21 c21 k21
  have F22 := fun_mk (st := s__law_web) l22 c22 k22
  have F23 := fun_mk (st := s__law_text) l23 c23 k23
  have F24 := fun_mk (st := s__law_refused) l24 c24 k24
  have F25 := fun_mk (st := s__law_is_weight) l25 c25 k25
  have F26 := fun_mk (st := s__law_is_web) l26 c26 k26
  have F27 := fun_mk (st := s__law_told) l27 c27 k27
  have F28 := fun_mk (st := s__law_spoiled) l28 c28 k28
  have F29 := fun_mk (st := s__law_none) l29 c29 k29
  have F30 := fun_mk (st := s__law_ties_changed) l30 c30 k30
  have F31 := fun_mk (st := s__law_full) l31 c31 k31
  have F32 := fun_mk (st := s_law) l32 c32 k32
  have g_is_whole : ∀ base : Heap, Kn l.prog w K mg base "is_whole" 1 ["thing"] Φ_is_whole := fun base => ok_is_whole F1 (PySem.W.mg_of X G a1) B cs
  have g_is_row : ∀ base : Heap, Kn l.prog w K mg base "is_row" 1 ["thing"] Φ_is_row := fun base => ok_is_row F2 (PySem.W.mg_of X G a2) B cs
  have g_common_divisor : ∀ base : Heap, Kn l.prog w K mg base "common_divisor" 1 ["one", "other"] Φ_common_divisor := fun base => ok_common_divisor F6 (PySem.W.mg_of X G a6) B cs
  have g_shown_weight : ∀ base : Heap, Kn l.prog w K mg base "shown_weight" 1 ["weight"] Φ_shown_weight := fun base => ok_shown_weight F11 (PySem.W.mg_of X G a11) B cs
  have g_read_int : ∀ base : Heap, Kn l.prog w K mg base "read_int" 1 ["word"] Φ_read_int := fun base => ok_read_int F13 (PySem.W.mg_of X G a13) B cs
  have g__law_cell_at : ∀ base : Heap, Kn l.prog w K mg base "_law_cell_at" 1 ["_law_script", "_law_k"] Φ__law_cell_at := fun base => ok__law_cell_at F17 (PySem.W.mg_of X G a17) B cs
  have g__law_stream : ∀ base : Heap, Kn l.prog w K mg base "_law_stream" 1 ["_law_cell", "_law_many"] Φ__law_stream := fun base => ok__law_stream F18 (PySem.W.mg_of X G a18) B cs
  have g__law_take : ∀ base : Heap, Kn l.prog w K mg base "_law_take" 1 ["_law_xs"] Φ__law_take := fun base => ok__law_take F19 (PySem.W.mg_of X G a19) B cs
  have g__law_reduced : ∀ base : Heap, Kn l.prog w K mg base "_law_reduced" 1 ["_law_top", "_law_bottom"] Φ__law_reduced := fun base => ok__law_reduced F20 (PySem.W.mg_of X G a20) B cs
  have g__law_text : ∀ base : Heap, Kn l.prog w K mg base "_law_text" 1 ["_law_web_here"] Φ__law_text := fun base => ok__law_text F23 (PySem.W.mg_of X G a23) B cs
  have g__law_none : ∀ base : Heap, Kn l.prog w K mg base "_law_none" 1 ["_law_number"] Φ__law_none := fun base => ok__law_none F29 (PySem.W.mg_of X G a29) B cs
  have g_is_triple : ∀ base : Heap, Kn l.prog w K mg base "is_triple" 2 ["thing"] Φ_is_triple := fun base => ok_is_triple F3 (PySem.W.mg_of X G a3) B cs (g_is_row base)
  have g_is_number_of : ∀ base : Heap, Kn l.prog w K mg base "is_number_of" 2 ["many", "thing"] Φ_is_number_of := fun base => ok_is_number_of F4 (PySem.W.mg_of X G a4) B cs (g_is_whole base)
  have g_is_fraction : ∀ base : Heap, Kn l.prog w K mg base "is_fraction" 2 ["thing"] Φ_is_fraction := fun base => ok_is_fraction F7 (PySem.W.mg_of X G a7) B cs (g_is_whole base) (g_common_divisor base)
  have g_show_web : ∀ base : Heap, Kn l.prog w K mg base "show_web" 2 ["web"] Φ_show_web := fun base => ok_show_web F12 (PySem.W.mg_of X G a12) B cs (g_shown_weight base)
  have g_read_weight : ∀ base : Heap, Kn l.prog w K mg base "read_weight" 2 ["word"] Φ_read_weight := fun base => ok_read_weight F14 (PySem.W.mg_of X G a14) B cs (g_read_int base)
  have g__law_weight : ∀ base : Heap, Kn l.prog w K mg base "_law_weight" 2 ["_law_number"] Φ__law_weight := fun base => ok__law_weight F21 (PySem.W.mg_of X G a21) B cs (g__law_reduced base)
  have g__law_is_weight : ∀ base : Heap, Kn l.prog w K mg base "_law_is_weight" 2 ["_law_weight_here"] Φ__law_is_weight := fun base => ok__law_is_weight F25 (PySem.W.mg_of X G a25) B cs (g__law_reduced base)
  have g__law_spoiled : ∀ base : Heap, Kn l.prog w K mg base "_law_spoiled" 2 ["_law_text_here", "_law_xs"] Φ__law_spoiled := fun base => ok__law_spoiled F28 (PySem.W.mg_of X G a28) B cs (g__law_take base)
  have g__law_ties_changed : ∀ base : Heap, Kn l.prog w K mg base "_law_ties_changed" 2 ["_law_web_here", "_law_xs"] Φ__law_ties_changed := fun base => ok__law_ties_changed F30 (PySem.W.mg_of X G a30) B cs (g__law_text base) (g__law_take base)
  have g_are_unlike_points : ∀ base : Heap, Kn l.prog w K mg base "are_unlike_points" 3 ["many", "one", "other"] Φ_are_unlike_points := fun base => ok_are_unlike_points F5 (PySem.W.mg_of X G a5) B cs (g_is_number_of base)
  have g_is_weight : ∀ base : Heap, Kn l.prog w K mg base "is_weight" 3 ["thing"] Φ_is_weight := fun base => ok_is_weight F8 (PySem.W.mg_of X G a8) B cs (g_is_fraction base)
  have g_read_tie : ∀ base : Heap, Kn l.prog w K mg base "read_tie" 3 ["word"] Φ_read_tie := fun base => ok_read_tie F15 (PySem.W.mg_of X G a15) B cs (g_read_weight base) (g_read_int base)
  have g__law_web : ∀ base : Heap, Kn l.prog w K mg base "_law_web" 3 ["_law_xs", "_law_most"] Φ__law_web := fun base => ok__law_web F22 (PySem.W.mg_of X G a22) B cs (g__law_take base) (g__law_weight base)
  have g__law_is_web : ∀ base : Heap, Kn l.prog w K mg base "_law_is_web" 3 ["_law_web_here"] Φ__law_is_web := fun base => ok__law_is_web F26 (PySem.W.mg_of X G a26) B cs (g__law_is_weight base)
  have g_told_tie : ∀ base : Heap, Kn l.prog w K mg base "told_tie" 4 ["many", "thing"] Φ_told_tie := fun base => ok_told_tie F9 (PySem.W.mg_of X G a9) B cs (g_is_triple base) (g_is_weight base) (g_are_unlike_points base)
  have g_made_web : ∀ base : Heap, KnN l.prog w K mg base "made_web" 5 ["many", "ties"] C_NoWeb Φ_made_web := fun base => ok_made_web F10 (PySem.W.mg_of X G a10) B cs cl (g_is_whole base) (g_is_row base) (g_told_tie base)
  have g_read_web : ∀ base : Heap, KnX l.prog w K mg base "read_web" 6 ["text"] C_NoText Φ_read_web := fun base => ok_read_web F16 (PySem.W.mg_of X G a16) B cs cl (g_made_web base) (g_read_tie base) (g_read_int base) (g_show_web base)
  have g__law_refused : ∀ base : Heap, Kn l.prog w K mg base "_law_refused" 7 ["_law_thing"] Φ__law_refused := fun base => ok__law_refused F24 (PySem.W.mg_of X G a24) B cs cl (g_read_web base)
  have g__law_told : ∀ base : Heap, Kn l.prog w K mg base "_law_told" 8 ["_law_text_here"] Φ__law_told := fun base => ok__law_told F27 (PySem.W.mg_of X G a27) B cs cl (g_read_web base) (g__law_refused base) (g__law_text base) (g__law_is_web base)
  have g__law_full : ∀ base : Heap, Kn l.prog w K mg base "_law_full" 8 ["_law_cell"] Φ__law_full := fun base => ok__law_full F31 (PySem.W.mg_of X G a31) B cs cl (g__law_stream base) (g__law_take base) (g__law_weight base) (g__law_refused base) (g__law_text base) (g_read_web base)
  exact ⟨PySem.W.fnOf "law" "law" (defArgs s_law) (defBody s_law) (defScope s_law) .none kV32 dc32 pm32 an32 cd32 ct32, fun s v => .of_eq rfl, fun base _ _ => ok_of F32 sc_law len_law (by decide) (fun cdv A outer s H E hr => ⟨_, dv_law hr B cs cl (g__law_stream base) (g__law_cell_at base) (g__law_web base) (g__law_told base) (g__law_text base) (g__law_spoiled base) (g__law_refused base) (g__law_ties_changed base) (g__law_none base) (g__law_take base) (g__law_full base) (g_read_web base), rd_law⟩)⟩
end K07
open PySem PySem.W PyProof.Rows
set_option maxRecDepth 100000 in
set_option maxHeartbeats 0 in
theorem PySem.Challenge.cw_heavycut_k07_no_texts_holds : PySem.Challenge.rw_heavycut_k07_no_texts.Holds := by
  w_on; o_law; k_head; (case hw => w_witness2)
  k_fill
  refine L2.walk_of (l := PySem.Challenge.rw_heavycut_k07_no_texts) (n := 63) (k := 9) (x := "_law_script") (CX := fun _ => L2.CX0) (sp := fun w => Hc.SpD _ K07.Φ_law) rfl (by decide) rfl ⟨rfl, by decide, by decide⟩ (fun w h Y => PySem.W.kIn_of Y) ?F (fun _ _ a ns hl hO hS => K07.law_at hl hO hS) (fun _ _ _ _ _ h => h)
  case F =>
    intro w mg fa h KX G hmg
    refine' K07.all_mk KX G hmg ?a1 ?l1 ?c1 ?k1 ?a2 ?l2 ?c2 ?k2 ?a3 ?l3 ?c3 ?k3 ?a4 ?l4 ?c4 ?k4 ?a5 ?l5 ?c5 ?k5 ?a6 ?l6 ?c6 ?k6 ?a7 ?l7 ?c7 ?k7 ?a8 ?l8 ?c8 ?k8 ?a9 ?l9 ?c9 ?k9 ?a10 ?l10 ?c10 ?k10 ?a11 ?l11 ?c11 ?k11 ?a12 ?l12 ?c12 ?k12 ?a13 ?l13 ?c13 ?k13 ?a14 ?l14 ?c14 ?k14 ?a15 ?l15 ?c15 ?k15 ?a16 ?l16 ?c16 ?k16 ?a17 ?l17 ?c17 ?k17 ?a18 ?l18 ?c18 ?k18 ?a19 ?l19 ?c19 ?k19 ?a20 ?l20 ?c20 ?k20 ?a21 ?l21 ?c21 ?k21 ?a22 ?l22 ?c22 ?k22 ?a23 ?l23 ?c23 ?k23 ?a24 ?l24 ?c24 ?k24 ?a25 ?l25 ?c25 ?k25 ?a26 ?l26 ?c26 ?k26 ?a27 ?l27 ?c27 ?k27 ?a28 ?l28 ?c28 ?k28 ?a29 ?l29 ?c29 ?k29 ?a30 ?l30 ?c30 ?k30 ?a31 ?l31 ?c31 ?k31 ?a32 ?l32 ?c32 ?k32 ?g_CutError ?g_NoWeb ?g_NoText ?g_TooGreat ?iq_CutError ?yq_CutError ?iq_NoWeb ?yq_NoWeb ?iq_NoText ?yq_NoText ?iq_TooGreat ?yq_TooGreat ?bq_CutError ?x_NoText ?k_NoText ?b_NoText ?t_NoText ?s_NoText ?e0_NoText ?e1_NoText ?e2_NoText ?e3_NoText ?e4_NoText ?e5_NoText ?e6_NoText ?e7_NoText ?n_NoText_NoWeb ?n_NoText_TooGreat ?i_NoText_CutError ?y_NoText_CutError ?u_NoText_CutError ?v_NoText ?x_NoWeb ?k_NoWeb ?b_NoWeb ?t_NoWeb ?s_NoWeb ?e0_NoWeb ?e1_NoWeb ?e2_NoWeb ?e3_NoWeb ?e4_NoWeb ?e5_NoWeb ?e6_NoWeb ?e7_NoWeb ?n_NoWeb_NoText ?n_NoWeb_TooGreat ?i_NoWeb_CutError ?y_NoWeb_CutError ?u_NoWeb_CutError ?v_NoWeb ?m_MOST_POINTS ?m_MOST_TIES ?m_MOST_TOP ?m_MOST_BOTTOM ?m_MOST_DIGITS ?z0 ?z1 ?z2 ?z3 ?z4 ?z5 ?z6 ?z7 ?z8 ?z9 ?z10 ?z11 ?z12 ?z13
    (case a1 => k_is); (case l1 => k_is); (case c1 => k_is); (case k1 => k_is); (case a2 => k_is); (case l2 => k_is); (case c2 => k_is); (case k2 => k_is); (case a3 => k_is); (case l3 => k_is); (case c3 => k_is); (case k3 => k_is); (case a4 => k_is); (case l4 => k_is); (case c4 => k_is); (case k4 => k_is); (case a5 => k_is); (case l5 => k_is); (case c5 => k_is); (case k5 => k_is); (case a6 => k_is); (case l6 => k_is); (case c6 => k_is); (case k6 => k_is); (case a7 => k_is); (case l7 => k_is); (case c7 => k_is); (case k7 => k_is); (case a8 => k_is); (case l8 => k_is); (case c8 => k_is); (case k8 => k_is); (case a9 => k_is); (case l9 => k_is); (case c9 => k_is); (case k9 => k_is); (case a10 => k_is); (case l10 => k_is); (case c10 => k_is); (case k10 => k_is); (case a11 => k_is); (case l11 => k_is); (case c11 => k_is); (case k11 => k_is); (case a12 => k_is); (case l12 => k_is); (case c12 => k_is); (case k12 => k_is); (case a13 => k_is); (case l13 => k_is); (case c13 => k_is); (case k13 => k_is); (case a14 => k_is); (case l14 => k_is); (case c14 => k_is); (case k14 => k_is); (case a15 => k_is); (case l15 => k_is); (case c15 => k_is); (case k15 => k_is); (case a16 => k_is); (case l16 => k_is); (case c16 => k_is); (case k16 => k_is); (case a17 => k_is); (case l17 => k_is); (case c17 => k_is); (case k17 => k_is); (case a18 => k_is); (case l18 => k_is); (case c18 => k_is); (case k18 => k_is); (case a19 => k_is); (case l19 => k_is); (case c19 => k_is); (case k19 => k_is); (case a20 => k_is); (case l20 => k_is); (case c20 => k_is); (case k20 => k_is); (case a21 => k_is); (case l21 => k_is); (case c21 => k_is); (case k21 => k_is); (case a22 => k_is); (case l22 => k_is); (case c22 => k_is); (case k22 => k_is); (case a23 => k_is); (case l23 => k_is); (case c23 => k_is); (case k23 => k_is); (case a24 => k_is); (case l24 => k_is); (case c24 => k_is); (case k24 => k_is); (case a25 => k_is); (case l25 => k_is); (case c25 => k_is); (case k25 => k_is); (case a26 => k_is); (case l26 => k_is); (case c26 => k_is); (case k26 => k_is); (case a27 => k_is); (case l27 => k_is); (case c27 => k_is); (case k27 => k_is); (case a28 => k_is); (case l28 => k_is); (case c28 => k_is); (case k28 => k_is); (case a29 => k_is); (case l29 => k_is); (case c29 => k_is); (case k29 => k_is); (case a30 => k_is); (case l30 => k_is); (case c30 => k_is); (case k30 => k_is); (case a31 => k_is); (case l31 => k_is); (case c31 => k_is); (case k31 => k_is); (case a32 => k_is); (case l32 => k_is); (case c32 => k_is); (case k32 => k_is); (case g_CutError => k_is); (case g_NoWeb => k_is); (case g_NoText => k_is); (case g_TooGreat => k_is); (case iq_CutError => k_is); (case yq_CutError => k_is); (case iq_NoWeb => k_is); (case yq_NoWeb => k_is); (case iq_NoText => k_is); (case yq_NoText => k_is); (case iq_TooGreat => k_is); (case yq_TooGreat => k_is); (case bq_CutError => k_is); (case x_NoText => k_exc); (case k_NoText => k_is); (case b_NoText => k_is); (case t_NoText => k_is); (case s_NoText => first | rfl | k_is); (case e0_NoText => k_is); (case e1_NoText => k_is); (case e2_NoText => k_is); (case e3_NoText => k_is); (case e4_NoText => k_is); (case e5_NoText => k_is); (case e6_NoText => k_is); (case e7_NoText => k_is); (case n_NoText_NoWeb => k_is); (case n_NoText_TooGreat => k_is); (case i_NoText_CutError => k_is); (case y_NoText_CutError => k_is); (case u_NoText_CutError => k_is); (case v_NoText => k_is); (case x_NoWeb => k_exc); (case k_NoWeb => k_is); (case b_NoWeb => k_is); (case t_NoWeb => k_is); (case s_NoWeb => first | rfl | k_is); (case e0_NoWeb => k_is); (case e1_NoWeb => k_is); (case e2_NoWeb => k_is); (case e3_NoWeb => k_is); (case e4_NoWeb => k_is); (case e5_NoWeb => k_is); (case e6_NoWeb => k_is); (case e7_NoWeb => k_is); (case n_NoWeb_NoText => k_is); (case n_NoWeb_TooGreat => k_is); (case i_NoWeb_CutError => k_is); (case y_NoWeb_CutError => k_is); (case u_NoWeb_CutError => k_is); (case v_NoWeb => k_is); (case m_MOST_POINTS => k_is); (case m_MOST_TIES => k_is); (case m_MOST_TOP => k_is); (case m_MOST_BOTTOM => k_is); (case m_MOST_DIGITS => k_is); (case z0 => k_is); (case z1 => k_is); (case z2 => k_is); (case z3 => k_is); (case z4 => k_is); (case z5 => k_is); (case z6 => k_is); (case z7 => k_is); (case z8 => k_is); (case z9 => k_is); (case z10 => k_is); (case z11 => k_is); (case z12 => k_is); (case z13 => k_is)
#print axioms PySem.Challenge.cw_heavycut_k07_no_texts_holds
