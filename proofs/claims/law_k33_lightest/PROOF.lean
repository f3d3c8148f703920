import PyProof.Rows.All
import Wide.All
import OpenK.AllK
import Wide.FinOn
import HandS.ForMost
import HandS.Wide
import HandS.Style
import HandS.IsInst
import HandS.Flow
import HandS.TryOnly
import HandS.TupMul
import HandS.ForExc
import HandS.ExcIs
import HandS.Zip
import HandS.SortInts
import HandS.SetFor
import HandS.Conv
import HandS.Walk
import KE.GoesEnum
import HandS.SortOrd
import HandS.Deep
import KE.SortData
import HandS.TupAny
import HandS.NoneIn
import KE.GoesMore
import KE.GoesZip
import HandS.Small
import KE.KMinBuiltin
import HandS.SortKw
import HandS.SetKeys
import KE.DataMinMax
import KE.KDictSum
import PyProof.Transfer
import HandS.Iter
import HandS.List
import HandS.Rev
import HandS.RevRange
import HandS.WordsDict
import PyProof.ReprRoads
import HandS.Strs
import HandS.RevTup
import HandS.ExcValue
import PySem.Challenge.RW_heavycut_k33_lightest
set_option Elab.async false
set_option linter.all false
set_option maxRecDepth 100000
set_option maxHeartbeats 4000000
namespace Hc
open PySem PySem.Spec PyProof.Rows L2

/-! ### data in the heap, apart from the things L that may change -/
def keyD : Key → PyData
  | .inl i => .int i
  | .inr x => .str x
mutual
inductive Rp (L : List Addr) (H : Hp) : V → PyData → Prop
  | non : Rp L H .non .none
  | bl (b : Bool) : Rp L H (.bl b) (.bool b)
  | int (i : Int) : Rp L H (.int i) (.int i)
  | str (x : Str) : Rp L H (.str x) (.str x)
  | lst {a : Addr} {xs : List V} {ds : List PyData} : a ∉ L → H a = some (.lst xs) → RpA L H xs ds → Rp L H (.ref a) (.list ds)
  | tup {a : Addr} {xs : List V} {ds : List PyData} : a ∉ L → H a = some (.tup xs) → RpA L H xs ds → Rp L H (.ref a) (.tuple ds)
  | dct {a : Addr} {kvs : List (Key × V)} {ds : List (PyData × PyData)} : a ∉ L → H a = some (.dK kvs) → RpK L H kvs ds → Rp L H (.ref a) (.dict ds)
inductive RpA (L : List Addr) (H : Hp) : List V → List PyData → Prop
  | nil : RpA L H [] []
  | cons {v : V} {vs : List V} {d : PyData} {ds : List PyData} : Rp L H v d → RpA L H vs ds → RpA L H (v :: vs) (d :: ds)
inductive RpK (L : List Addr) (H : Hp) : List (Key × V) → List (PyData × PyData) → Prop
  | nil : RpK L H [] []
  | cons {k : Key} {v : V} {kvs : List (Key × V)} {d : PyData} {ds : List (PyData × PyData)} : Rp L H v d → RpK L H kvs ds → RpK L H ((k, v) :: kvs) ((keyD k, d) :: ds)
end
/-- what is outside L stays, and stays outside L' -/
def To (L L' : List Addr) (H H' : Hp) : Prop := ∀ a o, a ∉ L → H a = some o → a ∉ L' ∧ H' a = some o
mutual
theorem Rp.toP {L L' : List Addr} {H H' : Hp} (w : To L L' H H') : ∀ {v : V} {d : PyData}, Rp L H v d → Rp L' H' v d
  | _, _, .non => .non
  | _, _, .bl b => .bl b
  | _, _, .int i => .int i
  | _, _, .str x => .str x
  | _, _, .lst n e r => .lst (w _ _ n e).1 (w _ _ n e).2 (RpA.toP w r)
  | _, _, .tup n e r => .tup (w _ _ n e).1 (w _ _ n e).2 (RpA.toP w r)
  | _, _, .dct n e r => .dct (w _ _ n e).1 (w _ _ n e).2 (RpK.toP w r)
theorem RpA.toP {L L' : List Addr} {H H' : Hp} (w : To L L' H H') : ∀ {vs : List V} {ds : List PyData}, RpA L H vs ds → RpA L' H' vs ds
  | _, _, .nil => .nil
  | _, _, .cons a b => .cons (Rp.toP w a) (RpA.toP w b)
theorem RpK.toP {L L' : List Addr} {H H' : Hp} (w : To L L' H H') : ∀ {vs : List (Key × V)} {ds : List (PyData × PyData)}, RpK L H vs ds → RpK L' H' vs ds
  | _, _, .nil => .nil
  | _, _, .cons a b => .cons (Rp.toP w a) (RpK.toP w b)
end
theorem Rp.to {L L' : List Addr} {H H' : Hp} (w : To L L' H H') (d : PyData) (v : V) (h : Rp L H v d) : Rp L' H' v d := h.toP w
theorem RpA.to {L L' : List Addr} {H H' : Hp} (w : To L L' H H') (ds : List PyData) (vs : List V) (h : RpA L H vs ds) : RpA L' H' vs ds := h.toP w
/-- a dict with rows as keys: the keys are the same, the values lie in the heap -/
inductive Rt (L : List Addr) (H : Hp) : List (List Key × V) → List (List Key × PyData) → Prop
  | nil : Rt L H [] []
  | cons {k : List Key} {v : V} {d : PyData} {kvs : List (List Key × V)} {m : List (List Key × PyData)} : Rp L H v d → Rt L H kvs m → Rt L H ((k, v) :: kvs) ((k, d) :: m)
theorem Rt.toP {L L' : List Addr} {H H' : Hp} (w : To L L' H H') : ∀ {kvs : List (List Key × V)} {m : List (List Key × PyData)}, Rt L H kvs m → Rt L' H' kvs m
  | _, _, .nil => .nil
  | _, _, .cons a b => .cons (Rp.toP w a) (Rt.toP w b)
def kindO : HO → Nat
  | .lst _ => 0
  | .tup _ => 1
  | .dK _ => 2
  | .dT _ => 3
  | .frz _ (.dK _) => 2
  | .frz _ (.dT _) => 3
  | _ => 4
/-- what is outside L stays; what is in L stays of its kind -/
structure Wk (L : List Addr) (H H' : Hp) : Prop where
  st : ∀ a o, a ∉ L → H a = some o → H' a = some o
  kd : ∀ a o, H a = some o → ∃ o', H' a = some o' ∧ kindO o' = kindO o
instance {L : List Addr} {H H' : Hp} : CoeFun (Wk L H H') fun _ => ∀ a o, a ∉ L → H a = some o → H' a = some o := ⟨Wk.st⟩
theorem Wk.refl (L : List Addr) (H : Hp) : Wk L H H := ⟨fun _ _ _ h => h, fun _ o h => ⟨o, h, rfl⟩⟩
theorem Wk.trans {L : List Addr} {H H1 H2 : Hp} (a : Wk L H H1) (b : Wk L H1 H2) : Wk L H H2 := ⟨fun x o n h => b x o n (a x o n h), fun x o h => by
  obtain ⟨o1, e1, k1⟩ := a.kd x o h
  obtain ⟨o2, e2, k2⟩ := b.kd x o1 e1
  exact ⟨o2, e2, k2.trans k1⟩⟩
theorem Wk.over {L : List Addr} {H H1 : Hp} {D : Addr} {o : HO} (w : Wk L H H1) (h : H D = none) : Wk L H (upd H1 D o) := ⟨fun a u n e => by
  rw [upd_ne (ne_of_none e h)]; exact w a u n e, fun a u e => by
  obtain ⟨o', e', k⟩ := w.kd a u e
  exact ⟨o', by rw [upd_ne (ne_of_none e h)]; exact e', k⟩⟩
theorem Wk.of {L : List Addr} {H H' : Hp} (h : ∀ a o, H a = some o → H' a = some o) : Wk L H H' := ⟨fun a o _ e => h a o e, fun a o e => ⟨o, h a o e, rfl⟩⟩
theorem Wk.to {L : List Addr} {H H' : Hp} (w : Wk L H H') : To L L H H' := fun a o n h => ⟨n, w a o n h⟩
theorem Wk.new {L : List Addr} {H : Hp} {p : Addr} {o : HO} (h : H p = none) : Wk L H (upd H p o) := .of fun a u e => by
  rw [upd_ne (ne_of_none e h)]; exact e
theorem Wk.mut {L : List Addr} {H : Hp} {p : Addr} {o o0 : HO} (h : p ∈ L) (e0 : H p = some o0) (k : kindO o = kindO o0 := by rfl) : Wk L H (upd H p o) := ⟨fun a u n e => by
  rw [upd_ne (fun z : a = p => n (by rw [z]; exact h))]; exact e, fun a u e => by
  by_cases z : a = p
  · subst z
    rw [e0] at e
    cases e
    exact ⟨o, upd_same, k⟩
  · exact ⟨u, by rw [upd_ne z]; exact e, rfl⟩⟩
theorem Rp.mono {L : List Addr} {H H' : Hp} (w : Wk L H H') {d : PyData} {v : V} (h : Rp L H v d) : Rp L H' v d := Rp.to w.to d v h
theorem RpA.mono {L : List Addr} {H H' : Hp} (w : Wk L H H') {ds : List PyData} {vs : List V} (h : RpA L H vs ds) : RpA L H' vs ds := RpA.to w.to ds vs h
theorem RpA.append {L : List Addr} {H : Hp} : ∀ {xs ys : List V} {ds es : List PyData}, RpA L H xs ds → RpA L H ys es → RpA L H (xs ++ ys) (ds ++ es)
  | _, _, _, _, .nil, h => h
  | _, _, _, _, .cons a b, h => .cons a (RpA.append b h)
theorem RpA.length {L : List Addr} {H : Hp} : ∀ {xs : List V} {ds : List PyData}, RpA L H xs ds → xs.length = ds.length
  | _, _, .nil => rfl
  | _, _, .cons _ b => by simp [RpA.length b]
theorem RpA.get {L : List Addr} {H : Hp} : ∀ {xs : List V} {ds : List PyData} {i : Nat} {d : PyData}, RpA L H xs ds → ds[i]? = some d → ∃ v, xs[i]? = some v ∧ Rp L H v d
  | _, _, _, _, .nil, e => by simp at e
  | _, _, 0, _, .cons a _, e => by simp at e; subst e; exact ⟨_, rfl, a⟩
  | _, _, i + 1, d, .cons _ b, e => by
    obtain ⟨v, h1, h2⟩ := RpA.get (i := i) (d := d) b (by simpa using e)
    exact ⟨v, by simpa using h1, h2⟩
theorem RpA.get' {L : List Addr} {H : Hp} : ∀ {xs : List V} {ds : List PyData} {i : Nat} {v : V}, RpA L H xs ds → xs[i]? = some v → ∃ d, ds[i]? = some d ∧ Rp L H v d
  | _, _, _, _, .nil, e => by simp at e
  | _, _, 0, _, .cons a _, e => by simp at e; subst e; exact ⟨_, rfl, a⟩
  | _, _, i + 1, v, .cons _ b, e => by
    obtain ⟨d, h1, h2⟩ := RpA.get' (i := i) (v := v) b (by simpa using e)
    exact ⟨d, by simpa using h1, h2⟩
theorem RpA.take {L : List Addr} {H : Hp} : ∀ {xs : List V} {ds : List PyData} (n : Nat), RpA L H xs ds → RpA L H (xs.take n) (ds.take n)
  | _, _, 0, _ => by simp only [List.take_zero]; exact .nil
  | _, _, n + 1, .nil => .nil
  | _, _, n + 1, .cons a b => .cons a (RpA.take n b)
theorem RpA.drop {L : List Addr} {H : Hp} : ∀ {xs : List V} {ds : List PyData} (n : Nat), RpA L H xs ds → RpA L H (xs.drop n) (ds.drop n)
  | _, _, 0, h => h
  | _, _, n + 1, .nil => .nil
  | _, _, n + 1, .cons _ b => RpA.drop n b
theorem RpA.set {L : List Addr} {H : Hp} : ∀ {xs : List V} {ds : List PyData} {v : V} {d : PyData} (n : Nat), RpA L H xs ds → Rp L H v d → RpA L H (xs.set n v) (ds.set n d)
  | _, _, _, _, _, .nil, _ => .nil
  | _, _, _, _, 0, .cons _ b, h => .cons h b
  | _, _, _, _, n + 1, .cons a b, h => .cons a (RpA.set n b h)
theorem RpA.reverse {L : List Addr} {H : Hp} : ∀ {xs : List V} {ds : List PyData}, RpA L H xs ds → RpA L H xs.reverse ds.reverse
  | _, _, .nil => .nil
  | _, _, .cons a b => by
    rw [List.reverse_cons, List.reverse_cons]
    exact (RpA.reverse b).append (.cons a .nil)
theorem RpA.ints {L : List Addr} {H : Hp} : ∀ (ns : List Int), RpA L H (ns.map V.int) (ns.map PyData.int)
  | [] => .nil
  | n :: r => .cons (.int n) (RpA.ints r)
theorem RpA.ints_inv {L : List Addr} {H : Hp} : ∀ {ns : List Int} {xs : List V}, RpA L H xs (ns.map PyData.int) → xs = ns.map V.int
  | [], _, h => by cases h; rfl
  | n :: r, _, h => by
    cases h with
    | cons a b => cases a; rw [RpA.ints_inv b]; rfl
theorem RpA.bools_inv {L : List Addr} {H : Hp} : ∀ {ns : List Bool} {xs : List V}, RpA L H xs (ns.map PyData.bool) → xs = ns.map V.bl
  | [], _, h => by cases h; rfl
  | n :: r, _, h => by
    cases h with
    | cons a b => cases a; rw [RpA.bools_inv b]; rfl
mutual
theorem Rp.dp {K : PySem.W.Frag} {L : List Addr} {H : Hp} : ∀ (d : PyData) (v : V), d.canLay0 = true → Rp L H v d → Dp K H v d
  | .none, _, _, h => by cases h; exact .non
  | .bool b, _, _, h => by cases h; exact .bl b
  | .int i, _, _, h => by cases h; exact .int i
  | .str x, _, _, h => by cases h; exact .str x
  | .list ds, _, c, h => by
    cases h with
    | lst n e r => exact .lst (SqL.of e) (RpA.dp ds _ (by simpa [PyData.canLay0] using c) r)
  | .tuple ds, _, c, h => by
    cases h with
    | tup n e r => exact .tup (SqT.of e) (RpA.dp ds _ (by simpa [PyData.canLay0] using c) r)
  | .dict ds, _, c, h => by simp [PyData.canLay0] at c
theorem RpA.dp {K : PySem.W.Frag} {L : List Addr} {H : Hp} : ∀ (ds : List PyData) (vs : List V), PyData.canLayAll0 ds = true → RpA L H vs ds → DpAll K H vs ds
  | [], _, _, h => by cases h; exact .nil
  | d :: ds, _, c, h => by
    cases h with
    | cons a b =>
      have c' : d.canLay0 = true ∧ PyData.canLayAll0 ds = true := by simpa [PyData.canLayAll0, Bool.and_eq_true] using c
      exact .cons (Rp.dp d _ c'.1 a) (RpA.dp ds _ c'.2 b)
end
/-- the type of a datum -/
def tyN : PyData → String
  | .none => "NoneType" | .bool _ => "bool" | .int _ => "int" | .str _ => "str" | .list _ => "list" | .tuple _ => "tuple" | .dict _ => "dict"
theorem Rp.ty {K : PySem.W.Frag} {L : List Addr} {H : Hp} {v : V} {d : PyData} (h : Rp L H v d) : TyX K H v (.type (tyN d)) := by
  cases h with
  | non => exact .base .non
  | bl b => exact .base (.bl b)
  | int i => exact .base (.int i)
  | str x => exact .base (.str x)
  | lst n e r => exact .base (.lst e)
  | tup n e r => exact .base (.tup e)
  | dct n e r => exact .base (.dK e)


theorem Rp.keep {L M : List Addr} {H H' : Hp} (sub : ∀ p ∈ L, p ∈ M) (w : Wk L H H') {d : PyData} {v : V} (h : Rp M H v d) : Rp M H' v d := Rp.to (fun a o n e => ⟨n, w a o (fun z => n (sub a z)) e⟩) d v h
theorem RpA.keep {L M : List Addr} {H H' : Hp} (sub : ∀ p ∈ L, p ∈ M) (w : Wk L H H') {ds : List PyData} {vs : List V} (h : RpA M H vs ds) : RpA M H' vs ds := RpA.to (fun a o n e => ⟨n, w a o (fun z => n (sub a z)) e⟩) ds vs h

/-! ### slots, things that may change -/
inductive SD where
  | u | d (x : PyData) | m (k : Nat) | q (k : Nat) | g (ds : List (PyData × PyData)) | f (es : List PyData) | s (ns : List Int) | v (x : V) | h (φ : Addr → HO)
inductive MD where
  | l (es : List PyData)
  | r (ks : List Nat)
  | k (ds : List (PyData × PyData))
  | t (m : List (List Key × PyData))
  | z (o : Obj) (kvs : List (Key × V)) (ds : List (PyData × PyData))
section
variable {K : PySem.W.Frag}
def MOk (L M : List Addr) (H : Hp) (j : Nat) (p : Addr) : MD → Prop
  | .l es => ∃ xs, H p = some (.lst xs) ∧ RpA M H xs es
  | .r ks => ∃ ps : List Addr, H p = some (.lst (ps.map V.ref)) ∧ ps.length = ks.length ∧ ∀ (i k : Nat) (q : Addr), ks[i]? = some k → ps[i]? = some q → L[k]? = some q ∧ k < j
  | .k ds => ∃ kvs, H p = some (.dK kvs) ∧ RpK M H kvs ds
  | .t m => ∃ kvs, H p = some (.dT kvs) ∧ Rt M H kvs m
  | .z o kvs ds => H p = some (.frz o (.dK kvs)) ∧ RpK M H kvs ds
def NTup : HO → Prop
  | .tup _ => False
  | _ => True
/-- L: what may change, as ms tells it; M: all that is no part of data -/
structure At (L M : List Addr) (ms : List MD) (H : Hp) : Prop where
  nd : L.Nodup
  sub : ∀ p ∈ L, p ∈ M
  al : ∀ p ∈ M, ∃ o, H p = some o ∧ NTup o
  ln : L.length = ms.length
  ok : ∀ (k : Nat) (p : Addr) (m : MD), L[k]? = some p → ms[k]? = some m → MOk L M H k p m
section
variable {L M : List Addr} {ms : List MD} {H H' : Hp}
theorem MOk.toL {L L' M M' : List Addr} {p : Addr} {j : Nat} {m : MD} (t : To M M' H H') (hl : ∀ (k : Nat) (q : Addr), k < j → L[k]? = some q → L'[k]? = some q) (e : H' p = H p) (h : MOk L M H j p m) : MOk L' M' H' j p m := by
  cases m with
  | l es =>
    obtain ⟨xs, e1, r⟩ := h
    exact ⟨xs, by rw [e]; exact e1, RpA.to t _ _ r⟩
  | r ks =>
    obtain ⟨ps, e1, ln, r⟩ := h
    exact ⟨ps, by rw [e]; exact e1, ln, fun i k q h1 h2 => ⟨hl k q (r i k q h1 h2).2 (r i k q h1 h2).1, (r i k q h1 h2).2⟩⟩
  | k ds =>
    obtain ⟨kvs, e1, r⟩ := h
    exact ⟨kvs, by rw [e]; exact e1, r.toP t⟩
  | t ds =>
    obtain ⟨kvs, e1, r⟩ := h
    exact ⟨kvs, by rw [e]; exact e1, r.toP t⟩
  | z o kvs ds =>
    obtain ⟨e1, r⟩ := h
    exact ⟨by rw [e]; exact e1, r.toP t⟩
theorem MOk.to {L M M' : List Addr} {p : Addr} {j : Nat} {m : MD} (t : To M M' H H') (e : H' p = H p) (h : MOk L M H j p m) : MOk L M' H' j p m := h.toL t (fun _ _ _ q => q) e
/-- what is a list later, was one -/
theorem Wk.lstB {L : List Addr} {p : Addr} {xs : List V} (w : Wk L H H') (h : H p ≠ none) (e : H' p = some (.lst xs)) : ∃ ys, H p = some (.lst ys) := by
  cases q : H p with
  | none => exact absurd q h
  | some o =>
    obtain ⟨o', e', k⟩ := w.kd p o q
    rw [e] at e'
    cases e'
    cases o <;> first | exact ⟨_, rfl⟩ | cases k | (rename_i b; cases b <;> cases k)
theorem At.fresh (h : At L M ms H) {p : Addr} (e : H p = none) : p ∉ M := fun z => by
  obtain ⟨o, eo, _⟩ := h.al p z
  rw [e] at eo
  cases eo
theorem At.freshL (h : At L M ms H) {p : Addr} (e : H p = none) : p ∉ L := fun z => h.fresh e (h.sub p z)
theorem At.wk (h : At L M ms H) (w : Wk L H H') : To M M H H' := fun a o n e => ⟨n, w a o (fun z => n (h.sub a z)) e⟩
theorem At.new (h : At L M ms H) {p : Addr} {o : HO} (e : H p = none) : At L M ms (upd H p o) := by
  have ne : ∀ q, q ∈ M → q ≠ p := fun q hq z => h.fresh e (z ▸ hq)
  refine ⟨h.nd, h.sub, fun q hq => by rw [upd_ne (ne q hq)]; exact h.al q hq, h.ln, fun k q m e1 e2 => ?_⟩
  exact (h.ok k q m e1 e2).to (h.wk (Wk.new e)) (upd_ne (ne q (h.sub q (List.mem_of_getElem? e1))))
theorem At.put (h : At L M ms H) {k : Nat} {p : Addr} {xs xs0 : List V} {es : List PyData} (hk : L[k]? = some p) (e0 : H p = some (.lst xs0)) (r : RpA M H xs es) : At L M (ms.set k (.l es)) (upd H p (.lst xs)) := by
  have hp : p ∈ L := List.mem_of_getElem? hk
  have t : To M M H (upd H p (.lst xs)) := h.wk (Wk.mut hp e0)
  refine ⟨h.nd, h.sub, fun q hq => ?_, by rw [List.length_set]; exact h.ln, fun j q m e1 e2 => ?_⟩
  · by_cases e : q = p
    · subst e; rw [upd_same]; exact ⟨_, rfl, trivial⟩
    · rw [upd_ne e]; exact h.al q hq
  · by_cases hj : j = k
    · subst hj
      rw [e1] at hk
      cases hk
      have hl : j < ms.length := by rw [← h.ln]; exact (List.getElem?_eq_some_iff.mp e1).1
      rw [List.getElem?_set_self hl] at e2
      cases e2
      exact ⟨xs, upd_same, RpA.to t _ _ r⟩
    · rw [List.getElem?_set_ne (Ne.symm hj)] at e2
      have hq : q ≠ p := fun z => by
        subst z
        obtain ⟨l1, e1'⟩ := List.getElem?_eq_some_iff.mp e1
        obtain ⟨l2, e2'⟩ := List.getElem?_eq_some_iff.mp hk
        exact hj ((List.getElem_inj h.nd).mp (e1'.trans e2'.symm))
      exact (h.ok j q m e1 e2).to t (upd_ne hq)
theorem At.get (h : At L M ms H) {k : Nat} {p : Addr} {es : List PyData} (hk : L[k]? = some p) (e : ms[k]? = some (.l es)) : ∃ xs, H p = some (.lst xs) ∧ RpA M H xs es := h.ok k p _ hk e
/-- a new thing that may change -/
theorem to_new {p : Addr} (h : At L M ms H) (hp : H p = none) (w : Wk L H H') : To M (M ++ [p]) H H' := fun a o n e =>
  ⟨fun z => (List.mem_append.mp z).elim n fun z => ne_of_none e hp (by simpa using z), w a o (fun z => n (h.sub a z)) e⟩
theorem At.grow {p : Addr} {xs : List V} {es : List PyData} (h : At L M ms H) (hp : H p = none) (r : RpA M H xs es) : At (L ++ [p]) (M ++ [p]) (ms ++ [.l es]) (upd H p (.lst xs)) := by
  have n := h.freshL hp
  have t : To M (M ++ [p]) H (upd H p (.lst xs)) := to_new h hp (Wk.new hp)
  refine ⟨List.nodup_append.mpr ⟨h.nd, by simp, fun a ha b hb e => n (by simp at hb; subst hb e; exact ha)⟩, ?_, ?_, by simp [h.ln], fun k q m e1 e2 => ?_⟩
  · intro q hq
    rcases List.mem_append.mp hq with z | z
    · exact List.mem_append_left _ (h.sub q z)
    · exact List.mem_append_right _ z
  · intro q hq
    by_cases e : q = p
    · subst e; rw [upd_same]; exact ⟨_, rfl, trivial⟩
    · rw [upd_ne e]
      rcases List.mem_append.mp hq with z | z
      · exact h.al q z
      · exact absurd (by simpa using z) e
  · by_cases hk : k < L.length
    · rw [List.getElem?_append_left hk] at e1
      rw [List.getElem?_append_left (by rw [← h.ln]; exact hk)] at e2
      have hq : q ≠ p := fun z => n (z ▸ List.mem_of_getElem? e1)
      exact (h.ok k q m e1 e2).toL t (fun k' q' _ z => by rw [List.getElem?_append_left (List.getElem?_eq_some_iff.mp z).1]; exact z) (upd_ne hq)
    · have hk2 : k = L.length := by
        have := (List.getElem?_eq_some_iff.mp e1).1
        simp at this
        omega
      subst hk2
      simp at e1
      subst e1
      rw [h.ln] at e2
      simp at e2
      subst e2
      exact ⟨xs, upd_same, RpA.to t _ _ r⟩
theorem to_less {p : Addr} : To (M ++ [p]) M H H := fun a o n e => ⟨fun z => n (List.mem_append_left _ z), e⟩
theorem At.drop {p : Addr} {m : MD} (h : At (L ++ [p]) (M ++ [p]) (ms ++ [m]) H) (hl : ∀ q ∈ L, q ∈ M) : At L M ms H :=
  ⟨(List.nodup_append.mp h.nd).1, hl, fun q hq => h.al q (List.mem_append_left _ hq), by have := h.ln; simp at this; exact this, fun k q x e1 e2 => by
    have h1 : k < L.length := (List.getElem?_eq_some_iff.mp e1).1
    have h2 : k < ms.length := (List.getElem?_eq_some_iff.mp e2).1
    exact (h.ok k q x (by rw [List.getElem?_append_left h1]; exact e1) (by rw [List.getElem?_append_left h2]; exact e2)).toL to_less (fun k' q' hlt z => by rw [List.getElem?_append_left (by omega)] at z; exact z) rfl⟩
theorem At.last {p : Addr} {es : List PyData} (h : At (L ++ [p]) (M ++ [p]) (ms ++ [.l es]) H) : ∃ xs, H p = some (.lst xs) ∧ RpA (M ++ [p]) H xs es := by
  have hl : L.length = ms.length := by have := h.ln; simp at this; exact this
  exact h.ok L.length p (.l es) (by simp) (by rw [hl]; simp)
theorem At.putK (h : At L M ms H) {k : Nat} {p : Addr} {xs xs0 : List (Key × V)} {es : List (PyData × PyData)} (hk : L[k]? = some p) (e0 : H p = some (.dK xs0)) (r : RpK M H xs es) : At L M (ms.set k (.k es)) (upd H p (.dK xs)) := by
  have hp : p ∈ L := List.mem_of_getElem? hk
  have t : To M M H (upd H p (.dK xs)) := h.wk (Wk.mut hp e0)
  refine ⟨h.nd, h.sub, fun q hq => ?_, by rw [List.length_set]; exact h.ln, fun j q m e1 e2 => ?_⟩
  · by_cases e : q = p
    · subst e; rw [upd_same]; exact ⟨_, rfl, trivial⟩
    · rw [upd_ne e]; exact h.al q hq
  · by_cases hj : j = k
    · subst hj
      rw [e1] at hk
      cases hk
      have hl : j < ms.length := by rw [← h.ln]; exact (List.getElem?_eq_some_iff.mp e1).1
      rw [List.getElem?_set_self hl] at e2
      cases e2
      exact ⟨xs, upd_same, r.toP t⟩
    · rw [List.getElem?_set_ne (Ne.symm hj)] at e2
      have hq : q ≠ p := fun z => by
        subst z
        obtain ⟨l1, e1'⟩ := List.getElem?_eq_some_iff.mp e1
        obtain ⟨l2, e2'⟩ := List.getElem?_eq_some_iff.mp hk
        exact hj ((List.getElem_inj h.nd).mp (e1'.trans e2'.symm))
      exact (h.ok j q m e1 e2).to t (upd_ne hq)
theorem At.growK {p : Addr} {xs : List (Key × V)} {es : List (PyData × PyData)} (h : At L M ms H) (hp : H p = none) (r : RpK M H xs es) : At (L ++ [p]) (M ++ [p]) (ms ++ [.k es]) (upd H p (.dK xs)) := by
  have n := h.freshL hp
  have t : To M (M ++ [p]) H (upd H p (.dK xs)) := to_new h hp (Wk.new hp)
  refine ⟨List.nodup_append.mpr ⟨h.nd, by simp, fun a ha b hb e => n (by simp at hb; subst hb e; exact ha)⟩, ?_, ?_, by simp [h.ln], fun k q m e1 e2 => ?_⟩
  · intro q hq
    rcases List.mem_append.mp hq with z | z
    · exact List.mem_append_left _ (h.sub q z)
    · exact List.mem_append_right _ z
  · intro q hq
    by_cases e : q = p
    · subst e; rw [upd_same]; exact ⟨_, rfl, trivial⟩
    · rw [upd_ne e]
      rcases List.mem_append.mp hq with z | z
      · exact h.al q z
      · exact absurd (by simpa using z) e
  · by_cases hk : k < L.length
    · rw [List.getElem?_append_left hk] at e1
      rw [List.getElem?_append_left (by rw [← h.ln]; exact hk)] at e2
      have hq : q ≠ p := fun z => n (z ▸ List.mem_of_getElem? e1)
      exact (h.ok k q m e1 e2).toL t (fun k' q' _ z => by rw [List.getElem?_append_left (List.getElem?_eq_some_iff.mp z).1]; exact z) (upd_ne hq)
    · have hk2 : k = L.length := by
        have := (List.getElem?_eq_some_iff.mp e1).1
        simp at this
        omega
      subst hk2
      simp at e1
      subst e1
      rw [h.ln] at e2
      simp at e2
      subst e2
      exact ⟨xs, upd_same, r.toP t⟩
theorem At.lastK {p : Addr} {es : List (PyData × PyData)} (h : At (L ++ [p]) (M ++ [p]) (ms ++ [.k es]) H) : ∃ xs, H p = some (.dK xs) ∧ RpK (M ++ [p]) H xs es := by
  have hl : L.length = ms.length := by have := h.ln; simp at this; exact this
  exact h.ok L.length p (.k es) (by simp) (by rw [hl]; simp)
theorem At.getK (h : At L M ms H) {k : Nat} {p : Addr} {es : List (PyData × PyData)} (hk : L[k]? = some p) (e : ms[k]? = some (.k es)) : ∃ xs, H p = some (.dK xs) ∧ RpK M H xs es := h.ok k p _ hk e
end
/-- a dict, of either kind -/
def IsDc (H : Hp) (p : Addr) : Prop := ∃ o, H p = some o ∧ (kindO o = 2 ∨ kindO o = 3)
def SlOk (K : PySem.W.Frag) (L M : List Addr) (H : Hp) : SD → V → Prop
  | .d x, v => Rp M H v x
  | .m k, v => ∃ p, v = .ref p ∧ L[k]? = some p ∧ ∃ xs, H p = some (.lst xs)
  | .q k, v => ∃ p, v = .ref p ∧ L[k]? = some p ∧ IsDc H p
  | .s ns, v => ∃ a, v = .ref a ∧ ((a ∉ M ∧ Rd H a (.lst (ns.map V.int))) ∨ ∀ H' : Hp, SqL K H' a (ns.map V.int))
  | .v x, v => v = x
  | .h φ, v => ∃ a, v = .ref a ∧ a ∉ M ∧ H a = some (φ a)
  | _, _ => False
section
variable {L M : List Addr} {ms : List MD} {H H' : Hp} {σ : L2.St} {ds : List SD}
theorem kind_lst {p : Addr} {xs : List V} (kd : ∀ a o, H a = some o → ∃ o', H' a = some o' ∧ kindO o' = kindO o) (e : H p = some (.lst xs)) : ∃ ys, H' p = some (.lst ys) := by
  obtain ⟨o, e', k⟩ := kd p _ e
  cases o <;> first | exact ⟨_, e'⟩ | cases k | (rename_i b; cases b <;> cases k)
theorem IsDc.kind {p : Addr} (kd : ∀ a o, H a = some o → ∃ o', H' a = some o' ∧ kindO o' = kindO o) (h : IsDc H p) : IsDc H' p := by
  obtain ⟨o, e, k⟩ := h
  obtain ⟨o', e', k'⟩ := kd p o e
  exact ⟨o', e', by rw [k']; exact k⟩
theorem IsDc.notL {p : Addr} {xs : List V} (h : IsDc H p) (e : H p = some (.lst xs)) : False := by
  obtain ⟨o, e1, k⟩ := h
  rw [e] at e1
  cases e1
  rcases k with k | k <;> cases k
theorem SlOk.to {L' M' : List Addr} (t : To M M' H H') (kd : ∀ a o, H a = some o → ∃ o', H' a = some o' ∧ kindO o' = kindO o) (hl : ∀ (k : Nat) (p : Addr), L[k]? = some p → L'[k]? = some p) : ∀ {s : SD} {v : V}, SlOk K L M H s v → SlOk K L' M' H' s v
  | .d x, v, h => Rp.to t _ _ h
  | .m k, v, ⟨p, e, q, xs, x⟩ => ⟨p, e, hl k p q, kind_lst kd x⟩
  | .q k, v, ⟨p, e, q, x⟩ => ⟨p, e, hl k p q, x.kind kd⟩
  | .s ns, v, ⟨a, e, .inl ⟨n, q⟩⟩ => ⟨a, e, .inl (by
      rcases q with q | ⟨o, q⟩
      · exact ⟨(t _ _ n q).1, .inl (t _ _ n q).2⟩
      · exact ⟨(t _ _ n q).1, .inr ⟨o, (t _ _ n q).2⟩⟩)⟩
  | .s ns, v, ⟨a, e, .inr q⟩ => ⟨a, e, .inr q⟩
  | .v x, v, h => h
  | .h φ, v, ⟨a, e, n, q⟩ => ⟨a, e, (t _ _ n q).1, (t _ _ n q).2⟩
  | .u, _, h => h.elim
  | .f _, _, h => h.elim
  | .g _, _, h => h.elim
theorem SlOk.mono (h : At L M ms H) (w : Wk L H H') {s : SD} {v : V} (r : SlOk K L M H s v) : SlOk K L M H' s v := r.to (h.wk w) w.kd fun _ _ e => e
def Sl (K : PySem.W.Frag) (L M : List Addr) (σ : L2.St) (H : Hp) (ds : List SD) : Prop := ∀ (i : Nat) (s : SD), ds[i]? = some s → match s with | .u => i < σ.length | s => ∃ v, σ[i]? = some (some v) ∧ SlOk K L M H s v
theorem Sl.lt (h : Sl K L M σ H ds) {i : Nat} (hi : i < ds.length) : i < σ.length := by
  have q := h i ds[i] (by simp [hi])
  split at q
  · exact q
  · obtain ⟨v, e, _⟩ := q
    exact (List.getElem?_eq_some_iff.mp e).1
theorem Sl.get (h : Sl K L M σ H ds) {i : Nat} {s : SD} (e : ds[i]? = some s) (n : s ≠ .u) : ∃ v, σ[i]? = some (some v) ∧ SlOk K L M H s v := by
  have q := h i s e
  split at q
  · exact absurd rfl n
  · exact q
theorem Sl.to {L' M' : List Addr} (t : To M M' H H') (kd : ∀ a o, H a = some o → ∃ o', H' a = some o' ∧ kindO o' = kindO o) (hl : ∀ (k : Nat) (p : Addr), L[k]? = some p → L'[k]? = some p) (h : Sl K L M σ H ds) : Sl K L' M' σ H' ds := fun i s e => by
  have q := h i s e
  split at q
  · exact q
  · obtain ⟨v, e1, e2⟩ := q
    exact ⟨v, e1, e2.to t kd hl⟩
theorem Sl.mono (a : At L M ms H) (w : Wk L H H') (h : Sl K L M σ H ds) : Sl K L M σ H' ds := h.to (a.wk w) w.kd fun _ _ e => e
theorem Sl.set (h : Sl K L M σ H ds) (i : Nat) {s : SD} {v : V} (r : SlOk K L M H s v) : Sl K L M (σ.set i (some v)) H (ds.set i s) := fun j t e => by
  by_cases hj : j = i
  · subst hj
    have hl : j < ds.length := by
      have := (List.getElem?_eq_some_iff.mp e).1
      rwa [List.length_set] at this
    rw [List.getElem?_set_self hl] at e
    cases e
    have hs := h.lt hl
    cases s with
    | u => exact r.elim
    | f _ => exact r.elim
    | g _ => exact r.elim
    | d x => exact ⟨v, List.getElem?_set_self hs, r⟩
    | m k => exact ⟨v, List.getElem?_set_self hs, r⟩
    | q k => exact ⟨v, List.getElem?_set_self hs, r⟩
    | s ns => exact ⟨v, List.getElem?_set_self hs, r⟩
    | v x => exact ⟨v, List.getElem?_set_self hs, r⟩
    | h φ => exact ⟨v, List.getElem?_set_self hs, r⟩
  · rw [List.getElem?_set_ne (Ne.symm hj)] at e
    have q := h j t e
    split at q
    · show j < (σ.set i (some v)).length
      rw [List.length_set]; exact q
    · obtain ⟨w, e1, e2⟩ := q
      exact ⟨w, by rw [List.getElem?_set_ne (Ne.symm hj)]; exact e1, e2⟩
theorem Sl.forget (h : Sl K L M σ H ds) (i : Nat) (o : Option V) : Sl K L M (σ.set i o) H (ds.set i .u) := fun j t e => by
  by_cases hj : j = i
  · subst hj
    have hl : j < ds.length := by
      have := (List.getElem?_eq_some_iff.mp e).1
      rwa [List.length_set] at this
    rw [List.getElem?_set_self hl] at e
    cases e
    show j < (σ.set j o).length
    rw [List.length_set]; exact h.lt hl
  · rw [List.getElem?_set_ne (Ne.symm hj)] at e
    have q := h j t e
    split at q
    · show j < (σ.set i o).length
      rw [List.length_set]; exact q
    · obtain ⟨w, e1, e2⟩ := q
      exact ⟨w, by rw [List.getElem?_set_ne (Ne.symm hj)]; exact e1, e2⟩
end
def wipeD (ds : List SD) : List Nat → List SD
  | [] => ds
  | v :: vs => (wipeD ds vs).set v .u
theorem Sl.wipe {L M : List Addr} {σ : L2.St} {H : Hp} {ds : List SD} (h : Sl K L M σ H ds) : ∀ vs : List Nat, Sl K L M (L2.wipe σ vs) H (wipeD ds vs)
  | [] => h
  | v :: vs => (Sl.wipe h vs).forget v none
/-- what comes out of an evaluation that began at H -/
def Out (K : PySem.W.Frag) (L M : List Addr) (H H' : Hp) (ms : List MD) (v : V) : SD → Prop
  | .f es => ∃ p, v = .ref p ∧ H p = none ∧ p ∉ M ∧ At (L ++ [p]) (M ++ [p]) (ms ++ [.l es]) H' ∧ ∀ q ∈ L, q ∈ M
  | .g es => ∃ p, v = .ref p ∧ H p = none ∧ p ∉ M ∧ At (L ++ [p]) (M ++ [p]) (ms ++ [.k es]) H' ∧ ∀ q ∈ L, q ∈ M
  | s => At L M ms H' ∧ SlOk K L M H' s v
def dd : SD → SD
  | .f es => .d (.list es)
  | .g es => .d (.dict es)
  | s => s
section
variable {L M : List Addr} {ms : List MD} {H0 H H' : Hp} {v : V}
theorem Out.dd : ∀ {s : SD}, Out K L M H H' ms v s → Out K L M H H' ms v (dd s)
  | .f es, ⟨p, e, _, n, a, sb⟩ => by
    obtain ⟨xs, e1, r⟩ := a.last
    refine ⟨a.drop sb, ?_⟩
    subst e
    exact .lst n e1 (RpA.to to_less _ _ r)
  | .g es, ⟨p, e, _, n, a, sb⟩ => by
    obtain ⟨xs, e1, r⟩ := a.lastK
    refine ⟨a.drop sb, ?_⟩
    subst e
    exact .dct n e1 (r.toP to_less)
  | .d x, h => h
  | .m k, h => h
  | .q k, h => h
  | .s ns, h => h
  | .v x, h => h
  | .h x, h => h
  | .u, h => h
theorem none_back (a : At L M ms H) {p : Addr} (w : Wk L H0 H) (n : p ∉ M) (h : H p = none) : H0 p = none := by
  cases q : H0 p with
  | none => rfl
  | some o =>
    rw [w p o (fun z => n (a.sub p z)) q] at h
    cases h
theorem Out.back (a : At L M ms0 H) (w : Wk L H0 H) : ∀ {s : SD}, Out K L M H H' ms v s → Out K L M H0 H' ms v s
  | .f es, ⟨p, e, h, n, b, sb⟩ => ⟨p, e, none_back a w n h, n, b, sb⟩
  | .g es, ⟨p, e, h, n, b, sb⟩ => ⟨p, e, none_back a w n h, n, b, sb⟩
  | .d x, h => h
  | .m k, h => h
  | .q k, h => h
  | .s ns, h => h
  | .v x, h => h
  | .h x, h => h
  | .u, h => h
theorem Out.at : ∀ {s : SD}, Out K L M H H' ms v s → At L M ms H'
  | .f es, ⟨p, _, _, _, a, sb⟩ => a.drop sb
  | .g es, ⟨p, _, _, _, a, sb⟩ => a.drop sb
  | .d _, h => h.1
  | .m _, h => h.1
  | .q _, h => h.1
  | .s _, h => h.1
  | .v _, h => h.1
  | .h _, h => h.1
  | .u, h => h.1
theorem Out.of (a : At L M ms H') : ∀ {s : SD}, SlOk K L M H' s v → Out K L M H H' ms v s
  | .d x, h => ⟨a, h⟩
  | .m k, h => ⟨a, h⟩
  | .q k, h => ⟨a, h⟩
  | .s ns, h => ⟨a, h⟩
  | .v x, h => ⟨a, h⟩
  | .h x, h => ⟨a, h⟩
  | .u, h => h.elim
  | .f _, h => h.elim
  | .g _, h => h.elim
theorem Out.sl : ∀ {s : SD}, Out K L M H H' ms v s → SlOk K L M H' (Hc.dd s) v
  | .f es, h => (Out.dd h).2
  | .g es, h => (Out.dd h).2
  | .d _, h => h.2
  | .m _, h => h.2
  | .q _, h => h.2
  | .s _, h => h.2
  | .v _, h => h.2
  | .h _, h => h.2
  | .u, h => h.2
end

/-! ### evaluations, at the level of data -/
abbrev RS := SD → List MD → Prop
def E (K : PySem.W.Frag) (te : TE) (ds : List SD) (ms : List MD) (R : RS) : Prop :=
  ∀ (L M : List Addr) (σ : L2.St) (H : Hp), Sl K L M σ H ds → At L M ms H → ∀ Q : VK, (∀ s v H' ms', Wk L H H' → Out K L M H H' ms' v s → R s ms' → Q v H') → te σ H Q
def ET (K : PySem.W.Frag) (tt : TT) (ds : List SD) (ms : List MD) (R : Bool → List MD → Prop) : Prop :=
  ∀ (L M : List Addr) (σ : L2.St) (H : Hp), Sl K L M σ H ds → At L M ms H → ∀ Q : Bool → Hp → Prop, (∀ b H' ms', Wk L H H' → At L M ms' H' → R b ms' → Q b H') → tt σ H Q
def SlsOk (K : PySem.W.Frag) (L M : List Addr) (H : Hp) : List SD → List V → Prop
  | [], vs => vs = []
  | s :: r, vs => ∃ v t, vs = v :: t ∧ SlOk K L M H s v ∧ SlsOk K L M H r t
theorem SlsOk.mono {L M : List Addr} {ms : List MD} {H H' : Hp} (h : At L M ms H) (w : Wk L H H') : ∀ {as : List SD} {vs : List V}, SlsOk K L M H as vs → SlsOk K L M H' as vs
  | [], _, r => r
  | s :: r, _, ⟨v, t, e, a, b⟩ => ⟨v, t, e, a.mono h w, SlsOk.mono h w b⟩
def EA (K : PySem.W.Frag) (ta : TA) (ds : List SD) (ms : List MD) (R : List SD → List MD → Prop) : Prop :=
  ∀ (L M : List Addr) (σ : L2.St) (H : Hp), Sl K L M σ H ds → At L M ms H → ∀ Q : List V → Hp → Prop, (∀ as vs H' ms', Wk L H H' → At L M ms' H' → SlsOk K L M H' as vs → R as ms' → Q vs H') → ta σ H Q
/-- operations on values -/
def RR (K : PySem.W.Frag) (r : R2) (a b : SD) (ms : List MD) (R : RS) : Prop :=
  ∀ (L M : List Addr) (H : Hp) (x y : V), At L M ms H → SlOk K L M H a x → SlOk K L M H b y → ∀ Q : VK, (∀ s v H' ms', Wk L H H' → Out K L M H H' ms' v s → R s ms' → Q v H') → r x y H Q
def RU (K : PySem.W.Frag) (r : V → Hp → VK → Prop) (a : SD) (ms : List MD) (R : RS) : Prop :=
  ∀ (L M : List Addr) (H : Hp) (x : V), At L M ms H → SlOk K L M H a x → ∀ Q : VK, (∀ s v H' ms', Wk L H H' → Out K L M H H' ms' v s → R s ms' → Q v H') → r x H Q
def RC (K : PySem.W.Frag) (r : List V → Hp → VK → Prop) (as : List SD) (ms : List MD) (R : RS) : Prop :=
  ∀ (L M : List Addr) (H : Hp) (vs : List V), At L M ms H → SlsOk K L M H as vs → ∀ Q : VK, (∀ s v H' ms', Wk L H H' → Out K L M H H' ms' v s → R s ms' → Q v H') → r vs H Q

variable {te ta tb tc : TE} {tt tu : TT} {tA tB : TA} {ds : List SD} {ms : List MD} {R : RS}
theorem e_var {i : Nat} {x : PyData} (h : ds[i]? = some (.d x)) (r : R (.d x) ms) : E K (tVar i) ds ms R := fun L M σ H hS hA Q q => by
  obtain ⟨v, e, o⟩ := hS.get h (fun z => nomatch z)
  exact ⟨v, e, q _ v H ms (Wk.refl L H) (.of hA o) r⟩
theorem e_varm {i k : Nat} (h : ds[i]? = some (.m k)) (r : R (.m k) ms) : E K (tVar i) ds ms R := fun L M σ H hS hA Q q => by
  obtain ⟨v, e, o⟩ := hS.get h (fun z => nomatch z)
  exact ⟨v, e, q _ v H ms (Wk.refl L H) (.of hA o) r⟩
theorem e_vars {i : Nat} {ns : List Int} (h : ds[i]? = some (.s ns)) (r : R (.s ns) ms) : E K (tVar i) ds ms R := fun L M σ H hS hA Q q => by
  obtain ⟨v, e, o⟩ := hS.get h (fun z => nomatch z)
  exact ⟨v, e, q _ v H ms (Wk.refl L H) (.of hA o) r⟩
theorem e_varv {i : Nat} {x : V} (h : ds[i]? = some (.v x)) (r : R (.v x) ms) : E K (tVar i) ds ms R := fun L M σ H hS hA Q q => by
  obtain ⟨v, e, o⟩ := hS.get h (fun z => nomatch z)
  exact ⟨v, e, q _ v H ms (Wk.refl L H) (.of hA o) r⟩
theorem e_cv {x : V} (r : R (.v x) ms) : E K (tC x) ds ms R := fun L M σ H hS hA Q q => q (.v x) x H ms (Wk.refl L H) ⟨hA, rfl⟩ r
theorem e_int {i : Int} (r : R (.d (.int i)) ms) : E K (tC (.int i)) ds ms R := fun L M σ H hS hA Q q => q (.d (.int i)) _ H ms (Wk.refl L H) ⟨hA, .int i⟩ r
theorem e_bl {i : Bool} (r : R (.d (.bool i)) ms) : E K (tC (.bl i)) ds ms R := fun L M σ H hS hA Q q => q (.d (.bool i)) _ H ms (Wk.refl L H) ⟨hA, .bl i⟩ r
theorem e_non (r : R (.d .none) ms) : E K (tC .non) ds ms R := fun L M σ H hS hA Q q => q (.d .none) _ H ms (Wk.refl L H) ⟨hA, .non⟩ r
theorem e_str {x : Str} (r : R (.d (.str x)) ms) : E K (tC (.str x)) ds ms R := fun L M σ H hS hA Q q => q (.d (.str x)) _ H ms (Wk.refl L H) ⟨hA, .str x⟩ r
/-- two operands, then the operation -/
theorem e_op {r : R2} (h : E K ta ds ms fun a ms1 => E K tb ds ms1 fun b ms2 => RR K r (dd a) (dd b) ms2 R) : E K (tOp r ta tb) ds ms R := fun L M σ H hS hA Q q =>
  h L M σ H hS hA _ fun a x H1 ms1 w1 o1 h1 => h1 L M σ H1 (hS.mono hA w1) o1.at _ fun b y H2 ms2 w2 o2 h2 =>
    h2 L M H2 x y o2.at (o1.sl.mono o1.at w2) o2.sl Q fun s v H3 ms3 w3 o3 r3 => q s v H3 ms3 ((w1.trans w2).trans w3) (o3.back o2.at (w1.trans w2)) r3
theorem e_un {r : V → Hp → VK → Prop} (h : E K ta ds ms fun a ms1 => RU K r (dd a) ms1 R) : E K (tUn r ta) ds ms R := fun L M σ H hS hA Q q =>
  h L M σ H hS hA _ fun a x H1 ms1 w1 o1 h1 => h1 L M H1 x o1.at o1.sl Q fun s v H3 ms3 w3 o3 r3 => q s v H3 ms3 (w1.trans w3) (o3.back o1.at w1) r3
theorem ea_nil {R : List SD → List MD → Prop} (r : R [] ms) : EA K tNil ds ms R := fun L M σ H hS hA Q q => q [] [] H ms (Wk.refl L H) hA rfl r
theorem ea_cons {R : List SD → List MD → Prop} (h : E K ta ds ms fun a ms1 => EA K tA ds ms1 fun as ms2 => R (dd a :: as) ms2) : EA K (tCons ta tA) ds ms R := fun L M σ H hS hA Q q =>
  h L M σ H hS hA _ fun a x H1 ms1 w1 o1 h1 => h1 L M σ H1 (hS.mono hA w1) o1.at _ fun as vs H2 ms2 w2 a2 o2 r2 => q (dd a :: as) (x :: vs) H2 ms2 (w1.trans w2) a2 ⟨x, vs, rfl, o1.sl.mono o1.at w2, o2⟩ r2
theorem e_cb {r : List V → Hp → VK → Prop} (h : EA K tA ds ms fun as ms1 => RC K r as ms1 R) : E K (tCB r tA) ds ms R := fun L M σ H hS hA Q q =>
  h L M σ H hS hA _ fun as vs H1 ms1 w1 a1 o1 h1 => h1 L M H1 vs a1 o1 Q fun s v H3 ms3 w3 o3 r3 => q s v H3 ms3 (w1.trans w3) (o3.back a1 w1) r3
theorem SlsOk.data {L M : List Addr} {H : Hp} : ∀ {as : List PyData} {vs : List V}, SlsOk K L M H (as.map .d) vs → RpA M H vs as
  | [], _, h => by cases h; exact .nil
  | a :: r, _, ⟨v, t, e, x, y⟩ => by subst e; exact .cons x (SlsOk.data y)
/-- new tuples and lists -/
theorem e_tup (h : EA K tA ds ms fun as ms1 => ∃ xs, as = xs.map SD.d ∧ xs.length ≤ 10000 ∧ R (.d (.tuple xs)) ms1) : E K (tTup tA) ds ms R := fun L M σ H hS hA Q q =>
  h L M σ H hS hA _ fun as vs H1 ms1 w1 a1 o1 ⟨xs, e, hz, r⟩ => by
    subst e
    have hr := o1.data
    refine ⟨by rw [hr.length]; exact Nat.le_trans hz (by decide), fun p hp => ?_⟩
    refine q (.d (.tuple xs)) _ _ ms1 (w1.trans (Wk.new hp)) ⟨a1.new hp, ?_⟩ r
    exact .tup (a1.fresh hp) upd_same (RpA.to (a1.wk (Wk.new hp)) _ _ hr)
theorem out_new {L M : List Addr} {H H1 : Hp} {ms1 : List MD} {p : Addr} {xs : List V} {es : List PyData} (a1 : At L M ms1 H1) (w1 : Wk L H H1) (hp : H1 p = none) (hr : RpA M H1 xs es) : Out K L M H (upd H1 p (.lst xs)) ms1 (.ref p) (.f es) :=
  ⟨p, rfl, none_back a1 w1 (a1.fresh hp) hp, a1.fresh hp, a1.grow hp hr, a1.sub⟩
theorem out_newK {L M : List Addr} {H H1 : Hp} {ms1 : List MD} {p : Addr} {xs : List (Key × V)} {es : List (PyData × PyData)} (a1 : At L M ms1 H1) (w1 : Wk L H H1) (hp : H1 p = none) (hr : RpK M H1 xs es) : Out K L M H (upd H1 p (.dK xs)) ms1 (.ref p) (.g es) :=
  ⟨p, rfl, none_back a1 w1 (a1.fresh hp) hp, a1.fresh hp, a1.growK hp hr, a1.sub⟩
theorem e_lst (h : EA K tA ds ms fun as ms1 => ∃ xs, as = xs.map SD.d ∧ xs.length ≤ 10000 ∧ R (.f xs) ms1) : E K (tLst tA) ds ms R := fun L M σ H hS hA Q q =>
  h L M σ H hS hA _ fun as vs H1 ms1 w1 a1 o1 ⟨xs, e, hz, r⟩ => by
    subst e
    have hr := o1.data
    refine ⟨by rw [hr.length]; exact Nat.le_trans hz (by decide), fun p hp => ?_⟩
    exact q (.f xs) _ _ ms1 (w1.trans (Wk.new hp)) (out_new a1 w1 hp hr) r
/-! operations -/
theorem rr_I0 {g : Int → Int → Int} {a b : SD} (h : ∃ i j, a = .d (.int i) ∧ b = .d (.int j) ∧ R (.d (.int (g i j))) ms) : RR K (rI0 fun i j => .int (g i j)) a b ms R := fun L M H x y hA ha hb Q q => by
  obtain ⟨i, j, rfl, rfl, r⟩ := h
  cases ha; cases hb
  exact ⟨i, j, rfl, rfl, q (.d _) _ H ms (Wk.refl L H) ⟨hA, .int _⟩ r⟩
theorem rr_B0 {g : Int → Int → Bool} {a b : SD} (h : ∃ i j, a = .d (.int i) ∧ b = .d (.int j) ∧ R (.d (.bool (g i j))) ms) : RR K (rI0 fun i j => .bl (g i j)) a b ms R := fun L M H x y hA ha hb Q q => by
  obtain ⟨i, j, rfl, rfl, r⟩ := h
  cases ha; cases hb
  exact ⟨i, j, rfl, rfl, q (.d _) _ H ms (Wk.refl L H) ⟨hA, .bl _⟩ r⟩
theorem rr_I {C : Int → Int → Prop} {g : Int → Int → Int} {a b : SD} (h : ∃ i j, a = .d (.int i) ∧ b = .d (.int j) ∧ C i j ∧ R (.d (.int (g i j))) ms) : RR K (rI C fun i j => .int (g i j)) a b ms R := fun L M H x y hA ha hb Q q => by
  obtain ⟨i, j, rfl, rfl, c, r⟩ := h
  cases ha; cases hb
  exact ⟨i, j, rfl, rfl, c, q (.d _) _ H ms (Wk.refl L H) ⟨hA, .int _⟩ r⟩
theorem ru_I {g : Int → Int} {a : SD} (h : ∃ i, a = .d (.int i) ∧ R (.d (.int (g i))) ms) : RU K (rU fun i => .int (g i)) a ms R := fun L M H x hA ha Q q => by
  obtain ⟨i, rfl, r⟩ := h
  cases ha
  exact ⟨i, rfl, q (.d _) _ H ms (Wk.refl L H) ⟨hA, .int _⟩ r⟩
/-- a slot's datum, as it may be read -/
inductive Sv (ms : List MD) : SD → PyData → Prop
  | d (x : PyData) : Sv ms (.d x) x
  | m {k : Nat} {es : List PyData} : ms[k]? = some (.l es) → Sv ms (.m k) (.list es)
  | s (ns : List Int) : Sv ms (.s ns) (.list (ns.map .int))
section
variable {L M : List Addr} {H : Hp} {s : SD} {x : PyData} {v : V}
theorem Sv.lst {es : List PyData} (h : Sv ms s (.list es)) (hA : At L M ms H) (o : SlOk K L M H s v) : ∃ a xs, v = .ref a ∧ SqL K H a xs ∧ RpA M H xs es := by
  cases h with
  | d =>
    cases o with
    | lst n e r => exact ⟨_, _, rfl, SqL.of e, r⟩
  | m e =>
    obtain ⟨p, rfl, hp, hls⟩ := o
    obtain ⟨xs, e1, r⟩ := hA.get hp e
    exact ⟨p, xs, rfl, SqL.of e1, r⟩
  | s ns =>
    obtain ⟨a, rfl, ⟨_, q⟩ | q⟩ := o
    · exact ⟨a, _, rfl, .inl q, RpA.ints ns⟩
    · exact ⟨a, _, rfl, q H, RpA.ints ns⟩
theorem Sv.tup {es : List PyData} (h : Sv ms s (.tuple es)) (o : SlOk K L M H s v) : ∃ a xs, v = .ref a ∧ H a = some (.tup xs) ∧ RpA M H xs es := by
  cases h with
  | d =>
    cases o with
    | tup n e r => exact ⟨_, _, rfl, e, r⟩
theorem Sv.dp (h : Sv ms s x) (hA : At L M ms H) (o : SlOk K L M H s v) (c : x.canLay0 = true) : Dp K H v x := by
  cases h with
  | d => exact Rp.dp _ _ c o
  | m e =>
    obtain ⟨a, xs, rfl, q, r⟩ := Sv.lst (.m e) hA o
    exact .lst q (RpA.dp _ _ (by simpa [PyData.canLay0] using c) r)
  | s ns =>
    obtain ⟨a, xs, rfl, q, r⟩ := Sv.lst (.s ns) hA o
    exact .lst q (RpA.dp _ _ (by simpa [PyData.canLay0] using c) r)
theorem Sv.ty (h : Sv ms s x) (hA : At L M ms H) (o : SlOk K L M H s v) (hs : ∀ ns, s ≠ .s ns) : TyX K H v (.type (tyN x)) := by
  cases h with
  | d => exact Rp.ty o
  | m e =>
    obtain ⟨p, rfl, hp, hls⟩ := o
    obtain ⟨xs, e1, r⟩ := hA.get hp e
    exact .base (.lst e1)
  | s ns => exact absurd rfl (hs ns)
end
theorem rr_eq {a b : SD} (h : ∃ x y, Sv ms a x ∧ Sv ms b y ∧ SeqAt.shaped x = true ∧ SeqAt.shaped y = true ∧ R (.d (.bool (PyData.eqv x y))) ms) : RR K (rEqD K) a b ms R := fun L M H u v hA ha hb Q q => by
  obtain ⟨x, y, ea, eb, s1, s2, r⟩ := h
  exact ⟨x, y, ea.dp hA ha (SeqAt.canLay_of_shaped s1), eb.dp hA hb (SeqAt.canLay_of_shaped s2), s1, s2, q (.d _) _ H ms (Wk.refl L H) ⟨hA, .bl _⟩ r⟩
theorem rr_ne {a b : SD} (h : ∃ x y, Sv ms a x ∧ Sv ms b y ∧ SeqAt.shaped x = true ∧ SeqAt.shaped y = true ∧ R (.d (.bool (!PyData.eqv x y))) ms) : RR K (rNeD K) a b ms R := fun L M H u v hA ha hb Q q => by
  obtain ⟨x, y, ea, eb, s1, s2, r⟩ := h
  exact ⟨x, y, ea.dp hA ha (SeqAt.canLay_of_shaped s1), eb.dp hA hb (SeqAt.canLay_of_shaped s2), s1, s2, q (.d _) _ H ms (Wk.refl L H) ⟨hA, .bl _⟩ r⟩
end
end Hc

namespace Hc
open PySem PySem.Spec PyProof.Rows L2
section
variable {K : PySem.W.Frag} {te ta tb tc tl : TE} {tt tu : TT} {tA tB : TA} {ds : List SD} {ms : List MD} {R : RS}
/-! ### tests -/
theorem et_test {RB : Bool → List MD → Prop} (h : E K te ds ms fun s ms1 => ∃ b, s = .d (.bool b) ∧ RB b ms1) : ET K (tTest te) ds ms RB := fun L M σ H hS hA Q q =>
  h L M σ H hS hA _ fun s v H1 ms1 w o ⟨b, e, r⟩ => by
    subst e
    obtain ⟨a, z⟩ := o
    cases z
    exact ⟨b, rfl, q b H1 ms1 w a r⟩
theorem et_B {RB : Bool → List MD → Prop} (h : E K te ds ms fun s ms1 => ∃ b, s = .d (.bool b) ∧ RB b ms1) : ET K (L2.tB te) ds ms RB := fun L M σ H hS hA Q q =>
  h L M σ H hS hA _ fun s v H1 ms1 w o ⟨b, e, r⟩ => by
    subst e
    obtain ⟨a, z⟩ := o
    cases z
    exact ⟨b, rfl, q b H1 ms1 w a r⟩
theorem et_and {RB : Bool → List MD → Prop} (h : ET K tt ds ms fun b ms1 => (b = true → ET K tu ds ms1 RB) ∧ (b = false → RB false ms1)) : ET K (tAnd tt tu) ds ms RB := fun L M σ H hS hA Q q =>
  h L M σ H hS hA _ fun b H1 ms1 w a ⟨r1, r2⟩ => by
    cases b with
    | true =>
      show tu σ H1 Q
      exact r1 rfl L M σ H1 (hS.mono hA w) a Q fun c H2 ms2 w2 a2 r => q c H2 ms2 (w.trans w2) a2 r
    | false => exact q false H1 ms1 w a (r2 rfl)
theorem et_or {RB : Bool → List MD → Prop} (h : ET K tt ds ms fun b ms1 => (b = true → RB true ms1) ∧ (b = false → ET K tu ds ms1 RB)) : ET K (tOr tt tu) ds ms RB := fun L M σ H hS hA Q q =>
  h L M σ H hS hA _ fun b H1 ms1 w a ⟨r1, r2⟩ => by
    cases b with
    | false =>
      show tu σ H1 Q
      exact r2 rfl L M σ H1 (hS.mono hA w) a Q fun c H2 ms2 w2 a2 r => q c H2 ms2 (w.trans w2) a2 r
    | true => exact q true H1 ms1 w a (r1 rfl)
theorem et_not {RB : Bool → List MD → Prop} (h : ET K tt ds ms fun b ms1 => RB (!b) ms1) : ET K (tNot tt) ds ms RB := fun L M σ H hS hA Q q =>
  h L M σ H hS hA _ fun b H1 ms1 w a r => q (!b) H1 ms1 w a r
theorem et_yes {RB : Bool → List MD → Prop} (h : RB true ms) : ET K tYes ds ms RB := fun L M σ H hS hA Q q => q true H ms (Wk.refl L H) hA h
theorem e_and (h : E K ta ds ms fun s ms1 => ∃ b, s = .d (.bool b) ∧ (b = true → E K tb ds ms1 R) ∧ (b = false → R (.d (.bool false)) ms1)) : E K (tAndV ta tb) ds ms R := fun L M σ H hS hA Q q =>
  h L M σ H hS hA _ fun s v H1 ms1 w o ⟨b, e, r1, r2⟩ => by
    subst e
    obtain ⟨a, z⟩ := o
    cases z
    refine ⟨b, rfl, ?_⟩
    cases b with
    | true =>
      show tb σ H1 Q
      exact r1 rfl L M σ H1 (hS.mono hA w) a Q fun s v H2 ms2 w2 o2 r => q s v H2 ms2 (w.trans w2) (o2.back a w) r
    | false => exact q (.d (.bool false)) _ H1 ms1 w ⟨a, .bl false⟩ (r2 rfl)
theorem e_or (h : E K ta ds ms fun s ms1 => ∃ b, s = .d (.bool b) ∧ (b = true → R (.d (.bool true)) ms1) ∧ (b = false → E K tb ds ms1 R)) : E K (tOrV ta tb) ds ms R := fun L M σ H hS hA Q q =>
  h L M σ H hS hA _ fun s v H1 ms1 w o ⟨b, e, r1, r2⟩ => by
    subst e
    obtain ⟨a, z⟩ := o
    cases z
    refine ⟨b, rfl, ?_⟩
    cases b with
    | false =>
      show tb σ H1 Q
      exact r2 rfl L M σ H1 (hS.mono hA w) a Q fun s v H2 ms2 w2 o2 r => q s v H2 ms2 (w.trans w2) (o2.back a w) r
    | true => exact q (.d (.bool true)) _ H1 ms1 w ⟨a, .bl true⟩ (r1 rfl)
theorem e_not (h : E K ta ds ms fun s ms1 => ∃ b, s = .d (.bool b) ∧ R (.d (.bool (!b))) ms1) : E K (tNotV ta) ds ms R := fun L M σ H hS hA Q q =>
  h L M σ H hS hA _ fun s v H1 ms1 w o ⟨b, e, r⟩ => by
    subst e
    obtain ⟨a, z⟩ := o
    cases z
    exact ⟨b, rfl, q (.d (.bool (!b))) _ H1 ms1 w ⟨a, .bl (!b)⟩ r⟩
theorem e_if (h : ET K tt ds ms fun b ms1 => (b = true → E K ta ds ms1 R) ∧ (b = false → E K tb ds ms1 R)) : E K (tIf tt ta tb) ds ms R := fun L M σ H hS hA Q q =>
  h L M σ H hS hA _ fun b H1 ms1 w a ⟨r1, r2⟩ => by
    cases b with
    | true =>
      show ta σ H1 Q
      exact r1 rfl L M σ H1 (hS.mono hA w) a Q fun s v H2 ms2 w2 o2 r => q s v H2 ms2 (w.trans w2) (o2.back a w) r
    | false =>
      show tb σ H1 Q
      exact r2 rfl L M σ H1 (hS.mono hA w) a Q fun s v H2 ms2 w2 o2 r => q s v H2 ms2 (w.trans w2) (o2.back a w) r
theorem e_chain {r r' : R2} (h : E K ta ds ms fun a ms1 => E K tb ds ms1 fun b ms2 => RR K r (dd a) (dd b) ms2 fun s ms3 => ∃ k, s = .d (.bool k) ∧ (k = true → E K tc ds ms3 fun c ms4 => ∀ b', b' = dd b → RR K r' b' (dd c) ms4 R) ∧ (k = false → R (.d (.bool false)) ms3)) :
    E K (tChain r r' ta tb tc) ds ms R := fun L M σ H hS hA Q q =>
  h L M σ H hS hA _ fun a x H1 ms1 w1 o1 h1 => h1 L M σ H1 (hS.mono hA w1) o1.at _ fun b y H2 ms2 w2 o2 h2 =>
    h2 L M H2 x y o2.at (o1.sl.mono o1.at w2) o2.sl _ fun s z H3 ms3 w3 o3 ⟨k, e, k1, k2⟩ => by
      subst e
      obtain ⟨a3, zz⟩ := o3
      cases zz
      refine ⟨k, rfl, ?_⟩
      have w13 := (w1.trans w2).trans w3
      cases k with
      | true =>
        show tc σ H3 _
        exact k1 rfl L M σ H3 (hS.mono hA w13) a3 _ fun c u H4 ms4 w4 o4 h4 => h4 _ rfl L M H4 y u o4.at ((o2.sl.mono o2.at w3).mono a3 w4) o4.sl Q fun s v H5 ms5 w5 o5 r5 => q s v H5 ms5 ((w13.trans w4).trans w5) (o5.back o4.at (w13.trans w4)) r5
      | false => exact q (.d (.bool false)) _ H3 ms3 w13 ⟨a3, .bl false⟩ (k2 rfl)
/-! ### more operations -/
theorem atI_of {M : List Addr} {H : Hp} {xs : List V} {es : List PyData} {i : Int} {d : PyData} (r : RpA M H xs es) (h : atI es i = some d) : ∃ v, atI xs i = some v ∧ Rp M H v d := by
  unfold atI at h ⊢
  rw [r.length]
  cases e : ixN es.length i with
  | none => rw [e] at h; cases h
  | some j =>
    rw [e] at h
    obtain ⟨v, e1, e2⟩ := r.get (show es[j]? = some d from h)
    exact ⟨v, e1, e2⟩
theorem rr_ixL {a b : SD} (h : ∃ es i d, Sv ms a (.list es) ∧ b = .d (.int i) ∧ atI es i = some d ∧ R (.d d) ms) : RR K (rIxL K) a b ms R := fun L M H x y hA ha hb Q q => by
  obtain ⟨es, i, d, sa, rfl, e, r⟩ := h
  cases hb
  obtain ⟨p, xs, rfl, hq, hr⟩ := sa.lst hA ha
  obtain ⟨v, e1, e2⟩ := atI_of hr e
  exact ⟨p, xs, i, v, rfl, rfl, hq, e1, q (.d d) v H ms (Wk.refl L H) ⟨hA, e2⟩ r⟩
theorem rr_ixT {a b : SD} (h : ∃ es i d, Sv ms a (.tuple es) ∧ b = .d (.int i) ∧ atI es i = some d ∧ R (.d d) ms) : RR K (rIxT K) a b ms R := fun L M H x y hA ha hb Q q => by
  obtain ⟨es, i, d, sa, rfl, e, r⟩ := h
  cases hb
  obtain ⟨p, xs, rfl, hq, hr⟩ := sa.tup ha
  obtain ⟨v, e1, e2⟩ := atI_of hr e
  exact ⟨p, xs, i, v, rfl, rfl, SqT.of hq, e1, q (.d d) v H ms (Wk.refl L H) ⟨hA, e2⟩ r⟩
theorem rr_isB {a b : SD} (h : ∃ i j, a = .d (.bool i) ∧ b = .d (.bool j) ∧ R (.d (.bool (decide (i = j)))) ms) : RR K rIsB a b ms R := fun L M H x y hA ha hb Q q => by
  obtain ⟨i, j, rfl, rfl, r⟩ := h
  cases ha; cases hb
  exact ⟨i, j, rfl, rfl, q (.d _) _ H ms (Wk.refl L H) ⟨hA, .bl _⟩ r⟩
theorem rr_notB {a b : SD} (h : ∃ i j, a = .d (.bool i) ∧ b = .d (.bool j) ∧ R (.d (.bool (!decide (i = j)))) ms) : RR K rNotB a b ms R := fun L M H x y hA ha hb Q q => by
  obtain ⟨i, j, rfl, rfl, r⟩ := h
  cases ha; cases hb
  exact ⟨i, j, rfl, rfl, q (.d _) _ H ms (Wk.refl L H) ⟨hA, .bl _⟩ r⟩
theorem cat_lst {M : List Addr} {H : Hp} {x : V} {es : List PyData} (h : Rp M H x (.list es)) : ∃ p xs, x = .ref p ∧ H p = some (.lst xs) ∧ RpA M H xs es := by
  cases h with
  | lst n e r => exact ⟨_, _, rfl, e, r⟩
theorem rr_cat {a b : SD} (h : ∃ es fs, a = .d (.list es) ∧ b = .d (.list fs) ∧ es.length + fs.length ≤ 10000 ∧ R (.f (es ++ fs)) ms) : RR K rCat a b ms R := fun L M H x y hA ha hb Q q => by
  obtain ⟨es, fs, rfl, rfl, hz, r⟩ := h
  obtain ⟨p, xs, rfl, e1, r1⟩ := cat_lst ha
  obtain ⟨p2, ys, rfl, e2, r2⟩ := cat_lst hb
  refine ⟨p, p2, xs, ys, rfl, rfl, e1, e2, by rw [r1.length, r2.length]; exact Nat.le_trans hz (by decide), fun l hl => ?_⟩
  exact q (.f (es ++ fs)) _ _ ms (Wk.new hl) (out_new hA (Wk.refl L H) hl (r1.append r2)) r
/-! ### built-ins -/
theorem rc_abs {as : List SD} (h : ∃ i, as = [.d (.int i)] ∧ R (.d (.int (if i < 0 then -i else i))) ms) : RC K (fun xs H Q => ∃ i, xs = [.int i] ∧ Q (.int (if i < 0 then -i else i)) H) as ms R := fun L M H vs hA ha Q q => by
  obtain ⟨i, rfl, r⟩ := h
  obtain ⟨v, t, rfl, hv, rfl⟩ := ha
  cases hv
  exact ⟨i, rfl, q (.d _) _ H ms (Wk.refl L H) ⟨hA, .int _⟩ r⟩
theorem rc_max {as : List SD} (h : ∃ i j, as = [.d (.int i), .d (.int j)] ∧ R (.d (.int (if j > i then j else i))) ms) : RC K (fun xs H Q => ∃ i j, xs = [.int i, .int j] ∧ Q (.int (if j > i then j else i)) H) as ms R := fun L M H vs hA ha Q q => by
  obtain ⟨i, j, rfl, r⟩ := h
  obtain ⟨v, t, rfl, hv, v2, t2, rfl, hv2, rfl⟩ := ha
  cases hv; cases hv2
  exact ⟨i, j, rfl, q (.d _) _ H ms (Wk.refl L H) ⟨hA, .int _⟩ r⟩
theorem rc_min {as : List SD} (h : ∃ i j, as = [.d (.int i), .d (.int j)] ∧ R (.d (.int (if j < i then j else i))) ms) : RC K (fun xs H Q => ∃ i j, xs = [.int i, .int j] ∧ Q (.int (if j < i then j else i)) H) as ms R := fun L M H vs hA ha Q q => by
  obtain ⟨i, j, rfl, r⟩ := h
  obtain ⟨v, t, rfl, hv, v2, t2, rfl, hv2, rfl⟩ := ha
  cases hv; cases hv2
  exact ⟨i, j, rfl, q (.d _) _ H ms (Wk.refl L H) ⟨hA, .int _⟩ r⟩
theorem rc_len {as : List SD} (h : ∃ s es, as = [s] ∧ (Sv ms s (.list es) ∨ Sv ms s (.tuple es)) ∧ R (.d (.int es.length)) ms) : RC K (fun xs H Q => ∃ p ys, xs = [.ref p] ∧ (SqL K H p ys ∨ SqT K H p ys) ∧ Q (.int ys.length) H) as ms R := fun L M H vs hA ha Q q => by
  obtain ⟨s, es, rfl, sv, r⟩ := h
  obtain ⟨v, t, rfl, hv, rfl⟩ := ha
  rcases sv with sv | sv
  · obtain ⟨p, xs, rfl, hq, hr⟩ := sv.lst hA hv
    rw [← hr.length] at r
    exact ⟨p, xs, rfl, .inl hq, q (.d _) _ H ms (Wk.refl L H) ⟨hA, .int _⟩ r⟩
  · obtain ⟨p, xs, rfl, hq, hr⟩ := sv.tup hv
    rw [← hr.length] at r
    exact ⟨p, xs, rfl, .inr (SqT.of hq), q (.d _) _ H ms (Wk.refl L H) ⟨hA, .int _⟩ r⟩
theorem rc_str {as : List SD} (h : ∃ i, as = [.d (.int i)] ∧ i.natAbs.log2 < 1920 ∧ R (.d (.str (toString i))) ms) : RC K (fun xs H Q => ∃ i : Int, xs = [.int i] ∧ i.natAbs.log2 < 1920 ∧ Q (.str (toString i)) H) as ms R := fun L M H vs hA ha Q q => by
  obtain ⟨i, rfl, hi, r⟩ := h
  obtain ⟨v, t, rfl, hv, rfl⟩ := ha
  cases hv
  exact ⟨i, rfl, hi, q (.d _) _ H ms (Wk.refl L H) ⟨hA, .str _⟩ r⟩
theorem rc_tuple {as : List SD} (h : ∃ s es, as = [s] ∧ (Sv ms s (.list es) ∨ Sv ms s (.tuple es)) ∧ R (.d (.tuple es)) ms) :
    RC K (fun xs H Q => ∃ p ys, xs = [.ref p] ∧ ((SqL K H p ys ∧ ∀ l, H l = none → Q (.ref l) (upd H l (.tup ys))) ∨ (SqT K H p ys ∧ Q (.ref p) H))) as ms R := fun L M H vs hA ha Q q => by
  obtain ⟨s, es, rfl, sv, r⟩ := h
  obtain ⟨v, t, rfl, hv, rfl⟩ := ha
  rcases sv with sv | sv
  · obtain ⟨p, xs, rfl, hq, hr⟩ := sv.lst hA hv
    refine ⟨p, xs, rfl, .inl ⟨hq, fun l hl => ?_⟩⟩
    exact q (.d (.tuple es)) _ _ ms (Wk.new hl) ⟨hA.new hl, .tup (hA.fresh hl) upd_same (RpA.to (hA.wk (Wk.new hl)) _ _ hr)⟩ r
  · have hv2 : Rp M H v (.tuple es) := by cases sv; exact hv
    obtain ⟨p, xs, rfl, hq, hr⟩ := sv.tup hv
    exact ⟨p, xs, rfl, .inr ⟨SqT.of hq, q (.d (.tuple es)) _ H ms (Wk.refl L H) ⟨hA, hv2⟩ r⟩⟩
theorem rc_list {as : List SD} (h : ∃ s es, as = [s] ∧ (Sv ms s (.list es) ∨ Sv ms s (.tuple es)) ∧ R (.f es) ms) :
    RC K (fun xs H Q => ∃ p ys, xs = [.ref p] ∧ (SqL K H p ys ∨ SqT K H p ys) ∧ ∀ l, H l = none → Q (.ref l) (upd H l (.lst ys))) as ms R := fun L M H vs hA ha Q q => by
  obtain ⟨s, es, rfl, sv, r⟩ := h
  obtain ⟨v, t, rfl, hv, rfl⟩ := ha
  rcases sv with sv | sv
  · obtain ⟨p, xs, rfl, hq, hr⟩ := sv.lst hA hv
    exact ⟨p, xs, rfl, .inl hq, fun l hl => q (.f es) _ _ ms (Wk.new hl) (out_new hA (Wk.refl L H) hl hr) r⟩
  · obtain ⟨p, xs, rfl, hq, hr⟩ := sv.tup hv
    exact ⟨p, xs, rfl, .inr (SqT.of hq), fun l hl => q (.f es) _ _ ms (Wk.new hl) (out_new hA (Wk.refl L H) hl hr) r⟩
theorem rc_all {as : List SD} (h : ∃ (s : SD) (bs : List Bool), as = [s] ∧ Sv ms s (.list (bs.map .bool)) ∧ R (.d (.bool (bs.all id))) ms) : RC K (rAll K) as ms R := fun L M H vs hA ha Q q => by
  obtain ⟨s, bs, rfl, sv, r⟩ := h
  obtain ⟨v, t, rfl, hv, rfl⟩ := ha
  obtain ⟨p, xs, rfl, hq, hr⟩ := sv.lst hA hv
  rw [RpA.bools_inv hr] at hq
  exact ⟨p, bs, rfl, hq, q (.d _) _ H ms (Wk.refl L H) ⟨hA, .bl _⟩ r⟩
/-- isinstance -/
def inst (d : PyData) (T : String) : Bool := (kitB (tyN d) T).getD false
theorem e_isi {T : String} (hT : ∀ d, kitB (tyN d) T = some (inst d T)) (h : E K te ds ms fun s ms1 => ∃ x, Sv ms1 (dd s) x ∧ (∀ ns, dd s ≠ .s ns) ∧ R (.d (.bool (inst x T))) ms1) : E K (tCB (rIsi K) (tCons te (tCons (tC (.ty T)) tNil))) ds ms R := fun L M σ H hS hA Q q =>
  h L M σ H hS hA _ fun s v H1 ms1 w o ⟨x, sv, hs, r⟩ => ⟨v, .ty T, .type (tyN x), .type T, inst x T, rfl, .ty T, sv.ty o.at o.sl hs, kit_ty (hT x), q (.d _) _ H1 ms1 w ⟨o.at, .bl _⟩ r⟩
theorem e_isiT {T U : String} (hT : ∀ d, kitB (tyN d) T = some (inst d T)) (hU : ∀ d, kitB (tyN d) U = some (inst d U)) (h : E K te ds ms fun s ms1 => ∃ x, Sv ms1 (dd s) x ∧ (∀ ns, dd s ≠ .s ns) ∧ R (.d (.bool (inst x T || inst x U))) ms1) :
    E K (tCB (rIsiT K) (tCons te (tCons (tTup (tCons (tC (.ty T)) (tCons (tC (.ty U)) tNil))) tNil))) ds ms R := fun L M σ H hS hA Q q =>
  h L M σ H hS hA _ fun s v H1 ms1 w o ⟨x, sv, hs, r⟩ => ⟨by show 2 ≤ sizeLine; decide, fun p hp => by
    have a1 := o.at
    have k1 : PySem.W.kitAny K (.type (tyN x)) [.type T, .type U] = some (inst x T || inst x U) := by
      refine kitAny_cons (kit_ty (hT x)) (fun hb => ?_) (fun hb => by rw [hb]; rfl)
      rw [hb, Bool.false_or]
      refine kitAny_cons (kit_ty (hU x)) (fun hb => ?_) (fun hb => hb)
      rw [hb]; rfl
    have ty : TyX K (upd H1 p (.tup [.ty T, .ty U])) v (.type (tyN x)) := sv.ty (a1.new hp) (o.sl.mono a1 (Wk.new hp)) hs
    exact ⟨v, p, [.ty T, .ty U], .type (tyN x), [.type T, .type U], inst x T || inst x U, rfl, upd_same, .cons (.ty T) (.cons (.ty U) .nil), ty, k1, q (.d _) _ _ ms1 (w.trans (Wk.new hp)) ⟨a1.new hp, .bl _⟩ r⟩⟩
/-! ### methods of lists that may change -/
theorem e_pop (h : E K ta ds ms fun s ms1 => ∃ k es d, s = .m k ∧ ms1[k]? = some (.l (es ++ [d])) ∧ R (.d d) (ms1.set k (.l es))) : E K (tBM0 K "list" rPop ta) ds ms R := fun L M σ H hS hA Q q =>
  h L M σ H hS hA _ fun s v H1 ms1 w o ⟨k, es, d, e, em, r⟩ => by
    subst e
    obtain ⟨a1, p, rfl, hp, hls⟩ := o
    obtain ⟨xs, e1, r1⟩ := a1.get hp em
    have hpL : p ∈ L := List.mem_of_getElem? hp
    have hl : xs.length = es.length + 1 := by rw [r1.length]; simp
    obtain ⟨y, e2, r2⟩ := r1.get (i := es.length) (d := d) (by simp)
    refine ⟨.inl ⟨rfl, xs, SqL.of e1⟩, p, xs, y, rfl, rfl, e1, by rw [hl]; exact e2, ?_⟩
    have r3 : RpA M H1 xs.dropLast es := by
      have z := r1.take es.length
      rw [List.take_left] at z
      rw [List.dropLast_eq_take, hl]
      exact z
    exact q (.d d) y _ _ (w.trans (Wk.mut hpL e1)) ⟨a1.put hp e1 r3, Rp.to (a1.wk (Wk.mut hpL e1)) _ _ r2⟩ r
theorem e_popAt0 (h : E K ta ds ms fun s ms1 => ∃ k es d, s = .m k ∧ ms1[k]? = some (.l (d :: es)) ∧ R (.d d) (ms1.set k (.l es))) : E K (tBM K "list" rPopAt ta (tCons (tC (.int 0)) tNil)) ds ms R := fun L M σ H hS hA Q q =>
  h L M σ H hS hA _ fun s v H1 ms1 w o ⟨k, es, d, e, em, r⟩ => by
    subst e
    obtain ⟨a1, p, rfl, hp, hls⟩ := o
    obtain ⟨xs, e1, r1⟩ := a1.get hp em
    have hpL : p ∈ L := List.mem_of_getElem? hp
    cases r1 with
    | @cons y ys _ _ r2 r3 =>
      refine ⟨.inl ⟨rfl, _, SqL.of e1⟩, p, y :: ys, 0, 0, y, rfl, rfl, e1, by decide, by decide, ?_, rfl, ?_⟩
      · unfold seqIndex?
        simp
      · exact q (.d d) y _ _ (w.trans (Wk.mut hpL e1)) ⟨a1.put hp e1 r3, Rp.to (a1.wk (Wk.mut hpL e1)) _ _ r2⟩ r
theorem e_append (h : E K ta ds ms fun s ms1 => ∃ k, s = .m k ∧ E K te ds ms1 fun x ms2 => ∃ d es, dd x = .d d ∧ ms2[k]? = some (.l es) ∧ es.length < 10000 ∧ R (.d .none) (ms2.set k (.l (es ++ [d])))) : E K (tBM K "list" rAppend ta (tCons te tNil)) ds ms R := fun L M σ H hS hA Q q =>
  h L M σ H hS hA _ fun s v H1 ms1 w o ⟨k, e, h2⟩ => by
    subst e
    obtain ⟨a1, p, rfl, hp, hls⟩ := o
    have hpL : p ∈ L := List.mem_of_getElem? hp
    have hk : k < ms1.length := by rw [← a1.ln]; exact (List.getElem?_eq_some_iff.mp hp).1
    · obtain ⟨xs0, e0⟩ := hls
      refine ⟨.inl ⟨rfl, xs0, SqL.of e0⟩, ?_⟩
      refine h2 L M σ H1 (hS.mono hA w) a1 _ fun x y H2 ms2 w2 o2 ⟨d, es, ed, em, hz, r⟩ => ?_
      have a2 := o2.at
      have ry := o2.sl
      rw [ed] at ry
      obtain ⟨xs, e1, r1⟩ := a2.get hp em
      refine ⟨p, xs, y, rfl, rfl, e1, by rw [r1.length]; exact Nat.lt_trans hz (by decide), ?_⟩
      exact q (.d .none) .non _ _ ((w.trans w2).trans (Wk.mut hpL e1)) ⟨a2.put hp e1 (r1.append (.cons ry .nil)), .non⟩ r
theorem e_rev (h : E K ta ds ms fun s ms1 => ∃ es, Sv ms1 (dd s) (.list es) ∧ R (.f es.reverse) ms1) : E K (tRevL K ta) ds ms R := fun L M σ H hS hA Q q =>
  h L M σ H hS hA _ fun s v H1 ms1 w o ⟨es, sv, r⟩ => by
    have a1 := o.at
    obtain ⟨p, xs, rfl, hq, hr⟩ := sv.lst a1 o.sl
    exact ⟨p, xs, rfl, hq, fun l hl => q (.f es.reverse) _ _ ms1 (w.trans (Wk.new hl)) (out_new a1 w hl hr.reverse) r⟩
/-! ### calls of the program's own defs -/
abbrev Ph := List SD → List MD → RS → Prop
def SpD (K : PySem.W.Frag) (Φ : Ph) : Sp := fun vs H Q _ => ∃ L M ms as R, At L M ms H ∧ SlsOk K L M H as vs ∧ Φ as ms R ∧ ∀ s v H' ms', Wk L H H' → Out K L M H H' ms' v s → R s ms' → Q v H'
theorem e_call {Φ : Ph} {E0 : XK} (h : EA K tA ds ms fun as ms1 => Φ as ms1 R) : E K (tCall (SpD K Φ) [] E0 tA) ds ms R := fun L M σ H hS hA Q q =>
  h L M σ H hS hA _ fun as vs H1 ms1 w1 a1 o1 h1 => by
    rw [List.append_nil]
    exact ⟨L, M, ms1, as, R, a1, o1, h1, fun s v H3 ms3 w3 o3 r3 => q s v H3 ms3 (w1.trans w3) (o3.back a1 w1) r3⟩
/-! ### statements -/
structure Po where
  nx : List SD → List MD → Prop
  rt : RS
  bk : List SD → List MD → Prop
  ct : List SD → List MD → Prop
def Nx (K : PySem.W.Frag) (L M : List Addr) (H : Hp) (N : List SD → List MD → Prop) (C : L2.St → Hp → Prop) : Prop := ∀ σ' H' ds' ms', Wk L H H' → Sl K L M σ' H' ds' → At L M ms' H' → N ds' ms' → C σ' H'
def Rx (K : PySem.W.Frag) (L M : List Addr) (H : Hp) (R : RS) (Q : VK) : Prop := ∀ s v H' ms', Wk L H H' → Out K L M H H' ms' v s → R s ms' → Q v H'
def S (K : PySem.W.Frag) (t : TS) (ds : List SD) (ms : List MD) (P : Po) : Prop :=
  ∀ (L M : List Addr) (σ : L2.St) (H : Hp), Sl K L M σ H ds → At L M ms H → ∀ D : Ends, Nx K L M H P.nx D.nx → Rx K L M H P.rt D.rt → Nx K L M H P.bk D.bk → Nx K L M H P.ct D.ct → t D σ H
section
variable {L M : List Addr} {H H1 : Hp} {N : List SD → List MD → Prop} {C : L2.St → Hp → Prop} {Q : VK} {ms1 : List MD}
theorem Nx.on (w : Wk L H H1) (h : Nx K L M H N C) : Nx K L M H1 N C := fun σ' H' ds' ms' w2 => h σ' H' ds' ms' (w.trans w2)
theorem Rx.on (a : At L M ms1 H1) (w : Wk L H H1) (h : Rx K L M H R Q) : Rx K L M H1 R Q := fun s v H' ms' w2 o r => h s v H' ms' (w.trans w2) (o.back a w) r
end
variable {t u : TS} {P : Po}
theorem s_next (h : P.nx ds ms) : S K tNext ds ms P := fun L M σ H hS hA D n _ _ _ => n σ H ds ms (Wk.refl L H) hS hA h
theorem s_brk (h : P.bk ds ms) : S K tBreak ds ms P := fun L M σ H hS hA D _ _ n _ => n σ H ds ms (Wk.refl L H) hS hA h
theorem s_cont (h : P.ct ds ms) : S K tCont ds ms P := fun L M σ H hS hA D _ _ _ n => n σ H ds ms (Wk.refl L H) hS hA h
theorem s_seq (h : S K t ds ms { P with nx := fun ds1 ms1 => S K u ds1 ms1 P }) : S K (tSeq t u) ds ms P := fun L M σ H hS hA D n r b c =>
  h L M σ H hS hA { D with nx := u D } (fun σ1 H1 ds1 ms1 w s1 a1 h1 => h1 L M σ1 H1 s1 a1 D (n.on w) (r.on a1 w) (b.on w) (c.on w)) r b c
theorem s_asg {i : Nat} (h : E K te ds ms fun s ms1 => P.nx (ds.set i (dd s)) ms1) : S K (tAsg te (gName i)) ds ms P := fun L M σ H hS hA D n r b c =>
  h L M σ H hS hA _ fun s v H1 ms1 w o h1 => n _ H1 _ ms1 w ((hS.mono hA w).set i o.sl) o.at h1
theorem s_ret (h : E K te ds ms P.rt) : S K (tRet te) ds ms P := fun L M σ H hS hA D n r b c => h L M σ H hS hA _ fun s v H1 ms1 w o h1 => r s v H1 ms1 w o h1
theorem s_drop (h : E K te ds ms fun _ ms1 => P.nx ds ms1) : S K (tDrop te) ds ms P := fun L M σ H hS hA D n r b c =>
  h L M σ H hS hA _ fun s v H1 ms1 w o h1 => n σ H1 ds ms1 w (hS.mono hA w) o.at h1
theorem s_if (h : ET K tt ds ms fun b ms1 => (b = true → S K t ds ms1 P) ∧ (b = false → S K u ds ms1 P)) : S K (tIfS tt t u) ds ms P := fun L M σ H hS hA D n r b c =>
  h L M σ H hS hA _ fun k H1 ms1 w a ⟨h1, h2⟩ => by
    cases k with
    | true => exact h1 rfl L M σ H1 (hS.mono hA w) a D (n.on w) (r.on a w) (b.on w) (c.on w)
    | false => exact h2 rfl L M σ H1 (hS.mono hA w) a D (n.on w) (r.on a w) (b.on w) (c.on w)
theorem s_par {i j : Nat} (h : EA K tA ds ms fun as ms1 => ∃ x y, as = [x, y] ∧ P.nx ((ds.set i x).set j y) ms1) : S K (tPar i j tA) ds ms P := fun L M σ H hS hA D n r b c =>
  h L M σ H hS hA _ fun as vs H1 ms1 w a o ⟨x, y, e, h1⟩ => by
    subst e
    obtain ⟨v1, t1, rfl, o1, v2, t2, rfl, o2, rfl⟩ := o
    exact ⟨v1, v2, rfl, n _ H1 _ ms1 w (((hS.mono hA w).set i o1).set j o2) a h1⟩
/-- targets: js the slots that are stored -/
def EG (K : PySem.W.Frag) (g : TG) (js : List Nat) (x : SD) (ds : List SD) (ms : List MD) (N : List SD → List MD → Prop) : Prop :=
  ∀ (L M : List Addr) (σ : L2.St) (H : Hp) (v : V), Sl K L M σ H ds → At L M ms H → SlOk K L M H x v → ∀ C : L2.St → Hp → Prop, (∀ σ' ds', Sl K L M σ' H ds' → (∀ vs : List Nat, (∀ j ∈ js, j ∈ vs) → L2.wipe σ' vs = L2.wipe σ vs) → N ds' ms → C σ' H) → g v σ H C
def EGs (K : PySem.W.Frag) (g : TGs) (js : List Nat) (xs : List PyData) (ds : List SD) (ms : List MD) (N : List SD → List MD → Prop) : Prop :=
  ∀ (L M : List Addr) (σ : L2.St) (H : Hp) (vs : List V), Sl K L M σ H ds → At L M ms H → RpA M H vs xs → ∀ C : L2.St → Hp → Prop, (∀ σ' ds', Sl K L M σ' H ds' → (∀ vs : List Nat, (∀ j ∈ js, j ∈ vs) → L2.wipe σ' vs = L2.wipe σ vs) → N ds' ms → C σ' H) → g vs σ H C
theorem wipe_get (σ : L2.St) (i : Nat) : ∀ vs : List Nat, (L2.wipe σ vs)[i]? = if i ∈ vs then (if i < σ.length then some none else none) else σ[i]?
  | [] => by simp [L2.wipe]
  | v :: vs => by
    unfold L2.wipe
    by_cases e : v = i
    · subst e
      rw [List.getElem?_set, if_pos rfl, if_pos List.mem_cons_self, wipe_length]
    · rw [List.getElem?_set_ne e, wipe_get σ i vs]
      by_cases h : i ∈ vs
      · rw [if_pos h, if_pos (List.mem_cons_of_mem _ h)]
      · rw [if_neg h, if_neg (fun z => (List.mem_cons.mp z).elim (fun z => e z.symm) h)]
theorem wipe_set (σ : L2.St) (j : Nat) (o : Option V) (vs : List Nat) (h : j ∈ vs) : L2.wipe (σ.set j o) vs = L2.wipe σ vs := by
  apply List.ext_getElem?
  intro i
  rw [wipe_get, wipe_get, List.length_set]
  by_cases e : i ∈ vs
  · rw [if_pos e, if_pos e]
  · rw [if_neg e, if_neg e, List.getElem?_set_ne (fun z : j = i => e (by rw [← z]; exact h))]
variable {N : List SD → List MD → Prop}
theorem eg_name {i : Nat} {x : SD} (h : N (ds.set i x) ms) : EG K (gName i) [i] x ds ms N := fun L M σ H v hS hA ho C c =>
  c _ _ (hS.set i ho) (fun vs hv => wipe_set σ i (some v) vs (hv i (by simp))) h
theorem egs_nil (h : N ds ms) : EGs K gNil [] [] ds ms N := fun L M σ H vs hS hA hr C c => by
  cases hr
  exact ⟨rfl, c σ ds hS (fun _ _ => rfl) h⟩
theorem egs_cons {g : TG} {gs : TGs} {js js' : List Nat} {x : PyData} {xs : List PyData} (h : EG K g js (.d x) ds ms fun ds1 ms1 => EGs K gs js' xs ds1 ms1 N) : EGs K (gCons g gs) (js ++ js') (x :: xs) ds ms N := fun L M σ H vs hS hA hr C c => by
  cases hr with
  | @cons v r _ _ r1 r2 =>
    refine ⟨v, r, rfl, ?_⟩
    refine h L M σ H v hS hA r1 _ fun σ1 ds1 s1 w1 h1 => ?_
    refine h1 L M σ1 H r s1 hA r2 C fun σ2 ds2 s2 w2 h2 => ?_
    exact c σ2 ds2 s2 (fun vs hv => (w2 vs fun j hj => hv j (List.mem_append_right _ hj)).trans (w1 vs fun j hj => hv j (List.mem_append_left _ hj))) h2
theorem eg_tup {gs : TGs} {js : List Nat} {n : Nat} {xs : List PyData} (hn : xs.length = n) (h : EGs K gs js xs ds ms N) : EG K (gTup K n gs) js (.d (.tuple xs)) ds ms N := fun L M σ H v hS hA ho C c => by
  obtain ⟨a, ys, rfl, e, r⟩ := Sv.tup (ms := ms) (K := K) (L := L) (.d (.tuple xs)) ho
  exact ⟨a, ys, rfl, SqT.of e, by rw [r.length]; exact hn, h L M σ H ys hS hA r C c⟩
theorem s_asgG {g : TG} {js : List Nat} (h : E K te ds ms fun s ms1 => EG K g js (dd s) ds ms1 P.nx) : S K (tAsg te g) ds ms P := fun L M σ H hS hA D n r b c =>
  h L M σ H hS hA _ fun s v H1 ms1 w o h1 => h1 L M σ H1 v (hS.mono hA w) o.at o.sl _ fun σ' ds' s' _ h2 => n σ' H1 ds' ms1 w s' o.at h2
/-- a list unpacked -/
theorem s_asgL {gs : TGs} {js : List Nat} {n : Nat} (h : E K te ds ms fun s ms1 => ∃ xs, Sv ms1 (dd s) (.list xs) ∧ xs.length = n ∧ EGs K gs js xs ds ms1 P.nx) : S K (tAsg te (gLst K n gs)) ds ms P := fun L M σ H hS hA D nn r b c =>
  h L M σ H hS hA _ fun s v H1 ms1 w o ⟨xs, sv, hn, h1⟩ => by
    have a1 := o.at
    obtain ⟨a, ys, rfl, e, r⟩ := sv.lst a1 o.sl
    exact ⟨a, ys, rfl, e, by rw [r.length]; exact hn, h1 L M σ H1 ys (hS.mono hA w) a1 r _ fun σ' ds' s' _ h2 => nn σ' H1 ds' ms1 w s' a1 h2⟩
/-- xs[i] = e, of a list that may change -/
theorem s_setL {to ti : TE} (h : E K te ds ms fun x ms1 => ∃ d, dd x = .d d ∧ E K to ds ms1 fun s ms2 => ∃ k, s = .m k ∧ E K ti ds ms2 fun y ms3 => ∃ (i : Int) (j : Nat) (es : List PyData), y = .d (.int i) ∧ ms3[k]? = some (.l es) ∧ ixN es.length i = some j ∧ P.nx ds (ms3.set k (.l (es.set j d)))) :
    S K (tAsg te (gSub to ti rSetL)) ds ms P := fun L M σ H hS hA D n r b c =>
  h L M σ H hS hA _ fun x v H1 ms1 w1 o1 ⟨d, ed, h1⟩ => h1 L M σ H1 (hS.mono hA w1) o1.at _ fun s v2 H2 ms2 w2 o2 ⟨k, ek, h2⟩ =>
    h2 L M σ H2 ((hS.mono hA w1).mono o1.at w2) o2.at _ fun y v3 H3 ms3 w3 o3 ⟨i, j, es, ey, em, hj, h3⟩ => by
      have rv := (o1.sl.mono o1.at w2).mono o2.at w3
      rw [ed] at rv
      have a3 := o3.at
      subst ey ek
      obtain ⟨_, p, rfl, hp, hls⟩ := o2
      obtain ⟨_, z⟩ := o3
      cases z
      have hpL : p ∈ L := List.mem_of_getElem? hp
      obtain ⟨xs, e1, r1⟩ := a3.get hp em
      refine ⟨p, xs, i, j, rfl, rfl, e1, by rw [r1.length]; exact hj, ?_⟩
      have w13 := ((w1.trans w2).trans w3).trans (Wk.mut (H := H3) (o := .lst (xs.set j v)) hpL e1)
      exact n σ _ ds _ w13 (hS.mono hA w13) (a3.put hp e1 (r1.set j rv)) h3
/-! ### loops -/
section
variable {L M : List Addr} {H H1 : Hp}
/-- a source that stands still -/
inductive Sw : SD → List PyData → Prop
  | d (es : List PyData) : Sw (.d (.list es)) es
  | s (ns : List Int) : Sw (.s ns) (ns.map .int)
theorem Sw.is {s : SD} {es : List PyData} {v : V} (h : Sw s es) (hA : At L M ms H) (o : SlOk K L M H s v) : ∃ a xs, v = .ref a ∧ RpA M H xs es ∧ ∀ H', Wk L H H' → SqL K H' a xs := by
  cases h with
  | d =>
    cases o with
    | @lst a xs _ n e r => exact ⟨a, xs, rfl, r, fun H' w => SqL.of (w a _ (fun z => n (hA.sub a z)) e)⟩
  | s ns =>
    obtain ⟨a, rfl, ⟨n, q⟩ | q⟩ := o
    · refine ⟨a, _, rfl, RpA.ints ns, fun H' w => ?_⟩
      have n' : a ∉ L := fun z => n (hA.sub a z)
      rcases q with q | ⟨o, q⟩
      · exact .inl (.inl (w _ _ n' q))
      · exact .inl (.inr ⟨o, w _ _ n' q⟩)
    · exact ⟨a, _, rfl, RpA.ints ns, fun H' _ => q H'⟩
end
theorem s_forL {g : TG} {js : List Nat} (h : E K tl ds ms fun s ms0 => ∃ es, Sw (dd s) es ∧ ∃ Pv : Nat → List SD → List MD → Prop, Pv 0 ds ms0 ∧
      (∀ i e ds1 ms1, es[i]? = some e → Pv i ds1 ms1 → EG K g js (.d e) ds1 ms1 fun ds2 ms2 => S K t ds2 ms2 { P with nx := Pv (i + 1), ct := Pv (i + 1), bk := P.nx }) ∧ ∀ ds1 ms1, Pv es.length ds1 ms1 → P.nx ds1 ms1) :
    S K (tFor (iList K tl) g t) ds ms P := fun L M σ H hS hA D n r b c =>
  h L M σ H hS hA _ fun s v H1 ms0 w o ⟨es, sw, Pv, h0, hs, hd⟩ => by
    have a1 := o.at
    obtain ⟨a, xs, rfl, rx, hx⟩ := sw.is a1 o.sl
    refine ⟨a, rfl, ⟨xs, hx H1 (Wk.refl L H1)⟩, for_list (xs := xs) (fun i σ' H' => ∃ ds' ms', Wk L H1 H' ∧ Sl K L M σ' H' ds' ∧ At L M ms' H' ∧ Pv i ds' ms') ⟨ds, ms0, Wk.refl L H1, hS.mono hA w, a1, h0⟩ (fun i σ' H' _ ⟨_, _, w', _⟩ => hx H' w') (fun i x σ' H' hi ⟨ds', ms', w', s', a', p'⟩ => ?_) (fun σ' H' ⟨ds', ms', w', s', a', p'⟩ => ?_)⟩
    · obtain ⟨e, e1, e2⟩ := rx.get' hi
      refine hs i e ds' ms' e1 p' L M σ' H' x s' a' (Rp.to (a1.wk w') _ _ e2) _ fun σ2 ds2 s2 _ h2 => ?_
      refine h2 L M σ2 H' s2 a' _ (fun σ3 H3 ds3 ms3 w3 s3 a3 p3 => ⟨ds3, ms3, w'.trans w3, s3, a3, p3⟩) (r.on a' (w.trans w')) (n.on (w.trans w')) (fun σ3 H3 ds3 ms3 w3 s3 a3 p3 => ⟨ds3, ms3, w'.trans w3, s3, a3, p3⟩)
    · rw [rx.length] at p'
      exact n σ' H' ds' ms' (w.trans w') s' a' (hd ds' ms' p')
theorem s_forT {g : TG} {js : List Nat} (h : E K tl ds ms fun s ms0 => ∃ es, s = .d (.tuple es) ∧ ∃ Pv : Nat → List SD → List MD → Prop, Pv 0 ds ms0 ∧
      (∀ i e ds1 ms1, es[i]? = some e → Pv i ds1 ms1 → EG K g js (.d e) ds1 ms1 fun ds2 ms2 => S K t ds2 ms2 { P with nx := Pv (i + 1), ct := Pv (i + 1), bk := P.nx }) ∧ ∀ ds1 ms1, Pv es.length ds1 ms1 → P.nx ds1 ms1) :
    S K (tFor (iTup K tl) g t) ds ms P := fun L M σ H hS hA D n r b c =>
  h L M σ H hS hA _ fun s v H1 ms0 w o ⟨es, es', Pv, h0, hs, hd⟩ => by
    subst es'
    obtain ⟨a1, z⟩ := o
    cases z with
    | @tup a xs _ na e rx =>
    have hx : ∀ H', Wk L H1 H' → SqT K H' a xs := fun H' w' => SqT.of (w' a _ (fun z => na (a1.sub a z)) e)
    refine ⟨a, rfl, ⟨xs, hx H1 (Wk.refl L H1)⟩, for_tup (xs := xs) (fun i σ' H' => ∃ ds' ms', Wk L H1 H' ∧ Sl K L M σ' H' ds' ∧ At L M ms' H' ∧ Pv i ds' ms') ⟨ds, ms0, Wk.refl L H1, hS.mono hA w, a1, h0⟩ (fun i σ' H' _ ⟨_, _, w', _⟩ => hx H' w') (fun i x σ' H' hi ⟨ds', ms', w', s', a', p'⟩ => ?_) (fun σ' H' ⟨ds', ms', w', s', a', p'⟩ => ?_)⟩
    · obtain ⟨e, e1, e2⟩ := rx.get' hi
      refine hs i e ds' ms' e1 p' L M σ' H' x s' a' (Rp.to (a1.wk w') _ _ e2) _ fun σ2 ds2 s2 _ h2 => ?_
      refine h2 L M σ2 H' s2 a' _ (fun σ3 H3 ds3 ms3 w3 s3 a3 p3 => ⟨ds3, ms3, w'.trans w3, s3, a3, p3⟩) (r.on a' (w.trans w')) (n.on (w.trans w')) (fun σ3 H3 ds3 ms3 w3 s3 a3 p3 => ⟨ds3, ms3, w'.trans w3, s3, a3, p3⟩)
    · rw [rx.length] at p'
      exact n σ' H' ds' ms' (w.trans w') s' a' (hd ds' ms' p')
theorem s_forR {g : TG} {js : List Nat} (h : EA K tA ds ms fun as ms0 => ∃ n : Int, as = [.d (.int n)] ∧ (-(2 ^ 62) ≤ n ∧ n < 2 ^ 62) ∧ ∃ Pv : Nat → List SD → List MD → Prop, Pv 0 ds ms0 ∧
      (∀ i ds1 ms1, i < n.toNat → Pv i ds1 ms1 → EG K g js (.d (.int i)) ds1 ms1 fun ds2 ms2 => S K t ds2 ms2 { P with nx := Pv (i + 1), ct := Pv (i + 1), bk := P.nx }) ∧ ∀ ds1 ms1, Pv n.toNat ds1 ms1 → P.nx ds1 ms1) :
    S K (tFor (iRng1 tA) g t) ds ms P := fun L M σ H hS hA D n r b c =>
  h L M σ H hS hA _ fun as vs H1 ms0 w a1 o ⟨m, ea, hm, Pv, h0, hs, hd⟩ => by
    subst ea
    obtain ⟨v, t1, rfl, hv, rfl⟩ := o
    cases hv
    refine ⟨m, rfl, hm.1, hm.2, for_range (fun i σ' H' => ∃ ds' ms', Wk L H1 H' ∧ Sl K L M σ' H' ds' ∧ At L M ms' H' ∧ Pv i ds' ms') ⟨ds, ms0, Wk.refl L H1, hS.mono hA w, a1, h0⟩ (fun i σ' H' hi ⟨ds', ms', w', s', a', p'⟩ => ?_) (fun σ' H' ⟨ds', ms', w', s', a', p'⟩ => ?_)⟩
    · refine hs i ds' ms' hi p' L M σ' H' _ s' a' (by show Rp M H' (.int (0 + (i : Int))) (.int i); rw [Int.zero_add]; exact .int _) _ fun σ2 ds2 s2 _ h2 => ?_
      refine h2 L M σ2 H' s2 a' _ (fun σ3 H3 ds3 ms3 w3 s3 a3 p3 => ⟨ds3, ms3, w'.trans w3, s3, a3, p3⟩) (r.on a' (w.trans w')) (n.on (w.trans w')) (fun σ3 H3 ds3 ms3 w3 s3 a3 p3 => ⟨ds3, ms3, w'.trans w3, s3, a3, p3⟩)
    · exact n σ' H' ds' ms' (w.trans w') s' a' (hd ds' ms' p')
theorem s_forR2 {g : TG} {js : List Nat} (h : EA K tA ds ms fun as ms0 => ∃ lo n : Int, as = [.d (.int lo), .d (.int n)] ∧ (-(2 ^ 62) ≤ lo ∧ lo < 2 ^ 62 ∧ -(2 ^ 62) ≤ n ∧ n < 2 ^ 62) ∧ ∃ Pv : Nat → List SD → List MD → Prop, Pv 0 ds ms0 ∧
      (∀ i ds1 ms1, i < (n - lo).toNat → Pv i ds1 ms1 → EG K g js (.d (.int (lo + i))) ds1 ms1 fun ds2 ms2 => S K t ds2 ms2 { P with nx := Pv (i + 1), ct := Pv (i + 1), bk := P.nx }) ∧ ∀ ds1 ms1, Pv (n - lo).toNat ds1 ms1 → P.nx ds1 ms1) :
    S K (tFor (iRng2 tA) g t) ds ms P := fun L M σ H hS hA D n r b c =>
  h L M σ H hS hA _ fun as vs H1 ms0 w a1 o ⟨lo, m, ea, hm, Pv, h0, hs, hd⟩ => by
    subst ea
    obtain ⟨v, t1, rfl, hv, v2, t2, rfl, hv2, rfl⟩ := o
    cases hv; cases hv2
    refine ⟨lo, m, rfl, hm, for_range (lo := lo) (fun i σ' H' => ∃ ds' ms', Wk L H1 H' ∧ Sl K L M σ' H' ds' ∧ At L M ms' H' ∧ Pv i ds' ms') ⟨ds, ms0, Wk.refl L H1, hS.mono hA w, a1, h0⟩ (fun i σ' H' hi ⟨ds', ms', w', s', a', p'⟩ => ?_) (fun σ' H' ⟨ds', ms', w', s', a', p'⟩ => ?_)⟩
    · refine hs i ds' ms' hi p' L M σ' H' _ s' a' (.int _) _ fun σ2 ds2 s2 _ h2 => ?_
      refine h2 L M σ2 H' s2 a' _ (fun σ3 H3 ds3 ms3 w3 s3 a3 p3 => ⟨ds3, ms3, w'.trans w3, s3, a3, p3⟩) (r.on a' (w.trans w')) (n.on (w.trans w')) (fun σ3 H3 ds3 ms3 w3 s3 a3 p3 => ⟨ds3, ms3, w'.trans w3, s3, a3, p3⟩)
    · exact n σ' H' ds' ms' (w.trans w') s' a' (hd ds' ms' p')
theorem s_while (W : Nat → List SD → List MD → Prop) (m0 : Nat) (h0 : W m0 ds ms) (hs : ∀ m ds1 ms1, W m ds1 ms1 → ET K tt ds1 ms1 fun b ms2 => (b = true → S K t ds1 ms2 { P with nx := fun ds3 ms3 => ∃ m', m' < m ∧ W m' ds3 ms3, ct := fun ds3 ms3 => ∃ m', m' < m ∧ W m' ds3 ms3, bk := P.nx }) ∧ (b = false → P.nx ds1 ms2)) :
    S K (tWhile tt t) ds ms P := fun L M σ H hS hA D n r b c => by
  refine ⟨fun m σ' H' => ∃ ds' ms', Wk L H H' ∧ Sl K L M σ' H' ds' ∧ At L M ms' H' ∧ W m ds' ms', ⟨m0, ds, ms, Wk.refl L H, hS, hA, h0⟩, ?_⟩
  rintro m σ' H' ⟨ds', ms', w', s', a', p'⟩
  refine hs m ds' ms' p' L M σ' H' s' a' _ fun k H2 ms2 w2 a2 ⟨k1, k2⟩ => ?_
  cases k with
  | true =>
    rw [if_pos rfl]
    refine ⟨fun σ3 H3 => ∃ m', m' < m ∧ ∃ ds3 ms3, Wk L H H3 ∧ Sl K L M σ3 H3 ds3 ∧ At L M ms3 H3 ∧ W m' ds3 ms3, fun σ3 H3 ⟨m', l, z⟩ => ⟨m', l, z⟩, ?_⟩
    refine k1 rfl L M σ' H2 (s'.mono a' w2) a2 _ (fun σ3 H3 ds3 ms3 w3 s3 a3 ⟨m', l, p3⟩ => ⟨m', l, ds3, ms3, (w'.trans w2).trans w3, s3, a3, p3⟩) (r.on a2 (w'.trans w2)) (n.on (w'.trans w2)) (fun σ3 H3 ds3 ms3 w3 s3 a3 ⟨m', l, p3⟩ => ⟨m', l, ds3, ms3, (w'.trans w2).trans w3, s3, a3, p3⟩)
  | false =>
    rw [if_neg Bool.false_ne_true]
    exact n σ' H2 ds' ms2 (w'.trans w2) (s'.mono a' w2) a2 (k2 rfl)
/-! ### comprehensions -/
def Lt (K : PySem.W.Frag) (g : TG) (js : List Nat) (tt : TT) (te : TE) (vs : List Nat) (ds : List SD) (x : SD) (ms : List MD) (acc : List PyData) (N : List PyData → List MD → Prop) : Prop :=
  EG K g js x (wipeD ds vs) ms fun ds2 ms2 => ET K tt ds2 ms2 fun b ms3 => (b = true → E K te ds2 ms3 fun s ms4 => ∃ d, dd s = .d d ∧ N (acc ++ [d]) ms4) ∧ (b = false → N acc ms3)
section
variable {L M : List Addr} {σ : L2.St} {H1 H' : Hp}
/-- how it stands within a comprehension whose list is at D -/
structure Cs (L M : List Addr) (H1 : Hp) (D : Addr) (i : Nat) (acc : List PyData) (ms : List MD) (H : Hp) : Prop where
  w : Wk L H1 H
  a : At L (M ++ [D]) ms H
  le : acc.length ≤ i
  d : ∃ xs, H D = some (.lst xs) ∧ RpA (M ++ [D]) H xs acc
theorem lock_new {D : Addr} {o : HO} (h : At L M ms H1) (hD : H1 D = none) (ho : NTup o := by trivial) : At L (M ++ [D]) ms (upd H1 D o) := by
  have a := h.new (o := o) hD
  have t : To M (M ++ [D]) H1 (upd H1 D o) := to_new h hD (Wk.new hD)
  refine ⟨a.nd, fun p hp => List.mem_append_left _ (h.sub p hp), fun p hp => ?_, a.ln, fun k p m e1 e2 => ?_⟩
  · rcases List.mem_append.mp hp with z | z
    · exact a.al p z
    · simp at z; subst z; rw [upd_same]; exact ⟨_, rfl, ho⟩
  · exact (h.ok k p m e1 e2).to t (upd_ne (fun z => h.freshL hD (z ▸ List.mem_of_getElem? e1)))
theorem Cs.start {D : Addr} (h : At L M ms H1) (hD : H1 D = none) : Cs L M H1 D 0 [] ms (upd H1 D (.lst [])) := ⟨Wk.new hD, lock_new h hD, Nat.le_refl _, [], upd_same, .nil⟩
theorem Cs.done {D : Addr} {i : Nat} {acc : List PyData} {ms1 : List MD} {H2 : Hp} (h : Cs L M H1 D i acc ms1 H2) (hs : ∀ p ∈ L, p ∈ M) (hD : D ∉ L) : At (L ++ [D]) (M ++ [D]) (ms1 ++ [.l acc]) H2 := by
  obtain ⟨w, a, _, xs, e, r⟩ := h
  refine ⟨List.nodup_append.mpr ⟨a.nd, by simp, fun x hx y hy z => hD (by simp at hy; subst hy z; exact hx)⟩, fun q hq => ?_, a.al, by simp [a.ln], fun k q m e1 e2 => ?_⟩
  · rcases List.mem_append.mp hq with z | z
    · exact a.sub q z
    · exact List.mem_append_right _ z
  · by_cases hk : k < L.length
    · rw [List.getElem?_append_left hk] at e1
      rw [List.getElem?_append_left (by rw [← a.ln]; exact hk)] at e2
      exact (a.ok k q m e1 e2).toL (fun _ _ n e => ⟨n, e⟩) (fun k' q' _ z => by rw [List.getElem?_append_left (List.getElem?_eq_some_iff.mp z).1]; exact z) rfl
    · have hk2 : k = L.length := by
        have := (List.getElem?_eq_some_iff.mp e1).1
        simp at this
        omega
      subst hk2
      simp at e1
      subst e1
      rw [a.ln] at e2
      simp at e2
      subst e2
      exact ⟨xs, e, r⟩
theorem lc_turn {g : TG} {js : List Nat} {vs : List Nat} {D : Addr} {i : Nat} {acc : List PyData} {ms0 ms1 : List MD} {H2 : Hp} {x : SD} {v : V} {Nn : Nat → List PyData → List MD → Prop} (hj : ∀ j ∈ js, j ∈ vs) (hi : i < 10000)
    (hS : Sl K L M σ H1 ds) (a0 : At L M ms0 H1) (hD : H1 D = none) (c : Cs L M H1 D i acc ms1 H2) (ho : SlOk K L M H1 x v) (h : Lt K g js tt te vs ds x ms1 acc (Nn (i + 1))) :
    g v (L2.wipe σ vs) H2 fun σ2 H3 => L2.wipe σ2 vs = L2.wipe σ vs ∧ tt σ2 H3 fun b H4 => if b = true then te σ2 H4 fun y H5 => ∃ ac, H5 D = some (.lst ac) ∧ ac.length < sizeLine ∧ (∃ acc' ms', Cs L M H1 D (i + 1) acc' ms' (upd H5 D (.lst (ac ++ [y]))) ∧ Nn (i + 1) acc' ms') else ∃ acc' ms', Cs L M H1 D (i + 1) acc' ms' H4 ∧ Nn (i + 1) acc' ms' := by
  have t : To M (M ++ [D]) H1 H2 := to_new a0 hD c.w
  have hDL : D ∉ L := a0.freshL hD
  have s2 : Sl K L (M ++ [D]) (L2.wipe σ vs) H2 (wipeD ds vs) := (hS.to t c.w.kd fun _ _ e => e).wipe vs
  refine h L (M ++ [D]) (L2.wipe σ vs) H2 v s2 c.a (ho.to t c.w.kd fun _ _ e => e) _ fun σ2 ds2 sl2 wp h2 => ?_
  have wv : L2.wipe σ2 vs = L2.wipe σ vs := by
    rw [wp vs hj]
    apply List.ext_getElem?
    intro i
    rw [wipe_get, wipe_get, wipe_length]
    by_cases e : i ∈ vs
    · rw [if_pos e, if_pos e]
    · simp only [if_neg e, wipe_get]
  refine ⟨wv, ?_⟩
  refine h2 L (M ++ [D]) σ2 H2 sl2 c.a _ fun b H4 ms4 w4 a4 ⟨k1, k2⟩ => ?_
  obtain ⟨xs, e, r⟩ := c.d
  have e4 : H4 D = some (.lst xs) := w4 D _ hDL e
  have r4 : RpA (M ++ [D]) H4 xs acc := RpA.to (c.a.wk w4) _ _ r
  cases b with
  | false =>
    rw [if_neg Bool.false_ne_true]
    exact ⟨acc, ms4, ⟨c.w.trans w4, a4, Nat.le_succ_of_le c.le, xs, e4, r4⟩, k2 rfl⟩
  | true =>
    rw [if_pos rfl]
    refine k1 rfl L (M ++ [D]) σ2 H4 (sl2.mono c.a w4) a4 _ fun s y H5 ms5 w5 o5 ⟨d, ed, hn⟩ => ?_
    have a5 := o5.at
    have ry := o5.sl
    rw [ed] at ry
    have e5 : H5 D = some (.lst xs) := w5 D _ hDL e4
    have r5 : RpA (M ++ [D]) H5 xs acc := RpA.to (a4.wk w5) _ _ r4
    have hDM : D ∈ M ++ [D] := by simp
    have tt5 : To (M ++ [D]) (M ++ [D]) H5 (upd H5 D (.lst (xs ++ [y]))) := fun a o n q => ⟨n, by rw [upd_ne (fun z : a = D => n (by rw [z]; exact hDM))]; exact q⟩
    refine ⟨xs, e5, by rw [r5.length]; exact Nat.lt_of_le_of_lt c.le (Nat.lt_trans hi (by decide)), acc ++ [d], ms5, ⟨((c.w.trans w4).trans w5).over hD, ⟨a5.nd, a5.sub, fun p hp => ?_, a5.ln, fun k p m e1 e2 => ?_⟩, ?_, xs ++ [y], upd_same, RpA.to tt5 _ _ (r5.append (.cons ry .nil))⟩, hn⟩
    · by_cases z : p = D
      · subst z; rw [upd_same]; exact ⟨_, rfl, trivial⟩
      · rw [upd_ne z]; exact a5.al p hp
    · exact (a5.ok k p m e1 e2).to tt5 (upd_ne (fun z => hDL (z ▸ List.mem_of_getElem? e1)))
    · rw [List.length_append]; have := c.le; simp; exact this
end
theorem e_lcR {g : TG} {js vs : List Nat} (hj : ∀ j ∈ js, j ∈ vs) (h : EA K tA ds ms fun as ms0 => ∃ n : Int, as = [.d (.int n)] ∧ (-(2 ^ 62) ≤ n ∧ n ≤ 10000) ∧ ∃ Pv : Nat → List PyData → List MD → Prop, Pv 0 [] ms0 ∧
      (∀ i acc ms1, i < n.toNat → Pv i acc ms1 → Lt K g js tt te vs ds (.d (.int i)) ms1 acc (Pv (i + 1))) ∧ ∀ acc ms1, Pv n.toNat acc ms1 → R (.f acc) ms1) :
    E K (tLc (iRng1 tA) g tt te vs) ds ms R := fun L M σ H hS hA Q q =>
  h L M σ H hS hA _ fun as us H1 ms0 w a1 o ⟨n, ea, hn, Pv, h0, hs, hd⟩ => by
    subst ea
    obtain ⟨v, t1, rfl, hv, rfl⟩ := o
    cases hv
    refine ⟨n, rfl, hn.1, by have := hn.2; omega, fun D hD => ?_⟩
    have hDL := a1.freshL hD
    refine lc_range (lo := 0) (n := n.toNat) (fun i H' => ∃ acc ms', Cs L M H1 D i acc ms' H' ∧ Pv i acc ms') ⟨[], ms0, .start a1 hD, h0⟩ (fun i H' hi ⟨acc, ms', c, p⟩ => ?_) (fun H' ⟨acc, ms', c, p⟩ => ?_)
    · have e0 : ((0 : Int) + (i : Int)) = (i : Int) := Int.zero_add _
      have := lc_turn (x := .d (.int i)) (v := .int ((0 : Int) + (i : Int))) (Nn := Pv) hj (by have := hn.2; omega) (hS.mono hA w) a1 hD c (by show Rp M H1 (.int (0 + (i : Int))) (.int i); rw [e0]; exact .int _) (hs i acc ms' hi p)
      exact this
    · exact q (.f acc) _ H' ms' (w.trans c.w) ⟨D, rfl, none_back a1 w (a1.fresh hD) hD, a1.fresh hD, c.done a1.sub hDL, a1.sub⟩ (hd acc ms' p)
theorem e_lcL {g : TG} {js vs : List Nat} (hj : ∀ j ∈ js, j ∈ vs) (h : E K tl ds ms fun s ms0 => ∃ es, Sw (dd s) es ∧ es.length ≤ 10000 ∧ ∃ Pv : Nat → List PyData → List MD → Prop, Pv 0 [] ms0 ∧
      (∀ i e acc ms1, es[i]? = some e → Pv i acc ms1 → Lt K g js tt te vs ds (.d e) ms1 acc (Pv (i + 1))) ∧ ∀ acc ms1, Pv es.length acc ms1 → R (.f acc) ms1) :
    E K (tLc (iList K tl) g tt te vs) ds ms R := fun L M σ H hS hA Q q =>
  h L M σ H hS hA _ fun s v H1 ms0 w o ⟨es, sw, hz, Pv, h0, hs, hd⟩ => by
    have a1 := o.at
    obtain ⟨a, xs, rfl, rx, hx⟩ := sw.is a1 o.sl
    refine ⟨a, rfl, ⟨xs, hx H1 (Wk.refl L H1)⟩, fun D hD => ?_⟩
    have hDL := a1.freshL hD
    refine lc_list (xs := xs) (fun i H' => ∃ acc ms', Cs L M H1 D i acc ms' H' ∧ Pv i acc ms') ⟨[], ms0, .start a1 hD, h0⟩ (fun i H' _ ⟨_, _, c, _⟩ => hx H' c.w) (fun i x H' hi ⟨acc, ms', c, p⟩ => ?_) (fun H' ⟨acc, ms', c, p⟩ => ?_)
    · obtain ⟨e, e1, e2⟩ := rx.get' hi
      have hl := (List.getElem?_eq_some_iff.mp e1).1
      exact lc_turn (x := .d e) (v := x) (Nn := Pv) hj (by omega) (hS.mono hA w) a1 hD c e2 (hs i e acc ms' e1 p)
    · rw [rx.length] at p
      exact q (.f acc) _ H' ms' (w.trans c.w) ⟨D, rfl, none_back a1 w (a1.fresh hD) hD, a1.fresh hD, c.done a1.sub hDL, a1.sub⟩ (hd acc ms' p)
theorem e_lcT {g : TG} {js vs : List Nat} (hj : ∀ j ∈ js, j ∈ vs) (h : E K tl ds ms fun s ms0 => ∃ es, s = .d (.tuple es) ∧ es.length ≤ 10000 ∧ ∃ Pv : Nat → List PyData → List MD → Prop, Pv 0 [] ms0 ∧
      (∀ i e acc ms1, es[i]? = some e → Pv i acc ms1 → Lt K g js tt te vs ds (.d e) ms1 acc (Pv (i + 1))) ∧ ∀ acc ms1, Pv es.length acc ms1 → R (.f acc) ms1) :
    E K (tLc (iTup K tl) g tt te vs) ds ms R := fun L M σ H hS hA Q q =>
  h L M σ H hS hA _ fun s v H1 ms0 w o ⟨es, es', hz, Pv, h0, hs, hd⟩ => by
    subst es'
    obtain ⟨a1, z⟩ := o
    cases z with
    | @tup a xs _ na e rx =>
    have hx : ∀ H', Wk L H1 H' → SqT K H' a xs := fun H' w' => SqT.of (w' a _ (fun z => na (a1.sub a z)) e)
    refine ⟨a, rfl, ⟨xs, hx H1 (Wk.refl L H1)⟩, fun D hD => ?_⟩
    have hDL := a1.freshL hD
    refine lc_tup (xs := xs) (fun i H' => ∃ acc ms', Cs L M H1 D i acc ms' H' ∧ Pv i acc ms') ⟨[], ms0, .start a1 hD, h0⟩ (fun i H' _ ⟨_, _, c, _⟩ => hx H' c.w) (fun i x H' hi ⟨acc, ms', c, p⟩ => ?_) (fun H' ⟨acc, ms', c, p⟩ => ?_)
    · obtain ⟨e, e1, e2⟩ := rx.get' hi
      have hl := (List.getElem?_eq_some_iff.mp e1).1
      exact lc_turn (x := .d e) (v := x) (Nn := Pv) hj (by omega) (hS.mono hA w) a1 hD c e2 (hs i e acc ms' e1 p)
    · rw [rx.length] at p
      exact q (.f acc) _ H' ms' (w.trans c.w) ⟨D, rfl, none_back a1 w (a1.fresh hD) hD, a1.fresh hD, c.done a1.sub hDL, a1.sub⟩ (hd acc ms' p)
end
end Hc

namespace Hc
open PySem PySem.Spec PyProof.Rows L2
section
variable {K : PySem.W.Frag} {te ta tb tc tl : TE} {tt : TT} {tA : TA} {ds : List SD} {ms : List MD} {R : RS} {t u : TS} {P : Po}
/-! ### a new thing that may change, until the block's end -/
def frzS (n : Nat) (es : List PyData) : SD → SD
  | .m k => if k = n then .d (.list es) else .m k
  | s => s
def frzR (n : Nat) (es : List PyData) : SD → SD
  | .m k => if k = n then .f es else .m k
  | s => s
def Po.frz (P : Po) (n : Nat) : Po where
  nx := fun ds' ms' => ∃ ms1 es, ms' = ms1 ++ [.l es] ∧ ms1.length = n ∧ P.nx (ds'.map (frzS n es)) ms1
  rt := fun s ms' => ∃ ms1 es, ms' = ms1 ++ [.l es] ∧ ms1.length = n ∧ P.rt (frzR n es s) ms1
  bk := fun ds' ms' => ∃ ms1 es, ms' = ms1 ++ [.l es] ∧ ms1.length = n ∧ P.bk (ds'.map (frzS n es)) ms1
  ct := fun ds' ms' => ∃ ms1 es, ms' = ms1 ++ [.l es] ∧ ms1.length = n ∧ P.ct (ds'.map (frzS n es)) ms1
section
variable {L M : List Addr} {p : Addr} {H H0 H1 : Hp} {ms1 : List MD} {es : List PyData} {N : List SD → List MD → Prop} {C : L2.St → Hp → Prop}
theorem SlOk.frz {s : SD} {v : V} (a : At (L ++ [p]) (M ++ [p]) (ms1 ++ [.l es]) H) (np : p ∉ M) (h : SlOk K (L ++ [p]) (M ++ [p]) H s v) : SlOk K L M H (frzS ms1.length es s) v := by
  have hl : L.length = ms1.length := by have := a.ln; simp at this; exact this
  cases s with
  | u => exact h
  | f _ => exact h
  | g _ => exact h
  | d x => exact Rp.to to_less _ _ h
  | v x => exact h
  | h φ =>
    obtain ⟨b, e, n, q⟩ := h
    exact ⟨b, e, fun z => n (List.mem_append_left _ z), q⟩
  | s ns =>
    obtain ⟨b, e, ⟨n, q⟩ | q⟩ := h
    · exact ⟨b, e, .inl ⟨fun z => n (List.mem_append_left _ z), q⟩⟩
    · exact ⟨b, e, .inr q⟩
  | q k =>
    obtain ⟨q, rfl, hq, hls⟩ := h
    have hk : k < L.length := by
      have h1 := (List.getElem?_eq_some_iff.mp hq).1
      rw [List.length_append] at h1
      have h2 : k ≠ L.length := fun z => by
        subst z
        simp at hq
        subst hq
        obtain ⟨xs, e1, _⟩ := a.last
        exact hls.notL e1
      have h3 : k < L.length + 1 := h1
      omega
    rw [List.getElem?_append_left hk] at hq
    exact ⟨q, rfl, hq, hls⟩
  | m k =>
    obtain ⟨q, rfl, hq, hls⟩ := h
    show SlOk K L M H (if k = ms1.length then .d (.list es) else .m k) _
    by_cases hk : k = ms1.length
    · rw [if_pos hk]
      subst hk
      rw [← hl] at hq
      simp at hq
      subst hq
      obtain ⟨xs, e1, r⟩ := a.last
      exact .lst np e1 (RpA.to to_less _ _ r)
    · rw [if_neg hk]
      have : k < L.length := by
        have := (List.getElem?_eq_some_iff.mp hq).1
        simp at this
        omega
      rw [List.getElem?_append_left this] at hq
      exact ⟨q, rfl, hq, hls⟩
theorem Sl.frz {σ : L2.St} (a : At (L ++ [p]) (M ++ [p]) (ms1 ++ [.l es]) H) (np : p ∉ M) (h : Sl K (L ++ [p]) (M ++ [p]) σ H ds) : Sl K L M σ H (ds.map (frzS ms1.length es)) := fun i s e => by
  rw [List.getElem?_map] at e
  cases q : ds[i]? with
  | none => rw [q] at e; cases e
  | some s0 =>
    rw [q] at e
    have e' : frzS ms1.length es s0 = s := Option.some.inj e
    by_cases hu : s0 = .u
    · subst hu
      subst e'
      exact h i .u q
    · obtain ⟨v, e1, e2⟩ := h.get q hu
      have z := e2.frz a np
      rw [e'] at z
      cases s with
      | u => exact z.elim
      | f _ => exact z.elim
      | g _ => exact z.elim
      | d x => exact ⟨v, e1, z⟩
      | m k => exact ⟨v, e1, z⟩
      | q k => exact ⟨v, e1, z⟩
      | s ns => exact ⟨v, e1, z⟩
      | v x => exact ⟨v, e1, z⟩
      | h φ => exact ⟨v, e1, z⟩
def plainM : MD → Bool
  | .r _ => false
  | _ => true
theorem MOk.plain {L L' M M' : List Addr} {H : Hp} {j j' : Nat} {p : Addr} {m : MD} (hm : plainM m = true) (t : To M M' H H) (h : MOk L M H j p m) : MOk L' M' H j' p m := by
  cases m with
  | l es =>
    obtain ⟨xs, e1, r⟩ := h
    exact ⟨xs, e1, RpA.to t _ _ r⟩
  | r ks => cases hm
  | k ds =>
    obtain ⟨kvs, e1, r⟩ := h
    exact ⟨kvs, e1, r.toP t⟩
  | t ds =>
    obtain ⟨kvs, e1, r⟩ := h
    exact ⟨kvs, e1, r.toP t⟩
  | z o kvs ds =>
    obtain ⟨e1, r⟩ := h
    exact ⟨e1, r.toP t⟩
theorem At.dropMid {q : Addr} {m1 m2 : MD} (hm : plainM m2 = true) (a : At (L ++ [p] ++ [q]) (M ++ [p] ++ [q]) (ms1 ++ [m1] ++ [m2]) H) (sb : ∀ x ∈ L, x ∈ M) : At (L ++ [q]) (M ++ [q]) (ms1 ++ [m2]) H := by
  have hl : L.length = ms1.length := by have := a.ln; simp at this; exact this
  have t : To (M ++ [p] ++ [q]) (M ++ [q]) H H := fun b o n e => ⟨fun z => n (by
    rcases List.mem_append.mp z with z | z
    · exact List.mem_append_left _ (List.mem_append_left _ z)
    · exact List.mem_append_right _ z), e⟩
  have nd := a.nd
  refine ⟨?_, ?_, ?_, by simp [hl], fun k x m e1 e2 => ?_⟩
  · rw [List.append_assoc] at nd
    obtain ⟨n1, n2, n3⟩ := List.nodup_append.mp nd
    exact List.nodup_append.mpr ⟨n1, by simp, fun x hx y hy => n3 x hx y (by simp at hy ⊢; exact Or.inr hy)⟩
  · intro x hx
    rcases List.mem_append.mp hx with z | z
    · exact List.mem_append_left _ (sb x z)
    · exact List.mem_append_right _ z
  · intro x hx
    refine a.al x ?_
    rcases List.mem_append.mp hx with z | z
    · exact List.mem_append_left _ (List.mem_append_left _ z)
    · exact List.mem_append_right _ z
  · by_cases hk : k < L.length
    · rw [List.getElem?_append_left hk] at e1
      rw [List.getElem?_append_left (by rw [← hl]; exact hk)] at e2
      refine (a.ok k x m ?_ ?_).toL t (fun k' q' hlt z => by rw [List.append_assoc, List.getElem?_append_left (by omega)] at z; rw [List.getElem?_append_left (by omega)]; exact z) rfl
      · rw [List.append_assoc, List.getElem?_append_left hk]; exact e1
      · rw [List.append_assoc, List.getElem?_append_left (by rw [← hl]; exact hk)]; exact e2
    · have hk2 : k = L.length := by
        have := (List.getElem?_eq_some_iff.mp e1).1
        simp at this
        omega
      subst hk2
      have ex : q = x := by simpa using e1
      subst ex
      rw [hl] at e2
      have em : m2 = m := by simpa using e2
      subst em
      refine MOk.plain hm t (a.ok (L.length + 1) q m2 ?_ ?_)
      · rw [List.getElem?_append_right (by simp)]; simp
      · rw [List.getElem?_append_right (by simp [hl])]; simp [hl]
theorem Out.frz {v : V} {s : SD} (hp0 : H0 p = none) (a : At (L ++ [p]) (M ++ [p]) (ms1 ++ [.l es]) H) (w0 : ∀ q, q ∉ M → q ≠ p → H1 q = none → H0 q = none) (np : p ∉ M) (sb : ∀ x ∈ L, x ∈ M) (h : Out K (L ++ [p]) (M ++ [p]) H1 H (ms1 ++ [.l es]) v s) : Out K L M H0 H ms1 v (frzR ms1.length es s) := by
  have ad := a.drop sb
  cases s with
  | u => exact h.2.elim
  | d x => exact ⟨ad, Rp.to to_less _ _ h.2⟩
  | s ns => exact ⟨ad, SlOk.frz (s := .s ns) a np h.2⟩
  | v x => exact ⟨ad, h.2⟩
  | h φ => exact ⟨ad, SlOk.frz (s := .h φ) a np h.2⟩
  | f fs =>
    obtain ⟨q, rfl, hq, nq, aq, _⟩ := h
    have nqM : q ∉ M := fun z => nq (List.mem_append_left _ z)
    have nqp : q ≠ p := fun z => nq (List.mem_append_right _ (by simp [z]))
    exact ⟨q, rfl, w0 q nqM nqp hq, nqM, At.dropMid rfl aq sb, sb⟩
  | g fs =>
    obtain ⟨q, rfl, hq, nq, aq, _⟩ := h
    have nqM : q ∉ M := fun z => nq (List.mem_append_left _ z)
    have nqp : q ≠ p := fun z => nq (List.mem_append_right _ (by simp [z]))
    exact ⟨q, rfl, w0 q nqM nqp hq, nqM, At.dropMid rfl aq sb, sb⟩
  | q k => exact ⟨ad, SlOk.frz (s := .q k) a np h.2⟩
  | m k =>
    have hl : L.length = ms1.length := by have := a.ln; simp at this; exact this
    obtain ⟨_, q, rfl, hq, hls⟩ := h
    show Out K L M H0 H ms1 _ (if k = ms1.length then .f es else .m k)
    by_cases hk : k = ms1.length
    · rw [if_pos hk]
      subst hk
      rw [← hl] at hq
      simp at hq
      subst hq
      exact ⟨p, rfl, hp0, np, a, sb⟩
    · rw [if_neg hk]
      have : k < L.length := by
        have := (List.getElem?_eq_some_iff.mp hq).1
        simp at this
        omega
      rw [List.getElem?_append_left this] at hq
      exact ⟨ad, q, rfl, hq, hls⟩
end
theorem append_inj_last {ms1 ms2 : List MD} {m1 m2 : MD} (h : ms1 ++ [m1] = ms2 ++ [m2]) : ms1 = ms2 ∧ m1 = m2 := by
  have := List.append_inj' h rfl
  exact ⟨this.1, by simpa using this.2⟩
theorem s_new {i : Nat} (h : E K te ds ms fun s ms1 => ∃ es, s = .f es ∧ S K u (ds.set i (.m ms1.length)) (ms1 ++ [.l es]) (P.frz ms1.length)) : S K (tSeq (tAsg te (gName i)) u) ds ms P := fun L M σ H hS hA D n r b c =>
  h L M σ H hS hA _ fun s v H1 ms1 w o ⟨es, e, h1⟩ => by
    subst e
    obtain ⟨p, rfl, hp, np, a1, sb⟩ := o
    have hl : L.length = ms1.length := by have := a1.ln; simp at this; exact this
    have npL : p ∉ L := fun z => np (hA.sub p z)
    have t : To M (M ++ [p]) H H1 := to_new hA hp w
    have hS1 : Sl K (L ++ [p]) (M ++ [p]) (σ.set i (some (.ref p))) H1 (ds.set i (.m ms1.length)) := by
      refine (hS.to t w.kd fun k q e => ?_).set i ⟨p, rfl, by rw [← hl]; simp, let ⟨xs, e, _⟩ := a1.last; ⟨xs, e⟩⟩
      rw [List.getElem?_append_left (List.getElem?_eq_some_iff.mp e).1]
      exact e
    have wk : ∀ {H2 : Hp}, Wk (L ++ [p]) H1 H2 → Wk L H H2 := fun {H2} w2 => ⟨fun x y nx ex => w2 x y (fun z => (List.mem_append.mp z).elim nx fun z => ne_of_none ex hp (by simpa using z)) (w x y nx ex), fun x y ex => by
      obtain ⟨o1, f1, k1⟩ := w.kd x y ex
      obtain ⟨o2, f2, k2⟩ := w2.kd x o1 f1
      exact ⟨o2, f2, k2.trans k1⟩⟩
    have go : ∀ {N : List SD → List MD → Prop} {C : L2.St → Hp → Prop}, Nx K L M H N C → Nx K (L ++ [p]) (M ++ [p]) H1 (fun ds' ms' => ∃ ms1' es, ms' = ms1' ++ [.l es] ∧ ms1'.length = ms1.length ∧ N (ds'.map (frzS ms1.length es)) ms1') C := by
      intro N C nn σ2 H2 ds2 ms2 w2 s2 a2 ⟨ms3, es3, e3, l3, n3⟩
      subst e3
      rw [← l3] at n3
      exact nn σ2 H2 _ ms3 (wk w2) (s2.frz a2 np) (a2.drop sb) n3
    refine h1 (L ++ [p]) (M ++ [p]) _ H1 hS1 a1 D (go n) ?_ (go b) (go c)
    intro s2 v2 H2 ms2 w2 o2 ⟨ms3, es3, e3, l3, n3⟩
    subst e3
    rw [← l3] at n3
    refine r _ v2 H2 ms3 (wk w2) ?_ n3
    refine Out.frz hp o2.at (fun q hq hqp hq1 => ?_) np sb o2
    cases e : H q with
    | none => rfl
    | some oo => rw [w q oo (fun z => hq (hA.sub q z)) e] at hq1; cases hq1
/-! ### a whole def -/
theorem SlsOk.len {L M : List Addr} {H : Hp} : ∀ {as : List SD} {vs : List V}, SlsOk K L M H as vs → as.length = vs.length
  | [], _, h => by cases h; rfl
  | s :: r, _, ⟨v, t, e, a, b⟩ => by subst e; simp [SlsOk.len b]
theorem SlsOk.get {L M : List Addr} {H : Hp} : ∀ {as : List SD} {vs : List V} {i : Nat} {s : SD}, SlsOk K L M H as vs → as[i]? = some s → ∃ v, vs[i]? = some v ∧ SlOk K L M H s v
  | [], _, _, _, h, e => by simp at e
  | s :: r, _, 0, _, ⟨v, t, e, a, b⟩, e2 => by subst e; simp at e2; subst e2; exact ⟨v, rfl, a⟩
  | s :: r, _, i + 1, x, ⟨v, t, e, a, b⟩, e2 => by
    subst e
    obtain ⟨v2, e3, e4⟩ := SlsOk.get (i := i) (s := x) b (by simpa using e2)
    exact ⟨v2, by simpa using e3, e4⟩
theorem Sl.start {L M : List Addr} {H : Hp} {N : List Str} {as : List SD} {vs : List V} (h : SlsOk K L M H as vs) (hn : as.length ≤ N.length) : Sl K L M (start N vs) H (as ++ List.replicate (N.length - as.length) .u) := fun i s e => by
  have hl := h.len
  by_cases hi : i < as.length
  · rw [List.getElem?_append_left hi] at e
    obtain ⟨v, e1, e2⟩ := h.get e
    have e3 : (L2.start N vs)[i]? = some (some v) := by
      unfold L2.start
      rw [List.getElem?_append_left (by simp [← hl]; exact hi), List.getElem?_map, e1]
      rfl
    cases s with
    | u => exact e2.elim
    | f _ => exact e2.elim
    | g _ => exact e2.elim
    | d x => exact ⟨v, e3, e2⟩
    | m k => exact ⟨v, e3, e2⟩
    | q k => exact ⟨v, e3, e2⟩
    | s ns => exact ⟨v, e3, e2⟩
    | v x => exact ⟨v, e3, e2⟩
    | h φ => exact ⟨v, e3, e2⟩
  · rw [List.getElem?_append_right (by omega)] at e
    have hs : s = .u := by
      have := List.mem_of_getElem? e
      exact (List.mem_replicate.mp this).2
    subst hs
    show i < (L2.start N vs).length
    have := (List.getElem?_eq_some_iff.mp e).1
    unfold L2.start
    simp at this ⊢
    omega
def fin (R : RS) : Po where
  nx := fun _ ms' => R (.d .none) ms'
  rt := R
  bk := fun _ _ => False
  ct := fun _ _ => False
theorem read_of {N : List Str} {Φ : Ph} {vs : List V} {H : Hp} {Q : VK} {X : XK} (hn : ∀ as ms R, Φ as ms R → as.length ≤ N.length) (h : ∀ as ms R, Φ as ms R → S K t (as ++ List.replicate (N.length - as.length) .u) ms (fin R)) (hs : SpD K Φ vs H Q X) :
    t { nx := fun _ H' => Q .non H', rt := Q } (start N vs) H := by
  obtain ⟨L, M, ms, as, R, hA, ho, hp, q⟩ := hs
  exact h as ms R hp L M _ H (Sl.start ho (hn _ _ _ hp)) hA _ (fun σ' H' ds' ms' w s a r => q (.d .none) .non H' ms' w ⟨a, .non⟩ r) (fun s v H' ms' w o r => q s v H' ms' w o r) (fun _ _ _ _ _ _ _ z => z.elim) (fun _ _ _ _ _ _ _ z => z.elim)
end
section
variable {Pg : Program} {w : World} {K : PySem.W.Frag} {mg : Str → Option Value} {base : Heap}
/-- a def that keeps Φ -/
theorem ok_of {x qual : Str} {st : Stmt} {f : Addr} {fd : FuncData} {N ps : List Str} {k : Nat} {Φ : Ph} (F : Fun K x qual st f fd) (Sc : FnScope N ps (defScope st)) (hl : ∀ as ms R, Φ as ms R → as.length = ps.length) (hpn : ps.length ≤ N.length)
    (hbody : ∀ (cdv : Value) (A : Around) (outer : List Env) (s : Shared) (H : Hp) (E : XK), Room k (A.deeper (envOfC qual (defScope st) s.heap.objs.size f cdv)) →
      ∃ t, PSs (cxOf CX0 Pg w K mg base N qual (defScope st) f cdv A outer s H E).nox (defBody st) t ∧ ∀ as ms R, Φ as ms R → S K t (as ++ List.replicate (N.length - as.length) .u) ms (fin R)) : FnOk Pg w K mg base CX0 (k + 1) f fd ps (SpD K Φ) := by
  refine F.ok Sc (fun vs H Q E h => ?_) (fun cdv A outer s H vs Q E hr h => ?_)
  · obtain ⟨L, M, ms, as, R, hA, ho, hp, q⟩ := h
    rw [← ho.len]
    exact hl as ms R hp
  · obtain ⟨t, h1, h2⟩ := hbody cdv A outer s H E hr
    exact ⟨t, h1, read_of (fun as ms R z => by rw [hl as ms R z]; exact hpn) h2 h⟩
end
end Hc

namespace Hc
open PySem PySem.Spec PyProof.Rows L2
abbrev rAddI : R2 := rI0 fun i j => .int (i + j)
abbrev rSubI : R2 := rI0 fun i j => .int (i - j)
abbrev rMulI : R2 := rI CMul fun i j => .int (i * j)
abbrev rModN : R2 := rI (fun _ j => j ≠ 0) fun i j => .int (i.fmod j)
abbrev rPowI : R2 := rI CPow fun i j => .int (i ^ j.toNat)
abbrev rXorI : R2 := rI0 fun i j => .int (Builtin.bitXor i j)
abbrev rLtI : R2 := rI0 fun i j => .bl (decide (i < j))
abbrev rLeI : R2 := rI0 fun i j => .bl (decide (i ≤ j))
abbrev rGtI : R2 := rI0 fun i j => .bl (decide (j < i))
abbrev rGeI : R2 := rI0 fun i j => .bl (decide (j ≤ i))
abbrev rNegI : V → Hp → VK → Prop := rU fun i => .int (-i)
abbrev rAddStr : R2 := fun x y H Q => ∃ i j, x = .str i ∧ y = .str j ∧ i.length + j.length ≤ sizeLine ∧ Q (.str (i ++ j)) H
abbrev rIsNn : R2 := fun x y H Q => y = .non ∧ Q (.bl (decide (x = .non))) H
abbrev rNotNn : R2 := fun x y H Q => y = .non ∧ Q (.bl (!decide (x = .non))) H
abbrev rAbs : List V → Hp → VK → Prop := fun xs H Q => ∃ i, xs = [.int i] ∧ Q (.int (if i < 0 then -i else i)) H
abbrev rMaxI : List V → Hp → VK → Prop := fun xs H Q => ∃ i j, xs = [.int i, .int j] ∧ Q (.int (if j > i then j else i)) H
abbrev rMinI : List V → Hp → VK → Prop := fun xs H Q => ∃ i j, xs = [.int i, .int j] ∧ Q (.int (if j < i then j else i)) H
abbrev rStrI : List V → Hp → VK → Prop := fun xs H Q => ∃ i : Int, xs = [.int i] ∧ i.natAbs.log2 < 1920 ∧ Q (.str (toString i)) H
abbrev rLenQ (K : PySem.W.Frag) : List V → Hp → VK → Prop := fun xs H Q => ∃ p ys, xs = [.ref p] ∧ (SqL K H p ys ∨ SqT K H p ys) ∧ Q (.int ys.length) H
abbrev rTupQ (K : PySem.W.Frag) : List V → Hp → VK → Prop := fun xs H Q => ∃ p ys, xs = [.ref p] ∧ ((SqL K H p ys ∧ ∀ l, H l = none → Q (.ref l) (upd H l (.tup ys))) ∨ (SqT K H p ys ∧ Q (.ref p) H))
abbrev rListQ (K : PySem.W.Frag) : List V → Hp → VK → Prop := fun xs H Q => ∃ p ys, xs = [.ref p] ∧ (SqL K H p ys ∨ SqT K H p ys) ∧ ∀ l, H l = none → Q (.ref l) (upd H l (.lst ys))
/-- sizes -/
@[irreducible] def Bd (n : Nat) (i : Int) : Prop := i.natAbs < 2 ^ n
def CMulX (i j : Int) : Prop := Bd 100000 i ∧ Bd 100000 j
def CDivX (_ j : Int) : Prop := j ≠ 0 ∧ Bd 8000 j
abbrev rMulX : R2 := rI CMulX fun i j => .int (i * j)
abbrev rDivX : R2 := rI CDivX fun i j => .int (i.fdiv j)
theorem Bd.iff {n : Nat} {i : Int} : Bd n i ↔ i.natAbs < 2 ^ n := by unfold Bd; exact Iff.rfl
theorem Bd.mono {m n : Nat} {i : Int} (h : Bd m i) (l : m ≤ n) : Bd n i := Bd.iff.mpr (Nat.lt_of_lt_of_le (Bd.iff.mp h) (Nat.pow_le_pow_right (by decide) l))
theorem Bd.mul {m n : Nat} {i j : Int} (a : Bd m i) (b : Bd n j) : Bd (m + n) (i * j) := Bd.iff.mpr (wide_lt (Bd.iff.mp a) (Bd.iff.mp b))
theorem Bd.add {m : Nat} {i j : Int} (a : Bd m i) (b : Bd m j) : Bd (m + 1) (i + j) := by
  have ha := Bd.iff.mp a
  have hb := Bd.iff.mp b
  refine Bd.iff.mpr ?_
  rw [Nat.pow_succ]
  have := Int.natAbs_add_le i j
  omega
theorem Bd.neg {m : Nat} {i : Int} (a : Bd m i) : Bd m (-i) := Bd.iff.mpr (by rw [Int.natAbs_neg]; exact Bd.iff.mp a)
theorem Bd.sub {m : Nat} {i j : Int} (a : Bd m i) (b : Bd m j) : Bd (m + 1) (i - j) := by
  rw [Int.sub_eq_add_neg]
  exact a.add b.neg
theorem Bd.le {m : Nat} {i j : Int} (a : Bd m j) (h : i.natAbs ≤ j.natAbs) : Bd m i := Bd.iff.mpr (Nat.lt_of_le_of_lt h (Bd.iff.mp a))
theorem Bd.of {n : Nat} {i : Int} (h : i.natAbs < 2 ^ n) : Bd n i := Bd.iff.mpr h
section
variable {X : Cx}
theorem op_mulX : OpR X (binaryOp .Mult) rMulX := opI fun _ _ _ _ _ _ _ hc q => mul_int q (CMulW.ok (wide_mul (Bd.iff.mp hc.1) (Bd.iff.mp hc.2) (by decide) (by decide) (by decide)))
theorem op_fdivX : OpR X (binaryOp .FloorDiv) rDivX := opI fun i j _ _ _ _ _ hc q => floordiv_int hc.1 q (.inl (PyProof.noPylong_of_log2 (Nat.lt_trans (PySem.Flt.log2_lt_of (by decide) (Bd.iff.mp hc.2)) (by decide))))
end
section
variable {K : PySem.W.Frag} {te ta tb tc tl : TE} {tt : TT} {tA : TA} {ds : List SD} {ms : List MD} {R : RS} {t u : TS} {P : Po}
theorem e_dnew (h : ∀ kvs, R (.d (.dict kvs)) ms) : E K tDNewK ds ms R := fun L M σ H hS hA Q q => fun p hp => q (.d (.dict [])) _ _ ms (Wk.new hp) ⟨hA.new hp, .dct (hA.fresh hp) upd_same .nil⟩ (h [])
theorem rr_ix {a b : SD} (h : ∃ es i d, (Sv ms a (.list es) ∨ Sv ms a (.tuple es)) ∧ b = .d (.int i) ∧ atI es i = some d ∧ R (.d d) ms) : RR K (rIx K) a b ms R := fun L M H x y hA ha hb Q q => by
  obtain ⟨es, i, d, sa | sa, e1, e2, r⟩ := h
  · exact .inl (rr_ixL ⟨es, i, d, sa, e1, e2, r⟩ L M H x y hA ha hb Q q)
  · exact .inr (.inl (rr_ixT ⟨es, i, d, sa, e1, e2, r⟩ L M H x y hA ha hb Q q))
end
/-! ### defs by name -/
structure Kn (Pg : Program) (w : World) (K : PySem.W.Frag) (mg : Str → Option Value) (base : Heap) (x : Str) (lv : Nat) (ps : List Str) (Φ : Ph) : Prop where
  ex : ∃ f fd, FnOk Pg w K mg base CX0 lv f fd ps (SpD K Φ) ∧ mg x = some (.ref f) ∧ PySem.W.keepIn K (.ref f) = true ∧ Binds K fd ps []
theorem pe_callD {X : Cx} {x : Str} {lv : Nat} {ps : List Str} {Φ : Ph} {e : Expr} {es : List Expr} {t : TA} {p pos : Pos} (h : Kn X.prog X.w X.K X.mg X.base x lv ps Φ) (hr : Room lv X.A) (hg : Gl X x) (ha : PA X (e :: es) t)
    (hdb : (x == ("__debug__" : Str)) = false := by decide) (he : starEach (e :: es) X.env = (false, eval e X.env) :: starEach es X.env := by rfl) (hpl : (backTo pos (starEach es X.env)).any (·.1) = false := by rfl) :
    PE X (.Call (.Name x p) (e :: es) [] pos) (tCall (SpD X.K Φ) [] E0 t) := by
  obtain ⟨f, fd, G, m, k, b⟩ := h.ex
  exact pe_call G hr hg m k b .nil pass0 ha hdb he hpl
def ph1 (f : SD → List MD → RS → Prop) : Ph := fun as ms R => ∃ a, as = [a] ∧ f a ms R
def ph2 (f : SD → SD → List MD → RS → Prop) : Ph := fun as ms R => ∃ a b, as = [a, b] ∧ f a b ms R
def ph3 (f : SD → SD → SD → List MD → RS → Prop) : Ph := fun as ms R => ∃ a b c, as = [a, b, c] ∧ f a b c ms R
def ph4 (f : SD → SD → SD → SD → List MD → RS → Prop) : Ph := fun as ms R => ∃ a b c d, as = [a, b, c, d] ∧ f a b c d ms R
theorem ph1_len {f : SD → List MD → RS → Prop} : ∀ as ms R, ph1 f as ms R → as.length = 1 := fun _ _ _ ⟨_, e, _⟩ => by rw [e]; rfl
theorem ph2_len {f : SD → SD → List MD → RS → Prop} : ∀ as ms R, ph2 f as ms R → as.length = 2 := fun _ _ _ ⟨_, _, e, _⟩ => by rw [e]; rfl
theorem ph3_len {f : SD → SD → SD → List MD → RS → Prop} : ∀ as ms R, ph3 f as ms R → as.length = 3 := fun _ _ _ ⟨_, _, _, e, _⟩ => by rw [e]; rfl
theorem ph4_len {f : SD → SD → SD → SD → List MD → RS → Prop} : ∀ as ms R, ph4 f as ms R → as.length = 4 := fun _ _ _ ⟨_, _, _, _, e, _⟩ => by rw [e]; rfl
/-- the script at the law's door -/
theorem at_door {K : PySem.W.Frag} {H : Hp} {a : Addr} {ns : List Int} (hO : Only H) (hS : SqL K H a (ns.map V.int)) : SlOk K [] [] H (.s ns) (.ref a) := by
  refine ⟨a, rfl, ?_⟩
  rcases hS with h | h
  · exact .inl ⟨by simp, h⟩
  · exact .inr fun H' => .inr h
theorem at_nil {H : Hp} : At [] [] [] H := ⟨List.nodup_nil, fun _ h => by simp at h, fun _ h => by simp at h, rfl, fun _ _ _ h => by simp at h⟩
end Hc

namespace Hc
open PySem PySem.Spec PyProof.Rows L2
theorem instInt (d : PyData) : kitB (tyN d) "int" = some (inst d "int") := by
  have h : ∀ n : String, n ∈ ["NoneType", "bool", "int", "str", "list", "tuple", "dict"] → kitB n "int" = some ((kitB n "int").getD false) := by decide +kernel
  cases d <;> exact h _ (by simp [tyN])
theorem instBool (d : PyData) : kitB (tyN d) "bool" = some (inst d "bool") := by
  have h : ∀ n : String, n ∈ ["NoneType", "bool", "int", "str", "list", "tuple", "dict"] → kitB n "bool" = some ((kitB n "bool").getD false) := by decide +kernel
  cases d <;> exact h _ (by simp [tyN])
theorem instTuple (d : PyData) : kitB (tyN d) "tuple" = some (inst d "tuple") := by
  have h : ∀ n : String, n ∈ ["NoneType", "bool", "int", "str", "list", "tuple", "dict"] → kitB n "tuple" = some ((kitB n "tuple").getD false) := by decide +kernel
  cases d <;> exact h _ (by simp [tyN])
theorem instList (d : PyData) : kitB (tyN d) "list" = some (inst d "list") := by
  have h : ∀ n : String, n ∈ ["NoneType", "bool", "int", "str", "list", "tuple", "dict"] → kitB n "list" = some ((kitB n "list").getD false) := by decide +kernel
  cases d <;> exact h _ (by simp [tyN])
theorem instStr (d : PyData) : kitB (tyN d) "str" = some (inst d "str") := by
  have h : ∀ n : String, n ∈ ["NoneType", "bool", "int", "str", "list", "tuple", "dict"] → kitB n "str" = some ((kitB n "str").getD false) := by decide +kernel
  cases d <;> exact h _ (by simp [tyN])
def isWhole : PyData → Bool
  | .int _ => true
  | _ => false
def isTup : PyData → Bool
  | .tuple _ => true
  | _ => false
def isLst : PyData → Bool
  | .list _ => true
  | _ => false
def isRow : PyData → Bool
  | .list _ => true
  | .tuple _ => true
  | _ => false
theorem inst_tup (x : PyData) : inst x "tuple" = isTup x := by
  cases x with
  | none => exact (by decide +kernel : inst .none "tuple" = false)
  | bool b => exact (by decide +kernel : inst (.bool true) "tuple" = false)
  | int i => exact (by decide +kernel : inst (.int 0) "tuple" = false)
  | str s => exact (by decide +kernel : inst (.str "") "tuple" = false)
  | list s => exact (by decide +kernel : inst (.list []) "tuple" = false)
  | tuple s => exact (by decide +kernel : inst (.tuple []) "tuple" = true)
  | dict s => exact (by decide +kernel : inst (.dict []) "tuple" = false)
theorem inst_lst (x : PyData) : inst x "list" = isLst x := by
  cases x with
  | none => exact (by decide +kernel : inst .none "list" = false)
  | bool b => exact (by decide +kernel : inst (.bool true) "list" = false)
  | int i => exact (by decide +kernel : inst (.int 0) "list" = false)
  | str s => exact (by decide +kernel : inst (.str "") "list" = false)
  | list s => exact (by decide +kernel : inst (.list []) "list" = true)
  | tuple s => exact (by decide +kernel : inst (.tuple []) "list" = false)
  | dict s => exact (by decide +kernel : inst (.dict []) "list" = false)
theorem inst_row (x : PyData) : (inst x "list" || inst x "tuple") = isRow x := by rw [inst_lst, inst_tup]; cases x <;> rfl
theorem whole_and (x : PyData) : (inst x "int" && !inst x "bool") = isWhole x := by
  cases x with
  | none => exact (by decide +kernel : (inst .none "int" && !inst .none "bool") = false)
  | bool b => exact (by decide +kernel : (inst (.bool true) "int" && !inst (.bool true) "bool") = false)
  | int i => exact (by decide +kernel : (inst (.int 0) "int" && !inst (.int 0) "bool") = true)
  | str s => exact (by decide +kernel : (inst (.str "") "int" && !inst (.str "") "bool") = false)
  | list s => exact (by decide +kernel : (inst (.list []) "int" && !inst (.list []) "bool") = false)
  | tuple s => exact (by decide +kernel : (inst (.tuple []) "int" && !inst (.tuple []) "bool") = false)
  | dict s => exact (by decide +kernel : (inst (.dict []) "int" && !inst (.dict []) "bool") = false)
theorem whole_inv {x : PyData} (h : isWhole x = true) : ∃ i, x = .int i := by
  cases x with
  | int i => exact ⟨i, rfl⟩
  | _ => cases h
theorem tup_inv {x : PyData} (h : isTup x = true) : ∃ i, x = .tuple i := by
  cases x with
  | tuple i => exact ⟨i, rfl⟩
  | _ => cases h
/-! ### numbers -/
theorem abs_nat (i : Int) : (if i < 0 then -i else i) = (i.natAbs : Int) := by split <;> omega
theorem fmod_nat (x y : Nat) : Int.fmod (x : Int) (y : Int) = ((x % y : Nat) : Int) := by
  rw [Int.fmod_eq_emod_of_nonneg _ (by omega)]
  rfl
theorem gcd_step (x y : Nat) : Nat.gcd y (x % y) = Nat.gcd x y := by
  rw [Nat.gcd_comm y (x % y), ← Nat.gcd_rec, Nat.gcd_comm]
abbrev pr (p : Int × Int) : PyData := .tuple [.int p.1, .int p.2]
/-- the fraction of two ints -/
def fr (i j : Int) : Int × Int := if j < 0 then (i.fdiv (-(Int.gcd i j : Int)), j.fdiv (-(Int.gcd i j : Int))) else (i.fdiv (Int.gcd i j), j.fdiv (Int.gcd i j))
theorem fr_is {i j : Int} (hj : j ≠ 0) : ∃ c : Int, c ≠ 0 ∧ (0 < c ↔ 0 < j) ∧ c.natAbs = Int.gcd i j ∧ i = (fr i j).1 * c ∧ j = (fr i j).2 * c := by
  have hg : 0 < Int.gcd i j := Int.gcd_pos_of_ne_zero_right i hj
  have d1 : (Int.gcd i j : Int) ∣ i := Int.gcd_dvd_left ..
  have d2 : (Int.gcd i j : Int) ∣ j := Int.gcd_dvd_right ..
  unfold fr
  by_cases h : j < 0
  · rw [if_pos h]
    refine ⟨-(Int.gcd i j : Int), by omega, by omega, by omega, ?_, ?_⟩
    · exact (Int.fdiv_mul_cancel (Int.neg_dvd.mpr d1)).symm
    · exact (Int.fdiv_mul_cancel (Int.neg_dvd.mpr d2)).symm
  · rw [if_neg h]
    refine ⟨(Int.gcd i j : Int), by omega, by omega, by omega, ?_, ?_⟩
    · exact (Int.fdiv_mul_cancel d1).symm
    · exact (Int.fdiv_mul_cancel d2).symm
theorem fr_pos {i j : Int} (hj : j ≠ 0) : 0 < (fr i j).2 := by
  obtain ⟨c, c0, cs, _, _, e⟩ := fr_is (i := i) hj
  by_cases h : 0 < j
  · have hc := cs.mpr h
    rw [e] at h
    exact Int.pos_of_mul_pos_left h hc
  · have hc : c < 0 := by
      have : ¬ 0 < c := fun z => h (cs.mp z)
      omega
    have hn : (fr i j).2 * c < 0 := by rw [← e]; omega
    exact Int.pos_of_mul_neg_left hn hc
theorem fr_low {i j : Int} (hj : j ≠ 0) : Int.gcd (fr i j).1 (fr i j).2 = 1 := by
  obtain ⟨c, c0, cs, cg, e1, e2⟩ := fr_is (i := i) hj
  have h : Int.gcd i j = Int.gcd (fr i j).1 (fr i j).2 * c.natAbs := by
    have := Int.gcd_mul_right (fr i j).1 c (fr i j).2
    rw [← e1, ← e2] at this
    exact this
  have hg : 0 < Int.gcd i j := Int.gcd_pos_of_ne_zero_right i hj
  rw [cg] at h
  have h1 : 1 * Int.gcd i j = Int.gcd (fr i j).1 (fr i j).2 * Int.gcd i j := by rw [Nat.one_mul]; exact h
  exact (Nat.eq_of_mul_eq_mul_right hg h1).symm
theorem fr_cross {i j : Int} (hj : j ≠ 0) : (fr i j).1 * j = i * (fr i j).2 := by
  obtain ⟨c, c0, cs, cg, e1, e2⟩ := fr_is (i := i) hj
  generalize (fr i j).1 = x at *
  generalize (fr i j).2 = y at *
  subst e1 e2
  rw [Int.mul_assoc, Int.mul_comm c y]
theorem fr_le {i j : Int} (hj : j ≠ 0) : (fr i j).1.natAbs ≤ i.natAbs ∧ (fr i j).2.natAbs ≤ j.natAbs := by
  obtain ⟨c, c0, cs, cg, e1, e2⟩ := fr_is (i := i) hj
  have hc : 1 ≤ c.natAbs := by omega
  generalize (fr i j).1 = x at *
  generalize (fr i j).2 = y at *
  subst e1 e2
  rw [Int.natAbs_mul, Int.natAbs_mul]
  exact ⟨Nat.le_mul_of_pos_right _ hc, Nat.le_mul_of_pos_right _ hc⟩
theorem fr_bd {n : Nat} {i j : Int} (hj : j ≠ 0) (a : Bd n i) (b : Bd n j) : Bd n (fr i j).1 ∧ Bd n (fr i j).2 := ⟨a.le (fr_le hj).1, b.le (fr_le hj).2⟩
theorem co_dvd {a b d : Int} (g : Int.gcd a b = 1) (h : b ∣ a * d) : b ∣ d := by
  have h1 : b.natAbs ∣ a.natAbs * d.natAbs := by
    rw [← Int.natAbs_mul]
    exact Int.natAbs_dvd_natAbs.mpr h
  have h2 : Nat.Coprime b.natAbs a.natAbs := by
    rw [Nat.coprime_comm]
    exact g
  exact Int.natAbs_dvd_natAbs.mp (Nat.Coprime.dvd_of_dvd_mul_left h2 h1)
/-- lowest terms are told once -/
theorem low_uniq {a b c d : Int} (hb : 0 < b) (hd : 0 < d) (g1 : Int.gcd a b = 1) (g2 : Int.gcd c d = 1) (h : a * d = c * b) : a = c ∧ b = d := by
  have d1 : b ∣ d := by
    have : b ∣ a * d := ⟨c, by rw [h, Int.mul_comm]⟩
    exact co_dvd g1 this
  have d2 : d ∣ b := by
    have : d ∣ c * b := ⟨a, by rw [← h, Int.mul_comm]⟩
    exact co_dvd g2 this
  have e : b = d := Int.dvd_antisymm (by omega) (by omega) d1 d2
  subst e
  exact ⟨Int.eq_of_mul_eq_mul_right (by omega) h, rfl⟩
def isFrac : PyData → Bool
  | .tuple [.int a, .int b] => decide (1 ≤ b) && decide (Int.gcd a b = 1)
  | _ => false
theorem isFrac_len {xs : List PyData} (h : xs.length ≠ 2) : isFrac (.tuple xs) = false := by
  unfold isFrac
  split
  · simp_all
  · rfl
theorem isFrac_one {p q : PyData} (h : isWhole p = false) : isFrac (.tuple [p, q]) = false := by
  unfold isFrac
  split
  · simp_all [isWhole]
  · rfl
theorem isFrac_two {p q : PyData} (h : isWhole q = false) : isFrac (.tuple [p, q]) = false := by
  unfold isFrac
  split
  · simp_all [isWhole]
  · rfl
theorem isFrac_kind {p : PyData} (h : isTup p = false) : isFrac p = false := by
  unfold isFrac
  split
  · simp_all [isTup]
  · rfl
theorem eqv_int (i j : Int) : PyData.eqv (.int i) (.int j) = decide (i = j) := by
  rw [PyData.eqv]
  by_cases h : i = j
  · subst h; simp
  · simp [h]
theorem shaped_int (i : Int) : SeqAt.shaped (.int i) = true := by simp [SeqAt.shaped, PyData.canLay0, PyData.depth]
end Hc

namespace Hc
open PySem PySem.Spec PyProof.Rows L2
/-! ### a tuple times one is itself -/
theorem tuple_mul1 (l : Addr) (items : Array Value) (n : Nat) (dd : Option Addr) (sl : Array (Option Value)) (u : Tok) :
    Meets (Builtin.«tuple.__mul__» ⟨[.ref l, .int 1 u], []⟩) (fun _ R s => s.heap.get? l = some { cls := .type "tuple", dict := dd, data := .seq items n, slots := sl } ∧ R (.ok (.ret (.ref l))) s) :=
  .of_wp fun prog w A R s h => by
    obtain ⟨hp, g, d, tk, os⟩ := s
    obtain ⟨hl, h⟩ := h
    have f1 := AutoSeq1.idx_int
    have c1 : (items.isEmpty || (1 : Int) == 1) = true := by simp
    wp_walk using wpAny_loadPart' hl
    repeat (first
      | (refine wpAny_ite_false (by decide) ?_; wp_walk using wpAny_loadPart' hl)
      | (refine wpAny_ite_true (decide_eq_true c1) ?_; wp_walk using wpAny_loadPart' hl))
    all_goals first | exact ⟨_, rfl, h⟩ | skip
def rRepQ (K : PySem.W.Frag) : R2 := fun x y H Q => (∃ l xs, x = .ref l ∧ y = .int 1 ∧ SqT K H l xs ∧ Q (.ref l) H) ∨ rRepT K x y H Q
theorem op_repQ {X : Cx} : OpR X (binaryOp .Mult) (rRepQ X.K) := by
  intro pins s σ H x y v u Q I rx ry h
  rcases h with ⟨l, xs, rfl, rfl, hT, q⟩ | h
  · cases rx
    obtain ⟨t, rfl⟩ := ry
    obtain ⟨its, r, ⟨⟨cls, dd, data, sl⟩, ho, hc, n, hd⟩, hs⟩ := I.tuple hT
    simp only at hc hd
    subst hc hd
    exact wpAny_binaryOp_repeat_ref (T := "tuple") (U := "int") (by decide) ⟨_, ho, rfl⟩
      (fun s' => typeIs_int s' 1 t) noFill_tuple_mul F.fills_int_mul F.slot_int_rmul repeat_tuple
      F.slot_int_index.lookup
      (call_meets F.slot_int_rmul (typeIs_int s 1 t) F.entry_int_rmul (F.args_int_rmul_2 _ _)
        (int_rmul_tuple 1 t l its.toArray n dd sl) ⟨ho, rfl, ⟨_, ho, rfl⟩,
          call_meets F.slot_tuple_mul ⟨_, ho, rfl⟩ F.entry_tuple_mul (F.args_tuple_mul_2 _ _)
            (tuple_mul1 l its.toArray n dd sl t) ⟨ho, ⟨.ref l, H, I, rfl, q⟩⟩⟩)
  · exact op_repT pins s σ H x y v u Q I rx ry h
section
variable {K : PySem.W.Frag} {te ta tb tc tl : TE} {tt : TT} {tA : TA} {ds : List SD} {ms : List MD} {R : RS} {t u : TS} {P : Po}
theorem rr_rep1 {a b : SD} (h : ∃ (e : PyData) (k : Int), a = .d (.tuple [e]) ∧ b = .d (.int k) ∧ 1 ≤ k ∧ k ≤ 1000 ∧ R (.d (.tuple (List.replicate k.toNat e))) ms) : RR K (rRepQ K) a b ms R := fun L M H x y hA ha hb Q q => by
  obtain ⟨e, k, rfl, rfl, h1, h2, r⟩ := h
  cases hb
  have ha2 : Rp M H x (.tuple [e]) := ha
  cases ha2 with
  | @tup p xs _ np ep rp =>
    obtain ⟨v, rfl⟩ : ∃ v, xs = [v] := by
      cases rp with
      | cons z y => cases y; exact ⟨_, rfl⟩
    by_cases hk : k = 1
    · subst hk
      exact .inl ⟨p, [v], rfl, rfl, SqT.of ep, q (.d (.tuple [e])) _ H ms (Wk.refl L H) ⟨hA, ha⟩ r⟩
    · refine .inr ⟨p, k, [v], rfl, rfl, SqT.of ep, by simp, by omega, h2, by simp, fun l hl => ?_⟩
      have rr : ∀ m : Nat, RpA M H (List.replicate m [v]).flatten (List.replicate m e) := fun m => by
        induction m with
        | zero => exact .nil
        | succ m ih =>
          rw [List.replicate_succ, List.replicate_succ, List.flatten_cons]
          cases rp with
          | cons z y => exact .cons z ih
      exact q (.d (.tuple (List.replicate k.toNat e))) _ _ ms (Wk.new hl) ⟨hA.new hl, .tup (hA.fresh hl) upd_same (RpA.to (hA.wk (Wk.new hl)) _ _ (rr k.toNat))⟩ r
theorem rr_catT {a b : SD} (h : ∃ es fs, a = .d (.tuple es) ∧ b = .d (.tuple fs) ∧ es ≠ [] ∧ es.length + fs.length ≤ 10000 ∧ R (.d (.tuple (es ++ fs))) ms) : RR K (rCatT K) a b ms R := fun L M H x y hA ha hb Q q => by
  obtain ⟨es, fs, rfl, rfl, hne, hz, r⟩ := h
  have ha2 : Rp M H x (.tuple es) := ha
  have hb2 : Rp M H y (.tuple fs) := hb
  cases ha2 with
  | @tup p xs _ np ep rp =>
    cases hb2 with
    | @tup p2 ys _ np2 ep2 rp2 =>
      refine ⟨p, p2, xs, ys, rfl, rfl, SqT.of ep, SqT.of ep2, fun z => ?_, by rw [rp.length, rp2.length]; exact Nat.le_trans hz (by decide), fun z => ?_, fun z l hl => ?_⟩
      · subst z; cases rp; exact hne rfl
      · subst z
        cases rp2
        rw [List.append_nil] at r
        exact q (.d (.tuple es)) _ H ms (Wk.refl L H) ⟨hA, ha⟩ r
      · exact q (.d (.tuple (es ++ fs))) _ _ ms (Wk.new hl) ⟨hA.new hl, .tup (hA.fresh hl) upd_same (RpA.to (hA.wk (Wk.new hl)) _ _ (rp.append rp2))⟩ r
/-! ### slices -/
def EO (K : PySem.W.Frag) (to : TO) (ds : List SD) (ms : List MD) (R : Option Int → List MD → Prop) : Prop :=
  ∀ (L M : List Addr) (σ : L2.St) (H : Hp), Sl K L M σ H ds → At L M ms H → ∀ Q : Option Int → Hp → Prop, (∀ o H' ms', Wk L H H' → At L M ms' H' → R o ms' → Q o H') → to σ H Q
theorem eo_none {RO : Option Int → List MD → Prop} (r : RO none ms) : EO K tNoPart ds ms RO := fun L M σ H hS hA Q q => q none H ms (Wk.refl L H) hA r
theorem eo_some {RO : Option Int → List MD → Prop} (h : E K te ds ms fun s ms1 => ∃ i, s = .d (.int i) ∧ RO (some i) ms1) : EO K (tPart te) ds ms RO := fun L M σ H hS hA Q q =>
  h L M σ H hS hA _ fun s v H1 ms1 w o ⟨i, e, r⟩ => by
    subst e
    obtain ⟨a, z⟩ := o
    cases z
    exact ⟨i, rfl, q (some i) H1 ms1 w a r⟩
def cutD (es : List PyData) (lo hi : Option Int) : List PyData := (es.drop (HT.sIx es.length 0 lo)).take (HT.sIx es.length es.length hi - HT.sIx es.length 0 lo)
theorem cut_of {M : List Addr} {H : Hp} {xs : List V} {es : List PyData} (r : RpA M H xs es) (lo hi : Option Int) : RpA M H (cutV xs lo hi) (cutD es lo hi) := by
  unfold cutV cutD
  rw [r.length]
  exact (r.drop _).take _
theorem e_slL {to th : TO} (h : E K te ds ms fun s ms1 => EO K to ds ms1 fun lo ms2 => EO K th ds ms2 fun hi ms3 => ∃ es, Sv ms3 (dd s) (.list es) ∧ R (.f (cutD es lo hi)) ms3) : E K (tSl (rSlL K) te to th) ds ms R := fun L M σ H hS hA Q q =>
  h L M σ H hS hA _ fun s v H1 ms1 w1 o1 h1 => h1 L M σ H1 (hS.mono hA w1) o1.at _ fun lo H2 ms2 w2 a2 h2 => h2 L M σ H2 ((hS.mono hA w1).mono o1.at w2) a2 _ fun hi H3 ms3 w3 a3 ⟨es, sv, r⟩ => by
    obtain ⟨p, xs, rfl, hq, hr⟩ := sv.lst a3 ((o1.sl.mono o1.at w2).mono a2 w3)
    have w := (w1.trans w2).trans w3
    exact ⟨p, xs, rfl, hq, fun l hl => q (.f (cutD es lo hi)) _ _ ms3 (w.trans (Wk.new hl)) (out_new a3 w hl (cut_of hr lo hi)) r⟩
/-- a part of a tuple that is not the whole -/
theorem e_slT {to th : TO} (h : E K te ds ms fun s ms1 => EO K to ds ms1 fun lo ms2 => EO K th ds ms2 fun hi ms3 => ∃ es, s = .d (.tuple es) ∧ ¬ (HT.sIx es.length 0 lo = 0 ∧ HT.sIx es.length es.length hi = es.length) ∧ R (.d (.tuple (cutD es lo hi))) ms3) : E K (tSl (rSlT K) te to th) ds ms R := fun L M σ H hS hA Q q =>
  h L M σ H hS hA _ fun s v H1 ms1 w1 o1 h1 => h1 L M σ H1 (hS.mono hA w1) o1.at _ fun lo H2 ms2 w2 a2 h2 => h2 L M σ H2 ((hS.mono hA w1).mono o1.at w2) a2 _ fun hi H3 ms3 w3 a3 ⟨es, e, hn, r⟩ => by
    subst e
    have z := (o1.sl.mono o1.at w2).mono a2 w3
    obtain ⟨p, xs, rfl, e1, hr⟩ := Sv.tup (ms := ms3) (.d _) z
    have w := (w1.trans w2).trans w3
    refine ⟨p, xs, rfl, SqT.of e1, by rw [hr.length]; exact hn, fun l hl => ?_⟩
    exact q (.d (.tuple (cutD es lo hi))) _ _ ms3 (w.trans (Wk.new hl)) ⟨a3.new hl, .tup (a3.fresh hl) upd_same (RpA.to (a3.wk (Wk.new hl)) _ _ (cut_of hr lo hi))⟩ r
end
/-! ### data that == takes -/
def Shp (n : Nat) (d : PyData) : Prop := d.canLay0 = true ∧ d.depth ≤ n
theorem Shp.ok {n : Nat} {d : PyData} (h : Shp n d) (hn : n ≤ 64) : SeqAt.shaped d = true := by
  unfold SeqAt.shaped
  rw [h.1, decide_eq_true (Nat.le_trans h.2 hn)]
  rfl
theorem Shp.all {n : Nat} : ∀ {es : List PyData}, (∀ e ∈ es, Shp n e) → PyData.canLayAll0 es = true ∧ PyData.depthAll es ≤ n
  | [], _ => ⟨rfl, by simp [PyData.depthAll]⟩
  | e :: r, h => by
    have h1 := h e (by simp)
    have h2 := Shp.all (es := r) fun x hx => h x (by simp [hx])
    exact ⟨by simp [PyData.canLayAll0, h1.1, h2.1], by simp only [PyData.depthAll]; exact Nat.max_le.mpr ⟨h1.2, h2.2⟩⟩
theorem Shp.tup {n : Nat} {es : List PyData} (h : ∀ e ∈ es, Shp n e) : Shp (n + 1) (.tuple es) := by
  have := Shp.all h
  exact ⟨by simp [PyData.canLay0, this.1], by simp only [PyData.depth]; have := this.2; omega⟩
theorem Shp.lst {n : Nat} {es : List PyData} (h : ∀ e ∈ es, Shp n e) : Shp (n + 1) (.list es) := by
  have := Shp.all h
  exact ⟨by simp [PyData.canLay0, this.1], by simp only [PyData.depth]; have := this.2; omega⟩
theorem Shp.int (i : Int) : Shp 0 (.int i) := ⟨rfl, Nat.le_refl _⟩
theorem Shp.bl (i : Bool) : Shp 0 (.bool i) := ⟨rfl, Nat.le_refl _⟩
theorem Shp.mono {m n : Nat} {d : PyData} (h : Shp m d) (l : m ≤ n) : Shp n d := ⟨h.1, Nat.le_trans h.2 l⟩
theorem Shp.ints (ns : List Int) : ∀ e ∈ ns.map PyData.int, Shp 0 e := fun e he => by
  obtain ⟨i, _, rfl⟩ := List.mem_map.mp he
  exact .int i
theorem Shp.pr (p : Int × Int) : Shp 1 (pr p) := Shp.tup fun e he => by
  simp at he
  rcases he with rfl | rfl <;> exact .int _
theorem eqv_self {n : Nat} {d : PyData} (h : Shp n d) : PyData.eqv d d = true := SeqAt.eqv_refl d h.1
theorem eqv_bl (a b : Bool) : PyData.eqv (.bool a) (.bool b) = decide (a = b) := by cases a <;> cases b <;> rfl
/-! ### fractions as numbers -/
def val (p : Int × Int) : Rat := (p.1 : Rat) / (p.2 : Rat)
theorem cast_ne {b : Int} (h : b ≠ 0) : (b : Rat) ≠ 0 := by exact_mod_cast h
theorem val_fr {i j : Int} (h : j ≠ 0) : val (fr i j) = (i : Rat) / (j : Rat) := by
  have hc := fr_cross (i := i) h
  have hp := fr_pos (i := i) h
  unfold val
  have h1 : ((fr i j).2 : Rat) ≠ 0 := cast_ne (by omega)
  have h2 : (j : Rat) ≠ 0 := cast_ne h
  have h3 : ((fr i j).1 : Rat) * (j : Rat) = (i : Rat) * ((fr i j).2 : Rat) := by
    rw [← Rat.intCast_mul, ← Rat.intCast_mul, hc]
  grind
structure Lo (p : Int × Int) : Prop where
  pos : 0 < p.2
  low : Int.gcd p.1 p.2 = 1
theorem Lo.fr {i j : Int} (h : j ≠ 0) : Lo (fr i j) := ⟨fr_pos h, fr_low h⟩
theorem Lo.eq {p q : Int × Int} (a : Lo p) (b : Lo q) (h : val p = val q) : p = q := by
  unfold val at h
  have h1 : (p.2 : Rat) ≠ 0 := cast_ne (by have := a.pos; omega)
  have h2 : (q.2 : Rat) ≠ 0 := cast_ne (by have := b.pos; omega)
  have h3 : (p.1 : Rat) * (q.2 : Rat) = (q.1 : Rat) * (p.2 : Rat) := by grind
  rw [← Rat.intCast_mul, ← Rat.intCast_mul] at h3
  have h4 : p.1 * q.2 = q.1 * p.2 := by exact_mod_cast h3
  obtain ⟨e1, e2⟩ := low_uniq a.pos b.pos a.low b.low h4
  exact Prod.ext e1 e2
def pl (t f : Int × Int) : Int × Int := fr (t.1 * f.2 + f.1 * t.2) (t.2 * f.2)
theorem pl_lo {t f : Int × Int} (a : t.2 ≠ 0) (b : f.2 ≠ 0) : Lo (pl t f) := Lo.fr (Int.mul_ne_zero a b)
theorem pl_val {t f : Int × Int} (a : t.2 ≠ 0) (b : f.2 ≠ 0) : val (pl t f) = val t + val f := by
  unfold pl
  rw [val_fr (Int.mul_ne_zero a b)]
  unfold val
  have h1 : (t.2 : Rat) ≠ 0 := cast_ne a
  have h2 : (f.2 : Rat) ≠ 0 := cast_ne b
  rw [Rat.intCast_add, Rat.intCast_mul, Rat.intCast_mul, Rat.intCast_mul]
  grind
def sumF (fs : List (Int × Int)) : Int × Int := fs.foldl pl (0, 1)
def sumV (fs : List (Int × Int)) : Rat := (fs.map val).sum
structure Wt (p : Int × Int) : Prop where
  lo : Lo p
  b1 : Bd 32 p.1
  b2 : Bd 10 p.2
theorem foldl_snoc (fs : List (Int × Int)) (f : Int × Int) : sumF (fs ++ [f]) = pl (sumF fs) f := by
  unfold sumF
  rw [List.foldl_append]
  rfl
theorem lo01 : Lo (0, 1) := ⟨by decide, by decide⟩
theorem sumF_lo : ∀ (fs : List (Int × Int)), (∀ f ∈ fs, f.2 ≠ 0) → Lo (sumF fs) ∧ val (sumF fs) = sumV fs := by
  intro fs
  have gen : ∀ (fs : List (Int × Int)) (t : Int × Int), Lo t → (∀ f ∈ fs, f.2 ≠ 0) → Lo (fs.foldl pl t) ∧ val (fs.foldl pl t) = val t + sumV fs := by
    intro fs
    induction fs with
    | nil =>
      intro t ht _
      refine ⟨ht, ?_⟩
      show val t = val t + 0
      grind
    | cons f r ih =>
      intro t ht h
      have hf := h f (by simp)
      have ht2 : t.2 ≠ 0 := by have := ht.pos; omega
      have := ih (pl t f) (pl_lo ht2 hf) fun x hx => h x (by simp [hx])
      refine ⟨this.1, ?_⟩
      show val (r.foldl pl (pl t f)) = _
      rw [this.2, pl_val ht2 hf]
      show _ = val t + (val f + sumV r)
      grind
  intro h
  have := gen fs (0, 1) lo01 h
  refine ⟨this.1, ?_⟩
  show val (fs.foldl pl (0, 1)) = _
  rw [this.2]
  have : val (0, 1) = 0 := by
    show ((0 : Int) : Rat) / ((1 : Int) : Rat) = 0
    grind
  rw [this]
  grind
theorem fold_bd : ∀ (fs : List (Int × Int)) (t : Int × Int) (a b : Nat), b ≤ a → t.2 ≠ 0 → Bd a t.1 → Bd b t.2 → (∀ f ∈ fs, f.2 ≠ 0 ∧ Bd 32 f.1 ∧ Bd 10 f.2) → Bd (a + 44 * fs.length) (fs.foldl pl t).1 ∧ Bd (b + 10 * fs.length) (fs.foldl pl t).2 := by
  intro fs
  induction fs with
  | nil => intro t a b _ _ h1 h2 _; exact ⟨h1, h2⟩
  | cons f r ih =>
    intro t a b hab h0 h1 h2 h
    obtain ⟨f0, f1, f2⟩ := h f (by simp)
    have hne := Int.mul_ne_zero h0 f0
    have x1 : Bd (a + 43) (t.1 * f.2) := (h1.mul f2).mono (by omega)
    have x2 : Bd (a + 43) (f.1 * t.2) := (f1.mul h2).mono (by omega)
    have b1 : Bd (a + 44) (t.1 * f.2 + f.1 * t.2) := x1.add x2
    have b2 : Bd (b + 10) (t.2 * f.2) := h2.mul f2
    have c1 : Bd (a + 44) (pl t f).1 := b1.le (fr_le hne).1
    have c2 : Bd (b + 10) (pl t f).2 := b2.le (fr_le hne).2
    have p2 := fr_pos (i := t.1 * f.2 + f.1 * t.2) hne
    have := ih (pl t f) (a + 44) (b + 10) (by omega) (by show (fr _ _).2 ≠ 0; omega) c1 c2 fun x hx => h x (by simp [hx])
    have e1 : a + 44 + 44 * r.length = a + 44 * (f :: r).length := by simp; omega
    have e2 : b + 10 + 10 * r.length = b + 10 * (f :: r).length := by simp; omega
    rw [e1, e2] at this
    exact this
theorem fold_ne : ∀ (fs : List (Int × Int)) (t : Int × Int), t.2 ≠ 0 → (∀ f ∈ fs, f.2 ≠ 0) → (fs.foldl pl t).2 ≠ 0 := by
  intro fs
  induction fs with
  | nil => intro t h _; exact h
  | cons f r ih =>
    intro t h0 h
    have hf := h f (by simp)
    exact ih (pl t f) (by have := (pl_lo h0 hf).pos; omega) fun x hx => h x (by simp [hx])
theorem pl_zero {p : Int × Int} (h : Lo p) : pl (0, 1) p = p := by
  have hp : p.2 ≠ 0 := by have := h.pos; omega
  refine Lo.eq (pl_lo (by decide) hp) h ?_
  rw [pl_val (by decide) hp]
  have : val (0, 1) = 0 := by
    show ((0 : Int) : Rat) / ((1 : Int) : Rat) = 0
    grind
  rw [this]
  grind
theorem take_snoc {α : Type} {l : List α} {i : Nat} {x : α} (h : l[i]? = some x) : l.take (i + 1) = l.take i ++ [x] := by
  rw [List.take_add_one, h]
  rfl
theorem wt_ok {f : Int × Int} (h : Wt f) : f.2 ≠ 0 ∧ Bd 32 f.1 ∧ Bd 10 f.2 := ⟨by have := h.lo.pos; omega, h.b1, h.b2⟩
/-! ### webs -/
abbrev Tie := Nat × Nat × (Int × Int)
abbrev encT (t : Tie) : PyData := .tuple [.int t.1, .int t.2.1, pr t.2.2]
abbrev encW (m : Nat) (ts : List Tie) : PyData := .tuple [.int m, .tuple (ts.map encT)]
structure TieOk (m : Nat) (t : Tie) : Prop where
  lt : t.1 < t.2.1
  lm : t.2.1 < m
  w : Wt t.2.2
structure WebOk (m : Nat) (ts : List Tie) : Prop where
  all : ∀ t ∈ ts, TieOk m t
  len : ts.length ≤ 170
  m1 : 1 ≤ m
  m60 : m ≤ 60
abbrev encS (sd : List Int) : PyData := .tuple (sd.map .int)
abbrev encN (ns : List Nat) : List PyData := ns.map fun (n : Nat) => PyData.int (n : Int)
def tie0 : Tie := (0, 0, (0, 1))
def cutB (sd : List Int) (t : Tie) : Bool := !decide (sd.getD t.1 0 = sd.getD t.2.1 0)
def gainB (t : Tie) : Bool := decide (0 < t.2.2.1)
def lostB (sd : List Int) (t : Tie) : Bool := !decide (cutB sd t = gainB t)
def nums (p : Tie → Bool) (ts : List Tie) (n : Nat) : List Nat := (List.range n).filter fun i => p (ts.getD i tie0)
theorem nums_yes {p : Tie → Bool} {ts : List Tie} {n : Nat} (h : p (ts.getD n tie0) = true) : nums p ts (n + 1) = nums p ts n ++ [n] := by
  unfold nums
  rw [List.range_succ, List.filter_append, List.filter_cons, if_pos h]
  rfl
theorem nums_no {p : Tie → Bool} {ts : List Tie} {n : Nat} (h : p (ts.getD n tie0) = false) : nums p ts (n + 1) = nums p ts n := by
  unfold nums
  rw [List.range_succ, List.filter_append, List.filter_cons, if_neg (by rw [h]; decide)]
  show _ ++ [] = _
  rw [List.append_nil]
theorem nums_map (p : Tie → Bool) (ts : List Tie) : ∀ n, n ≤ ts.length → (nums p ts n).map (fun i => ts.getD i tie0) = (ts.take n).filter p
  | 0, _ => rfl
  | n + 1, h => by
    have ih := nums_map p ts n (by omega)
    have hn : n < ts.length := by omega
    have e : ts.getD n tie0 = ts[n] := by simp [List.getD, hn]
    rw [List.take_add_one, List.getElem?_eq_getElem hn, List.filter_append]
    cases q : p (ts.getD n tie0) with
    | true =>
      rw [nums_yes q, List.map_append, ih]
      rw [e] at q
      have e' : ts[n]?.getD tie0 = ts[n] := by simp [hn]
      simp [q, e']
    | false =>
      rw [nums_no q, ih]
      rw [e] at q
      simp [q]
theorem nums_all (p : Tie → Bool) (ts : List Tie) : (nums p ts ts.length).map (fun i => ts.getD i tie0) = ts.filter p := by
  rw [nums_map p ts ts.length (Nat.le_refl _), List.take_length]
theorem nums_lt {p : Tie → Bool} {ts : List Tie} {n i : Nat} (h : i ∈ nums p ts n) : i < n := by
  unfold nums at h
  have := (List.mem_filter.mp h).1
  simpa using this
theorem nums_len (p : Tie → Bool) (ts : List Tie) (n : Nat) : (nums p ts n).length ≤ n := by
  unfold nums
  have := List.length_filter_le (fun i => p (ts.getD i tie0)) (List.range n)
  simpa using this
theorem get1 (ms : List MD) (A : MD) : (ms ++ [A])[ms.length]? = some A := by simp
theorem set1 (ms : List MD) (A X : MD) : (ms ++ [A]).set ms.length X = ms ++ [X] := by
  rw [List.set_append_right _ _ (Nat.le_refl _), Nat.sub_self]
  rfl
theorem get2a (ms : List MD) (A B : MD) : (ms ++ [A] ++ [B])[ms.length]? = some A := by
  rw [List.getElem?_append_left (by simp)]
  exact get1 ms A
theorem get2b (ms : List MD) (A B : MD) : (ms ++ [A] ++ [B])[ms.length + 1]? = some B := by
  have := get1 (ms ++ [A]) B
  rw [List.length_append] at this
  exact this
theorem set2a (ms : List MD) (A B X : MD) : (ms ++ [A] ++ [B]).set ms.length X = ms ++ [X] ++ [B] := by
  rw [List.set_append_left _ _ (by simp), set1]
theorem set2b (ms : List MD) (A B X : MD) : (ms ++ [A] ++ [B]).set (ms.length + 1) X = ms ++ [A] ++ [X] := by
  have := set1 (ms ++ [A]) B X
  rw [List.length_append] at this
  exact this
theorem tie_at {ts : List Tie} {i : Nat} (h : i < ts.length) : (ts.map encT)[i]? = some (encT (ts.getD i tie0)) := by
  rw [List.getElem?_map, List.getElem?_eq_getElem h]
  simp [List.getD, h]
theorem getD_mem {ts : List Tie} {i : Nat} (h : i < ts.length) : ts.getD i tie0 ∈ ts := by
  simp [List.getD, h]
theorem side_at {sd : List Int} {i : Nat} (h : i < sd.length) : (sd.map PyData.int)[i]? = some (.int (sd.getD i 0)) := by
  rw [List.getElem?_map, List.getElem?_eq_getElem h]
  simp [List.getD, h]
section
variable {K : PySem.W.Frag} {te ta tb tc tl : TE} {tt : TT} {tA : TA} {ds : List SD} {ms : List MD} {R : RS} {t u : TS} {P : Po}
/-- a statement, then what holds behind it, then the rest -/
theorem s_mid (Mid : List SD → List MD → Prop) (h1 : S K t ds ms { P with nx := Mid }) (h2 : ∀ ds1 ms1, Mid ds1 ms1 → S K u ds1 ms1 P) : S K (tSeq t u) ds ms P := fun L M σ H hS hA D n r b c =>
  h1 L M σ H hS hA { D with nx := u D } (fun σ1 H1 ds1 ms1 w s1 a1 h => h2 ds1 ms1 h L M σ1 H1 s1 a1 D (n.on w) (r.on a1 w) (b.on w) (c.on w)) r b c
/-- a comprehension over a list of ints that may change, but doesn't meanwhile -/
theorem e_lcM {g : TG} {js vs : List Nat} (hj : ∀ j ∈ js, j ∈ vs) (h : E K tl ds ms fun s ms0 => ∃ (k : Nat) (ns : List Int), s = .m k ∧ ns.length ≤ 10000 ∧ ∃ Pv : Nat → List PyData → List MD → Prop, Pv 0 [] ms0 ∧
      (∀ i acc ms1, Pv i acc ms1 → ms1[k]? = some (.l (ns.map .int))) ∧
      (∀ i e acc ms1, ns[i]? = some e → Pv i acc ms1 → Lt K g js tt te vs ds (.d (.int e)) ms1 acc (Pv (i + 1))) ∧ ∀ acc ms1, Pv ns.length acc ms1 → R (.f acc) ms1) :
    E K (tLc (iList K tl) g tt te vs) ds ms R := fun L M σ H hS hA Q q =>
  h L M σ H hS hA _ fun s v H1 ms0 w o ⟨k, ns, e, hz, Pv, h0, hk, hs, hd⟩ => by
    subst e
    obtain ⟨a1, p, rfl, hp, hls⟩ := o
    have sq : ∀ {M' : List Addr} {ms' : List MD} {H' : Hp}, At L M' ms' H' → ms'[k]? = some (.l (ns.map .int)) → SqL K H' p (ns.map V.int) := fun {M' ms' H'} a' e' => by
      obtain ⟨xs, e1, r1⟩ := a'.get hp e'
      rw [RpA.ints_inv r1] at e1
      exact SqL.of e1
    refine ⟨p, rfl, ⟨_, sq a1 (hk 0 [] ms0 h0)⟩, fun D hD => ?_⟩
    have hDL := a1.freshL hD
    refine lc_list (xs := ns.map V.int) (fun i H' => ∃ acc ms', Cs L M H1 D i acc ms' H' ∧ Pv i acc ms') ⟨[], ms0, .start a1 hD, h0⟩ (fun i H' _ ⟨_, _, c, pv⟩ => sq c.a (hk _ _ _ pv)) (fun i x H' hi ⟨acc, ms', c, pv⟩ => ?_) (fun H' ⟨acc, ms', c, pv⟩ => ?_)
    · rw [List.getElem?_map] at hi
      cases e : ns[i]? with
      | none => rw [e] at hi; cases hi
      | some n =>
        rw [e] at hi
        cases hi
        have hl := (List.getElem?_eq_some_iff.mp e).1
        exact lc_turn (x := .d (.int n)) (v := .int n) (Nn := Pv) hj (by omega) (hS.mono hA w) a1 hD c (.int n) (hs i n acc ms' e pv)
    · rw [List.length_map] at pv
      exact q (.f acc) _ H' ms' (w.trans c.w) ⟨D, rfl, none_back a1 w (a1.fresh hD) hD, a1.fresh hD, c.done a1.sub hDL, a1.sub⟩ (hd acc ms' pv)
end
end Hc

namespace Hc
open PySem PySem.Spec PyProof.Rows L2
/-! ### errors -/
abbrev PhX := List SD → List MD → RS → (List MD → Prop) → Prop
/-- a def that hands back, or raises the class at C -/
def SpX (K : PySem.W.Frag) (C : Addr) (Φ : PhX) : Sp := fun vs H Q X => ∃ L M ms as R Y, At L M ms H ∧ SlsOk K L M H as vs ∧ Φ as ms R Y ∧ (∀ s v H' ms', Wk L H H' → Out K L M H H' ms' v s → R s ms' → Q v H') ∧ ∀ H' ms', Wk L H H' → At L M ms' H' → Y ms' → X (.ref C) none H'
def Ex (L M : List Addr) (H : Hp) (C : Addr) (Y : List MD → Prop) (X : XK) : Prop := ∀ H' ms', Wk L H H' → At L M ms' H' → Y ms' → X (.ref C) none H'
def SX (K : PySem.W.Frag) (C : Addr) (t : XK → TS) (ds : List SD) (ms : List MD) (P : Po) (Y : List MD → Prop) : Prop :=
  ∀ (L M : List Addr) (σ : L2.St) (H : Hp), Sl K L M σ H ds → At L M ms H → ∀ (D : Ends) (X : XK), Nx K L M H P.nx D.nx → Rx K L M H P.rt D.rt → Nx K L M H P.bk D.bk → Nx K L M H P.ct D.ct → Ex L M H C Y X → t X D σ H
section
variable {K : PySem.W.Frag} {C : Addr} {te ta tb tc tl : TE} {tt : TT} {tA : TA} {ds : List SD} {ms : List MD} {R : RS} {P : Po} {Y : List MD → Prop}
theorem Ex.on {L M : List Addr} {H H1 : Hp} {X : XK} (w : Wk L H H1) (h : Ex L M H C Y X) : Ex L M H1 C Y X := fun H' ms' w2 => h H' ms' (w.trans w2)
theorem sx_of {t : TS} (h : S K t ds ms P) : SX K C (fun _ => t) ds ms P Y := fun L M σ H hS hA D X n r b c _ => h L M σ H hS hA D n r b c
theorem sx_seq {t u : XK → TS} (h : SX K C t ds ms { P with nx := fun ds1 ms1 => SX K C u ds1 ms1 P Y } Y) : SX K C (fun X => tSeq (t X) (u X)) ds ms P Y := fun L M σ H hS hA D X n r b c x =>
  h L M σ H hS hA { D with nx := u X D } X (fun σ1 H1 ds1 ms1 w s1 a1 h1 => h1 L M σ1 H1 s1 a1 D X (n.on w) (r.on a1 w) (b.on w) (c.on w) (x.on w)) r b c x
theorem sx_if {t u : XK → TS} (h : ET K tt ds ms fun b ms1 => (b = true → SX K C t ds ms1 P Y) ∧ (b = false → SX K C u ds ms1 P Y)) : SX K C (fun X => tIfS tt (t X) (u X)) ds ms P Y := fun L M σ H hS hA D X n r b c x =>
  h L M σ H hS hA _ fun k H1 ms1 w a ⟨h1, h2⟩ => by
    cases k with
    | true => exact h1 rfl L M σ H1 (hS.mono hA w) a D X (n.on w) (r.on a w) (b.on w) (c.on w) (x.on w)
    | false => exact h2 rfl L M σ H1 (hS.mono hA w) a D X (n.on w) (r.on a w) (b.on w) (c.on w) (x.on w)
/-- raise -/
def tRs (C : Addr) (X : XK) : TS := fun _ σ H => (fun (cls : Value) (d : Option Addr) (H' : Hp) => (fun (c : Value) (d : Option Addr) (_ : L2.St) (H : Hp) => X c d H) cls d σ H') (.ref C) none H
theorem sx_raise (h : Y ms) : SX K C (tRs C) ds ms P Y := fun L M σ H hS hA D X n r b c x => x H ms (Wk.refl L H) hA h
theorem kit_up {D : Addr} (hc : (PySem.W.clsIn K D).isSome = true) (ht : PySem.W.typeIn K (.ref D) = some (.type "type")) (hs : PySem.W.subIn K (.ref C) (.ref D) = some true) : PySem.W.kitOne K (.ref C) (.ref D) = some true := by
  unfold PySem.W.kitOne
  by_cases e : ((Value.ref C == Value.ref D) = true)
  · rw [if_pos e]
  · rw [if_neg e]
    show (if _ then _ else _) = _
    rw [hc, ht, hs]
    rfl
theorem kit_upT {T : String} (hm : PySem.W.kitMeta T = true) (hs : PySem.W.subIn K (.ref C) (.type T) = some true) : PySem.W.kitOne K (.ref C) (.type T) = some true := by
  unfold PySem.W.kitOne
  rw [if_neg (by simp)]
  show (if _ then _ else _) = _
  rw [if_pos hm, hs]
/-- a class of one's own over ValueError -/
structure Er (K : PySem.W.Frag) (mg : Str → Option Value) (x : Str) (C : Addr) : Prop where
  g : mg x = some (.ref C)
  x : PySem.W.excIn K C [.type "ValueError", .type "Exception", .type "BaseException", .type "object"] "ValueError.__new__" = true
  k : PySem.W.keepIn K (.ref C) = true
  b : PySem.W.subIn K (.ref C) (.type "BaseException") = some true
  t : PySem.W.typeIn K (.ref C) = some (.type "type")
  s : PySem.W.subIn K (.ref C) (.ref C) = some true
  e : ExcC K C
theorem ps_raiseD {X : Cx} {x m : Str} {j : Nat} {p p2 pos pos' : Pos} {E₁ : Value → Shared → Prop} {Y : XK} (e : Er X.K X.mg x C) (hc : X.calm = true) (hs : X.stack = X.env :: X.outer) (hf : X.env.frame = some X.env.locals) (hex : X.ex = [])
    (hx : X.xe = fun e s' => wpAny (model X.prog X.w) X.A (leaving X.env e) (fun _ s'' => L2.CX X.prog X.w X.outer X.H_0 X.s_0 Y e s'') E₁ s') (hg : Gl X x) (hdb : (x == ("__debug__" : Str)) = false := by decide) :
    PS X (.Raise (some (.Call (.Name x p) [.Constant (.str m) j p2] [] pos)) none pos') (tRs C Y) :=
  ps_raise hc (takes_of hs hf hex hx) (pmk_own PySem.F.excBase_ValueError e.x e.g e.k (raises_own e.b e.t) hg hdb)
/-- a def that may raise, by name -/
structure KnX (Pg : Program) (w : World) (K : PySem.W.Frag) (mg : Str → Option Value) (base : Heap) (x : Str) (lv : Nat) (ps : List Str) (C : Addr) (Φ : PhX) : Prop where
  ex : ∃ f fd, FnOk Pg w K mg base (L2.CX Pg w) lv f fd ps (SpX K C Φ) ∧ mg x = some (.ref f) ∧ PySem.W.keepIn K (.ref f) = true ∧ Binds K fd ps []
theorem pe_callX {X : Cx} {x : Str} {lv : Nat} {ps : List Str} {Φ : PhX} {W : WX} {e : Expr} {es : List Expr} {t : TA} {p pos : Pos} (h : KnX X.prog X.w X.K X.mg X.base x lv ps C Φ) (hr : Room lv X.A) (hg : Gl X x) (tk : Takes X W) (ha : PA X (e :: es) t)
    (hdb : (x == ("__debug__" : Str)) = false := by decide) (he : starEach (e :: es) X.env = (false, eval e X.env) :: starEach es X.env := by rfl) (hpl : (backTo pos (starEach es X.env)).any (·.1) = false := by rfl) :
    PE X (.Call (.Name x p) (e :: es) [] pos) (tCallS (SpX X.K C Φ) (WE W) t) := by
  obtain ⟨f, fd, G, m, k, b⟩ := h.ex
  exact pe_callS G hr hg m k b (fun σ => passAt tk σ) ha hdb he hpl
/-- in a place where it raises nothing -/
theorem pe_callX0 {X : Cx} {x : Str} {lv : Nat} {ps : List Str} {Φ : PhX} {e : Expr} {es : List Expr} {t : TA} {p pos : Pos} (h : KnX X.prog X.w X.K X.mg X.base x lv ps C Φ) (hr : Room lv X.A) (hg : Gl X x) (ha : PA X (e :: es) t)
    (hdb : (x == ("__debug__" : Str)) = false := by decide) (he : starEach (e :: es) X.env = (false, eval e X.env) :: starEach es X.env := by rfl) (hpl : (backTo pos (starEach es X.env)).any (·.1) = false := by rfl) :
    PE X (.Call (.Name x p) (e :: es) [] pos) (tCall (SpX X.K C Φ) [] E0 t) := by
  obtain ⟨f, fd, G, m, k, b⟩ := h.ex
  exact pe_call G hr hg m k b .nil passL ha hdb he hpl
theorem e_callX0 {Φ : PhX} (h : EA K tA ds ms fun as ms1 => Φ as ms1 R fun _ => False) : E K (tCall (SpX K C Φ) [] E0 tA) ds ms R := fun L M σ H hS hA Q q =>
  h L M σ H hS hA _ fun as vs H1 ms1 w1 a1 o1 h1 => by
    rw [List.append_nil]
    exact ⟨L, M, ms1, as, R, fun _ => False, a1, o1, h1, fun s v H3 ms3 w3 o3 r3 => q s v H3 ms3 (w1.trans w3) (o3.back a1 w1) r3, fun _ _ _ _ z => z.elim⟩
theorem okX_of {Pg : Program} {w : World} {mg : Str → Option Value} {base : Heap} {x qual : Str} {st : Stmt} {f : Addr} {fd : FuncData} {N ps : List Str} {k : Nat} {Φ : PhX} (F : Fun K x qual st f fd) (Sc : FnScope N ps (defScope st)) (hl : ∀ as ms R Y, Φ as ms R Y → as.length = ps.length) (hpn : ps.length ≤ N.length)
    (t : XK → TS) (hbody : ∀ (cdv : Value) (A : Around) (outer : List Env) (s : Shared) (H : Hp) (E : XK), Room k (A.deeper (envOfC qual (defScope st) s.heap.objs.size f cdv)) → PSs (cxOf (L2.CX Pg w) Pg w K mg base N qual (defScope st) f cdv A outer s H E) (defBody st) (t E))
    (h2 : ∀ as ms R Y, Φ as ms R Y → SX K C t (as ++ List.replicate (N.length - as.length) .u) ms (fin R) Y) : FnOk Pg w K mg base (L2.CX Pg w) (k + 1) f fd ps (SpX K C Φ) := by
  refine F.okX Sc (fun vs H Q E h => ?_) (fun cdv A outer s H vs Q E hr h => ⟨t E, hbody cdv A outer s H E hr, ?_⟩)
  · obtain ⟨L, M, ms, as, R, Y, hA, ho, hp, q⟩ := h
    rw [← ho.len]
    exact hl as ms R Y hp
  · obtain ⟨L, M, ms, as, R, Y, hA, ho, hp, q, x⟩ := h
    exact h2 as ms R Y hp L M _ H (Sl.start ho (by rw [hl as ms R Y hp]; exact hpn)) hA _ E (fun σ' H' ds' ms' w s a r => q (.d .none) .non H' ms' w ⟨a, .non⟩ r) (fun s v H' ms' w o r => q s v H' ms' w o r) (fun _ _ _ _ _ _ _ z => z.elim) (fun _ _ _ _ _ _ _ z => z.elim) x
/-! ### try .. except X as n -/
/-- a suite that is for the class at C alone -/
def tSu (C : Addr) (cls : Value) (d : Option Addr) (t : TS) : TS := fun D σ H => (cls = .ref C ∧ d = none) ∧ t D σ H
theorem pss_su {X : Cx} {cls : Value} {d : Option Addr} {st : List Stmt} {t : TS} (h : cls = .ref C → d = none → PSs X st t) : PSs X st (tSu C cls d t) := ⟨fun pins s σ H D I q => by
  obtain ⟨⟨e1, e2⟩, q⟩ := q
  exact (h e1 e2).run pins s σ H D I q⟩
/-- the whole: a call in the try, dropped; ts: the suite by the error's own address -/
def tTry (K : PySem.W.Frag) (C : Addr) (i : Nat) (te : WX → TE) (ts : Addr → TS) : TS := fun D σ H => tDrop (te (wAs K (.ref C) i (fun a cls d => tSu C cls d (ts a)) (fun _ _ _ _ => False) D)) D σ H
theorem s_try {i : Nat} {Φ : PhX} {ts : Addr → TS} (hm : PySem.W.exmOne K (.ref C) (.ref C) = some true) (h : EA K tA ds ms fun as ms1 => Φ as ms1 (fun _ ms2 => P.nx ds ms2) fun ms2 => ∀ a, S K (ts a) (ds.set i (.v (.ref a))) ms2 { nx := fun ds' ms' => P.nx (ds'.set i .u) ms', rt := P.rt, bk := fun ds' ms' => P.bk (ds'.set i .u) ms', ct := fun ds' ms' => P.ct (ds'.set i .u) ms' }) :
    S K (tTry K C i (fun W => tCallS (SpX K C Φ) (WE W) tA) ts) ds ms P := fun L M σ H hS hA D n r b c =>
  h L M σ H hS hA _ fun as vs H1 ms1 w1 a1 o1 h1 =>
    ⟨L, M, ms1, as, _, _, a1, o1, h1, fun s v H2 ms2 w2 o2 r2 => n σ H2 ds ms2 (w1.trans w2) (hS.mono hA (w1.trans w2)) o2.at r2, fun H2 ms2 w2 a2 y => ⟨true, hm, fun _ a ha => ⟨⟨rfl, rfl⟩, by
      have w := w1.trans w2
      refine y a L M _ H2 ((hS.mono hA w).set i (show SlOk K L M H2 (.v (.ref a)) (.ref a) from rfl)) a2 _ ?_ (r.on a2 w) ?_ ?_
      · intro σ3 H3 ds3 ms3 w3 s3 a3 q
        exact n _ H3 _ ms3 (w.trans w3) (s3.forget i none) a3 q
      · intro σ3 H3 ds3 ms3 w3 s3 a3 q
        exact b _ H3 _ ms3 (w.trans w3) (s3.forget i none) a3 q
      · intro σ3 H3 ds3 ms3 w3 s3 a3 q
        exact c _ H3 _ ms3 (w.trans w3) (s3.forget i none) a3 q⟩, nofun⟩⟩
theorem e_isE {i : Nat} {a : Addr} {c : V} {cv : Value} {k : Bool} (hi : ds[i]? = some (.v (.ref a))) (hc : ∀ u, RelV c u → u = cv) (hk : PySem.W.kitOne K (.ref C) cv = some k) (r : R (.d (.bool k)) ms) : E K (tCB (rIsE K C a) (tCons (tVar i) (tCons (tC c) tNil))) ds ms R := fun L M σ H hS hA Q q => by
  obtain ⟨v, e, o⟩ := hS.get hi (fun z => nomatch z)
  cases o
  exact ⟨.ref a, e, c, cv, k, rfl, hc, hk, q (.d (.bool k)) _ H ms (Wk.refl L H) ⟨hA, .bl k⟩ r⟩
end
def phx2 (f : SD → SD → List MD → RS → (List MD → Prop) → Prop) : PhX := fun as ms R Y => ∃ a b, as = [a, b] ∧ f a b ms R Y
theorem phx2_len {f : SD → SD → List MD → RS → (List MD → Prop) → Prop} : ∀ as ms R Y, phx2 f as ms R Y → as.length = 2 := fun _ _ _ _ ⟨_, _, e, _⟩ => by rw [e]; rfl
end Hc

namespace Hc
open PySem PySem.Spec PyProof.Rows L2
/-! ### what is a list or a tuple, in a slot, walked -/
def iRow (K : PySem.W.Frag) (i : Nat) : TI := fun σ H R => iList K (tVar i) σ H R ∨ iTup K (tVar i) σ H R
theorem pi_row {X : Cx} {tg l : Expr} {i : Nat} (h : PE X l (tVar i)) : PI X tg l (iRow X.K i) := ⟨fun pins s σ H R I q => by
  rcases q with q | q
  · exact (pi_list h).run pins s σ H R I q
  · exact (pi_tup h).run pins s σ H R I q⟩
abbrev rJoinK (K : PySem.W.Frag) : V → List V → Hp → VK → Prop := fun x xs H Q => ∃ a p, ∃ ys : List Str, x = .str a ∧ xs = [.ref p] ∧ (SqL K H p (ys.map V.str) ∨ SqT K H p (ys.map V.str)) ∧ (ys.map (·.length)).sum + ys.length * a.length ≤ 16777216 ∧ Q (.str (Txt.join a ys)) H
section
variable {K : PySem.W.Frag} {te ta tb tc tl : TE} {tt : TT} {tA : TA} {ds : List SD} {ms : List MD} {R : RS} {P : Po}
theorem e_lcRowL {i : Nat} {g : TG} {vs : List Nat} (h : E K (tLc (iList K (tVar i)) g tt te vs) ds ms R) : E K (tLc (iRow K i) g tt te vs) ds ms R := fun L M σ H hS hA Q q => .inl (h L M σ H hS hA Q q)
theorem e_lcRowT {i : Nat} {g : TG} {vs : List Nat} (h : E K (tLc (iTup K (tVar i)) g tt te vs) ds ms R) : E K (tLc (iRow K i) g tt te vs) ds ms R := fun L M σ H hS hA Q q => .inr (h L M σ H hS hA Q q)
/-- both at once: the source a row es -/
theorem e_lcRow {i : Nat} {g : TG} {js vs : List Nat} {x : PyData} {es : List PyData} (hi : ds[i]? = some (.d x)) (hx : x = .list es ∨ x = .tuple es) (hj : ∀ j ∈ js, j ∈ vs) (hz : es.length ≤ 10000) (Pv : Nat → List PyData → List MD → Prop) (h0 : Pv 0 [] ms)
      (hs : ∀ i e acc ms1, es[i]? = some e → Pv i acc ms1 → Lt K g js tt te vs ds (.d e) ms1 acc (Pv (i + 1))) (hd : ∀ acc ms1, Pv es.length acc ms1 → R (.f acc) ms1) : E K (tLc (iRow K i) g tt te vs) ds ms R := by
  rcases hx with rfl | rfl
  · exact e_lcRowL (e_lcL hj (e_var hi ⟨es, .d es, hz, Pv, h0, hs, hd⟩))
  · exact e_lcRowT (e_lcT hj (e_var hi ⟨es, rfl, hz, Pv, h0, hs, hd⟩))
theorem strs_inv {M : List Addr} {H : Hp} : ∀ {zs : List Str} {xs : List V}, RpA M H xs (zs.map PyData.str) → xs = zs.map V.str
  | [], _, h => by cases h; rfl
  | n :: r, _, h => by
    cases h with
    | cons a b => cases a; rw [strs_inv b]; rfl
theorem e_join (h : E K ta ds ms fun s ms1 => ∃ a, s = .d (.str a) ∧ E K te ds ms1 fun s2 ms2 => ∃ zs : List Str, Sv ms2 (dd s2) (.list (zs.map .str)) ∧ (zs.map (·.length)).sum + zs.length * a.length ≤ 16777216 ∧ R (.d (.str (Txt.join a zs))) ms2) : E K (tM1 (rJoinK K) ta te) ds ms R := fun L M σ H hS hA Q q =>
  h L M σ H hS hA _ fun s v H1 ms1 w1 o1 ⟨a, e, h1⟩ => by
    subst e
    obtain ⟨a1, z⟩ := o1
    cases z
    refine ⟨⟨a, rfl⟩, ?_⟩
    refine h1 L M σ H1 (hS.mono hA w1) a1 _ fun s2 v2 H2 ms2 w2 o2 ⟨zs, sv, hz, r⟩ => ?_
    obtain ⟨p, xs, rfl, hq, hr⟩ := sv.lst o2.at o2.sl
    rw [strs_inv hr] at hq
    exact ⟨a, p, zs, rfl, rfl, .inl hq, hz, q (.d (.str _)) _ H2 ms2 (w1.trans w2) ⟨o2.at, .str _⟩ r⟩
end
end Hc

namespace Hc
open PySem PySem.Spec PyProof.Rows L2
/-! ### o[i] op= e -/
def rIxN (K : PySem.W.Frag) : V → V → Hp → VK → Prop := fun o i H Q => ∃ (p : Addr) (xs : List V) (j : Nat) (v : V), o = .ref p ∧ i = .int j ∧ SqL K H p xs ∧ xs[j]? = some v ∧ Q v H
theorem get_listN {X : Cx} : PGet X (rIxN X.K) := by
  intro pins s σ H o i ov iv Q I ro ri h
  obtain ⟨p, xs, j, v, rfl, rfl, hq, hv, q⟩ := h
  cases ro
  obtain ⟨t, rfl⟩ := ri
  obtain ⟨its, r, pl, hz⟩ := I.list hq
  obtain ⟨w, ew, rw'⟩ := r.get hv
  have hj := (List.getElem?_eq_some_iff.mp hv).1
  have hn := line63
  exact wpAny_getItem_list pl.isList (by omega) (by omega) (by simpa using ew) ⟨v, H, I, rw', q⟩
theorem ip_xor {X : Cx} : PIp X .BitXor (ipI fun i j => Builtin.bitXor i j) := by
  intro pins s σ H x y v u Q I r1 r2 h
  obtain ⟨i, j, e1, e2, q⟩ := h
  subst e1; subst e2
  obtain ⟨t, rfl⟩ := r1
  obtain ⟨t', rfl⟩ := r2
  exact ixor_int ⟨.int _, H, I.tok _, ⟨_, rfl⟩, q⟩
section
variable {K : PySem.W.Frag} {te ta tb tc tl : TE} {tt : TT} {tA : TA} {ds : List SD} {ms : List MD} {R : RS} {P : Po}
/-- a place of a list of ints that may change, by a written number -/
theorem s_augN {i j : Nat} {f : Int → Int → Int} {c : Int} {k q : Nat} {ns : List Int} {x : Int} (hi : ds[i]? = some (.m k)) (hj : ds[j]? = some (.d (.int q))) (hm : ms[k]? = some (.l (ns.map .int))) (hx : ns[q]? = some x) (h : P.nx ds (ms.set k (.l ((ns.set q (f x c)).map .int)))) :
    S K (tAugS (tVar i) (tVar j) (tC (.int c)) (rIxN K) (ipI f) rSetL) ds ms P := fun L M σ H hS hA D n r b cc => by
  obtain ⟨v, e, p, rfl, hp, hls⟩ := hS.get hi (fun z => nomatch z)
  obtain ⟨v2, e2, o2⟩ := hS.get hj (fun z => nomatch z)
  cases o2
  obtain ⟨xs, e1, r1⟩ := hA.get hp hm
  have hpL : p ∈ L := List.mem_of_getElem? hp
  have hxs := RpA.ints_inv r1
  subst hxs
  have hq := (List.getElem?_eq_some_iff.mp hx).1
  refine ⟨.ref p, e, .int q, e2, p, _, q, .int x, rfl, rfl, SqL.of e1, by rw [List.getElem?_map, hx]; rfl, x, c, rfl, rfl, p, _, q, q, rfl, rfl, e1, ?_, ?_⟩
  · unfold ixN
    rw [if_pos (by omega), if_pos (by rw [List.length_map]; omega)]
    simp
  · refine n σ _ ds _ (Wk.mut hpL e1) (hS.mono hA (Wk.mut hpL e1)) ?_ h
    have : (ns.map V.int).set q (.int (f x c)) = (ns.set q (f x c)).map V.int := by rw [List.map_set]
    rw [this]
    exact hA.put hp e1 (RpA.ints _)
theorem rr_rep {a b : SD} (h : ∃ (e : PyData) (k : Int), a = .d (.list [e]) ∧ b = .d (.int k) ∧ 0 ≤ k ∧ k ≤ 1000 ∧ R (.f (List.replicate k.toNat e)) ms) : RR K rRep a b ms R := fun L M H x y hA ha hb Q q => by
  obtain ⟨e, k, rfl, rfl, h1, h2, r⟩ := h
  cases hb
  obtain ⟨p, xs, rfl, ep, rp⟩ := cat_lst ha
  obtain ⟨v, rfl⟩ : ∃ v, xs = [v] := by
    cases rp with
    | cons z y => cases y; exact ⟨_, rfl⟩
  refine ⟨p, k, [v], rfl, rfl, ep, by omega, by omega, by show 1 * k.toNat ≤ sizeLine; rw [Nat.one_mul]; exact Nat.le_trans (show k.toNat ≤ 1000 by omega) (by decide), ?_⟩
  have rr : ∀ m : Nat, RpA M H (List.replicate m [v]).flatten (List.replicate m e) := fun m => by
    induction m with
    | zero => exact .nil
    | succ m ih =>
      rw [List.replicate_succ, List.replicate_succ, List.flatten_cons]
      cases rp with
      | cons z y => exact .cons z ih
  intro l hl
  exact q (.f (List.replicate k.toNat e)) _ _ ms (Wk.new hl) (out_new hA (Wk.refl L H) hl (rr k.toNat)) r
theorem erase_map : ∀ (ns : List Int) (i : Nat), (ns.map V.int).eraseIdx i = (ns.eraseIdx i).map V.int
  | [], _ => rfl
  | _ :: _, 0 => rfl
  | a :: r, i + 1 => by
    show V.int a :: (r.map V.int).eraseIdx i = V.int a :: (r.eraseIdx i).map V.int
    rw [erase_map r i]
theorem inV_ints (x : Int) (ns : List Int) : inV (.int x) (ns.map V.int) = decide (x ∈ ns) := by
  unfold inV
  induction ns with
  | nil => rfl
  | cons a r ih =>
    rw [List.map_cons, List.any_cons, ih]
    show ((a == x) || _) = _
    by_cases e : a = x
    · subst e; simp
    · have e' : (a == x) = false := by simp [e]
      rw [e']
      have : ¬ x = a := fun z => e z.symm
      simp [this]
theorem flat_ints (ns : List Int) : (ns.map V.int).all flatV = true := by
  rw [List.all_eq_true]
  intro v hv
  obtain ⟨i, _, rfl⟩ := List.mem_map.mp hv
  rfl
theorem rr_in {a b : SD} {neg : Bool} (h : ∃ (x : Int) (ns : List Int), a = .d (.int x) ∧ (Sv ms b (.list (ns.map .int)) ∨ Sv ms b (.tuple (ns.map .int))) ∧ R (.d (.bool (if neg then !decide (x ∈ ns) else decide (x ∈ ns)))) ms) : RR K (rIn K neg) a b ms R := fun L M H u v hA ha hb Q q => by
  obtain ⟨x, ns, rfl, sv, r⟩ := h
  cases ha
  rw [← inV_ints] at r
  rcases sv with sv | sv
  · obtain ⟨p, xs, rfl, hq, hr⟩ := sv.lst hA hb
    rw [RpA.ints_inv hr] at hq
    exact ⟨p, _, rfl, .inl hq, rfl, flat_ints ns, q (.d (.bool _)) _ H ms (Wk.refl L H) ⟨hA, .bl _⟩ r⟩
  · obtain ⟨p, xs, rfl, hq, hr⟩ := sv.tup hb
    rw [RpA.ints_inv hr] at hq
    exact ⟨p, _, rfl, .inr (SqT.of hq), rfl, flat_ints ns, q (.d (.bool _)) _ H ms (Wk.refl L H) ⟨hA, .bl _⟩ r⟩
theorem rc_sorted {as : List SD} (h : ∃ (s : SD) (ns : List Int), as = [s] ∧ Sv ms s (.list (ns.map .int)) ∧ ∀ ns' : List Int, ns'.Perm ns → ns'.Pairwise (· ≤ ·) → R (.f (ns'.map .int)) ms) : RC K (rSortedI K) as ms R := fun L M H vs hA ha Q q => by
  obtain ⟨s, ns, rfl, sv, r⟩ := h
  obtain ⟨v, t, rfl, hv, rfl⟩ := ha
  obtain ⟨p, xs, rfl, hq, hr⟩ := sv.lst hA hv
  rw [RpA.ints_inv hr] at hq
  refine ⟨p, ns, rfl, hq, ?_⟩
  intro ns' l hp hs hl
  exact q (.f (ns'.map .int)) _ _ ms (Wk.new hl) (out_new hA (Wk.refl L H) hl (RpA.ints ns')) (r ns' hp hs)
/-- list(range(n)) -/
theorem e_lrg (h : E K ta ds ms fun s ms1 => ∃ n : Nat, s = .d (.int n) ∧ n ≤ 10000 ∧ R (.f ((List.range n).map fun k : Nat => PyData.int k)) ms1) : E K (tLstRg (tRg1 ta)) ds ms R := fun L M σ H hS hA Q q =>
  h L M σ H hS hA _ fun s v H1 ms1 w o ⟨n, e, hn, r⟩ => by
    subst e
    obtain ⟨a1, z⟩ := o
    cases z
    refine ⟨n, rfl, .of_le (by omega) (by omega) (by omega) (by omega), fun l hl => ?_⟩
    have rr : RpA M H1 (rgV 0 (n : Int)) ((List.range n).map fun k : Nat => PyData.int k) := by
      unfold rgV
      have e0 : ((n : Int) - 0).toNat = n := by omega
      rw [e0]
      have : ∀ l : List Nat, RpA M H1 (l.map fun i : Nat => V.int (0 + (i : Int))) (l.map fun k : Nat => PyData.int k) := fun l => by
        induction l with
        | nil => exact .nil
        | cons a r ih =>
          refine .cons ?_ ih
          show Rp M H1 (.int (0 + (a : Int))) (.int a)
          rw [Int.zero_add]
          exact .int _
      exact this _
    exact q (.f _) _ _ ms1 (w.trans (Wk.new hl)) (out_new a1 w hl rr) r
/-- xs.pop(i) of a list of ints that may change -/
theorem e_popAt (h : E K ta ds ms fun s ms1 => ∃ k, s = .m k ∧ E K te ds ms1 fun x ms2 => ∃ (ns : List Int) (i : Nat) (y : Int), x = .d (.int i) ∧ ms2[k]? = some (.l (ns.map .int)) ∧ ns[i]? = some y ∧ ns.length ≤ 10000 ∧ R (.d (.int y)) (ms2.set k (.l ((ns.eraseIdx i).map .int)))) : E K (tBM K "list" rPopAt ta (tCons te tNil)) ds ms R := fun L M σ H hS hA Q q =>
  h L M σ H hS hA _ fun s v H1 ms1 w o ⟨k, e, h2⟩ => by
    subst e
    obtain ⟨a1, p, rfl, hp, hls⟩ := o
    have hpL : p ∈ L := List.mem_of_getElem? hp
    have hk : k < ms1.length := by rw [← a1.ln]; exact (List.getElem?_eq_some_iff.mp hp).1
    · obtain ⟨xs0, e0⟩ := hls
      refine ⟨.inl ⟨rfl, xs0, SqL.of e0⟩, ?_⟩
      refine h2 L M σ H1 (hS.mono hA w) a1 _ fun x y H2 ms2 w2 o2 ⟨ns, i, z, ex, em, hz, hl, r⟩ => ?_
      subst ex
      obtain ⟨a2, o⟩ := o2
      cases o
      obtain ⟨xs, e1, r1⟩ := a2.get hp em
      have hxs := RpA.ints_inv r1
      subst hxs
      have hi := (List.getElem?_eq_some_iff.mp hz).1
      refine ⟨p, _, i, i, .int z, rfl, rfl, e1, by omega, by omega, ?_, by rw [List.getElem?_map, hz]; rfl, ?_⟩
      · unfold seqIndex?
        simp only [List.length_map]
        rw [if_neg (show ¬ (i : Int) < 0 by omega)]
        simp [hi]
      · have : (ns.map V.int).eraseIdx i = (ns.eraseIdx i).map V.int := erase_map ns i
        rw [this]
        exact q (.d (.int z)) _ _ _ ((w.trans w2).trans (Wk.mut hpL e1)) ⟨a2.put hp e1 (RpA.ints _), .int z⟩ r
theorem e_count (h : E K ta ds ms fun s ms1 => ∃ ns : List Int, Sv ms1 (dd s) (.list (ns.map .int)) ∧ E K te ds ms1 fun x ms2 => ∃ k : Int, x = .d (.int k) ∧ ms2 = ms1 ∧ R (.d (.int (ns.count k : Nat))) ms2) : E K (tBM K "list" (rCntI K) ta (tCons te tNil)) ds ms R := fun L M σ H hS hA Q q =>
  h L M σ H hS hA _ fun s v H1 ms1 w o ⟨ns, sv, h2⟩ => by
    have a1 := o.at
    have os := o.sl
    obtain ⟨p, xs, rfl, hq, hr⟩ := sv.lst a1 os
    refine ⟨.inl ⟨rfl, xs, hq⟩, ?_⟩
    refine h2 L M σ H1 (hS.mono hA w) a1 _ fun x y H2 ms2 w2 o2 ⟨k, ex, em, r⟩ => ?_
    subst ex em
    obtain ⟨a2, z⟩ := o2
    cases z
    obtain ⟨p2, xs2, ep, hq2, hr2⟩ := sv.lst a2 (os.mono a1 w2)
    cases ep
    rw [RpA.ints_inv hr2] at hq2
    exact ⟨p, ns, k, rfl, rfl, hq2, q (.d (.int _)) _ H2 _ (w.trans w2) ⟨a2, .int _⟩ r⟩
section
variable {L M : List Addr} {σ : L2.St} {H1 H' : Hp}
theorem lc_turn2 {g : TG} {js : List Nat} {vs : List Nat} {D : Addr} {i : Nat} {acc : List PyData} {ms0 ms1 : List MD} {H2 : Hp} {x : SD} {v : V} {Nn : Nat → List PyData → List MD → Prop} (hj : ∀ j ∈ js, j ∈ vs) (hi : i < 10000)
    (hS : Sl K L M σ H1 ds) (a0 : At L M ms0 H1) (hD : H1 D = none) (c : Cs L M H1 D i acc ms1 H2) (ho : SlOk K L (M ++ [D]) H2 x v) (h : Lt K g js tt te vs ds x ms1 acc (Nn (i + 1))) :
    g v (L2.wipe σ vs) H2 fun σ2 H3 => L2.wipe σ2 vs = L2.wipe σ vs ∧ tt σ2 H3 fun b H4 => if b = true then te σ2 H4 fun y H5 => ∃ ac, H5 D = some (.lst ac) ∧ ac.length < sizeLine ∧ (∃ acc' ms', Cs L M H1 D (i + 1) acc' ms' (upd H5 D (.lst (ac ++ [y]))) ∧ Nn (i + 1) acc' ms') else ∃ acc' ms', Cs L M H1 D (i + 1) acc' ms' H4 ∧ Nn (i + 1) acc' ms' := by
  have t : To M (M ++ [D]) H1 H2 := to_new a0 hD c.w
  have hDL : D ∉ L := a0.freshL hD
  have s2 : Sl K L (M ++ [D]) (L2.wipe σ vs) H2 (wipeD ds vs) := (hS.to t c.w.kd fun _ _ e => e).wipe vs
  refine h L (M ++ [D]) (L2.wipe σ vs) H2 v s2 c.a ho _ fun σ2 ds2 sl2 wp h2 => ?_
  have wv : L2.wipe σ2 vs = L2.wipe σ vs := by
    rw [wp vs hj]
    apply List.ext_getElem?
    intro i
    rw [wipe_get, wipe_get, wipe_length]
    by_cases e : i ∈ vs
    · rw [if_pos e, if_pos e]
    · simp only [if_neg e, wipe_get]
  refine ⟨wv, ?_⟩
  refine h2 L (M ++ [D]) σ2 H2 sl2 c.a _ fun b H4 ms4 w4 a4 ⟨k1, k2⟩ => ?_
  obtain ⟨xs, e, r⟩ := c.d
  have e4 : H4 D = some (.lst xs) := w4 D _ hDL e
  have r4 : RpA (M ++ [D]) H4 xs acc := RpA.to (c.a.wk w4) _ _ r
  cases b with
  | false =>
    rw [if_neg Bool.false_ne_true]
    exact ⟨acc, ms4, ⟨c.w.trans w4, a4, Nat.le_succ_of_le c.le, xs, e4, r4⟩, k2 rfl⟩
  | true =>
    rw [if_pos rfl]
    refine k1 rfl L (M ++ [D]) σ2 H4 (sl2.mono c.a w4) a4 _ fun s y H5 ms5 w5 o5 ⟨d, ed, hn⟩ => ?_
    have a5 := o5.at
    have ry := o5.sl
    rw [ed] at ry
    have e5 : H5 D = some (.lst xs) := w5 D _ hDL e4
    have r5 : RpA (M ++ [D]) H5 xs acc := RpA.to (a4.wk w5) _ _ r4
    have hDM : D ∈ M ++ [D] := by simp
    have tt5 : To (M ++ [D]) (M ++ [D]) H5 (upd H5 D (.lst (xs ++ [y]))) := fun a o n q => ⟨n, by rw [upd_ne (fun z : a = D => n (by rw [z]; exact hDM))]; exact q⟩
    refine ⟨xs, e5, by rw [r5.length]; exact Nat.lt_of_le_of_lt c.le (Nat.lt_trans hi (by decide)), acc ++ [d], ms5, ⟨((c.w.trans w4).trans w5).over hD, ⟨a5.nd, a5.sub, fun p hp => ?_, a5.ln, fun k p m e1 e2 => ?_⟩, ?_, xs ++ [y], upd_same, RpA.to tt5 _ _ (r5.append (.cons ry .nil))⟩, hn⟩
    · by_cases z : p = D
      · subst z; rw [upd_same]; exact ⟨_, rfl, trivial⟩
      · rw [upd_ne z]; exact a5.al p hp
    · exact (a5.ok k p m e1 e2).to tt5 (upd_ne (fun z => hDL (z ▸ List.mem_of_getElem? e1)))
    · rw [List.length_append]; have := c.le; simp; exact this
theorem Cs.new {D T : Addr} {i : Nat} {acc : List PyData} {ms1 : List MD} {H2 : Hp} {o : HO} (c : Cs L M H1 D i acc ms1 H2) (hT : H2 T = none) : Cs L M H1 D i acc ms1 (upd H2 T o) := by
  obtain ⟨xs, e, r⟩ := c.d
  exact ⟨c.w.trans (Wk.new hT), c.a.new hT, c.le, xs, by rw [upd_ne (ne_of_none e hT)]; exact e, RpA.to (c.a.wk (Wk.new hT)) _ _ r⟩
end
/-- over zip(t, u) of two tuples -/
theorem e_lcZ {g : TG} {js vs : List Nat} (hj : ∀ j ∈ js, j ∈ vs) (h : EA K tA ds ms fun as ms0 => ∃ es fs : List PyData, as = [.d (.tuple es), .d (.tuple fs)] ∧ es.length ≤ 10000 ∧ ∃ Pv : Nat → List PyData → List MD → Prop, Pv 0 [] ms0 ∧
      (∀ i e f acc ms1, es[i]? = some e → fs[i]? = some f → Pv i acc ms1 → Lt K g js tt te vs ds (.d (.tuple [e, f])) ms1 acc (Pv (i + 1))) ∧ ∀ acc ms1, Pv (min es.length fs.length) acc ms1 → R (.f acc) ms1) :
    E K (tLc (RZ.iZipA K tA) g tt te vs) ds ms R := fun L M σ H hS hA Q q =>
  h L M σ H hS hA _ fun as us H1 ms0 w a1 o ⟨es, fs, ea, hz, Pv, h0, hs, hd⟩ => by
    subst ea
    obtain ⟨v1, t1, rfl, o1, v2, t2, rfl, o2, rfl⟩ := o
    have o1' : Rp M H1 v1 (.tuple es) := o1
    have o2' : Rp M H1 v2 (.tuple fs) := o2
    cases o1' with
    | @tup a xs _ na ea rx =>
    cases o2' with
    | @tup b ys _ nb eb ry =>
    have hx : ∀ H', Wk L H1 H' → SqT K H' a xs := fun H' w' => SqT.of (w' a _ (fun z => na (a1.sub a z)) ea)
    have hy : ∀ H', Wk L H1 H' → SqT K H' b ys := fun H' w' => SqT.of (w' b _ (fun z => nb (a1.sub b z)) eb)
    refine ⟨a, b, xs, ys, rfl, .inr ⟨hx H1 (Wk.refl L H1), hy H1 (Wk.refl L H1), fun D hD => ?_⟩⟩
    have hDL := a1.freshL hD
    refine ⟨fun i m H' => m = min es.length fs.length - i ∧ i ≤ min es.length fs.length ∧ ∃ acc ms', Cs L M H1 D i acc ms' H' ∧ Pv i acc ms', ⟨_, rfl, Nat.zero_le _, [], ms0, .start a1 hD, h0⟩, ?_⟩
    rintro i m H' ⟨rfl, hi, acc, ms', c, p⟩
    have qx := hx H' c.w
    have qy := hy H' c.w
    by_cases hlt : i < min es.length fs.length
    · have l1 : i < xs.length := by rw [rx.length]; omega
      have l2 : i < ys.length := by rw [ry.length]; omega
      refine .inr ⟨⟨xs, ys, xs[i], ys[i], qx, qy, by simp [l1], by simp [l2]⟩, fun H2 => ∃ acc' ms2, Cs L M H1 D (i + 1) acc' ms2 H2 ∧ Pv (i + 1) acc' ms2, fun H2 ⟨acc', ms2, c2, p2⟩ => ⟨min es.length fs.length - (i + 1), by omega, rfl, hlt, acc', ms2, c2, p2⟩, fun v H2 y => ?_⟩
      obtain ⟨T, x, y, rfl, hT, rfl, fx, fy⟩ := y
      obtain ⟨e, e1, e2⟩ := rx.get' (fx xs qx)
      obtain ⟨f, f1, f2⟩ := ry.get' (fy ys qy)
      have c2 := c.new (o := .tup [x, y]) hT
      have tt2 : To M (M ++ [D]) H1 (upd H' T (.tup [x, y])) := to_new a1 hD c2.w
      have ho : SlOk K L (M ++ [D]) (upd H' T (.tup [x, y])) (.d (.tuple [e, f])) (.ref T) := Rp.tup (c.a.fresh hT) upd_same (.cons (Rp.to tt2 _ _ e2) (.cons (Rp.to tt2 _ _ f2) .nil))
      exact lc_turn2 (x := .d (.tuple [e, f])) (v := .ref T) (Nn := Pv) hj (by omega) (hS.mono hA w) a1 hD c2 ho (hs i e f acc ms' e1 f1 p)
    · have e : i = min es.length fs.length := by omega
      subst e
      refine .inl ⟨⟨xs, ys, qx, qy, by rw [rx.length, ry.length]; omega⟩, ?_⟩
      exact q (.f acc) _ H' ms' (w.trans c.w) ⟨D, rfl, none_back a1 w (a1.fresh hD) hD, a1.fresh hD, c.done a1.sub hDL, a1.sub⟩ (hd acc ms' p)
theorem e_lcR2 {g : TG} {js vs : List Nat} (hj : ∀ j ∈ js, j ∈ vs) (h : EA K tA ds ms fun as ms0 => ∃ lo n : Int, as = [.d (.int lo), .d (.int n)] ∧ (-(2 ^ 62) ≤ lo ∧ lo < 2 ^ 62 ∧ -(2 ^ 62) ≤ n ∧ n < 2 ^ 62 ∧ n - lo ≤ 10000) ∧ ∃ Pv : Nat → List PyData → List MD → Prop, Pv 0 [] ms0 ∧
      (∀ i acc ms1, i < (n - lo).toNat → Pv i acc ms1 → Lt K g js tt te vs ds (.d (.int (lo + i))) ms1 acc (Pv (i + 1))) ∧ ∀ acc ms1, Pv (n - lo).toNat acc ms1 → R (.f acc) ms1) :
    E K (tLc (iRng2 tA) g tt te vs) ds ms R := fun L M σ H hS hA Q q =>
  h L M σ H hS hA _ fun as us H1 ms0 w a1 o ⟨lo, n, ea, hn, Pv, h0, hs, hd⟩ => by
    subst ea
    obtain ⟨v, t1, rfl, hv, v2, t2, rfl, hv2, rfl⟩ := o
    cases hv; cases hv2
    refine ⟨lo, n, rfl, ⟨hn.1, hn.2.1, hn.2.2.1, hn.2.2.2.1⟩, fun D hD => ?_⟩
    have hDL := a1.freshL hD
    refine lc_range (lo := lo) (n := (n - lo).toNat) (fun i H' => ∃ acc ms', Cs L M H1 D i acc ms' H' ∧ Pv i acc ms') ⟨[], ms0, .start a1 hD, h0⟩ (fun i H' hi ⟨acc, ms', c, p⟩ => ?_) (fun H' ⟨acc, ms', c, p⟩ => ?_)
    · exact lc_turn (x := .d (.int (lo + i))) (v := .int (lo + (i : Int))) (Nn := Pv) hj (by have := hn.2.2.2.2; omega) (hS.mono hA w) a1 hD c (.int _) (hs i acc ms' hi p)
    · exact q (.f acc) _ H' ms' (w.trans c.w) ⟨D, rfl, none_back a1 w (a1.fresh hD) hD, a1.fresh hD, c.done a1.sub hDL, a1.sub⟩ (hd acc ms' p)
end
end Hc

namespace Hc
open PySem PySem.Spec PyProof.Rows L2
/-! ### enumerate(t) of a tuple -/
abbrev enO (i : Addr) : Obj := { cls := .type "enumerate", data := .fields #[.none, .bool false, .ref i, rawInt 0, .none, .none] }
theorem en_new {v : Value} {ob : Obj} {G : Heap → Prop} (B : Begins v ob G) :
    Meets (Builtin.«enumerate.__new__» ⟨[.type "enumerate", v], []⟩) (fun _ R st => G st.heap ∧
      R (.ok (.ret (.ref (st.heap.push ob).objs.size))) { st with heap := (st.heap.push ob).push (enO st.heap.objs.size) }) :=
  .of_wp fun pr wd Ar R st hh => by
    obtain ⟨hp, gn, dr, tk, os⟩ := st
    obtain ⟨g1, g2⟩ := hh
    have sb := sub_enumerate
    have go : ∀ {A2 : Around} {E2 : Value → Shared → Prop} {Q2 : Value → Shared → Prop}, Q2 (.ref hp.objs.size) ⟨hp.push ob, gn, dr, tk, os⟩ →
        wpAny (model pr wd) A2 (pyIter v) Q2 E2 ⟨hp, gn, dr, tk, os⟩ := fun z => B.iter pr wd _ _ ⟨hp, gn, dr, tk, os⟩ _ g1 z
    wp_walk using go
    refine wpAny_stack_any fun sk => wpAny_pure ?_
    split
    · rename_i cl _ _ _ _ _
      cases (cl == Value.type "enumerate") <;> (wp_walk using go; exact ⟨_, rfl, g2⟩)
    · wp_walk using go
      exact ⟨_, rfl, g2⟩
section
variable {pr : Program} {wd : World} {Ar : Around} {Ex : Value → Shared → Prop} {st : Shared}
theorem en_call {v : Value} {ob : Obj} {G : Heap → Prop} {Q : Value → Shared → Prop} (B : Begins v ob G) (g : G st.heap)
    (k : ∀ hp, IsEnum hp (st.heap.objs.size + 1) st.heap.objs.size 0 .none → hp.get? st.heap.objs.size = some ob → (∀ b u, st.heap.get? b = some u → hp.get? b = some u) → Q (.ref (st.heap.objs.size + 1)) { st with heap := hp }) :
    wpAny (model pr wd) Ar (call (.type "enumerate") [v]) Q Ex st := by
  refine callType_new F.called_enumerate (by decide) (F.typeCall_enumerate_1 _) (F.newCall_enumerate_1 _) (fun z => F.args_object_init_2 z _)
    F.entry_enumerate_new (en_new B) ⟨g, ?_⟩
  have sz : (st.heap.push ob).objs.size = st.heap.objs.size + 1 := Heap.size_push ..
  have en : IsEnum ((st.heap.push ob).push (enO st.heap.objs.size)) (st.heap.objs.size + 1) st.heap.objs.size 0 .none := by
    rw [← sz]
    exact Heap.get?_push_size (st.heap.push ob) rfl
  show _ ∧ _
  rw [sz]
  exact ⟨⟨_, en, rfl⟩, k _ en (Heap.get?_push_of_some _ (Heap.get?_push_size _ B.free)) fun b u z => Heap.get?_push_of_some _ (Heap.get?_push_of_some _ z)⟩
end
/-- the tuple at a, in new pairs with the numbers -/
def ItE (K : PySem.W.Frag) (a : Addr) : It where
  go := fun i H => ∃ (xs : List V) (x : V), SqT K H a xs ∧ xs[i]? = some x
  yld := fun i H v H2 => ∃ (N : Addr) (x : V), v = .ref N ∧ H N = none ∧ H2 = upd H N (.tup [.int ((i : Nat) : Int), x]) ∧ ∀ xs : List V, SqT K H a xs → xs[i]? = some x
  stop := fun i H => ∃ xs : List V, SqT K H a xs ∧ i = xs.length
theorem two_ne {h : Heap} {a b : Addr} {o u : Obj} (ha : h.get? a = some o) (hb : h.get? b = some u) (hc : o.cls ≠ u.cls) : a ≠ b := fun z => by
  subst z
  rw [ha] at hb
  exact hc (congrArg Obj.cls (Option.some.inj hb))
theorem turn_enT {P : Program} {w : World} {K : PySem.W.Frag} {es : List Expr} {n : Nat} {q : Pos} (a e i1 : Addr) :
    Turn P w K (.Tuple es n q) (ItE K a) [e, i1] e (fun i h => (∃ z, IsEnum h e i1 ((i : Nat) : Int) z) ∧ h.IsTupleIter i1 a i ∧ e ≠ i1) where
  mem := List.mem_cons_self ..
  obj := fun i h tn b hb => by
    obtain ⟨⟨z, he⟩, ⟨o, ho, _, hd⟩, _⟩ := tn
    rcases List.mem_cons.mp hb with rfl | hb
    · exact ⟨_, he, nofun⟩
    · rw [List.mem_singleton.mp hb]
      exact ⟨o, ho, fun v y => by rw [hd] at y; cases y⟩
  keep := fun i h h2 tn k => by
    obtain ⟨⟨z, he⟩, hi, ne⟩ := tn
    exact ⟨⟨z, k e (by simp) _ he⟩, hi.at fun o y => k i1 (by simp) o y, ne⟩
  item := by
    intro X e1 e2 e3 cm i pins s σ H Ex I fp tn gg
    subst e1 e2 e3
    obtain ⟨⟨z, he⟩, hi, ne⟩ := tn
    obtain ⟨xs, x, sq, hx⟩ := gg
    obtain ⟨its, rv, tp, _⟩ := I.tuple sq
    obtain ⟨u, hu, ru⟩ := rv.get hx
    have tp' : s.heap.IsTuple a its.toArray := tp
    obtain ⟨o1, ho1, hc1, _⟩ := id tp'
    obtain ⟨o2, ho2, hc2, _⟩ := id hi
    have ai : a ≠ i1 := two_ne ho1 ho2 (by rw [hc1, hc2]; exact (by simp))
    have ea : e ≠ a := two_ne he ho1 (by rw [hc1]; exact (by simp))
    have el := Heap.lt_size he
    have il := Heap.lt_size ho2
    have lt : i < its.toArray.size := by
      have := (List.getElem?_eq_some_iff.mp hu).1
      simpa using this
    have D : Draws X.prog X.w X.A.in1 i1 [i1, a] its.toArray.size (fun j v => its.toArray[j]? = some v) (fun j hp => hp.IsTupleIter i1 a j ∧ hp.IsTuple a its.toArray) := Draws.tuple (A := X.A.in1) (show X.A.in1.handled = none from I.ok.hd cm) i1 a ai its.toArray
    refine wpAny_pyNext_enum_itemD D he ⟨hi, tp'⟩ lt ne (by simp; exact ⟨ne, ea⟩) fun u2 h2 tk hu2 out hs2 hT _ kp => ?_
    have : u2 = u := by
      have y : its.toArray[i]? = some u2 := hu2
      rw [List.getElem?_toArray, hu] at y
      exact (Option.some.inj y).symm
    subst this
    refine ⟨_, rfl, wpAny_letOwnedTupleGo_enum (s := { s with heap := h2, toks := tk + 1 }) out fun h3 he3 sb => ?_⟩
    have hT3 : h3.get? s.heap.objs.size = some { cls := .type "tuple", data := .seq #[.int i tk, u2] } := (sb.2 _ (Nat.ne_of_gt el)).trans hT
    have ok : ObjOk X.prog X.w (upd H s.heap.objs.size (.tup [.int ((i : Nat) : Int), x])) h3 s.heap.objs.size (.tup [.int ((i : Nat) : Int), x]) :=
      ⟨Nat.le_of_ble_eq_true rfl, [.int i tk, u2], .cons ⟨_, rfl⟩ (.cons ru .nil), ⟨_, hT3, rfl, _, rfl⟩⟩
    have I3 : L2.Inv X pins σ (upd H s.heap.objs.size (.tup [.int ((i : Nat) : Int), x])) { s with heap := h3, toks := tk + 1 } :=
      I.turnedNew (ch := [e, i1]) (fun b o nb y => by
        have b1 : b ≠ e := fun y => nb (by simp [y])
        have b2 : b ≠ i1 := fun y => nb (by simp [y])
        exact (sb.2 b b1).trans (kp b o b1 b2 y)) fp (Nat.le_refl _) ok
    refine ⟨.ref s.heap.objs.size, _, I3, rfl, ⟨_, x, rfl, I.hok.fresh (Nat.le_refl _), rfl, fun ys sy => by rw [I.tuple_inj sy sq]; exact hx⟩, ⟨⟨u2, ?_⟩, hs2.1.at fun o y => (sb.2 i1 (Ne.symm ne)).trans y, ne⟩, fun b hb => ?_⟩
    · have c : (((i + 1 : Nat)) : Int) = (i : Int) + 1 := Int.natCast_succ i
      rw [c]
      exact he3
    · have lb : b < s.heap.objs.size := by
        rcases List.mem_cons.mp hb with rfl | hb
        · exact el
        · rw [List.mem_singleton.mp hb]; exact il
      rw [upd_ne (Nat.ne_of_lt lb)]
      exact (fp b hb).1
  done := by
    intro X e1 e2 e3 cm i pins s σ H Ex I fp tn gg
    subst e1 e2 e3
    obtain ⟨⟨z, he⟩, hi, ne⟩ := tn
    obtain ⟨xs, sq, hx⟩ := gg
    obtain ⟨its, rv, tp, _⟩ := I.tuple sq
    have tp' : s.heap.IsTuple a its.toArray := tp
    obtain ⟨o1, ho1, hc1, _⟩ := id tp'
    obtain ⟨o2, ho2, hc2, _⟩ := id hi
    have ai : a ≠ i1 := two_ne ho1 ho2 (by rw [hc1, hc2]; exact (by simp))
    have D : Draws X.prog X.w X.A.in1 i1 [i1, a] its.toArray.size (fun j v => its.toArray[j]? = some v) (fun j hp => hp.IsTupleIter i1 a j ∧ hp.IsTuple a its.toArray) := Draws.tuple (A := X.A.in1) (show X.A.in1.handled = none from I.ok.hd cm) i1 a ai its.toArray
    have ln := rv.length
    have is : its.toArray.size = i := by simp; omega
    obtain ⟨f0, f1, _, f3, f4, f5⟩ := fp i1 (by simp)
    exact wpAny_pyNext_enum_endD D he (by rw [is]; exact ⟨hi, tp'⟩) fun h2 eb => ⟨rfl, I.turned (t' := s.toks) (fun b o nb y => eb b o nb y) f0 f1 f3 f4 f5⟩
  self := fun A i s Q Ex tn k => by
    obtain ⟨⟨z, he⟩, _⟩ := tn
    exact wpAny_pyIter_enum he k
def iEnT (K : PySem.W.Frag) (ta : TA) : TI := fun σ H R => ta σ H fun vs H1 => ∃ (a : Addr) (xs : List V), vs = [.ref a] ∧ SqT K H1 a xs ∧ R (ItE K a) H1
theorem pi_enT {X : Cx} {ex : Expr} {ta : TA} {p1 p2 p3 : Pos} {es : List Expr} {n : Nat} (hg : Gl X "enumerate") (hm : X.mg "enumerate" = none) (ha : PA X [ex] ta) (hs : starEach [ex] X.env = [(false, eval ex X.env)] := by rfl) :
    PI X (.Tuple es n p3) (.Call (.Name "enumerate" p1) [ex] [] p2) (iEnT X.K ta) := by
  constructor
  intro pins s σ H R I h
  refine Call_ (ld_blt I hg hm boot_enumerate (PyProof.Rows.callWith_type1 (thn (ha.run p2 pins s σ H _ I h) ?_) hs rfl))
  rintro us s1 ⟨vs, H1, I1, r1, a, xs, rfl, sq, q⟩
  cases r1 with
  | cons r rr =>
    cases rr
    cases r
    obtain ⟨its, rv, tp, _⟩ := I1.tuple sq
    refine en_call (begins_tuple a its.toArray) tp fun hp he hi kp => wpAny_pyIter_enum he ?_
    have fr : ∀ b ∈ [s1.heap.objs.size + 1, s1.heap.objs.size], FpOk X pins H1 b := fun b hb => by
      have le : s1.heap.objs.size ≤ b := by
        rcases List.mem_cons.mp hb with rfl | hb
        · exact Nat.le_succ _
        · rw [List.mem_singleton.mp hb]
          exact Nat.le_refl _
      exact I1.fpOk le (I1.hok.fresh le)
    exact ⟨_, [s1.heap.objs.size + 1, s1.heap.objs.size], _, _, H1, rfl, I1.kept (t' := s1.toks) kp, turn_enT a _ _, ⟨⟨.none, he⟩, ⟨_, hi, rfl, rfl⟩, Nat.succ_ne_self _⟩, fr, q⟩
theorem walk_enT {K : PySem.W.Frag} {a : Addr} {xs : List V} : Walk (ItE K a) xs.length (fun H => SqT K H a xs) (YPair (fun i => some (V.int ((i : Nat) : Int))) (fun i => xs[i]?)) where
  goes := fun i H hi sq => ⟨xs, xs[i], sq, List.getElem?_eq_getElem hi⟩
  stops := fun H sq => ⟨xs, sq, rfl⟩
  yields := fun i H v H2 hi sq ⟨N, x, e, f, u, k⟩ => ⟨N, _, x, e, f, u, rfl, k xs sq⟩
section
variable {K : PySem.W.Frag} {te ta tb tc tl : TE} {tt : TT} {tA : TA} {ds : List SD} {ms : List MD} {R : RS} {t u : TS} {P : Po}
theorem s_forET {g : TG} {js : List Nat} (h : EA K tA ds ms fun as ms0 => ∃ es : List PyData, as = [.d (.tuple es)] ∧ ∃ Pv : Nat → List SD → List MD → Prop, Pv 0 ds ms0 ∧
      (∀ i e ds1 ms1, es[i]? = some e → Pv i ds1 ms1 → EG K g js (.d (.tuple [.int (i : Nat), e])) ds1 ms1 fun ds2 ms2 => S K t ds2 ms2 { P with nx := Pv (i + 1), ct := Pv (i + 1), bk := P.nx }) ∧ ∀ ds1 ms1, Pv es.length ds1 ms1 → P.nx ds1 ms1) :
    S K (tFor (iEnT K tA) g t) ds ms P := fun L M σ H hS hA D n r b c =>
  h L M σ H hS hA _ fun as vs H1 ms0 w a1 o ⟨es, ea, Pv, h0, hs, hd⟩ => by
    subst ea
    obtain ⟨v, t1, rfl, hv, rfl⟩ := o
    have hv' : Rp M H1 v (.tuple es) := hv
    cases hv' with
    | @tup a xs _ na ea rx =>
    refine ⟨a, xs, rfl, SqT.of ea, for_it walk_enT (fun i σ' H' => ∃ ds' ms', Wk L H1 H' ∧ Sl K L M σ' H' ds' ∧ At L M ms' H' ∧ Pv i ds' ms') ⟨ds, ms0, Wk.refl L H1, hS.mono hA w, a1, h0⟩ (fun i σ' H' _ ⟨_, _, w', _⟩ => SqT.of (w' a _ (fun z => na (a1.sub a z)) ea)) (fun i x σ' H' H2 hi ⟨ds', ms', w', s', a', p'⟩ y => ?_) (fun σ' H' ⟨ds', ms', w', s', a', p'⟩ => ?_)⟩
    · obtain ⟨N, c1, y1, rfl, hN, rfl, q1, q2⟩ := y
      cases q1
      obtain ⟨e, e1, e2⟩ := rx.get' q2
      have w2 : Wk L H' (upd H' N (.tup [.int (i : Nat), y1])) := Wk.new hN
      have a2 := a'.new (o := .tup [.int (i : Nat), y1]) hN
      have w3 := w'.trans w2
      refine hs i e ds' ms' e1 p' L M σ' _ (.ref N) (s'.mono a' w2) a2 (Rp.tup (a'.fresh hN) upd_same (.cons (.int _) (.cons (Rp.to (a1.wk w3) _ _ e2) .nil))) _ fun σ2 ds2 s2 _ h2 => ?_
      exact h2 L M σ2 _ s2 a2 _ (fun σ3 H3 ds3 ms3 w4 s3 a3 p3 => ⟨ds3, ms3, w3.trans w4, s3, a3, p3⟩) (r.on a2 (w.trans w3)) (n.on (w.trans w3)) (fun σ3 H3 ds3 ms3 w4 s3 a3 p3 => ⟨ds3, ms3, w3.trans w4, s3, a3, p3⟩)
    · rw [rx.length] at p'
      exact n σ' H' ds' ms' (w.trans w') s' a' (hd ds' ms' p')
theorem s_forEL {g : TG} {js : List Nat} (h : EA K tA ds ms fun as ms0 => ∃ (s : SD) (es : List PyData), as = [s] ∧ Sw s es ∧ ∃ Pv : Nat → List SD → List MD → Prop, Pv 0 ds ms0 ∧
      (∀ i e ds1 ms1, es[i]? = some e → Pv i ds1 ms1 → EG K g js (.d (.tuple [.int (i : Nat), e])) ds1 ms1 fun ds2 ms2 => S K t ds2 ms2 { P with nx := Pv (i + 1), ct := Pv (i + 1), bk := P.nx }) ∧ ∀ ds1 ms1, Pv es.length ds1 ms1 → P.nx ds1 ms1) :
    S K (tFor (iEnum K tA) g t) ds ms P := fun L M σ H hS hA D n r b c =>
  h L M σ H hS hA _ fun as vs H1 ms0 w a1 o ⟨s, es, ea, sw, Pv, h0, hs, hd⟩ => by
    subst ea
    obtain ⟨v, t1, rfl, hv, rfl⟩ := o
    obtain ⟨a, xs, rfl, rx, hx⟩ := sw.is a1 hv
    refine ⟨a, xs, rfl, hx H1 (Wk.refl L H1), for_it walk_enum (fun i σ' H' => ∃ ds' ms', Wk L H1 H' ∧ Sl K L M σ' H' ds' ∧ At L M ms' H' ∧ Pv i ds' ms') ⟨ds, ms0, Wk.refl L H1, hS.mono hA w, a1, h0⟩ (fun i σ' H' _ ⟨_, _, w', _⟩ => hx H' w') (fun i x σ' H' H2 hi ⟨ds', ms', w', s', a', p'⟩ y => ?_) (fun σ' H' ⟨ds', ms', w', s', a', p'⟩ => ?_)⟩
    · obtain ⟨N, c1, y1, rfl, hN, rfl, q1, q2⟩ := y
      cases q1
      obtain ⟨e, e1, e2⟩ := rx.get' q2
      have w2 : Wk L H' (upd H' N (.tup [.int (i : Nat), y1])) := Wk.new hN
      have a2 := a'.new (o := .tup [.int (i : Nat), y1]) hN
      have w3 := w'.trans w2
      refine hs i e ds' ms' e1 p' L M σ' _ (.ref N) (s'.mono a' w2) a2 (Rp.tup (a'.fresh hN) upd_same (.cons (.int _) (.cons (Rp.to (a1.wk w3) _ _ e2) .nil))) _ fun σ2 ds2 s2 _ h2 => ?_
      exact h2 L M σ2 _ s2 a2 _ (fun σ3 H3 ds3 ms3 w4 s3 a3 p3 => ⟨ds3, ms3, w3.trans w4, s3, a3, p3⟩) (r.on a2 (w.trans w3)) (n.on (w.trans w3)) (fun σ3 H3 ds3 ms3 w4 s3 a3 p3 => ⟨ds3, ms3, w3.trans w4, s3, a3, p3⟩)
    · rw [rx.length] at p'
      exact n σ' H' ds' ms' (w.trans w') s' a' (hd ds' ms' p')
/-- xs.pop(i) of any list that may change -/
theorem e_popD (h : E K ta ds ms fun s ms1 => ∃ k, s = .m k ∧ E K te ds ms1 fun x ms2 => ∃ (es : List PyData) (i : Nat) (d : PyData), x = .d (.int i) ∧ ms2[k]? = some (.l es) ∧ es[i]? = some d ∧ es.length ≤ 10000 ∧ R (.d d) (ms2.set k (.l (es.eraseIdx i)))) : E K (tBM K "list" rPopAt ta (tCons te tNil)) ds ms R := fun L M σ H hS hA Q q =>
  h L M σ H hS hA _ fun s v H1 ms1 w o ⟨k, e, h2⟩ => by
    subst e
    obtain ⟨a1, p, rfl, hp, hls⟩ := o
    have hpL : p ∈ L := List.mem_of_getElem? hp
    have hk : k < ms1.length := by rw [← a1.ln]; exact (List.getElem?_eq_some_iff.mp hp).1
    · obtain ⟨xs0, e0⟩ := hls
      refine ⟨.inl ⟨rfl, xs0, SqL.of e0⟩, ?_⟩
      refine h2 L M σ H1 (hS.mono hA w) a1 _ fun x y H2 ms2 w2 o2 ⟨es, i, d, ex, em, hz, hl, r⟩ => ?_
      subst ex
      obtain ⟨a2, o⟩ := o2
      cases o
      obtain ⟨xs, e1, r1⟩ := a2.get hp em
      have hi := (List.getElem?_eq_some_iff.mp hz).1
      have ln := r1.length
      have er : ∀ (xs : List V) (es : List PyData), RpA M H2 xs es → ∀ i, RpA M H2 (xs.eraseIdx i) (es.eraseIdx i) := fun xs => by
        induction xs with
        | nil => intro es r i; cases r; exact .nil
        | cons x xs ih =>
          intro es r i
          cases r with
          | cons z y =>
            cases i with
            | zero => exact y
            | succ j => exact .cons z (ih _ y j)
      have hix : i < xs.length := by omega
      obtain ⟨d', f1, f2⟩ := r1.get' (List.getElem?_eq_getElem hix)
      rw [hz] at f1
      cases f1
      refine ⟨p, xs, i, i, xs[i], rfl, rfl, e1, by omega, by omega, ?_, List.getElem?_eq_getElem hix, ?_⟩
      · unfold seqIndex?
        rw [if_neg (show ¬ (i : Int) < 0 by omega)]
        simp [hix]
      · have tt : To M M H2 (upd H2 p (.lst (xs.eraseIdx i))) := fun b o nb q => ⟨nb, by rw [upd_ne (fun z : b = p => nb (by rw [z]; exact a2.sub p hpL))]; exact q⟩
        exact q (.d d) _ _ _ ((w.trans w2).trans (Wk.mut hpL e1)) ⟨a2.put hp e1 (er _ _ r1 i), Rp.to tt _ _ f2⟩ r
end
end Hc

namespace Hc
open PySem PySem.Spec PyProof.Rows L2
/-! ### sorted(xs) of data -/
theorem vals_each : ∀ {bs : List (V × PyData)} {us : List Value}, Vals (bs.map Prod.fst) us → PySem.W.EachIs (fun (u : Value) (b : V × PyData) => RelV b.1 u) us bs
  | [], us, h => by cases h; exact .nil
  | b :: r, us, h => by
    cases h with
    | cons z y => exact .cons z (vals_each y)
theorem each_vals : ∀ {bs : List (V × PyData)} {us : List Value}, PySem.W.EachIs (fun (u : Value) (b : V × PyData) => RelV b.1 u) us bs → Vals (bs.map Prod.fst) us
  | [], us, h => by cases h; exact .nil
  | b :: r, us, h => by
    cases h with
    | cons z y => exact .cons z (each_vals y)
def rSortV (K : PySem.W.Frag) : List V → Hp → VK → Prop := fun vs H Q => ∃ (a : Addr) (bs : List (V × PyData)), vs = [.ref a] ∧ SqL K H a (bs.map Prod.fst) ∧ (∀ b ∈ bs, Dp K H b.1 b.2) ∧ PySem.W.AllAlike (bs.map Prod.snd) ∧ PySem.W.Sortable (bs.map Prod.snd) ∧
  (∀ b ∈ bs, b.2.depth ≤ 60) ∧ ∀ p, H p = none → Q (.ref p) (upd H p (.lst ((bs.mergeSort (PySem.W.dataLe false Prod.snd)).map Prod.fst)))
theorem cr_sortV {X : Cx} (hu : X.A.units + 64 < cLine) : CallR X (.builtin "sorted") (rSortV X.K) := by
  intro pins s σ H vs us Q I r h
  obtain ⟨a, bs, rfl, sq, hd, al, so, dp, q⟩ := h
  obtain ⟨its, rv, hl, hz⟩ := I.list sq
  rw [Vals.ref1 r]
  have e := vals_each rv
  have er : PySem.W.EachIs (fun (u : Value) (b : V × PyData) => ∃ as, Reads s.heap u b.2 as) its bs :=
    (PySem.W.each_mem e).mono fun u b ⟨z, m⟩ => Dp.reads I b.2 b.1 u (hd b m) z
  rw [List.length_map] at hz
  refine PySem.W.sorted_data hl.isList e er al so hz (fun b m => by have := dp b m; omega) fun out ln eo => ?_
  obtain ⟨ep, he⟩ := PyProof.Rows.sortedAll_at s.heap its out.toArray
  have lm : ((bs.mergeSort (PySem.W.dataLe false Prod.snd)).map Prod.fst).length ≤ sizeLine := by
    rw [List.length_map, List.length_mergeSort]
    exact hz
  exact ⟨.ref _, upd H (s.heap.objs.size + 1) (.lst ((bs.mergeSort (PySem.W.dataLe false Prod.snd)).map Prod.fst)), I.laid (t' := s.toks) (fun _ _ => PyProof.Rows.sortedAll_old) (Nat.le_succ _) ⟨lm, out, ep, each_vals eo, he⟩, rfl, q _ (I.hok.fresh (Nat.le_succ _))⟩
section
variable {K : PySem.W.Frag} {ds : List SD} {ms : List MD} {R : RS}
theorem zip_fst : ∀ {xs : List V} {es : List PyData}, xs.length = es.length → (List.zip xs es).map Prod.fst = xs
  | [], _, _ => rfl
  | _ :: _, [], h => by cases h
  | x :: xs, e :: es, h => by
    show x :: (List.zip xs es).map Prod.fst = _
    rw [zip_fst (by simpa using h)]
theorem zip_snd : ∀ {xs : List V} {es : List PyData}, xs.length = es.length → (List.zip xs es).map Prod.snd = es
  | [], [], _ => rfl
  | [], _ :: _, h => by cases h
  | _ :: _, [], h => by cases h
  | x :: xs, e :: es, h => by
    show e :: (List.zip xs es).map Prod.snd = _
    rw [zip_snd (by simpa using h)]
theorem rpa_zip {M : List Addr} {H : Hp} : ∀ {xs : List V} {es : List PyData}, RpA M H xs es → ∀ b ∈ List.zip xs es, Rp M H b.1 b.2
  | [], _, _, b, hb => by cases hb
  | x :: xs, es, h, b, hb => by
    cases h with
    | cons z y =>
      rcases List.mem_cons.mp hb with rfl | hb
      · exact z
      · exact rpa_zip y b hb
theorem rpa_of {M : List Addr} {H : Hp} : ∀ {bs : List (V × PyData)}, (∀ b ∈ bs, Rp M H b.1 b.2) → RpA M H (bs.map Prod.fst) (bs.map Prod.snd)
  | [], _ => .nil
  | b :: r, h => .cons (h b (by simp)) (rpa_of fun c hc => h c (by simp [hc]))
abbrev sortD (es : List PyData) : List PyData := es.mergeSort (PySem.W.dataLe false id)
theorem rc_sortD {as : List SD} (h : ∃ (s : SD) (es : List PyData), as = [s] ∧ Sv ms s (.list es) ∧ (∀ e ∈ es, Shp 60 e) ∧ PySem.W.AllAlike es ∧ PySem.W.Sortable es ∧ R (.f (sortD es)) ms) : RC K (rSortV K) as ms R := fun L M H vs hA ha Q q => by
  obtain ⟨s, es, rfl, sv, sh, al, so, r⟩ := h
  obtain ⟨v, t, rfl, hv, rfl⟩ := ha
  obtain ⟨p, xs, rfl, hq, hr⟩ := sv.lst hA hv
  have ln := hr.length
  have zr := rpa_zip hr
  have e2 : ((List.zip xs es).mergeSort (PySem.W.dataLe false Prod.snd)).map Prod.snd = sortD es := by
    have := PySem.W.sort_maps (r := PySem.W.dataLe false Prod.snd) (s := PySem.W.dataLe false id) (Prod.snd : V × PyData → PyData) (l := List.zip xs es) (fun a _ b _ => rfl)
    rw [this, zip_snd ln]
  refine ⟨p, List.zip xs es, rfl, by rw [zip_fst ln]; exact hq, fun b hb => ?_, by rw [zip_snd ln]; exact al, by rw [zip_snd ln]; exact so, fun b hb => ?_, fun l hl => ?_⟩
  · have m2 : b.2 ∈ es := by
      have : b.2 ∈ (List.zip xs es).map Prod.snd := List.mem_map.mpr ⟨b, hb, rfl⟩
      rwa [zip_snd ln] at this
    exact Rp.dp b.2 b.1 (sh _ m2).1 (zr b hb)
  · have m2 : b.2 ∈ es := by
      have : b.2 ∈ (List.zip xs es).map Prod.snd := List.mem_map.mpr ⟨b, hb, rfl⟩
      rwa [zip_snd ln] at this
    exact (sh _ m2).2
  · have rr : RpA M H (((List.zip xs es).mergeSort (PySem.W.dataLe false Prod.snd)).map Prod.fst) (sortD es) := by
      rw [← e2]
      exact rpa_of fun b hb => zr b (List.mem_mergeSort.mp hb)
    exact q (.f (sortD es)) _ _ ms (Wk.new hl) (out_new hA (Wk.refl L H) hl rr) r
end
end Hc

namespace Hc
open PySem PySem.Spec PyProof.Rows L2
section
variable {K : PySem.W.Frag} {te ta tb tc tl : TE} {tt : TT} {tA : TA} {ds : List SD} {ms : List MD} {R : RS} {t u : TS} {P : Po}
/-! ### in, over data -/
theorem rr_inD {a b : SD} (h : ∃ (x : PyData) (es : List PyData), Sv ms a x ∧ Sv ms b (.list es) ∧ SeqAt.shaped x = true ∧ SeqAt.shaped (.list es) = true ∧ R (.d (.bool (es.any fun z => PyData.eqv z x))) ms) : RR K (rInD K) a b ms R := fun L M H u v hA ha hb Q q => by
  obtain ⟨x, es, ea, eb, s1, s2, r⟩ := h
  exact ⟨x, es, ea.dp hA ha (SeqAt.canLay_of_shaped s1), eb.dp hA hb (SeqAt.canLay_of_shaped s2), s1, s2, q (.d _) _ H ms (Wk.refl L H) ⟨hA, .bl _⟩ r⟩
theorem rr_notInD {a b : SD} (h : ∃ (x : PyData) (es : List PyData), Sv ms a x ∧ Sv ms b (.list es) ∧ SeqAt.shaped x = true ∧ SeqAt.shaped (.list es) = true ∧ R (.d (.bool (!es.any fun z => PyData.eqv z x))) ms) : RR K (rNotInD K) a b ms R := fun L M H u v hA ha hb Q q => by
  obtain ⟨x, es, ea, eb, s1, s2, r⟩ := h
  exact ⟨x, es, ea.dp hA ha (SeqAt.canLay_of_shaped s1), eb.dp hA hb (SeqAt.canLay_of_shaped s2), s1, s2, q (.d _) _ H ms (Wk.refl L H) ⟨hA, .bl _⟩ r⟩
/-! ### for a, b in zip(xs, ys), two lists -/
theorem s_forZ {g : TG} {js : List Nat} (h : EA K tA ds ms fun as ms0 => ∃ (s1 s2 : SD) (es fs : List PyData), as = [s1, s2] ∧ Sw s1 es ∧ Sw s2 fs ∧ ∃ Pv : Nat → List SD → List MD → Prop, Pv 0 ds ms0 ∧
      (∀ i e f ds1 ms1, es[i]? = some e → fs[i]? = some f → Pv i ds1 ms1 → EG K g js (.d (.tuple [e, f])) ds1 ms1 fun ds2 ms2 => S K t ds2 ms2 { P with nx := Pv (i + 1), ct := Pv (i + 1), bk := P.nx }) ∧ ∀ ds1 ms1, Pv (min es.length fs.length) ds1 ms1 → P.nx ds1 ms1) :
    S K (tFor (iZip K tA) g t) ds ms P := fun L M σ H hS hA D n r b c =>
  h L M σ H hS hA _ fun as vs H1 ms0 w a1 o ⟨s1, s2, es, fs, ea, sw1, sw2, Pv, h0, hs, hd⟩ => by
    subst ea
    obtain ⟨v1, t1, rfl, hv1, v2, t2, rfl, hv2, rfl⟩ := o
    obtain ⟨a, xs, rfl, rx, hx⟩ := sw1.is a1 hv1
    obtain ⟨b', ys, rfl, ry, hy⟩ := sw2.is a1 hv2
    refine ⟨a, b', xs, ys, rfl, hx H1 (Wk.refl L H1), hy H1 (Wk.refl L H1), for_it (walk_zip rfl) (fun i σ' H' => ∃ ds' ms', Wk L H1 H' ∧ Sl K L M σ' H' ds' ∧ At L M ms' H' ∧ Pv i ds' ms') ⟨ds, ms0, Wk.refl L H1, hS.mono hA w, a1, h0⟩ (fun i σ' H' _ ⟨_, _, w', _⟩ => ⟨hx H' w', hy H' w'⟩) (fun i x σ' H' H2 hi ⟨ds', ms', w', s', a', p'⟩ y => ?_) (fun σ' H' ⟨ds', ms', w', s', a', p'⟩ => ?_)⟩
    · obtain ⟨N, x1, y1, rfl, hN, rfl, q1, q2⟩ := y
      obtain ⟨e, e1, e2⟩ := rx.get' q1
      obtain ⟨f, f1, f2⟩ := ry.get' q2
      have w2 : Wk L H' (upd H' N (.tup [x1, y1])) := Wk.new hN
      have a2 := a'.new (o := .tup [x1, y1]) hN
      have w3 := w'.trans w2
      refine hs i e f ds' ms' e1 f1 p' L M σ' _ (.ref N) (s'.mono a' w2) a2 (Rp.tup (a'.fresh hN) upd_same (.cons (Rp.to (a1.wk w3) _ _ e2) (.cons (Rp.to (a1.wk w3) _ _ f2) .nil))) _ fun σ2 ds2 s2 _ h2 => ?_
      exact h2 L M σ2 _ s2 a2 _ (fun σ3 H3 ds3 ms3 w4 s3 a3 p3 => ⟨ds3, ms3, w3.trans w4, s3, a3, p3⟩) (r.on a2 (w.trans w3)) (n.on (w.trans w3)) (fun σ3 H3 ds3 ms3 w4 s3 a3 p3 => ⟨ds3, ms3, w3.trans w4, s3, a3, p3⟩)
    · rw [rx.length, ry.length] at p'
      exact n σ' H' ds' ms' (w.trans w') s' a' (hd ds' ms' p')
/-! ### xs.insert(i, e) -/
abbrev rIns : V → List V → Hp → VK → Prop := fun x vs H Q => ∃ (l : Addr) (xs : List V) (i : Int) (y : V), x = .ref l ∧ vs = [.int i, y] ∧ H l = some (.lst xs) ∧ xs.length < sizeLine ∧ 0 ≤ i ∧ i < 2 ^ 63 ∧ Q .non (upd H l (.lst (xs.take i.toNat ++ [y] ++ xs.drop i.toNat)))
theorem e_insert (h : E K ta ds ms fun s ms1 => ∃ k, s = .m k ∧ EA K tA ds ms1 fun as ms2 => ∃ (i : Nat) (d : PyData) (es : List PyData), as = [.d (.int i), .d d] ∧ ms2[k]? = some (.l es) ∧ i ≤ 10000 ∧ es.length < 10000 ∧ R (.d .none) (ms2.set k (.l (es.take i ++ [d] ++ es.drop i)))) : E K (tBM K "list" rIns ta tA) ds ms R := fun L M σ H hS hA Q q =>
  h L M σ H hS hA _ fun s v H1 ms1 w o ⟨k, e, h2⟩ => by
    subst e
    obtain ⟨a1, p, rfl, hp, hls⟩ := o
    have hpL : p ∈ L := List.mem_of_getElem? hp
    have hk : k < ms1.length := by rw [← a1.ln]; exact (List.getElem?_eq_some_iff.mp hp).1
    · obtain ⟨xs0, e0⟩ := hls
      refine ⟨.inl ⟨rfl, xs0, SqL.of e0⟩, ?_⟩
      refine h2 L M σ H1 (hS.mono hA w) a1 _ fun as us H2 ms2 w2 a2 o2 ⟨i, d, es, ex, em, hi, hl, r⟩ => ?_
      subst ex
      obtain ⟨v1, t1, rfl, hv1, v2, t2, rfl, hv2, rfl⟩ := o2
      have hv1' : Rp M H2 v1 (.int i) := hv1
      cases hv1'
      have hv2' : Rp M H2 v2 d := hv2
      obtain ⟨xs, e1, r1⟩ := a2.get hp em
      have ln := r1.length
      have tk : ∀ (xs : List V) (es : List PyData), RpA M H2 xs es → ∀ i, RpA M H2 (xs.take i ++ [v2] ++ xs.drop i) (es.take i ++ [d] ++ es.drop i) := fun xs => by
        induction xs with
        | nil => intro es r i; cases r; simp; exact .cons hv2' .nil
        | cons x xs ih =>
          intro es r i
          cases r with
          | cons z y =>
            cases i with
            | zero => exact .cons hv2' (.cons z y)
            | succ j => exact .cons z (ih _ y j)
      refine ⟨p, xs, i, v2, rfl, rfl, e1, by rw [ln]; exact Nat.lt_trans hl (by decide), by omega, by omega, ?_⟩
      exact q (.d .none) _ _ _ ((w.trans w2).trans (Wk.mut hpL e1)) ⟨a2.put hp e1 (tk _ _ r1 i), .non⟩ r
/-! ### a part of a list, or of a tuple that may be the whole -/
def rSlQ (K : PySem.W.Frag) : V → Option Int → Option Int → Hp → VK → Prop := fun x lo hi H Q => rSlL K x lo hi H Q ∨ rSlA K x lo hi H Q
theorem sl_rowQ {X : Cx} : SlR X (rSlQ X.K) := fun pins s σ H x v vl vu lo hi sl Q I rx i1 i2 i3 h => by
  rcases h with h | h
  · exact sl_list pins s σ H x v vl vu lo hi sl Q I rx i1 i2 i3 h
  · exact sl_tupA pins s σ H x v vl vu lo hi sl Q I rx i1 i2 i3 h
theorem upd_upd (H : Hp) (p : Addr) (a b : HO) : upd (upd H p a) p b = upd H p b := funext fun c => by
  by_cases e : c = p
  · subst e; rw [upd_same, upd_same]
  · rw [upd_ne e, upd_ne e, upd_ne e]
theorem e_dispC {k v : Int} (h : ∀ kvs, R (.d (.dict kvs)) ms) : E K (tDisp [(tC (.int k), tC (.int v))]) ds ms R := fun L M σ H hS hA Q q p hp => by
  refine ⟨upd_same, [(.inl k, .int v)], rfl, Nat.le_of_ble_eq_true rfl, ?_⟩
  rw [upd_upd]
  exact q (.d (.dict [(.int k, .int v)])) _ _ ms (Wk.new hp) ⟨hA.new hp, .dct (hA.fresh hp) upd_same (.cons (k := .inl k) (.int v) .nil)⟩ (h _)
theorem units65 {k : Nat} {A : Around} (h : Room k A) : A.units + 65 < cLine := by
  have := h.un
  omega
theorem pe_callD0 {X : Cx} {x : Str} {lv : Nat} {ps : List Str} {Φ : Ph} {p pos : Pos} (h : Kn X.prog X.w X.K X.mg X.base x lv ps Φ) (hr : Room lv X.A) (hg : Gl X x) (hdb : (x == ("__debug__" : Str)) = false := by decide) :
    PE X (.Call (.Name x p) [] [] pos) (tCall (SpD X.K Φ) [] E0 tNil) := by
  obtain ⟨f, fd, G, m, k, b⟩ := h.ex
  exact pe_call0 G hr hg m k b .nil pass0 hdb
theorem pe_num {X : Cx} {x : Str} {n : Int} {pos : Pos} (hg : Gl X x) (h : ∃ t, X.mg x = some (.int n t)) (hdb : (x == ("__debug__" : Str)) = false := by decide) : PE X (.Name x pos) (tC (.int n)) := by
  obtain ⟨t, m⟩ := h
  exact pe_glob hg m ⟨_, rfl⟩ hdb
/-! ### a, b = t of a list or a tuple -/
def gRw (K : PySem.W.Frag) (n : Nat) (gs : TGs) : TG := fun v σ H C => gTup K n gs v σ H C ∨ gUnl K n gs v σ H C
theorem pg_rw {X : Cx} {pos : Pos} {es : List Expr} {k : Nat} {gs : TGs} {n : Nat} (hc : X.calm = true) (h : PGs X es gs) (h1 : (assignEach es X.env).length = n := by rfl) (h2 : List.findIdx? (fun x => x.fst) (assignEach es X.env) = none := by rfl) :
    PG X (.Tuple es k pos) (gRw X.K n gs) := ⟨fun pins s σ H v u Q I rv z => by
  rcases z with z | z
  · exact (pg_tup hc h h1 h2).run pins s σ H v u Q I rv z
  · exact (pg_unl hc h h1 h2).run pins s σ H v u Q I rv z⟩
theorem eg_rw {gs : TGs} {js : List Nat} {n : Nat} {x : PyData} {xs : List PyData} {N : List SD → List MD → Prop} (hx : x = .list xs ∨ x = .tuple xs) (hn : xs.length = n) (h : EGs K gs js xs ds ms N) : EG K (gRw K n gs) js (.d x) ds ms N := fun L M σ H v hS hA ho C c => by
  rcases hx with rfl | rfl
  · obtain ⟨a, ys, rfl, e, r⟩ := Sv.lst (ms := ms) (K := K) (L := L) (.d (.list xs)) hA ho
    exact .inr ⟨a, ys, rfl, e, by rw [r.length]; exact hn, h L M σ H ys hS hA r C c⟩
  · exact .inl (eg_tup hn h L M σ H v hS hA ho C c)
/-- t[:] of a list is a new one, of a tuple the same -/
theorem e_slQ (h : E K te ds ms fun s ms1 => ∃ (x : PyData) (xs : List PyData), s = .d x ∧ ((x = .list xs ∧ R (.f xs) ms1) ∨ (x = .tuple xs ∧ R (.d x) ms1))) : E K (tSl (rSlQ K) te tNoPart tNoPart) ds ms R := fun L M σ H hS hA Q q =>
  h L M σ H hS hA _ fun s v H1 ms1 w1 o1 ⟨x, xs, e, hh⟩ => by
    subst e
    obtain ⟨a1, o⟩ := o1
    rcases hh with ⟨rfl, r⟩ | ⟨rfl, r⟩
    · obtain ⟨p, ys, rfl, hq, hr⟩ := Sv.lst (ms := ms1) (K := K) (L := L) (.d (.list xs)) a1 o
      have cu : cutD xs none none = xs := by
        unfold cutD
        rw [HT.sIx_none, HT.sIx_none]
        simp
      refine .inl ⟨p, ys, rfl, hq, fun l hl => ?_⟩
      have rr := cut_of hr none none
      rw [cu] at rr
      exact q (.f xs) _ _ ms1 (w1.trans (Wk.new hl)) (out_new a1 w1 hl rr) r
    · obtain ⟨p, ys, rfl, e1, hr⟩ := Sv.tup (ms := ms1) (K := K) (L := L) (.d (.tuple xs)) o
      refine .inr ⟨p, ys, rfl, SqT.of e1, fun _ => q (.d (.tuple xs)) _ H1 ms1 w1 ⟨a1, o⟩ r, fun z => absurd ⟨HT.sIx_none .., HT.sIx_none ..⟩ z⟩
/-- for a, b in zip(xs, ys), whose body may raise -/
theorem sx_forZ {C : Addr} {Y : List MD → Prop} {g : TG} {js : List Nat} {t : XK → TS} (h : EA K tA ds ms fun as ms0 => ∃ (s1 s2 : SD) (es fs : List PyData), as = [s1, s2] ∧ Sw s1 es ∧ Sw s2 fs ∧ ∃ Pv : Nat → List SD → List MD → Prop, Pv 0 ds ms0 ∧
      (∀ i e f ds1 ms1, es[i]? = some e → fs[i]? = some f → Pv i ds1 ms1 → EG K g js (.d (.tuple [e, f])) ds1 ms1 fun ds2 ms2 => SX K C t ds2 ms2 { P with nx := Pv (i + 1), ct := Pv (i + 1), bk := P.nx } Y) ∧ ∀ ds1 ms1, Pv (min es.length fs.length) ds1 ms1 → P.nx ds1 ms1) :
    SX K C (fun X => tFor (iZip K tA) g (t X)) ds ms P Y := fun L M σ H hS hA D X n r b c xx =>
  h L M σ H hS hA _ fun as vs H1 ms0 w a1 o ⟨s1, s2, es, fs, ea, sw1, sw2, Pv, h0, hs, hd⟩ => by
    subst ea
    obtain ⟨v1, t1, rfl, hv1, v2, t2, rfl, hv2, rfl⟩ := o
    obtain ⟨a, xs, rfl, rx, hx⟩ := sw1.is a1 hv1
    obtain ⟨b', ys, rfl, ry, hy⟩ := sw2.is a1 hv2
    refine ⟨a, b', xs, ys, rfl, hx H1 (Wk.refl L H1), hy H1 (Wk.refl L H1), for_it (walk_zip rfl) (fun i σ' H' => ∃ ds' ms', Wk L H1 H' ∧ Sl K L M σ' H' ds' ∧ At L M ms' H' ∧ Pv i ds' ms') ⟨ds, ms0, Wk.refl L H1, hS.mono hA w, a1, h0⟩ (fun i σ' H' _ ⟨_, _, w', _⟩ => ⟨hx H' w', hy H' w'⟩) (fun i x σ' H' H2 hi ⟨ds', ms', w', s', a', p'⟩ y => ?_) (fun σ' H' ⟨ds', ms', w', s', a', p'⟩ => ?_)⟩
    · obtain ⟨N, x1, y1, rfl, hN, rfl, q1, q2⟩ := y
      obtain ⟨e, e1, e2⟩ := rx.get' q1
      obtain ⟨f, f1, f2⟩ := ry.get' q2
      have w2 : Wk L H' (upd H' N (.tup [x1, y1])) := Wk.new hN
      have a2 := a'.new (o := .tup [x1, y1]) hN
      have w3 := w'.trans w2
      refine hs i e f ds' ms' e1 f1 p' L M σ' _ (.ref N) (s'.mono a' w2) a2 (Rp.tup (a'.fresh hN) upd_same (.cons (Rp.to (a1.wk w3) _ _ e2) (.cons (Rp.to (a1.wk w3) _ _ f2) .nil))) _ fun σ2 ds2 s2 _ h2 => ?_
      exact h2 L M σ2 _ s2 a2 _ X (fun σ3 H3 ds3 ms3 w4 s3 a3 p3 => ⟨ds3, ms3, w3.trans w4, s3, a3, p3⟩) (r.on a2 (w.trans w3)) (n.on (w.trans w3)) (fun σ3 H3 ds3 ms3 w4 s3 a3 p3 => ⟨ds3, ms3, w3.trans w4, s3, a3, p3⟩) (xx.on (w.trans w3))
    · rw [rx.length, ry.length] at p'
      exact n σ' H' ds' ms' (w.trans w') s' a' (hd ds' ms' p')
end
end Hc

namespace Hc
open PySem PySem.Spec PyProof.Rows L2
/-! ### xs[::2], xs[1::2] -/
def ev2 {α : Type} : List α → List α
  | [] => []
  | [a] => [a]
  | a :: _ :: r => a :: ev2 r
theorem ev2_len {α : Type} : ∀ l : List α, (ev2 l).length = (l.length + 1) / 2
  | [] => by simp [ev2]
  | [a] => by simp [ev2]
  | a :: b :: r => by simp only [ev2, List.length_cons, ev2_len r]; omega
theorem ev2_range {α : Type} : ∀ l : List α, (List.range ((l.length + 1) / 2)).filterMap (fun k => l[2 * k]?) = ev2 l
  | [] => by simp [ev2]
  | [a] => by simp [ev2, List.range_succ]
  | a :: b :: r => by
    have e : ((a :: b :: r).length + 1) / 2 = (r.length + 1) / 2 + 1 := by simp only [List.length_cons]; omega
    rw [e, List.range_succ_eq_map, List.filterMap_cons]
    rw [ev2, ← ev2_range r, List.filterMap_map]
    rfl
/-- what a part with these three marks picks -/
def pk {α : Type} (l : List α) (lo hi st : Option Int) : List α := (sliceRange (sliceBounds lo hi st l.length).1 (sliceBounds lo hi st l.length).2.1 (sliceBounds lo hi st l.length).2.2).filterMap fun k => l[k]?
theorem pk_arr (us : List Value) (lo hi st : Option Int) : slicePick us.toArray lo hi st = (pk us lo hi st).toArray := by
  unfold slicePick pk
  simp only [List.size_toArray, List.getElem?_toArray]
theorem fm_congr {α : Type} (f g : Nat → Option α) : ∀ l : List Nat, (∀ k ∈ l, f k = g k) → l.filterMap f = l.filterMap g
  | [], _ => rfl
  | a :: r, h => by rw [List.filterMap_cons, List.filterMap_cons, h a (by simp), fm_congr f g r fun k hk => h k (by simp [hk])]
theorem pk_step {α : Type} (l : List α) (j : Nat) (hj : j ≤ 1) : pk l (if j = 0 then none else some (j : Int)) none (some 2) = ev2 (l.drop j) := by
  have hb : sliceBounds (if j = 0 then none else some (j : Int)) none (some 2) l.length = (((min j l.length : Nat) : Int), (l.length : Int), (2 : Int)) := by
    unfold sliceBounds
    by_cases h : j = 0
    · subst h; simp
    · have : j = 1 := by omega
      subst this
      simp
      omega
  unfold pk
  rw [hb]
  have hl : (l.drop j).length = l.length - j := by simp
  rw [← ev2_range, hl]
  have hc : sliceRange ((min j l.length : Nat) : Int) (l.length : Int) 2 = (List.range ((l.length - j + 1) / 2)).map fun k => min j l.length + 2 * k := by
    unfold sliceRange
    have e1 : (if (2 : Int) > 0 then (if ((min j l.length : Nat) : Int) < (l.length : Int) then ((l.length : Int) - ((min j l.length : Nat) : Int) + 2 - 1) / 2 else 0) else (if ((min j l.length : Nat) : Int) > (l.length : Int) then (((min j l.length : Nat) : Int) - (l.length : Int) - 2 - 1) / (-2) else 0)).toNat = (l.length - j + 1) / 2 := by
      rw [if_pos (by decide)]
      split <;> omega
    show (List.range _).map _ = _
    rw [e1]
    apply List.map_congr_left
    intro k _
    omega
  show (sliceRange ((min j l.length : Nat) : Int) (l.length : Int) 2).filterMap _ = _
  rw [hc, List.filterMap_map]
  refine fm_congr _ _ _ fun k hk => ?_
  have hk2 := List.mem_range.mp hk
  have hm : min j l.length = j := by omega
  show l[min j l.length + 2 * k]? = (l.drop j)[2 * k]?
  rw [hm, List.getElem?_drop]
theorem vals_pick {xs : List V} {us : List Value} (r : Vals xs us) : ∀ ks : List Nat, Vals (ks.filterMap fun k => xs[k]?) (ks.filterMap fun k => us[k]?)
  | [] => .nil
  | k :: t => by
    have ih := vals_pick r t
    have hl := r.length
    cases e : xs[k]? with
    | none =>
      have e2 : us[k]? = none := by
        rw [List.getElem?_eq_none_iff] at e ⊢
        omega
      rw [List.filterMap_cons, List.filterMap_cons, e, e2]
      exact ih
    | some x =>
      obtain ⟨u, e2, ru⟩ := r.get e
      rw [List.filterMap_cons, List.filterMap_cons, e, e2]
      exact .cons ru ih
/-- an expression, asked for less -/
theorem pe_weak {X : Cx} {e : Expr} {te : TE} (he : PE X e te) : PE X e fun σ H Q => ∃ R : VK, te σ H R ∧ ∀ x H1, R x H1 → Q x H1 := by
  constructor
  rintro pins s σ H Q I ⟨R, h, m⟩
  refine thn (he.run pins s σ H R I h) ?_
  rintro v s1 ⟨x, H1, I1, rx, r1⟩
  exact ⟨x, H1, I1, rx, m x H1 r1⟩
/-- xs[a:b:c] of a list, whatever the three are -/
def tSl3 (K : PySem.W.Frag) (te : TE) (tl tu tc : TO) : TE := fun σ H Q => te σ H fun x H1 => tl σ H1 fun lo H2 => tu σ H2 fun hi H3 => tc σ H3 fun st H4 =>
  ∃ a xs, x = .ref a ∧ st ≠ some 0 ∧ SqL K H4 a xs ∧ (xs.length ≤ sizeLine → (pk xs lo hi st).length ≤ sizeLine) ∧ ∀ p, H4 p = none → Q (.ref p) (upd H4 p (.lst (pk xs lo hi st)))
theorem pe_slL3 {X : Cx} {e : Expr} {te : TE} {lo hi : Option Expr} {ce : Expr} {tl tu tc : TO} {p3 pos : Pos} (he : PE X e te) (hl : PO X lo tl) (hu : PO X hi tu) (hc : PO X (some ce) tc) : PE X (.Subscript e (.Slice lo hi (some ce) p3) pos) (tSl3 X.K te tl tu tc) := by
  constructor
  intro pins s0 σ H0 Q I0 h0
  refine Subscript_ (thn (he.run pins s0 σ H0 _ I0 h0) ?_)
  rintro v s1 ⟨x, H1, I1, rx, h1⟩
  refine wpAny_Slice (thn (hl.run pins s1 σ H1 _ I1 h1) ?_)
  rintro vl s2 ⟨ol, H2, I2, il, h2⟩
  refine thn (hu.run pins s2 σ H2 _ I2 h2) ?_
  rintro vu s3 ⟨ou, H3, I3, iu, h3⟩
  refine thn (hc.run pins s3 σ H3 _ I3 h3) ?_
  rintro vc s4 ⟨oc, H4, I4, ic, a, xs, ex, nz, sq, zp, q⟩
  subst ex
  cases rx
  have kp : ∀ b u, s4.heap.get? b = some u → (s4.heap.push { cls := .type "slice", data := .fields #[vl, vu, vc] }).get? b = some u := fun b u z => Heap.get?_push_of_some _ z
  have I5 := I4.kept (t' := s4.toks) kp
  obtain ⟨its, rv, lst, zl⟩ := I5.list sq
  have ln := rv.length
  refine tail_any (ops := [.ref a, .ref s4.heap.objs.size]) lst.isList.typeIs PySem.slot_list_getitem.lookup ?_ (by with_unfolding_all rfl)
  refine wpAny_getItem_list_slice (st := oc) lst.isList (Heap.IsSliceOf.new _ vl vu vc) il iu ic nz ?_ (by simp only [List.size_toArray]; omega)
  rw [pk_arr]
  have rp : Vals (pk xs ol ou oc) (pk its ol ou oc) := by
    unfold pk
    rw [ln]
    exact vals_pick rv _
  have new := I5.laid (t' := s4.toks) (a := (s4.heap.push { cls := .type "slice", data := .fields #[vl, vu, vc] }).objs.size) (o := .lst (pk xs ol ou oc)) (fun b u z => Heap.get?_push_of_some _ z) (Nat.le_refl _) ⟨zp zl, _, 0, rp, Heap.get?_push_size _ rfl⟩
  exact ⟨.ref _, _, new, rfl, q _ (I5.hok.fresh (Nat.le_refl _))⟩
def tStep (K : PySem.W.Frag) (j : Nat) (te : TE) : TE := fun σ H Q => te σ H fun x H1 => ∃ a xs, x = .ref a ∧ SqL K H1 a xs ∧ ∀ p, H1 p = none → Q (.ref p) (upd H1 p (.lst (ev2 (xs.drop j))))
theorem step_len (xs : List V) (j : Nat) (h : xs.length ≤ sizeLine) : (ev2 (xs.drop j)).length ≤ sizeLine := by
  rw [ev2_len, List.length_drop]
  omega
theorem pe_step0 {X : Cx} {e : Expr} {te : TE} {k : Nat} {p1 p3 pos : Pos} (he : PE X e te) : PE X (.Subscript e (.Slice none none (some (.Constant (.int 2) k p1)) p3) pos) (tStep X.K 0 te) := by
  constructor
  intro pins s σ H Q I h
  refine (pe_slL3 (pe_weak he) po_none po_none (po_some (pe_int (i := 2)))).run pins s σ H Q I ⟨_, h, ?_⟩
  rintro x H1 ⟨a, xs, ex, sq, q⟩
  have e0 : pk xs none none (some 2) = ev2 (xs.drop 0) := pk_step xs 0 (by decide)
  exact ⟨2, rfl, a, xs, ex, by decide, sq, by rw [e0]; exact step_len xs 0, by rw [e0]; exact q⟩
theorem pe_step1 {X : Cx} {e : Expr} {te : TE} {k k0 : Nat} {p0 p1 p3 pos : Pos} (he : PE X e te) : PE X (.Subscript e (.Slice (some (.Constant (.int 1) k0 p0)) none (some (.Constant (.int 2) k p1)) p3) pos) (tStep X.K 1 te) := by
  constructor
  intro pins s σ H Q I h
  refine (pe_slL3 (pe_weak he) (po_some (pe_int (i := 1))) po_none (po_some (pe_int (i := 2)))).run pins s σ H Q I ⟨_, h, ?_⟩
  rintro x H1 ⟨a, xs, ex, sq, q⟩
  have e0 : pk xs (some 1) none (some 2) = ev2 (xs.drop 1) := pk_step xs 1 (by decide)
  exact ⟨1, rfl, 2, rfl, a, xs, ex, by decide, sq, by rw [e0]; exact step_len xs 1, by rw [e0]; exact q⟩
section
variable {K : PySem.W.Frag} {te ta tb tc tl : TE} {tt : TT} {tA : TA} {ds : List SD} {ms : List MD} {R : RS} {t u : TS} {P : Po}
theorem RpA.ev2 {M : List Addr} {H : Hp} : ∀ {xs : List V} {es : List PyData}, RpA M H xs es → RpA M H (ev2 xs) (ev2 es)
  | _, _, .nil => .nil
  | _, _, .cons a .nil => .cons a .nil
  | _, _, .cons a (.cons _ r) => .cons a (RpA.ev2 r)
theorem e_step {j : Nat} (h : E K ta ds ms fun s ms1 => ∃ es, Sv ms1 (dd s) (.list es) ∧ R (.f (Hc.ev2 (es.drop j))) ms1) : E K (tStep K j ta) ds ms R := fun L M σ H hS hA Q q =>
  h L M σ H hS hA _ fun s v H1 ms1 w o ⟨es, sv, r⟩ => by
    have a1 := o.at
    obtain ⟨p, xs, rfl, hq, hr⟩ := sv.lst a1 o.sl
    exact ⟨p, xs, rfl, hq, fun l hl => q (.f (Hc.ev2 (es.drop j))) _ _ ms1 (w.trans (Wk.new hl)) (out_new a1 w hl (hr.drop j).ev2) r⟩
/-! ### a list or a tuple as a test -/
def tTru (K : PySem.W.Frag) (te : TE) : TT := fun σ H Q => te σ H fun x H' => ∃ k, TruV K x H' k ∧ Q k H'
theorem pt_tru {X : Cx} {a : Expr} (ha : PE X a ta) (he : ∀ whole, isTrue a X.env whole = (do let v ← whole; standAt a.pos; holding [v] (truthy v)) := by intro _; rfl) : PT X a (tTru X.K ta) := pt_truth ha he
theorem et_tru {RB : Bool → List MD → Prop} (h : E K te ds ms fun s ms1 => ∃ es : List PyData, (Sv ms1 (dd s) (.list es) ∨ Sv ms1 (dd s) (.tuple es)) ∧ RB (!es.isEmpty) ms1) : ET K (tTru K te) ds ms RB := fun L M σ H hS hA Q q =>
  h L M σ H hS hA _ fun s v H1 ms1 w o ⟨es, sv, r⟩ => by
    have a1 := o.at
    have em : ∀ {xs : List V}, RpA M H1 xs es → xs.isEmpty = es.isEmpty := fun {xs} h => by
      cases h <;> rfl
    rcases sv with sv | sv
    · obtain ⟨p, xs, rfl, hq, hr⟩ := sv.lst a1 o.sl
      exact ⟨_, .inl ⟨xs, hq, rfl⟩, by rw [em hr]; exact q _ H1 ms1 w a1 r⟩
    · obtain ⟨p, xs, rfl, hq, hr⟩ := sv.tup o.sl
      exact ⟨_, .inr (.inl ⟨xs, SqT.of hq, rfl⟩), by rw [em hr]; exact q _ H1 ms1 w a1 r⟩
/-- over zip(xs, ys) of two lists -/
theorem e_lcZL {g : TG} {js vs : List Nat} (hj : ∀ j ∈ js, j ∈ vs) (h : EA K tA ds ms fun as ms0 => ∃ (s1 s2 : SD) (es fs : List PyData), as = [s1, s2] ∧ Sw s1 es ∧ Sw s2 fs ∧ es.length ≤ 10000 ∧ ∃ Pv : Nat → List PyData → List MD → Prop, Pv 0 [] ms0 ∧
      (∀ i e f acc ms1, es[i]? = some e → fs[i]? = some f → Pv i acc ms1 → Lt K g js tt te vs ds (.d (.tuple [e, f])) ms1 acc (Pv (i + 1))) ∧ ∀ acc ms1, Pv (min es.length fs.length) acc ms1 → R (.f acc) ms1) :
    E K (tLc (RZ.iZipA K tA) g tt te vs) ds ms R := fun L M σ H hS hA Q q =>
  h L M σ H hS hA _ fun as us H1 ms0 w a1 o ⟨s1, s2, es, fs, ea, sw1, sw2, hz, Pv, h0, hs, hd⟩ => by
    subst ea
    obtain ⟨v1, t1, rfl, o1, v2, t2, rfl, o2, rfl⟩ := o
    obtain ⟨a, xs, rfl, rx, hx⟩ := sw1.is a1 o1
    obtain ⟨b, ys, rfl, ry, hy⟩ := sw2.is a1 o2
    refine ⟨a, b, xs, ys, rfl, .inl ⟨hx H1 (Wk.refl L H1), hy H1 (Wk.refl L H1), fun D hD => ?_⟩⟩
    have hDL := a1.freshL hD
    refine ⟨fun i m H' => m = min es.length fs.length - i ∧ i ≤ min es.length fs.length ∧ ∃ acc ms', Cs L M H1 D i acc ms' H' ∧ Pv i acc ms', ⟨_, rfl, Nat.zero_le _, [], ms0, .start a1 hD, h0⟩, ?_⟩
    rintro i m H' ⟨rfl, hi, acc, ms', c, p⟩
    have qx := hx H' c.w
    have qy := hy H' c.w
    by_cases hlt : i < min es.length fs.length
    · have l1 : i < xs.length := by rw [rx.length]; omega
      have l2 : i < ys.length := by rw [ry.length]; omega
      refine .inr ⟨⟨xs, ys, xs[i], ys[i], qx, qy, by simp [l1], by simp [l2]⟩, fun H2 => ∃ acc' ms2, Cs L M H1 D (i + 1) acc' ms2 H2 ∧ Pv (i + 1) acc' ms2, fun H2 ⟨acc', ms2, c2, p2⟩ => ⟨min es.length fs.length - (i + 1), by omega, rfl, hlt, acc', ms2, c2, p2⟩, fun v H2 y => ?_⟩
      obtain ⟨T, x, y, rfl, hT, rfl, fx, fy⟩ := y
      obtain ⟨e, e1, e2⟩ := rx.get' (fx xs qx)
      obtain ⟨f, f1, f2⟩ := ry.get' (fy ys qy)
      have c2 := c.new (o := .tup [x, y]) hT
      have tt2 : To M (M ++ [D]) H1 (upd H' T (.tup [x, y])) := to_new a1 hD c2.w
      have ho : SlOk K L (M ++ [D]) (upd H' T (.tup [x, y])) (.d (.tuple [e, f])) (.ref T) := Rp.tup (c.a.fresh hT) upd_same (.cons (Rp.to tt2 _ _ e2) (.cons (Rp.to tt2 _ _ f2) .nil))
      exact lc_turn2 (x := .d (.tuple [e, f])) (v := .ref T) (Nn := Pv) hj (by omega) (hS.mono hA w) a1 hD c2 ho (hs i e f acc ms' e1 f1 p)
    · have e : i = min es.length fs.length := by omega
      subst e
      refine .inl ⟨⟨xs, ys, qx, qy, by rw [rx.length, ry.length]; omega⟩, ?_⟩
      exact q (.f acc) _ H' ms' (w.trans c.w) ⟨D, rfl, none_back a1 w (a1.fresh hD) hD, a1.fresh hD, c.done a1.sub hDL, a1.sub⟩ (hd acc ms' p)
end
end Hc

namespace Hc
open PySem PySem.Spec PyProof.Rows L2
section
variable {K : PySem.W.Frag} {te ta tb tc tl : TE} {tt : TT} {tA tB : TA} {ds : List SD} {ms : List MD} {R : RS} {t u : TS} {P : Po}
/-- the first two together -/
theorem s_assoc {v : TS} (h : S K (tSeq (tSeq t u) v) ds ms P) : S K (tSeq t (tSeq u v)) ds ms P := h
/-- a call whose first argument is a new list, that the call may change -/
theorem e_callF {Φ : Ph} (h : E K ta ds ms fun s ms1 => ∃ es, s = .f es ∧ EA K tB ds (ms1 ++ [.l es]) fun as ms2 => Φ (.m ms1.length :: as) ms2 fun s2 ms3 => ∃ ms4 es', ms3 = ms4 ++ [.l es'] ∧ ms4.length = ms1.length ∧ R (frzR ms1.length es' s2) ms4) :
    E K (tCall (SpD K Φ) [] E0 (tCons ta tB)) ds ms R := fun L M σ H hS hA Q q =>
  h L M σ H hS hA _ fun s v H1 ms1 w o ⟨es, e, h1⟩ => by
    subst e
    obtain ⟨p, rfl, hp, np, a1, sb⟩ := o
    have hl : L.length = ms1.length := by have := a1.ln; simp at this; exact this
    have t : To M (M ++ [p]) H H1 := to_new hA hp w
    have hS1 : Sl K (L ++ [p]) (M ++ [p]) σ H1 ds := by
      refine hS.to t w.kd fun k q e => ?_
      rw [List.getElem?_append_left (List.getElem?_eq_some_iff.mp e).1]
      exact e
    have wk : ∀ {H2 : Hp}, Wk (L ++ [p]) H1 H2 → Wk L H H2 := fun {H2} w2 => ⟨fun x y nx ex => w2 x y (fun z => (List.mem_append.mp z).elim nx fun z => ne_of_none ex hp (by simpa using z)) (w x y nx ex), fun x y ex => by
      obtain ⟨o1, f1, k1⟩ := w.kd x y ex
      obtain ⟨o2, f2, k2⟩ := w2.kd x o1 f1
      exact ⟨o2, f2, k2.trans k1⟩⟩
    refine h1 (L ++ [p]) (M ++ [p]) σ H1 hS1 a1 _ fun as vs H2 ms2 w2 a2 o2 h2 => ?_
    show SpD K Φ ((.ref p :: vs) ++ []) H2 Q E0
    rw [List.append_nil]
    refine ⟨L ++ [p], M ++ [p], ms2, .m ms1.length :: as, _, a2, ⟨.ref p, vs, rfl, ⟨p, rfl, by rw [← hl]; simp, let ⟨xs, e, _⟩ := a1.last; kind_lst w2.kd e⟩, o2⟩, h2, fun s3 v3 H3 ms3 w3 o3 ⟨ms4, es', e4, l4, r⟩ => ?_⟩
    subst e4
    rw [← l4] at r
    have w13 := w2.trans w3
    refine q _ v3 H3 ms4 (wk w13) ?_ r
    refine Out.frz hp o3.at (fun q hq hqp hq1 => ?_) np sb o3
    cases e : H q with
    | none => rfl
    | some oo =>
      have hqL : q ∉ L ++ [p] := fun z => (List.mem_append.mp z).elim (fun z => hq (hA.sub q z)) fun z => hqp (by simpa using z)
      rw [w2 q oo hqL (w q oo (fun z => hq (hA.sub q z)) e)] at hq1
      cases hq1
end
/-! ### sorted rows -/
theorem totalD : PySem.W.TotalLe (PySem.W.dataLe false (id : PyData → PyData)) := PySem.W.sortLe_total _ _ _
theorem sort_strict {m l : List PyData} (hm : m.Pairwise fun a b => PySem.W.dataLe false id a b = true ∧ PySem.W.dataLe false id b a = false) (hp : l.Perm m) : sortD l = m := by
  refine (PySem.W.sort_unique totalD (hm.imp fun h => h.1) fun c => ?_).symm
  have p2 := hp.filter (PySem.W.sameRank (PySem.W.dataLe false id) c)
  have pw : (m.filter (PySem.W.sameRank (PySem.W.dataLe false id) c)).Pairwise fun a b => PySem.W.dataLe false id a b = true ∧ PySem.W.dataLe false id b a = false := hm.filter _
  have al : ∀ x ∈ m.filter (PySem.W.sameRank (PySem.W.dataLe false id) c), PySem.W.sameRank (PySem.W.dataLe false id) c x = true := fun x hx => (List.mem_filter.mp hx).2
  generalize m.filter (PySem.W.sameRank (PySem.W.dataLe false id) c) = f at *
  match f, pw, al with
  | [], _, _ => exact (List.Perm.eq_nil p2).symm
  | [x], _, _ => exact (List.perm_singleton.mp p2).symm
  | x :: y :: r, pw, al =>
    have h1 := (List.pairwise_cons.mp pw).1 y (by simp)
    have hx := al x (by simp)
    have hy := al y (by simp)
    unfold PySem.W.sameRank at hx hy
    rw [Bool.and_eq_true] at hx hy
    have : PySem.W.dataLe false id y x = true := by
      first
        | exact totalD.trans y c x hy.2 hx.1
        | exact totalD.trans y c x hy.1 hx.2
    rw [this] at h1
    cases h1.2
theorem tri_lt (i j i' j' : Int) (w w' : PyData) (ha : PySem.W.alike w w' = true) : PySem.W.dataLt (.tuple [.int i, .int j, w]) (.tuple [.int i', .int j', w']) = if i = i' then (if j = j' then (if PyData.eqv w w' = true then false else PySem.W.dataLt w w') else decide (j < j')) else decide (i < i') := by
  rw [PySem.W.dataLt_tuple, PySem.W.dataLt_cons (by simp [PySem.W.alike]), PySem.W.dataLt_cons (by simp [PySem.W.alike]), PySem.W.dataLt_cons ha, PySem.W.dataLt_int, PySem.W.dataLt_int, eqv_int, eqv_int]
  have e : PyProof.Rows.lexLt PyProof.Rows.itemOrd (PySem.W.keyToksAll []) (PySem.W.keyToksAll []) = false := PyProof.Rows.lex_irrefl _
  rw [e]
  by_cases h1 : i = i' <;> by_cases h2 : j = j' <;> simp [h1, h2]
end Hc

namespace Hc
open PySem PySem.Spec PyProof.Rows L2
/-! ### lists of lists that may change -/
section
variable {K : PySem.W.Frag} {L M qs : List Addr} {ms1 xs : List MD} {H H' : Hp}
theorem to_lessAll : To (M ++ qs) M H H := fun a o n e => ⟨fun z => n (List.mem_append_left _ z), e⟩
theorem At.dropAll (h : At (L ++ qs) (M ++ qs) (ms1 ++ xs) H) (hx : qs.length = xs.length) (hl : ∀ q ∈ L, q ∈ M) : At L M ms1 H := by
  have hn : L.length = ms1.length := by
    have := h.ln
    simp at this
    omega
  refine ⟨(List.nodup_append.mp h.nd).1, hl, fun q hq => h.al q (List.mem_append_left _ hq), hn, fun k q x e1 e2 => ?_⟩
  have h1 : k < L.length := (List.getElem?_eq_some_iff.mp e1).1
  have h2 : k < ms1.length := (List.getElem?_eq_some_iff.mp e2).1
  exact (h.ok k q x (by rw [List.getElem?_append_left h1]; exact e1) (by rw [List.getElem?_append_left h2]; exact e2)).toL to_lessAll (fun k' q' hlt z => by rw [List.getElem?_append_left (by omega)] at z; exact z) rfl
/-- the rows' own mutables, and the list of them -/
def rowsM (n : Nat) (ess : List (List PyData)) : List MD := ess.map MD.l ++ [.r (List.range' n ess.length)]
def frzLS (n : Nat) (ess : List (List PyData)) : SD → SD
  | .m k => if k < n then .m k else if k = n + ess.length then .d (.list (ess.map .list)) else .d (.list (ess.getD (k - n) []))
  | s => s
theorem rows_len (n : Nat) (ess : List (List PyData)) : (rowsM n ess).length = ess.length + 1 := by simp [rowsM]
theorem RpA.ofGet : ∀ {xs : List V} {ds : List PyData}, xs.length = ds.length → (∀ (i : Nat) (v : V) (d : PyData), xs[i]? = some v → ds[i]? = some d → Rp M H v d) → RpA M H xs ds
  | [], [], _, _ => .nil
  | [], _ :: _, h, _ => by cases h
  | _ :: _, [], h, _ => by cases h
  | x :: xs, d :: ds, h, f => .cons (f 0 x d rfl rfl) (RpA.ofGet (by simpa using h) fun i v e h1 h2 => f (i + 1) v e (by simpa using h1) (by simpa using h2))
theorem rows_at (n : Nat) (ms1 : List MD) (ess : List (List PyData)) {i : Nat} {es : List PyData} (h : ess[i]? = some es) : (ms1 ++ rowsM n ess)[ms1.length + i]? = some (.l es) := by
  have hi := (List.getElem?_eq_some_iff.mp h).1
  rw [List.getElem?_append_right (by omega)]
  unfold rowsM
  rw [List.getElem?_append_left (by simp; omega), List.getElem?_map]
  have : ms1.length + i - ms1.length = i := by omega
  rw [this, h]
  rfl
theorem rows_top (n : Nat) (ms1 : List MD) (ess : List (List PyData)) : (ms1 ++ rowsM n ess)[ms1.length + ess.length]? = some (.r (List.range' n ess.length)) := by
  rw [List.getElem?_append_right (by omega)]
  unfold rowsM
  have : ms1.length + ess.length - ms1.length = (ess.map MD.l).length := by simp
  rw [this, List.getElem?_append_right (Nat.le_refl _), Nat.sub_self]
  rfl
theorem row_rp {ess : List (List PyData)} (a : At (L ++ qs) (M ++ qs) (ms1 ++ rowsM ms1.length ess) H) (hx : qs.length = ess.length + 1) (nm : ∀ q ∈ qs, q ∉ M) {i : Nat} {es : List PyData} {q : Addr} (he : ess[i]? = some es) (hq : (L ++ qs)[ms1.length + i]? = some q) : Rp M H (.ref q) (.list es) := by
  have hn : L.length = ms1.length := by
    have := a.ln
    simp [rows_len] at this
    omega
  obtain ⟨xs, e, r⟩ := a.ok _ q _ hq (rows_at _ _ _ he)
  have hm : q ∈ qs := by
    rw [List.getElem?_append_right (by omega)] at hq
    exact List.mem_of_getElem? hq
  exact .lst (nm q hm) e (RpA.to to_lessAll _ _ r)
theorem SlOk.frzLL {ess : List (List PyData)} {s : SD} {v : V} (a : At (L ++ qs) (M ++ qs) (ms1 ++ rowsM ms1.length ess) H) (hx : qs.length = ess.length + 1) (nm : ∀ q ∈ qs, q ∉ M) (h : SlOk K (L ++ qs) (M ++ qs) H s v) : SlOk K L M H (frzLS ms1.length ess s) v := by
  have hn : L.length = ms1.length := by
    have := a.ln
    simp [rows_len] at this
    omega
  cases s with
  | u => exact h
  | f _ => exact h
  | g _ => exact h
  | d x => exact Rp.to to_lessAll _ _ h
  | v x => exact h
  | h φ =>
    obtain ⟨b, e, n, q⟩ := h
    exact ⟨b, e, fun z => n (List.mem_append_left _ z), q⟩
  | s ns =>
    obtain ⟨b, e, ⟨n, q⟩ | q⟩ := h
    · exact ⟨b, e, .inl ⟨fun z => n (List.mem_append_left _ z), q⟩⟩
    · exact ⟨b, e, .inr q⟩
  | q k =>
    obtain ⟨p, rfl, hp, hls⟩ := h
    have hk := (List.getElem?_eq_some_iff.mp hp).1
    rw [List.length_append, hn, hx] at hk
    have nol : ∀ xs, H p ≠ some (.lst xs) := fun xs e => hls.notL e
    have h1 : k < ms1.length := by
      rcases Nat.lt_or_ge k ms1.length with z | z
      · exact z
      · exfalso
        by_cases h2 : k = ms1.length + ess.length
        · subst h2
          obtain ⟨ps, e, _⟩ := a.ok _ p _ hp (rows_top _ _ _)
          exact nol _ e
        · have hi : k - ms1.length < ess.length := by omega
          have e2 : ess[k - ms1.length]? = some (ess.getD (k - ms1.length) []) := by simp [List.getD, hi]
          have e3 := rows_at ms1.length ms1 ess e2
          rw [show ms1.length + (k - ms1.length) = k by omega] at e3
          obtain ⟨xs, e, _⟩ := a.ok _ p _ hp e3
          exact nol _ e
    rw [List.getElem?_append_left (by omega)] at hp
    exact ⟨p, rfl, hp, hls⟩
  | m k =>
    obtain ⟨p, rfl, hp, hls⟩ := h
    have hk := (List.getElem?_eq_some_iff.mp hp).1
    rw [List.length_append, hn, hx] at hk
    show SlOk K L M H (if k < ms1.length then .m k else if k = ms1.length + ess.length then .d (.list (ess.map .list)) else .d (.list (ess.getD (k - ms1.length) []))) (.ref p)
    by_cases h1 : k < ms1.length
    · rw [if_pos h1]
      rw [List.getElem?_append_left (by omega)] at hp
      exact ⟨p, rfl, hp, hls⟩
    · rw [if_neg h1]
      by_cases h2 : k = ms1.length + ess.length
      · rw [if_pos h2]
        subst h2
        obtain ⟨ps, e, ln, f⟩ := a.ok _ p _ hp (rows_top _ _ _)
        rw [List.length_range'] at ln
        have hm : p ∈ qs := by
          rw [List.getElem?_append_right (by omega)] at hp
          exact List.mem_of_getElem? hp
        refine Rp.lst (nm p hm) e (RpA.ofGet (by simp [ln]) fun i v d e1 e2 => ?_)
        rw [List.getElem?_map] at e1 e2
        cases q1 : ps[i]? with
        | none => rw [q1] at e1; cases e1
        | some q =>
          cases q2 : ess[i]? with
          | none => rw [q2] at e2; cases e2
          | some es =>
            rw [q1] at e1
            rw [q2] at e2
            cases e1
            cases e2
            have hi := (List.getElem?_eq_some_iff.mp q2).1
            have := (f i (ms1.length + i) q (by rw [List.getElem?_range' hi]; simp) q1).1
            exact row_rp a hx nm q2 this
      · rw [if_neg h2]
        have hi : k - ms1.length < ess.length := by omega
        have e2 : ess[k - ms1.length]? = some (ess.getD (k - ms1.length) []) := by simp [List.getD, hi]
        refine row_rp a hx nm e2 ?_
        have : ms1.length + (k - ms1.length) = k := by omega
        rw [this]
        exact hp
theorem Sl.frzLL {σ : L2.St} {ds : List SD} {ess : List (List PyData)} (a : At (L ++ qs) (M ++ qs) (ms1 ++ rowsM ms1.length ess) H) (hx : qs.length = ess.length + 1) (nm : ∀ q ∈ qs, q ∉ M) (h : Sl K (L ++ qs) (M ++ qs) σ H ds) : Sl K L M σ H (ds.map (frzLS ms1.length ess)) := fun i s e => by
  rw [List.getElem?_map] at e
  cases q : ds[i]? with
  | none => rw [q] at e; cases e
  | some s0 =>
    rw [q] at e
    have e' : frzLS ms1.length ess s0 = s := Option.some.inj e
    by_cases hu : s0 = .u
    · subst hu
      subst e'
      exact h i .u q
    · obtain ⟨v, e1, e2⟩ := h.get q hu
      have z := e2.frzLL a hx nm
      rw [e'] at z
      cases s with
      | u => exact z.elim
      | f _ => exact z.elim
      | g _ => exact z.elim
      | d x => exact ⟨v, e1, z⟩
      | m k => exact ⟨v, e1, z⟩
      | q k => exact ⟨v, e1, z⟩
      | s ns => exact ⟨v, e1, z⟩
      | v x => exact ⟨v, e1, z⟩
      | h φ => exact ⟨v, e1, z⟩
end
def Po.frzLL (P : Po) (n c : Nat) : Po where
  nx := fun ds' ms' => ∃ ms1 ess, ms' = ms1 ++ rowsM n ess ∧ ms1.length = n ∧ ess.length = c ∧ P.nx (ds'.map (frzLS n ess)) ms1
  rt := fun s ms' => ∃ ms1 ess, ms' = ms1 ++ rowsM n ess ∧ ms1.length = n ∧ ess.length = c ∧ P.rt (frzLS n ess (dd s)) ms1
  bk := fun ds' ms' => ∃ ms1 ess, ms' = ms1 ++ rowsM n ess ∧ ms1.length = n ∧ ess.length = c ∧ P.bk (ds'.map (frzLS n ess)) ms1
  ct := fun ds' ms' => ∃ ms1 ess, ms' = ms1 ++ rowsM n ess ∧ ms1.length = n ∧ ess.length = c ∧ P.ct (ds'.map (frzLS n ess)) ms1
section
variable {K : PySem.W.Frag} {L M qs : List Addr} {ms ms1 : List MD} {H H1 H' : Hp} {ds : List SD} {P : Po} {tA : TA} {u : TS} {R : RS}
/-- how it stands within [[] for .. in range(..)] -/
structure Ls (H1 : Hp) (D : Addr) (i : Nat) (qs : List Addr) (H : Hp) : Prop where
  w : ∀ a o, H1 a = some o → H a = some o
  len : qs.length = i
  d : H D = some (.lst (qs.map V.ref))
  q : ∀ q ∈ qs, H q = some (.lst []) ∧ H1 q = none ∧ q ≠ D
  nd : qs.Nodup
theorem Ls.at {D : Addr} {i : Nat} {qs : List Addr} (a : At L M ms H1) (hD : H1 D = none) (c : Ls H1 D i qs H) : At (L ++ (qs ++ [D])) (M ++ (qs ++ [D])) (ms ++ rowsM ms.length (List.replicate i [])) H := by
  have fr : ∀ p ∈ qs ++ [D], H1 p = none := fun p hp => by
    rcases List.mem_append.mp hp with z | z
    · exact (c.q p z).2.1
    · rw [List.mem_singleton.mp z]; exact hD
  have nL : ∀ p ∈ qs ++ [D], p ∉ L := fun p hp => a.freshL (fr p hp)
  have t : To M (M ++ (qs ++ [D])) H1 H := fun b o n e => ⟨(fun z => (List.mem_append.mp z).elim n fun z => by
    have := fr b z
    rw [this] at e
    cases e), c.w b o e⟩
  have hl := a.ln
  refine ⟨?_, ?_, ?_, ?_, fun k p m e1 e2 => ?_⟩
  · refine List.nodup_append.mpr ⟨a.nd, List.nodup_append.mpr ⟨c.nd, by simp, fun x hx y hy z => ?_⟩, fun x hx y hy z => ?_⟩
    · rw [List.mem_singleton.mp hy] at z
      exact (c.q x hx).2.2 z
    · subst z
      exact nL x hy hx
  · intro p hp
    rcases List.mem_append.mp hp with z | z
    · exact List.mem_append_left _ (a.sub p z)
    · exact List.mem_append_right _ z
  · intro p hp
    rcases List.mem_append.mp hp with z | z
    · obtain ⟨o, e, no⟩ := a.al p z
      exact ⟨o, c.w p o e, no⟩
    · rcases List.mem_append.mp z with z | z
      · rw [(c.q p z).1]; exact ⟨_, rfl, trivial⟩
      · rw [List.mem_singleton.mp z, c.d]; exact ⟨_, rfl, trivial⟩
  · simp [rows_len, hl, c.len]
  · by_cases h1 : k < L.length
    · rw [List.getElem?_append_left h1] at e1
      rw [List.getElem?_append_left (by omega)] at e2
      refine (a.ok k p m e1 e2).toL t (fun k' q' _ z => by rw [List.getElem?_append_left (List.getElem?_eq_some_iff.mp z).1]; exact z) ?_
      obtain ⟨o, e, _⟩ := a.al p (a.sub p (List.mem_of_getElem? e1))
      rw [e]
      exact c.w p o e
    · have hk := (List.getElem?_eq_some_iff.mp e1).1
      simp at hk
      have hcl := c.len
      rw [List.getElem?_append_right (by omega)] at e1
      by_cases h2 : k - L.length < qs.length
      · rw [List.getElem?_append_left h2] at e1
        have := rows_at ms.length ms (List.replicate i []) (i := k - L.length) (es := []) (by rw [List.getElem?_replicate, if_pos (by omega)])
        rw [show ms.length + (k - L.length) = k by omega, e2] at this
        cases this
        exact ⟨[], (c.q p (List.mem_of_getElem? e1)).1, .nil⟩
      · have hk2 : k = ms.length + (List.replicate i ([] : List PyData)).length := by
          rw [List.length_replicate]
          omega
        have e3 := rows_top ms.length ms (List.replicate i [])
        rw [← hk2, e2] at e3
        cases e3
        rw [List.getElem?_append_right (by omega)] at e1
        have : k - L.length - qs.length = 0 := by rw [List.length_replicate] at hk2; omega
        rw [this] at e1
        cases e1
        refine ⟨qs, c.d, by rw [List.length_range', List.length_replicate]; exact hcl, fun j k' q h1 h2 => ?_⟩
        have hj := (List.getElem?_eq_some_iff.mp h2).1
        rw [List.length_replicate, List.getElem?_range' (by omega)] at h1
        have hk' : ms.length + j = k' := by simpa using h1
        subst hk'
        rw [List.length_replicate] at hk2
        refine ⟨?_, by omega⟩
        rw [List.getElem?_append_right (by omega), List.getElem?_append_left (by omega)]
        have : ms.length + j - L.length = j := by omega
        rw [this]
        exact h2
theorem s_newLL {i j : Nat} (h : EA K tA ds ms fun as ms1 => ∃ n : Nat, as = [.d (.int n)] ∧ n ≤ 10000 ∧ S K u (ds.set i (.m (ms1.length + n))) (ms1 ++ rowsM ms1.length (List.replicate n [])) (P.frzLL ms1.length n)) :
    S K (tSeq (tAsg (tLc (iRng1 tA) (gName j) tYes (tLst tNil) [j]) (gName i)) u) ds ms P := fun L M σ H hS hA D n r b c_ =>
  h L M σ H hS hA _ fun as vs H1 ms1 w a1 o ⟨m, ea, hm, h1⟩ => by
    subst ea
    obtain ⟨v, t1, rfl, hv, rfl⟩ := o
    cases hv
    refine ⟨m, rfl, by omega, by omega, fun E hE => ?_⟩
    have hst : Ls H1 E 0 [] (upd H1 E (.lst [])) := ⟨fun a o e => by rw [upd_ne (ne_of_none e hE)]; exact e, rfl, upd_same, (fun q hq => by cases hq), List.Pairwise.nil⟩
    refine lc_range (lo := 0) (n := m) (fun i H' => ∃ qs, Ls H1 E i qs H') ⟨[], hst⟩ (fun i H' hi ⟨qs, c⟩ => ?_) (fun H' ⟨qs, c⟩ => ?_)
    · show L2.wipe ((L2.wipe σ [j]).set j _) [j] = L2.wipe σ [j] ∧ tYes _ H' _
      refine ⟨?_, ?_⟩
      · rw [wipe_set _ _ _ _ (by simp)]
        apply List.ext_getElem?
        intro k
        rw [wipe_get, wipe_get, wipe_length]
        by_cases e : k ∈ [j]
        · rw [if_pos e, if_pos e]
        · rw [if_neg e, if_neg e]
      · unfold tYes
        simp only [if_true]
        refine ⟨Nat.zero_le _, fun q hq => ?_⟩
        have ne : E ≠ q := fun z => by
          subst z
          rw [c.d] at hq
          cases hq
        have h1q : H1 q = none := by
          cases e : H1 q with
          | none => rfl
          | some o => rw [c.w q o e] at hq; cases hq
        have ob : ∀ x o, H' x = some o → x ≠ q := fun x o e z => by
          subst z
          rw [e] at hq
          cases hq
        refine ⟨qs.map V.ref, by rw [upd_ne ne]; exact c.d, by rw [List.length_map, c.len]; exact Nat.lt_of_lt_of_le (show i < 10001 by omega) (by decide), qs ++ [q], ⟨fun a o e => ?_, by rw [List.length_append, c.len]; rfl, by rw [upd_same, List.map_append]; rfl, fun x hx => ?_, ?_⟩⟩
        · rw [upd_ne (ne_of_none e hE), upd_ne (ob a o (c.w a o e))]
          exact c.w a o e
        · rcases List.mem_append.mp hx with z | z
          · obtain ⟨q1, q2, q3⟩ := c.q x z
            exact ⟨by rw [upd_ne q3, upd_ne (ob x _ q1)]; exact q1, q2, q3⟩
          · rw [List.mem_singleton.mp z]
            exact ⟨by rw [upd_ne (Ne.symm ne), upd_same], h1q, Ne.symm ne⟩
        · refine List.nodup_append.mpr ⟨c.nd, by simp, fun x hx y hy z => ?_⟩
          rw [List.mem_singleton.mp hy] at z
          exact ob x _ (c.q x hx).1 z
    · have a2 := c.at a1 hE
      have hcl := c.len
      have fr : ∀ p ∈ qs ++ [E], H1 p = none := fun p hp => by
        rcases List.mem_append.mp hp with z | z
        · exact (c.q p z).2.1
        · rw [List.mem_singleton.mp z]; exact hE
      have nm : ∀ p ∈ qs ++ [E], p ∉ M := fun p hp => a1.fresh (fr p hp)
      have fr0 : ∀ p ∈ qs ++ [E], H p = none := fun p hp => none_back a1 w (nm p hp) (fr p hp)
      have t : To M (M ++ (qs ++ [E])) H H' := fun x o nx e => ⟨(fun z => (List.mem_append.mp z).elim nx fun z => by
        have := fr0 x z
        rw [this] at e
        cases e), c.w x o (w x o (fun z => nx (hA.sub x z)) e)⟩
      have hl1 := a1.ln
      have hS1 : Sl K (L ++ (qs ++ [E])) (M ++ (qs ++ [E])) (σ.set i (some (.ref E))) H' (ds.set i (.m (ms1.length + m))) := by
        refine (hS.to t (fun x y ex => by
          obtain ⟨o1, f1, k1⟩ := w.kd x y ex
          exact ⟨o1, c.w x o1 f1, k1⟩) fun k q e => ?_).set i ⟨E, rfl, ?_, _, c.d⟩
        · rw [List.getElem?_append_left (List.getElem?_eq_some_iff.mp e).1]
          exact e
        · rw [List.getElem?_append_right (by omega), List.getElem?_append_right (by omega)]
          have : ms1.length + m - L.length - qs.length = 0 := by omega
          rw [this]
          rfl
      have wk : ∀ {H2 : Hp}, Wk (L ++ (qs ++ [E])) H' H2 → Wk L H H2 := fun {H2} w2 => ⟨fun x y nx ex => w2 x y (fun z => (List.mem_append.mp z).elim nx fun z => by
        have := fr0 x z
        rw [this] at ex
        cases ex) (c.w x y (w x y nx ex)), fun x y ex => by
        obtain ⟨o1, f1, k1⟩ := w.kd x y ex
        obtain ⟨o2, f2, k2⟩ := w2.kd x o1 (c.w x o1 f1)
        exact ⟨o2, f2, k2.trans k1⟩⟩
      have lq : ∀ ess : List (List PyData), ess.length = m → (qs ++ [E]).length = ess.length + 1 := fun ess e => by simp; omega
      have go : ∀ {N : List SD → List MD → Prop} {C : L2.St → Hp → Prop}, Nx K L M H N C → Nx K (L ++ (qs ++ [E])) (M ++ (qs ++ [E])) H' (fun ds' ms' => ∃ ms2 ess, ms' = ms2 ++ rowsM ms1.length ess ∧ ms2.length = ms1.length ∧ ess.length = m ∧ N (ds'.map (frzLS ms1.length ess)) ms2) C := by
        intro N C nn σ2 H2 ds2 ms2 w2 s2 a2 ⟨ms3, ess, e3, l3, le, n3⟩
        subst e3
        rw [← l3] at n3 a2
        exact nn σ2 H2 _ ms3 (wk w2) (s2.frzLL a2 (lq ess le) nm) (a2.dropAll (by rw [lq ess le, rows_len]) hA.sub) n3
      refine h1 _ _ _ H' hS1 a2 D (go n) ?_ (go b) (go c_)
      intro s2 v2 H2 ms2 w2 o2 ⟨ms3, ess, e3, l3, le, n3⟩
      subst e3
      have o3 := o2.sl
      have a3 := o2.at
      rw [← l3] at n3 a3
      refine r _ v2 H2 ms3 (wk w2) ?_ n3
      have sl := o3.frzLL a3 (lq ess le) nm
      exact Out.of (a3.dropAll (by rw [lq ess le, rows_len]) hA.sub) sl
/-- a row of them -/
theorem rr_ixR {a b : SD} (h : ∃ k i j ks, a = .m k ∧ b = .d (.int (i : Nat)) ∧ ms[k]? = some (.r ks) ∧ ks[i]? = some j ∧ (∃ es, ms[j]? = some (.l es)) ∧ R (.m j) ms) : RR K (rIx K) a b ms R := fun L M H x y hA ha hb Q q => by
  obtain ⟨k, i, j, ks, rfl, rfl, hk, hj, ⟨es, he⟩, r⟩ := h
  obtain ⟨p, rfl, hp, hls⟩ := ha
  cases hb
  obtain ⟨ps, e, ln, f⟩ := hA.ok k p _ hp hk
  have hi := (List.getElem?_eq_some_iff.mp hj).1
  have hi2 : i < ps.length := by omega
  have hq := List.getElem?_eq_getElem hi2
  refine .inl ⟨p, _, i, .ref ps[i], rfl, rfl, SqL.of e, atI_nat (by rw [List.getElem?_map, hq]; rfl), ?_⟩
  exact q (.m j) _ H ms (Wk.refl L H) ⟨hA, _, rfl, (f i j _ hj hq).1, let ⟨xs, e, _⟩ := hA.get (f i j _ hj hq).1 he; ⟨xs, e⟩⟩ r
end
end Hc

namespace Hc
open PySem PySem.Spec PyProof.Rows L2
/-! ### zip(t, xs) of a tuple and a list -/
def ItM (K : PySem.W.Frag) (a b : Addr) : It where
  go := fun i H => ∃ (xs : List V) (ys : List V) (x : V) (y : V), (SqT K H a xs ∧ xs[i]? = some x) ∧ SqL K H b ys ∧ ys[i]? = some y
  yld := fun i H v H2 => ∃ (N : Addr) (x : V) (y : V), v = .ref N ∧ H N = none ∧ H2 = upd H N (.tup [x, y]) ∧ (∀ xs : List V, SqT K H a xs → xs[i]? = some x) ∧ ∀ ys : List V, SqL K H b ys → ys[i]? = some y
  stop := fun i H => ∃ (xs : List V) (ys : List V), SqT K H a xs ∧ SqL K H b ys ∧ i = min xs.length ys.length
structure Apt (z t o c d a b : Addr) : Prop where
  nd : [z, t, o, c, d].Nodup
  na : a ∉ [z, t, o, c, d]
  nb : b ∉ [z, t, o, c, d]
theorem Apt.sep {z t o c d a b : Addr} (h : Apt z t o c d a b) : PySem.ZipSep2 z t o c d [c, a] [d, b] := by
  obtain ⟨nd, na, nb⟩ := h
  simp only [List.nodup_cons, List.mem_cons, List.not_mem_nil, or_false, not_or] at nd na nb
  obtain ⟨⟨zt, zo, zc, zd⟩, ⟨t_o, tc, td⟩, ⟨oc, od⟩, cd, _⟩ := nd
  obtain ⟨az, at', ao, ac, ad⟩ := na
  obtain ⟨bz, bt, bo, bc, bd⟩ := nb
  constructor <;> first | (simp; done) | (simp only [List.mem_cons, List.not_mem_nil, or_false, not_or]; exact ⟨by first | assumption | exact Ne.symm (by assumption), by first | assumption | exact Ne.symm (by assumption)⟩) | assumption | exact Ne.symm (by assumption)
theorem turn_zipM {P : Program} {w : World} {K : PySem.W.Frag} {es : List Expr} {n : Nat} {q : Pos} {a b z t o c d : Addr} (hap : Apt z t o c d a b) :
    Turn P w K (.Tuple es n q) (ItM K a b) [z, t, o, c, d] z (fun i h => (IsZip h z t o .none ∧ IsTupOf2 h t (.ref c) (.ref d)) ∧ (∃ u v, IsTupOf2 h o u v) ∧ h.IsTupleIter c a i ∧ h.IsListIter d b i) where
  mem := List.mem_cons_self ..
  obj := fun i h tn p hp => by
    obtain ⟨⟨h1, h2⟩, ⟨u, v, h3⟩, ⟨o4, g4, _, d4⟩, o5, g5, _, d5⟩ := tn
    simp only [List.mem_cons, List.not_mem_nil, or_false] at hp
    rcases hp with rfl | rfl | rfl | rfl | rfl
    · exact ⟨_, h1, nofun⟩
    · exact ⟨_, h2, nofun⟩
    · exact ⟨_, h3, nofun⟩
    · exact ⟨o4, g4, fun v y => by rw [d4] at y; cases y⟩
    · exact ⟨o5, g5, fun v y => by rw [d5] at y; cases y⟩
  keep := fun i h h2 tn k => by
    obtain ⟨⟨h1, h2⟩, ⟨u, v, h3⟩, h4, h5⟩ := tn
    exact ⟨⟨k z (by simp) _ h1, k t (by simp) _ h2⟩, ⟨u, v, k o (by simp) _ h3⟩, h4.at fun p y => k c (by simp) p y, h5.at fun p y => k d (by simp) p y⟩
  item := by
    intro X e1 e2 e3 cm i pins s σ H Ex I fp tn gg
    subst e1 e2 e3
    obtain ⟨⟨h1, h2⟩, ⟨u0, v0, h3⟩, h4, h5⟩ := tn
    obtain ⟨xs, ys, x, y, ⟨sq, hx⟩, sl, hy⟩ := gg
    obtain ⟨its, rv, tp, _⟩ := I.tuple sq
    obtain ⟨jts, rw', lp, _⟩ := I.list sl
    obtain ⟨u, hu, ru⟩ := rv.get hx
    obtain ⟨v, hv, rv2⟩ := rw'.get hy
    have sep := hap.sep
    have zl := Heap.lt_size h1
    have lt1 : i < its.toArray.size := by
      have := (List.getElem?_eq_some_iff.mp hu).1
      simpa using this
    have lt2 : i < jts.toArray.size := by
      have := (List.getElem?_eq_some_iff.mp hv).1
      simpa using this
    have hnd : X.A.in1.handled = none := I.ok.hd cm
    have ac : a ≠ c := fun z' => hap.na (by simp [z'])
    have bd : b ≠ d := fun z' => hap.nb (by simp [z'])
    refine wpAny_pyNext_zipD2_item sep (Draws.tuple hnd c a ac its.toArray) (Draws.list hnd d b bd jts.toArray) h1 h2 h3 ⟨h4, tp⟩ ⟨h5, lp.isList⟩ lt1 lt2 fun x1 x2 g tk p1 p2 k1 k3 k4 k5 hT _ kp => ?_
    have q1 : x1 = u := by
      have y1 : its.toArray[i]? = some x1 := p1
      rw [List.getElem?_toArray, hu] at y1
      exact (Option.some.inj y1).symm
    have q2 : x2 = v := by
      have y1 : jts.toArray[i]? = some x2 := p2
      rw [List.getElem?_toArray, hv] at y1
      exact (Option.some.inj y1).symm
    subst q1 q2
    refine ⟨_, rfl, wpAny_letOwnedTupleGo_zip (s := { s with heap := g, toks := tk }) k1 fun g3 z3 sb => ?_⟩
    have hT3 : g3.get? s.heap.objs.size = some { cls := .type "tuple", data := .seq #[x1, x2] } := (sb.2 _ (Nat.ne_of_gt zl)).trans hT
    have ok : ObjOk X.prog X.w (upd H s.heap.objs.size (.tup [x, y])) g3 s.heap.objs.size (.tup [x, y]) :=
      ⟨Nat.le_of_ble_eq_true rfl, [x1, x2], .cons ru (.cons rv2 .nil), ⟨_, hT3, rfl, _, rfl⟩⟩
    have ne4 : ∀ p, p ∉ [z, t, o, c, d] → p ≠ z ∧ p ≠ o ∧ p ≠ c ∧ p ≠ d := fun p np => by
      simp only [List.mem_cons, List.not_mem_nil, or_false, not_or] at np
      exact ⟨np.1, np.2.2.1, np.2.2.2.1, np.2.2.2.2⟩
    have I3 : L2.Inv X pins σ (upd H s.heap.objs.size (.tup [x, y])) { s with heap := g3, toks := tk } :=
      I.turnedNew (ch := [z, t, o, c, d]) (fun p ob np y => by
        obtain ⟨n1, n2, n3, n4⟩ := ne4 p np
        exact (sb.2 p n1).trans (kp p ob n1 n2 n3 n4 y)) fp (Nat.le_refl _) ok
    refine ⟨.ref s.heap.objs.size, _, I3, rfl, ⟨_, x, y, rfl, I.hok.fresh (Nat.le_refl _), rfl, fun l hl => by rw [I.tuple_inj hl sq]; exact hx, fun l hl => by rw [I.list_inj hl sl]; exact hy⟩, ⟨⟨z3, ?_⟩, ⟨x1, x2, ?_⟩, ?_, ?_⟩, fun p hp => ?_⟩
    · exact (sb.2 _ sep.TIz).trans (kp _ _ sep.TIz sep.TITO sep.TIi1 sep.TIi2 h2)
    · exact (sb.2 _ sep.TOz).trans k3
    · exact k4.1.at fun ob y => (sb.2 _ (Ne.symm sep.zi1)).trans y
    · exact k5.1.at fun ob y => (sb.2 _ (Ne.symm sep.zi2)).trans y
    · have lb : p < s.heap.objs.size := by
        simp only [List.mem_cons, List.not_mem_nil, or_false] at hp
        rcases hp with rfl | rfl | rfl | rfl | rfl
        · exact zl
        · exact Heap.lt_size h2
        · exact Heap.lt_size h3
        · obtain ⟨_, g4, _⟩ := h4
          exact Heap.lt_size g4
        · obtain ⟨_, g5, _⟩ := h5
          exact Heap.lt_size g5
      rw [upd_ne (Nat.ne_of_lt lb)]
      exact (fp p hp).1
  done := by
    intro X e1 e2 e3 cm i pins s σ H Ex I fp tn gg
    subst e1 e2 e3
    obtain ⟨⟨h1, h2⟩, ⟨u0, v0, h3⟩, h4, h5⟩ := tn
    obtain ⟨xs, ys, sq, sl, hi⟩ := gg
    obtain ⟨its, rv, tp, _⟩ := I.tuple sq
    obtain ⟨jts, rw', lp, _⟩ := I.list sl
    have l1 := rv.length
    have l2 := rw'.length
    have sep := hap.sep
    have hnd : X.A.in1.handled = none := I.ok.hd cm
    have ac : a ≠ c := fun z' => hap.na (by simp [z'])
    have bd : b ≠ d := fun z' => hap.nb (by simp [z'])
    refine wpAny_pyNext_zipD2_end sep (Draws.tuple hnd c a ac its.toArray) (Draws.list hnd d b bd jts.toArray) h1 h2 h3 ⟨h4, tp⟩ ⟨h5, lp.isList⟩ (by simp; omega) (by simp; omega) (by simp; omega) fun g tk kp => ⟨rfl, I.turnedL (ch := [z, t, o, c, d]) (fun p ob np y => ?_) fp⟩
    simp only [List.mem_cons, List.not_mem_nil, or_false, not_or] at np
    exact kp p ob np.1 np.2.2.1 np.2.2.2.1 np.2.2.2.2 y
  self := fun A i s Q Ex tn k => wpAny_pyIter_zip tn.1.1 k
def iZipM (K : PySem.W.Frag) (ta : TA) : TI := fun σ H R => ta σ H fun vs H1 => ∃ (a b : Addr) (xs ys : List V), (vs = [.ref a, .ref b] ∧ SqT K H1 a xs) ∧ SqL K H1 b ys ∧ R (ItM K a b) H1
theorem pi_zipM {X : Cx} {ex ey : Expr} {ta : TA} {p1 p2 p3 : Pos} {es : List Expr} {n : Nat} (hg : Gl X "zip") (hm : X.mg "zip" = none) (ha : PA X [ex, ey] ta)
    (h1 : starEach [ex, ey] X.env = (false, eval ex X.env) :: starEach [ey] X.env := by rfl) (h2 : (backTo p2 (starEach [ey] X.env)).any (·.1) = false := by rfl) :
    PI X (.Tuple es n p3) (.Call (.Name "zip" p1) [ex, ey] [] p2) (iZipM X.K ta) := by
  constructor
  intro pins s σ H R I h
  refine Call_ (ld_blt I hg hm boot_zip (PyProof.Rows.callWith_type1 (thn (ha.run p2 pins s σ H _ I h) ?_) h1 h2))
  rintro us s1 ⟨vs, H1, I1, r1, a, b, xs, ys, ⟨rfl, sq⟩, sl, q⟩
  cases r1 with
  | cons r rr =>
    cases rr with
    | cons r' rr =>
      cases rr
      cases r
      cases r'
      obtain ⟨its, rv, tp, _⟩ := I1.tuple sq
      obtain ⟨jts, rw', lp, _⟩ := I1.list sl
      have la : a < s1.heap.objs.size := by
        obtain ⟨_, g, _⟩ := id (show s1.heap.IsTuple a its.toArray from tp)
        exact Heap.lt_size g
      have lb : b < s1.heap.objs.size := by
        obtain ⟨_, g, _⟩ := lp.isList
        exact Heap.lt_size g
      refine zip_begins2 (begins_tuple a its.toArray) (begins_list b jts.toArray) tp lp.isList fun hp z1 z2 z3 z4 z5 _ kp => wpAny_pyIter_zip z1 ?_
      have fr : ∀ p ∈ [s1.heap.objs.size + 4, s1.heap.objs.size + 2, s1.heap.objs.size + 3, s1.heap.objs.size, s1.heap.objs.size + 1], FpOk X pins H1 p := fun p hp => by
        have le : s1.heap.objs.size ≤ p := by
          simp only [List.mem_cons, List.not_mem_nil, or_false] at hp
          omega
        exact I1.fpOk le (I1.hok.fresh le)
      have ap : Apt (s1.heap.objs.size + 4) (s1.heap.objs.size + 2) (s1.heap.objs.size + 3) s1.heap.objs.size (s1.heap.objs.size + 1) a b := by
        refine ⟨by simp, ?_, ?_⟩
        · simp only [List.mem_cons, List.not_mem_nil, or_false]
          rintro (z | z | z | z | z) <;> (rw [z] at la; exact absurd la (Nat.not_lt_of_le (by first | exact Nat.le_add_right _ _ | exact Nat.le_refl _)))
        · simp only [List.mem_cons, List.not_mem_nil, or_false]
          rintro (z | z | z | z | z) <;> (rw [z] at lb; exact absurd lb (Nat.not_lt_of_le (by first | exact Nat.le_add_right _ _ | exact Nat.le_refl _)))
      exact ⟨_, [s1.heap.objs.size + 4, s1.heap.objs.size + 2, s1.heap.objs.size + 3, s1.heap.objs.size, s1.heap.objs.size + 1], _, _, H1, rfl, I1.kept (t' := s1.toks) kp, turn_zipM ap, ⟨⟨z1, z2⟩, ⟨_, _, z3⟩, ⟨_, z4, rfl, rfl⟩, ⟨_, z5, rfl, rfl⟩⟩, fr, q⟩
theorem walk_zipM {K : PySem.W.Frag} {a b : Addr} {xs ys : List V} : Walk (ItM K a b) (min xs.length ys.length) (fun H => SqT K H a xs ∧ SqL K H b ys) (YPair (fun i => xs[i]?) (fun i => ys[i]?)) where
  goes := fun i H hi sq => ⟨xs, ys, xs[i]'(by omega), ys[i]'(by omega), ⟨sq.1, List.getElem?_eq_getElem (by omega)⟩, sq.2, List.getElem?_eq_getElem (by omega)⟩
  stops := fun H sq => ⟨xs, ys, sq.1, sq.2, rfl⟩
  yields := fun i H v H2 hi sq ⟨N, x, y, e, f, u, k1, k2⟩ => ⟨N, x, y, e, f, u, k1 xs sq.1, k2 ys sq.2⟩
section
variable {K : PySem.W.Frag} {te ta tb tc tl : TE} {tt : TT} {tA : TA} {ds : List SD} {ms : List MD} {R : RS} {t u : TS} {P : Po}
theorem s_forM {g : TG} {js : List Nat} (h : EA K tA ds ms fun as ms0 => ∃ (s2 : SD) (es fs : List PyData), as = [.d (.tuple es), s2] ∧ Sw s2 fs ∧ ∃ Pv : Nat → List SD → List MD → Prop, Pv 0 ds ms0 ∧
      (∀ i e f ds1 ms1, es[i]? = some e → fs[i]? = some f → Pv i ds1 ms1 → EG K g js (.d (.tuple [e, f])) ds1 ms1 fun ds2 ms2 => S K t ds2 ms2 { P with nx := Pv (i + 1), ct := Pv (i + 1), bk := P.nx }) ∧ ∀ ds1 ms1, Pv (min es.length fs.length) ds1 ms1 → P.nx ds1 ms1) :
    S K (tFor (iZipM K tA) g t) ds ms P := fun L M σ H hS hA D n r b c =>
  h L M σ H hS hA _ fun as vs H1 ms0 w a1 o ⟨s2, es, fs, ea, sw2, Pv, h0, hs, hd⟩ => by
    subst ea
    obtain ⟨v1, t1, rfl, hv1, v2, t2, rfl, hv2, rfl⟩ := o
    have hv1' : Rp M H1 v1 (.tuple es) := hv1
    cases hv1' with
    | @tup a xs _ na ea rx =>
    obtain ⟨b', ys, rfl, ry, hy⟩ := sw2.is a1 hv2
    have hx : ∀ H', Wk L H1 H' → SqT K H' a xs := fun H' w' => SqT.of (w' a _ (fun z => na (a1.sub a z)) ea)
    refine ⟨a, b', xs, ys, ⟨rfl, hx H1 (Wk.refl L H1)⟩, hy H1 (Wk.refl L H1), for_it walk_zipM (fun i σ' H' => ∃ ds' ms', Wk L H1 H' ∧ Sl K L M σ' H' ds' ∧ At L M ms' H' ∧ Pv i ds' ms') ⟨ds, ms0, Wk.refl L H1, hS.mono hA w, a1, h0⟩ (fun i σ' H' _ ⟨_, _, w', _⟩ => ⟨hx H' w', hy H' w'⟩) (fun i x σ' H' H2 hi ⟨ds', ms', w', s', a', p'⟩ y => ?_) (fun σ' H' ⟨ds', ms', w', s', a', p'⟩ => ?_)⟩
    · obtain ⟨N, x1, y1, rfl, hN, rfl, q1, q2⟩ := y
      obtain ⟨e, e1, e2⟩ := rx.get' q1
      obtain ⟨f, f1, f2⟩ := ry.get' q2
      have w2 : Wk L H' (upd H' N (.tup [x1, y1])) := Wk.new hN
      have a2 := a'.new (o := .tup [x1, y1]) hN
      have w3 := w'.trans w2
      refine hs i e f ds' ms' e1 f1 p' L M σ' _ (.ref N) (s'.mono a' w2) a2 (Rp.tup (a'.fresh hN) upd_same (.cons (Rp.to (a1.wk w3) _ _ e2) (.cons (Rp.to (a1.wk w3) _ _ f2) .nil))) _ fun σ2 ds2 s2 _ h2 => ?_
      exact h2 L M σ2 _ s2 a2 _ (fun σ3 H3 ds3 ms3 w4 s3 a3 p3 => ⟨ds3, ms3, w3.trans w4, s3, a3, p3⟩) (r.on a2 (w.trans w3)) (n.on (w.trans w3)) (fun σ3 H3 ds3 ms3 w4 s3 a3 p3 => ⟨ds3, ms3, w3.trans w4, s3, a3, p3⟩)
    · rw [rx.length, ry.length] at p'
      exact n σ' H' ds' ms' (w.trans w') s' a' (hd ds' ms' p')
/-! ### sum(xs) of ints -/
theorem rc_sum {as : List SD} (h : ∃ (s : SD) (ns : List Int), as = [s] ∧ Sv ms s (.list (ns.map .int)) ∧ R (.d (.int ns.sum)) ms) : RC K (rSum K) as ms R := fun L M H vs hA ha Q q => by
  obtain ⟨s, ns, rfl, sv, r⟩ := h
  obtain ⟨v, t, rfl, hv, rfl⟩ := ha
  obtain ⟨p, xs, rfl, hq, hr⟩ := sv.lst hA hv
  rw [RpA.ints_inv hr] at hq
  exact ⟨p, ns, rfl, hq, q (.d (.int _)) _ H ms (Wk.refl L H) ⟨hA, .int _⟩ r⟩
end
end Hc

namespace Hc
open PySem PySem.Spec PyProof.Rows L2
/-! ### calls that change nothing, of things that may change elsewhere -/
mutual
def noL : PyData → Bool
  | .tuple ds => noLA ds
  | .list _ => false
  | .dict _ => false
  | _ => true
def noLA : List PyData → Bool
  | [] => true
  | d :: r => noL d && noLA r
end
section
variable {K : PySem.W.Frag} {L M : List Addr} {ms : List MD} {H H' : Hp}
mutual
theorem rp_back (a : At L M ms H) : ∀ (d : PyData) (v : V), noL d = true → Rp [] H v d → Rp M H v d
  | .none, _, _, h => by cases h; exact .non
  | .bool b, _, _, h => by cases h; exact .bl b
  | .int i, _, _, h => by cases h; exact .int i
  | .str x, _, _, h => by cases h; exact .str x
  | .list ds, _, n, _ => by simp [noL] at n
  | .dict ds, _, n, _ => by simp [noL] at n
  | .tuple ds, _, n, h => by
    cases h with
    | tup na e r =>
      refine .tup (fun z => ?_) e (rpa_back a ds _ (by simpa [noL] using n) r)
      obtain ⟨o, eo, no⟩ := a.al _ z
      rw [e] at eo
      cases eo
      exact no
theorem rpa_back (a : At L M ms H) : ∀ (ds : List PyData) (vs : List V), noLA ds = true → RpA [] H vs ds → RpA M H vs ds
  | [], _, _, h => by cases h; exact .nil
  | d :: ds, _, n, h => by
    cases h with
    | cons x y =>
      have n' : noL d = true ∧ noLA ds = true := by simpa [noLA, Bool.and_eq_true] using n
      exact .cons (rp_back a d _ n'.1 x) (rpa_back a ds _ n'.2 y)
end
theorem to_nil : To M [] H H := fun a o n e => ⟨by simp, e⟩
theorem At.all (a : At L M ms H) (w : Wk [] H H') : At L M ms H' :=
  ⟨a.nd, a.sub, fun p hp => by
    obtain ⟨o, e, no⟩ := a.al p hp
    exact ⟨o, w p o (by simp) e, no⟩, a.ln, fun k p m e1 e2 => (a.ok k p m e1 e2).to (fun b o n e => ⟨n, w b o (by simp) e⟩) (by
    obtain ⟨o, e, _⟩ := a.al p (a.sub p (List.mem_of_getElem? e1))
    rw [e]
    exact w p o (by simp) e)⟩
inductive Svs (ms : List MD) : List SD → List PyData → Prop
  | nil : Svs ms [] []
  | d {x : PyData} {as : List SD} {xs : List PyData} : Svs ms as xs → Svs ms (.d x :: as) (x :: xs)
  | m {k : Nat} {es : List PyData} {as : List SD} {xs : List PyData} : ms[k]? = some (.l es) → Svs ms as xs → Svs ms (.m k :: as) (.list es :: xs)
theorem Svs.go (a : At L M ms H) : ∀ {as : List SD} {xs : List PyData} {vs : List V}, Svs ms as xs → SlsOk K L M H as vs → SlsOk K [] [] H (xs.map .d) vs
  | _, _, _, .nil, h => h
  | _, _, _, .d s, ⟨v, t, e, x, y⟩ => ⟨v, t, e, Rp.to to_nil _ _ x, Svs.go a s y⟩
  | _, _, _, .m hk s, ⟨v, t, e, x, y⟩ => by
    obtain ⟨p, rfl, hp, hls⟩ := x
    obtain ⟨zs, e1, r⟩ := a.get hp hk
    exact ⟨_, t, e, .lst (by simp) e1 (RpA.to to_nil _ _ r), Svs.go a s y⟩
variable {te ta tb tc tl : TE} {tt : TT} {tA : TA} {ds : List SD} {R : RS} {P : Po}
theorem e_callP {Φ : Ph} (h : EA K tA ds ms fun as ms1 => ∃ xs, Svs ms1 as xs ∧ Φ (xs.map .d) [] fun s _ => ∃ x, s = .d x ∧ noL x = true ∧ R (.d x) ms1) : E K (tCall (SpD K Φ) [] E0 tA) ds ms R := fun L M σ H hS hA Q q =>
  h L M σ H hS hA _ fun as vs H1 ms1 w1 a1 o1 ⟨xs, sv, hp⟩ => by
    rw [List.append_nil]
    refine ⟨[], [], [], xs.map .d, _, at_nil, sv.go a1 o1, hp, fun s v H3 ms3 w3 o3 ⟨x, e, nl, r⟩ => ?_⟩
    subst e
    have a3 := a1.all w3
    exact q (.d x) v H3 ms1 (w1.trans (.of fun b o e => w3 b o (by simp) e)) ⟨a3, rp_back a3 x v nl o3.2⟩ r
theorem e_callXP {C : Addr} {Φ : PhX} (h : EA K tA ds ms fun as ms1 => ∃ xs, Svs ms1 as xs ∧ Φ (xs.map .d) [] (fun s _ => ∃ x, s = .d x ∧ noL x = true ∧ R (.d x) ms1) fun _ => False) : E K (tCall (SpX K C Φ) [] E0 tA) ds ms R := fun L M σ H hS hA Q q =>
  h L M σ H hS hA _ fun as vs H1 ms1 w1 a1 o1 ⟨xs, sv, hp⟩ => by
    rw [List.append_nil]
    refine ⟨[], [], [], xs.map .d, _, fun _ => False, at_nil, sv.go a1 o1, hp, fun s v H3 ms3 w3 o3 ⟨x, e, nl, r⟩ => ?_, fun _ _ _ _ z => z.elim⟩
    subst e
    have a3 := a1.all w3
    exact q (.d x) v H3 ms1 (w1.trans (.of fun b o e => w3 b o (by simp) e)) ⟨a3, rp_back a3 x v nl o3.2⟩ r
/-! ### more built-ins -/
theorem rc_maxL {as : List SD} (h : ∃ (s : SD) (ns : List Int), as = [s] ∧ Sv ms s (.list (ns.map .int)) ∧ 0 < ns.length ∧ ∀ m : Int, m ∈ ns → (∀ y ∈ ns, y ≤ m) → R (.d (.int m)) ms) : RC K (rMax K) as ms R := fun L M H vs hA ha Q q => by
  obtain ⟨s, ns, rfl, sv, hl, r⟩ := h
  obtain ⟨v, t, rfl, hv, rfl⟩ := ha
  obtain ⟨p, xs, rfl, hq, hr⟩ := sv.lst hA hv
  rw [RpA.ints_inv hr] at hq
  exact ⟨p, ns, rfl, hq, hl, fun m h1 h2 => q (.d (.int m)) _ H ms (Wk.refl L H) ⟨hA, .int m⟩ (r m h1 h2)⟩
theorem e_index (h : E K ta ds ms fun s ms1 => ∃ ns : List Int, Sv ms1 (dd s) (.list (ns.map .int)) ∧ E K te ds ms1 fun x ms2 => ∃ (k : Int) (j : Nat), x = .d (.int k) ∧ ms2 = ms1 ∧ ns[j]? = some k ∧ (∀ (i : Nat) (z : Int), i < j → ns[i]? = some z → z ≠ k) ∧ R (.d (.int (j : Nat))) ms2) : E K (tBM K "list" (rIndex K) ta (tCons te tNil)) ds ms R := fun L M σ H hS hA Q q =>
  h L M σ H hS hA _ fun s v H1 ms1 w o ⟨ns, sv, h2⟩ => by
    have a1 := o.at
    have os := o.sl
    obtain ⟨p, xs, rfl, hq, hr⟩ := sv.lst a1 os
    refine ⟨.inl ⟨rfl, xs, hq⟩, ?_⟩
    refine h2 L M σ H1 (hS.mono hA w) a1 _ fun x y H2 ms2 w2 o2 ⟨k, j, ex, em, hj, hb, r⟩ => ?_
    subst ex em
    obtain ⟨a2, z⟩ := o2
    cases z
    obtain ⟨p2, xs2, ep, hq2, hr2⟩ := sv.lst a2 (os.mono a1 w2)
    cases ep
    rw [RpA.ints_inv hr2] at hq2
    refine ⟨p, _, .int k, j, .int k, rfl, rfl, hq2, rfl, flat_ints ns, by rw [List.getElem?_map, hj]; rfl, ?_, fun i z hi hz => ?_, q (.d (.int _)) _ H2 _ (w.trans w2) ⟨a2, .int _⟩ r⟩
    · show (k == k) = true
      simp
    · rw [List.getElem?_map] at hz
      cases e : ns[i]? with
      | none => rw [e] at hz; cases hz
      | some u =>
        rw [e] at hz
        cases hz
        show (u == k) = false
        have := hb i u hi e
        simp [this]
abbrev rInt1 : List V → Hp → VK → Prop := fun xs H Q => (∃ i, xs = [.int i] ∧ Q (.int i) H) ∨ ∃ k, xs = [.bl k] ∧ Q (.int (if k then 1 else 0)) H
theorem rc_intB {as : List SD} (h : ∃ b : Bool, as = [.d (.bool b)] ∧ R (.d (.int (if b then 1 else 0))) ms) : RC K rInt1 as ms R := fun L M H vs hA ha Q q => by
  obtain ⟨b, rfl, r⟩ := h
  obtain ⟨v, t, rfl, hv, rfl⟩ := ha
  cases hv
  exact .inr ⟨b, rfl, q (.d (.int _)) _ H ms (Wk.refl L H) ⟨hA, .int _⟩ r⟩
abbrev rShrI : R2 := rI (fun _ j => 0 ≤ j) fun i j => .int (i / 2 ^ j.toNat)
def isNn : PyData → Bool
  | .none => true
  | _ => false
theorem rp_non {M : List Addr} {H : Hp} {v : V} {x : PyData} (h : Rp M H v x) : decide (v = .non) = isNn x := by
  cases h <;> rfl
theorem rr_notN {a b : SD} (h : ∃ x, a = .d x ∧ b = .d .none ∧ R (.d (.bool (!isNn x))) ms) : RR K rNotNn a b ms R := fun L M H u v hA ha hb Q q => by
  obtain ⟨x, rfl, rfl, r⟩ := h
  cases hb
  refine ⟨rfl, ?_⟩
  rw [rp_non ha]
  exact q (.d (.bool _)) _ H ms (Wk.refl L H) ⟨hA, .bl _⟩ r
theorem rr_isN {a b : SD} (h : ∃ x, a = .d x ∧ b = .d .none ∧ R (.d (.bool (isNn x))) ms) : RR K rIsNn a b ms R := fun L M H u v hA ha hb Q q => by
  obtain ⟨x, rfl, rfl, r⟩ := h
  cases hb
  refine ⟨rfl, ?_⟩
  rw [rp_non ha]
  exact q (.d (.bool _)) _ H ms (Wk.refl L H) ⟨hA, .bl _⟩ r
end
end Hc

namespace Hc
open PySem PySem.Spec PyProof.Rows L2
/-! ### dicts that may change, with ints and texts as keys -/
def kD (m : List (Key × PyData)) : List (PyData × PyData) := m.map fun p => (keyD p.1, p.2)
def valD (m : List (Key × PyData)) (k : Key) : Option PyData := (m.find? fun kv => decide (kv.1 = k)).map (·.2)
def putD (m : List (Key × PyData)) (k : Key) (d : PyData) : List (Key × PyData) :=
  if (m.any fun kv => decide (kv.1 = k)) = true then m.map (fun kv => if kv.1 = k then (kv.1, d) else kv) else m ++ [(k, d)]
theorem keyD_inj {a b : Key} (h : keyD a = keyD b) : a = b := by
  cases a <;> cases b <;> cases h <;> rfl
section
variable {K : PySem.W.Frag} {L M : List Addr} {ms : List MD} {H H' : Hp}
/-- the keys are the same, the values lie in the heap -/
inductive Rk (M : List Addr) (H : Hp) : List (Key × V) → List (Key × PyData) → Prop
  | nil : Rk M H [] []
  | cons {k : Key} {v : V} {d : PyData} {kvs : List (Key × V)} {m : List (Key × PyData)} : Rp M H v d → Rk M H kvs m → Rk M H ((k, v) :: kvs) ((k, d) :: m)
theorem rk_of : ∀ {m : List (Key × PyData)} {kvs : List (Key × V)}, RpK M H kvs (kD m) → Rk M H kvs m
  | [], _, h => by cases h; exact .nil
  | (k, d) :: m, _, h => by
    have h' : RpK M H _ ((keyD k, d) :: kD m) := h
    generalize e : (keyD k, d) = x at h'
    cases h' with
    | @cons k2 v2 kvs2 d2 ds2 a b =>
      injection e with e1 e2
      have := keyD_inj e1
      subst this e2
      exact .cons a (rk_of b)
theorem Rk.to : ∀ {m : List (Key × PyData)} {kvs : List (Key × V)}, Rk M H kvs m → RpK M H kvs (kD m)
  | _, _, .nil => .nil
  | _, _, .cons a b => .cons a (Rk.to b)
theorem Rk.length : ∀ {m : List (Key × PyData)} {kvs : List (Key × V)}, Rk M H kvs m → kvs.length = m.length
  | _, _, .nil => rfl
  | _, _, .cons a b => by simp [Rk.length b]
theorem Rk.get' : ∀ {m : List (Key × PyData)} {kvs : List (Key × V)} {i : Nat} {k : Key} {v : V}, Rk M H kvs m → kvs[i]? = some (k, v) → ∃ d, m[i]? = some (k, d) ∧ Rp M H v d
  | _, _, _, _, _, .nil, e => by simp at e
  | _, _, 0, _, _, .cons a _, e => by simp at e; obtain ⟨rfl, rfl⟩ := e; exact ⟨_, rfl, a⟩
  | _, _, i + 1, k, v, .cons _ b, e => by
    obtain ⟨d, h1, h2⟩ := Rk.get' (i := i) (k := k) (v := v) b (by simpa using e)
    exact ⟨d, by simpa using h1, h2⟩
theorem Rk.val (k : Key) : ∀ {m : List (Key × PyData)} {kvs : List (Key × V)}, Rk M H kvs m → (valD m k = none → valV kvs k = none) ∧ ∀ d, valD m k = some d → ∃ v, valV kvs k = some v ∧ Rp M H v d
  | _, _, .nil => ⟨fun _ => rfl, fun d e => by cases e⟩
  | (k1, d1) :: m, (_, v1) :: kvs, .cons a b => by
    by_cases e : k1 = k
    · refine ⟨fun h => ?_, fun d h => ?_⟩
      · simp [valD, e] at h
      · simp [valD, e] at h
        subst h
        exact ⟨v1, valV_pos e, a⟩
    · obtain ⟨h1, h2⟩ := Rk.val k b
      have e1 : valD ((k1, d1) :: m) k = valD m k := by simp [valD, List.find?_cons, e]
      rw [e1, valV_neg e]
      exact ⟨h1, h2⟩
theorem Rk.any (k : Key) : ∀ {m : List (Key × PyData)} {kvs : List (Key × V)}, Rk M H kvs m → (kvs.any fun kv => decide (kv.1 = k)) = (m.any fun kv => decide (kv.1 = k))
  | _, _, .nil => rfl
  | _, _, .cons _ b => by simp [Rk.any k b]
theorem Rk.mapP (k : Key) {v : V} {d : PyData} (r : Rp M H v d) : ∀ {m : List (Key × PyData)} {kvs : List (Key × V)}, Rk M H kvs m → Rk M H (kvs.map (fun kv => if kv.1 = k then (kv.1, v) else kv)) (m.map (fun kv => if kv.1 = k then (kv.1, d) else kv))
  | _, _, .nil => .nil
  | (k1, d1) :: m, (_, v1) :: kvs, .cons a b => by
    rw [List.map_cons, List.map_cons]
    by_cases e : k1 = k
    · simp only [if_pos e]
      exact .cons r (Rk.mapP k r b)
    · simp only [if_neg e]
      exact .cons a (Rk.mapP k r b)
theorem Rk.snoc (k : Key) {v : V} {d : PyData} (r : Rp M H v d) : ∀ {m : List (Key × PyData)} {kvs : List (Key × V)}, Rk M H kvs m → Rk M H (kvs ++ [(k, v)]) (m ++ [(k, d)])
  | _, _, .nil => .cons r .nil
  | _, _, .cons a b => .cons a (Rk.snoc k r b)
theorem Rk.put (k : Key) {v : V} {d : PyData} {m : List (Key × PyData)} {kvs : List (Key × V)} (h : Rk M H kvs m) (r : Rp M H v d) : Rk M H (putK kvs k v) (putD m k d) := by
  unfold putK putD
  rw [h.any k]
  split
  · exact Rk.mapP k r h
  · exact Rk.snoc k r h
theorem Rp.key {v : V} {k : Key} (h : Rp M H v (keyD k)) : v = kV k := by
  cases k <;> cases h <;> rfl
theorem rp_key (k : Key) : Rp M H (kV k) (keyD k) := by
  cases k
  · exact .int _
  · exact .str _
/-- a slot's dict, as it may be read -/
inductive Dv (ms : List MD) : SD → List (Key × PyData) → Prop
  | d (m : List (Key × PyData)) : Dv ms (.d (.dict (kD m))) m
  | q {k : Nat} {m : List (Key × PyData)} : ms[k]? = some (.k (kD m)) → Dv ms (.q k) m
theorem Dv.go {s : SD} {m : List (Key × PyData)} {v : V} (h : Dv ms s m) (hA : At L M ms H) (o : SlOk K L M H s v) : ∃ a kvs, v = .ref a ∧ H a = some (.dK kvs) ∧ Rk M H kvs m := by
  cases h with
  | d =>
    have o' : Rp M H v (.dict (kD m)) := o
    cases o' with
    | dct n e r => exact ⟨_, _, rfl, e, rk_of r⟩
  | q e =>
    obtain ⟨p, rfl, hp, _⟩ := o
    obtain ⟨kvs, e1, r⟩ := hA.getK hp e
    exact ⟨p, kvs, rfl, e1, rk_of r⟩
variable {te ta tb tc tl td ty : TE} {tt : TT} {tA : TA} {ds : List SD} {R : RS} {t u : TS} {P : Po}
theorem e_varq {i k : Nat} (h : ds[i]? = some (.q k)) (r : R (.q k) ms) : E K (tVar i) ds ms R := fun L M σ H hS hA Q q => by
  obtain ⟨v, e, o⟩ := hS.get h (fun z => nomatch z)
  exact ⟨v, e, q _ v H ms (Wk.refl L H) (.of hA o) r⟩
theorem e_dget (h : E K td ds ms fun s ms1 => E K ty ds ms1 fun y ms2 => ∃ m k d, Dv ms2 (dd s) m ∧ dd y = .d (keyD k) ∧ valD m k = some d ∧ R (.d d) ms2) : E K (tDGet td ty) ds ms R := fun L M σ H hS hA Q q =>
  h L M σ H hS hA _ fun s x H1 ms1 w1 o1 h1 => h1 L M σ H1 (hS.mono hA w1) o1.at _ fun y z H2 ms2 w2 o2 ⟨m, k, d, dv, ey, hv, r⟩ => by
    obtain ⟨a, kvs, rfl, e, rk⟩ := dv.go o2.at (o1.sl.mono o1.at w2)
    have oz := o2.sl
    rw [ey] at oz
    obtain ⟨v, e1, e2⟩ := (rk.val k).2 d hv
    refine ⟨a, v, rfl, .inl ⟨kvs, k, .inl e, Rp.key oz, e1.symm⟩, q (.d d) v H2 ms2 (w1.trans w2) ⟨o2.at, e2⟩ r⟩
theorem dget_o {s : SD} {m : List (Key × PyData)} {a : Addr} {k : Key} {kvs : List (Key × V)} (e : H a = some (.dK kvs)) (rk : Rk M H kvs m) : ∃ o, DGet H a (kV k) o ∧ o.isSome = (valD m k).isSome := by
  refine ⟨valV kvs k, .inl ⟨kvs, k, .inl e, rfl, rfl⟩, ?_⟩
  cases q : valD m k with
  | none => rw [(rk.val k).1 q]; rfl
  | some d =>
    obtain ⟨v, e1, _⟩ := (rk.val k).2 d q
    rw [e1]; rfl
theorem e_din (h : E K ty ds ms fun y ms1 => E K td ds ms1 fun s ms2 => ∃ m k, Dv ms2 (dd s) m ∧ dd y = .d (keyD k) ∧ R (.d (.bool (valD m k).isSome)) ms2) : E K (tDIn ty td) ds ms R := fun L M σ H hS hA Q q =>
  h L M σ H hS hA _ fun y z H1 ms1 w1 o1 h1 => h1 L M σ H1 (hS.mono hA w1) o1.at _ fun s x H2 ms2 w2 o2 ⟨m, k, dv, ey, r⟩ => by
    obtain ⟨a, kvs, rfl, e, rk⟩ := dv.go o2.at o2.sl
    have oz := o1.sl.mono o1.at w2
    rw [ey] at oz
    obtain ⟨o, g, eo⟩ := dget_o (s := s) (k := k) e rk
    have ez : z = kV k := Rp.key oz
    subst ez
    refine ⟨a, o, rfl, g, ?_⟩
    rw [eo]
    exact q (.d (.bool _)) _ H2 ms2 (w1.trans w2) ⟨o2.at, .bl _⟩ r
theorem e_dnotin (h : E K ty ds ms fun y ms1 => E K td ds ms1 fun s ms2 => ∃ m k, Dv ms2 (dd s) m ∧ dd y = .d (keyD k) ∧ R (.d (.bool (!(valD m k).isSome))) ms2) : E K (tDNotIn ty td) ds ms R := fun L M σ H hS hA Q q =>
  h L M σ H hS hA _ fun y z H1 ms1 w1 o1 h1 => h1 L M σ H1 (hS.mono hA w1) o1.at _ fun s x H2 ms2 w2 o2 ⟨m, k, dv, ey, r⟩ => by
    obtain ⟨a, kvs, rfl, e, rk⟩ := dv.go o2.at o2.sl
    have oz := o1.sl.mono o1.at w2
    rw [ey] at oz
    obtain ⟨o, g, eo⟩ := dget_o (s := s) (k := k) e rk
    have ez : z = kV k := Rp.key oz
    subst ez
    refine ⟨a, o, rfl, g, ?_⟩
    rw [eo]
    exact q (.d (.bool _)) _ H2 ms2 (w1.trans w2) ⟨o2.at, .bl _⟩ r
/-! ### targets that are places in dicts -/
def EGh (K : PySem.W.Frag) (g : TG) (x : SD) (ds : List SD) (ms : List MD) (N : List MD → Prop) : Prop :=
  ∀ (L M : List Addr) (σ : L2.St) (H : Hp) (v : V), Sl K L M σ H ds → At L M ms H → SlOk K L M H x v → ∀ C : L2.St → Hp → Prop, (∀ H' ms', Wk L H H' → At L M ms' H' → N ms' → C σ H') → g v σ H C
def EGhs (K : PySem.W.Frag) (g : TGs) (xs : List PyData) (ds : List SD) (ms : List MD) (N : List MD → Prop) : Prop :=
  ∀ (L M : List Addr) (σ : L2.St) (H : Hp) (vs : List V), Sl K L M σ H ds → At L M ms H → RpA M H vs xs → ∀ C : L2.St → Hp → Prop, (∀ H' ms', Wk L H H' → At L M ms' H' → N ms' → C σ H') → g vs σ H C
theorem egh_set {to ti : TE} {d : PyData} {N : List MD → Prop} (h : E K to ds ms fun s ms1 => ∃ k, s = .q k ∧ E K ti ds ms1 fun y ms2 => ∃ (key : Key) (m : List (Key × PyData)), dd y = .d (keyD key) ∧ ms2[k]? = some (.k (kD m)) ∧ m.length < 10000 ∧ N (ms2.set k (.k (kD (putD m key d))))) :
    EGh K (gSub to ti rSetD) (.d d) ds ms N := fun L M σ H v hS hA ho C c =>
  h L M σ H hS hA _ fun s x H1 ms1 w1 o1 ⟨k, ek, h1⟩ => h1 L M σ H1 (hS.mono hA w1) o1.at _ fun y z H2 ms2 w2 o2 ⟨key, m, ey, em, hl, hn⟩ => by
    subst ek
    obtain ⟨a1, p, rfl, hp, _⟩ := o1
    have a2 := o2.at
    have oz := o2.sl
    rw [ey] at oz
    obtain ⟨kvs, e1, r1⟩ := a2.getK hp em
    have rk := rk_of r1
    have hpL : p ∈ L := List.mem_of_getElem? hp
    have rv : Rp M H2 v d := Rp.to (hA.wk (w1.trans w2)) _ _ ho
    refine ⟨p, _, rfl, .inl ⟨kvs, key, e1, Rp.key oz, by rw [rk.length]; exact Nat.lt_trans hl (by decide), rfl⟩, ?_⟩
    exact c _ _ ((w1.trans w2).trans (Wk.mut hpL e1)) (a2.putK hp e1 (rk.put key rv).to) hn
theorem eghs_nil {N : List MD → Prop} (h : N ms) : EGhs K gNil [] ds ms N := fun L M σ H vs hS hA hr C c => by
  cases hr
  exact ⟨rfl, c H ms (Wk.refl L H) hA h⟩
theorem eghs_cons {g : TG} {gs : TGs} {x : PyData} {xs : List PyData} {N : List MD → Prop} (h : EGh K g (.d x) ds ms fun ms1 => EGhs K gs xs ds ms1 N) : EGhs K (gCons g gs) (x :: xs) ds ms N := fun L M σ H vs hS hA hr C c => by
  cases hr with
  | @cons v r _ _ r1 r2 =>
    refine ⟨v, r, rfl, ?_⟩
    refine h L M σ H v hS hA r1 _ fun H1 ms1 w1 a1 h1 => ?_
    exact h1 L M σ H1 r (hS.mono hA w1) a1 (RpA.to (hA.wk w1) _ _ r2) C fun H2 ms2 w2 a2 h2 => c H2 ms2 (w1.trans w2) a2 h2
theorem egh_tup {gs : TGs} {n : Nat} {xs : List PyData} {N : List MD → Prop} (hn : xs.length = n) (h : EGhs K gs xs ds ms N) : EGh K (gTup K n gs) (.d (.tuple xs)) ds ms N := fun L M σ H v hS hA ho C c => by
  obtain ⟨a, ys, rfl, e, r⟩ := Sv.tup (ms := ms) (K := K) (L := L) (.d (.tuple xs)) ho
  exact ⟨a, ys, rfl, SqT.of e, by rw [r.length]; exact hn, h L M σ H ys hS hA r C c⟩
theorem s_asgH {g : TG} (h : E K te ds ms fun s ms1 => EGh K g (dd s) ds ms1 fun ms2 => P.nx ds ms2) : S K (tAsg te g) ds ms P := fun L M σ H hS hA D n r b c =>
  h L M σ H hS hA _ fun s v H1 ms1 w o h1 => h1 L M σ H1 v (hS.mono hA w) o.at o.sl _ fun H2 ms2 w2 a2 h2 => n σ H2 ds ms2 (w.trans w2) (hS.mono hA (w.trans w2)) a2 h2
/-! ### new dicts -/
theorem e_dnewG (r : R (.g []) ms) : E K tDNewK ds ms R := fun L M σ H hS hA Q q p hp => q (.g []) _ _ ms (Wk.new hp) (out_newK hA (Wk.refl L H) hp .nil) r
theorem At.hide {p : Addr} {o : HO} (h : At L M ms H) (e : H p = none) (no : NTup o) : At L (M ++ [p]) ms (upd H p o) := by
  have t : To M (M ++ [p]) H (upd H p o) := to_new h e (Wk.new e)
  refine ⟨h.nd, fun q hq => List.mem_append_left _ (h.sub q hq), fun q hq => ?_, h.ln, fun k q m e1 e2 => ?_⟩
  · by_cases z : q = p
    · subst z; rw [upd_same]; exact ⟨_, rfl, no⟩
    · rw [upd_ne z]
      rcases List.mem_append.mp hq with y | y
      · exact h.al q y
      · exact absurd (by simpa using y) z
  · exact (h.ok k q m e1 e2).to t (upd_ne fun z => h.freshL e (z ▸ List.mem_of_getElem? e1))
theorem At.show {p : Addr} (h : At L (M ++ [p]) ms H) (sb : ∀ q ∈ L, q ∈ M) : At L M ms H :=
  ⟨h.nd, sb, fun q hq => h.al q (List.mem_append_left _ hq), h.ln, fun k q m e1 e2 => (h.ok k q m e1 e2).to to_less rfl⟩
theorem mut_hid {p : Addr} {o o0 : HO} {h : At L (M ++ [p]) ms H} (np : p ∉ L) (e0 : H p = some o0) (no : NTup o) : At L (M ++ [p]) ms (upd H p o) := by
  have t : To (M ++ [p]) (M ++ [p]) H (upd H p o) := fun a u n e => ⟨n, by rw [upd_ne (fun z : a = p => n (by rw [z]; simp))]; exact e⟩
  refine ⟨h.nd, h.sub, fun q hq => ?_, h.ln, fun k q m e1 e2 => (h.ok k q m e1 e2).to t (upd_ne fun z => np (z ▸ List.mem_of_getElem? e1))⟩
  by_cases z : q = p
  · subst z; rw [upd_same]; exact ⟨_, rfl, no⟩
  · rw [upd_ne z]; exact h.al q hq
/-- {k: v} -/
theorem e_disp1 (h : E K ta ds ms fun x ms1 => ∃ k, x = .d (keyD k) ∧ E K tb ds ms1 fun y ms2 => ∃ d, dd y = .d d ∧ R (.g [(keyD k, d)]) ms2) : E K (tDisp [(ta, tb)]) ds ms R := fun L M σ H hS hA Q q p hp => by
  have np := hA.freshL hp
  have a0 := hA.hide (o := .dK []) hp trivial
  have w0 : Wk L H (upd H p (.dK [])) := Wk.new hp
  have s0 : Sl K L (M ++ [p]) σ (upd H p (.dK [])) ds := hS.to (to_new hA hp w0) w0.kd fun _ _ e => e
  refine h L (M ++ [p]) σ _ s0 a0 _ fun x v1 H1 ms1 w1 o1 ⟨k, ex, h1⟩ => ?_
  subst ex
  have a1 := o1.at
  refine h1 L (M ++ [p]) σ H1 (s0.mono a0 w1) a1 _ fun y v2 H2 ms2 w2 o2 ⟨d, ey, r⟩ => ?_
  have a2 := o2.at
  have r2 := o2.sl
  rw [ey] at r2
  have r1 : Rp (M ++ [p]) H1 v1 (keyD k) := o1.2
  have e1 := Rp.key r1
  subst e1
  have ep : H2 p = some (.dK []) := w2 p _ np (w1 p _ np upd_same)
  refine ⟨ep, [(k, v2)], rfl, Nat.le_of_ble_eq_true rfl, ?_⟩
  have em : mergeK [] [(k, v2)] = [(k, v2)] := rfl
  rw [em]
  have sb := hA.sub
  have a3 : At L (M ++ [p]) ms2 (upd H2 p (.dK [(k, v2)])) := mut_hid (h := a2) np ep trivial
  have w3 : Wk L H (upd H2 p (.dK [(k, v2)])) := Wk.over ((w0.trans w1).trans w2) hp
  have t3 : To (M ++ [p]) (M ++ [p]) H2 (upd H2 p (.dK [(k, v2)])) := fun a u n e => ⟨n, by rw [upd_ne (fun z : a = p => n (by rw [z]; simp))]; exact e⟩
  refine q (.g [(keyD k, d)]) _ _ ms2 w3 ⟨p, rfl, hp, hA.fresh hp, ?_, sb⟩ r
  refine ⟨List.nodup_append.mpr ⟨hA.nd, by simp, fun a ha b hb e => np (by simp at hb; subst hb e; exact ha)⟩, ?_, a3.al, by simp [a3.ln], fun j c m e1 e2 => ?_⟩
  · intro z hz
    rcases List.mem_append.mp hz with y | y
    · exact List.mem_append_left _ (sb z y)
    · exact List.mem_append_right _ y
  · by_cases hj : j < L.length
    · rw [List.getElem?_append_left hj] at e1
      rw [List.getElem?_append_left (by rw [← a3.ln]; exact hj)] at e2
      exact (a3.ok j c m e1 e2).toL (fun a o n e => ⟨n, e⟩) (fun k' q' _ z => by rw [List.getElem?_append_left (List.getElem?_eq_some_iff.mp z).1]; exact z) rfl
    · have hk2 : j = L.length := by
        have := (List.getElem?_eq_some_iff.mp e1).1
        simp at this
        omega
      subst hk2
      simp at e1
      subst e1
      rw [a3.ln] at e2
      simp at e2
      subst e2
      exact ⟨_, upd_same, .cons (Rp.to t3 _ _ r2) .nil⟩
/-! ### a new dict that may change, until the block's end -/
def frzSK (n : Nat) (es : List (PyData × PyData)) : SD → SD
  | .q k => if k = n then .d (.dict es) else .q k
  | s => s
def frzRK (n : Nat) (es : List (PyData × PyData)) : SD → SD
  | .q k => if k = n then .g es else .q k
  | s => s
def Po.frzK (P : Po) (n : Nat) : Po where
  nx := fun ds' ms' => ∃ ms1 es, ms' = ms1 ++ [.k es] ∧ ms1.length = n ∧ P.nx (ds'.map (frzSK n es)) ms1
  rt := fun s ms' => ∃ ms1 es, ms' = ms1 ++ [.k es] ∧ ms1.length = n ∧ P.rt (frzRK n es s) ms1
  bk := fun ds' ms' => ∃ ms1 es, ms' = ms1 ++ [.k es] ∧ ms1.length = n ∧ P.bk (ds'.map (frzSK n es)) ms1
  ct := fun ds' ms' => ∃ ms1 es, ms' = ms1 ++ [.k es] ∧ ms1.length = n ∧ P.ct (ds'.map (frzSK n es)) ms1
section
variable {p : Addr} {H0 H1 : Hp} {ms1 : List MD} {es : List (PyData × PyData)}
theorem SlOk.frzK {s : SD} {v : V} (a : At (L ++ [p]) (M ++ [p]) (ms1 ++ [.k es]) H) (np : p ∉ M) (h : SlOk K (L ++ [p]) (M ++ [p]) H s v) : SlOk K L M H (frzSK ms1.length es s) v := by
  have hl : L.length = ms1.length := by have := a.ln; simp at this; exact this
  cases s with
  | u => exact h
  | f _ => exact h
  | g _ => exact h
  | d x => exact Rp.to to_less _ _ h
  | v x => exact h
  | h φ =>
    obtain ⟨b, e, n, q⟩ := h
    exact ⟨b, e, fun z => n (List.mem_append_left _ z), q⟩
  | s ns =>
    obtain ⟨b, e, ⟨n, q⟩ | q⟩ := h
    · exact ⟨b, e, .inl ⟨fun z => n (List.mem_append_left _ z), q⟩⟩
    · exact ⟨b, e, .inr q⟩
  | m k =>
    obtain ⟨q, rfl, hq, kvs, hls⟩ := h
    have hk : k < L.length := by
      have h1 := (List.getElem?_eq_some_iff.mp hq).1
      rw [List.length_append] at h1
      have h2 : k ≠ L.length := fun z => by
        subst z
        simp at hq
        subst hq
        obtain ⟨xs, e1, _⟩ := a.lastK
        rw [hls] at e1
        cases e1
      have h3 : k < L.length + 1 := h1
      omega
    rw [List.getElem?_append_left hk] at hq
    exact ⟨q, rfl, hq, kvs, hls⟩
  | q k =>
    obtain ⟨q, rfl, hq, hls⟩ := h
    show SlOk K L M H (if k = ms1.length then .d (.dict es) else .q k) _
    by_cases hk : k = ms1.length
    · rw [if_pos hk]
      subst hk
      rw [← hl] at hq
      simp at hq
      subst hq
      obtain ⟨xs, e1, r⟩ := a.lastK
      exact .dct np e1 (r.toP to_less)
    · rw [if_neg hk]
      have : k < L.length := by
        have := (List.getElem?_eq_some_iff.mp hq).1
        simp at this
        omega
      rw [List.getElem?_append_left this] at hq
      exact ⟨q, rfl, hq, hls⟩
theorem Sl.frzK {σ : L2.St} (a : At (L ++ [p]) (M ++ [p]) (ms1 ++ [.k es]) H) (np : p ∉ M) (h : Sl K (L ++ [p]) (M ++ [p]) σ H ds) : Sl K L M σ H (ds.map (frzSK ms1.length es)) := fun i s e => by
  rw [List.getElem?_map] at e
  cases q : ds[i]? with
  | none => rw [q] at e; cases e
  | some s0 =>
    rw [q] at e
    have e' : frzSK ms1.length es s0 = s := Option.some.inj e
    by_cases hu : s0 = .u
    · subst hu
      subst e'
      exact h i .u q
    · obtain ⟨v, e1, e2⟩ := h.get q hu
      have z := e2.frzK a np
      rw [e'] at z
      cases s with
      | u => exact z.elim
      | f _ => exact z.elim
      | g _ => exact z.elim
      | d x => exact ⟨v, e1, z⟩
      | m k => exact ⟨v, e1, z⟩
      | q k => exact ⟨v, e1, z⟩
      | s ns => exact ⟨v, e1, z⟩
      | v x => exact ⟨v, e1, z⟩
      | h φ => exact ⟨v, e1, z⟩
theorem Out.frzK {v : V} {s : SD} (hp0 : H0 p = none) (a : At (L ++ [p]) (M ++ [p]) (ms1 ++ [.k es]) H) (w0 : ∀ q, q ∉ M → q ≠ p → H1 q = none → H0 q = none) (np : p ∉ M) (sb : ∀ x ∈ L, x ∈ M) (h : Out K (L ++ [p]) (M ++ [p]) H1 H (ms1 ++ [.k es]) v s) : Out K L M H0 H ms1 v (frzRK ms1.length es s) := by
  have ad := a.drop sb
  cases s with
  | u => exact h.2.elim
  | d x => exact ⟨ad, Rp.to to_less _ _ h.2⟩
  | s ns => exact ⟨ad, SlOk.frzK (s := .s ns) a np h.2⟩
  | v x => exact ⟨ad, h.2⟩
  | h φ => exact ⟨ad, SlOk.frzK (s := .h φ) a np h.2⟩
  | f fs =>
    obtain ⟨q, rfl, hq, nq, aq, _⟩ := h
    have nqM : q ∉ M := fun z => nq (List.mem_append_left _ z)
    have nqp : q ≠ p := fun z => nq (List.mem_append_right _ (by simp [z]))
    exact ⟨q, rfl, w0 q nqM nqp hq, nqM, At.dropMid rfl aq sb, sb⟩
  | g fs =>
    obtain ⟨q, rfl, hq, nq, aq, _⟩ := h
    have nqM : q ∉ M := fun z => nq (List.mem_append_left _ z)
    have nqp : q ≠ p := fun z => nq (List.mem_append_right _ (by simp [z]))
    exact ⟨q, rfl, w0 q nqM nqp hq, nqM, At.dropMid rfl aq sb, sb⟩
  | m k => exact ⟨ad, SlOk.frzK (s := .m k) a np h.2⟩
  | q k =>
    have hl : L.length = ms1.length := by have := a.ln; simp at this; exact this
    obtain ⟨_, q, rfl, hq, hls⟩ := h
    show Out K L M H0 H ms1 _ (if k = ms1.length then .g es else .q k)
    by_cases hk : k = ms1.length
    · rw [if_pos hk]
      subst hk
      rw [← hl] at hq
      simp at hq
      subst hq
      exact ⟨p, rfl, hp0, np, a, sb⟩
    · rw [if_neg hk]
      have : k < L.length := by
        have := (List.getElem?_eq_some_iff.mp hq).1
        simp at this
        omega
      rw [List.getElem?_append_left this] at hq
      exact ⟨ad, q, rfl, hq, hls⟩
end
theorem s_newD {i : Nat} (h : E K te ds ms fun s ms1 => ∃ es, s = .g es ∧ S K u (ds.set i (.q ms1.length)) (ms1 ++ [.k es]) (P.frzK ms1.length)) : S K (tSeq (tAsg te (gName i)) u) ds ms P := fun L M σ H hS hA D n r b c =>
  h L M σ H hS hA _ fun s v H1 ms1 w o ⟨es, e, h1⟩ => by
    subst e
    obtain ⟨p, rfl, hp, np, a1, sb⟩ := o
    have hl : L.length = ms1.length := by have := a1.ln; simp at this; exact this
    have npL : p ∉ L := fun z => np (hA.sub p z)
    have t : To M (M ++ [p]) H H1 := to_new hA hp w
    have hS1 : Sl K (L ++ [p]) (M ++ [p]) (σ.set i (some (.ref p))) H1 (ds.set i (.q ms1.length)) := by
      refine (hS.to t w.kd fun k q e => ?_).set i ⟨p, rfl, by rw [← hl]; simp, let ⟨xs, e, _⟩ := a1.lastK; ⟨_, e, .inl rfl⟩⟩
      rw [List.getElem?_append_left (List.getElem?_eq_some_iff.mp e).1]
      exact e
    have wk : ∀ {H2 : Hp}, Wk (L ++ [p]) H1 H2 → Wk L H H2 := fun {H2} w2 => ⟨fun x y nx ex => w2 x y (fun z => (List.mem_append.mp z).elim nx fun z => ne_of_none ex hp (by simpa using z)) (w x y nx ex), fun x y ex => by
      obtain ⟨o1, f1, k1⟩ := w.kd x y ex
      obtain ⟨o2, f2, k2⟩ := w2.kd x o1 f1
      exact ⟨o2, f2, k2.trans k1⟩⟩
    have go : ∀ {N : List SD → List MD → Prop} {C : L2.St → Hp → Prop}, Nx K L M H N C → Nx K (L ++ [p]) (M ++ [p]) H1 (fun ds' ms' => ∃ ms1' es, ms' = ms1' ++ [.k es] ∧ ms1'.length = ms1.length ∧ N (ds'.map (frzSK ms1.length es)) ms1') C := by
      intro N C nn σ2 H2 ds2 ms2 w2 s2 a2 ⟨ms3, es3, e3, l3, n3⟩
      subst e3
      rw [← l3] at n3
      exact nn σ2 H2 _ ms3 (wk w2) (s2.frzK a2 np) (a2.drop sb) n3
    refine h1 (L ++ [p]) (M ++ [p]) _ H1 hS1 a1 D (go n) ?_ (go b) (go c)
    intro s2 v2 H2 ms2 w2 o2 ⟨ms3, es3, e3, l3, n3⟩
    subst e3
    rw [← l3] at n3
    refine r _ v2 H2 ms3 (wk w2) ?_ n3
    refine Out.frzK hp o2.at (fun q hq hqp hq1 => ?_) np sb o2
    cases e : H q with
    | none => rfl
    | some oo => rw [w q oo (fun z => hq (hA.sub q z)) e] at hq1; cases hq1
/-- a, b, c = {}, {}, {} -/
theorem s_par3D {i j l : Nat} (h : S K (tSeq (tAsg tDNewK (gName i)) (tSeq (tAsg tDNewK (gName j)) (tSeq (tAsg tDNewK (gName l)) u))) ds ms P) : S K (tSeq (tPar3 i j l (tCons tDNewK (tCons tDNewK (tCons tDNewK tNil)))) u) ds ms P := fun L M σ H hS hA D n r b c p1 h1 p2 h2 p3 h3 =>
  ⟨_, _, _, rfl, h L M σ H hS hA D n r b c p1 h1 p2 h2 p3 h3⟩
/-! ### for k, v in (a new dict).items() -/
/-- a new dict, locked as soon as it is there -/
def tLkN (td : TE) : TE := fun σ H Q => td σ H fun x H1 => ∃ d kvs, x = .ref d ∧ H1 d = some (.dK kvs) ∧ ∀ o, Q x (upd H1 d (.frz o (.dK kvs)))
theorem pe_lkN {X : Cx} {e : Expr} (he : PE X e td) : PE X e (tLkN td) := ⟨fun pins s σ H Q I h => thn (he.run pins s σ H _ I h) fun u s1 hu => by
  obtain ⟨x, H1, I1, rx, d, kvs, ex, hd, q⟩ := hu
  obtain ⟨o, I0⟩ := I1.lock hd True.intro
  exact ⟨x, _, I0, rx, q o⟩⟩
theorem s_forD {g : TG} {js : List Nat} (h : E K tl ds ms fun s ms0 => ∃ m : List (Key × PyData), s = .g (kD m) ∧ ∃ Pv : Nat → List SD → List MD → Prop, Pv 0 ds ms0 ∧
      (∀ i k e ds1 ms1, m[i]? = some (k, e) → Pv i ds1 ms1 → EG K g js (.d (.tuple [keyD k, e])) ds1 ms1 fun ds2 ms2 => S K t ds2 ms2 ⟨Pv (i + 1), fun _ _ => False, P.nx, Pv (i + 1)⟩) ∧ ∀ ds1 ms1, Pv m.length ds1 ms1 → P.nx ds1 ms1) :
    S K (tFor (iItems (tLkN tl)) g t) ds ms P := fun L M σ H hS hA D n r b c =>
  h L M σ H hS hA _ fun s v H1 ms0 w o ⟨m, es, Pv, h0, hs, hd⟩ => by
    subst es
    obtain ⟨p, rfl, hp, np, a1, sb⟩ := o
    obtain ⟨kvs, e1, r1⟩ := a1.lastK
    have npL : p ∉ L := fun z => np (hA.sub p z)
    have rk := rk_of r1
    refine ⟨p, kvs, rfl, e1, fun o => ⟨p, o, kvs, rfl, upd_same, ?_⟩⟩
    have tH : To (M ++ [p]) (M ++ [p]) H1 (upd H1 p (.frz o (.dK kvs))) := fun a u n e => ⟨n, by rw [upd_ne (fun z : a = p => n (by rw [z]; simp))]; exact e⟩
    have ln0 : L.length = ms0.length := by have := a1.ln; simp at this; exact this
    have a2 : At L (M ++ [p]) ms0 (upd H1 p (.frz o (.dK kvs))) := by
      refine ⟨(List.nodup_append.mp a1.nd).1, fun q hq => List.mem_append_left _ (sb q hq), fun q hq => ?_, ln0, fun k q x f1 f2 => ?_⟩
      · by_cases z : q = p
        · subst z; rw [upd_same]; exact ⟨_, rfl, trivial⟩
        · rw [upd_ne z]; exact a1.al q hq
      · have hk : k < L.length := (List.getElem?_eq_some_iff.mp f1).1
        have hq : q ≠ p := fun z => npL (z ▸ List.mem_of_getElem? f1)
        exact (a1.ok k q x (by rw [List.getElem?_append_left hk]; exact f1) (by rw [List.getElem?_append_left (by omega)]; exact f2)).toL tH (fun k' q' hlt z => by rw [List.getElem?_append_left (by omega)] at z; exact z) (upd_ne hq)
    have w2 : Wk L H (upd H1 p (.frz o (.dK kvs))) := w.over hp
    have s2 : Sl K L (M ++ [p]) σ (upd H1 p (.frz o (.dK kvs))) ds := hS.to (to_new hA hp w2) w2.kd fun _ _ e => e
    have lk : ∀ {H' : Hp}, Wk L (upd H1 p (.frz o (.dK kvs))) H' → H' p = some (.frz o (.dK kvs)) := fun w' => w' p _ npL upd_same
    have out : ∀ {N : List SD → List MD → Prop} {C : L2.St → Hp → Prop}, Nx K L M H N C → ∀ {H' : Hp}, Wk L (upd H1 p (.frz o (.dK kvs))) H' → Nx K L (M ++ [p]) H' N C := fun nn H' w' σ3 H3 ds3 ms3 w3 s3 a3 p3 =>
      nn σ3 H3 ds3 ms3 ((w2.trans w').trans w3) (s3.to to_less (fun a o e => ⟨o, e, rfl⟩) fun _ _ e => e) (a3.show sb) p3
    refine for_it walk_items (fun i σ' H' => ∃ ds' ms', Wk L (upd H1 p (.frz o (.dK kvs))) H' ∧ Sl K L (M ++ [p]) σ' H' ds' ∧ At L (M ++ [p]) ms' H' ∧ Pv i ds' ms') ⟨ds, ms0, Wk.refl L _, s2, a2, h0⟩ (fun i σ' H' _ ⟨_, _, w', _⟩ => lk w') (fun i x σ' H' H2 hi ⟨ds', ms', w', s', a', p'⟩ y => ?_) (fun σ' H' ⟨ds', ms', w', s', a', p'⟩ => ?_)
    · obtain ⟨N, c1, y1, rfl, hN, rfl, q1, q2⟩ := y
      simp only [] at q1 q2
      cases qk : kvs[i]? with
      | none => rw [qk] at q1; cases q1
      | some kv =>
        obtain ⟨k, v⟩ := kv
        rw [qk] at q1 q2
        cases q1
        cases q2
        obtain ⟨e, f1, f2⟩ := rk.get' qk
        have w4 : Wk L H' (upd H' N (.tup [kV k, v])) := Wk.new hN
        have a4 := a'.new (o := .tup [kV k, v]) hN
        have w3 := w'.trans w4
        refine hs i k e ds' ms' f1 p' L (M ++ [p]) σ' _ (.ref N) (s'.mono a' w4) a4 (Rp.tup (a'.fresh hN) upd_same (.cons (rp_key k) (.cons (Rp.to (fun a o n e => ?_) _ _ f2) .nil))) _ fun σ2 ds2 s2 _ h2 => ?_
        · exact ⟨n, w3 a o (fun z => n (List.mem_append_left _ (sb a z))) (tH a o n e).2⟩
        · exact h2 L (M ++ [p]) σ2 _ s2 a4 _ (fun σ3 H3 ds3 ms3 w5 s3 a3 p3 => ⟨ds3, ms3, w3.trans w5, s3, a3, p3⟩) (fun _ _ _ _ _ _ z => z.elim) (out n w3) (fun σ3 H3 ds3 ms3 w5 s3 a3 p3 => ⟨ds3, ms3, w3.trans w5, s3, a3, p3⟩)
    · rw [rk.length] at p'
      exact out n w' σ' H' ds' ms' (Wk.refl L H') s' a' (hd ds' ms' p')
end
end Hc

namespace Hc
open PySem PySem.Spec PyProof.Rows L2
/-! ### min(xs, key=len), of a list of tuples -/
def Kp (h0 h : Heap) : Prop := ∀ b o, h0.get? b = some o → h.get? b = some o
abbrev lenV : Value := .builtin "len"
section
variable {prog : Program} {w : World} {A : Around} {E : Value → Shared → Prop} {s : Shared} {l I S : Addr} {vs : List Value} {R : Result → Shared → Prop} {Q : Value → Shared → Prop}
/-- the lengths of the tuples in vs -/
def Lens (h0 : Heap) (vs : List Value) (kf : Nat → Int) : Prop := ∀ (i : Nat) (v : Value), vs[i]? = some v → ∃ b its, v = .ref b ∧ IsTup h0 b its ∧ (its.size : Int) < 2 ^ 63 ∧ kf i = its.size
theorem len_at {kf : Nat → Int} {h : Heap} {tk i : Nat} {v : Value} (L : Lens s.heap vs kf) (hv : vs[i]? = some v) (kp : Kp s.heap h) (q : Q (.int (kf i) (tk + 1)) { s with heap := h, toks := tk + 1 + 1 }) :
    wpAny (model prog w) A (call lenV [v]) Q E { s with heap := h, toks := tk } := by
  obtain ⟨b, its, rfl, ht, hz, e⟩ := L i v hv
  refine PyProof.Rows.len_tuple (s := { s with heap := h, toks := tk }) (t := b) (items := its) ?_ hz (by rw [← e]; exact q)
  obtain ⟨o, ho, hc, hd⟩ := ht
  exact ⟨o, kp b o ho, hc, hd⟩
theorem kp_walk {h0 h h' : Heap} (kp : Kp h0 h) (hI : h0.objs.size ≤ I) (hk : ∀ b o, b ∉ [I] → h.get? b = some o → h'.get? b = some o) : Kp h0 h' := fun b o e => hk b o (fun z => by
  have := Heap.lt_size e
  have e2 : b = I := by simpa using z
  subst e2
  exact Nat.lt_irrefl _ (Nat.lt_of_lt_of_le this hI)) (kp b o e)
theorem kp_same {h0 h h' : Heap} (kp : Kp h0 h) (hS : h0.objs.size ≤ S) (sb : Heap.SameBut S h h') : Kp h0 h' := fun b o e => by
  have := Heap.lt_size e
  rw [sb.2 b (fun z => by subst z; exact Nat.lt_irrefl _ (Nat.lt_of_lt_of_le this hS))]
  exact kp b o e
theorem isList_kp {h0 h : Heap} (kp : Kp h0 h) (hl : h0.IsList l vs.toArray) : h.IsList l vs.toArray := by
  obtain ⟨o, ho, r⟩ := hl
  exact ⟨o, kp l o ho, r⟩
end
/-- min(e, key=len) -/
def tMinL (K : PySem.W.Frag) (ta : TA) : TE := fun σ H Q => ta σ H fun vs H1 => ∃ (a : Addr) (xs : List V), vs = [.ref a] ∧ SqL K H1 a xs ∧ 0 < xs.length ∧ (∀ v ∈ xs, ∃ b ys, v = .ref b ∧ SqT K H1 b ys) ∧ ∀ v ∈ xs, Q v H1
theorem lens_of {X : Cx} {pins : List (Addr × Obj)} {σ : L2.St} {H : Hp} {s : Shared} {xs : List V} {its : List Value} (I : Inv X pins σ H s) (rv : Vals xs its) (tu : ∀ v ∈ xs, ∃ b ys, v = .ref b ∧ SqT X.K H b ys) : ∃ kf, Lens s.heap its kf := by
  have : ∀ i : Nat, ∃ k : Int, ∀ v, its[i]? = some v → ∃ b tt, v = .ref b ∧ IsTup s.heap b tt ∧ (tt.size : Int) < 2 ^ 63 ∧ k = tt.size := fun i => by
    cases e : its[i]? with
    | none => exact ⟨0, fun v z => by cases z⟩
    | some u =>
      have hl := rv.length
      have hi := (List.getElem?_eq_some_iff.mp e).1
      obtain ⟨u2, h1, h2⟩ := rv.get (List.getElem?_eq_getElem (l := xs) (i := i) (by omega))
      rw [e] at h1
      cases h1
      obtain ⟨b, ys, eb, sq⟩ := tu _ (List.getElem_mem (l := xs) (n := i) (by omega))
      rw [eb] at h2
      cases h2
      obtain ⟨tt, r2, tp, z2⟩ := I.tuple sq
      refine ⟨(tt.toArray.size : Int), fun v z => ⟨b, tt.toArray, (Option.some.inj z).symm, tp, ?_, rfl⟩⟩
      have hn := line63
      have := r2.length
      simp only [List.size_toArray]
      omega
  obtain ⟨kf, hk⟩ := Classical.axiomOfChoice this
  exact ⟨kf, fun i v z => hk i v z⟩
/-- all that lies in a heap, apart from the ground and one namespace -/
def others (g : Heap) (L : Addr) (h : Heap) : List (Addr × Obj) := (List.range h.objs.size).filterMap fun b => if b = L ∨ (g.get? b).isSome = true then none else (h.get? b).map (Prod.mk b)
theorem others_mem {g h : Heap} {L b : Addr} {o : Obj} : (b, o) ∈ others g L h ↔ b ≠ L ∧ g.get? b = none ∧ h.get? b = some o := by
  unfold others
  rw [List.mem_filterMap]
  constructor
  · rintro ⟨c, _, e⟩
    by_cases z : c = L ∨ (g.get? c).isSome = true
    · rw [if_pos z] at e; cases e
    · rw [if_neg z] at e
      obtain ⟨o', e1, e2⟩ := Option.map_eq_some_iff.mp e
      cases e2
      exact ⟨fun y => z (.inl y), by simpa using fun y => z (.inr y), e1⟩
  · rintro ⟨n1, n2, e⟩
    refine ⟨b, List.mem_range.mpr (Heap.lt_size e), ?_⟩
    rw [if_neg (fun y => y.elim n1 fun y => by rw [n2] at y; cases y), e]
    rfl
theorem min_len {X : Cx} {pins : List (Addr × Obj)} {σ : L2.St} {H : Hp} {s : Shared} {l : Addr} {vs : List Value} {kf : Nat → Int} {Q E : Value → Shared → Prop} (I : Inv X pins σ H s) (hc : X.A.handled = none) (hl : s.heap.IsList l vs.toArray) (hne : 0 < vs.length) (hL : Lens s.heap vs kf)
    (hQ : ∀ (i : Nat) (v : Value) (h' : Heap) (tk' : Nat), vs[i]? = some v → Inv X pins σ H { s with heap := h', toks := tk' } → Q v { s with heap := h', toks := tk' }) :
    wpAny (model X.prog X.w) X.A (call (.builtin "min") [.ref l] [(Str.ofString "key", lenV)]) Q E s := by
  obtain ⟨m, F⟩ := I.fr
  have fL := F.ns
  obtain ⟨oL, esL, epL, gL, dL, skL, fdL⟩ := id fL
  have all : ∀ (h : Heap) (own : List (Addr × Obj)), Fr X.base X.env.locals h m → News X.base X.env.locals h (others X.base X.env.locals s.heap ++ own) → ∀ b o, b ≠ X.env.locals → s.heap.get? b = some o → h.get? b = some o := fun h own f n b o nb e => by
    cases q : X.base.get? b with
    | none => exact (n (b, o) (List.mem_append_left _ (others_mem.mpr ⟨nb, q, e⟩))).1
    | some o' =>
      have e2 := I.bk b o' q
      rw [e] at e2
      cases e2
      exact f.keep b o q
  have notL : ∀ b o, s.heap.get? b = some o → (∃ xs n, o.data = .seq xs n) → b ≠ X.env.locals := fun b o e ⟨xs, n, d⟩ z => by
    subst z
    rw [gL] at e
    cases e
    rw [dL] at d
    cases d
  refine kmb_min (L := X.env.locals) (news := others X.base X.env.locals s.heap) kf hc F (fun p hp => ?_) (fun h f n => ?_) hne (fun i v hv h tk own f n => ?_) (fun i v h' tk' hv _ f n => hQ i v h' tk' hv ?_)
  · obtain ⟨z1, z2, z3⟩ := others_mem.mp (show (p.1, p.2) ∈ _ from hp)
    exact ⟨z3, z1, z2⟩
  · obtain ⟨o, e, c, d⟩ := hl
    exact ⟨o, all h [] f (by rw [List.append_nil]; exact n) l o (notL l o e ⟨_, d⟩) e, c, d⟩
  · obtain ⟨b, its, rfl, ⟨o, e, c, d⟩, hz, ek⟩ := hL i v hv
    refine PyProof.Rows.len_tuple (s := { s with heap := h, toks := tk }) (t := b) (items := its) ⟨o, all h own f n b o (notL b o e ⟨_, d⟩) e, c, d⟩ hz ?_
    rw [← ek]
    exact ⟨h, _, _, rfl, rfl, f, n⟩
  · have al := all h' [] f (by rw [List.append_nil]; exact n)
    have nL : ∀ b u, H b = some u → b ≠ X.env.locals := fun b u e z => by
      rw [z, I.free] at e
      cases e
    have there : ∀ b o, s.heap.get? b = some o → ∃ o', h'.get? b = some o' := fun b o e => by
      by_cases z : b = X.env.locals
      · obtain ⟨o', _, _, e', _⟩ := f.ns
        exact ⟨o', by rw [z]; exact e'⟩
      · exact ⟨o, al b o z e⟩
    refine I.step (ch := []) (g' := s.gens) (d' := s.drawn) (fun _ z => by cases z) (fun b o nb _ _ e _ => al b o nb e) (fun b o nb _ _ e _ => ⟨o.slots, al b o nb e⟩) (fun _ _ _ _ z => z) (fun b o _ e => there b o e) (fun _ _ z => z) (fun _ _ _ z => z) (fun b ps e => ⟨#[], by simpa using e⟩) (fun m' hm => ?_) (fun b u e => ?_) I.bare
    · have em : m' = m := funext fun x => by
        obtain ⟨o1, es1, ep1, g1, d1, _, f1⟩ := hm
        rw [gL] at g1
        cases g1
        rw [dL] at d1
        cases d1
        rw [← f1, fdL]
      rw [em]
      exact f.ns
    · refine (I.hok b u e).stay (fun c v hcv q => al c v ?_ q) (fun _ z => z) (fun _ _ z => z)
      rcases hcv with z | z
      · rw [z]; exact nL b u e
      · exact nL c _ z
theorem pe_minL {X : Cx} {ex : Expr} {ta : TA} {p pos kpos np : Pos} (hc : X.calm = true) (hg : Gl X "min") (hm : X.mg "min" = none) (hg2 : Gl X "len") (hm2 : X.mg "len" = none) (ha : PA X [ex] ta)
    (he : backTo pos (starEach [ex] X.env) = (false, eval ex X.env) :: backTo pos (starEach [] X.env) := by rfl) (hpl : (backTo pos (starEach [ex] X.env)).any (·.1) = false := by rfl) :
    PE X (.Call (.Name "min" p) [ex] [⟨some "key", .Name "len" np, kpos⟩] pos) (tMinL X.K ta) := by
  refine ⟨fun pins s σ H Q I h => ?_⟩
  refine wpAny_Call_Name_kw (ld_blt I hg hm (u := .builtin "min") (by decide +kernel) ?_)
  refine PyProof.Rows.callWith_kw (thn (ha.run pos pins s σ H _ I h) fun us s1 ⟨vs, H1, I1, r1, a, xs, ev, sq, hne, tu, q⟩ => ?_) he hpl
  subst ev
  obtain rfl := Vals.ref1 r1
  show wpAny _ _ (evalAll ((do let v ← eval (.Name "len" np) X.env; standAt pos; pure v) :: [])) _ _ s1
  refine wpAny_evalAll_cons (wpAny_bind (ld_blt I1 hg2 hm2 (u := .builtin "len") (by decide +kernel) (wpAny_bind (wpAny_standAt (wpAny_pure ?_)))))
  refine wpAny_evalAll_nil ?_
  show wpAny _ _ (call (.builtin "min") [.ref a] [(Str.ofString "key", lenV)]) _ _ s1
  obtain ⟨its, rv, pl, hz⟩ := I1.list sq
  obtain ⟨kf, hL⟩ := lens_of I1 rv tu
  have hl := rv.length
  refine min_len I1 (I1.ok.hd hc) pl.isList (by omega) hL fun i v h' tk' hv I2 => ?_
  have hi := (List.getElem?_eq_some_iff.mp hv).1
  have hx : xs[i]? = some (xs[i]'(by omega)) := List.getElem?_eq_getElem (by omega)
  obtain ⟨v2, e2, r2⟩ := rv.get hx
  rw [hv] at e2
  cases e2
  exact ⟨_, H1, I2, r2, q _ (List.getElem_mem (by omega))⟩
section
variable {K : PySem.W.Frag} {ms : List MD} {tA : TA} {ds : List SD} {R : RS}
theorem e_minL (h : EA K tA ds ms fun as ms1 => ∃ es : List PyData, (∃ s, as = [s] ∧ Sv ms1 s (.list es)) ∧ 0 < es.length ∧ (∀ e ∈ es, ∃ ys, e = .tuple ys) ∧ ∀ e ∈ es, R (.d e) ms1) : E K (tMinL K tA) ds ms R := fun L M σ H hS hA Q q =>
  h L M σ H hS hA _ fun as vs H1 ms1 w a1 o ⟨es, ⟨s, ea, sv⟩, hne, tu, r⟩ => by
    subst ea
    obtain ⟨v, t, rfl, hv, rfl⟩ := o
    obtain ⟨p, xs, rfl, hq, hr⟩ := sv.lst a1 hv
    have hl := hr.length
    refine ⟨p, xs, rfl, hq, by omega, fun v hv => ?_, fun v hv => ?_⟩
    · obtain ⟨i, hi, e⟩ := List.getElem_of_mem hv
      obtain ⟨d, h1, h2⟩ := hr.get' (List.getElem?_eq_getElem hi)
      rw [e] at h2
      obtain ⟨ys, rfl⟩ := tu d (List.mem_of_getElem? h1)
      cases h2 with
      | tup n e1 r => exact ⟨_, _, rfl, SqT.of e1⟩
    · obtain ⟨i, hi, e⟩ := List.getElem_of_mem hv
      obtain ⟨d, h1, h2⟩ := hr.get' (List.getElem?_eq_getElem hi)
      rw [e] at h2
      exact q (.d d) v H1 ms1 w ⟨a1, h2⟩ (r d (List.mem_of_getElem? h1))
end
section
variable {K : PySem.W.Frag} {ms : List MD} {te : TE} {ds : List SD} {P : Po}
theorem u1 {k : Nat} {A : Around} (h : Room k A) : A.units + 1 < cLine := by
  have := h.un
  omega
/-- x += e, of ints -/
theorem s_augI {i : Nat} {f : Int → Int → Int} {a : Int} (hi : ds[i]? = some (.d (.int a))) (h : E K te ds ms fun s ms1 => ∃ b, s = .d (.int b) ∧ P.nx (ds.set i (.d (.int (f a b)))) ms1) : S K (tAug i te (ipI f)) ds ms P := fun L M σ H hS hA D n r b c => by
  obtain ⟨v, e, o⟩ := hS.get hi (fun z => nomatch z)
  have o' : Rp M H v (.int a) := o
  cases o'
  refine ⟨_, e, h L M σ H hS hA _ fun s v H1 ms1 w o1 ⟨bb, es, h1⟩ => ?_⟩
  subst es
  obtain ⟨a1, z⟩ := o1
  cases z
  exact ⟨a, bb, rfl, rfl, n _ H1 _ ms1 w ((hS.mono hA w).set i (s := .d (.int (f a bb))) (Rp.int _)) a1 h1⟩
/-- d.setdefault(k, e) -/
theorem e_dsetd {td ty tx : TE} {R : RS} (h : E K td ds ms fun s ms1 => ∃ q, s = .q q ∧ E K ty ds ms1 fun y ms2 => ∃ k, y = .d (keyD k) ∧ E K tx ds ms2 fun z ms3 => ∃ d m, dd z = .d d ∧ ms3[q]? = some (.k (kD m)) ∧ m.length < 10000 ∧
      (∀ v, valD m k = some v → R (.d v) ms3) ∧ (valD m k = none → R (.d d) (ms3.set q (.k (kD (putD m k d)))))) : E K (tDSetd td ty tx) ds ms R := fun L M σ H hS hA Q q =>
  h L M σ H hS hA _ fun s x H1 ms1 w1 o1 ⟨j, es, h1⟩ => by
    subst es
    obtain ⟨a1, p, rfl, hp, e0⟩ := o1
    have e0 : IsD H1 p := by
      obtain ⟨o, e, k⟩ := e0
      cases o <;> first | exact .inl ⟨_, .inl e⟩ | exact .inr ⟨_, .inl e⟩ | (rcases k with k | k <;> cases k; done) | (rename_i b; cases b <;> first | exact .inl ⟨_, .inr ⟨_, e⟩⟩ | exact .inr ⟨_, .inr ⟨_, e⟩⟩ | (rcases k with k | k <;> cases k))
    refine ⟨p, rfl, e0, h1 L M σ H1 (hS.mono hA w1) a1 _ fun y v2 H2 ms2 w2 o2 ⟨k, ey, h2⟩ => ?_⟩
    subst ey
    obtain ⟨a2, z2⟩ := o2
    refine h2 L M σ H2 ((hS.mono hA w1).mono a1 w2) a2 _ fun z v3 H3 ms3 w3 o3 ⟨d, m, ez, em, hl, f1, f2⟩ => ?_
    have a3 := o3.at
    have r3 := o3.sl
    rw [ez] at r3
    obtain ⟨kvs, e1, rp⟩ := a3.getK hp em
    have rk := rk_of rp
    have hpL : p ∈ L := List.mem_of_getElem? hp
    have w123 := (w1.trans w2).trans w3
    refine ⟨kvs, k, e1, Rp.key z2, by rw [rk.length]; exact Nat.lt_trans hl (by decide), fun v hv => ?_, fun hn => ?_⟩
    · cases qd : valD m k with
      | none => rw [(rk.val k).1 qd] at hv; cases hv
      | some d' =>
        obtain ⟨v', g1, g2⟩ := (rk.val k).2 d' qd
        rw [g1] at hv
        cases hv
        exact q (.d d') _ H3 ms3 w123 ⟨a3, g2⟩ (f1 d' qd)
    · have hd : valD m k = none := by
        cases qd : valD m k with
        | none => rfl
        | some d' =>
          obtain ⟨v', g1, g2⟩ := (rk.val k).2 d' qd
          rw [g1] at hn
          cases hn
      exact q (.d d) v3 _ _ (w123.trans (Wk.mut hpL e1)) ⟨a3.putK hp e1 (rk.put k r3).to, Rp.to (a3.wk (Wk.mut hpL e1)) _ _ r3⟩ (f2 hd)
/-- t + u of tuples, either may be empty -/
theorem rr_catA {R : RS} {a b : SD} (h : ∃ es fs, a = .d (.tuple es) ∧ b = .d (.tuple fs) ∧ es.length + fs.length ≤ 10000 ∧ R (.d (.tuple (es ++ fs))) ms) : RR K (rCatA K) a b ms R := fun L M H x y hA ha hb Q q => by
  obtain ⟨es, fs, rfl, rfl, hz, r⟩ := h
  have ha2 : Rp M H x (.tuple es) := ha
  have hb2 : Rp M H y (.tuple fs) := hb
  cases ha2 with
  | @tup p xs _ np ep rp =>
    cases hb2 with
    | @tup p2 ys _ np2 ep2 rp2 =>
      refine ⟨p, p2, xs, ys, rfl, rfl, SqT.of ep, SqT.of ep2, by rw [rp.length, rp2.length]; exact Nat.le_trans hz (by decide), fun z => ?_, fun _ z => ?_, fun _ z l hl => ?_⟩
      · subst z
        cases rp
        exact q (.d (.tuple fs)) _ H ms (Wk.refl L H) ⟨hA, hb⟩ r
      · subst z
        cases rp2
        rw [List.append_nil] at r
        exact q (.d (.tuple es)) _ H ms (Wk.refl L H) ⟨hA, ha⟩ r
      · exact q (.d (.tuple (es ++ fs))) _ _ ms (Wk.new hl) ⟨hA.new hl, .tup (hA.fresh hl) upd_same (RpA.to (hA.wk (Wk.new hl)) _ _ (rp.append rp2))⟩ r
end
end Hc

namespace Hc
open PySem PySem.Spec PyProof.Rows L2
/-! ### zip(t, u, v) of three tuples -/
def It3 (K : PySem.W.Frag) (a b e : Addr) : It where
  go := fun i H => ∃ (xs ys zs : List V) (x y z : V), (SqT K H a xs ∧ xs[i]? = some x) ∧ (SqT K H b ys ∧ ys[i]? = some y) ∧ SqT K H e zs ∧ zs[i]? = some z
  yld := fun i H v H2 => ∃ (N : Addr) (x y z : V), v = .ref N ∧ H N = none ∧ H2 = upd H N (.tup [x, y, z]) ∧ (∀ xs : List V, SqT K H a xs → xs[i]? = some x) ∧ (∀ ys : List V, SqT K H b ys → ys[i]? = some y) ∧ ∀ zs : List V, SqT K H e zs → zs[i]? = some z
  stop := fun i H => ∃ (xs ys zs : List V), SqT K H a xs ∧ SqT K H b ys ∧ SqT K H e zs ∧ i = min (min xs.length ys.length) zs.length
structure Apt3 (z t o c d f a b e : Addr) : Prop where
  sep : PySem.ZipSep3 z t o c d f [c, a] [d, b] [f, e]
  ac : a ≠ c
  bd : b ≠ d
  ef : e ≠ f
theorem turn_zip3 {P : Program} {w : World} {K : PySem.W.Frag} {es : List Expr} {n : Nat} {q : Pos} {a b e z t o c d f : Addr} (hap : Apt3 z t o c d f a b e) :
    Turn P w K (.Tuple es n q) (It3 K a b e) [z, t, o, c, d, f] z (fun i h => (IsZip h z t o .none ∧ PySem.IsTupOf3 h t (.ref c) (.ref d) (.ref f)) ∧ (∃ u v x, PySem.IsTupOf3 h o u v x) ∧ h.IsTupleIter c a i ∧ h.IsTupleIter d b i ∧ h.IsTupleIter f e i) where
  mem := List.mem_cons_self ..
  obj := fun i h tn p hp => by
    obtain ⟨⟨h1, h2⟩, ⟨u, v, x, h3⟩, ⟨o4, g4, _, d4⟩, ⟨o5, g5, _, d5⟩, o6, g6, _, d6⟩ := tn
    simp only [List.mem_cons, List.not_mem_nil, or_false] at hp
    rcases hp with rfl | rfl | rfl | rfl | rfl | rfl
    · exact ⟨_, h1, nofun⟩
    · exact ⟨_, h2, nofun⟩
    · exact ⟨_, h3, nofun⟩
    · exact ⟨o4, g4, fun v y => by rw [d4] at y; cases y⟩
    · exact ⟨o5, g5, fun v y => by rw [d5] at y; cases y⟩
    · exact ⟨o6, g6, fun v y => by rw [d6] at y; cases y⟩
  keep := fun i h h2 tn k => by
    obtain ⟨⟨h1, h2⟩, ⟨u, v, x, h3⟩, h4, h5, h6⟩ := tn
    exact ⟨⟨k z (by simp) _ h1, k t (by simp) _ h2⟩, ⟨u, v, x, k o (by simp) _ h3⟩, h4.at fun p y => k c (by simp) p y, h5.at fun p y => k d (by simp) p y, h6.at fun p y => k f (by simp) p y⟩
  item := by
    intro X e1 e2 e3 cm i pins s σ H Ex I fp tn gg
    subst e1 e2 e3
    obtain ⟨⟨h1, h2⟩, ⟨u0, v0, w0, h3⟩, h4, h5, h6⟩ := tn
    obtain ⟨xs, ys, zs, x, y, z', ⟨sx, hx⟩, ⟨sy, hy⟩, sz, hz⟩ := gg
    obtain ⟨its, rv, tp, _⟩ := I.tuple sx
    obtain ⟨jts, rw', tp2, _⟩ := I.tuple sy
    obtain ⟨kts, rz', tp3, _⟩ := I.tuple sz
    obtain ⟨u, hu, ru⟩ := rv.get hx
    obtain ⟨v, hv, rv2⟩ := rw'.get hy
    obtain ⟨v3, hv3, rv3⟩ := rz'.get hz
    have sep := hap.sep
    have zl := Heap.lt_size h1
    have lt1 : i < its.toArray.size := by
      have := (List.getElem?_eq_some_iff.mp hu).1
      simpa using this
    have lt2 : i < jts.toArray.size := by
      have := (List.getElem?_eq_some_iff.mp hv).1
      simpa using this
    have lt3 : i < kts.toArray.size := by
      have := (List.getElem?_eq_some_iff.mp hv3).1
      simpa using this
    have hnd : X.A.in1.handled = none := I.ok.hd cm
    refine PySem.wpAny_pyNext_zipD3_item sep (Draws.tuple hnd c a hap.ac its.toArray) (Draws.tuple hnd d b hap.bd jts.toArray) (Draws.tuple hnd f e hap.ef kts.toArray) h1 h2 h3 ⟨h4, tp⟩ ⟨h5, tp2⟩ ⟨h6, tp3⟩ lt1 lt2 lt3 fun x1 x2 x3 g tk p1 p2 p3 k1 k3 k4 k5 k6 hT _ kp => ?_
    have q1 : x1 = u := by
      have y1 : its.toArray[i]? = some x1 := p1
      rw [List.getElem?_toArray, hu] at y1
      exact (Option.some.inj y1).symm
    have q2 : x2 = v := by
      have y1 : jts.toArray[i]? = some x2 := p2
      rw [List.getElem?_toArray, hv] at y1
      exact (Option.some.inj y1).symm
    have q3 : x3 = v3 := by
      have y1 : kts.toArray[i]? = some x3 := p3
      rw [List.getElem?_toArray, hv3] at y1
      exact (Option.some.inj y1).symm
    subst q1 q2 q3
    refine ⟨_, rfl, wpAny_letOwnedTupleGo_zip (s := { s with heap := g, toks := tk }) k1 fun g3 z3 sb => ?_⟩
    have hT3 : g3.get? s.heap.objs.size = some { cls := .type "tuple", data := .seq #[x1, x2, x3] } := (sb.2 _ (Nat.ne_of_gt zl)).trans hT
    have ok : ObjOk X.prog X.w (upd H s.heap.objs.size (.tup [x, y, z'])) g3 s.heap.objs.size (.tup [x, y, z']) :=
      ⟨Nat.le_of_ble_eq_true rfl, [x1, x2, x3], .cons ru (.cons rv2 (.cons rv3 .nil)), ⟨_, hT3, rfl, _, rfl⟩⟩
    have I3 : L2.Inv X pins σ (upd H s.heap.objs.size (.tup [x, y, z'])) { s with heap := g3, toks := tk } :=
      I.turnedNew (ch := [z, t, o, c, d, f]) (fun p ob np y => by
        simp only [List.mem_cons, List.not_mem_nil, or_false, not_or] at np
        obtain ⟨n1, n2, n3, n4, n5, n6⟩ := np
        exact (sb.2 p n1).trans (kp p ob n1 n3 n4 n5 n6 y)) fp (Nat.le_refl _) ok
    refine ⟨.ref s.heap.objs.size, _, I3, rfl, ⟨_, x, y, z', rfl, I.hok.fresh (Nat.le_refl _), rfl, fun l hl => by rw [I.tuple_inj hl sx]; exact hx, fun l hl => by rw [I.tuple_inj hl sy]; exact hy, fun l hl => by rw [I.tuple_inj hl sz]; exact hz⟩, ⟨⟨z3, ?_⟩, ⟨x1, x2, x3, ?_⟩, ?_, ?_, ?_⟩, fun p hp => ?_⟩
    · exact (sb.2 _ sep.TIz).trans (kp _ _ sep.TIz sep.TITO sep.TIi1 sep.TIi2 sep.TIi3 h2)
    · exact (sb.2 _ sep.TOz).trans k3
    · exact k4.1.at fun ob y => (sb.2 _ (Ne.symm sep.zi1)).trans y
    · exact k5.1.at fun ob y => (sb.2 _ (Ne.symm sep.zi2)).trans y
    · exact k6.1.at fun ob y => (sb.2 _ (Ne.symm sep.zi3)).trans y
    · have lb : p < s.heap.objs.size := by
        simp only [List.mem_cons, List.not_mem_nil, or_false] at hp
        rcases hp with rfl | rfl | rfl | rfl | rfl | rfl
        · exact zl
        · exact Heap.lt_size h2
        · exact Heap.lt_size h3
        · obtain ⟨_, g4, _⟩ := h4
          exact Heap.lt_size g4
        · obtain ⟨_, g5, _⟩ := h5
          exact Heap.lt_size g5
        · obtain ⟨_, g6, _⟩ := h6
          exact Heap.lt_size g6
      rw [upd_ne (Nat.ne_of_lt lb)]
      exact (fp p hp).1
  done := by
    intro X e1 e2 e3 cm i pins s σ H Ex I fp tn gg
    subst e1 e2 e3
    obtain ⟨⟨h1, h2⟩, ⟨u0, v0, w0, h3⟩, h4, h5, h6⟩ := tn
    obtain ⟨xs, ys, zs, sx, sy, sz, hi⟩ := gg
    obtain ⟨its, rv, tp, _⟩ := I.tuple sx
    obtain ⟨jts, rw', tp2, _⟩ := I.tuple sy
    obtain ⟨kts, rz', tp3, _⟩ := I.tuple sz
    have l1 := rv.length
    have l2 := rw'.length
    have l3 := rz'.length
    have hnd : X.A.in1.handled = none := I.ok.hd cm
    refine PySem.wpAny_pyNext_zipD3_end hap.sep (Draws.tuple hnd c a hap.ac its.toArray) (Draws.tuple hnd d b hap.bd jts.toArray) (Draws.tuple hnd f e hap.ef kts.toArray) h1 h2 h3 ⟨h4, tp⟩ ⟨h5, tp2⟩ ⟨h6, tp3⟩ (by simp; omega) (by simp; omega) (by simp; omega) (by simp; omega) fun g tk kp => ⟨rfl, I.turnedL (ch := [z, t, o, c, d, f]) (fun p ob np y => ?_) fp⟩
    simp only [List.mem_cons, List.not_mem_nil, or_false, not_or] at np
    exact kp p ob np.1 np.2.2.1 np.2.2.2.1 np.2.2.2.2.1 np.2.2.2.2.2 y
  self := fun A i s Q Ex tn k => wpAny_pyIter_zip tn.1.1 k
def iZip3 (K : PySem.W.Frag) (ta : TA) : TI := fun σ H R => ta σ H fun vs H1 => ∃ (a b e : Addr) (xs ys zs : List V), vs = [.ref a, .ref b, .ref e] ∧ SqT K H1 a xs ∧ SqT K H1 b ys ∧ SqT K H1 e zs ∧ R (It3 K a b e) H1
theorem pi_zip3 {X : Cx} {ex ey ez : Expr} {ta : TA} {p1 p2 p3 : Pos} {es : List Expr} {n : Nat} (hg : Gl X "zip") (hm : X.mg "zip" = none) (ha : PA X [ex, ey, ez] ta)
    (h1 : starEach [ex, ey, ez] X.env = (false, eval ex X.env) :: starEach [ey, ez] X.env := by rfl) (h2 : (backTo p2 (starEach [ey, ez] X.env)).any (·.1) = false := by rfl) :
    PI X (.Tuple es n p3) (.Call (.Name "zip" p1) [ex, ey, ez] [] p2) (iZip3 X.K ta) := by
  constructor
  intro pins s σ H R I h
  refine Call_ (ld_blt I hg hm boot_zip (PyProof.Rows.callWith_type1 (thn (ha.run p2 pins s σ H _ I h) ?_) h1 h2))
  rintro us s1 ⟨vs, H1, I1, r1, a, b, e, xs, ys, zs, rfl, sx, sy, sz, q⟩
  cases r1 with
  | cons r rr =>
    cases rr with
    | cons r' rr =>
      cases rr with
      | cons r'' rr =>
        cases rr
        cases r
        cases r'
        cases r''
        obtain ⟨its, rv, tp, _⟩ := I1.tuple sx
        obtain ⟨jts, rw', tp2, _⟩ := I1.tuple sy
        obtain ⟨kts, rz', tp3, _⟩ := I1.tuple sz
        have la : a < s1.heap.objs.size := by
          obtain ⟨_, g, _⟩ := id (show s1.heap.IsTuple a its.toArray from tp)
          exact Heap.lt_size g
        have lb : b < s1.heap.objs.size := by
          obtain ⟨_, g, _⟩ := id (show s1.heap.IsTuple b jts.toArray from tp2)
          exact Heap.lt_size g
        have le : e < s1.heap.objs.size := by
          obtain ⟨_, g, _⟩ := id (show s1.heap.IsTuple e kts.toArray from tp3)
          exact Heap.lt_size g
        refine PySem.zip_begins3 (begins_tuple a its.toArray) (begins_tuple b jts.toArray) (begins_tuple e kts.toArray) tp tp2 tp3 fun hp z1 z2 z3 z4 z5 z6 _ kp => wpAny_pyIter_zip z1 ?_
        have fr : ∀ p ∈ [s1.heap.objs.size + 5, s1.heap.objs.size + 3, s1.heap.objs.size + 4, s1.heap.objs.size, s1.heap.objs.size + 1, s1.heap.objs.size + 2], FpOk X pins H1 p := fun p hp => by
          have le : s1.heap.objs.size ≤ p := by
            simp only [List.mem_cons, List.not_mem_nil, or_false] at hp
            omega
          exact I1.fpOk le (I1.hok.fresh le)
        have ap : Apt3 (s1.heap.objs.size + 5) (s1.heap.objs.size + 3) (s1.heap.objs.size + 4) s1.heap.objs.size (s1.heap.objs.size + 1) (s1.heap.objs.size + 2) a b e :=
          ⟨PySem.zip_sep3 (by simpa using la) (by simpa using lb) (by simpa using le), Nat.ne_of_lt la, Nat.ne_of_lt (Nat.lt_succ_of_lt lb), Nat.ne_of_lt (Nat.lt_succ_of_lt (Nat.lt_succ_of_lt le))⟩
        exact ⟨_, [s1.heap.objs.size + 5, s1.heap.objs.size + 3, s1.heap.objs.size + 4, s1.heap.objs.size, s1.heap.objs.size + 1, s1.heap.objs.size + 2], _, _, H1, rfl, I1.kept (t' := s1.toks) kp, turn_zip3 ap, ⟨⟨z1, z2⟩, ⟨_, _, _, z3⟩, ⟨_, z4, rfl, rfl⟩, ⟨_, z5, rfl, rfl⟩, ⟨_, z6, rfl, rfl⟩⟩, fr, q⟩
def YTrip (xs ys zs : List V) : Nat → Hp → V → Hp → Prop := fun i H v H' => ∃ (N : Addr) (x y z : V), v = .ref N ∧ H N = none ∧ H' = upd H N (.tup [x, y, z]) ∧ xs[i]? = some x ∧ ys[i]? = some y ∧ zs[i]? = some z
theorem walk_zip3 {K : PySem.W.Frag} {a b e : Addr} {xs ys zs : List V} : Walk (It3 K a b e) (min (min xs.length ys.length) zs.length) (fun H => SqT K H a xs ∧ SqT K H b ys ∧ SqT K H e zs) (YTrip xs ys zs) where
  goes := fun i H hi sq => ⟨xs, ys, zs, xs[i]'(by omega), ys[i]'(by omega), zs[i]'(by omega), ⟨sq.1, List.getElem?_eq_getElem (by omega)⟩, ⟨sq.2.1, List.getElem?_eq_getElem (by omega)⟩, sq.2.2, List.getElem?_eq_getElem (by omega)⟩
  stops := fun H sq => ⟨xs, ys, zs, sq.1, sq.2.1, sq.2.2, rfl⟩
  yields := fun i H v H2 hi sq ⟨N, x, y, z, e, f, u, k1, k2, k3⟩ => ⟨N, x, y, z, e, f, u, k1 xs sq.1, k2 ys sq.2.1, k3 zs sq.2.2⟩
section
variable {K : PySem.W.Frag} {tA : TA} {ds : List SD} {ms : List MD} {R : RS} {t u : TS} {P : Po}
theorem s_for3 {g : TG} {js : List Nat} (h : EA K tA ds ms fun as ms0 => ∃ (es fs gs : List PyData), as = [.d (.tuple es), .d (.tuple fs), .d (.tuple gs)] ∧ ∃ Pv : Nat → List SD → List MD → Prop, Pv 0 ds ms0 ∧
      (∀ i e f d ds1 ms1, es[i]? = some e → fs[i]? = some f → gs[i]? = some d → Pv i ds1 ms1 → EG K g js (.d (.tuple [e, f, d])) ds1 ms1 fun ds2 ms2 => S K t ds2 ms2 { P with nx := Pv (i + 1), ct := Pv (i + 1), bk := P.nx }) ∧ ∀ ds1 ms1, Pv (min (min es.length fs.length) gs.length) ds1 ms1 → P.nx ds1 ms1) :
    S K (tFor (iZip3 K tA) g t) ds ms P := fun L M σ H hS hA D n r b c =>
  h L M σ H hS hA _ fun as vs H1 ms0 w a1 o ⟨es, fs, gs, ea, Pv, h0, hs, hd⟩ => by
    subst ea
    obtain ⟨v1, t1, rfl, hv1, v2, t2, rfl, hv2, v3, t3, rfl, hv3, rfl⟩ := o
    have hv1' : Rp M H1 v1 (.tuple es) := hv1
    have hv2' : Rp M H1 v2 (.tuple fs) := hv2
    have hv3' : Rp M H1 v3 (.tuple gs) := hv3
    cases hv1' with
    | @tup a xs _ na ea rx =>
    cases hv2' with
    | @tup b' ys _ nb eb ry =>
    cases hv3' with
    | @tup c' zs _ nc ec rz =>
    have hx : ∀ {a : Addr} {xs : List V}, a ∉ M → H1 a = some (.tup xs) → ∀ H', Wk L H1 H' → SqT K H' a xs := fun na ea H' w' => SqT.of (w' _ _ (fun z => na (a1.sub _ z)) ea)
    refine ⟨a, b', c', xs, ys, zs, rfl, hx na ea H1 (Wk.refl L H1), hx nb eb H1 (Wk.refl L H1), hx nc ec H1 (Wk.refl L H1), for_it walk_zip3 (fun i σ' H' => ∃ ds' ms', Wk L H1 H' ∧ Sl K L M σ' H' ds' ∧ At L M ms' H' ∧ Pv i ds' ms') ⟨ds, ms0, Wk.refl L H1, hS.mono hA w, a1, h0⟩ (fun i σ' H' _ ⟨_, _, w', _⟩ => ⟨hx na ea H' w', hx nb eb H' w', hx nc ec H' w'⟩) (fun i x σ' H' H2 hi ⟨ds', ms', w', s', a', p'⟩ y => ?_) (fun σ' H' ⟨ds', ms', w', s', a', p'⟩ => ?_)⟩
    · obtain ⟨N, x1, y1, z1, rfl, hN, rfl, q1, q2, q3⟩ := y
      obtain ⟨e, e1, e2⟩ := rx.get' q1
      obtain ⟨f, f1, f2⟩ := ry.get' q2
      obtain ⟨d, d1, d2⟩ := rz.get' q3
      have w2 : Wk L H' (upd H' N (.tup [x1, y1, z1])) := Wk.new hN
      have a2 := a'.new (o := .tup [x1, y1, z1]) hN
      have w3 := w'.trans w2
      refine hs i e f d ds' ms' e1 f1 d1 p' L M σ' _ (.ref N) (s'.mono a' w2) a2 (Rp.tup (a'.fresh hN) upd_same (.cons (Rp.to (a1.wk w3) _ _ e2) (.cons (Rp.to (a1.wk w3) _ _ f2) (.cons (Rp.to (a1.wk w3) _ _ d2) .nil)))) _ fun σ2 ds2 s2 _ h2 => ?_
      exact h2 L M σ2 _ s2 a2 _ (fun σ3 H3 ds3 ms3 w4 s3 a3 p3 => ⟨ds3, ms3, w3.trans w4, s3, a3, p3⟩) (r.on a2 (w.trans w3)) (n.on (w.trans w3)) (fun σ3 H3 ds3 ms3 w4 s3 a3 p3 => ⟨ds3, ms3, w3.trans w4, s3, a3, p3⟩)
    · rw [rx.length, ry.length, rz.length] at p'
      exact n σ' H' ds' ms' (w.trans w') s' a' (hd ds' ms' p')
end
end Hc

namespace Hc
open PySem PySem.Spec PyProof.Rows L2
/-! ### t[::-1] of a tuple -/
theorem range_all {α : Type} : ∀ l : List α, (List.range l.length).filterMap (fun k => l[k]?) = l
  | [] => rfl
  | a :: r => by
    rw [List.length_cons, List.range_succ_eq_map, List.filterMap_cons, List.filterMap_map]
    show a :: _ = _
    congr 1
    exact range_all r
theorem back_all (us : List Value) : ((List.range us.length).filterMap fun (k : Nat) => us.toArray[((us.length : Int) - 1 + (k : Int) * (-1)).toNat]?).toArray = us.reverse.toArray := by
  congr 1
  have e : ∀ k ∈ List.range us.length, us.toArray[((us.length : Int) - 1 + (k : Int) * (-1)).toNat]? = us.reverse[k]? := fun k hk => by
    have hk := List.mem_range.mp hk
    rw [List.getElem?_toArray, List.getElem?_reverse hk]
    congr 1
    omega
  rw [fm_congr _ _ _ e]
  have := range_all us.reverse
  rwa [List.length_reverse] at this
section
variable {prog : Program} {w : World} {s : Shared} {A : Around} {E : Value → Shared → Prop}
theorem turned_marks {sl : Addr} {vl vu vc : Value} {n : Nat} {Q : Int × Int × Nat → Shared → Prop} (hs : s.heap.IsSliceOf sl vl vu vc) (pl : IsPart vl none) (pu : IsPart vu none) (pc : IsPart vc (some (-1))) (h : Q ((n : Int) - 1, -1, n) s) : wpAny (model prog w) A (Builtin.Slice.sliceApplied (.ref sl) (pure (n : Int))) Q E s := by
  obtain ⟨os, hos, _, hds⟩ := hs
  rw [Builtin.Slice.sliceApplied, Builtin.Slice.sliceFields]
  refine wpAny_bind (wpAny_bind (wpAny_field hos hds (x := vl) rfl (wpAny_bind (wpAny_field hos hds (x := vu) rfl (wpAny_bind (wpAny_field hos hds (x := vc) rfl (wpAny_pure (wpAny_bind (HT.slicePart_ pc ?_)))))))))
  show wpAny _ _ (if ((-1 : Int) == 0) = true then _ else _) _ _ s
  rw [if_neg (by decide)]
  refine wpAny_bind (HT.slicePart_ pl (wpAny_bind (HT.slicePart_ pu (wpAny_bind (wpAny_pure (wpAny_pure ?_))))))
  have e : Builtin.Slice.slicePlaces ((n : Int) - 1) (-1) (-1) = n := by
    unfold Builtin.Slice.slicePlaces
    rw [if_neg (by decide)]
    split
    · have : ((n : Int) - 1 - -1 - 1) / (-(-1)) + 1 = n := by rw [show (-(-1) : Int) = 1 by decide, Int.ediv_one]; omega
      rw [this]
      rfl
    · have : n = 0 := by omega
      subst this
      rfl
  show Q ((n : Int) - 1, -1, Builtin.Slice.slicePlaces ((n : Int) - 1) (-1) (-1)) s
  rw [e]
  exact h
theorem turned_part {t sl : Addr} {us : List Value} {vl vu vc : Value} {Q : Value → Shared → Prop} (ht : IsTup s.heap t us.toArray) (hs : s.heap.IsSliceOf sl vl vu vc) (pl : IsPart vl none) (pu : IsPart vu none) (pc : IsPart vc (some (-1))) (hz : us.length ≤ sizeLine)
    (h : Q (.ref s.heap.objs.size) { s with heap := s.heap.push { cls := .type "tuple", data := .seq us.reverse.toArray } }) : wpAny (model prog w) A (getItem (.ref t) (.ref sl)) Q E s := by
  obtain ⟨os, hos, hcs, hds⟩ := id hs
  have hT : s.TypeIs (.ref sl) "slice" := ⟨os, hos, hcs⟩
  refine wpAny_getItem_slot ht.typeIs (by decide) PyProof.Rows.slot_tuple_getitem (wpAny_call_entry PyProof.Rows.slot_tuple_getitem ht.typeIs entry_tuple_getitem ?_ (args_tuple_getitem _ _))
  change wpAny _ _ (Builtin.Tuple.tupleItemsOf (.ref t) >>= _) _ _ _
  refine wpAny_bind (tupleItemsOf_ ht (wpAny_bind (wpAny_typeOf hT ?_)))
  rw [if_pos (by decide)]
  refine wpAny_bind (turned_marks (n := us.length) hs pl pu pc ?_)
  have no : ¬ ((((us.length : Int) - 1) == 0 && (-1 : Int) == 1 && us.length == us.toArray.size) = true) := by simp
  show wpAny _ _ (if ((((us.length : Int) - 1) == 0 && (-1 : Int) == 1 && us.length == us.toArray.size) = true) then _ else _) _ _ s
  rw [if_neg no, back_all]
  have sz : sizeOk (.seq us.reverse.toArray) := by
    show us.reverse.toArray.size ≤ sizeLine
    simpa using hz
  first
    | exact wpAny_bind (m := Builtin.Tuple.tupleExact _) (wpAny_newObj_type (wpAny_pure ⟨_, rfl, wpAny_pure h⟩) sz)
    | exact wpAny_bind (m := Builtin.Tuple.tupleExact _) (wpAny_newObj_type (wpAny_pure h) sz)
    | exact wpAny_bind (wpAny_bind (m := Builtin.Tuple.tupleExact _) (wpAny_newObj_type (wpAny_pure (wpAny_pure ⟨_, rfl, h⟩)) sz))
    | exact wpAny_bind (wpAny_bind (m := Builtin.Tuple.tupleExact _) (wpAny_newObj_type (wpAny_pure (wpAny_pure h)) sz))
    | exact wpAny_bind (m := Builtin.Tuple.tupleExact _) (wpAny_newObj_type (wpAny_bind (wpAny_pure (wpAny_pure ⟨_, rfl, h⟩))) sz)
    | exact wpAny_bind (m := Builtin.Tuple.tupleExact _) (wpAny_newObj_type (wpAny_pure ⟨_, rfl, h⟩) sz)
/-! ### sorted(t) of a tuple of ints -/
theorem collect_tup {t : Addr} {vs : List Value} {Q : List Value → Shared → Prop} (ht : IsTup s.heap t vs.toArray) (hz : vs.length ≤ sizeLine)
    (h : ∀ h' : Heap, (∀ b o, s.heap.get? b = some o → h'.get? b = some o) → s.heap.objs.size ≤ h'.objs.size → Q vs { s with heap := h' }) : wpAny (model prog w) A (collect (.ref t)) Q E s := by
  obtain ⟨o, ho, hc, n, hd⟩ := ht
  have k1 : ∀ b u, s.heap.get? b = some u → (s.heap.push (seqObj "list" #[] 0)).get? b = some u := fun b u z => Heap.get?_push_of_some _ z
  have new : (s.heap.push (seqObj "list" #[] 0)).get? s.heap.objs.size = some (seqObj "list" #[] 0) := Heap.get?_push_size _ rfl
  unfold collect
  refine wpAny_bind (wpAny_runValue (codeAny_builtin PyProof.Rows.entry_proto_collect' ?_))
  show wpAny _ _ (newList [] >>= fun l => again (.builtin "list.__iadd__" ⟨[l, .ref t], []⟩)) _ _ s
  refine wpAny_bind (wpAny_newList (wpAny_pure ⟨Code.quiet_builtin _ (by decide +kernel), codeAny_builtin PyProof.Rows.entry_list_iadd' ?_⟩))
  show wpAny _ _ (Builtin.List.listExtendWith (.ref s.heap.objs.size) (.ref t) (.ref s.heap.objs.size)) _ _ { s with heap := s.heap.push (seqObj "list" #[] 0) }
  unfold Builtin.List.listExtendWith
  refine wpAny_bind (wpAny_typeOf (T := "tuple") ⟨o, k1 _ _ ho, hc⟩ ?_)
  rw [if_pos (by rw [show (Value.type "tuple" == Value.type "tuple") = true from rfl, Bool.or_true])]
  refine wpAny_bind (PyProof.Rows.listItems_at (k1 _ _ ho) hd (wpAny_bind (PyProof.Rows.listItems_at new rfl ?_)))
  rw [if_neg (by simp)]
  refine wpAny_bind (PyProof.Rows.listUpdate_at new rfl (wpAny_pure ?_) (Nat.zero_le _) (by simp; omega))
  refine wpAny_bind (wpAny_load (get?_update_seq new _) ?_)
  change wpAny _ _ (pure (#[] ++ vs.toArray).toList) _ _ _
  rw [Array.empty_append]
  refine wpAny_pure (h _ (fun b u z => ?_) ?_)
  · rw [Heap.get?_update_ne _ _ _ _ (Nat.ne_of_lt (Heap.lt_size z))]
    exact k1 b u z
  · rw [Heap.size_update, size_push']
    exact Nat.le_succ _
theorem sorted_of {x : Value} {vs : List Value} {ltv : Value → Value → Bool} {Q : Value → Shared → Prop} (O : SrtO.Swo ltv) (hz : vs.length ≤ sizeLine)
    (hcol : ∀ (E' : Value → Shared → Prop) (Q' : List Value → Shared → Prop), (∀ h' : Heap, (∀ b o, s.heap.get? b = some o → h'.get? b = some o) → s.heap.objs.size ≤ h'.objs.size → Q' vs { s with heap := h' }) → wpAny (model prog w) A.in1 (collect x) Q' E' s)
    (hS : 2 ≤ vs.length → ∀ (h₁ : Heap) (a : Addr), SrtO.SortableO prog w A.in1.in1 { s with heap := h₁ } a vs ltv)
    (h : ∀ (out : List Value) (h' : Heap) (p ep : Nat), SrtO.Srtd ltv out → SrtO.Stb ltv out vs → s.heap.objs.size ≤ p → (∀ b o, s.heap.get? b = some o → h'.get? b = some o) → h'.get? p = some (seqObj "list" out.toArray ep) → Q (.ref p) { s with heap := h' }) :
    wpAny (model prog w) A (call (.builtin "sorted") [x]) Q E s := by
  refine Calls.call_function_entry kind_sorted plain_sorted entry_sorted (args_sorted1 _) (show wpAny _ _ (Builtin.«sorted» _) _ _ _ from ?_)
  rw [Builtin.«sorted»]
  refine wpAny_bind (m := checkCount "sorted" 1 1 _) (wpAny_pure (wpAny_bind (hcol _ _ fun h1 k1 z1 => wpAny_bind (wpAny_newList ?_ hz))))
  have at1 : (h1.push (seqObj "list" vs.toArray 0)).get? h1.objs.size = some (seqObj "list" vs.toArray 0) := Heap.get?_push_size _ rfl
  refine wpAny_bind (wpAny_holding (wpAny_call_entry slot_list_sort ⟨_, at1, rfl⟩ entry_list_sort (SrtO.list_sort_ord O at1 hz (fun h2 => hS h2 _ _) fun out h2 h3 => ⟨_, rfl, wpAny_pure ⟨_, rfl, ?_⟩⟩) (args_list_sort _)))
  obtain ⟨ep, e2⟩ := PyProof.Rows.sortedHeap_at (vs := vs) (out := out.toArray) at1
  refine h out _ _ ep h2 h3 z1 (fun b u z => ?_) e2
  have lb := Heap.lt_size (k1 b u z)
  rw [PyProof.Rows.sortedHeap_old (Nat.ne_of_lt lb) (by rw [size_push']; exact Nat.lt_succ_of_lt lb)]
  exact Heap.get?_push_of_some _ (k1 b u z)
end
def rSortTI (K : PySem.W.Frag) : List V → Hp → VK → Prop := fun vs H Q => ∃ (a : Addr) (ns : List Int), vs = [V.ref a] ∧ SqT K H a (ns.map V.int) ∧ ∀ (ns' : List Int) (p : Addr), ns'.Perm ns → ns'.Pairwise (· ≤ ·) → H p = none → Q (.ref p) (upd H p (.lst (ns'.map V.int)))
theorem cr_sortTI {X : Cx} : CallR X (.builtin "sorted") (rSortTI X.K) := by
  rintro pins s σ H vs us Q I r ⟨a, ns, rfl, sq, q⟩
  obtain ⟨its, rv, tp, zl⟩ := I.tuple sq
  rw [Vals.ref1 r]
  have zl' : its.length ≤ sizeLine := by rw [← rv.length]; exact zl
  refine sorted_of SrtO.swo_int zl' (fun E' Q' k => collect_tup tp zl' k) (fun h2 h₁ a' => SrtO.ints_sortable rv.ints h2) fun out h' p ep o1 o2 hp kp e => ?_
  obtain ⟨k1, k2, k3⟩ := SrtO.ints_out rv.ints o1 o2
  have ln : ((out.map SrtO.iv).map V.int).length ≤ sizeLine := by
    have := k2.length_eq
    simp only [List.length_map] at this zl ⊢
    omega
  exact ⟨.ref p, _, I.laid (t' := s.toks) kp hp (show ObjOk X.prog X.w _ _ _ (.lst ((out.map SrtO.iv).map V.int)) from ⟨ln, out, ep, vals_of_ints k1, e⟩), rfl, q _ _ k2 k3 (I.hok.fresh hp)⟩
def tRevT (K : PySem.W.Frag) (te : TE) : TE := fun σ H Q => te σ H fun x H1 => ∃ a xs, x = .ref a ∧ SqT K H1 a xs ∧ ∀ p, H1 p = none → Q (.ref p) (upd H1 p (.tup xs.reverse))
theorem pe_revT {X : Cx} {e : Expr} {te : TE} {k : Nat} {p1 p2 p3 pos : Pos} (he : PE X e te) : PE X (.Subscript e (.Slice none none (some (.UnaryOp .USub (.Constant (.int 1) k p1) p2)) p3) pos) (tRevT X.K te) := by
  constructor
  intro pins s0 σ H0 Q I0 h0
  refine Subscript_ (thn (he.run pins s0 σ H0 _ I0 h0) ?_)
  rintro v s1 ⟨x, H1, I1, rx, a, xs, ex, sq, q⟩
  subst ex
  cases rx
  refine wpAny_Slice (thn (po_none.run pins s1 σ H1 (fun o H => o = none ∧ H = H1) I1 ⟨rfl, rfl⟩) ?_)
  rintro vl s2 ⟨ol, H2, I2, il, rfl, rfl⟩
  refine thn (po_none.run pins s2 σ H2 (fun o H => o = none ∧ H = H2) I2 ⟨rfl, rfl⟩) ?_
  rintro vu s3 ⟨ou, H3, I3, iu, rfl, rfl⟩
  refine thn ((po_some (pe_un un_neg (pe_int (i := 1)))).run pins s3 σ H3 (fun o H => o = some (-1) ∧ H = H3) I3 ⟨1, rfl, -1, rfl, rfl, rfl⟩) ?_
  rintro vc s4 ⟨oc, H4, I4, ic, rfl, rfl⟩
  have kp : ∀ b u, s4.heap.get? b = some u → (s4.heap.push { cls := .type "slice", data := .fields #[vl, vu, vc] }).get? b = some u := fun b u z => Heap.get?_push_of_some _ z
  have I5 := I4.kept (t' := s4.toks) kp
  obtain ⟨its, rv, tp, zl⟩ := I5.tuple sq
  have ln := rv.length
  refine tail_any (ops := [.ref a, .ref s4.heap.objs.size]) tp.typeIs PyProof.Rows.slot_tuple_getitem.lookup ?_ (by with_unfolding_all rfl)
  refine turned_part tp (Heap.IsSliceOf.new _ vl vu vc) il iu ic (by omega) ?_
  exact ⟨.ref _, _, I5.laid (t' := s4.toks) (o := .tup xs.reverse) (fun b u z => Heap.get?_push_of_some _ z) (Nat.le_refl _) ⟨by rw [List.length_reverse]; exact zl, _, rv.reverse, ⟨_, Heap.get?_push_size _ rfl, rfl, _, rfl⟩⟩, rfl, q _ (I5.hok.fresh (Nat.le_refl _))⟩
section
variable {K : PySem.W.Frag} {te ta tb : TE} {ds : List SD} {ms : List MD} {R : RS}
theorem e_revT (h : E K te ds ms fun s ms1 => ∃ es, s = .d (.tuple es) ∧ R (.d (.tuple es.reverse)) ms1) : E K (tRevT K te) ds ms R := fun L M σ H hS hA Q q =>
  h L M σ H hS hA _ fun s v H1 ms1 w o ⟨es, e, r⟩ => by
    subst e
    obtain ⟨a1, z⟩ := o
    obtain ⟨p, xs, rfl, e1, hr⟩ := Sv.tup (ms := ms1) (K := K) (L := L) (.d (.tuple es)) z
    refine ⟨p, xs, rfl, SqT.of e1, fun l hl => ?_⟩
    exact q (.d (.tuple es.reverse)) _ _ ms1 (w.trans (Wk.new hl)) ⟨a1.new hl, .tup (a1.fresh hl) upd_same (RpA.to (a1.wk (Wk.new hl)) _ _ hr.reverse)⟩ r
theorem rc_sortT {as : List SD} (h : ∃ (ns : List Int), as = [.d (.tuple (ns.map .int))] ∧ ∀ ns' : List Int, ns'.Perm ns → ns'.Pairwise (· ≤ ·) → R (.f (ns'.map .int)) ms) : RC K (rSortTI K) as ms R := fun L M H vs hA ha Q q => by
  obtain ⟨ns, rfl, r⟩ := h
  obtain ⟨v, t, rfl, hv, rfl⟩ := ha
  obtain ⟨p, xs, rfl, e1, hr⟩ := Sv.tup (ms := ms) (K := K) (L := L) (.d (.tuple (ns.map .int))) hv
  rw [RpA.ints_inv hr] at e1
  refine ⟨p, ns, rfl, SqT.of e1, fun ns' l hp hs hl => ?_⟩
  exact q (.f (ns'.map .int)) _ _ ms (Wk.new hl) (out_new hA (Wk.refl L H) hl (RpA.ints ns')) (r ns' hp hs)
/-- a part of a tuple, perhaps the whole -/
theorem e_slA {to th : TO} (h : E K te ds ms fun s ms1 => EO K to ds ms1 fun lo ms2 => EO K th ds ms2 fun hi ms3 => ∃ es, s = .d (.tuple es) ∧ R (.d (.tuple (cutD es lo hi))) ms3) : E K (tSl (rSlA K) te to th) ds ms R := fun L M σ H hS hA Q q =>
  h L M σ H hS hA _ fun s v H1 ms1 w1 o1 h1 => h1 L M σ H1 (hS.mono hA w1) o1.at _ fun lo H2 ms2 w2 a2 h2 => h2 L M σ H2 ((hS.mono hA w1).mono o1.at w2) a2 _ fun hi H3 ms3 w3 a3 ⟨es, e, r⟩ => by
    subst e
    have z := (o1.sl.mono o1.at w2).mono a2 w3
    obtain ⟨p, xs, rfl, e1, hr⟩ := Sv.tup (ms := ms3) (.d _) z
    have w := (w1.trans w2).trans w3
    have ln := hr.length
    refine ⟨p, xs, rfl, SqT.of e1, fun y => ?_, fun _ l hl => ?_⟩
    · have e2 : cutD es lo hi = es := by
        unfold cutD
        rw [← ln, y.1, y.2]
        simp [ln]
      rw [e2] at r
      exact q (.d (.tuple es)) _ H3 ms3 w ⟨a3, z⟩ r
    · exact q (.d (.tuple (cutD es lo hi))) _ _ ms3 (w.trans (Wk.new hl)) ⟨a3.new hl, .tup (a3.fresh hl) upd_same (RpA.to (a3.wk (Wk.new hl)) _ _ (cut_of hr lo hi))⟩ r
/-- list(range(a, b)) -/
theorem e_lrg2 (h : E K ta ds ms fun s ms1 => E K tb ds ms1 fun t ms2 => ∃ a n : Nat, s = .d (.int a) ∧ t = .d (.int ((a + n : Nat) : Int)) ∧ a + n ≤ 10000 ∧ R (.f ((List.range n).map fun k : Nat => PyData.int ((a + k : Nat) : Int))) ms2) : E K (tLstRg (tRg2 ta tb)) ds ms R := fun L M σ H hS hA Q q =>
  h L M σ H hS hA _ fun s v H1 ms1 w o h1 => h1 L M σ H1 (hS.mono hA w) o.at _ fun t u H2 ms2 w2 o2 ⟨a, n, e1, e2, hn, r⟩ => by
    subst e1 e2
    obtain ⟨a1, z1⟩ := o
    obtain ⟨a2, z2⟩ := o2
    cases z1
    cases z2
    refine ⟨a, ((a + n : Nat) : Int), rfl, rfl, .of_le (by omega) (by omega) (by omega) (by omega), fun l hl => ?_⟩
    have rr : RpA M H2 (rgV (a : Int) ((a + n : Nat) : Int)) ((List.range n).map fun k : Nat => PyData.int ((a + k : Nat) : Int)) := by
      unfold rgV
      have e0 : (((a + n : Nat) : Int) - (a : Int)).toNat = n := by omega
      rw [e0]
      have : ∀ l : List Nat, RpA M H2 (l.map fun i : Nat => V.int ((a : Int) + (i : Int))) (l.map fun k : Nat => PyData.int ((a + k : Nat) : Int)) := fun l => by
        induction l with
        | nil => exact .nil
        | cons i t ih =>
          refine .cons ?_ ih
          show Rp M H2 (.int ((a : Int) + (i : Int))) (.int ((a + i : Nat) : Int))
          have e : ((a + i : Nat) : Int) = (a : Int) + (i : Int) := by omega
          rw [e]
          exact .int _
      exact this _
    exact q (.f _) _ _ ms2 ((w.trans w2).trans (Wk.new hl)) (out_new a2 (w.trans w2) hl rr) r
end
/-- a comprehension within one -/
theorem blkOk_in {X : Cx} {N : List Str} {sc scope : Scope} {own : List (Str × Nat)} (hN : X.N = N) (hs : X.env.scope = sc) (h : blkC N sc scope own = true) : BlkOk X.N X.env.scope scope own := by
  subst hN hs
  exact blkOk_by h
end Hc

namespace Hc
open PySem PySem.Spec PyProof.Rows L2
/-! ### [e for x in xs for y in t] -/
structure Stays (M : List Addr) (H H' : Hp) : Prop where
  t : To M M H H'
  kd : ∀ a o, H a = some o → ∃ o', H' a = some o' ∧ kindO o' = kindO o
theorem Stays.refl (M : List Addr) (H : Hp) : Stays M H H := ⟨fun _ _ n e => ⟨n, e⟩, fun _ o e => ⟨o, e, rfl⟩⟩
theorem Stays.trans {M : List Addr} {H H1 H2 : Hp} (a : Stays M H H1) (b : Stays M H1 H2) : Stays M H H2 := ⟨fun x o n e => b.t x o n (a.t x o n e).2, fun x o e => by
  obtain ⟨o1, e1, k1⟩ := a.kd x o e
  obtain ⟨o2, e2, k2⟩ := b.kd x o1 e1
  exact ⟨o2, e2, k2.trans k1⟩⟩
theorem Stays.wk {L M : List Addr} {ms : List MD} {H H' : Hp} (a : At L M ms H) (w : Wk L H H') : Stays M H H' := ⟨a.wk w, w.kd⟩
theorem Stays.upd {M : List Addr} {H : Hp} {D : Addr} {xs ys : List V} (h : D ∈ M) (e : H D = some (.lst xs)) : Stays M H (upd H D (.lst ys)) := ⟨fun a o n q => ⟨n, by rw [upd_ne (fun z : a = D => n (by rw [z]; exact h))]; exact q⟩, (Wk.mut (L := M) h e).kd⟩
section
variable {K : PySem.W.Frag} {te ti tl : TE} {tt tt1 : TT} {ds : List SD} {ms : List MD} {R : RS}
theorem in_turn {g : TG} {js vs : List Nat} {L M : List Addr} {σ : L2.St} {H1 H3 H : Hp} {D : Addr} {n : Nat} {acc : List PyData} {ms1 : List MD} {x : SD} {v : V} {N : List PyData → List MD → Prop} (hj : ∀ j ∈ js, j ∈ vs) (hi : n < 10000)
    (sl : Sl K L (M ++ [D]) σ H3 ds) (st : Stays (M ++ [D]) H3 H) (hDL : D ∉ L) (hD : H1 D = none) (c : Cs L M H1 D n acc ms1 H) (ho : SlOk K L (M ++ [D]) H3 x v) (h : Lt K g js tt te vs ds x ms1 acc N) :
    g v (L2.wipe σ vs) H fun σ2 H4 => L2.wipe σ2 vs = L2.wipe σ vs ∧ tt σ2 H4 fun b H5 => if b = true then te σ2 H5 fun y H6 => ∃ ac, H6 D = some (.lst ac) ∧ ac.length < sizeLine ∧ (∃ acc' ms', Cs L M H1 D (n + 1) acc' ms' (upd H6 D (.lst (ac ++ [y]))) ∧ Stays (M ++ [D]) H3 (upd H6 D (.lst (ac ++ [y]))) ∧ N acc' ms') else ∃ acc' ms', Cs L M H1 D (n + 1) acc' ms' H5 ∧ Stays (M ++ [D]) H3 H5 ∧ N acc' ms' := by
  have s2 : Sl K L (M ++ [D]) (L2.wipe σ vs) H (wipeD ds vs) := (sl.to st.t st.kd fun _ _ e => e).wipe vs
  refine h L (M ++ [D]) (L2.wipe σ vs) H v s2 c.a (ho.to st.t st.kd fun _ _ e => e) _ fun σ2 ds2 sl2 wp h2 => ?_
  have wv : L2.wipe σ2 vs = L2.wipe σ vs := by
    rw [wp vs hj]
    apply List.ext_getElem?
    intro i
    rw [wipe_get, wipe_get, wipe_length]
    by_cases e : i ∈ vs
    · rw [if_pos e, if_pos e]
    · simp only [if_neg e, wipe_get]
  refine ⟨wv, ?_⟩
  refine h2 L (M ++ [D]) σ2 H sl2 c.a _ fun b H4 ms4 w4 a4 ⟨k1, k2⟩ => ?_
  obtain ⟨xs, e, r⟩ := c.d
  have e4 : H4 D = some (.lst xs) := w4 D _ hDL e
  have r4 : RpA (M ++ [D]) H4 xs acc := RpA.to (c.a.wk w4) _ _ r
  have st4 := st.trans (.wk c.a w4)
  cases b with
  | false =>
    rw [if_neg (by decide)]
    exact ⟨acc, ms4, ⟨c.w.trans w4, a4, Nat.le_succ_of_le c.le, xs, e4, r4⟩, st4, k2 rfl⟩
  | true =>
    rw [if_pos rfl]
    refine k1 rfl L (M ++ [D]) σ2 H4 (sl2.mono c.a w4) a4 _ fun s y H5 ms5 w5 o5 ⟨d, ed, hn⟩ => ?_
    have a5 := o5.at
    have ry := o5.sl
    rw [ed] at ry
    have e5 : H5 D = some (.lst xs) := w5 D _ hDL e4
    have r5 : RpA (M ++ [D]) H5 xs acc := RpA.to (a4.wk w5) _ _ r4
    have hDM : D ∈ M ++ [D] := by simp
    have su : Stays (M ++ [D]) H5 (upd H5 D (.lst (xs ++ [y]))) := .upd hDM e5
    refine ⟨xs, e5, by rw [r5.length]; exact Nat.lt_of_le_of_lt c.le (Nat.lt_trans hi (by decide)), acc ++ [d], ms5, ⟨((c.w.trans w4).trans w5).over hD, ⟨a5.nd, a5.sub, fun p hp => ?_, a5.ln, fun k p m e1 e2 => ?_⟩, ?_, xs ++ [y], upd_same, RpA.to su.t _ _ (r5.append (.cons ry .nil))⟩, (st4.trans (.wk a4 w5)).trans su, hn⟩
    · by_cases z : p = D
      · subst z; rw [upd_same]; exact ⟨_, rfl, trivial⟩
      · rw [upd_ne z]; exact a5.al p hp
    · exact (a5.ok k p m e1 e2).to su.t (upd_ne (fun z => hDL (z ▸ List.mem_of_getElem? e1)))
    · rw [List.length_append]; have := c.le; simp; exact this
theorem e_lc2 {g g1 : TG} {js vs js1 vs1 : List Nat} {b : Nat} (hj : ∀ j ∈ js, j ∈ vs) (hj1 : ∀ j ∈ js1, j ∈ vs1) (h : E K tl ds ms fun s ms0 => ∃ es, Sw (dd s) es ∧ es.length * b ≤ 10000 ∧ ∃ Pv : Nat → List PyData → List MD → Prop, Pv 0 [] ms0 ∧
      (∀ i e acc ms1, es[i]? = some e → Pv i acc ms1 → EG K g js (.d e) (wipeD ds vs) ms1 fun ds2 ms2 => ET K tt ds2 ms2 fun q ms3 => (q = true → E K ti ds2 ms3 fun s2 ms4 => ∃ fs, s2 = .d (.tuple fs) ∧ fs.length ≤ b ∧ ∃ Pw : Nat → List PyData → List MD → Prop, Pw 0 acc ms4 ∧
        (∀ j f acc ms5, fs[j]? = some f → Pw j acc ms5 → Lt K g1 js1 tt1 te vs1 ds2 (.d f) ms5 acc (Pw (j + 1))) ∧ ∀ acc ms5, Pw fs.length acc ms5 → Pv (i + 1) acc ms5) ∧ (q = false → Pv (i + 1) acc ms3)) ∧ ∀ acc ms1, Pv es.length acc ms1 → R (.f acc) ms1) :
    E K (tLc2 (iList K tl) g tt (iTup K ti) g1 tt1 te vs vs1) ds ms R := fun L M σ H hS hA Q q =>
  h L M σ H hS hA _ fun s v H1 ms0 w o ⟨es, sw, hz, Pv, h0, hs, hd⟩ => by
    have a1 := o.at
    obtain ⟨a, xs, rfl, rx, hx⟩ := sw.is a1 o.sl
    refine ⟨a, rfl, ⟨xs, hx H1 (Wk.refl L H1)⟩, fun D hD => ?_⟩
    have hDL := a1.freshL hD
    have hl := rx.length
    refine ⟨fun i m H => m = xs.length - i ∧ i ≤ xs.length ∧ ∃ acc ms', Cs L M H1 D (i * b) acc ms' H ∧ Pv i acc ms', ⟨xs.length, rfl, Nat.zero_le _, [], ms0, by rw [Nat.zero_mul]; exact .start a1 hD, h0⟩, ?_⟩
    rintro i m H2 ⟨rfl, hi, acc, ms', c, p⟩
    by_cases hlt : i < xs.length
    · refine .inr ⟨⟨xs, xs[i], hx H2 c.w, List.getElem?_eq_getElem hlt⟩, fun H' => ∃ acc ms', Cs L M H1 D ((i + 1) * b) acc ms' H' ∧ Pv (i + 1) acc ms', fun H' z => ⟨xs.length - (i + 1), by omega, rfl, hlt, z⟩, fun x H' y => ?_⟩
      obtain ⟨ey, y⟩ := y
      subst ey
      obtain ⟨e, e1, e2⟩ := rx.get' (y xs (hx _ c.w))
      have t : To M (M ++ [D]) H1 H' := to_new a1 hD c.w
      have s2 : Sl K L (M ++ [D]) (L2.wipe σ vs) H' (wipeD ds vs) := ((hS.mono hA w).to t c.w.kd fun _ _ e => e).wipe vs
      refine hs i e acc ms' e1 p L (M ++ [D]) (L2.wipe σ vs) H' x s2 c.a (Rp.to t _ _ e2) _ fun σ2 ds2 sl2 wp h2 => ?_
      have wv : L2.wipe σ2 vs = L2.wipe σ vs := by
        rw [wp vs hj]
        apply List.ext_getElem?
        intro i
        rw [wipe_get, wipe_get, wipe_length]
        by_cases e : i ∈ vs
        · rw [if_pos e, if_pos e]
        · simp only [if_neg e, wipe_get]
      have mb : (i + 1) * b = i * b + b := Nat.succ_mul ..
      have mz : (i + 1) * b ≤ 10000 := Nat.le_trans (Nat.mul_le_mul_right b (by omega)) hz
      refine ⟨wv, h2 L (M ++ [D]) σ2 H' sl2 c.a _ fun bb H4 ms4 w4 a4 ⟨k1, k2⟩ => ?_⟩
      obtain ⟨ys, ed, rd⟩ := c.d
      have e4 : H4 D = some (.lst ys) := w4 D _ hDL ed
      have r4 : RpA (M ++ [D]) H4 ys acc := RpA.to (c.a.wk w4) _ _ rd
      cases bb with
      | false =>
        rw [if_neg (by decide)]
        exact ⟨acc, ms4, ⟨c.w.trans w4, a4, by have := c.le; omega, ys, e4, r4⟩, k2 rfl⟩
      | true =>
        rw [if_pos rfl]
        refine k1 rfl L (M ++ [D]) σ2 H4 (sl2.mono c.a w4) a4 _ fun s3 v3 H5 ms5 w5 o5 ⟨fs, e3, hfb, Pw, w0, ws, wd⟩ => ?_
        subst e3
        obtain ⟨a5, z5⟩ := o5
        cases z5 with
        | @tup ta zs _ nt et rt =>
        have sl5 : Sl K L (M ++ [D]) σ2 H5 ds2 := (sl2.mono c.a w4).mono a4 w5
        have hx5 : ∀ H', Stays (M ++ [D]) H5 H' → SqT K H' ta zs := fun H' s => SqT.of (s.t _ _ nt et).2
        have e5 : H5 D = some (.lst ys) := w5 D _ hDL e4
        have r5 : RpA (M ++ [D]) H5 ys acc := RpA.to (a4.wk w5) _ _ r4
        have hlz := rt.length
        refine ⟨ta, rfl, ⟨zs, hx5 H5 (.refl _ _)⟩, fun j m H => m = zs.length - j ∧ j ≤ zs.length ∧ ∃ acc ms', Cs L M H1 D (i * b + j) acc ms' H ∧ Stays (M ++ [D]) H5 H ∧ Pw j acc ms', ⟨zs.length, rfl, Nat.zero_le _, acc, ms5, ⟨(c.w.trans w4).trans w5, a5, c.le, ys, e5, r5⟩, .refl _ _, w0⟩, ?_⟩
        rintro j m H6 ⟨rfl, hj6, acc6, ms6, c6, st6, p6⟩
        by_cases hlj : j < zs.length
        · refine .inr ⟨⟨zs, zs[j], hx5 H6 st6, List.getElem?_eq_getElem hlj⟩, fun H' => ∃ acc ms', Cs L M H1 D (i * b + j + 1) acc ms' H' ∧ Stays (M ++ [D]) H5 H' ∧ Pw (j + 1) acc ms', fun H' z => ⟨zs.length - (j + 1), by omega, rfl, hlj, z⟩, fun x6 H7 y6 => ?_⟩
          obtain ⟨ey, y6⟩ := y6
          subst ey
          obtain ⟨f, f1, f2⟩ := rt.get' (y6 zs (hx5 _ st6))
          exact in_turn (x := .d f) hj1 (by omega) sl5 st6 hDL hD c6 f2 (ws j f acc6 ms6 f1 p6)
        · have ej : j = zs.length := by omega
          subst ej
          refine .inl ⟨⟨zs, hx5 H6 st6, Nat.le_refl _⟩, acc6, ms6, ⟨c6.w, c6.a, by have := c6.le; omega, c6.d⟩, wd acc6 ms6 (by rw [← hlz]; exact p6)⟩
    · have ei : i = xs.length := by omega
      subst ei
      rw [hl] at p
      exact .inl ⟨⟨xs, hx H2 c.w, Nat.le_refl _⟩, q (.f acc) _ H2 ms' (w.trans c.w) ⟨D, rfl, none_back a1 w (a1.fresh hD) hD, a1.fresh hD, c.done a1.sub hDL, a1.sub⟩ (hd acc ms' p)⟩
end
/-! ### max(t) of a tuple of ints -/
theorem maxI (n : Int) (ns : List Int) : ∃ m : Int, PySem.W.maxD (.int n) (ns.map .int) = .int m ∧ n ≤ m ∧ (∀ y ∈ ns, y ≤ m) := by
  induction ns generalizing n with
  | nil => exact ⟨n, rfl, Int.le_refl _, nofun⟩
  | cons y r ih =>
    have e : PySem.W.maxD (.int n) ((y :: r).map .int) = PySem.W.maxD (if PySem.W.dataLt (.int n) (.int y) then .int y else .int n) (r.map .int) := rfl
    have lt : PySem.W.dataLt (.int n) (.int y) = decide (n < y) := PySem.W.dataLt_int ..
    rw [e, lt]
    by_cases h : n < y
    · rw [decide_eq_true h, if_pos rfl]
      obtain ⟨m, e1, e2, e3⟩ := ih y
      exact ⟨m, e1, by omega, fun z hz => (List.mem_cons.mp hz).elim (fun q => by rw [q]; exact e2) (e3 z)⟩
    · rw [decide_eq_false h, if_neg (by decide)]
      obtain ⟨m, e1, e2, e3⟩ := ih n
      exact ⟨m, e1, e2, fun z hz => (List.mem_cons.mp hz).elim (fun q => by rw [q]; omega) (e3 z)⟩
def rMaxT (K : PySem.W.Frag) : List V → Hp → VK → Prop := fun vs H Q => ∃ (a : Addr) (n : Int) (ns : List Int), vs = [V.ref a] ∧ SqT K H a ((n :: ns).map V.int) ∧ ∀ m, m ∈ n :: ns → (∀ y ∈ n :: ns, y ≤ m) → Q (.int m) H
theorem dpI {K : PySem.W.Frag} {H : Hp} : ∀ ns : List Int, DpAll K H (ns.map V.int) (ns.map PyData.int)
  | [] => .nil
  | n :: r => .cons (.int n) (dpI r)
theorem depI : ∀ ns : List Int, PyData.depthAll (ns.map PyData.int) = 0
  | [] => rfl
  | n :: r => by
    show PyData.depthAll (PyData.int n :: r.map PyData.int) = 0
    rw [PyData.depthAll, depI r]
    rfl
theorem cr_maxT {X : Cx} (hc : X.calm = true) (hu : X.A.units + 65 < cLine) : CallR X (.builtin "max") (rMaxT X.K) := by
  rintro pins s σ H vs us Q I r ⟨a, n, ns, rfl, sq, q⟩
  obtain ⟨its, rv, tp, zl⟩ := I.tuple sq
  rw [Vals.ref1 r]
  obtain ⟨as, ra⟩ := Dp.readsAll I ((n :: ns).map .int) ((n :: ns).map V.int) its (dpI _) rv
  obtain ⟨m, e1, e2, e3⟩ := maxI n ns
  refine PySem.W.max_tuple_data (vs := its.toArray) (x := .int n) (xs := ns.map .int) (I.ok.hd hc) tp ra ⟨fun x hx y hy => ?_, fun x hx => ?_⟩ ?_ fun i v h' tk bs hv rd hk => ?_
  · obtain ⟨x', _, rfl⟩ := List.mem_map.mp (show x ∈ (n :: ns).map PyData.int from hx)
    obtain ⟨y', _, rfl⟩ := List.mem_map.mp (show y ∈ (n :: ns).map PyData.int from hy)
    rfl
  · obtain ⟨x', _, rfl⟩ := List.mem_map.mp (show x ∈ (n :: ns).map PyData.int from hx)
    exact nofun
  · have : PyData.depthAll (PyData.int n :: ns.map PyData.int) = 0 := depI (n :: ns)
    rw [this]
    omega
  · rw [List.getElem?_toArray] at hv
    have hi := (List.getElem?_eq_some_iff.mp hv).1
    have hl := rv.length
    obtain ⟨u, h1, h2⟩ := rv.get (List.getElem?_eq_getElem (l := (n :: ns).map V.int) (i := i) (by omega))
    rw [hv] at h1
    cases h1
    rw [List.getElem_map] at h2
    obtain ⟨t, rfl⟩ := h2
    rw [e1] at rd
    have hi2 : i < (n :: ns).length := by rw [List.length_map] at hl; omega
    have em : (n :: ns)[i]'hi2 = m := by
      generalize (n :: ns)[i]'hi2 = x at rd
      cases rd
      rfl
    exact ⟨.int m, H, I.kept hk, ⟨t, by rw [em]⟩, q m (em ▸ List.getElem_mem _) fun y hy => (List.mem_cons.mp hy).elim (fun z => by rw [z]; exact e2) (e3 y)⟩
section
variable {K : PySem.W.Frag} {ms : List MD} {R : RS}
theorem rc_maxT {as : List SD} (h : ∃ ns : List Int, as = [.d (.tuple (ns.map .int))] ∧ 0 < ns.length ∧ ∀ m : Int, m ∈ ns → (∀ y ∈ ns, y ≤ m) → R (.d (.int m)) ms) : RC K (rMaxT K) as ms R := fun L M H vs hA ha Q q => by
  obtain ⟨ns, rfl, hl, r⟩ := h
  obtain ⟨v, t, rfl, hv, rfl⟩ := ha
  obtain ⟨p, xs, rfl, e1, hr⟩ := Sv.tup (ms := ms) (K := K) (L := L) (.d (.tuple (ns.map .int))) hv
  rw [RpA.ints_inv hr] at e1
  cases ns with
  | nil => simp at hl
  | cons n ns => exact ⟨p, n, ns, rfl, SqT.of e1, fun m h1 h2 => q (.d (.int m)) _ H ms (Wk.refl L H) ⟨hA, .int m⟩ (r m h1 h2)⟩
theorem rc_minL {as : List SD} (h : ∃ (s : SD) (ns : List Int), as = [s] ∧ Sv ms s (.list (ns.map .int)) ∧ 0 < ns.length ∧ ∀ m : Int, m ∈ ns → (∀ y ∈ ns, m ≤ y) → R (.d (.int m)) ms) : RC K (rMin K) as ms R := fun L M H vs hA ha Q q => by
  obtain ⟨s, ns, rfl, sv, hl, r⟩ := h
  obtain ⟨v, t, rfl, hv, rfl⟩ := ha
  obtain ⟨p, xs, rfl, hq, hr⟩ := sv.lst hA hv
  rw [RpA.ints_inv hr] at hq
  exact ⟨p, ns, rfl, hq, hl, fun m h1 h2 => q (.d (.int m)) _ H ms (Wk.refl L H) ⟨hA, .int m⟩ (r m h1 h2)⟩
end
end Hc

namespace Hc
open PySem PySem.Spec PyProof.Rows L2
/-! ### dicts that may change, with rows as keys -/
def valT (m : List (List Key × PyData)) (k : List Key) : Option PyData := (m.find? fun kv => decide (kv.1 = k)).map (·.2)
def putT (m : List (List Key × PyData)) (k : List Key) (d : PyData) : List (List Key × PyData) :=
  if (m.any fun kv => decide (kv.1 = k)) = true then m.map (fun kv => if kv.1 = k then (kv.1, d) else kv) else m ++ [(k, d)]
/-- a row of keys, as it is handed in -/
abbrev rowK (k : List Key) : PyData := .tuple (k.map keyD)
section
variable {K : PySem.W.Frag} {L M : List Addr} {ms : List MD} {H H' : Hp}
theorem Rt.length : ∀ {m : List (List Key × PyData)} {kvs : List (List Key × V)}, Rt M H kvs m → kvs.length = m.length
  | _, _, .nil => rfl
  | _, _, .cons _ b => congrArg (· + 1) (Rt.length b)
theorem Rt.keys : ∀ {m : List (List Key × PyData)} {kvs : List (List Key × V)}, Rt M H kvs m → kvs.map (·.1) = m.map (·.1)
  | _, _, .nil => rfl
  | _, _, .cons _ b => by rw [List.map_cons, List.map_cons, Rt.keys b]
theorem Rt.val (k : List Key) {d : PyData} : ∀ {m : List (List Key × PyData)} {kvs : List (List Key × V)}, Rt M H kvs m → valT m k = some d → ∃ v, valV kvs k = some v ∧ Rp M H v d
  | _, _, .nil, e => by cases e
  | (k1, d1) :: m, (_, v1) :: kvs, .cons a b, e => by
    by_cases q : k1 = k
    · have : d1 = d := by simpa [valT, q] using e
      subst this
      exact ⟨v1, valV_pos q, a⟩
    · have e1 : valT ((k1, d1) :: m) k = valT m k := by simp [valT, List.find?_cons, q]
      rw [e1] at e
      rw [valV_neg q]
      exact Rt.val k b e
theorem Rt.put (k : List Key) {v : V} {d : PyData} {m : List (List Key × PyData)} {kvs : List (List Key × V)} (h : Rt M H kvs m) (r : Rp M H v d) : Rt M H (putK kvs k v) (putT m k d) := by
  have any : (kvs.any fun kv => decide (kv.1 = k)) = (m.any fun kv => decide (kv.1 = k)) := by
    induction h with
    | nil => rfl
    | cons _ _ ih => simp [ih]
  unfold putK putT
  rw [any]
  split
  · rename_i hsp
    clear any hsp
    induction h with
    | nil => exact .nil
    | @cons k1 v1 d1 kvs1 m1 a b ih =>
      rw [List.map_cons, List.map_cons]
      by_cases e : k1 = k
      · rw [if_pos e, if_pos e]
        exact .cons r ih
      · rw [if_neg e, if_neg e]
        exact .cons a ih
  · rename_i hsp
    clear any hsp
    induction h with
    | nil => exact .cons r .nil
    | cons a _ ih => exact .cons a ih
theorem rpa_keys : ∀ (k : List Key), RpA M H (k.map kV) (k.map keyD)
  | [] => .nil
  | a :: r => .cons (rp_key a) (rpa_keys r)
theorem keys_inv : ∀ {k : List Key} {xs : List V}, RpA M H xs (k.map keyD) → xs = k.map kV
  | [], _, h => by cases h; rfl
  | a :: r, _, h => by
    have h' : RpA M H _ (keyD a :: r.map keyD) := h
    cases h' with
    | cons z y => rw [Rp.key z, keys_inv y]; rfl
theorem row_key {v : V} {k : List Key} (h : Rp M H v (rowK k)) : ∃ b, v = .ref b ∧ H b = some (.tup (k.map kV)) := by
  cases h with
  | tup n e r => exact ⟨_, rfl, by rw [e, keys_inv r]⟩
theorem At.getT (h : At L M ms H) {k : Nat} {p : Addr} {m : List (List Key × PyData)} (hk : L[k]? = some p) (e : ms[k]? = some (.t m)) : ∃ kvs, H p = some (.dT kvs) ∧ Rt M H kvs m := h.ok k p _ hk e
/-- one thing changed -/
theorem At.putO (h : At L M ms H) {k : Nat} {p : Addr} {o o0 : HO} {x : MD} (hk : L[k]? = some p) (e0 : H p = some o0) (kd : kindO o = kindO o0) (no : NTup o) (r : To M M H (upd H p o) → MOk L M (upd H p o) k p x) : At L M (ms.set k x) (upd H p o) := by
  have hp : p ∈ L := List.mem_of_getElem? hk
  have t : To M M H (upd H p o) := h.wk (Wk.mut hp e0 kd)
  have one : ∀ (j : Nat) (q : Addr), L[j]? = some q → j ≠ k → q ≠ p := fun j q ej hj z => by
    obtain ⟨_, e1⟩ := List.getElem?_eq_some_iff.mp ej
    obtain ⟨_, e2⟩ := List.getElem?_eq_some_iff.mp hk
    exact hj ((List.getElem_inj h.nd).mp (e1.trans (z.trans e2.symm)))
  constructor
  · exact h.nd
  · exact h.sub
  · intro q hq
    by_cases e : q = p
    · exact ⟨o, by rw [e]; exact upd_same, no⟩
    · obtain ⟨o', e1, e2⟩ := h.al q hq
      exact ⟨o', by rw [upd_ne e]; exact e1, e2⟩
  · rw [List.length_set]
    exact h.ln
  · intro j q y e1 e2
    by_cases hj : j = k
    · subst hj
      have hjl : j < ms.length := by rw [← h.ln]; exact (List.getElem?_eq_some_iff.mp e1).1
      rw [List.getElem?_set_self hjl] at e2
      rw [hk] at e1
      cases e1
      cases e2
      exact r t
    · rw [List.getElem?_set_ne (fun z => hj z.symm)] at e2
      exact (h.ok j q y e1 e2).to t (upd_ne (one j q e1 hj))
theorem At.growO {p : Addr} {o : HO} {x : MD} (h : At L M ms H) (hp : H p = none) (no : NTup o) (r : To M (M ++ [p]) H (upd H p o) → MOk (L ++ [p]) (M ++ [p]) (upd H p o) L.length p x) : At (L ++ [p]) (M ++ [p]) (ms ++ [x]) (upd H p o) := by
  have a := h.hide hp no
  have nl := h.freshL hp
  have t : To M (M ++ [p]) H (upd H p o) := to_new h hp (Wk.new hp)
  constructor
  · exact List.nodup_append.mpr ⟨h.nd, by simp, fun b hb c hc z => nl (by rw [List.mem_singleton.mp hc] at z; exact z ▸ hb)⟩
  · intro q hq
    rcases List.mem_append.mp hq with z | z
    · exact a.sub q z
    · exact List.mem_append_right _ z
  · exact a.al
  · rw [List.length_append, List.length_append, h.ln]
    rfl
  · intro j q y e1 e2
    rcases Nat.lt_or_ge j L.length with hj | hj
    · rw [List.getElem?_append_left hj] at e1
      rw [List.getElem?_append_left (by rw [← h.ln]; exact hj)] at e2
      exact (a.ok j q y e1 e2).toL (fun _ _ n e => ⟨n, e⟩) (fun k' q' _ z => by rw [List.getElem?_append_left (List.getElem?_eq_some_iff.mp z).1]; exact z) rfl
    · have hjl := (List.getElem?_eq_some_iff.mp e1).1
      have ej : j = L.length := by
        rw [List.length_append] at hjl
        have : j < L.length + 1 := hjl
        omega
      subst ej
      have ep : p = q := by simpa using e1
      rw [h.ln] at e2
      have ex : x = y := by simpa using e2
      subst ep ex
      exact r t
theorem At.lastT {p : Addr} {m : List (List Key × PyData)} (h : At (L ++ [p]) (M ++ [p]) (ms ++ [.t m]) H) : ∃ kvs, H p = some (.dT kvs) := by
  have hl : L.length = ms.length := by have := h.ln; simp at this; exact this
  obtain ⟨kvs, e, _⟩ := h.ok L.length p (.t m) (by simp) (by rw [hl]; simp)
  exact ⟨kvs, e⟩
variable {te ta tb td ty : TE} {tA : TA} {ds : List SD} {R : RS} {t u : TS} {P : Po}
theorem e_dgetT (h : E K td ds ms fun s ms1 => ∃ k, s = .q k ∧ E K ty ds ms1 fun y ms2 => ∃ m key d, ms2[k]? = some (.t m) ∧ dd y = .d (rowK key) ∧ valT m key = some d ∧ R (.d d) ms2) : E K (tDGet td ty) ds ms R := fun L M σ H hS hA Q q =>
  h L M σ H hS hA _ fun s x H1 ms1 w1 o1 ⟨k, ek, h1⟩ => h1 L M σ H1 (hS.mono hA w1) o1.at _ fun y z H2 ms2 w2 o2 ⟨m, key, d, em, ey, hv, r⟩ => by
    subst ek
    obtain ⟨_, p, rfl, hp, _⟩ := o1
    have a2 := o2.at
    have oz := o2.sl
    rw [ey] at oz
    obtain ⟨b, rfl, eb⟩ := row_key oz
    obtain ⟨kvs, e1, r1⟩ := a2.getT hp em
    obtain ⟨v, e2, e3⟩ := r1.val key hv
    exact ⟨p, v, rfl, .inr ⟨kvs, key, b, .inl e1, rfl, eb, e2.symm⟩, q (.d d) v H2 ms2 (w1.trans w2) ⟨a2, e3⟩ r⟩
theorem egh_setT {to ti : TE} {d : PyData} {N : List MD → Prop} (h : E K to ds ms fun s ms1 => ∃ k, s = .q k ∧ E K ti ds ms1 fun y ms2 => ∃ (key : List Key) (m : List (List Key × PyData)), dd y = .d (rowK key) ∧ ms2[k]? = some (.t m) ∧ m.length < 10000 ∧ N (ms2.set k (.t (putT m key d)))) :
    EGh K (gSub to ti rSetD) (.d d) ds ms N := fun L M σ H v hS hA ho C c =>
  h L M σ H hS hA _ fun s x H1 ms1 w1 o1 ⟨k, ek, h1⟩ => h1 L M σ H1 (hS.mono hA w1) o1.at _ fun y z H2 ms2 w2 o2 ⟨key, m, ey, em, hl, hn⟩ => by
    subst ek
    obtain ⟨_, p, rfl, hp, _⟩ := o1
    have a2 := o2.at
    have oz := o2.sl
    rw [ey] at oz
    obtain ⟨b, rfl, eb⟩ := row_key oz
    obtain ⟨kvs, e1, r1⟩ := a2.getT hp em
    have rv : Rp M H2 v d := Rp.to (hA.wk (w1.trans w2)) _ _ ho
    refine ⟨p, _, rfl, .inr ⟨kvs, key, b, e1, rfl, eb, by rw [r1.length]; exact Nat.lt_trans hl (by decide), rfl⟩, ?_⟩
    exact c _ _ ((w1.trans w2).trans (Wk.mut (List.mem_of_getElem? hp) e1)) (a2.putO (x := .t (putT m key d)) hp e1 rfl trivial fun t => ⟨_, upd_same, (r1.put key rv).toP t⟩) hn
/-! a new one, until the block's end -/
def frzST (n : Nat) : SD → SD
  | .q k => if k = n then .u else .q k
  | s => s
def Po.frzT (P : Po) (n : Nat) : Po where
  nx := fun ds' ms' => ∃ ms1 m, ms' = ms1 ++ [.t m] ∧ ms1.length = n ∧ P.nx (ds'.map (frzST n)) ms1
  rt := fun s ms' => ∃ ms1 m, ms' = ms1 ++ [.t m] ∧ ms1.length = n ∧ (∃ x, s = .d x ∨ ∃ fs, s = .f fs) ∧ P.rt s ms1
  bk := fun ds' ms' => ∃ ms1 m, ms' = ms1 ++ [.t m] ∧ ms1.length = n ∧ P.bk (ds'.map (frzST n)) ms1
  ct := fun ds' ms' => ∃ ms1 m, ms' = ms1 ++ [.t m] ∧ ms1.length = n ∧ P.ct (ds'.map (frzST n)) ms1
theorem Sl.frzT {σ : L2.St} {p : Addr} {m : List (List Key × PyData)} {ms1 : List MD} (a : At (L ++ [p]) (M ++ [p]) (ms1 ++ [.t m]) H) (h : Sl K (L ++ [p]) (M ++ [p]) σ H ds) : Sl K L M σ H (ds.map (frzST ms1.length)) := fun i s e => by
  have hl : L.length = ms1.length := by have := a.ln; simp at this; exact this
  obtain ⟨kvs, ep⟩ := a.lastT
  have low : ∀ {k : Nat} {q : Addr}, (L ++ [p])[k]? = some q → q ≠ p → L[k]? = some q := fun {k q} e1 n => by
    have h1 := (List.getElem?_eq_some_iff.mp e1).1
    rcases Nat.lt_or_ge k L.length with z | z
    · rwa [List.getElem?_append_left z] at e1
    · rw [List.getElem?_append_right z] at e1
      have := List.mem_of_getElem? e1
      exact absurd (List.mem_singleton.mp this) n
  rw [List.getElem?_map] at e
  cases q : ds[i]? with
  | none => rw [q] at e; cases e
  | some s0 =>
    rw [q] at e
    have e' : frzST ms1.length s0 = s := Option.some.inj e
    subst e'
    have lt : i < σ.length := h.lt (List.getElem?_eq_some_iff.mp q).1
    cases s0 with
    | u => exact lt
    | f es => exact h i _ q |>.elim fun _ z => z.2.elim
    | g es => exact h i _ q |>.elim fun _ z => z.2.elim
    | d x =>
      obtain ⟨v, e1, e2⟩ := h i _ q
      exact ⟨v, e1, Rp.to to_less _ _ e2⟩
    | v x =>
      obtain ⟨v, e1, e2⟩ := h i _ q
      exact ⟨v, e1, e2⟩
    | h φ =>
      obtain ⟨v, e1, b, e2, n, e3⟩ := h i _ q
      exact ⟨v, e1, b, e2, fun z => n (List.mem_append_left _ z), e3⟩
    | s ns =>
      obtain ⟨v, e1, b, e2, e3⟩ := h i _ q
      refine ⟨v, e1, b, e2, ?_⟩
      rcases e3 with ⟨n, y⟩ | y
      · exact .inl ⟨fun z => n (List.mem_append_left _ z), y⟩
      · exact .inr y
    | m k =>
      obtain ⟨v, e1, b, e2, e3, xs, e4⟩ := h i _ q
      refine ⟨v, e1, b, e2, low e3 fun z => ?_, xs, e4⟩
      rw [z, ep] at e4
      cases e4
    | q k =>
      obtain ⟨v, e1, b, e2, e3, e4⟩ := h i _ q
      by_cases hk : k = ms1.length
      · have : frzST ms1.length (.q k) = .u := if_pos hk
        rw [this]
        exact lt
      · have : frzST ms1.length (.q k) = .q k := if_neg hk
        rw [this]
        refine ⟨v, e1, b, e2, ?_, e4⟩
        have h1 := (List.getElem?_eq_some_iff.mp e3).1
        rw [List.length_append] at h1
        have h2 : k < L.length + 1 := h1
        rwa [List.getElem?_append_left (by omega)] at e3
theorem s_newT {i : Nat} (h : S K u (ds.set i (.q ms.length)) (ms ++ [.t []]) (P.frzT ms.length)) : S K (tSeq (tAsg tDNewT (gName i)) u) ds ms P := fun L M σ H hS hA D n r b c p hp => by
  have np := hA.fresh hp
  have a1 : At (L ++ [p]) (M ++ [p]) (ms ++ [.t []]) (upd H p (.dT [])) := hA.growO hp trivial fun _ => ⟨[], upd_same, .nil⟩
  have w : Wk L H (upd H p (.dT [])) := Wk.new hp
  have t : To M (M ++ [p]) H (upd H p (.dT [])) := to_new hA hp w
  have hS1 : Sl K (L ++ [p]) (M ++ [p]) (σ.set i (some (.ref p))) (upd H p (.dT [])) (ds.set i (.q ms.length)) := by
    refine (hS.to t w.kd fun k q e => ?_).set i ⟨p, rfl, by rw [← hA.ln]; simp, ⟨_, upd_same, .inr rfl⟩⟩
    rw [List.getElem?_append_left (List.getElem?_eq_some_iff.mp e).1]
    exact e
  have wk : ∀ {H2 : Hp}, Wk (L ++ [p]) (upd H p (.dT [])) H2 → Wk L H H2 := fun {H2} w2 => by
    constructor
    · intro x y nx ex
      have hx : x ≠ p := ne_of_none ex hp
      exact w2 x y (fun z => (List.mem_append.mp z).elim nx fun z => hx (List.mem_singleton.mp z)) (by rw [upd_ne hx]; exact ex)
    · intro x y ex
      exact w2.kd x y (by rw [upd_ne (ne_of_none ex hp)]; exact ex)
  have go : ∀ {N : List SD → List MD → Prop} {C : L2.St → Hp → Prop}, Nx K L M H N C → Nx K (L ++ [p]) (M ++ [p]) (upd H p (.dT [])) (fun ds' ms' => ∃ ms1 m, ms' = ms1 ++ [.t m] ∧ ms1.length = ms.length ∧ N (ds'.map (frzST ms.length)) ms1) C := by
    intro N C nn σ2 H2 ds2 ms2 w2 s2 a2 ⟨ms3, m3, e3, l3, n3⟩
    subst e3
    rw [← l3] at n3
    exact nn σ2 H2 _ ms3 (wk w2) (s2.frzT a2) (a2.drop hA.sub) n3
  refine h (L ++ [p]) (M ++ [p]) _ _ hS1 a1 D (go n) ?_ (go b) (go c)
  rintro s2 v2 H2 ms2 w2 o2 ⟨ms3, m3, rfl, l3, ⟨x, hx⟩, n3⟩
  refine r s2 v2 H2 ms3 (wk w2) ?_ n3
  rcases hx with rfl | ⟨fs, rfl⟩
  · exact ⟨o2.1.drop hA.sub, Rp.to to_less _ _ o2.2⟩
  · obtain ⟨q, rfl, hq, nq, aq, _⟩ := o2
    have nqM : q ∉ M := fun z => nq (List.mem_append_left _ z)
    have nqp : q ≠ p := fun z => nq (List.mem_append_right _ (by simp [z]))
    rw [upd_ne nqp] at hq
    exact ⟨q, rfl, hq, nqM, At.dropMid rfl aq hA.sub, hA.sub⟩
end
end Hc

namespace Hc
open PySem PySem.Spec PyProof.Rows L2
section
variable {prog : Program} {w : World} {A : Around} {E : Value → Shared → Prop} {s : Shared}
/-! ### sorted(d) of a dict with rows as keys -/
theorem collect_src {T : String} {r d : Addr} {n : Nat} {P : Nat → Value → Prop} {OK : Heap → Prop} {Q : List Value → Shared → Prop} (S : PySem.W.KdlSrc prog w T r d n P OK) (hh : A.handled = none) (ok : OK s.heap) (hn : n ≤ sizeLine)
    (h : ∀ (h' : Heap) (tk : Nat) (acc : Array Value), (∀ b o, s.heap.get? b = some o → h'.get? b = some o) → s.heap.objs.size ≤ h'.objs.size → ItemsOf P acc n → Q acc.toList { s with heap := h', toks := tk }) : wpAny (model prog w) A (collect (.ref r)) Q E s := by
  have new : (s.heap.push (seqObj "list" #[] 0)).get? s.heap.objs.size = some (seqObj "list" #[] 0) := Heap.get?_push_size _ rfl
  have old : ∀ b u, s.heap.get? b = some u → (s.heap.push (seqObj "list" #[] 0)).get? b = some u := fun b u z => Heap.get?_push_of_some _ z
  obtain ⟨lr, ld⟩ := S.there _ ok
  unfold collect
  refine wpAny_bind (wpAny_runValue (codeAny_builtin PyProof.Rows.entry_proto_collect' ?_))
  show wpAny _ _ (newList [] >>= fun l => again (.builtin "list.__iadd__" ⟨[l, .ref r], []⟩)) _ _ s
  refine wpAny_bind (wpAny_newList (wpAny_pure ⟨Code.quiet_builtin _ (by decide +kernel), codeAny_builtin PyProof.Rows.entry_list_iadd' ?_⟩))
  have run := PySem.W.kdl_extend (A := A) (s := { s with heap := s.heap.push (seqObj "list" #[] 0) }) (R := fun (y : Result) (s2 : Shared) => y = .ok (.ret (.ref s.heap.objs.size)) ∧ ∃ (h2 : Heap) (tk : Nat) (acc : Array Value) (c : Nat), s2 = { s with heap := h2, toks := tk } ∧
      (∀ b o, b ≠ s.heap.objs.size → (s.heap.push (seqObj "list" #[] 0)).get? b = some o → h2.get? b = some o) ∧ h2.get? s.heap.objs.size = some { cls := .type "list", dict := none, data := .seq acc c, slots := #[] } ∧ ItemsOf P acc n)
    S hh (S.keep _ _ ok fun b _ o z => old b o z) s.heap.objs.size (Nat.ne_of_gt lr) (Nat.ne_of_gt ld) (.ref s.heap.objs.size) 0 new (fun h2 tk acc c k1 k2 k3 => ⟨rfl, h2, tk, acc, c, rfl, k1, k2, k3⟩) hn
  have last : ∀ {s2 : Shared} {y : Result}, (y = .ok (.ret (.ref s.heap.objs.size)) ∧ ∃ (h2 : Heap) (tk : Nat) (acc : Array Value) (c : Nat), s2 = { s with heap := h2, toks := tk } ∧
      (∀ b o, b ≠ s.heap.objs.size → (s.heap.push (seqObj "list" #[] 0)).get? b = some o → h2.get? b = some o) ∧ h2.get? s.heap.objs.size = some { cls := .type "list", dict := none, data := .seq acc c, slots := #[] } ∧ ItemsOf P acc n) →
      ∃ (h2 : Heap) (tk : Nat) (acc : Array Value) (c : Nat), y = .ok (.ret (.ref s.heap.objs.size)) ∧ s2 = { s with heap := h2, toks := tk } ∧ h2.get? s.heap.objs.size = some { cls := .type "list", dict := none, data := .seq acc c, slots := #[] } ∧ Q acc.toList s2 := by
    rintro s2 y ⟨ey, h2, tk, acc, c, es, k1, k2, k3⟩
    refine ⟨h2, tk, acc, c, ey, es, k2, ?_⟩
    subst es
    exact h h2 tk acc (fun b o z => k1 b o (Nat.ne_of_lt (Heap.lt_size z)) (old b o z)) (Nat.le_of_lt (Heap.lt_size k2)) k3
  rw [Around.under_plainId (by decide +kernel) _]
  refine wpAny_mono run ?_ fun e2 s2 z => (by cases z.1)
  rintro (f | c2) s2 z
  · obtain ⟨h2, tk, acc, c, ey, es, k2, k3⟩ := last z
    cases ey
    subst es
    exact wpAny_bind (wpAny_load k2 (wpAny_pure k3))
  · refine ⟨z.1, codeAny_mono z.2 fun y s3 z3 => ?_⟩
    obtain ⟨h2, tk, acc, c, ey, es, k2, k3⟩ := last z3
    subst ey es
    exact wpAny_bind (wpAny_load k2 (wpAny_pure k3))
theorem sorted_any {β : Type} {x : Value} {vs : List Value} {bs : List β} {R : Value → β → Prop} {enc : β → PyData} {Q : Value → Shared → Prop}
    (hcol : ∀ (E' : Value → Shared → Prop) (Q' : List Value → Shared → Prop), (∀ (h' : Heap) (tk : Nat), (∀ b o, s.heap.get? b = some o → h'.get? b = some o) → s.heap.objs.size ≤ h'.objs.size → Q' vs { s with heap := h', toks := tk }) → wpAny (model prog w) A.in1 (collect x) Q' E' s)
    (e : PySem.W.EachIs R vs bs) (er : PySem.W.EachIs (fun v b => ∃ as, Reads s.heap v (enc b) as) vs bs) (al : PySem.W.AllAlike (bs.map enc)) (so : PySem.W.Sortable (bs.map enc)) (hz : bs.length ≤ sizeLine)
    (hu : ∀ b, b ∈ bs → A.units + 2 + (enc b).depth < cLine)
    (h : ∀ (out : List Value) (h' : Heap) (tk p ep : Nat), PySem.W.EachIs R out (bs.mergeSort (PySem.W.dataLe false enc)) → s.heap.objs.size ≤ p → (∀ b o, s.heap.get? b = some o → h'.get? b = some o) → h'.get? p = some (seqObj "list" out.toArray ep) → Q (.ref p) { s with heap := h', toks := tk }) :
    wpAny (model prog w) A (call (.builtin "sorted") [x]) Q E s := by
  refine Calls.call_function_entry kind_sorted plain_sorted entry_sorted (args_sorted1 _) (show wpAny _ _ (Builtin.«sorted» _) _ _ _ from ?_)
  rw [Builtin.«sorted»]
  refine wpAny_bind (m := checkCount "sorted" 1 1 _) (wpAny_pure (wpAny_bind (hcol _ _ fun h1 tk k1 z1 => wpAny_bind (wpAny_newList ?_ (by rw [e.length]; exact hz)))))
  have at1 : (h1.push (seqObj "list" vs.toArray 0)).get? h1.objs.size = some (seqObj "list" vs.toArray 0) := Heap.get?_push_size _ rfl
  have er1 : PySem.W.EachIs (fun v b => ∃ as, Reads (h1.push (seqObj "list" vs.toArray 0)) v (enc b) as ∧ h1.objs.size ∉ as) vs bs := er.mono fun v b ⟨as, r⟩ => ⟨as, PyProof.Rows.Reads.keeps (fun b o z => Heap.get?_push_of_some _ (k1 b o z)) r, fun m => by
    obtain ⟨o, eo⟩ := PyProof.On.reads_mem_get r _ m
    exact absurd (Heap.lt_size (k1 _ _ eo)) (Nat.lt_irrefl _)⟩
  refine wpAny_bind (wpAny_holding (PySem.W.list_sort_data at1 e er1 al so hz (fun b hb => ?_) fun out _ eo => wpAny_pure ⟨_, rfl, ?_⟩))
  · have := hu b hb
    show A.in1.units + 1 + _ < _
    have : A.in1.units = A.units + 1 := rfl
    omega
  obtain ⟨ep, e2⟩ := PyProof.Rows.sortedHeap_at (vs := vs) (out := out.toArray) at1
  refine h out _ tk _ ep eo z1 (fun b u z => ?_) e2
  have lb := Heap.lt_size (k1 b u z)
  rw [PyProof.Rows.sortedHeap_old (Nat.ne_of_lt lb) (by rw [size_push']; exact Nat.lt_succ_of_lt lb)]
  exact Heap.get?_push_of_some _ (k1 b u z)
end
/-- the keys' rows, as they lie in the heap -/
def KeyAt (H : Hp) (bs : List (Addr × List Key)) (kvs : List (List Key × V)) : Prop := bs.map (·.2) = kvs.map (·.1) ∧ ∀ b ∈ bs, H b.1 = some (.tup (b.2.map kV))
def rSortK : List V → Hp → VK → Prop := fun vs H Q => ∃ (a : Addr) (kvs : List (List Key × V)), vs = [.ref a] ∧ H a = some (.dT kvs) ∧ PySem.W.AllAlike (kvs.map fun p => rowK p.1) ∧ PySem.W.Sortable (kvs.map fun p => rowK p.1) ∧
  ∀ (bs : List (Addr × List Key)) (p : Addr), KeyAt H bs kvs → H p = none → Q (.ref p) (upd H p (.lst ((bs.mergeSort (PySem.W.dataLe false fun b => rowK b.2)).map fun b => V.ref b.1)))
theorem key_depth (k : Key) : (keyD k).depth = 0 := by cases k <;> rfl
theorem row_depth (k : List Key) : (rowK k).depth ≤ 1 := by
  have h : ∀ k : List Key, PyData.depthAll (k.map keyD) = 0 := fun k => by
    induction k with
    | nil => rfl
    | cons a r ih => simp [PyData.depthAll, key_depth, ih]
  show PyData.depthAll (k.map keyD) + 1 ≤ 1
  rw [h]
  exact Nat.le_refl _
theorem dp_keys {K : PySem.W.Frag} {H : Hp} : ∀ k : List Key, DpAll K H (k.map kV) (k.map keyD)
  | [] => .nil
  | a :: r => .cons (by cases a; exact .int _; exact .str _) (dp_keys r)
theorem each_ref : ∀ {bs : List (Addr × List Key)}, PySem.W.EachIs (fun (u : Value) (b : Addr × List Key) => u = .ref b.1) (bs.map fun b => Value.ref b.1) bs
  | [] => .nil
  | _ :: _ => .cons rfl each_ref
theorem vals_ref : ∀ {bs : List (Addr × List Key)} {us : List Value}, PySem.W.EachIs (fun (u : Value) (b : Addr × List Key) => u = .ref b.1) us bs → Vals (bs.map fun b => V.ref b.1) us
  | [], _, h => by cases h; exact .nil
  | b :: r, _, h => by
    cases h with
    | cons z y => subst z; exact .cons rfl (vals_ref y)
theorem key_at {H : Hp} {kvs : List (List Key × V)} {ks : List (List Key × Addr × Value)} (pr : KT H kvs ks) : KeyAt H (ks.map fun x => (x.2.1, x.1)) kvs := by
  induction pr with
  | nil => exact ⟨rfl, fun _ h => by cases h⟩
  | @cons p x ps xs h0 _ ih =>
    refine ⟨?_, fun b hb => ?_⟩
    · rw [List.map_cons, List.map_cons, List.map_cons, ih.1, h0.1]
    · rcases List.mem_cons.mp hb with rfl | hb
      · show H x.2.1 = some (.tup (x.1.map kV))
        rw [← h0.1]
        exact h0.2.1
      · exact ih.2 b hb
theorem cr_sortK {X : Cx} (hc : X.calm = true) (hu : X.A.units + 64 < cLine) : CallR X (.builtin "sorted") rSortK := by
  rintro pins s σ H vs us Q I r ⟨a, kvs, rfl, hd, al, so, q⟩
  obtain ⟨z, hs, ks, pr, o, es, ep, ho, hx, hdt, he, hn⟩ := (show ObjOk X.prog X.w H s.heap a (.dT kvs) from I.hok a _ hd)
  rw [Vals.ref1 r]
  have ka := key_at pr
  have lb : (ks.map fun x => ((x.2.1, x.1) : Addr × List Key)).length ≤ sizeLine := by
    have := congrArg List.length ka.1
    simp only [List.length_map] at this ⊢
    rw [this]
    exact z
  have le : es.size ≤ sizeLine := by
    rw [size_of_entries he]
    rw [List.length_map] at lb
    exact lb
  have ev : (es.toList.map fun en => en.key) = (ks.map fun x => ((x.2.1, x.1) : Addr × List Key)).map fun b => Value.ref b.1 := by
    rw [he, List.map_map, List.map_map]
    rfl
  generalize ks.map (fun x => ((x.2.1, x.1) : Addr × List Key)) = bs at ka lb ev
  have km : bs.map (fun b => rowK b.2) = kvs.map fun p => rowK p.1 := by
    have := congrArg (List.map rowK) ka.1
    rw [List.map_map, List.map_map] at this
    exact this
  refine sorted_any (bs := bs) (vs := bs.map fun b => Value.ref b.1) (R := fun u b => u = .ref b.1) (enc := fun b => rowK b.2) (fun E' Q' k => ?_) each_ref ?_ (by rw [km]; exact al) (by rw [km]; exact so) lb (fun b hb => ?_) fun out h' tk p ep' eo hp kp e2 => ?_
  · refine collect_src (kdl_raw hs hx hdt) (I.ok.hd hc) ho le fun h' tk acc k1 k2 k3 => ?_
    have ea : acc = es.map fun en => en.key := by
      apply Array.ext
      · rw [Array.size_map]
        exact k3.1
      · intro i hi _
        obtain ⟨en, e1, e2⟩ := k3.2 i acc[i] (Array.getElem?_eq_getElem hi)
        rw [e2, Array.getElem_map]
        have h3 : i < es.size := by rw [← k3.1]; exact hi
        rw [Array.getElem?_eq_getElem h3] at e1
        rw [Option.some.inj e1]
    have : acc.toList = bs.map fun b => Value.ref b.1 := by
      rw [ea, Array.toList_map, ev]
    rw [this]
    exact k h' tk k1 k2
  · refine (PySem.W.each_mem each_ref).mono fun u b ⟨e1, m⟩ => ?_
    exact Dp.reads I (rowK b.2) (.ref b.1) u (.tup (SqT.of (ka.2 b m)) (dp_keys _)) e1
  · have := row_depth b.2
    omega
  · have lm : ((bs.mergeSort (PySem.W.dataLe false fun b => rowK b.2)).map fun b => V.ref b.1).length ≤ sizeLine := by
      rw [List.length_map, List.length_mergeSort]
      exact lb
    exact ⟨.ref p, _, I.laid (t' := tk) kp hp (show ObjOk X.prog X.w _ _ _ (.lst _) from ⟨lm, out, ep', vals_ref eo, e2⟩), rfl, q bs p ka (I.hok.fresh hp)⟩
section
variable {K : PySem.W.Frag} {ms : List MD} {R : RS}
theorem rc_sortK {as : List SD} (h : ∃ (k : Nat) (m : List (List Key × PyData)), as = [.q k] ∧ ms[k]? = some (.t m) ∧ PySem.W.AllAlike (m.map fun p => rowK p.1) ∧ PySem.W.Sortable (m.map fun p => rowK p.1) ∧ R (.f (sortD (m.map fun p => rowK p.1))) ms) : RC K rSortK as ms R := fun L M H vs hA ha Q q => by
  obtain ⟨k, m, rfl, hk, al, so, r⟩ := h
  obtain ⟨v, t, rfl, ⟨p, rfl, hp, _⟩, rfl⟩ := ha
  obtain ⟨kvs, e1, rt⟩ := hA.getT hp hk
  have km : kvs.map (fun p => rowK p.1) = m.map fun p => rowK p.1 := by
    have := congrArg (List.map rowK) rt.keys
    rw [List.map_map, List.map_map] at this
    exact this
  refine ⟨p, kvs, rfl, e1, by rw [km]; exact al, by rw [km]; exact so, fun bs l kb hl => ?_⟩
  have bm : bs.map (fun b => rowK b.2) = m.map fun p => rowK p.1 := by
    have := congrArg (List.map rowK) kb.1
    rw [List.map_map, List.map_map] at this
    rw [← km]
    exact this
  have e2 : (bs.mergeSort (PySem.W.dataLe false fun b => rowK b.2)).map (fun b => rowK b.2) = sortD (m.map fun p => rowK p.1) := by
    rw [← bm]
    exact PySem.W.sort_maps (r := PySem.W.dataLe false fun b : Addr × List Key => rowK b.2) (s := PySem.W.dataLe false id) (fun b : Addr × List Key => rowK b.2) (l := bs) fun a _ b _ => rfl
  have all : ∀ bs : List (Addr × List Key), (∀ b ∈ bs, H b.1 = some (.tup (b.2.map kV))) → RpA M H (bs.map fun b => V.ref b.1) (bs.map fun b => rowK b.2) := fun bs => by
    induction bs with
    | nil => exact fun _ => .nil
    | cons b r ih =>
      intro hb
      refine .cons (.tup (fun z => ?_) (hb b (by simp)) (rpa_keys _)) (ih fun c hc => hb c (by simp [hc]))
      obtain ⟨o, eo, no⟩ := hA.al _ z
      rw [hb b (by simp)] at eo
      cases eo
      exact no
  have rr := all (bs.mergeSort (PySem.W.dataLe false fun b => rowK b.2)) fun b hb => kb.2 b (List.mem_mergeSort.mp hb)
  rw [e2] at rr
  exact q (.f (sortD (m.map fun p => rowK p.1))) _ _ ms (Wk.new hl) (out_new hA (Wk.refl L H) hl rr) r
end
end Hc

namespace Hc
open PySem PySem.Spec PyProof.Rows L2
/-! ### a dict of lists that grow: d.setdefault(k, []).append(x) -/
def addL (k : Key) (d : PyData) : List (Key × List PyData) → List (Key × List PyData)
  | [] => [(k, [d])]
  | e :: r => if e.1 = k then (e.1, e.2 ++ [d]) :: r else e :: addL k d r
/-- the lists are new against H0, and no two are one -/
inductive Lv (H0 : Hp) (M : List Addr) (p : Addr) (H : Hp) : List (Key × V) → List (Key × List PyData) → Prop
  | nil : Lv H0 M p H [] []
  | cons {k : Key} {q : Addr} {xs : List V} {es : List PyData} {kvs : List (Key × V)} {m : List (Key × List PyData)} : H0 q = none → q ≠ p → H q = some (.lst xs) → RpA M H0 xs es → (∀ x ∈ kvs, x.2 ≠ .ref q) → Lv H0 M p H kvs m → Lv H0 M p H ((k, .ref q) :: kvs) ((k, es) :: m)
section
variable {H0 H H' : Hp} {M : List Addr} {p : Addr}
theorem Lv.else {q : Addr} (w : ∀ a, a ≠ q → H' a = H a) : ∀ {kvs : List (Key × V)} {m : List (Key × List PyData)}, Lv H0 M p H kvs m → (∀ x ∈ kvs, x.2 ≠ .ref q) → Lv H0 M p H' kvs m
  | _, _, .nil, _ => .nil
  | _, _, .cons (q := q1) a b c d e f, n => by
    have hq : q1 ≠ q := fun z => n _ (List.mem_cons_self ..) (by rw [z])
    exact .cons a b (by rw [w q1 hq]; exact c) d e (Lv.else w f fun x hx => n x (List.mem_cons_of_mem _ hx))
theorem Lv.length : ∀ {kvs : List (Key × V)} {m : List (Key × List PyData)}, Lv H0 M p H kvs m → kvs.length = m.length
  | _, _, .nil => rfl
  | _, _, .cons _ _ _ _ _ f => congrArg (· + 1) (Lv.length f)
theorem Lv.apart {q : Addr} (hq : H q = none) : ∀ {kvs : List (Key × V)} {m : List (Key × List PyData)}, Lv H0 M p H kvs m → ∀ x ∈ kvs, x.2 ≠ .ref q
  | _, _, .nil, x, hx => by cases hx
  | _, _, .cons a b c d e f, x, hx => by
    rcases List.mem_cons.mp hx with rfl | hx
    · intro z
      injection z with z
      rw [z, hq] at c
      cases c
    · exact Lv.apart hq f x hx
/-- one more at a key that is there -/
theorem Lv.more {k : Key} {y : V} {d : PyData} (ry : Rp M H0 y d) {v : V} : ∀ {kvs : List (Key × V)} {m : List (Key × List PyData)}, Lv H0 M p H kvs m → valV kvs k = some v →
    ∃ q xs, v = .ref q ∧ q ≠ p ∧ H q = some (.lst xs) ∧ H0 q = none ∧ (∃ x ∈ kvs, x.2 = .ref q) ∧ (∃ es, (k, es) ∈ m ∧ xs.length = es.length) ∧ Lv H0 M p (upd H q (.lst (xs ++ [y]))) kvs (addL k d m)
  | _, _, .nil, e => by cases e
  | _, _, .cons (k := k1) (q := q1) (xs := xs1) (es := es1) (kvs := kvs1) (m := m1) a b c d1 e f, hv => by
    by_cases hk : k1 = k
    · rw [valV_pos hk] at hv
      cases hv
      refine ⟨q1, xs1, rfl, b, c, a, ⟨_, List.mem_cons_self .., rfl⟩, ⟨es1, by rw [hk]; exact List.mem_cons_self .., d1.length⟩, ?_⟩
      have ea : addL k d ((k1, es1) :: m1) = (k1, es1 ++ [d]) :: m1 := if_pos hk
      rw [ea]
      exact .cons a b upd_same (d1.append (.cons ry .nil)) e (f.else (q := q1) (fun x hx => upd_ne hx) e)
    · rw [valV_neg hk] at hv
      obtain ⟨q, xs, h1, h2, h3, h4, ⟨x, hx, ex⟩, ⟨es2, hm, hl⟩, h6⟩ := Lv.more ry f hv
      have ea : addL k d ((k1, es1) :: m1) = (k1, es1) :: addL k d m1 := if_neg hk
      have ne : q1 ≠ q := fun z => e x hx (by rw [ex, z])
      refine ⟨q, xs, h1, h2, h3, h4, ⟨x, List.mem_cons_of_mem _ hx, ex⟩, ⟨es2, List.mem_cons_of_mem _ hm, hl⟩, ?_⟩
      rw [ea]
      exact .cons a b (by rw [upd_ne ne]; exact c) d1 e h6
/-- a key that is new -/
theorem Lv.newk {k : Key} {y : V} {d : PyData} {q : Addr} (ry : Rp M H0 y d) (hq : H0 q = none) (qp : q ≠ p) : ∀ {kvs : List (Key × V)} {m : List (Key × List PyData)}, Lv H0 M p H kvs m → valV kvs k = none → (∀ x ∈ kvs, x.2 ≠ .ref q) →
    Lv H0 M p (upd H q (.lst [y])) (kvs ++ [(k, .ref q)]) (addL k d m)
  | _, _, .nil, _, _ => .cons hq qp upd_same (.cons ry .nil) (fun _ h => by cases h) .nil
  | _, _, .cons (k := k1) (q := q1) (es := es1) (kvs := kvs1) (m := m1) a b c d1 e f, hv, n => by
    have hk : ¬ k1 = k := fun z => by rw [valV_pos z] at hv; cases hv
    rw [valV_neg hk] at hv
    have ea : addL k d ((k1, es1) :: m1) = (k1, es1) :: addL k d m1 := if_neg hk
    have ne : q1 ≠ q := fun z => n _ (List.mem_cons_self ..) (by rw [z])
    rw [ea]
    refine .cons a b (by rw [upd_ne ne]; exact c) d1 (fun x hx => ?_) (Lv.newk ry hq qp f hv fun x hx => n x (List.mem_cons_of_mem _ hx))
    rcases List.mem_append.mp hx with z | z
    · exact e x z
    · rw [List.mem_singleton.mp z]
      intro z2
      injection z2 with z2
      exact ne z2.symm
/-- how the dict stands -/
structure Ld (H0 : Hp) (M : List Addr) (p : Addr) (m : List (Key × List PyData)) (H : Hp) : Prop where
  keep : ∀ a o, H0 a = some o → H a = some o
  new : H0 p = none
  dict : ∃ kvs, H p = some (.dK kvs) ∧ Lv H0 M p H kvs m
theorem Ld.back {m : List (Key × List PyData)} (h : Ld H0 M p m H) {q : Addr} (e : H q = none) : H0 q = none := by
  cases z : H0 q with
  | none => rfl
  | some o => rw [h.keep q o z] at e; cases e
theorem Lv.notp : ∀ {kvs : List (Key × V)} {m : List (Key × List PyData)}, Lv H0 M p H kvs m → ∀ x ∈ kvs, x.2 ≠ .ref p
  | _, _, .nil, x, hx => by cases hx
  | _, _, .cons a b c d e f, x, hx => by
    rcases List.mem_cons.mp hx with rfl | hx
    · intro z
      injection z with z
      exact b z
    · exact Lv.notp f x hx
theorem put_end {kvs : List (Key × V)} {k : Key} {z : V} (h : valV kvs k = none) : putK kvs k z = kvs ++ [(k, z)] := by
  unfold putK
  rw [valV_any, h]
  rfl
theorem Ld.step {K : PySem.W.Frag} {m : List (Key × List PyData)} {i j s : Nat} {σ : L2.St} {k : Key} {y : V} {d : PyData} {Q : VK} (h : Ld H0 M p m H) (hi : σ[i]? = some (some (.ref p))) (hj : σ[j]? = some (some (kV k))) (hs : σ[s]? = some (some y)) (ry : Rp M H0 y d)
    (hl : m.length < 10000) (he : ∀ e ∈ m, e.2.length < 10000) (q : ∀ H', Ld H0 M p (addL k d m) H' → Q .non H') : tBM K "list" rAppend (tDSetd (tVar i) (tVar j) (tLst tNil)) (tCons (tVar s) tNil) σ H Q := by
  obtain ⟨kvs, e1, lv⟩ := h.dict
  refine ⟨_, hi, p, rfl, .inl ⟨kvs, .inl e1⟩, _, hj, Nat.zero_le _, fun b hb => ?_⟩
  have bp : b ≠ p := fun z => by rw [z, e1] at hb; cases hb
  have b0 := h.back hb
  have ap := lv.apart hb
  refine ⟨kvs, k, by rw [upd_ne (Ne.symm bp)]; exact e1, rfl, by rw [lv.length]; exact Nat.lt_trans hl (by decide), fun v hv => ?_, fun hn => ?_⟩
  · obtain ⟨q1, xs, rfl, qp, e2, hq0, _, ⟨es, hm, hle⟩, lv'⟩ := lv.more ry hv
    have nq : q1 ≠ b := fun z => by rw [z, hb] at e2; cases e2
    have e3 : upd H b (.lst []) q1 = some (.lst xs) := by rw [upd_ne nq]; exact e2
    refine ⟨.inl ⟨rfl, xs, SqL.of e3⟩, _, hs, q1, xs, y, rfl, rfl, e3, by rw [hle]; exact Nat.lt_trans (he _ hm) (by decide), q _ ⟨fun a o ea => ?_, h.new, kvs, ?_, ?_⟩⟩
    · have a1 : a ≠ q1 := fun z => by rw [z, hq0] at ea; cases ea
      have a2 : a ≠ b := fun z => by rw [z, b0] at ea; cases ea
      rw [upd_ne a1, upd_ne a2]
      exact h.keep a o ea
    · rw [upd_ne (Ne.symm qp), upd_ne (Ne.symm bp)]
      exact e1
    · refine lv'.else (q := b) (fun a ha => ?_) ap
      by_cases z : a = q1
      · rw [z, upd_same, upd_same]
      · rw [upd_ne z, upd_ne ha, upd_ne z]
  · rw [put_end hn]
    have e3 : upd (upd H b (.lst [])) p (.dK (kvs ++ [(k, .ref b)])) b = some (.lst []) := by rw [upd_ne bp, upd_same]
    refine ⟨.inl ⟨rfl, [], SqL.of e3⟩, _, hs, b, [], y, rfl, rfl, e3, by decide, q _ ⟨fun a o ea => ?_, h.new, kvs ++ [(k, .ref b)], ?_, ?_⟩⟩
    · have a1 : a ≠ p := fun z => by rw [z, h.new] at ea; cases ea
      have a2 : a ≠ b := fun z => by rw [z, b0] at ea; cases ea
      rw [upd_ne a2, upd_ne a1, upd_ne a2]
      exact h.keep a o ea
    · rw [upd_ne (Ne.symm bp), upd_same]
    · have lv' := lv.newk (k := k) ry b0 bp hn ap
      refine lv'.else (q := p) (fun a ha => ?_) lv'.notp
      by_cases z : a = b
      · rw [z, upd_same, upd_same]
        rfl
      · rw [upd_ne z, upd_ne ha, upd_ne z, upd_ne z]
end
/-- all loads of some rows -/
def addR (m : List (Key × List PyData)) (w : List Key × PyData) : List (Key × List PyData) := w.1.foldl (fun m k => addL k w.2 m) m
def addAll (ws : List (List Key × PyData)) : List (Key × List PyData) := ws.foldl addR []
def Bnd (c : Nat) (m : List (Key × List PyData)) : Prop := m.length ≤ c ∧ ∀ e ∈ m, e.2.length ≤ c
theorem bnd_add {k : Key} {d : PyData} {c : Nat} : ∀ {m : List (Key × List PyData)}, Bnd c m → Bnd (c + 1) (addL k d m) := fun {m} h => by
  have len : ∀ m : List (Key × List PyData), (addL k d m).length ≤ m.length + 1 := fun m => by
    induction m with
    | nil => exact Nat.le_refl _
    | cons e r ih =>
      unfold addL
      split
      · simp
      · simp; exact ih
  have all : ∀ m : List (Key × List PyData), (∀ e ∈ m, e.2.length ≤ c) → ∀ e ∈ addL k d m, e.2.length ≤ c + 1 := fun m => by
    induction m with
    | nil =>
      intro _ e he
      have : e = (k, [d]) := by simpa [addL] using he
      rw [this]
      simp
    | cons x r ih =>
      intro hm e he
      unfold addL at he
      split at he
      · rcases List.mem_cons.mp he with rfl | he
        · have := hm x (List.mem_cons_self ..)
          simp
          exact this
        · have := hm e (List.mem_cons_of_mem _ he)
          omega
      · rcases List.mem_cons.mp he with rfl | he
        · have := hm e (List.mem_cons_self ..)
          omega
        · exact ih (fun y hy => hm y (List.mem_cons_of_mem _ hy)) e he
  exact ⟨Nat.le_trans (len m) (Nat.succ_le_succ h.1), all m h.2⟩
theorem bnd_fold {d : PyData} : ∀ (l : List Key) {c : Nat} {m : List (Key × List PyData)}, Bnd c m → Bnd (c + l.length) (l.foldl (fun m k => addL k d m) m)
  | [], _, _, h => h
  | k :: r, c, m, h => by
    have := bnd_fold (d := d) r (bnd_add (k := k) (d := d) h)
    rw [List.length_cons, show c + (r.length + 1) = c + 1 + r.length by omega]
    exact this
theorem bnd_rows : ∀ (ws : List (List Key × PyData)) {c : Nat} {m : List (Key × List PyData)}, Bnd c m → Bnd (c + (ws.map fun w => w.1.length).sum) (ws.foldl addR m)
  | [], _, _, h => h
  | w :: r, c, m, h => by
    have := bnd_rows r (bnd_fold (d := w.2) w.1 h)
    rw [List.map_cons, List.sum_cons, ← Nat.add_assoc]
    exact this
section
variable {K : PySem.W.Frag} {ds : List SD} {ms : List MD} {L M : List Addr} {H H' : Hp} {P : Po} {u : TS}
theorem At.stay (h : At L M ms H) (k : ∀ a o, H a = some o → H' a = some o) : At L M ms H' := by
  refine ⟨h.nd, h.sub, fun q hq => ?_, h.ln, fun j q m e1 e2 => ?_⟩
  · obtain ⟨o, e, n⟩ := h.al q hq
    exact ⟨o, k q o e, n⟩
  · obtain ⟨o, e, _⟩ := h.al q (h.sub q (List.mem_of_getElem? e1))
    exact (h.ok j q m e1 e2).to (h.wk (.of k)) (by rw [e, k q o e])
theorem Lv.data {p : Addr} {M' : List Addr} (fr : ∀ q, H q = none → q ≠ p → q ∉ M') (t : To M M' H H') : ∀ {kvs : List (Key × V)} {m : List (Key × List PyData)}, Lv H M p H' kvs m → RpK M' H' kvs (kD (m.map fun e => (e.1, .list e.2)))
  | _, _, .nil => .nil
  | _, _, .cons a b c d e f => .cons (.lst (fr _ a b) c (RpA.to t _ _ d)) (Lv.data fr t f)
/-- for ring, share in rows: for tie in ring: d.setdefault(tie, []).append(share) -/
theorem loads_raw {i q r s j : Nat} {ws : List (List Key × PyData)} {σ : L2.St} {p : Addr} {D : Ends} (hS : Sl K L M σ H ds) (hp : H p = none) (hq : ds[q]? = some (.d (.tuple (ws.map fun w => .tuple [rowK w.1, w.2])))) (ne : [i, q, r, s, j].Nodup) (li : i < ds.length) (lr : r < ds.length) (ls : s < ds.length) (lj : j < ds.length) (hz : (ws.map fun w => w.1.length).sum < 10000)
    (fin : ∀ σ' H', σ'.length = σ.length → (∀ t, t ≠ r → t ≠ s → t ≠ j → σ'[t]? = (σ.set i (some (V.ref p)))[t]?) → Ld H M p (addAll ws) H' → D.nx σ' H') :
    tFor (iTup K (tVar q)) (gTup K 2 (gCons (gName r) (gCons (gName s) gNil))) (tFor (iTup K (tVar r)) (gName j) (tDrop (tBM K "list" rAppend (tDSetd (tVar i) (tVar j) (tLst tNil)) (tCons (tVar s) tNil)))) D (σ.set i (some (V.ref p))) (upd H p (.dK [])) := by
  simp only [List.nodup_cons, List.mem_cons, List.not_mem_nil, or_false, not_or, not_false_eq_true, List.nodup_nil, and_true] at ne
  obtain ⟨⟨iq, ir, is, ij⟩, ⟨qr, qs, qj⟩, ⟨rs, rj⟩, sj⟩ := ne
  obtain ⟨v, ev, rv⟩ := hS q _ hq
  have rv : Rp M H v (.tuple (ws.map fun w => .tuple [rowK w.1, w.2])) := rv
  have len : ∀ {t : Nat}, t < ds.length → t < σ.length := fun ht => hS.lt ht
  have lσ : (σ.set i (some (V.ref p))).length = σ.length := List.length_set
  cases rv with
  | @tup a xs _ na ea ra =>
  have ld0 : Ld H M p [] (upd H p (.dK [])) := ⟨fun x o e => by rw [upd_ne (fun z => by rw [z, hp] at e; cases e)]; exact e, hp, [], upd_same, .nil⟩
  have fr0 : ∀ t, t ≠ r → t ≠ s → t ≠ j → (σ.set i (some (V.ref p)))[t]? = (σ.set i (some (V.ref p)))[t]? := fun _ _ _ _ => rfl
  have iget : (σ.set i (some (V.ref p)))[i]? = some (some (V.ref p)) := List.getElem?_set_self (len li)
  refine ⟨_, by rw [List.getElem?_set_ne iq]; exact ev, a, rfl, ⟨xs, SqT.of (ld0.keep a _ ea)⟩, for_tup (xs := xs) (fun k σ' H' => σ'.length = σ.length ∧ (∀ t, t ≠ r → t ≠ s → t ≠ j → σ'[t]? = (σ.set i (some (V.ref p)))[t]?) ∧ Ld H M p (addAll (ws.take k)) H') ⟨lσ, fr0, ld0⟩ (fun k σ' H' _ ⟨_, _, ld⟩ => SqT.of (ld.keep a _ ea)) (fun k x σ' H' hx ⟨l1, f1, ld⟩ => ?_) (fun σ' H' ⟨l1, f1, ld⟩ => ?_)⟩
  · obtain ⟨e, e1, e2⟩ := ra.get' hx
    rw [List.getElem?_map] at e1
    cases hw : ws[k]? with
    | none => rw [hw] at e1; cases e1
    | some w =>
    rw [hw] at e1
    have e1 := (Option.some.inj e1).symm
    subst e1
    cases e2 with
    | @tup b1 ys _ nb eb rb =>
    cases rb with
    | @cons y1 r1 _ _ ry1 rb =>
    cases rb with
    | @cons y2 r2 _ _ ry2 rb =>
    cases rb
    obtain ⟨c1, rfl, ec⟩ := row_key ry1
    refine ⟨b1, _, rfl, SqT.of (ld.keep _ _ eb), rfl, _, _, rfl, _, _, rfl, rfl, ?_⟩
    have hsum : ((ws.take k).map fun w => w.1.length).sum + w.1.length < 10000 := by
      have h1 : ((ws.take (k + 1)).map fun w => w.1.length).sum ≤ (ws.map fun w => w.1.length).sum := by
        conv => rhs; rw [← List.take_append_drop (k + 1) ws, List.map_append, List.sum_append]
        omega
      have h2 : ([w].map fun w : List Key × PyData => w.1.length).sum = w.1.length := by simp
      rw [take_snoc hw, List.map_append, List.sum_append, h2] at h1
      exact Nat.lt_of_le_of_lt h1 hz
    have rget : ((σ'.set r (some (V.ref c1))).set s (some y2))[r]? = some (some (V.ref c1)) := by
      rw [List.getElem?_set_ne (Ne.symm rs), List.getElem?_set_self (by rw [l1]; exact len lr)]
    have sget : ((σ'.set r (some (V.ref c1))).set s (some y2))[s]? = some (some y2) := List.getElem?_set_self (by rw [List.length_set, l1]; exact len ls)
    refine ⟨_, rget, c1, rfl, ⟨_, SqT.of (ld.keep _ _ ec)⟩, for_tup (xs := w.1.map kV) (fun n2 σ2 H2 => σ2.length = σ.length ∧ (∀ t, t ≠ r → t ≠ s → t ≠ j → σ2[t]? = (σ.set i (some (V.ref p)))[t]?) ∧ σ2[s]? = some (some y2) ∧ Ld H M p ((w.1.take n2).foldl (fun m k => addL k w.2 m) (addAll (ws.take k))) H2) ⟨by simp [l1], fun t h1 h2 h3 => ?_, sget, ld⟩ (fun n2 σ2 H2 _ ⟨_, _, _, ld2⟩ => SqT.of (ld2.keep _ _ ec)) (fun n2 z σ2 H2 hz2 ⟨l2, f2, s2, ld2⟩ => ?_) (fun σ2 H2 ⟨l2, f2, s2, ld2⟩ => ?_)⟩
    · rw [List.getElem?_set_ne (Ne.symm h2), List.getElem?_set_ne (Ne.symm h1)]
      exact f1 t h1 h2 h3
    · rw [List.getElem?_map] at hz2
      cases hk : w.1[n2]? with
      | none => rw [hk] at hz2; cases hz2
      | some key =>
      rw [hk] at hz2
      have ez := (Option.some.inj hz2).symm
      subst ez
      have hn2 := (List.getElem?_eq_some_iff.mp hk).1
      have bd : Bnd 9999 ((w.1.take n2).foldl (fun m k => addL k w.2 m) (addAll (ws.take k))) := by
        have b0 : Bnd 0 ([] : List (Key × List PyData)) := ⟨Nat.le_refl _, fun _ h => by cases h⟩
        have b1 := bnd_fold (d := w.2) (w.1.take n2) (bnd_rows (ws.take k) b0)
        have : 0 + ((ws.take k).map fun w => w.1.length).sum + (w.1.take n2).length ≤ 9999 := by rw [List.length_take]; omega
        exact ⟨Nat.le_trans b1.1 this, fun e he => Nat.le_trans (b1.2 e he) this⟩
      refine ld2.step (σ := σ2.set j (some (kV key))) ?_ (List.getElem?_set_self (by rw [l2]; exact len lj)) ?_ ry2 (Nat.lt_succ_of_le bd.1) (fun e he => Nat.lt_succ_of_le (bd.2 e he)) fun H3 ld3 => ⟨by simp [l2], fun t h1 h2 h3 => ?_, ?_, ?_⟩
      · rw [List.getElem?_set_ne (Ne.symm ij), f2 i ir is ij]
        exact iget
      · rw [List.getElem?_set_ne (Ne.symm sj)]
        exact s2
      · rw [List.getElem?_set_ne (Ne.symm h3)]
        exact f2 t h1 h2 h3
      · rw [List.getElem?_set_ne (Ne.symm sj)]
        exact s2
      · rw [take_snoc hk, List.foldl_append]
        exact ld3
    · refine ⟨l2, f2, ?_⟩
      rw [List.length_map, List.take_length] at ld2
      have : addAll (ws.take (k + 1)) = w.1.foldl (fun m k => addL k w.2 m) (addAll (ws.take k)) := by
        unfold addAll
        rw [take_snoc hw, List.foldl_append]
        rfl
      rw [this]
      exact ld2
  · have lx : xs.length = ws.length := by rw [ra.length, List.length_map]
    rw [lx, List.take_length] at ld
    exact fin σ' H' l1 f1 ld
/-- behind it only what is told goes on -/
def Po.only (P : Po) (n : Nat) : Po where
  nx := fun _ _ => False
  rt := fun s ms' => ∃ ms1 x, ms' = ms1 ++ [x] ∧ ms1.length = n ∧ (∃ y, s = .d y ∨ ∃ fs, s = .f fs) ∧ P.rt s ms1
  bk := fun _ _ => False
  ct := fun _ _ => False
theorem s_loads {i q r s j : Nat} {ws : List (List Key × PyData)} (hq : ds[q]? = some (.d (.tuple (ws.map fun w => .tuple [rowK w.1, w.2])))) (ne : [i, q, r, s, j].Nodup) (li : i < ds.length) (lr : r < ds.length) (ls : s < ds.length) (lj : j < ds.length) (hz : (ws.map fun w => w.1.length).sum < 10000)
    (h : S K u ((((ds.set r .u).set s .u).set j .u).set i (.q ms.length)) (ms ++ [.k (kD ((addAll ws).map fun e => (e.1, .list e.2)))]) (P.only ms.length)) :
    S K (tSeq (tAsg tDNewK (gName i)) (tSeq (tFor (iTup K (tVar q)) (gTup K 2 (gCons (gName r) (gCons (gName s) gNil))) (tFor (iTup K (tVar r)) (gName j) (tDrop (tBM K "list" rAppend (tDSetd (tVar i) (tVar j) (tLst tNil)) (tCons (tVar s) tNil))))) u)) ds ms P := fun L M σ H hS hA D n rt b c p hp => by
  refine loads_raw (D := { D with nx := u D }) hS hp hq ne li lr ls lj hz fun σ' H' l1 f1 ld => ?_
  simp only [List.nodup_cons, List.mem_cons, List.not_mem_nil, or_false, not_or, not_false_eq_true, List.nodup_nil, and_true] at ne
  obtain ⟨⟨iq, ir, is, ij⟩, _, _, _⟩ := ne
  have w : Wk L H H' := .of ld.keep
  have t : To M (M ++ [p]) H H' := to_new hA hp w
  have nl := hA.freshL hp
  obtain ⟨kvs, ep, lv⟩ := ld.dict
  have len : ∀ {t : Nat}, t < ds.length → t < σ'.length := fun ht => by rw [l1]; exact hS.lt ht
  have aQ : At (L ++ [p]) (M ++ [p]) (ms ++ [.k (kD ((addAll ws).map fun e => (e.1, .list e.2)))]) H' := by
    constructor
    · exact List.nodup_append.mpr ⟨hA.nd, by simp, fun x hx y hy z => nl (by rw [List.mem_singleton.mp hy] at z; exact z ▸ hx)⟩
    · intro x hx
      rcases List.mem_append.mp hx with z | z
      · exact List.mem_append_left _ (hA.sub x z)
      · exact List.mem_append_right _ z
    · intro x hx
      rcases List.mem_append.mp hx with z | z
      · obtain ⟨o, e, no⟩ := hA.al x z
        exact ⟨o, ld.keep x o e, no⟩
      · rw [List.mem_singleton.mp z]
        exact ⟨_, ep, trivial⟩
    · rw [List.length_append, List.length_append, hA.ln]
      rfl
    · intro k x y e1 e2
      rcases Nat.lt_or_ge k L.length with hk | hk
      · rw [List.getElem?_append_left hk] at e1
        rw [List.getElem?_append_left (by rw [← hA.ln]; exact hk)] at e2
        obtain ⟨o, e, _⟩ := hA.al x (hA.sub x (List.mem_of_getElem? e1))
        exact (hA.ok k x y e1 e2).toL t (fun k' q' _ z => by rw [List.getElem?_append_left (List.getElem?_eq_some_iff.mp z).1]; exact z) (by rw [e, ld.keep x o e])
      · have hkl := (List.getElem?_eq_some_iff.mp e1).1
        have ek : k = L.length := by
          rw [List.length_append] at hkl
          have : k < L.length + 1 := hkl
          omega
        subst ek
        have ex : p = x := by simpa using e1
        rw [hA.ln] at e2
        have ey : MD.k (kD ((addAll ws).map fun e => (e.1, .list e.2))) = y := by simpa using e2
        subst ex ey
        exact ⟨kvs, ep, lv.data (fun q hq hqp z => (List.mem_append.mp z).elim (hA.fresh hq) fun z => hqp (List.mem_singleton.mp z)) t⟩
  have hS' := hS.to t w.kd (L' := L ++ [p]) fun k q e => by rw [List.getElem?_append_left (List.getElem?_eq_some_iff.mp e).1]; exact e
  have ig : σ'[i]? = some (some (V.ref p)) := by rw [f1 i ir is ij]; exact List.getElem?_set_self (hS.lt li)
  refine h (L ++ [p]) (M ++ [p]) σ' H' (fun t s0 e => ?_) aQ D (fun _ _ _ _ _ _ _ z => z.elim) ?_ (fun _ _ _ _ _ _ _ z => z.elim) (fun _ _ _ _ _ _ _ z => z.elim)
  · by_cases ti : t = i
    · subst ti
      rw [List.getElem?_set_self (by simpa using li)] at e
      cases e
      exact ⟨_, ig, p, rfl, by rw [← hA.ln]; simp, _, ep, .inl rfl⟩
    rw [List.getElem?_set_ne (Ne.symm ti)] at e
    by_cases tj : t = j
    · subst tj
      rw [List.getElem?_set_self (by simpa using lj)] at e
      cases e
      exact len lj
    rw [List.getElem?_set_ne (Ne.symm tj)] at e
    by_cases tsx : t = s
    · subst tsx
      rw [List.getElem?_set_self (by simpa using ls)] at e
      cases e
      exact len ls
    rw [List.getElem?_set_ne (Ne.symm tsx)] at e
    by_cases tr : t = r
    · subst tr
      rw [List.getElem?_set_self lr] at e
      cases e
      exact len lr
    rw [List.getElem?_set_ne (Ne.symm tr)] at e
    have same : σ'[t]? = σ[t]? := by rw [f1 t tr tsx tj, List.getElem?_set_ne (Ne.symm ti)]
    have z := hS' t s0 e
    cases s0 with
    | u => show t < σ'.length; rw [l1]; exact z
    | _ =>
      obtain ⟨v, e1, e2⟩ := z
      exact ⟨v, by rw [same]; exact e1, e2⟩
  · rintro s2 v2 H2 ms2 w2 o2 ⟨ms3, x3, rfl, l3, ⟨y, hy⟩, n3⟩
    have wk : Wk L H H2 := by
      constructor
      · intro x o nx ex
        have hx : x ≠ p := ne_of_none ex hp
        exact w2 x o (fun z => (List.mem_append.mp z).elim nx fun z => hx (List.mem_singleton.mp z)) (ld.keep x o ex)
      · intro x o ex
        exact w2.kd x o (ld.keep x o ex)
    refine rt s2 v2 H2 ms3 wk ?_ n3
    rcases hy with rfl | ⟨fs, rfl⟩
    · exact ⟨o2.1.drop hA.sub, Rp.to to_less _ _ o2.2⟩
    · obtain ⟨q1, rfl, hq1, nq, aq, _⟩ := o2
      have nqM : q1 ∉ M := fun z => nq (List.mem_append_left _ z)
      exact ⟨q1, rfl, ld.back hq1, nqM, At.dropMid rfl aq hA.sub, hA.sub⟩
end
end Hc

namespace Hc
open PySem PySem.Spec PyProof.Rows L2
/-! ### a comprehension over a dict's keys: the dict is locked from there on -/
section
variable {K : PySem.W.Frag} {tt : TT} {te : TE} {ds : List SD} {ms : List MD} {R : RS}
theorem e_lcK {i k : Nat} {g : TG} {js vs : List Nat} {m : List (Key × PyData)} (hj : ∀ j ∈ js, j ∈ vs) (hi : ds[i]? = some (.q k)) (hk : ms[k]? = some (.k (kD m))) (hz : m.length ≤ 10000)
    (h : ∀ (o : Obj) (kvs : List (Key × V)), ∃ Pv : Nat → List PyData → List MD → Prop, Pv 0 [] (ms.set k (.z o kvs (kD m))) ∧ (∀ n acc ms1, Pv n acc ms1 → ms1[k]? = some (.z o kvs (kD m))) ∧
      (∀ n key d acc ms1, m[n]? = some (key, d) → Pv n acc ms1 → Lt K g js tt te vs ds (.d (keyD key)) ms1 acc (Pv (n + 1))) ∧ ∀ acc ms1, Pv m.length acc ms1 → R (.f acc) ms1) :
    E K (tLc (iKeys (tLkN (tVar i))) g tt te vs) ds ms R := fun L M σ H hS hA Q q => by
  obtain ⟨v, ev, p, rfl, hp, _⟩ := hS.get hi (fun z => nomatch z)
  obtain ⟨kvs, e1, r1⟩ := hA.getK hp hk
  have rk := rk_of r1
  have hpL : p ∈ L := List.mem_of_getElem? hp
  refine ⟨_, ev, p, kvs, rfl, e1, fun o => ⟨p, o, rfl, .inl ⟨kvs, upd_same, fun D hD => ?_⟩⟩⟩
  obtain ⟨Pv, h0, hl, hs, hd⟩ := h o kvs
  have w1 : Wk L H (upd H p (.frz o (.dK kvs))) := Wk.mut hpL e1
  have a1 : At L M (ms.set k (.z o kvs (kD m))) (upd H p (.frz o (.dK kvs))) := hA.putO hp e1 rfl trivial fun t => ⟨upd_same, r1.toP t⟩
  have hDL := a1.freshL hD
  have lock : ∀ {H' : Hp} {n : Nat} {acc : List PyData} {ms' : List MD}, Cs L M (upd H p (.frz o (.dK kvs))) D n acc ms' H' → Pv n acc ms' → H' p = some (.frz o (.dK kvs)) := fun c pv => (c.a.ok k p _ hp (hl _ _ _ pv)).1
  refine lc_it walk_keys (fun n H' => ∃ acc ms', Cs L M (upd H p (.frz o (.dK kvs))) D n acc ms' H' ∧ Pv n acc ms') ⟨[], _, .start a1 hD, h0⟩ (fun n H' _ ⟨_, _, c, pv⟩ => lock c pv) (fun n x H' H2 hn ⟨acc, ms', c, pv⟩ y => ?_) (fun H' ⟨acc, ms', c, pv⟩ => ?_)
  · obtain ⟨rfl, key, v, qk, rfl⟩ := y
    obtain ⟨d, f1, _⟩ := rk.get' qk
    have hl2 := (List.getElem?_eq_some_iff.mp f1).1
    exact lc_turn (x := .d (keyD key)) (v := kV key) (Nn := Pv) hj (by omega) (hS.mono hA w1) a1 hD c (rp_key key) (hs n key d acc ms' f1 pv)
  · rw [rk.length] at pv
    exact q (.f acc) _ H' ms' (w1.trans c.w) ⟨D, rfl, none_back a1 w1 (a1.fresh hD) hD, a1.fresh hD, c.done a1.sub hDL, a1.sub⟩ (hd acc ms' pv)
theorem rc_any {as : List SD} (h : ∃ (s : SD) (bs : List Bool), as = [s] ∧ Sv ms s (.list (bs.map .bool)) ∧ R (.d (.bool (bs.any id))) ms) : RC K (rAny K) as ms R := fun L M H vs hA ha Q q => by
  obtain ⟨s, bs, rfl, sv, r⟩ := h
  obtain ⟨v, t, rfl, hv, rfl⟩ := ha
  obtain ⟨p, xs, rfl, hq, hr⟩ := sv.lst hA hv
  rw [RpA.bools_inv hr] at hq
  exact ⟨p, bs, rfl, hq, q (.d _) _ H ms (Wk.refl L H) ⟨hA, .bl _⟩ r⟩
/-- d[y] of a locked dict -/
theorem e_dgetZ {td ty : TE} (h : E K td ds ms fun s ms1 => ∃ k, s = .q k ∧ E K ty ds ms1 fun y ms2 => ∃ o kvs m key d, ms2[k]? = some (.z o kvs (kD m)) ∧ dd y = .d (keyD key) ∧ valD m key = some d ∧ R (.d d) ms2) : E K (tDGet td ty) ds ms R := fun L M σ H hS hA Q q =>
  h L M σ H hS hA _ fun s x H1 ms1 w1 o1 ⟨k, ek, h1⟩ => h1 L M σ H1 (hS.mono hA w1) o1.at _ fun y z H2 ms2 w2 o2 ⟨o, kvs, m, key, d, em, ey, hv, r⟩ => by
    subst ek
    obtain ⟨_, p, rfl, hp, _⟩ := o1
    have a2 := o2.at
    have oz := o2.sl
    rw [ey] at oz
    obtain ⟨e1, r1⟩ := (show _ ∧ _ from a2.ok k p _ hp em)
    obtain ⟨v, e2, e3⟩ := ((rk_of r1).val key).2 d hv
    exact ⟨p, v, rfl, .inl ⟨kvs, key, .inr ⟨o, e1⟩, Rp.key oz, e2.symm⟩, q (.d d) v H2 ms2 (w1.trans w2) ⟨a2, e3⟩ r⟩
end
end Hc

namespace Hc
open PySem PySem.Spec PyProof.Rows L2
/-! ### a def that is never called -/
theorem pss_nev {X : Cx} {st : List Stmt} : PSs X st fun _ _ _ => False := ⟨fun _ _ _ _ _ _ z => z.elim⟩
/-! ### list(reversed(xs)), xs a list -/
section
variable {prog : Program} {w : World} {A : Around} {E : Value → Shared → Prop} {s : Shared}
abbrev newL (c : Nat) (a : Array Value) : Obj := { cls := .type "list", data := .seq a c }
/-- what the iterator hands out, put behind one another in S -/
theorem ext_back {S it l : Addr} {vs : Array Value} {c : Nat} {res : Value} {R : Result → Shared → Prop} (calm : A.handled = none) (at_it : s.heap.IsRevIter it l ((vs.size : Int) - 1)) (at_l : s.heap.IsList l vs)
    (ne : l ≠ it) (n1 : S ≠ it) (n2 : S ≠ l) (fits : vs.size ≤ sizeLine) (at_S : s.heap.get? S = some (newL c #[]))
    (go : ∀ (h : Heap) (tk : Nat) (out : Array Value) (c' : Nat), (∀ b o, b ≠ it → b ≠ S → s.heap.get? b = some o → h.get? b = some o) → h.get? S = some (newL c' out) → ItemsOf (fun i v => vs[vs.size - 1 - i]? = some v) out vs.size → R (.ok (.ret res)) { s with heap := h, toks := tk }) :
    wpAny (model prog w) A.in1 (Builtin.List.listExtendWith (.ref S) (.ref it) res) (fun f s' => match f with | .done x => R (.ok x) s' | .again k => k.quiet = true ∧ codeAny (model prog w) A k R s') (fun e s' => R (.error e) s') s := by
  have ty : s.TypeIs (.ref it) "list_reverseiterator" := at_it.typeIs
  have apart : S ∉ [it, l] := fun z => by
    rcases List.mem_cons.mp z with z | z
    · exact n1 z
    · exact n2 (List.mem_singleton.mp z)
  have alike : Builtin.List.listSameRef (.ref S) (.ref it) = false := by simp [Builtin.List.listSameRef, n1]
  unfold Builtin.List.listExtendWith Builtin.List.listLengthHint
  refine wpAny_bind (wpAny_typeOf ty ?_)
  rw [if_neg (by rw [alike]; decide)]
  refine wpAny_bind (wpAny_pyIter_revIter at_it ?_)
  refine wpAny_bind (wpAny_holding (wpAny_bind (wpAny_specialOf ty RT.nolen_lri ?_)))
  refine wpAny_bind (wpAny_specialOf (name := Str.ofString "__length_hint__") ty RT.hint_lri ?_)
  generalize eq : ("list_reverseiterator.__length_hint__" : String) = z
  have sp : splitId z = some ("list_reverseiterator", "__length_hint__") := by subst eq; decide +kernel
  dsimp only
  rw [sp]
  subst eq
  refine wpAny_bind (wpAny_isInstance (b := true) ty (by rw [isSubtype_type]; kernel_rfl) (wpAny_pure ?_))
  rw [if_neg (by decide)]
  have go2 := (Walks.listRev (prog := prog) (w := w) (A := A.in1) calm it l ne vs).toS
  have z0 : ((vs.size : Nat) : Int) - 1 - ((0 : Nat) : Int) = (vs.size : Int) - 1 := by omega
  refine wpAny_pure ⟨plainId_quiet F.plain_extend_loop _, codeAny_extend_loopS go2 fits S apart res vs.size 0 _ _ c rfl (Nat.zero_le _) ⟨Nat.zero_le _, by rw [z0]; exact at_it, at_l⟩ at_S (ItemsOf.nil _) ?_⟩
  intro s' out c' mv at_S' items
  rw [Moved.eq_with mv]
  refine go s'.heap s'.toks out c' (fun b o nb nS e => mv.heap b o ?_ e) at_S' items
  intro z
  rcases List.mem_cons.mp z with z | z
  · exact nS z
  · exact nb (List.mem_singleton.mp z)
theorem lst_back {it l : Addr} {vs : Array Value} {Q : Value → Shared → Prop} (calm : A.handled = none) (at_it : s.heap.IsRevIter it l ((vs.size : Int) - 1)) (at_l : s.heap.IsList l vs) (ne : l ≠ it) (fits : vs.size ≤ sizeLine)
    (go : ∀ (h : Heap) (tk : Nat) (out : Array Value) (c' : Nat), (∀ b o, b ≠ it → s.heap.get? b = some o → h.get? b = some o) → h.get? s.heap.objs.size = some (newL c' out) → ItemsOf (fun i v => vs[vs.size - 1 - i]? = some v) out vs.size → Q (.ref s.heap.objs.size) { s with heap := h, toks := tk }) :
    wpAny (model prog w) A (call (.type "list") [.ref it]) Q E s := by
  obtain ⟨oi, hoi, _⟩ := id at_it
  obtain ⟨ol, hol, _⟩ := id at_l
  have big : ∀ {b : Addr} {o : Obj}, s.heap.get? b = some o → s.heap.objs.size ≠ b := fun e => Nat.ne_of_gt (Heap.lt_size e)
  refine callType_codes (Q₁ := fun x s₁ => x = .ref s.heap.objs.size ∧ s₁ = { s with heap := s.heap.push (newL 0 #[]) }) F.called_list (F.typeCall_list_1 _) F.entry_list_init (code_list_new _ ⟨rfl, rfl⟩) ?_
  rintro x s₁ ⟨rfl, rfl⟩
  have e0 : (s.heap.push (newL 0 #[])).get? s.heap.objs.size = some (newL 0 #[]) := Heap.get?_push_size _ rfl
  refine ⟨⟨_, e0, rfl⟩, F.args_list_init_2 _ _, ?_⟩
  unfold Builtin.«list.__init__»
  refine wpAny_bind (m := Builtin.List.listItems (.ref s.heap.objs.size)) ?_
  unfold Builtin.List.listItems
  refine wpAny_bind (wpAny_seqItems e0 rfl (wpAny_pure ?_))
  refine wpAny_bind (m := updateSeq s.heap.objs.size fun _ => #[]) (wpAny_updateSeq e0 rfl (wpAny_bind (wpAny_letGo ?_)))
  have up : ∀ b o, s.heap.get? b = some o → ((s.heap.push (newL 0 #[])).update s.heap.objs.size (Obj.mapSeq fun _ => #[])).get? b = some o := fun b o e =>
    (Heap.get?_update_other _ _ (big e)).trans (Heap.get?_push_of_some _ e)
  refine ext_back (A := A.in1) (vs := vs) (l := l) calm (at_it.at fun o e => up _ o e) (at_l.at fun o e => up _ o e) ne (big hoi) (big hol) fits (Heap.get?_update_self (Obj.mapSeq fun _ => #[]) e0 rfl) ?_
  intro h tk out c' kp eS items
  exact ⟨rfl, go h tk out c' (fun b o nb e => kp b o nb (big e).symm (up b o e)) eS items⟩
end
/-- list(reversed(e)), e a list -/
def tLstRev (K : PySem.W.Frag) (te : TE) : TE := fun σ H Q => te σ H fun v H1 => ∃ (a : Addr) (xs : List V), v = .ref a ∧ SqL K H1 a xs ∧ ∀ q, H1 q = none → Q (.ref q) (upd H1 q (.lst xs.reverse))
theorem pe_lstRev {X : Cx} {e : Expr} {te : TE} {p p2 pos pos2 : Pos} (hc : X.calm = true) (hg : Gl X "list") (hm : X.mg "list" = none) (hg2 : Gl X "reversed") (hm2 : X.mg "reversed" = none) (he : PE X e te)
    (hs : starEach [e] X.env = (false, eval e X.env) :: starEach [] X.env := by rfl) (hs2 : starEach [.Call (.Name "reversed" p2) [e] [] pos2] X.env = (false, eval (.Call (.Name "reversed" p2) [e] [] pos2) X.env) :: starEach [] X.env := by rfl) :
    PE X (.Call (.Name "list" p) [.Call (.Name "reversed" p2) [e] [] pos2] [] pos) (tLstRev X.K te) := by
  constructor
  intro pins s σ H Q I h
  have inner : ∀ Q' : Value → Shared → Prop, (∀ (a : Addr) (xs : List V) (its : List Value) (H1 : Hp) (s1 : Shared), Inv X pins σ H1 s1 → Vals xs its → s1.heap.IsList a its.toArray → xs.length ≤ sizeLine → (∀ q, H1 q = none → Q (.ref q) (upd H1 q (.lst xs.reverse))) →
      Q' (.ref s1.heap.objs.size) { s1 with heap := s1.heap.push (revObj a ((its.toArray.size : Int) - 1)) }) → wpAny (model X.prog X.w) X.A (eval (.Call (.Name "reversed" p2) [e] [] pos2) X.env) Q' X.xe s := fun Q' k =>
    Call_ (ld_blt I hg2 hm2 boot_reversed (PyProof.Rows.callWith_type1 (args_cons (thn (he.run pins s σ H _ I h) (fun u s1 hu => args_nil (by
      obtain ⟨v, H1, I1, r1, a, xs, rfl, hq, q⟩ := hu
      obtain rfl : u = Value.ref a := r1
      obtain ⟨its, rv, p', hz⟩ := I1.list hq
      exact call_reversed_list p'.isList (k a xs its H1 s1 I1 rv p'.isList hz q)))) hs) hs rfl))
  refine Call_ (ld_blt I hg hm boot_list (PyProof.Rows.callWith_type1 (args_cons (inner _ fun a xs its H1 s1 I1 rv hl hz q => args_nil ?_) hs2) hs2 rfl))
  have sz : its.toArray.size = xs.length := by rw [List.size_toArray]; exact rv.length.symm
  have keep : ∀ b o, s1.heap.get? b = some o → (s1.heap.push (revObj a ((its.toArray.size : Int) - 1))).get? b = some o := fun b o e => Heap.get?_push_of_some _ e
  obtain ⟨ol, hol, _⟩ := id hl
  refine lst_back (vs := its.toArray) (l := a) (I1.ok.hd hc) ⟨_, Heap.get?_push_size _ rfl, rfl, rfl⟩ (hl.push _) (Nat.ne_of_lt (Heap.lt_size hol)) (by rw [sz]; exact hz) ?_
  intro h2 tk out c kp eS items
  have vr : Vals xs.reverse out.toList := RT.vals_rev rv items
  have more : s1.heap.objs.size ≤ (s1.heap.push (revObj a ((its.toArray.size : Int) - 1))).objs.size := by
    have : s1.heap.objs.size < (s1.heap.push (revObj a ((its.toArray.size : Int) - 1))).objs.size := Heap.lt_size (Heap.get?_push_size _ rfl)
    omega
  have all : ∀ b o, s1.heap.get? b = some o → h2.get? b = some o := fun b o e => kp b o (Nat.ne_of_lt (Heap.lt_size e)) (keep b o e)
  refine ⟨.ref _, _, I1.laid (t' := tk) all more (show ObjOk X.prog X.w _ _ _ (.lst xs.reverse) from ⟨by rw [List.length_reverse]; exact hz, out.toList, c, vr, by rw [Array.toArray_toList]; exact eS⟩), rfl, q _ (I1.hok.fresh more)⟩
theorem e_lstRev {K : PySem.W.Frag} {ta : TE} {ds : List SD} {ms : List MD} {R : RS} (h : E K ta ds ms fun s ms1 => ∃ es, Sv ms1 (dd s) (.list es) ∧ R (.f es.reverse) ms1) : E K (tLstRev K ta) ds ms R := fun L M σ H hS hA Q q =>
  h L M σ H hS hA _ fun s v H1 ms1 w1 o1 ⟨es, sv, r⟩ => by
    obtain ⟨a, xs, rfl, sq, rp⟩ := sv.lst o1.at o1.sl
    exact ⟨a, xs, rfl, sq, fun p hp => q (.f es.reverse) _ _ ms1 (w1.trans (Wk.new hp)) (out_new o1.at w1 hp rp.reverse) r⟩
/-! ### len of a dict that may change -/
abbrev rLenDK : List V → Hp → VK → Prop := fun xs H Q => ∃ a kvs, xs = [V.ref a] ∧ H a = some (.dK kvs) ∧ Q (.int kvs.length) H
theorem rc_lenD {K : PySem.W.Frag} {ms : List MD} {R : RS} {as : List SD} (h : ∃ s m, as = [s] ∧ Dv ms s m ∧ R (.d (.int m.length)) ms) : RC K rLenDK as ms R := fun L M H vs hA ha Q q => by
  obtain ⟨s, m, rfl, dv, r⟩ := h
  obtain ⟨v, t, rfl, o, rfl⟩ := ha
  obtain ⟨a, kvs, rfl, e, rk⟩ := dv.go hA o
  refine ⟨a, kvs, rfl, e, ?_⟩
  rw [rk.length]
  exact q (.d _) _ H ms (Wk.refl L H) ⟨hA, .int _⟩ r
end Hc

namespace Hc
open PySem PySem.Spec PyProof.Rows L2
section
variable {K : PySem.W.Frag} {te ta : TE} {ds : List SD} {ms : List MD} {R : RS}
/-! ### xs.extend(e), e a new list; xs.remove(e) of ints -/
theorem e_extend (h : E K ta ds ms fun s ms1 => ∃ k, s = .m k ∧ E K te ds ms1 fun x ms2 => ∃ fs es, dd x = .d (.list fs) ∧ ms2[k]? = some (.l es) ∧ es.length + fs.length ≤ 10000 ∧ R (.d .none) (ms2.set k (.l (es ++ fs)))) : E K (tBM K "list" rExtend ta (tCons te tNil)) ds ms R := fun L M σ H hS hA Q q =>
  h L M σ H hS hA _ fun s v H1 ms1 w o ⟨k, e, h2⟩ => by
    subst e
    obtain ⟨a1, p, rfl, hp, hls⟩ := o
    have hpL : p ∈ L := List.mem_of_getElem? hp
    obtain ⟨xs0, e0⟩ := hls
    refine ⟨.inl ⟨rfl, xs0, SqL.of e0⟩, ?_⟩
    refine h2 L M σ H1 (hS.mono hA w) a1 _ fun x y H2 ms2 w2 o2 ⟨fs, es, ed, em, hz, r⟩ => ?_
    have a2 := o2.at
    have ry := o2.sl
    rw [ed] at ry
    obtain ⟨b, zs, rfl, eb, rz⟩ := cat_lst ry
    obtain ⟨xs, e1, r1⟩ := a2.get hp em
    refine ⟨p, b, xs, zs, rfl, rfl, e1, eb, by rw [r1.length, rz.length]; exact Nat.le_trans hz (by decide), ?_⟩
    exact q (.d .none) .non _ _ ((w.trans w2).trans (Wk.mut hpL e1)) ⟨a2.put hp e1 (r1.append rz), .non⟩ r
theorem e_remove (h : E K ta ds ms fun s ms1 => ∃ k, s = .m k ∧ E K te ds ms1 fun x ms2 => ∃ (ns : List Int) (z : Int) (j : Nat), x = .d (.int z) ∧ ms2[k]? = some (.l (ns.map .int)) ∧ ns[j]? = some z ∧ (∀ i, i < j → ns[i]? ≠ some z) ∧ R (.d .none) (ms2.set k (.l ((ns.eraseIdx j).map .int)))) : E K (tBM K "list" rRemI ta (tCons te tNil)) ds ms R := fun L M σ H hS hA Q q =>
  h L M σ H hS hA _ fun s v H1 ms1 w o ⟨k, e, h2⟩ => by
    subst e
    obtain ⟨a1, p, rfl, hp, hls⟩ := o
    have hpL : p ∈ L := List.mem_of_getElem? hp
    obtain ⟨xs0, e0⟩ := hls
    refine ⟨.inl ⟨rfl, xs0, SqL.of e0⟩, ?_⟩
    refine h2 L M σ H1 (hS.mono hA w) a1 _ fun x y H2 ms2 w2 o2 ⟨ns, z, j, ex, em, hj, hno, r⟩ => ?_
    subst ex
    obtain ⟨a2, oz⟩ := o2
    cases oz
    obtain ⟨xs, e1, r1⟩ := a2.get hp em
    have hxs := RpA.ints_inv r1
    subst hxs
    refine ⟨p, ns, z, j, rfl, rfl, e1, hj, hno, ?_⟩
    exact q (.d .none) .non _ _ ((w.trans w2).trans (Wk.mut hpL e1)) ⟨a2.put hp e1 (RpA.ints _), .non⟩ r
end
end Hc

namespace Hc
open PySem PySem.Spec PyProof.Rows L2
section
variable {X : Cx} {a b c d : Expr} {ta tb tc td : TE} {pos : Pos}
/-! ### a chain of three comparisons, as a test -/
/-- what stands behind the first comparison: go on with u where it held -/
def goIf (u : Hp → VK → Prop) (Q : VK) : VK := fun z H => ∃ k, z = .bl k ∧ if k = true then u H Q else Q (.bl false) H
def tChain3 (r1 r2 r3 : R2) (ta tb tc td : TE) : TE := fun σ H Q =>
  ta σ H fun x H1 => tb σ H1 fun y H2 => r1 x y H2 (goIf (fun H3 Q1 => tc σ H3 fun u H4 => r2 y u H4 (goIf (fun H5 Q2 => td σ H5 fun w H6 => r3 u w H6 Q2) Q1)) Q)
theorem pt_chain3 {o1 o2 o3 : CmpOp} {r1 r2 r3 : R2} (h1 : OpR X (compareOp o1) r1) (h2 : OpR X (compareOp o2) r2) (h3 : OpR X (compareOp o3) r3)
    (pa : PE X a ta) (pb : PE X b tb) (pc : PE X c tc) (pd : PE X d td)
    (nm : lastMarks [o1, o2, o3] [b, c, d] = false := by with_unfolding_all rfl) : PT X (.Compare a [o1, o2, o3] [b, c, d] pos) (tTest (tChain3 r1 r2 r3 ta tb tc td)) := by
  constructor
  intro pins s σ H Q I h
  apply isTrue_chain _ nm
  apply thn (pa.run pins s σ H _ I h)
  rintro v1 s1 ⟨x1, H1, I1, e1, q1⟩
  apply test_link
  apply thn (pb.run pins s1 σ H1 _ I1 q1)
  rintro v2 s2 ⟨x2, H2, I2, e2, q2⟩
  apply thn (h1 pins s2 σ H2 x1 x2 v1 v2 _ I2 e1 e2 q2)
  rintro v3 s3 ⟨x3, H3, I3, e3, k3, rfl, q3⟩
  cases e3
  apply wpAny_truthy_bool
  cases k3 with
  | false =>
    obtain ⟨_, z, q⟩ := q3
    cases z
    exact ite_ff ⟨H3, I3, q⟩
  | true =>
    apply ite_tt
    apply test_link
    apply thn (pc.run pins s3 σ H3 _ I3 q3)
    rintro v4 s4 ⟨x4, H4, I4, e4, q4⟩
    apply thn (h2 pins s4 σ H4 x2 x4 v2 v4 _ I4 e2 e4 q4)
    rintro v5 s5 ⟨x5, H5, I5, e5, k5, rfl, q5⟩
    cases e5
    apply wpAny_truthy_bool
    cases k5 with
    | false =>
      obtain ⟨_, z, q⟩ := q5
      cases z
      exact ite_ff ⟨H5, I5, q⟩
    | true =>
      apply ite_tt
      apply test_last
      apply thn (pd.run pins s5 σ H5 _ I5 q5)
      rintro v6 s6 ⟨x6, H6, I6, e6, q6⟩
      apply thn (h3 pins s6 σ H6 x4 x6 v4 v6 _ I6 e4 e6 q6)
      rintro v7 s7 ⟨x7, H7, I7, e7, k7, rfl, q7⟩
      cases e7
      exact wpAny_truthy_bool ⟨H7, I7, q7⟩
end
section
variable {K : PySem.W.Frag} {ta tb tc td : TE} {ds : List SD} {ms : List MD} {R : RS}
theorem e_chain3 {r1 r2 r3 : R2} (h : E K ta ds ms fun a ms1 => E K tb ds ms1 fun b ms2 => RR K r1 (dd a) (dd b) ms2 fun s ms3 => ∃ k, s = .d (.bool k) ∧
      (k = true → E K tc ds ms3 fun c ms4 => ∀ b', b' = dd b → RR K r2 b' (dd c) ms4 fun s ms5 => ∃ k', s = .d (.bool k') ∧
        (k' = true → E K td ds ms5 fun d ms6 => ∀ c', c' = dd c → RR K r3 c' (dd d) ms6 R) ∧ (k' = false → R (.d (.bool false)) ms5)) ∧ (k = false → R (.d (.bool false)) ms3)) :
    E K (tChain3 r1 r2 r3 ta tb tc td) ds ms R := fun L M σ H hS hA Q q =>
  h L M σ H hS hA _ fun a x H1 ms1 w1 o1 h1 => h1 L M σ H1 (hS.mono hA w1) o1.at _ fun b y H2 ms2 w2 o2 h2 =>
    h2 L M H2 x y o2.at (o1.sl.mono o1.at w2) o2.sl _ fun s z H3 ms3 w3 o3 ⟨k, e, k1, k2⟩ => by
      subst e
      obtain ⟨a3, zz⟩ := o3
      cases zz
      refine ⟨k, rfl, ?_⟩
      have w13 := (w1.trans w2).trans w3
      cases k with
      | false => exact q (.d (.bool false)) _ H3 ms3 w13 ⟨a3, .bl false⟩ (k2 rfl)
      | true =>
        show tc σ H3 _
        refine k1 rfl L M σ H3 (hS.mono hA w13) a3 _ fun c u H4 ms4 w4 o4 h4 => ?_
        have w14 := w13.trans w4
        refine h4 _ rfl L M H4 y u o4.at ((o2.sl.mono o2.at w3).mono a3 w4) o4.sl _ fun s v H5 ms5 w5 o5 ⟨k', e5, k3, k4⟩ => ?_
        subst e5
        obtain ⟨a5, z5⟩ := o5
        cases z5
        refine ⟨k', rfl, ?_⟩
        have w15 := w14.trans w5
        cases k' with
        | false => exact q (.d (.bool false)) _ H5 ms5 w15 ⟨a5, .bl false⟩ (k4 rfl)
        | true =>
          show td σ H5 _
          exact k3 rfl L M σ H5 (hS.mono hA w15) a5 _ fun d w H6 ms6 w6 o6 h6 =>
            h6 _ rfl L M H6 u w o6.at ((o4.sl.mono o4.at w5).mono a5 w6) o6.sl Q fun s v H7 ms7 w7 o7 r7 => q s v H7 ms7 ((w15.trans w6).trans w7) (o7.back o6.at (w15.trans w6)) r7
variable {t : TS} {P : Po}
/-! ### for i in reversed(range(n)) -/
theorem s_forRev {g : TG} {js : List Nat} (h : E K ta ds ms fun s ms0 => ∃ n : Nat, s = .d (.int (n : Int)) ∧ n ≤ 10000 ∧ ∃ Pv : Nat → List SD → List MD → Prop, Pv 0 ds ms0 ∧
      (∀ i ds1 ms1, i < n → Pv i ds1 ms1 → EG K g js (.d (.int ((n - 1 - i : Nat) : Int))) ds1 ms1 fun ds2 ms2 => S K t ds2 ms2 { P with nx := Pv (i + 1), ct := Pv (i + 1), bk := P.nx }) ∧ ∀ ds1 ms1, Pv n ds1 ms1 → P.nx ds1 ms1) :
    S K (tFor (iRevR (tRg1 ta)) g t) ds ms P := fun L M σ H hS hA D n r b c =>
  h L M σ H hS hA _ fun s v H1 ms0 w o ⟨m, e, hm, Pv, h0, hs, hd⟩ => by
    subst e
    obtain ⟨a1, z⟩ := o
    cases z
    have em : ((m : Int) - 0).toNat = m := by omega
    refine ⟨m, rfl, by decide, by decide, by omega, by omega, ?_⟩
    rw [em]
    refine for_rangeC (fun i σ' H' => ∃ ds' ms', Wk L H1 H' ∧ Sl K L M σ' H' ds' ∧ At L M ms' H' ∧ Pv i ds' ms') ⟨ds, ms0, Wk.refl L H1, hS.mono hA w, a1, h0⟩ (fun i σ' H' hi ⟨ds', ms', w', s', a', p'⟩ => ?_) (fun σ' H' ⟨ds', ms', w', s', a', p'⟩ => ?_)
    · have ei : (0 : Int) + (m : Int) - 1 + (i : Nat) * -1 = ((m - 1 - i : Nat) : Int) := by omega
      rw [ei]
      refine hs i ds' ms' hi p' L M σ' H' _ s' a' (.int _) _ fun σ2 ds2 s2 _ h2 => ?_
      exact h2 L M σ2 H' s2 a' _ (fun σ3 H3 ds3 ms3 w3 s3 a3 p3 => ⟨ds3, ms3, w'.trans w3, s3, a3, p3⟩) (r.on a' (w.trans w')) (n.on (w.trans w')) (fun σ3 H3 ds3 ms3 w3 s3 a3 p3 => ⟨ds3, ms3, w'.trans w3, s3, a3, p3⟩)
    · exact n σ' H' ds' ms' (w.trans w') s' a' (hd ds' ms' p')
end
/-! ### t * k of a tuple that may be empty -/
theorem tuple_mul0 (l : Addr) (n : Nat) (k : Int) (hk : 2 ≤ k ∧ k ≤ 1000) (dd : Option Addr) (sl : Array (Option Value)) (u : Tok) :
    Meets (Builtin.«tuple.__mul__» ⟨[.ref l, .int k u], []⟩) (fun _ R s => s.heap.get? l = some { cls := .type "tuple", dict := dd, data := .seq #[] n, slots := sl } ∧ R (.ok (.ret (.ref l))) s) :=
  .of_wp fun prog w A R s h => by
    obtain ⟨hp, g, d, tk, os⟩ := s
    obtain ⟨hl, h⟩ := h
    have f1 := AutoSeq1.idx_int
    have c1 : ((#[] : Array Value).isEmpty || k == 1) = true := by simp
    have c0 : ¬ (decide (k < -2 ^ 63) || decide (k ≥ 2 ^ 63)) = true := by simp; omega
    wp_walk using wpAny_loadPart' hl
    repeat (first
      | (refine wpAny_ite_false (decide_eq_false c0) ?_; wp_walk using wpAny_loadPart' hl)
      | (refine wpAny_ite_false (by decide) ?_; wp_walk using wpAny_loadPart' hl)
      | (refine wpAny_ite_true (decide_eq_true c1) ?_; wp_walk using wpAny_loadPart' hl))
    all_goals first | exact ⟨_, rfl, h⟩ | skip
def rRepE (K : PySem.W.Frag) : R2 := fun x y H Q => (∃ l k, x = .ref l ∧ y = .int k ∧ (2 ≤ k ∧ k ≤ 1000) ∧ SqT K H l [] ∧ Q (.ref l) H) ∨ rRepT K x y H Q
theorem op_repE {X : Cx} : OpR X (binaryOp .Mult) (rRepE X.K) := by
  intro pins s σ H x y v u Q I rx ry h
  rcases h with ⟨l, k, rfl, rfl, hk, hT, q⟩ | h
  · cases rx
    obtain ⟨t, rfl⟩ := ry
    obtain ⟨its, r, ⟨⟨cls, dd, data, sl⟩, ho, hc, n, hd⟩, hs⟩ := I.tuple hT
    simp only at hc hd
    subst hc hd
    have e : its = [] := by cases r; rfl
    subst e
    exact wpAny_binaryOp_repeat_ref (T := "tuple") (U := "int") (by decide) ⟨_, ho, rfl⟩
      (fun s' => typeIs_int s' k t) noFill_tuple_mul F.fills_int_mul F.slot_int_rmul repeat_tuple
      F.slot_int_index.lookup
      (call_meets F.slot_int_rmul (typeIs_int s k t) F.entry_int_rmul (F.args_int_rmul_2 _ _)
        (int_rmul_tuple k t l #[] n dd sl) ⟨ho, rfl, ⟨_, ho, rfl⟩,
          call_meets F.slot_tuple_mul ⟨_, ho, rfl⟩ F.entry_tuple_mul (F.args_tuple_mul_2 _ _)
            (tuple_mul0 l n k hk dd sl t) ⟨ho, ⟨.ref l, H, I, rfl, q⟩⟩⟩)
  · exact op_repT pins s σ H x y v u Q I rx ry h
section
variable {K : PySem.W.Frag} {ms : List MD} {R : RS}
theorem rr_repE {a b : SD} (h : ∃ (es : List PyData) (k : Int), a = .d (.tuple es) ∧ b = .d (.int k) ∧ 2 ≤ k ∧ k ≤ 1000 ∧ es.length ≤ 1000 ∧ R (.d (.tuple (List.replicate k.toNat es).flatten)) ms) : RR K (rRepE K) a b ms R := fun L M H x y hA ha hb Q q => by
  obtain ⟨es, k, rfl, rfl, h1, h2, h3, r⟩ := h
  cases hb
  have ha2 : Rp M H x (.tuple es) := ha
  cases ha2 with
  | @tup p xs _ np ep rp =>
    by_cases he : es = []
    · subst he
      cases rp
      refine .inl ⟨p, k, rfl, rfl, ⟨h1, h2⟩, SqT.of ep, q (.d (.tuple [])) _ H ms (Wk.refl L H) ⟨hA, ha⟩ ?_⟩
      have e : ∀ m : Nat, (List.replicate m ([] : List PyData)).flatten = [] := fun m => by simp
      rw [e] at r
      exact r
    · have hx : xs ≠ [] := fun z => by subst z; cases rp; exact he rfl
      refine .inr ⟨p, k, xs, rfl, rfl, SqT.of ep, hx, h1, h2, by rw [rp.length]; exact h3, fun l hl => ?_⟩
      have rr : ∀ m : Nat, RpA M H (List.replicate m xs).flatten (List.replicate m es).flatten := fun m => by
        induction m with
        | zero => exact .nil
        | succ m ih =>
          rw [List.replicate_succ, List.replicate_succ, List.flatten_cons, List.flatten_cons]
          exact rp.append ih
      exact q (.d (.tuple (List.replicate k.toNat es).flatten)) _ _ ms (Wk.new hl) ⟨hA.new hl, .tup (hA.fresh hl) upd_same (RpA.to (hA.wk (Wk.new hl)) _ _ (rr k.toNat))⟩ r
end
end Hc

namespace Hc
open PySem PySem.Spec PyProof.Rows L2
/-! ### bool(i) of an int -/
abbrev rBool1 : List V → Hp → VK → Prop := fun xs H Q => (∃ i, xs = [.int i] ∧ Q (.bl (i != 0)) H) ∨ ∃ k, xs = [.bl k] ∧ Q (.bl k) H
section
variable {K : PySem.W.Frag} {ms : List MD} {R : RS}
theorem rc_boolI {as : List SD} (h : ∃ i : Int, as = [.d (.int i)] ∧ R (.d (.bool (i != 0))) ms) : RC K rBool1 as ms R := fun L M H vs hA ha Q q => by
  obtain ⟨i, rfl, r⟩ := h
  obtain ⟨v, t, rfl, hv, rfl⟩ := ha
  cases hv
  exact .inl ⟨i, rfl, q (.d (.bool (i != 0))) _ H ms (Wk.refl L H) ⟨hA, .bl _⟩ r⟩
end
end Hc

namespace Hc
open PySem PySem.Spec PyProof.Rows L2
/-! ### the law itself, called at the top: there the guards are known -/
section
variable {Pg : Program} {w : World} {K : PySem.W.Frag} {mg : Str → Option Value} {base : Heap}
def TopOk (Pg : Program) (w : World) (K : PySem.W.Frag) (mg : Str → Option Value) (base : Heap) (f : Addr) (Φ : Ph) : Prop :=
  ∀ (s : Shared) (H : Hp) (a : Addr), Env0 Pg w K mg base callerA [] s H → SpD K Φ [.ref a] H (fun v _ => v = .bl true) (fun _ _ _ => False) →
    codeAny (model Pg w) callerA (.call (.ref f) ⟨[.ref a], []⟩) (CR CX0 [] Pg w H s (fun v _ => v = .bl true) fun _ _ _ => False) s
theorem top_of {x qual p : Str} {st : Stmt} {f : Addr} {fd : FuncData} {N : List Str} {k : Nat} {Φ : Ph} (F : Fun K x qual st f fd) (Sc : FnScope N [p] (defScope st)) (bind : ∀ (s : Shared) (u : Value), BindsTo s fd ⟨[u], []⟩ [(p, u)])
    (hl : ∀ as ms R, Φ as ms R → as.length = 1) (h1 : 1 ≤ N.length) (room : Room (k + 1) callerA)
    (hbody : ∀ (cdv : Value) (A : Around) (s : Shared) (H : Hp) (E : XK), A = callerA → Room k (A.deeper (envOfC qual (defScope st) s.heap.objs.size f cdv)) →
      ∃ t, PSs (cxOf CX0 Pg w K mg base N qual (defScope st) f cdv A [] s H E).nox (defBody st) t ∧ ∀ as ms R, Φ as ms R → S K t (as ++ List.replicate (N.length - as.length) .u) ms (fin R)) : TopOk Pg w K mg base f Φ := by
  intro s H a e0 sp
  obtain ⟨c1, c2, c3, c4, c5, c6, code, c7, c8, rfl, look, cin⟩ := F.ex
  have grown : ∀ {b : Addr} {o : Obj}, base.get? b = some o → s.heap.get? b = some o := fun z => (e0.bs _ _ z).1
  have kin : K.In s.heap := e0.mod.kin.keeps fun b o => grown
  have nol := e0.mod.nolimit.keeps fun b o (z : base.get? b = some o) => grown z
  obtain ⟨t, bt, rd⟩ := hbody code callerA s H (fun _ _ _ => False) rfl (room.deeper _)
  have go := read_of (fun as ms R z => by rw [hl as ms R z]; exact h1) rd sp
  refine codeAny_call_function room.depth (kin _ _ look) rfl Sc.co Sc.gen rfl (PySem.W.codeRec_of kin cin) (bind s (.ref a) _ _ _ _ (wpAny_newFunctionEnv_cells Sc.kind (fun y hy => ?_) fun env ee s1 inn => ?_))
  · rcases Sc.par y.1 (by have z : y = (p, .ref a) := by simpa using hy
                          rw [z]; simp) with q | q
    · exact Or.inl q
    · exact Or.inr ⟨q, PySem.W.cellsFrom_some _ _ _ (Or.inl q)⟩
  · cases ee
    have J := inv_start (E := fun _ _ _ => False) (CX := CX0) Sc (show callerA.handled = none from rfl) e0 (vs := [.ref a]) rfl (.cons rfl .nil) inn
    refine ⟨nol.keeps inn.toInCall.keep, codeAny_func (wpAny_mono (bt.nox.run [] s1 _ H _ J go) (fun fl s2 z => ?_) fun _ _ z => z)⟩
    match fl, z with
    | .ret u, ⟨v, _, H2, J2, rv, e⟩ => exact ⟨v, H2, J2.os, J2.bare, J2.base, J2.hok, rv, e⟩
    | .next, ⟨_, H2, J2, e⟩ => exact ⟨V.non, H2, J2.os, J2.bare, J2.base, J2.hok, rfl, e⟩
    | .brk, ⟨_, _, _, e⟩ => exact e.elim
    | .cont, ⟨_, _, _, e⟩ => exact e.elim
/-- what was there stays, where nothing but the script was tracked -/
theorem old_of {H H' : Hp} {h h' : Heap} (only : Only H) (a : HOk Pg w H h) (b : HOk Pg w H' h') (un : Un [] [] H H' h h') : OldK h h' := OldK.of_keep fun x o e => by
  rcases only x with z | ⟨q, l, z⟩
  · exact un.keep x o e z nofun nofun
  · obtain ⟨g, _⟩ := a x _ z
    obtain ⟨g2, _⟩ := b x _ (un.frzs x q _ z)
    rw [g2, ← g, e]
/-- the script's list, among what is tracked or in the module -/
theorem script_at {a : Addr} {vs : List Value} {ns : List Int} {h : Heap} (KX : K.In h) (ha : h.get? a = some { cls := .type "list", data := .seq vs.toArray }) (hi : IntsAre vs ns) (hz : ns.length ≤ sizeLine) :
    ∃ H : Hp, Only H ∧ SqL K H a (ns.map V.int) ∧ HOk Pg w H h ∧ (∀ b, H b ≠ none → b = a) ∧ (H a ≠ none → K.lookup a = none) := by
  have rv := vals_ints hi
  have ln := hi.length
  by_cases hk : ∃ o, K.lookup a = some o
  · obtain ⟨o, ho⟩ := hk
    have eo := KX a o ho
    rw [ha] at eo
    have eo := Option.some.inj eo
    subst eo
    exact ⟨fun _ => none, fun _ => .inl rfl, .inr ⟨_, vs.toArray, _, ho, rfl, rfl, rfl, by simp; omega, by simpa using rv⟩, nofun, (fun _ z => absurd rfl z), fun z => absurd rfl z⟩
  · let u : HO := .frz { cls := .type "list", data := .seq vs.toArray } (.lst (ns.map V.int))
    let H : Hp := fun b => if b = a then some u else none
    have at_ : ∀ {b : Addr} {q : HO}, H b = some q → b = a ∧ q = u := fun {b q} z => by
      by_cases e : b = a
      · exact ⟨e, (Option.some.inj ((if_pos e).symm.trans z)).symm⟩
      · exact nomatch (if_neg e).symm.trans z
    refine ⟨H, fun b => ?_, .inl (.inr ⟨_, if_pos rfl⟩), fun b q z => ?_, fun b z => ?_, fun _ => ?_⟩
    · cases e : H b with
      | none => exact .inl rfl
      | some q =>
        obtain ⟨_, rfl⟩ := at_ e
        exact .inr ⟨_, _, rfl⟩
    · obtain ⟨rfl, rfl⟩ := at_ z
      exact ⟨ha, by rw [List.length_map]; exact hz, vs, _, rv, ha⟩
    · cases e : H b with
      | none => exact absurd e z
      | some q => exact (at_ e).1
    · cases e : K.lookup a with
      | none => rfl
      | some o => exact absurd ⟨o, e⟩ hk
/-- the base beside it -/
theorem env_top {a : Addr} {vs : List Value} {s : Shared} {H : Hp} {mb : Str → Option Value} (KX : K.In s.heap) (g : s.heap.Ns mainGlobals mg) (b : s.heap.Ns builtinsNs mb) (bb : ∀ x : Str, x ≠ "__name__" → mb x = bootBuiltins x) (nl : s.heap.NoLimit) (gn : s.gens = #[])
    (ha : s.heap.get? a = some { cls := .type "list", data := .seq vs.toArray }) (ok : HOk Pg w H s.heap) (one : ∀ b, H b ≠ none → b = a) (out : H a ≠ none → K.lookup a = none) :
    Env0 Pg w K mg (hidT s.heap H) callerA [] s H ∧ K.In (hidT s.heap H) ∧ (hidT s.heap H).Ns mainGlobals mg := by
  have side : ∀ {d : Addr}, H d = none ∨ (d = a ∧ H a ≠ none) := fun {d} => by
    cases e : H d with
    | none => exact .inl rfl
    | some q =>
      have da := one d (by rw [e]; nofun)
      exact .inr ⟨da, by rw [← da, e]; nofun⟩
  have names : ∀ {d : Addr} {m : Str → Option Value}, s.heap.Ns d m → (hidT s.heap H).Ns d m := fun {d m} ⟨o, es, ep, z, dd, r⟩ => by
    rcases side (d := d) with n | ⟨rfl, _⟩
    · exact ⟨o, es, ep, hidT_get z n, dd, r⟩
    · rw [ha] at z
      have := Option.some.inj z
      subst this
      exact nomatch dd
  have kin : K.In (hidT s.heap H) := fun d o z => by
    rcases side (d := d) with n | ⟨rfl, n⟩
    · exact hidT_get (KX d o z) n
    · exact nomatch (out n).symm.trans z
  obtain ⟨mc, n1, n2⟩ := nl
  exact ⟨⟨rfl, ⟨kin, names g, ⟨mb, names b, bb⟩, mc, names n1, n2⟩, fun d o z => of_hidT z, Nat.le_of_eq (hidT_size _ _), trivial, nofun, ok, .of_eq gn⟩, kin, names g⟩
end
/-- the end of a law whose own body knows the guards -/
theorem walk_top {l : PySem.W.OpenLaw} {n : Nat} {q : Program} {loose : List Str} {XP : (Str → Option Value) → Heap → Prop} {YP : World → Heap → Prop} {d : DefRec} {K : Params → PySem.W.Frag} {Φ : Ph}
    (most : l.most = some n) (small : n ≤ sizeLine) (plain : d.params.defaults = []) (hY : ∀ (w : World) (h : Heap), YP w h → (K w.params).In h)
    (F : ∀ (w : World) (mg : Str → Option Value) (fa : Addr) (h : Heap), (K w.params).In h → h.Ns mainGlobals mg → mg d.name = some (.ref fa) → ∀ base : Heap, (K w.params).In base → base.Ns mainGlobals mg → TopOk l.prog w (K w.params) mg base fa Φ)
    (at_ : ∀ (w : World) (H : Hp) (a : Addr) (ns : List Int), ns.length ≤ n → Only H → SqL (K w.params) H a (ns.map V.int) → SpD (K w.params) Φ [.ref a] H (fun v _ => v = .bl true) fun _ _ _ => False) :
    PySem.W.WalkO q loose XP YP l.row.toRowW d [] (fun f vs => PySem.call f vs) := by
  apply Att.attach_call most plain
  intro w _ s mg mb fa _ _ _ _ a vs ns G Y _ _ _ name obj ii short gens
  have KX := hY w _ Y
  obtain ⟨H, only, sq, ok, one, out⟩ := script_at (Pg := l.prog) (w := w) KX obj ii (Nat.le_trans short small)
  obtain ⟨e0, kin, nsb⟩ := env_top KX G.T.g G.T.b G.T.builtins G.T.nolimit gens obj ok one out
  refine codeAny_mono (F w mg fa _ KX G.T.g name _ kin nsb s H a e0 (at_ w H a ns short only sq)) fun r s2 z => ?_
  match r, z with
  | .ok (.ret u), ⟨v, H2, os, bare, un, ok2, rv, e⟩ =>
    have e : v = .bl true := e
    subst e
    have rv : u = Value.bool true := rv
    subst rv
    exact ⟨rfl, old_of only ok ok2 un, os, bare⟩
  | .ok .next, z => exact z.elim
  | .ok .brk, z => exact z.elim
  | .ok .cont, z => exact z.elim
  | .error _, z => exact z.elim
/-! ### repr of rows of data, the guards known -/
def rRepr (K : PySem.W.Frag) : List V → Hp → VK → Prop := fun vs H Q => ∃ (a : Addr) (d : PyData), vs = [.ref a] ∧ Dp K H (.ref a) d ∧ d.showable = true ∧ d.hasDict = false ∧ d.depth ≤ 60 ∧ d.shown.length ≤ sizeLine ∧ Q (.str d.shown) H
theorem cr_repr {X : Cx} (hu : X.A.units + 64 < cLine) (hg : X.A.guards = some []) : CallR X (.builtin "repr") (rRepr X.K) := by
  intro pins s σ H vs us Q I r h
  obtain ⟨a, d, rfl, dp, hs, hd, dd, hz, q⟩ := h
  rw [Vals.ref1 r]
  obtain ⟨as, rd⟩ := Dp.reads I d (.ref a) (.ref a) dp rfl
  exact repr_of_reads' rd hs (fun e => by rw [hd] at e; cases e) hg (by omega) (fun _ _ e => e) (fun h' u tk hk => ⟨.str d.shown, H, I.kept hk, ⟨u, rfl⟩, q⟩) hz
section
variable {K : PySem.W.Frag} {ds : List SD} {ms : List MD} {R : RS}
theorem rc_repr {as : List SD} (h : ∃ (es : List PyData) (x : PyData), as = [.d x] ∧ (x = .list es ∨ x = .tuple es) ∧ Shp 60 x ∧ x.showable = true ∧ x.shown.length ≤ sizeLine ∧ R (.d (.str x.shown)) ms) : RC K (rRepr K) as ms R := fun L M H vs hA ha Q q => by
  obtain ⟨es, x, rfl, hx, sh, hs, hz, r⟩ := h
  obtain ⟨v, t, rfl, hv, rfl⟩ := ha
  have hv : Rp M H v x := hv
  have dp := Rp.dp (K := K) x v sh.1 hv
  obtain ⟨a, rfl⟩ : ∃ a, v = .ref a := by
    rcases hx with rfl | rfl
    · cases hv; exact ⟨_, rfl⟩
    · cases hv; exact ⟨_, rfl⟩
  exact ⟨a, x, rfl, dp, hs, PyData.hasDict_of_canLay x sh.1, sh.2, hz, q (.d (.str x.shown)) _ H ms (Wk.refl L H) ⟨hA, .str _⟩ r⟩
/-- texts told apart -/
theorem rr_neT {a b : SD} (h : ∃ x y : Str, a = .d (.str x) ∧ b = .d (.str y) ∧ R (.d (.bool (!decide (x = y)))) ms) : RR K rNe a b ms R := fun L M H u v hA ha hb Q q => by
  obtain ⟨x, y, rfl, rfl, r⟩ := h
  have ha : Rp M H u (.str x) := ha
  have hb : Rp M H v (.str y) := hb
  cases ha
  cases hb
  refine ⟨rfl, ?_⟩
  have e : decide (V.str x = V.str y) = decide (x = y) := by simp
  rw [e]
  exact q (.d (.bool _)) _ H ms (Wk.refl L H) ⟨hA, .bl _⟩ r
end
/-! ### how long such a text is -/
mutual
def noText : PyData → Bool
  | .list xs | .tuple xs => noTexts xs
  | .str _ | .dict _ => false
  | _ => true
def noTexts : List PyData → Bool
  | [] => true
  | x :: r => noText x && noTexts r
end
mutual
def nodes : PyData → Nat
  | .list xs | .tuple xs => 2 + nodesAll xs
  | _ => 1
def nodesAll : List PyData → Nat
  | [] => 0
  | x :: r => nodes x + nodesAll r
end
theorem textFrom_le : ∀ (ts : List Str) (k : Nat) (acc : Str), (textFrom k acc ts).length ≤ acc.length + (ts.map fun t => t.length + 2).sum
  | [], _, acc => Nat.le_add_right _ _
  | t :: r, k, acc => by
    have ih := textFrom_le r (k + 1) (acc ++ (if k > 0 then ", " else "" : String) ++ t)
    have e : (acc ++ (if k > 0 then ", " else "" : String) ++ t).length ≤ acc.length + 2 + t.length := by
      rw [strLen_append, strLen_append]
      have : (((if k > 0 then ", " else "" : String) : Str)).length ≤ 2 := by split <;> decide
      omega
    rw [List.map_cons, List.sum_cons]
    show (textFrom (k + 1) _ r).length ≤ _
    omega
theorem join_le : ∀ ts : List Str, (Str.join ", " ts).length ≤ (ts.map fun t => t.length + 2).sum
  | [] => Nat.zero_le _
  | t :: r => by
    have e := join_length_add (t :: r) (by simp)
    have p : ∀ l : List Str, piled l = (l.map fun t => t.length + 2).sum := fun l => by
      induction l with
      | nil => rfl
      | cons a b ih => rw [piled_cons, List.map_cons, List.sum_cons, ih]
    rw [p] at e
    omega
mutual
theorem shown_le : ∀ d : PyData, d.showable = true → noText d = true → d.shown.length + 2 ≤ 1923 * nodes d
  | .none, _, _ => by decide
  | .bool b, _, _ => by cases b <;> decide
  | .int i, h, _ => by
    have h : i.natAbs.log2 < 1920 := by simpa [PyData.showable] using h
    have := int_text_len_1921 h
    show (PySem.Str.ofString (toString i)).length + 2 ≤ 1923 * 1
    omega
  | .str _, _, h => by cases h
  | .list xs, h, n => by
    have := showns_le xs (by simpa [PyData.showable] using h) n
    have e := textFrom_le (PyData.shownAll xs) 0 "["
    have e2 : (PyData.list xs).shown = textFrom 0 "[" (PyData.shownAll xs) ++ "]" := by simp [PyData.shown, listText]
    have e3 : nodes (.list xs) = 2 + nodesAll xs := rfl
    rw [e2, e3, strLen_append]
    have : (("[" : String) : Str).length = 1 := rfl
    have : (("]" : String) : Str).length = 1 := rfl
    omega
  | .tuple xs, h, n => by
    have := showns_le xs (by simpa [PyData.showable] using h) n
    have e := join_le (PyData.shownAll xs)
    have e2 : (PyData.tuple xs).shown = ("(" : Str) ++ Str.join ", " (PyData.shownAll xs) ++ (if (PyData.shownAll xs).length == 1 then ",)" else ")" : String) := by simp [PyData.shown, tupleText]
    have e3 : nodes (.tuple xs) = 2 + nodesAll xs := rfl
    rw [e2, e3, strLen_append, strLen_append]
    have : (("(" : String) : Str).length = 1 := rfl
    have : (((if (PyData.shownAll xs).length == 1 then ",)" else ")" : String) : Str)).length ≤ 2 := by split <;> decide
    omega
  | .dict _, _, h => by cases h
theorem showns_le : ∀ ds : List PyData, PyData.showableAll ds = true → noTexts ds = true → ((PyData.shownAll ds).map fun t => t.length + 2).sum ≤ 1923 * nodesAll ds
  | [], _, _ => Nat.le_refl _
  | d :: r, h, n => by
    have h : d.showable = true ∧ PyData.showableAll r = true := by simpa [PyData.showableAll] using h
    have n : noText d = true ∧ noTexts r = true := by simpa [noTexts] using n
    have a := shown_le d h.1 n.1
    have b := showns_le r h.2 n.2
    have e : ((PyData.shownAll (d :: r)).map fun t => t.length + 2).sum = (d.shown.length + 2) + ((PyData.shownAll r).map fun t => t.length + 2).sum := by
      rw [show PyData.shownAll (d :: r) = d.shown :: PyData.shownAll r from rfl, List.map_cons, List.sum_cons]
    have e2 : nodesAll (d :: r) = nodes d + nodesAll r := rfl
    rw [e, e2]
    omega
end
end Hc

namespace Hc
open PySem PySem.Spec PyProof.Rows L2
section
variable {K : PySem.W.Frag} {te ta tb tc tl : TE} {tt : TT} {tA : TA} {ds : List SD} {ms : List MD} {R : RS}
/-- a comprehension over enumerate(t) of a tuple -/
theorem e_lcET {g : TG} {js vs : List Nat} (hj : ∀ j ∈ js, j ∈ vs) (h : EA K tA ds ms fun as ms0 => ∃ es : List PyData, as = [.d (.tuple es)] ∧ es.length ≤ 10000 ∧ ∃ Pv : Nat → List PyData → List MD → Prop, Pv 0 [] ms0 ∧
      (∀ i e acc ms1, es[i]? = some e → Pv i acc ms1 → Lt K g js tt te vs ds (.d (.tuple [.int (i : Nat), e])) ms1 acc (Pv (i + 1))) ∧ ∀ acc ms1, Pv es.length acc ms1 → R (.f acc) ms1) :
    E K (tLc (iEnT K tA) g tt te vs) ds ms R := fun L M σ H hS hA Q q =>
  h L M σ H hS hA _ fun as us H1 ms0 w a1 o ⟨es, ea, hz, Pv, h0, hs, hd⟩ => by
    subst ea
    obtain ⟨v1, t1, rfl, o1, rfl⟩ := o
    have o1' : Rp M H1 v1 (.tuple es) := o1
    cases o1' with
    | @tup a xs _ na ea rx =>
    have hx : ∀ H', Wk L H1 H' → SqT K H' a xs := fun H' w' => SqT.of (w' a _ (fun z => na (a1.sub a z)) ea)
    refine ⟨a, xs, rfl, hx H1 (Wk.refl L H1), fun D hD => ?_⟩
    have hDL := a1.freshL hD
    refine ⟨fun i m H' => m = es.length - i ∧ i ≤ es.length ∧ ∃ acc ms', Cs L M H1 D i acc ms' H' ∧ Pv i acc ms', ⟨_, rfl, Nat.zero_le _, [], ms0, .start a1 hD, h0⟩, ?_⟩
    rintro i m H' ⟨rfl, hi, acc, ms', c, p⟩
    have qx := hx H' c.w
    by_cases hlt : i < es.length
    · have l1 : i < xs.length := by rw [rx.length]; omega
      refine .inr ⟨⟨xs, xs[i], qx, by simp [l1]⟩, fun H2 => ∃ acc' ms2, Cs L M H1 D (i + 1) acc' ms2 H2 ∧ Pv (i + 1) acc' ms2, fun H2 ⟨acc', ms2, c2, p2⟩ => ⟨es.length - (i + 1), by omega, rfl, hlt, acc', ms2, c2, p2⟩, fun v H2 y => ?_⟩
      obtain ⟨T, x, rfl, hT, rfl, fx⟩ := y
      obtain ⟨e, e1, e2⟩ := rx.get' (fx xs qx)
      have c2 := c.new (o := .tup [.int (i : Nat), x]) hT
      have tt2 : To M (M ++ [D]) H1 (upd H' T (.tup [.int (i : Nat), x])) := to_new a1 hD c2.w
      have ho : SlOk K L (M ++ [D]) (upd H' T (.tup [.int (i : Nat), x])) (.d (.tuple [.int (i : Nat), e])) (.ref T) := Rp.tup (c.a.fresh hT) upd_same (.cons (.int _) (.cons (Rp.to tt2 _ _ e2) .nil))
      exact lc_turn2 (x := .d (.tuple [.int (i : Nat), e])) (v := .ref T) (Nn := Pv) hj (by omega) (hS.mono hA w) a1 hD c2 ho (hs i e acc ms' e1 p)
    · have e : i = es.length := by omega
      subst e
      refine .inl ⟨⟨xs, qx, by rw [rx.length]⟩, ?_⟩
      exact q (.f acc) _ H' ms' (w.trans c.w) ⟨D, rfl, none_back a1 w (a1.fresh hD) hD, a1.fresh hD, c.done a1.sub hDL, a1.sub⟩ (hd acc ms' p)
end
end Hc

namespace Hc
open PySem PySem.Spec PyProof.Rows L2
/-! ### try, where the first clause takes whatever the body raises: what stands behind it is not reached -/
section
variable {X : Cx} {x n : Str} {c : Value} {i : Nat} {body suite : List Stmt} {b1 : Stmt} {np pos pos2 : Pos} {rest : List ExceptHandler} {tb : WX → TS} {ts : Addr → Value → Option Addr → TS}
/-- what the clause is asked, once the body has raised -/
def toClause (X : Cx) (pins : List (Addr × Obj)) (D : Ends) (cl : List ExceptHandler) : Value → Shared → Prop := fun e s1 =>
  wpAny (model X.prog X.w) X.A (noteFrame e X.env) (fun _ s2 => wpAny (model X.prog X.w) X.A (setFlight e none)
    (fun _ s3 => wpAny (model X.prog X.w) X.A (handleBy e X.env cl) (SP X pins D) X.xe s3) X.xe s2) X.xe s1
/-- no frame's own object is an error -/
theorem not_frame {h B : Heap} {fs : List Env} {a : Addr} {o : Obj} {vs : Array Value} (ff : h.FunFrames B fs) (e : h.get? a = some o) (d : o.data = .fields vs) : a ∉ frs fs := fun m => by
  obtain ⟨_, u, eu, no⟩ := ff.mem m
  cases e.symm.trans eu
  exact no vs d
theorem clause_takes (own : X.stack = X.env :: X.outer) (fr : X.env.frame = some X.env.locals) (nd : X.N.Nodup) (hi : X.N[i]? = some n) (lc : X.env.kindOf n = some .local) (hc : Names X x c)
    (hsu : ∀ (a : Addr) (err : Obj) (k : Value) (d : Option Addr) (ps : List (Addr × Obj)), Zc k d err → (∃ vs, err.data = .fields vs) → PSs (X.suite a ((a, err) :: ps)) (b1 :: suite) (ts a k d))
    (ok : X.Ok) (pins : List (Addr × Obj)) (D : Ends) : Takes (X.tr (X.pn ++ pins) (toClause X pins D (.ExceptHandler (some (.Name x np)) (some n) (b1 :: suite) pos2 :: rest))) (wAs X.K c i ts (fun _ _ _ _ => False) D) := by
  rintro u t ⟨a, B, t0, ps, σ2, H2, cls, dd, rfl, J, nb, up, sky, un, os, ag, k, match_, yes, no⟩
  have frames : X.A.frames = some (X.env :: X.outer) := by rw [ok.frames, own]
  have J := J.ofTry ok
  have k1 : k = true := by
    cases k with
    | true => rfl
    | false => exact (no rfl).elim
  subst k1
  show wpAny (model X.prog X.w) X.A (noteFrame (.ref a) X.env) _ _ _
  apply Sky.land Zc.steady frames fr (show Sky B (X.env :: X.outer) a (Zc cls dd) X.env.locals t.heap by rw [← own]; exact sky)
  intro h1 f1 u1
  have J1 : Inv X pins σ2 H2 { t with heap := h1 } := J.landed nb f1.1 (up.trans u1) os ag
  obtain ⟨o1, v1, g1, z1, d1⟩ := f1.there
  have out := not_frame f1.2.2.1 g1 d1
  have here : a ≠ X.env.locals := fun z => out (List.mem_filterMap.mpr ⟨X.env, by simp, fr.trans (by rw [z])⟩)
  have outer : a ∉ X.fs := fun m => by
    obtain ⟨y, hy, q⟩ := List.mem_filterMap.mp m
    exact out (List.mem_filterMap.mpr ⟨y, by simp [hy], q⟩)
  have T1 := J1.suite g1 d1 un here outer
  refine wpAny_handleBy_cons (codeAny_handlers_test ?_) nofun
  have cls_at : PySem.W.Looks (model X.prog X.w) h1 (typeOf (.ref a)) cls := fun _ _ _ _ kp q => wpAny_typeOf_ref (kp _ _ g1) (z1.1.symm ▸ q)
  have asked := PySem.W.exm_one (M := model X.prog X.w) J1.kIn cls_at match_
  have name : ∀ {Q E : Value → Shared → Prop}, Q c { t with heap := h1 } → wpAny (model X.prog X.w) (X.A.mark (some (.ref a))) (eval (.Name x np) X.env) Q E { t with heap := h1 } := fun q => by
    rcases hc with ⟨g, db, m | ⟨m, bb, ne⟩⟩
    · exact ld_glob (X := X.suite a ((a, o1) :: (X.pn ++ pins))) T1 g m q db
    · exact ld_blt (X := X.suite a ((a, o1) :: (X.pn ++ pins))) T1 g m bb q ne db
  apply name
  apply asked.here
  apply codeAny_handlers_suite_as
  apply HandSPX.lands_againZ f1
  intro h2 f2 u2
  have J2 : Inv X pins σ2 H2 { t with heap := h2 } := J.landed nb f2.1 ((up.trans u1).trans u2) os ag
  obtain ⟨o2, v2, g2, z2, d2⟩ := f2.there
  have T2 := J2.suite g2 d2 un here outer
  refine store_ok (X := X.suite a ((a, o2) :: (X.pn ++ pins))) (v := .ref a) T2 nd hi (.inl lc) rfl (fun s5 T5 => ?_) (.inr lc)
  have left : ∀ {s6 : Shared} {σ6 : L2.St} {H6 : Hp} {Q : Shared → Prop}, Inv (X.suite a ((a, o2) :: (X.pn ++ pins))) [] σ6 H6 s6 → (∀ s7, Inv X pins (σ6.set i none) H6 s7 → Q s7) →
      wpAny (model X.prog X.w) X.A (do bindName X.env n .none; unbindBehindTheSuite X.env n pos2) (fun _ s7 => Q s7) X.xe s6 := fun V q => gone_ok (V.unsuite ok) nd hi lc q
  refine wpAny_mono ((hsu a o2 cls dd (X.pn ++ pins) z2 ⟨_, d2⟩).run [] s5 _ H2 _ T5 (yes rfl a un)) (fun fl s6 z => ?_) nofun
  match fl, z with
  | .next, ⟨_, _, V, q⟩ => exact left V fun s7 W => ⟨_, _, W, q⟩
  | .brk, ⟨_, _, V, q⟩ => exact left V fun s7 W => ⟨_, _, W, q⟩
  | .cont, ⟨_, _, V, q⟩ => exact left V fun s7 W => ⟨_, _, W, q⟩
  | .ret _, ⟨_, _, _, V, r, q⟩ => exact left V fun s7 W => ⟨_, _, _, W, r, q⟩
theorem ps_try_first (own : X.stack = X.env :: X.outer) (fr : X.env.frame = some X.env.locals) (nd : X.N.Nodup) (hi : X.N[i]? = some n) (lc : X.env.kindOf n = some .local) (hc : Names X x c)
    (hb : ∀ (wish : WX) (ps : List (Addr × Obj)) (out : Value → Shared → Prop), Takes (X.tr ps out) wish → PassesOwn (model X.prog X.w) X.A X.env out → PSs (X.tr ps out) body (tb wish))
    (hsu : ∀ (a : Addr) (err : Obj) (k : Value) (d : Option Addr) (ps : List (Addr × Obj)), Zc k d err → (∃ vs, err.data = .fields vs) → PSs (X.suite a ((a, err) :: ps)) (b1 :: suite) (ts a k d)) :
    PS X (.Try body (.ExceptHandler (some (.Name x np)) (some n) (b1 :: suite) pos2 :: rest) [] [] pos) (fun D σ H => tb (wAs X.K c i ts (fun _ _ _ _ => False) D) D σ H) := by
  constructor
  intro pins s σ H D I h
  apply wpAny_Try_except
  have run := (hb _ _ _ (clause_takes (np := np) (pos2 := pos2) (rest := rest) own fr nd hi lc hc hsu I.ok pins D) PassesOwn.looking).run [] s σ H D (I.toTry _) h
  refine wpAny_mono run (fun fl s1 z => ?_) fun _ _ z => z
  match fl, z with
  | .next, ⟨_, _, V, q⟩ => exact wpAny_execs_nil ⟨_, _, V.ofTry I.ok, q⟩
  | .brk, ⟨_, _, V, q⟩ => exact ⟨_, _, V.ofTry I.ok, q⟩
  | .cont, ⟨_, _, V, q⟩ => exact ⟨_, _, V.ofTry I.ok, q⟩
  | .ret _, ⟨_, _, _, V, r, q⟩ => exact ⟨_, _, _, V.ofTry I.ok, r, q⟩
end
end Hc

namespace Hc
open PySem PySem.Spec PyProof.Rows L2
/-! ### sorted(set(xs)), xs a list of ints -/
/-- a set without members, as set() lays it -/
abbrev bareSet (w : World) : Obj := { cls := .type "set", dict := none, data := .set #[] 0 (.fresh 0 0 (!w.params.followText "set-order")) }
section
variable {P : Program} {w : World} {A : Around} {E : Value → Shared → Prop} {s : Shared} {l : Addr} {its : Array Value} {ns : List Int}
theorem ints_at (hi : IntsAre its.toList ns) {i : Nat} {v : Value} (e : its[i]? = some v) : ∃ k t, ns[i]? = some k ∧ v = .int k t := by
  have ln : its.size = ns.length := by
    have := IntsAre.length hi
    rwa [Array.length_toList] at this
  have li : i < ns.length := ln ▸ (Array.getElem?_eq_some_iff.mp e).1
  obtain ⟨t, q⟩ := PyProof.Rows.IntsAre.int_at hi i v (by rw [Array.getElem?_toList]; exact e)
  exact ⟨ns[i], t, List.getElem?_eq_getElem li, by rw [q, List.getD_eq_getElem?_getD, List.getElem?_eq_getElem li]; rfl⟩
/-- what set.__init__ leaves of a bare set at p -/
def Filled (w : World) (s : Shared) (ns : List Int) (p : Addr) (t : Shared) : Prop := ∃ (h : Heap) (tk c : Nat), t = { s with heap := h, toks := tk } ∧ SetR w h p (fun j => decide (j ∈ ns)) c ∧ c ≤ ns.length ∧ ∀ b o, s.heap.get? b = some o → h.get? b = some o
theorem set_init (hh : A.handled = none) (hl : s.heap.IsList l its) (hi : IntsAre its.toList ns) (hb : ns.length + 1 < scanBound) :
    codeAny (model P w) A (.call (.builtin "set.__init__") ⟨[.ref s.heap.objs.size, .ref l], []⟩) (wants (fun r t => r = .none ∧ Filled w s ns s.heap.objs.size t) E) { s with heap := s.heap.push (bareSet w) } := by
  obtain ⟨ob, at_l, cls, ep, dat⟩ := hl
  obtain ⟨c1, c2, c3, c4⟩ := ob
  cases cls
  cases dat
  have born : (s.heap.push (bareSet w)).get? s.heap.objs.size = some (bareSet w) := Heap.get?_push_size _ rfl
  have ty : Shared.TypeIs { s with heap := s.heap.push (bareSet w) } (.ref s.heap.objs.size) "set" := ⟨_, born, rfl⟩
  refine codeAny_call_builtin F.called_set.init.plain F.entry_set_init (check_set_init_1 ty ?_)
  have low : l < s.heap.objs.size := Heap.lt_size at_l
  have at_l2 : (s.heap.push (bareSet w)).get? l = _ := Heap.get?_push_of_some _ at_l
  have lst : (s.heap.push (bareSet w)).IsList l its := ⟨_, at_l2, rfl, ep, rfl⟩
  have n1 := F.sub_list_set
  have n2 := F.sub_list_frozenset
  have n3 : (Value.type "list" == Value.type "dict") = false := by decide
  have ln : its.size = ns.length := by
    have := IntsAre.length hi
    rwa [Array.length_toList] at this
  have sz : (s.heap.push (bareSet w)).objs.size = s.heap.objs.size + 1 := Heap.size_push ..
  unfold Builtin.«set.__init__» noKeywords Builtin.Frozenset.updateFrom
  generalize later : pyIter = walk
  wp_walk
  subst later
  refine wpAny_pyIter_list lst (wpAny_bind (wpAny_runValue ?_))
  have walks := (Walks.list (prog := P) (w := w) (show A.in1.in1.handled = none by simp [hh]) (s.heap.push (bareSet w)).objs.size l (fun z => Nat.ne_of_lt (Nat.lt_succ_of_lt low) (z.trans sz)) its).toS
  have apart : s.heap.objs.size ∉ [(s.heap.push (bareSet w)).objs.size, l] := fun m => by
    rcases List.mem_cons.mp m with z | z
    · exact Nat.ne_of_lt (Nat.lt_succ_self _) (z.trans sz)
    · exact Nat.ne_of_gt low (List.mem_singleton.mp z)
  refine set_update_ints walks s.heap.objs.size apart ns ln hb (fun i v e => ints_at hi e) (its.size - 0) 0 _ (by omega) (Nat.zero_le _)
    ?_ ?_ ?_
  · exact ⟨⟨_, Heap.get?_push_size _ rfl, rfl, rfl⟩, lst.push _⟩
  · exact ⟨0, Nat.le_refl 0, setR_new_at (Heap.get?_push_of_some _ born)⟩
  rintro ⟨h2, g2, d2, k2, o2⟩ c moved few filled
  cases show g2 = s.gens from moved.gens
  cases show d2 = s.drawn from moved.drawn
  cases show o2 = s.os from moved.os
  show wpAny _ _ _ _ _ _
  apply wpAny_pure
  show wpAny _ _ (ret Value.none) _ _ _
  refine wpAny_pure ⟨rfl, h2, k2, c, rfl, filled, ln ▸ few, fun b o e => ?_⟩
  have lb := Heap.lt_size e
  refine moved.heap b o (fun m => ?_) (Heap.get?_push_of_some _ (Heap.get?_push_of_some _ e))
  rcases List.mem_cons.mp m with z | z
  · exact Nat.ne_of_lt lb z
  · exact Nat.ne_of_lt (Nat.lt_succ_of_lt lb) ((List.mem_singleton.mp z).trans sz)
theorem set_list {Q : Value → Shared → Prop} (hh : A.handled = none) (hl : s.heap.IsList l its) (hi : IntsAre its.toList ns) (hb : ns.length + 1 < scanBound)
    (go : ∀ t, Filled w s ns s.heap.objs.size t → Q (.ref s.heap.objs.size) t) : wpAny (model P w) A (call (.type "set") [.ref l]) Q E s := by
  have C := F.called_set
  obtain ⟨_, _, mro⟩ := C.mro
  have a1 := C.made
  have a2 := C.sub
  have a3 := C.notType
  have a4 := C.canCreate
  have a5 := F.typeCall_set_1 (.ref l)
  apply wpAny_call
  apply codeAny_of_tree
  show wpAny _ _ (callAny (.type "set") _) _ _ _
  refine wpAny_pure ⟨Code.quiet_builtin _ (by decide +kernel), codeAny_builtin F.entry_type_call ?_⟩
  rw [Around.under_plain (weight_type_call_type "set" [.ref l] []) rfl]
  repeat (any_goals (first | assumption | wp_step))
  refine codeAny_mono (code_set_led1 (E := E) (.ref l) (Q₁ := fun p t => p = .ref s.heap.objs.size ∧ t = { s with heap := s.heap.push (bareSet w) }) ⟨rfl, rfl⟩) fun r t z => ?_
  match r, z with
  | .error _, z => exact z
  | .ok .next, z => exact z.elim
  | .ok .brk, z => exact z.elim
  | .ok .cont, z => exact z.elim
  | .ok (.ret p), ⟨ep, et⟩ =>
    subst ep et
    have ty : Shared.TypeIs { s with heap := s.heap.push (bareSet w) } (.ref s.heap.objs.size) "set" := ⟨_, Heap.get?_push_size _ rfl, rfl⟩
    have b1 := C.init.lookup
    have b2 := C.init.bind (.ref s.heap.objs.size)
    repeat (any_goals (first | assumption | wp_step))
    refine codeAny_mono (set_init (E := E) hh hl hi hb) fun r2 t2 z2 => ?_
    match r2, z2 with
    | .error _, z2 => exact z2
    | .ok .next, z2 => exact z2.elim
    | .ok .brk, z2 => exact z2.elim
    | .ok .cont, z2 => exact z2.elim
    | .ok (.ret v), ⟨ev, fl⟩ =>
      subst ev
      have := go t2 fl
      repeat (any_goals (first | assumption | wp_step))
end
/-- the same, for less -/
def tMono (te : TE) : TE := fun σ H Q => ∃ Q0 : VK, te σ H Q0 ∧ ∀ x H1, Q0 x H1 → Q x H1
theorem pe_mono {X : Cx} {e : Expr} {te : TE} (h : PE X e te) : PE X e (tMono te) := by
  constructor
  rintro pins s σ H Q I ⟨Q0, h0, le⟩
  exact wpAny_mono (h.run pins s σ H Q0 I h0) (fun u t ⟨v, H1, J, r, q⟩ => ⟨v, H1, J, r, le v H1 q⟩) fun _ _ z => z
def rSetQ (w : World) (K : PySem.W.Frag) : List V → Hp → VK → Prop := fun xs H Q => ∃ (p : Addr) (ns : List Int), xs = [.ref p] ∧ (SqL K H p (ns.map V.int) ∨ SqT K H p (ns.map V.int)) ∧ ns.length ≤ 1000 ∧
  ∀ (q : Addr) (c : Nat), H q = none → c ≤ ns.length → Q (.ref q) (upd H q (SetO w q (fun j => decide (j ∈ ns)) c))
theorem cr_setQ {X : Cx} (hc : X.calm = true) : CallR X (.type "set") (rSetQ X.w X.K) := by
  rintro pins s σ H xs us Q I r ⟨p, ns, rfl, sq, few, q⟩
  rw [Vals.ref1 r]
  have small : ns.length + 1 < scanBound := by unfold scanBound; omega
  have fin : ∀ (h : Heap) (tk c : Nat), SetR X.w h s.heap.objs.size (fun j => decide (j ∈ ns)) c → c ≤ ns.length → (∀ b o, s.heap.get? b = some o → h.get? b = some o) → EP X pins σ Q (.ref s.heap.objs.size) { s with heap := h, toks := tk } := fun h tk c R le k =>
    ⟨.ref _, _, I.laid (o := SetO X.w s.heap.objs.size (fun j => decide (j ∈ ns)) c) k (Nat.le_refl _) (setO_new R), rfl, q _ c (I.hok.fresh (Nat.le_refl _)) le⟩
  rcases sq with sq | sq
  · obtain ⟨its, rv, pl, _⟩ := I.list sq
    exact set_list (I.ok.hd hc) pl.isList (ints_of_vals rv) small fun t ⟨h, tk, c, e, R, le, k⟩ => by
      subst e
      exact fin h tk c R le k
  · obtain ⟨its, rv, tp, _⟩ := I.tuple sq
    exact call_set_tupI ns (I.ok.hd hc) (show s.heap.IsTuple p its.toArray from tp) (ints_of_vals rv) small fin
/-- sorted(set(xs)) -/
def tSortSet (K : PySem.W.Frag) (te : TE) : TE := fun σ H Q => te σ H fun v H1 => ∃ (p : Addr) (ns : List Int), v = .ref p ∧ (SqL K H1 p (ns.map V.int) ∨ SqT K H1 p (ns.map V.int)) ∧ ns.length < 64 ∧
  ∀ out : List Int, out.Pairwise (· < ·) → (∀ k, k ∈ out ↔ k ∈ ns) → ∀ (a b : Addr) (φ : Heap → Prop), H1 a = none → b ≠ a → H1 b = none → Q (.ref b) (upd (upd H1 a (.ext φ)) b (.lst (out.map V.int)))
theorem pe_sortSet {X : Cx} {e : Expr} {te : TE} {p1 p2 p3 p4 : Pos} (hc : X.calm = true) (g1 : Gl X "sorted") (m1 : X.mg "sorted" = none) (g2 : Gl X "set") (m2 : X.mg "set" = none) (he : PE X e te)
    (s1 : starEach [.Call (.Name "set" p2) [e] [] p3] X.env = [(false, eval (.Call (.Name "set" p2) [e] [] p3) X.env)] := by rfl) (s2 : starEach [e] X.env = [(false, eval e X.env)] := by rfl) :
    PE X (.Call (.Name "sorted" p1) [.Call (.Name "set" p2) [e] [] p3] [] p4) (tSortSet X.K te) := by
  have inner := pe_callTy (p := p2) (pos := p3) (cr_setQ hc) g2 m2 PyProof.Rows.boot_set (pa_cons (pe_mono he) pa_nil (hs := s2)) (he := s2)
  have whole := pe_callB (p := p1) (pos := p4) (cr_sortedSet hc) g1 m1 (by decide +kernel) (pa_cons inner pa_nil (hs := s1)) (he := s1)
  constructor
  intro pins s σ H Q I h
  refine whole.run pins s σ H Q I ⟨_, h, ?_⟩
  rintro x H1 ⟨p, ns, rfl, sq, few, q⟩
  refine ⟨p, ns, rfl, sq, by omega, fun a c ha le => ⟨a, _, c, rfl, upd_same, by omega, fun out b pw mem ln hb => ?_⟩⟩
  have ne : b ≠ a := fun z => by rw [z, upd_same] at hb; cases hb
  exact q out pw (fun k => by rw [mem k, decide_eq_true_eq]) a b _ ha ne (by rw [upd_ne ne] at hb; exact hb)
section
variable {K : PySem.W.Frag} {te ta tb tc tl : TE} {tt : TT} {tA : TA} {ds : List SD} {ms : List MD} {R : RS}
theorem e_sortSet (h : E K te ds ms fun s ms1 => ∃ ns : List Int, (Sv ms1 (dd s) (.list (ns.map .int)) ∨ Sv ms1 (dd s) (.tuple (ns.map .int))) ∧ ns.length < 64 ∧ ∀ out : List Int, out.Pairwise (· < ·) → (∀ k, k ∈ out ↔ k ∈ ns) → R (.f (out.map .int)) ms1) : E K (tSortSet K te) ds ms R := fun L M σ H hS hA Q q =>
  h L M σ H hS hA _ fun s v H1 ms1 w1 o1 ⟨ns, sv, few, r⟩ => by
    have sq : ∃ p, v = .ref p ∧ (SqL K H1 p (ns.map V.int) ∨ SqT K H1 p (ns.map V.int)) := by
      rcases sv with sv | sv
      · obtain ⟨p, xs, rfl, z, rp⟩ := sv.lst o1.at o1.sl
        rw [RpA.ints_inv rp] at z
        exact ⟨p, rfl, .inl z⟩
      · obtain ⟨p, xs, rfl, z, rp⟩ := sv.tup o1.sl
        rw [RpA.ints_inv rp] at z
        exact ⟨p, rfl, .inr (SqT.of z)⟩
    obtain ⟨p, rfl, sq⟩ := sq
    refine ⟨p, ns, rfl, sq, few, fun out pw mem a b φ ha ne hb => ?_⟩
    have wa : Wk L H1 (upd H1 a (.ext φ)) := Wk.new ha
    have hb2 : upd H1 a (.ext φ) b = none := by rw [upd_ne ne]; exact hb
    exact q (.f (out.map .int)) _ _ ms1 ((w1.trans wa).trans (Wk.new hb2)) (out_new (o1.at.new ha) (w1.trans wa) hb2 (RpA.ints out)) (r out pw mem)
/-- {} as a datum -/
theorem e_dnewE (r : R (.d (.dict [])) ms) : E K tDNewK ds ms R := fun L M σ H hS hA Q q => fun p hp => q (.d (.dict [])) _ _ ms (Wk.new hp) ⟨hA.new hp, .dct (hA.fresh hp) upd_same .nil⟩ r
end
end Hc

namespace Hc
open PySem PySem.Spec PyProof.Rows L2
/-! ### tuple(reversed(t)), t a tuple -/
theorem nolen_rt : typeLookup (.type "reversed") "__len__" = pure none := by rw [typeLookup_type, builtinLookup_eq_fast]; kernel_rfl
theorem hint_rt : typeLookup (.type "reversed") "__length_hint__" = pure (some (.builtin "reversed.__length_hint__")) := by rw [typeLookup_type, builtinLookup_eq_fast]; kernel_rfl
theorem slot_hint : Slot "reversed" "__length_hint__" "reversed.__length_hint__" :=
  .of (owner := "reversed") (n := "__length_hint__") (by rw [typeLookup_type, builtinLookup_eq_fast]; kernel_rfl) (by decide +kernel) (by decide +kernel) (by decide +kernel) (by first | exact .inl (by decide +kernel) | exact .inr (by decide +kernel)) (by rw [isSubtype_type]; kernel_rfl)
theorem entry_hint : entryFor table "reversed.__length_hint__" = some Builtin.«reversed.__length_hint__» := entryFor_of_tree (by kernel_rfl)
theorem args_hint (a : Value) : argsOk "reversed.__length_hint__" ⟨[a], []⟩ := by
  unfold argsOk
  rw [signature?_of (id := "reversed.__length_hint__") (n := ['_', '_', 't', 'n', 'i', 'h', '_', 'h', 't', 'g', 'n', 'e', 'l', '_', '_']) (o := ['d', 'e', 's', 'r', 'e', 'v', 'e', 'r']) (by kernel_rfl) RT.owner_rt]
  kernel_rfl
theorem type_hint : typeOf (.builtin "reversed.__length_hint__") = pure (.type "method_descriptor") := by
  show builtinType _ = _
  rw [builtinType_eq_fast]
  kernel_rfl
section
variable {prog : Program} {w : World} {A : Around} {E : Value → Shared → Prop} {s : Shared}
/-- how many are left, told -/
theorem call_hint {it t : Addr} {vs : Array Value} {Q : Value → Shared → Prop} (z : RT.IsRt s.heap it t ((vs.size : Int) - 1)) (tp : IsTup s.heap t vs) (fits : vs.size ≤ sizeLine)
    (go : ∀ tk u, Q (.int (vs.size : Int) u) { s with toks := tk }) : wpAny (model prog w) A (call (.builtin "reversed.__length_hint__") [.ref it]) Q E s := by
  refine wpAny_call_entry slot_hint z.typeIs entry_hint ?_ (args_hint _)
  obtain ⟨o, e, c, d⟩ := z
  unfold Builtin.«reversed.__length_hint__»
  refine wpAny_bind (m := selfOnly "reversed.__length_hint__" _) (wpAny_pure ?_)
  refine wpAny_bind (wpAny_field e d (i := 0) rfl ?_)
  rw [if_neg (by simp)]
  have line : sizeLine = 16777216 := rfl
  refine wpAny_bind (len_tuple tp (by omega) ?_)
  refine wpAny_bind (wpAny_pure ?_)
  refine wpAny_bind (wpAny_field e d (i := 1) rfl ?_)
  show wpAny _ _ (if ((vs.size : Nat) : Int) < ((vs.size : Int) - 1) + 1 then _ else _) _ _ _
  rw [if_neg (by omega)]
  have one : ((vs.size : Int) - 1) + 1 = (vs.size : Int) := by omega
  rw [one]
  unfold retInt
  exact wpAny_bind (wpAny_mkInt (wpAny_pure ⟨_, rfl, go _ _⟩))
/-- whether some are left -/
theorem hint_left {it t : Addr} {vs : Array Value} {Q : Bool → Shared → Prop} (z : RT.IsRt s.heap it t ((vs.size : Int) - 1)) (tp : IsTup s.heap t vs) (fits : vs.size ≤ sizeLine)
    (go : ∀ tk b, Q b { s with toks := tk }) : wpAny (model prog w) A (Builtin.List.listLengthHint (.ref it)) Q E s := by
  have line : sizeLine = 16777216 := rfl
  have ty := z.typeIs
  unfold Builtin.List.listLengthHint
  apply wpAny_bind
  apply wpAny_specialOf ty nolen_rt
  dsimp only
  apply wpAny_ite_split (fun q => absurd q (by decide +kernel)); intro _
  apply wpAny_ite_split (fun q => absurd q (by decide +kernel)); intro _
  apply wpAny_bind
  apply wpAny_specialOf (name := Str.ofString "__length_hint__") ty hint_rt
  generalize eq : ("reversed.__length_hint__" : String) = id0
  have sp : splitId id0 = some ("reversed", "__length_hint__") := by subst eq; decide +kernel
  dsimp only
  rw [sp]
  subst eq
  apply wpAny_bind
  apply wpAny_isInstance (b := true) ty (by rw [isSubtype_type]; kernel_rfl)
  apply wpAny_ite_split (fun q => absurd q (by decide)); intro _
  apply wpAny_ite_split (fun q => absurd q (by decide +kernel)); intro _
  apply wpAny_bind
  apply wpAny_rule
  apply wpAny_bind
  unfold bindSpecial
  apply wpAny_bind
  apply wpAny_of_eq type_hint
  apply wpAny_ite_split (fun _ => ?_) (fun q => absurd rfl q)
  apply wpAny_pure
  apply wpAny_bind
  apply wpAny_attempt
  apply call_hint z tp fits
  intro tk u
  have f1 : Builtin.List.listFitsIndex (vs.size : Int) = true := by unfold Builtin.List.listFitsIndex; rw [Bool.and_eq_true]; exact ⟨decide_eq_true (by omega), decide_eq_true (by omega)⟩
  have f2 : Builtin.List.listTooLong (vs.size : Int).toNat = false := by unfold Builtin.List.listTooLong; exact decide_eq_false (by omega)
  have f3 : ¬ ((vs.size : Int) < 0) := by omega
  have f4 := fun b => go tk b
  generalize (vs.size : Int) = m at f1 f2 f3
  dsimp only
  unfold asInt?
  dsimp only
  refine wpAny_bind (wpAny_pure ?_)
  dsimp only
  rw [f1, if_neg (by decide), if_neg f3, f2, if_neg (by decide)]
  exact wpAny_pure (f4 _)
/-- the walk of such an iterator: the last first -/
theorem walks_rt (calm : A.handled = none) (it t : Addr) (ne : t ≠ it) (vs : Array Value) (fits : vs.size ≤ sizeLine) :
    Walks prog w A it [it, t] [it] vs.size (fun i v => vs[vs.size - 1 - i]? = some v) (fun i h => i ≤ vs.size ∧ RT.IsRt h it t ((vs.size : Int) - 1 - (i : Int)) ∧ IsTup h t vs) where
  sub := fun b m => List.mem_cons.mpr (.inl (List.mem_singleton.mp m))
  frame := fun i h h' ⟨le, z, tp⟩ kp => ⟨le, z.at (kp it (List.mem_cons.mpr (.inl rfl))), let ⟨o, e, r⟩ := tp; ⟨o, kp t (by simp) o e, r⟩⟩
  item := fun i s Q E lt ⟨le, z, tp⟩ go => by
    have place : (vs.size : Int) - 1 - (i : Int) = ((vs.size - 1 - i : Nat) : Int) := by omega
    rw [place] at z
    have there : vs[vs.size - 1 - i]? = some (vs[vs.size - 1 - i]'(by omega)) := Array.getElem?_eq_getElem _
    refine RT.next_rt_item z tp there fits fun h2 z2 same => ?_
    have back : ((vs.size - 1 - i : Nat) : Int) - 1 = (vs.size : Int) - 1 - ((i + 1 : Nat) : Int) := by omega
    rw [back] at z2
    obtain ⟨o, e, r⟩ := tp
    exact go _ h2 _ there ⟨lt, z2, o, (same.2 t ne).trans e, r⟩ fun b u out eb => (same.2 b fun q => out (List.mem_singleton.mpr q)).trans eb
  done := fun s Q E ⟨le, z, tp⟩ go => by
    rw [show (vs.size : Int) - 1 - (vs.size : Int) = -1 by omega] at z
    exact RT.next_rt_end calm z fun h2 ext => go h2 s.toks fun b u out eb => ext b u (fun q => out (List.mem_singleton.mpr q)) eb
  self := fun i s Q E ⟨le, z, tp⟩ go => RT.iter_rt z go
/-- all that it hands out, in a new list -/
theorem collect_rt {it t : Addr} {vs : Array Value} {Q : List Value → Shared → Prop} (calm : A.handled = none) (z : RT.IsRt s.heap it t ((vs.size : Int) - 1)) (tp : IsTup s.heap t vs) (ne : t ≠ it) (fits : vs.size ≤ sizeLine)
    (go : ∀ (h : Heap) (tk : Nat) (out : Array Value), (∀ b o, b ≠ it → s.heap.get? b = some o → h.get? b = some o) → ItemsOf (fun i v => vs[vs.size - 1 - i]? = some v) out vs.size → Q out.toList { s with heap := h, toks := tk }) :
    wpAny (model prog w) A (collect (.ref it)) Q E s := by
  have walk := (walks_rt (prog := prog) (w := w) (A := A.in1) calm it t ne vs fits).toS
  obtain ⟨oi, ei, _⟩ := id z
  obtain ⟨ot, et, _⟩ := id tp
  have n1 : s.heap.objs.size ≠ it := Nat.ne_of_gt (Heap.lt_size ei)
  have n2 : s.heap.objs.size ≠ t := Nat.ne_of_gt (Heap.lt_size et)
  have apart : s.heap.objs.size ∉ [it, t] := fun m => by
    rcases List.mem_cons.mp m with q | q
    · exact n1 q
    · exact n2 (List.mem_singleton.mp q)
  unfold collect
  apply wpAny_bind
  apply wpAny_runValue
  apply codeAny_builtin F.entry_proto_collect
  rw [Around.under_plainId F.plain_proto_collect _]
  show wpAny _ A.in1 (newList [] >>= fun fresh => again (.builtin "list.__iadd__" ⟨[fresh, .ref it], []⟩)) _ _ s
  refine wpAny_bind (wpAny_newObj_type (wpAny_pure ⟨plainId_quiet F.plain_list_iadd _, codeAny_builtin F.entry_list_iadd ?_⟩))
  rw [Around.under_plainId F.plain_list_iadd _]
  have born : (s.heap.push (newL 0 ([] : List Value).toArray)).get? s.heap.objs.size = some (newL 0 ([] : List Value).toArray) := Heap.get?_push_size _ rfl
  have z1 : RT.IsRt (s.heap.push (newL 0 ([] : List Value).toArray)) it t ((vs.size : Int) - 1) := z.at fun o e => Heap.get?_push_of_some _ e
  have tp1 : IsTup (s.heap.push (newL 0 ([] : List Value).toArray)) t vs := let ⟨o, e, r⟩ := tp; ⟨o, Heap.get?_push_of_some _ e, r⟩
  have ty : ({ s with heap := s.heap.push (newL 0 ([] : List Value).toArray) } : Shared).TypeIs (.ref it) "reversed" := RT.IsRt.typeIs (s := { s with heap := s.heap.push (newL 0 ([] : List Value).toArray) }) z1
  have alike : Builtin.List.listSameRef (.ref s.heap.objs.size) (.ref it) = false := by simp [Builtin.List.listSameRef, n1]
  show wpAny _ A.in1 (Builtin.List.listExtendWith (.ref s.heap.objs.size) (.ref it) (.ref s.heap.objs.size)) _ _ _
  unfold Builtin.List.listExtendWith Builtin.List.listLengthHint
  refine wpAny_bind (wpAny_typeOf ty ?_)
  rw [if_neg (by rw [alike]; decide)]
  refine wpAny_bind (RT.iter_rt (s := { s with heap := s.heap.push (newL 0 ([] : List Value).toArray) }) z1 ?_)
  refine wpAny_bind (wpAny_holding (hint_left (s := { s with heap := s.heap.push (newL 0 ([] : List Value).toArray) }) z1 tp1 fits fun tk1 room => ?_))
  have z0 : ((vs.size : Nat) : Int) - 1 - ((0 : Nat) : Int) = (vs.size : Int) - 1 := by omega
  dsimp only
  split
  · refine wpAny_bind (wpAny_rule ?_)
    unfold Builtin.List.listTouch
    refine wpAny_bind ?_
    show wpAny _ _ (updateSeq s.heap.objs.size (fun xs => xs.push .none) >>= fun _ => updateSeq s.heap.objs.size (fun xs => xs.pop)) _ _ _
    apply wpAny_bind
    apply wpAny_updateSeq born rfl
    have grown := Heap.get?_update_self (Obj.mapSeq (fun xs => xs.push Value.none)) born rfl
    refine wpAny_updateSeq (hz := by seq_fits) grown rfl ?_
    have shrunk := Heap.get?_update_self (Obj.mapSeq (fun xs => xs.pop)) grown rfl
    have rest : ∀ b o, b ≠ s.heap.objs.size → (s.heap.push (newL 0 ([] : List Value).toArray)).get? b = some o → (((s.heap.push (newL 0 ([] : List Value).toArray)).update s.heap.objs.size (Obj.mapSeq (fun xs => xs.push Value.none))).update s.heap.objs.size (Obj.mapSeq (fun xs => xs.pop))).get? b = some o := fun b o nb e =>
      ((Heap.get?_update_other _ _ nb.symm).trans (Heap.get?_update_other _ _ nb.symm)).trans e
    refine wpAny_pure ⟨plainId_quiet F.plain_extend_loop _, codeAny_extend_loopS walk fits _ apart _ vs.size 0 _ _ _ rfl (Nat.zero_le _) ⟨Nat.zero_le _, by rw [z0]; exact z1.at fun o e => rest _ _ n1.symm e, let ⟨o, e, r⟩ := tp1; ⟨o, rest _ _ n2.symm e, r⟩⟩ shrunk (ItemsOf.nil _) ?_⟩
    intro t2 out c2 mv at2 got
    show wpAny _ A (load s.heap.objs.size >>= _) _ _ t2
    refine wpAny_bind (wpAny_load at2 (wpAny_pure ?_))
    rw [Moved.eq_with mv]
    refine go t2.heap t2.toks out (fun b o nb e => mv.heap b o (fun m => ?_) (rest _ _ (Nat.ne_of_lt (Heap.lt_size e)) (Heap.get?_push_of_some _ e))) got
    rcases List.mem_cons.mp m with q | q
    · exact Nat.ne_of_lt (Heap.lt_size e) q
    · exact nb (List.mem_singleton.mp q)
  · refine wpAny_pure ⟨plainId_quiet F.plain_extend_loop _, codeAny_extend_loopS walk fits _ apart _ vs.size 0 _ _ _ rfl (Nat.zero_le _) ⟨Nat.zero_le _, by rw [z0]; exact z1, tp1⟩ born (ItemsOf.nil _) ?_⟩
    intro t2 out c2 mv at2 got
    show wpAny _ A (load s.heap.objs.size >>= _) _ _ t2
    refine wpAny_bind (wpAny_load at2 (wpAny_pure ?_))
    rw [Moved.eq_with mv]
    refine go t2.heap t2.toks out (fun b o nb e => mv.heap b o (fun m => ?_) (Heap.get?_push_of_some _ e)) got
    rcases List.mem_cons.mp m with q | q
    · exact Nat.ne_of_lt (Heap.lt_size e) q
    · exact nb (List.mem_singleton.mp q)
theorem tup_back {it t : Addr} {vs : Array Value} {Q : Value → Shared → Prop} (calm : A.handled = none) (z : RT.IsRt s.heap it t ((vs.size : Int) - 1)) (tp : IsTup s.heap t vs) (ne : t ≠ it) (fits : vs.size ≤ sizeLine)
    (go : ∀ (h : Heap) (tk : Nat) (out : Array Value), (∀ b o, b ≠ it → s.heap.get? b = some o → h.get? b = some o) → ItemsOf (fun i v => vs[vs.size - 1 - i]? = some v) out vs.size →
      Q (.ref h.objs.size) { s with heap := h.push { cls := .type "tuple", data := .seq out }, toks := tk }) : wpAny (model prog w) A (call (.type "tuple") [.ref it]) Q E s := by
  have made : codeAny (model prog w) A.in1 (.call (.builtin "tuple.__new__") ⟨[.type "tuple", .ref it], []⟩) (wants (fun obj s1 => s1.TypeIs obj "tuple" ∧ Q obj s1) E) s := by
    apply codeAny_of_tree
    show wpAny _ A.in1.in1 (do checkBuiltinCall "tuple.__new__" ⟨[.type "tuple", .ref it], []⟩; again (.builtin "tuple.__new__" ⟨[.type "tuple", .ref it], []⟩)) _ _ s
    refine wpAny_bind (wpAny_of_eq (F.newCall_tuple_1 _) (wpAny_pure ⟨plainId_quiet F.plain_tuple_new _, codeAny_builtin F.entry_tuple_new ?_⟩))
    rw [Around.under_plainId F.plain_tuple_new _]
    have a1 := sub_tuple_self
    have a2 := init_tuple_lookup
    have a3 := madeHere_tuple
    have ty : s.TypeIs (.ref it) "reversed" := z.typeIs
    have c1 : A.in1.in1.handled = none := calm
    wp_walk using wpAny_typeOf ty, collect_rt (A := A.in1.in1) c1 z tp ne fits
    intro h tk out kp got
    show wpAny _ _ (Builtin.Tuple.tupleExact out.toList.toArray >>= fun v => ret v) _ _ _
    unfold Builtin.Tuple.tupleExact
    have same : out.toList.toArray = out := by simp
    rw [same]
    exact wpAny_bind (wpAny_newObj_type (wpAny_pure ⟨⟨_, Heap.get?_push_size _ rfl, rfl⟩, go h tk out kp got⟩) (by show out.size ≤ sizeLine; rw [got.1]; exact fits))
  exact callType_codes (Q₁ := fun obj s1 => s1.TypeIs obj "tuple" ∧ Q obj s1) F.called_tuple (F.typeCall_tuple_1 _) F.entry_object_init made fun obj s1 h1 =>
    ⟨h1.1, F.args_object_init_2 obj _, object_init_meets F.called_tuple.init.lookup F.called_tuple.made (by decide) prog w A.in1 _ s1 ⟨h1.1, rfl, h1.2⟩⟩
end
/-- tuple(reversed(e)), e a tuple: as e[::-1] -/
theorem pe_tupRevT {X : Cx} {e : Expr} {te : TE} {p p2 pos pos2 : Pos} (hc : X.calm = true) (hg : Gl X "tuple") (hm : X.mg "tuple" = none) (hg2 : Gl X "reversed") (hm2 : X.mg "reversed" = none) (he : PE X e te)
    (one : starEach [e] X.env = (false, eval e X.env) :: starEach [] X.env := by rfl) (two : starEach [.Call (.Name "reversed" p2) [e] [] pos2] X.env = (false, eval (.Call (.Name "reversed" p2) [e] [] pos2) X.env) :: starEach [] X.env := by rfl) :
    PE X (.Call (.Name "tuple" p) [.Call (.Name "reversed" p2) [e] [] pos2] [] pos) (tRevT X.K te) := by
  constructor
  intro pins s0 σ H0 Q I0 h0
  have turned : ∀ Q' : Value → Shared → Prop, (∀ (a : Addr) (xs : List V) (its : List Value) (H1 : Hp) (s1 : Shared), Inv X pins σ H1 s1 → Vals xs its → IsTup s1.heap a its.toArray → xs.length ≤ sizeLine → (∀ q, H1 q = none → Q (.ref q) (upd H1 q (.tup xs.reverse))) →
      Q' (.ref s1.heap.objs.size) { s1 with heap := s1.heap.push (RT.rtObj a ((its.toArray.size : Int) - 1)), toks := s1.toks + 1 + 1 }) → wpAny (model X.prog X.w) X.A (eval (.Call (.Name "reversed" p2) [e] [] pos2) X.env) Q' X.xe s0 := fun Q' k =>
    Call_ (ld_blt I0 hg2 hm2 PyProof.Rows.boot_reversed (PyProof.Rows.callWith_type1 (args_cons (thn (he.run pins s0 σ H0 _ I0 h0) (fun u s1 hu => args_nil (by
      obtain ⟨v, H1, I1, r1, a, xs, rfl, sq, q⟩ := hu
      cases r1
      obtain ⟨its, rv, tp, zl⟩ := I1.tuple sq
      have sz : its.toArray.size = xs.length := by rw [List.size_toArray]; exact rv.length.symm
      have line : sizeLine = 16777216 := rfl
      exact RT.call_reversed_tup tp (fun A' E' Q2 k2 => len_tuple tp (by omega) k2) (k a xs its H1 s1 I1 rv tp zl q)))) one) one rfl))
  refine Call_ (ld_blt I0 hg hm boot_tuple (PyProof.Rows.callWith_type1 (args_cons (turned _ fun a xs its H1 s1 I1 rv tp zl q => args_nil ?_) two) two rfl))
  have sz : its.toArray.size = xs.length := by rw [List.size_toArray]; exact rv.length.symm
  obtain ⟨ot, et, rt⟩ := id tp
  have away : a ≠ s1.heap.objs.size := Nat.ne_of_lt (Heap.lt_size et)
  refine tup_back (vs := its.toArray) (t := a) (I1.ok.hd hc) ⟨_, Heap.get?_push_size _ rfl, rfl, rfl⟩ ⟨ot, Heap.get?_push_of_some _ et, rt⟩ away (by rw [sz]; exact zl) fun h2 tk out kp items => ?_
  have I2 : Inv X pins σ H1 { s1 with heap := h2, toks := tk } := I1.kept (t' := tk) fun b u z => kp b u (Nat.ne_of_lt (Heap.lt_size z)) (Heap.get?_push_of_some _ z)
  refine ⟨.ref h2.objs.size, _, I2.laid (t' := tk) (o := .tup xs.reverse) (fun b u z => Heap.get?_push_of_some _ z) (Nat.le_refl _) ⟨by rw [List.length_reverse]; exact zl, out.toList, RT.vals_rev rv items, ?_⟩, rfl, q _ (I2.hok.fresh (Nat.le_refl _))⟩
  rw [Array.toArray_toList]
  exact ⟨_, Heap.get?_push_size _ rfl, rfl, _, rfl⟩
end Hc

namespace Hc
open PySem PySem.Spec PyProof.Rows L2
/-! ### try: x = f(..), the first clause `except X as n` takes all -/
section
variable {K : PySem.W.Frag} {C : Addr} {tA : TA} {ds : List SD} {ms : List MD} {P : Po}
def tTryA (K : PySem.W.Frag) (C : Addr) (i j : Nat) (te : WX → TE) (ts : Addr → TS) : TS := fun D σ H => tAsg (te (wAs K (.ref C) i (fun a cls d => tSu C cls d (ts a)) (fun _ _ _ _ => False) D)) (gName j) D σ H
/-- how a suite ends: its name is unset behind it -/
abbrev Po.unset (P : Po) (i : Nat) : Po := { nx := fun ds' ms' => P.nx (ds'.set i .u) ms', rt := P.rt, bk := fun ds' ms' => P.bk (ds'.set i .u) ms', ct := fun ds' ms' => P.ct (ds'.set i .u) ms' }
theorem s_tryA {i j : Nat} {Φ : PhX} {ts : Addr → TS} (hm : PySem.W.exmOne K (.ref C) (.ref C) = some true) (h : EA K tA ds ms fun as ms1 => Φ as ms1 (fun s ms2 => P.nx (ds.set j (dd s)) ms2) fun ms2 => ∀ a, S K (ts a) (ds.set i (.v (.ref a))) ms2 (P.unset i)) :
    S K (tTryA K C i j (fun W => tCallS (SpX K C Φ) (WE W) tA) ts) ds ms P := fun L M σ H hS hA D n r b c =>
  h L M σ H hS hA _ fun as vs H1 ms1 w1 a1 o1 h1 => by
    refine ⟨L, M, ms1, as, _, _, a1, o1, h1, fun s v H2 ms2 w2 o2 r2 => ?_, fun H2 ms2 w2 a2 y => ⟨true, hm, fun _ a ha => ⟨⟨rfl, rfl⟩, ?_⟩, nofun⟩⟩
    · have w := w1.trans w2
      exact n _ H2 _ ms2 w ((hS.mono hA w).set j o2.sl) o2.at r2
    · have w := w1.trans w2
      have slot : SlOk K L M H2 (.v (.ref a)) (.ref a) := rfl
      refine y a L M _ H2 ((hS.mono hA w).set i slot) a2 _ (fun σ3 H3 ds3 ms3 w3 s3 a3 q => ?_) (r.on a2 w) (fun σ3 H3 ds3 ms3 w3 s3 a3 q => ?_) (fun σ3 H3 ds3 ms3 w3 s3 a3 q => ?_)
      · exact n _ H3 _ ms3 (w.trans w3) (s3.forget i none) a3 q
      · exact b _ H3 _ ms3 (w.trans w3) (s3.forget i none) a3 q
      · exact c _ H3 _ ms3 (w.trans w3) (s3.forget i none) a3 q
end
end Hc

namespace Hc
open PySem PySem.Spec PyProof.Rows L2
/-! ### data read off the heap, dicts too -/
section
variable {X : Cx} {pins : List (Addr × Obj)} {σ : L2.St} {H : Hp} {s : Shared} {M : List Addr}
theorem key_off {h : Heap} {k : Key} {e : Value} (z : keyIs k e = true) : Reads h e (keyD k) [] := by
  rcases keyIs_shape z with ⟨i, t, rfl, rfl⟩ | ⟨x, t, rfl, rfl⟩
  · exact .int i t
  · exact .str x t
mutual
theorem Rp.off (I : Inv X pins σ H s) (out : H sysModules = none) : ∀ {v : V} {d : PyData}, Rp M H v d → ∀ u, RelV v u → ∃ as, Reads s.heap u d as ∧ sysModules ∉ as
  | _, _, .non, u, r => by
    cases r
    exact ⟨[], .none, nofun⟩
  | _, _, .bl b, u, r => by
    cases r
    exact ⟨[], .bool b, nofun⟩
  | _, _, .int i, u, r => by
    obtain ⟨t, rfl⟩ := r
    exact ⟨[], .int i t, nofun⟩
  | _, _, .str x, u, r => by
    obtain ⟨t, rfl⟩ := r
    exact ⟨[], .str x t, nofun⟩
  | _, _, .lst (a := a) na e rs, u, r => by
    cases r
    obtain ⟨z, its, n, rv, g⟩ := I.hok a _ e
    obtain ⟨as, q, no⟩ := RpA.off I out rs its rv
    refine ⟨a :: as, .list (vs := its.toArray) g rfl rfl (by rw [List.toList_toArray]; exact q), fun m => ?_⟩
    rcases List.mem_cons.mp m with w | w
    · rw [w, e] at out
      cases out
    · exact no w
  | _, _, .tup (a := a) na e rs, u, r => by
    cases r
    obtain ⟨z, its, rv, o, g, c, n, d⟩ := I.hok a _ e
    obtain ⟨as, q, no⟩ := RpA.off I out rs its rv
    exact ⟨as, .tuple (vs := its.toArray) g c d (by rw [List.toList_toArray]; exact q), no⟩
  | _, _, .dct (a := a) na e rs, u, r => by
    cases r
    obtain ⟨z, ns, vs, kv, o, es, ep, g, ex, dd, ko, ps, nd⟩ := I.hok a _ e
    obtain ⟨bs, q1, q2, no⟩ := RpK.off I out rs vs kv es.toList ps
    refine ⟨a :: [] ++ bs, .dict g ex.1 dd q1 q2, fun m => ?_⟩
    rcases List.mem_cons.mp m with w | w
    · rw [w] at ns
      simp at ns
    · exact no w
theorem RpA.off (I : Inv X pins σ H s) (out : H sysModules = none) : ∀ {vs : List V} {ds : List PyData}, RpA M H vs ds → ∀ us, Vals vs us → ∃ as, ReadsAll s.heap us ds as ∧ sysModules ∉ as
  | _, _, .nil, us, r => by
    cases r
    exact ⟨[], .nil, nofun⟩
  | _, _, .cons h t, us, r => by
    cases r with
    | cons r1 r2 =>
      obtain ⟨as, q1, n1⟩ := Rp.off I out h _ r1
      obtain ⟨bs, q2, n2⟩ := RpA.off I out t _ r2
      exact ⟨as ++ bs, .cons q1 q2, fun m => (List.mem_append.mp m).elim n1 n2⟩
theorem RpK.off (I : Inv X pins σ H s) (out : H sysModules = none) : ∀ {kvs : List (Key × V)} {ds : List (PyData × PyData)}, RpK M H kvs ds → ∀ vs, KV kvs vs → ∀ es, Pairs (mixKind X.prog X.w) es vs →
    ∃ bs, ReadsAll s.heap (es.map (·.key)) (ds.map (·.1)) [] ∧ ReadsAll s.heap (es.map (·.val)) (ds.map (·.2)) bs ∧ sysModules ∉ bs
  | _, _, .nil, vs, kv, es, ps => by
    cases kv
    cases ps
    exact ⟨[], .nil, .nil, nofun⟩
  | _, _, .cons h t, vs, kv, es, ps => by
    cases kv with
    | cons r1 r2 =>
      cases ps with
      | cons p1 p2 p3 =>
        obtain ⟨e1, rv⟩ := r1
        obtain ⟨as, q1, n1⟩ := Rp.off I out h _ rv
        obtain ⟨bs, k2, q2, n2⟩ := RpK.off I out t _ r2 _ p3
        refine ⟨as ++ bs, ?_, .cons (by dsimp only; rw [p2]; exact q1) q2, fun m => (List.mem_append.mp m).elim n1 n2⟩
        refine ReadsAll.cons (as := []) (bs := []) ?_ k2
        rw [← e1] at p1
        exact key_off p1
end
end
/-! ### repr of any datum, where the guards are known and the table of modules stands in the base -/
def rReprD : List V → Hp → VK → Prop := fun vs H Q => ∃ (M : List Addr) (v : V) (d : PyData), vs = [v] ∧ Rp M H v d ∧ d.showable = true ∧ d.depth ≤ 60 ∧ d.shown.length ≤ sizeLine ∧ Q (.str d.shown) H
theorem cr_reprD {X : Cx} (hu : X.A.units + 64 < cLine) (hg : X.A.guards = some []) (sys : ∃ o, X.base.get? sysModules = some o) : CallR X (.builtin "repr") rReprD := by
  intro pins s σ H vs us Q I r h
  obtain ⟨M, v, d, rfl, rp, show_, deep, long, q⟩ := h
  obtain ⟨o, bo⟩ := sys
  have out := (I.bs _ _ bo).2
  obtain ⟨u, rfl, ru⟩ : ∃ u, us = [u] ∧ RelV v u := by
    cases r with
    | cons r1 r2 =>
      cases r2
      exact ⟨_, rfl, r1⟩
  have big : ∀ a, v = .ref a → wpAny (model X.prog X.w) X.A (call (.builtin "repr") [u]) (fun x s' => ∃ y H', Inv X pins σ H' s' ∧ RelV y x ∧ Q y H') X.xe s := fun a e => by
    subst e
    have eu : u = Value.ref a := ru
    subst eu
    obtain ⟨as, rd, no⟩ := Rp.off I out rp _ rfl
    exact repr_of_reads' rd show_ (fun _ => no) hg (by omega) (fun _ _ e => e) (fun h' u tk hk => ⟨.str d.shown, H, I.kept hk, ⟨u, rfl⟩, q⟩) long
  cases rp with
  | non =>
    have eu : u = Value.none := ru
    subst eu
    exact PySem.P.repr_of_none ⟨.str _, H, I.tok _, ⟨_, rfl⟩, q⟩
  | bl b =>
    have eu : u = Value.bool b := ru
    subst eu
    refine PySem.P.repr_of_bool ⟨.str _, H, I.tok _, ⟨_, rfl⟩, ?_⟩
    cases b <;> exact q
  | int i =>
    obtain ⟨t, eu⟩ : ∃ t, u = Value.int i t := ru
    subst eu
    exact PySem.P.repr_of_int (of_decide_eq_true show_) ⟨.str _, H, I.tok _, ⟨_, rfl⟩, q⟩
  | str x =>
    obtain ⟨t, eu⟩ : ∃ t, u = Value.str x t := ru
    subst eu
    exact PySem.P.repr_of_str ⟨.str _, H, I.tok _, ⟨_, rfl⟩, q⟩ long
  | lst na e rs => exact big _ rfl
  | tup na e rs => exact big _ rfl
  | dct na e rs => exact big _ rfl
theorem rc_reprD {K : PySem.W.Frag} {ms : List MD} {R : RS} {as : List SD} (h : ∃ x : PyData, as = [.d x] ∧ x.showable = true ∧ x.depth ≤ 60 ∧ x.shown.length ≤ sizeLine ∧ R (.d (.str x.shown)) ms) : RC K rReprD as ms R := fun L M H vs hA ha Q q => by
  obtain ⟨x, rfl, sh, dp, hz, r⟩ := h
  obtain ⟨v, t, rfl, hv, rfl⟩ := ha
  exact ⟨M, v, x, rfl, hv, sh, dp, hz, q (.d (.str x.shown)) _ H ms (Wk.refl L H) ⟨hA, .str _⟩ r⟩
/-- the end of a law whose own body knows the guards, and that the table of modules stands in the base -/
theorem walk_topS {l : PySem.W.OpenLaw} {n : Nat} {q : Program} {loose : List Str} {XP : (Str → Option Value) → Heap → Prop} {YP : World → Heap → Prop} {d : DefRec} {K : Params → PySem.W.Frag} {Φ : Ph}
    (most : l.most = some n) (small : n ≤ sizeLine) (plain : d.params.defaults = []) (noSys : importsNone q = true) (hY : ∀ (w : World) (h : Heap), YP w h → (K w.params).In h)
    (F : ∀ (w : World) (mg : Str → Option Value) (fa : Addr) (h : Heap), (K w.params).In h → h.Ns mainGlobals mg → mg d.name = some (.ref fa) → ∀ base : Heap, (K w.params).In base → base.Ns mainGlobals mg → (∃ o, base.get? sysModules = some o) → TopOk l.prog w (K w.params) mg base fa Φ)
    (at_ : ∀ (w : World) (H : Hp) (a : Addr) (ns : List Int), ns.length ≤ n → Only H → SqL (K w.params) H a (ns.map V.int) → SpD (K w.params) Φ [.ref a] H (fun v _ => v = .bl true) fun _ _ _ => False) :
    PySem.W.WalkO q loose XP YP l.row.toRowW d [] (fun f vs => PySem.call f vs) := by
  apply Att.attach_call most plain
  intro w _ s mg mb fa _ _ _ _ a vs ns G Y _ _ _ name obj ii short gens
  have KX := hY w _ Y
  obtain ⟨H, only, sq, ok, one, out⟩ := script_at (Pg := l.prog) (w := w) KX obj ii (Nat.le_trans short small)
  obtain ⟨e0, kin, nsb⟩ := env_top KX G.T.g G.T.b G.T.builtins G.T.nolimit gens obj ok one out
  have sys : ∃ o, (hidT s.heap H).get? sysModules = some o := by
    obtain ⟨mm, ⟨o, es, ep, z, dd, _⟩, _⟩ := (G.T.seer noSys).mods
    cases e : H sysModules with
    | none => exact ⟨o, hidT_get z e⟩
    | some u =>
      have := one _ (by rw [e]; nofun)
      rw [this, obj] at z
      have := Option.some.inj z
      subst this
      exact nomatch dd
  refine codeAny_mono (F w mg fa _ KX G.T.g name _ kin nsb sys s H a e0 (at_ w H a ns short only sq)) fun r s2 z => ?_
  match r, z with
  | .ok (.ret u), ⟨v, H2, os, bare, un, ok2, rv, e⟩ =>
    have e : v = .bl true := e
    subst e
    have rv : u = Value.bool true := rv
    subst rv
    exact ⟨rfl, old_of only ok ok2 un, os, bare⟩
  | .ok .next, z => exact z.elim
  | .ok .brk, z => exact z.elim
  | .ok .cont, z => exact z.elim
  | .error _, z => exact z.elim
end Hc

namespace Hc
open PySem PySem.Spec PyProof.Rows L2
section
variable {K : PySem.W.Frag} {ds : List SD} {ms : List MD} {R : RS} {P : Po}
theorem upd_twice {H : Hp} {p : Addr} {x y : HO} : upd (upd H p x) p y = upd H p y := by
  funext b
  by_cases z : b = p
  · subst z; rw [upd_same, upd_same]
  · rw [upd_ne z, upd_ne z, upd_ne z]
/-- {0: a, 1: b, 2: c}, three ints -/
theorem e_disp3 {i j l : Nat} {a b c : Int} (hi : ds[i]? = some (.d (.int a))) (hj : ds[j]? = some (.d (.int b))) (hl : ds[l]? = some (.d (.int c))) (r : R (.d (.dict [(.int 0, .int a), (.int 1, .int b), (.int 2, .int c)])) ms) :
    E K (tDisp ((tC (.int 0), tVar i) :: (tC (.int 1), tVar j) :: (tC (.int 2), tVar l) :: [])) ds ms R := fun L M σ H hS hA Q q p hp => by
  obtain ⟨v1, e1, o1⟩ := hS.get hi (fun z => nomatch z)
  obtain ⟨v2, e2, o2⟩ := hS.get hj (fun z => nomatch z)
  obtain ⟨v3, e3, o3⟩ := hS.get hl (fun z => nomatch z)
  cases o1
  cases o2
  cases o3
  refine ⟨_, e1, _, e2, _, e3, ?_⟩
  refine ⟨upd_same, [(.inl 0, .int a), (.inl 1, .int b), (.inl 2, .int c)], rfl, Nat.le_of_ble_eq_true rfl, ?_⟩
  rw [upd_twice]
  exact q (.d (.dict [(.int 0, .int a), (.int 1, .int b), (.int 2, .int c)])) _ _ ms (Wk.new hp) ⟨hA.new hp, .dct (hA.fresh hp) upd_same (.cons (k := .inl 0) (.int a) (.cons (k := .inl 1) (.int b) (.cons (k := .inl 2) (.int c) .nil)))⟩ r
/-- for x in a row, a list or a tuple -/
theorem s_forRowL {i : Nat} {g : TG} {tb : TS} (h : S K (tFor (iList K (tVar i)) g tb) ds ms P) : S K (tFor (iRow K i) g tb) ds ms P := fun L M σ H hS hA D n r b c => .inl (h L M σ H hS hA D n r b c)
theorem s_forRowT {i : Nat} {g : TG} {tb : TS} (h : S K (tFor (iTup K (tVar i)) g tb) ds ms P) : S K (tFor (iRow K i) g tb) ds ms P := fun L M σ H hS hA D n r b c => .inr (h L M σ H hS hA D n r b c)
end
/-! ### min(t) of a row of ints, a list or a tuple -/
theorem minI (n : Int) (ns : List Int) : ∃ m : Int, PySem.W.minD (.int n) (ns.map .int) = .int m ∧ m ≤ n ∧ (∀ y ∈ ns, m ≤ y) := by
  induction ns generalizing n with
  | nil => exact ⟨n, rfl, Int.le_refl _, nofun⟩
  | cons y r ih =>
    have e : PySem.W.minD (.int n) ((y :: r).map .int) = PySem.W.minD (if PySem.W.dataLt (.int y) (.int n) then .int y else .int n) (r.map .int) := rfl
    have lt : PySem.W.dataLt (.int y) (.int n) = decide (y < n) := PySem.W.dataLt_int ..
    rw [e, lt]
    by_cases h : y < n
    · rw [decide_eq_true h, if_pos rfl]
      obtain ⟨m, e1, e2, e3⟩ := ih y
      exact ⟨m, e1, by omega, fun z hz => (List.mem_cons.mp hz).elim (fun q => by rw [q]; exact e2) (e3 z)⟩
    · rw [decide_eq_false h, if_neg (by decide)]
      obtain ⟨m, e1, e2, e3⟩ := ih n
      exact ⟨m, e1, e2, fun z hz => (List.mem_cons.mp hz).elim (fun q => by rw [q]; omega) (e3 z)⟩
def rMinT (K : PySem.W.Frag) : List V → Hp → VK → Prop := fun vs H Q => ∃ (a : Addr) (n : Int) (ns : List Int), vs = [V.ref a] ∧ SqT K H a ((n :: ns).map V.int) ∧ ∀ m, m ∈ n :: ns → (∀ y ∈ n :: ns, m ≤ y) → Q (.int m) H
theorem cr_minT {X : Cx} (hc : X.calm = true) (hu : X.A.units + 65 < cLine) : CallR X (.builtin "min") (rMinT X.K) := by
  rintro pins s σ H vs us Q I r ⟨a, n, ns, rfl, sq, q⟩
  obtain ⟨its, rv, tp, zl⟩ := I.tuple sq
  rw [Vals.ref1 r]
  obtain ⟨as, ra⟩ := Dp.readsAll I ((n :: ns).map .int) ((n :: ns).map V.int) its (dpI _) rv
  obtain ⟨m, e1, e2, e3⟩ := minI n ns
  refine PySem.W.min_tuple_data (vs := its.toArray) (x := .int n) (xs := ns.map .int) (I.ok.hd hc) tp ra ⟨fun x hx y hy => ?_, fun x hx => ?_⟩ ?_ fun i v h' tk bs hv rd hk => ?_
  · obtain ⟨x', _, rfl⟩ := List.mem_map.mp (show x ∈ (n :: ns).map PyData.int from hx)
    obtain ⟨y', _, rfl⟩ := List.mem_map.mp (show y ∈ (n :: ns).map PyData.int from hy)
    rfl
  · obtain ⟨x', _, rfl⟩ := List.mem_map.mp (show x ∈ (n :: ns).map PyData.int from hx)
    exact nofun
  · have : PyData.depthAll (PyData.int n :: ns.map PyData.int) = 0 := depI (n :: ns)
    rw [this]
    omega
  · rw [List.getElem?_toArray] at hv
    have hi := (List.getElem?_eq_some_iff.mp hv).1
    have hl := rv.length
    obtain ⟨u, h1, h2⟩ := rv.get (List.getElem?_eq_getElem (l := (n :: ns).map V.int) (i := i) (by omega))
    rw [hv] at h1
    cases h1
    rw [List.getElem_map] at h2
    obtain ⟨t, rfl⟩ := h2
    rw [e1] at rd
    have hi2 : i < (n :: ns).length := by rw [List.length_map] at hl; omega
    have em : (n :: ns)[i]'hi2 = m := by
      generalize (n :: ns)[i]'hi2 = x at rd
      cases rd
      rfl
    exact ⟨.int m, H, I.kept hk, ⟨t, by rw [em]⟩, q m (em ▸ List.getElem_mem _) fun y hy => (List.mem_cons.mp hy).elim (fun z => by rw [z]; exact e2) (e3 y)⟩
def rMinRow (K : PySem.W.Frag) : List V → Hp → VK → Prop := fun vs H Q => rMin K vs H Q ∨ rMinT K vs H Q
theorem cr_minRow {X : Cx} (hc : X.calm = true) (hu : X.A.units + 65 < cLine) : CallR X (.builtin "min") (rMinRow X.K) := by
  intro pins s σ H vs us Q I r h
  rcases h with h | h
  · exact cr_min hc pins s σ H vs us Q I r h
  · exact cr_minT hc hu pins s σ H vs us Q I r h
theorem rc_minRow {K : PySem.W.Frag} {ms : List MD} {R : RS} {as : List SD} (h : ∃ (x : PyData) (ns : List Int), as = [.d x] ∧ (x = .list (ns.map .int) ∨ x = .tuple (ns.map .int)) ∧ 0 < ns.length ∧ ∀ m : Int, m ∈ ns → (∀ y ∈ ns, m ≤ y) → R (.d (.int m)) ms) : RC K (rMinRow K) as ms R := fun L M H vs hA ha Q q => by
  obtain ⟨x, ns, rfl, hx, hl, r⟩ := h
  rcases hx with rfl | rfl
  · exact .inl (rc_minL ⟨_, ns, rfl, .d _, hl, r⟩ L M H vs hA ha Q q)
  · obtain ⟨v, t, rfl, hv, rfl⟩ := ha
    obtain ⟨p, xs, rfl, e1, hr⟩ := Sv.tup (ms := ms) (K := K) (L := L) (.d (.tuple (ns.map .int))) hv
    rw [RpA.ints_inv hr] at e1
    cases ns with
    | nil => simp at hl
    | cons n ns => exact .inr ⟨p, n, ns, rfl, SqT.of e1, fun m h1 h2 => q (.d (.int m)) _ H ms (Wk.refl L H) ⟨hA, .int m⟩ (r m h1 h2)⟩
end Hc

namespace Hc
open PySem PySem.Spec PyProof.Rows L2
/-! ### an error that is kept beyond its suite -/
/-- an error of the class at C, no more in the air, at a -/
def erO (C a : Addr) : HO := .ext fun h => ∃ (err : Obj) (vs : Array Value), h.get? a = some err ∧ Zc (.ref C) none err ∧ err.data = .fields vs
theorem erO_ok {P : Program} {w : World} {H : Hp} {h : Heap} {a C : Addr} {err : Obj} (g : h.get? a = some err) (z : Zc (.ref C) none err) (f : ∃ vs, err.data = .fields vs) : ObjOk P w H h a (erO C a) := by
  obtain ⟨vs, d⟩ := f
  refine ⟨⟨err, vs, g, z, d⟩, ⟨err, g⟩, ?_⟩
  rintro h1 h2 ⟨u, us, g1, z1, d1⟩ same
  exact ⟨u, us, same u g1, z1, d1⟩
section
variable {X : Cx} {pins : List (Addr × Obj)} {σ : L2.St} {H : Hp} {s : Shared}
/-- what is there, and new since the def began, may be told of -/
theorem inv_tell {a : Addr} {u : HO} (I : Inv X pins σ H s) (na : H a = none) (n0 : X.s_0.heap.get? a = none) (nl : a ≠ X.env.locals) (nc : ∀ x c, X.env.cells.lookup x = some c → c ≠ a) (np : ∀ p ∈ X.pn ++ pins, p.1 ≠ a) (ok : ObjOk X.prog X.w (upd H a u) s.heap a u) : Inv X pins σ (upd H a u) s := by
  have old : ∀ b o, H b = some o → b ≠ a := fun b o e => ne_of_none e na
  constructor
  · exact I.ok
  · exact I.os
  · exact I.bare
  · constructor
    · exact I.base.keep
    · exact I.base.slot
    · intro b o e n x
      have : b ≠ a := fun z => by rw [z, n0] at e; cases e
      rw [upd_ne this]
      exact I.base.free b o e n x
    · exact I.base.there
    · intro b xs e
      have q := I.base.tups b xs e
      rw [upd_ne (old b _ q)]
      exact q
    · intro b o v e
      have q := I.base.frzs b o v e
      rw [upd_ne (old b _ q)]
      exact q
    · intro b ps e
      obtain ⟨more, q⟩ := I.base.tbls b ps e
      exact ⟨more, by rw [upd_ne (old b _ q)]; exact q⟩
  · exact I.loc
  · exact I.cell
  · rw [upd_ne (Ne.symm nl)]
    exact I.free
  · intro x c e
    rw [upd_ne (nc x c e)]
    exact I.freeC x c e
  · intro p hp
    obtain ⟨q1, q2, q3⟩ := I.pin p hp
    exact ⟨q1, by rw [upd_ne (np p hp)]; exact q2, q3⟩
  · exact HOk.laidN I.hok (fun _ _ q => q) na ok
  · exact I.len
end
section
variable {X : Cx} {x n : Str} {c : Value} {i : Nat} {C : Addr} {body suite : List Stmt} {b1 : Stmt} {np pos pos2 : Pos} {tb : WX → TS} {ts : Addr → TS}
/-- what the clause wishes of the error, of the class at C: behind its suite it is kept -/
def wHold (K : PySem.W.Frag) (c : Value) (C : Addr) (i : Nat) (ts : Addr → TS) (D : Ends) : WX := fun cls d σ H =>
  cls = .ref C ∧ d = none ∧ PySem.W.exmOne K cls c = some true ∧ ∀ a, H a = none → ts a { nx := fun σ' H' => D.nx (σ'.set i none) (upd H' a (erO C a)), rt := fun _ _ => False, bk := fun _ _ => False, ct := fun _ _ => False } (σ.set i (some (.ref a))) H
theorem clause_holds (own : X.stack = X.env :: X.outer) (fr : X.env.frame = some X.env.locals) (ex0 : X.ex = []) (nd : X.N.Nodup) (hi : X.N[i]? = some n) (lc : X.env.kindOf n = some .local) (hc : Names X x c)
    (hsu : ∀ (a : Addr) (err : Obj) (ps : List (Addr × Obj)), PSs (X.suite a ((a, err) :: ps)) (b1 :: suite) (ts a))
    (ok : X.Ok) (pins : List (Addr × Obj)) (D : Ends) : Takes (X.tr (X.pn ++ pins) (toClause X pins D [.ExceptHandler (some (.Name x np)) (some n) (b1 :: suite) pos2])) (wHold X.K c C i ts D) := by
  rintro u t ⟨a, B, t0, ps, σ2, H2, cls, dd, rfl, J, nb, up, sky, un, os, ag, rfl, rfl, match_, yes⟩
  have frames : X.A.frames = some (X.env :: X.outer) := by rw [ok.frames, own]
  have J := J.ofTry ok
  show wpAny (model X.prog X.w) X.A (noteFrame (.ref a) X.env) _ _ _
  apply Sky.land Zc.steady frames fr (show Sky B (X.env :: X.outer) a (Zc (.ref C) none) X.env.locals t.heap by rw [← own]; exact sky)
  intro h1 f1 u1
  have J1 : Inv X pins σ2 H2 { t with heap := h1 } := J.landed nb f1.1 (up.trans u1) os ag
  obtain ⟨o1, v1, g1, z1, d1⟩ := f1.there
  have out := not_frame f1.2.2.1 g1 d1
  have here : a ≠ X.env.locals := fun z => out (List.mem_filterMap.mpr ⟨X.env, by simp, fr.trans (by rw [z])⟩)
  have outer : a ∉ X.fs := fun m => by
    obtain ⟨y, hy, q⟩ := List.mem_filterMap.mp m
    exact out (List.mem_filterMap.mpr ⟨y, by simp [hy], q⟩)
  have notB : ∀ b o, t0.heap.get? b = some o → b ∉ frs X.stack → b ≠ a := fun b o e h z => by
    have := nb b o e h
    rw [z, f1.2.1] at this
    cases this
  have new0 : X.s_0.heap.get? a = none := by
    cases q : X.s_0.heap.get? a with
    | none => rfl
    | some o =>
      obtain ⟨o', q'⟩ := J.base.there a o q (by rw [ex0]; nofun)
      exact absurd rfl (notB a o' q' (by rw [own]; exact out))
  have pinned : ∀ p ∈ X.pn ++ pins, p.1 ≠ a := fun p hp => by
    obtain ⟨q1, q2, q3, q4, q5⟩ := J.pin p hp
    refine notB p.1 p.2 q1 fun m => ?_
    rw [own] at m
    obtain ⟨y, hy, q⟩ := List.mem_filterMap.mp m
    rcases List.mem_cons.mp hy with e | e
    · subst e
      rw [fr] at q
      exact q3 (Option.some.inj q).symm
    · exact q4 (List.mem_filterMap.mpr ⟨y, e, q⟩)
  have T1 := J1.suite g1 d1 un here outer
  refine wpAny_handleBy_cons (codeAny_handlers_test ?_) nofun
  have cls_at : PySem.W.Looks (model X.prog X.w) h1 (typeOf (.ref a)) (.ref C) := fun _ _ _ _ kp q => wpAny_typeOf_ref (kp _ _ g1) (z1.1.symm ▸ q)
  have asked := PySem.W.exm_one (M := model X.prog X.w) J1.kIn cls_at match_
  have name : ∀ {Q E : Value → Shared → Prop}, Q c { t with heap := h1 } → wpAny (model X.prog X.w) (X.A.mark (some (.ref a))) (eval (.Name x np) X.env) Q E { t with heap := h1 } := fun q => by
    rcases hc with ⟨g, db, m | ⟨m, bb, ne⟩⟩
    · exact ld_glob (X := X.suite a ((a, o1) :: (X.pn ++ pins))) T1 g m q db
    · exact ld_blt (X := X.suite a ((a, o1) :: (X.pn ++ pins))) T1 g m bb q ne db
  apply name
  apply asked.here
  apply codeAny_handlers_suite_as
  apply HandSPX.lands_againZ f1
  intro h2 f2 u2
  have J2 : Inv X pins σ2 H2 { t with heap := h2 } := J.landed nb f2.1 ((up.trans u1).trans u2) os ag
  obtain ⟨o2, v2, g2, z2, d2⟩ := f2.there
  have T2 := J2.suite g2 d2 un here outer
  refine store_ok (X := X.suite a ((a, o2) :: (X.pn ++ pins))) (v := .ref a) T2 nd hi (.inl lc) rfl (fun s5 T5 => ?_) (.inr lc)
  refine wpAny_mono ((hsu a o2 (X.pn ++ pins)).run [] s5 _ H2 _ T5 (yes a un)) (fun fl s6 z => ?_) nofun
  match fl, z with
  | .next, ⟨_, H6, V, q⟩ =>
    obtain ⟨p1, p2, _⟩ := V.pin (a, o2) (List.mem_append.mpr (.inl List.mem_cons_self))
    have W := V.unsuite ok
    have K6 := inv_tell (u := erO C a) W p2 new0 here (fun y cc e z => by
      obtain ⟨v, o, g, dc⟩ := W.cell y cc e
      rw [z, p1] at g
      have := Option.some.inj g
      rw [← this, d2] at dc
      cases dc) pinned (erO_ok p1 z2 ⟨_, d2⟩)
    exact gone_ok K6 nd hi lc fun s7 K7 => ⟨_, _, K7, q⟩
  | .brk, ⟨_, _, _, q⟩ => exact q.elim
  | .cont, ⟨_, _, _, q⟩ => exact q.elim
  | .ret _, ⟨_, _, _, _, _, q⟩ => exact q.elim
theorem ps_try_hold (own : X.stack = X.env :: X.outer) (fr : X.env.frame = some X.env.locals) (ex0 : X.ex = []) (nd : X.N.Nodup) (hi : X.N[i]? = some n) (lc : X.env.kindOf n = some .local) (hc : Names X x c)
    (hb : ∀ (wish : WX) (ps : List (Addr × Obj)) (out : Value → Shared → Prop), Takes (X.tr ps out) wish → PassesOwn (model X.prog X.w) X.A X.env out → PSs (X.tr ps out) body (tb wish))
    (hsu : ∀ (a : Addr) (err : Obj) (ps : List (Addr × Obj)), PSs (X.suite a ((a, err) :: ps)) (b1 :: suite) (ts a)) :
    PS X (.Try body [.ExceptHandler (some (.Name x np)) (some n) (b1 :: suite) pos2] [] [] pos) (fun D σ H => tb (wHold X.K c C i ts D) D σ H) := by
  constructor
  intro pins s σ H D I h
  apply wpAny_Try_except
  have run := (hb _ _ _ (clause_holds (np := np) (pos2 := pos2) own fr ex0 nd hi lc hc hsu I.ok pins D) PassesOwn.looking).run [] s σ H D (I.toTry _) h
  refine wpAny_mono run (fun fl s1 z => ?_) fun _ _ z => z
  match fl, z with
  | .next, ⟨_, _, V, q⟩ => exact wpAny_execs_nil ⟨_, _, V.ofTry I.ok, q⟩
  | .brk, ⟨_, _, V, q⟩ => exact ⟨_, _, V.ofTry I.ok, q⟩
  | .cont, ⟨_, _, V, q⟩ => exact ⟨_, _, V.ofTry I.ok, q⟩
  | .ret _, ⟨_, _, _, V, r, q⟩ => exact ⟨_, _, _, V.ofTry I.ok, r, q⟩
end
section
variable {K : PySem.W.Frag} {C D : Addr} {tA : TA} {ds : List SD} {ms : List MD} {P : Po} {R : RS}
/-- try: f(..), except D as n: y = n, where f raises the class at C: slots i (n), j (y) -/
def tTryH (K : PySem.W.Frag) (C D : Addr) (i j : Nat) (te : WX → TE) : TS := fun E σ H => tDrop (te (wHold K (.ref D) C i (fun _ => tAsg (tVar i) (gName j)) E)) E σ H
theorem s_tryH {i j : Nat} {Φ : PhX} (li : i < ds.length) (ne : i ≠ j) (hm : PySem.W.exmOne K (.ref C) (.ref D) = some true) (h : EA K tA ds ms fun as ms1 => Φ as ms1 (fun _ ms2 => P.nx ds ms2) fun ms2 => P.nx ((ds.set j (.h (erO C))).set i .u) ms2) :
    S K (tTryH K C D i j (fun W => tCallS (SpX K C Φ) (WE W) tA)) ds ms P := fun L M σ H hS hA E n r b c =>
  h L M σ H hS hA _ fun as vs H1 ms1 w1 a1 o1 h1 => by
    refine ⟨L, M, ms1, as, _, _, a1, o1, h1, fun s v H2 ms2 w2 o2 r2 => n σ H2 ds ms2 (w1.trans w2) (hS.mono hA (w1.trans w2)) o2.at r2, fun H2 ms2 w2 a2 y => ⟨rfl, rfl, hm, fun a na => ?_⟩⟩
    have w := w1.trans w2
    have wn : Wk L H2 (upd H2 a (erO C a)) := Wk.new na
    refine ⟨.ref a, List.getElem?_set_self (hS.lt li), ?_⟩
    have slot : SlOk K L M (upd H2 a (erO C a)) (.h (erO C)) (.ref a) := ⟨a, rfl, a2.fresh na, upd_same⟩
    have s2 := (hS.mono hA w).mono a2 wn
    have s3 := ((s2.set j slot).forget i none)
    refine n _ _ _ ms2 (w.trans wn) ?_ (a2.new na) y
    have e : (((σ.set i (some (V.ref a))).set j (some (V.ref a))).set i none) = ((σ.set j (some (V.ref a))).set i none) := by
      rw [List.set_comm _ _ (Ne.symm ne), List.set_set, List.set_comm _ _ ne]
    rw [e]
    exact s3
/-- isinstance(x, c), x an error that is kept -/
def rIsH (K : PySem.W.Frag) : List V → Hp → VK → Prop := fun xs H Q => ∃ (a C : Addr) (c : V) (cv : Value) (b : Bool), xs = [.ref a, c] ∧ ExcC K C ∧ H a = some (erO C a) ∧ (∀ u, RelV c u → u = cv) ∧ PySem.W.kitOne K (.ref C) cv = some b ∧ Q (.bl b) H
theorem call_isH {X : Cx} : CallR X (.builtin "isinstance") (rIsH X.K) := by
  rintro pins s σ H xs us Q I r ⟨a, C, c, cv, b, rfl, x, ha, one, e, q⟩
  obtain ⟨rx, rr⟩ : RelV (.ref a) us.head! ∧ ∃ u2, us = [.ref a, u2] ∧ RelV c u2 := by
    cases r with
    | cons rx rr =>
      cases rr with
      | cons rt rr =>
        cases rr
        cases rx
        exact ⟨rfl, _, rfl, rt⟩
  obtain ⟨u2, rfl, rt⟩ := rr
  have := one _ rt
  subst this
  obtain ⟨⟨err, vs, g, z, d⟩, _⟩ := I.hok a _ ha
  have at_ : PySem.W.InstAt s.heap a err C none := by
    rcases err with ⟨k1, k2, k3, k4⟩
    rcases z with ⟨z1, z2⟩
    have z1 : k1 = .ref C := z1
    have z2 : k2 = none := z2
    have d : k3 = .fields vs := d
    rw [z1, z2, d] at g ⊢
    exact ⟨g, rfl, rfl, trivial⟩
  have kit := PySem.W.handS_kitx_exc (x := a) (ox := err) x.hg x.hk x.hs x.hd x.ha x.hn x.ht x.hm
  exact PySem.W.kia_one kit I.kIn at_ e nofun fun tk => ⟨.bl b, H, I.kept (t' := tk) fun _ _ z => z, rfl, q⟩
theorem e_isH {i : Nat} {c : V} {cv : Value} {b : Bool} (x : ExcC K C) (hi : ds[i]? = some (.h (erO C))) (hc : ∀ u, RelV c u → u = cv) (hb : PySem.W.kitOne K (.ref C) cv = some b) (r : R (.d (.bool b)) ms) : E K (tCB (rIsH K) (tCons (tVar i) (tCons (tC c) tNil))) ds ms R := fun L M σ H hS hA Q q => by
  obtain ⟨v, e, a, rfl, n, ha⟩ := hS.get hi (fun z => nomatch z)
  exact ⟨.ref a, e, a, C, c, cv, b, rfl, x, ha, hc, hb, q (.d (.bool b)) _ H ms (Wk.refl L H) ⟨hA, .bl b⟩ r⟩
theorem e_varh {i : Nat} {φ : Addr → HO} (h : ds[i]? = some (.h φ)) (r : R (.h φ) ms) : E K (tVar i) ds ms R := fun L M σ H hS hA Q q => by
  obtain ⟨v, e, o⟩ := hS.get h (fun z => nomatch z)
  exact ⟨v, e, q _ v H ms (Wk.refl L H) (.of hA o) r⟩
end
end Hc

namespace Hc
open PySem PySem.Spec PyProof.Rows L2
/-! ### errors of several classes -/
abbrev PhY := List SD → List MD → RS → (Addr → List MD → Prop) → Prop
/-- a def that hands back, or raises one of some classes -/
def SpY (K : PySem.W.Frag) (Φ : PhY) : Sp := fun vs H Q X => ∃ L M ms as R Y, At L M ms H ∧ SlsOk K L M H as vs ∧ Φ as ms R Y ∧ (∀ s v H' ms', Wk L H H' → Out K L M H H' ms' v s → R s ms' → Q v H') ∧ ∀ C H' ms', Wk L H H' → At L M ms' H' → Y C ms' → X (.ref C) none H'
def EyX (L M : List Addr) (H : Hp) (Y : Addr → List MD → Prop) (X : XK) : Prop := ∀ C H' ms', Wk L H H' → At L M ms' H' → Y C ms' → X (.ref C) none H'
def SY (K : PySem.W.Frag) (t : XK → TS) (ds : List SD) (ms : List MD) (P : Po) (Y : Addr → List MD → Prop) : Prop :=
  ∀ (L M : List Addr) (σ : L2.St) (H : Hp), Sl K L M σ H ds → At L M ms H → ∀ (D : Ends) (X : XK), Nx K L M H P.nx D.nx → Rx K L M H P.rt D.rt → Nx K L M H P.bk D.bk → Nx K L M H P.ct D.ct → EyX L M H Y X → t X D σ H
section
variable {K : PySem.W.Frag} {C : Addr} {te ta tb tc tl : TE} {tt : TT} {tA : TA} {ds : List SD} {ms : List MD} {R : RS} {P : Po} {Y : Addr → List MD → Prop}
theorem EyX.on {L M : List Addr} {H H1 : Hp} {X : XK} (w : Wk L H H1) (h : EyX L M H Y X) : EyX L M H1 Y X := fun C H' ms' w2 => h C H' ms' (w.trans w2)
theorem sy_of {t : TS} (h : S K t ds ms P) : SY K (fun _ => t) ds ms P Y := fun L M σ H hS hA D X n r b c _ => h L M σ H hS hA D n r b c
theorem sy_sx {t : XK → TS} (h : SX K C t ds ms P (Y C)) : SY K t ds ms P Y := fun L M σ H hS hA D X n r b c x => h L M σ H hS hA D X n r b c (x C)
theorem sy_seq {t u : XK → TS} (h : SY K t ds ms { P with nx := fun ds1 ms1 => SY K u ds1 ms1 P Y } Y) : SY K (fun X => tSeq (t X) (u X)) ds ms P Y := fun L M σ H hS hA D X n r b c x =>
  h L M σ H hS hA { D with nx := u X D } X (fun σ1 H1 ds1 ms1 w s1 a1 h1 => h1 L M σ1 H1 s1 a1 D X (n.on w) (r.on a1 w) (b.on w) (c.on w) (x.on w)) r b c x
theorem sy_if {t u : XK → TS} (h : ET K tt ds ms fun b ms1 => (b = true → SY K t ds ms1 P Y) ∧ (b = false → SY K u ds ms1 P Y)) : SY K (fun X => tIfS tt (t X) (u X)) ds ms P Y := fun L M σ H hS hA D X n r b c x =>
  h L M σ H hS hA _ fun k H1 ms1 w a ⟨h1, h2⟩ => by
    cases k with
    | true => exact h1 rfl L M σ H1 (hS.mono hA w) a D X (n.on w) (r.on a w) (b.on w) (c.on w) (x.on w)
    | false => exact h2 rfl L M σ H1 (hS.mono hA w) a D X (n.on w) (r.on a w) (b.on w) (c.on w) (x.on w)
theorem sy_raise (h : Y C ms) : SY K (tRs C) ds ms P Y := sy_sx (sx_raise h)
/-- such a def by name -/
structure KnY (Pg : Program) (w : World) (K : PySem.W.Frag) (mg : Str → Option Value) (base : Heap) (x : Str) (lv : Nat) (ps : List Str) (Φ : PhY) : Prop where
  ex : ∃ f fd, FnOk Pg w K mg base (L2.CX Pg w) lv f fd ps (SpY K Φ) ∧ mg x = some (.ref f) ∧ PySem.W.keepIn K (.ref f) = true ∧ Binds K fd ps []
theorem pe_callY {X : Cx} {x : Str} {lv : Nat} {ps : List Str} {Φ : PhY} {W : WX} {e : Expr} {es : List Expr} {t : TA} {p pos : Pos} (h : KnY X.prog X.w X.K X.mg X.base x lv ps Φ) (hr : Room lv X.A) (hg : Gl X x) (tk : Takes X W) (ha : PA X (e :: es) t)
    (hdb : (x == ("__debug__" : Str)) = false := by decide) (he : starEach (e :: es) X.env = (false, eval e X.env) :: starEach es X.env := by rfl) (hpl : (backTo pos (starEach es X.env)).any (·.1) = false := by rfl) :
    PE X (.Call (.Name x p) (e :: es) [] pos) (tCallS (SpY X.K Φ) (WE W) t) := by
  obtain ⟨f, fd, G, m, k, b⟩ := h.ex
  exact pe_callS G hr hg m k b (fun σ => passAt tk σ) ha hdb he hpl
theorem pe_callY0 {X : Cx} {x : Str} {lv : Nat} {ps : List Str} {Φ : PhY} {e : Expr} {es : List Expr} {t : TA} {p pos : Pos} (h : KnY X.prog X.w X.K X.mg X.base x lv ps Φ) (hr : Room lv X.A) (hg : Gl X x) (ha : PA X (e :: es) t)
    (hdb : (x == ("__debug__" : Str)) = false := by decide) (he : starEach (e :: es) X.env = (false, eval e X.env) :: starEach es X.env := by rfl) (hpl : (backTo pos (starEach es X.env)).any (·.1) = false := by rfl) :
    PE X (.Call (.Name x p) (e :: es) [] pos) (tCall (SpY X.K Φ) [] E0 t) := by
  obtain ⟨f, fd, G, m, k, b⟩ := h.ex
  exact pe_call G hr hg m k b .nil passL ha hdb he hpl
theorem e_callY0 {Φ : PhY} (h : EA K tA ds ms fun as ms1 => Φ as ms1 R fun _ _ => False) : E K (tCall (SpY K Φ) [] E0 tA) ds ms R := fun L M σ H hS hA Q q =>
  h L M σ H hS hA _ fun as vs H1 ms1 w1 a1 o1 h1 => by
    rw [List.append_nil]
    exact ⟨L, M, ms1, as, R, fun _ _ => False, a1, o1, h1, fun s v H3 ms3 w3 o3 r3 => q s v H3 ms3 (w1.trans w3) (o3.back a1 w1) r3, fun _ _ _ _ _ z => z.elim⟩
theorem okY_of {Pg : Program} {w : World} {mg : Str → Option Value} {base : Heap} {x qual : Str} {st : Stmt} {f : Addr} {fd : FuncData} {N ps : List Str} {k : Nat} {Φ : PhY} (F : Fun K x qual st f fd) (Sc : FnScope N ps (defScope st)) (hl : ∀ as ms R Y, Φ as ms R Y → as.length = ps.length) (hpn : ps.length ≤ N.length)
    (t : XK → TS) (hbody : ∀ (cdv : Value) (A : Around) (outer : List Env) (s : Shared) (H : Hp) (E : XK), Room k (A.deeper (envOfC qual (defScope st) s.heap.objs.size f cdv)) → PSs (cxOf (L2.CX Pg w) Pg w K mg base N qual (defScope st) f cdv A outer s H E) (defBody st) (t E))
    (h2 : ∀ as ms R Y, Φ as ms R Y → SY K t (as ++ List.replicate (N.length - as.length) .u) ms (fin R) Y) : FnOk Pg w K mg base (L2.CX Pg w) (k + 1) f fd ps (SpY K Φ) := by
  refine F.okX Sc (fun vs H Q E h => ?_) (fun cdv A outer s H vs Q E hr h => ⟨t E, hbody cdv A outer s H E hr, ?_⟩)
  · obtain ⟨L, M, ms, as, R, Y, hA, ho, hp, q⟩ := h
    rw [← ho.len]
    exact hl as ms R Y hp
  · obtain ⟨L, M, ms, as, R, Y, hA, ho, hp, q, x⟩ := h
    exact h2 as ms R Y hp L M _ H (Sl.start ho (by rw [hl as ms R Y hp]; exact hpn)) hA _ E (fun σ' H' ds' ms' w s a r => q (.d .none) .non H' ms' w ⟨a, .non⟩ r) (fun s v H' ms' w o r => q s v H' ms' w o r) (fun _ _ _ _ _ _ _ z => z.elim) (fun _ _ _ _ _ _ _ z => z.elim) x
end
def phy1 (f : SD → List MD → RS → (Addr → List MD → Prop) → Prop) : PhY := fun as ms R Y => ∃ a, as = [a] ∧ f a ms R Y
def phy2 (f : SD → SD → List MD → RS → (Addr → List MD → Prop) → Prop) : PhY := fun as ms R Y => ∃ a b, as = [a, b] ∧ f a b ms R Y
def phy3 (f : SD → SD → SD → List MD → RS → (Addr → List MD → Prop) → Prop) : PhY := fun as ms R Y => ∃ a b c, as = [a, b, c] ∧ f a b c ms R Y
def phy5 (f : SD → SD → SD → SD → SD → List MD → RS → (Addr → List MD → Prop) → Prop) : PhY := fun as ms R Y => ∃ a b c d e, as = [a, b, c, d, e] ∧ f a b c d e ms R Y
theorem phy1_len {f : SD → List MD → RS → (Addr → List MD → Prop) → Prop} : ∀ as ms R Y, phy1 f as ms R Y → as.length = 1 := fun _ _ _ _ ⟨_, e, _⟩ => by rw [e]; rfl
theorem phy2_len {f : SD → SD → List MD → RS → (Addr → List MD → Prop) → Prop} : ∀ as ms R Y, phy2 f as ms R Y → as.length = 2 := fun _ _ _ _ ⟨_, _, e, _⟩ => by rw [e]; rfl
theorem phy3_len {f : SD → SD → SD → List MD → RS → (Addr → List MD → Prop) → Prop} : ∀ as ms R Y, phy3 f as ms R Y → as.length = 3 := fun _ _ _ _ ⟨_, _, _, e, _⟩ => by rw [e]; rfl
theorem phy5_len {f : SD → SD → SD → SD → SD → List MD → RS → (Addr → List MD → Prop) → Prop} : ∀ as ms R Y, phy5 f as ms R Y → as.length = 5 := fun _ _ _ _ ⟨_, _, _, _, _, e, _⟩ => by rw [e]; rfl
def ph5 (f : SD → SD → SD → SD → SD → List MD → RS → Prop) : Ph := fun as ms R => ∃ a b c d e, as = [a, b, c, d, e] ∧ f a b c d e ms R
theorem ph5_len {f : SD → SD → SD → SD → SD → List MD → RS → Prop} : ∀ as ms R, ph5 f as ms R → as.length = 5 := fun _ _ _ ⟨_, _, _, _, _, e, _⟩ => by rw [e]; rfl
/-! ### an error of whichever class that is kept, or handed back -/
section
variable {X : Cx} {x n : Str} {c : Value} {i : Nat} {body suite : List Stmt} {b1 : Stmt} {np pos pos2 : Pos} {tb : WX → TS} {ts : Addr → TS}
def wKeep (K : PySem.W.Frag) (c : Value) (i : Nat) (ts : Addr → TS) (D : Ends) : WX := fun cls d σ H =>
  ∃ C, cls = .ref C ∧ d = none ∧ PySem.W.exmOne K cls c = some true ∧ ∀ a, H a = none → ts a { nx := fun σ' H' => D.nx (σ'.set i none) (upd H' a (erO C a)), rt := fun v H' => D.rt v (upd H' a (erO C a)), bk := fun _ _ => False, ct := fun _ _ => False } (σ.set i (some (.ref a))) H
theorem clause_keeps (own : X.stack = X.env :: X.outer) (fr : X.env.frame = some X.env.locals) (ex0 : X.ex = []) (nd : X.N.Nodup) (hi : X.N[i]? = some n) (lc : X.env.kindOf n = some .local) (hc : Names X x c)
    (hsu : ∀ (a : Addr) (err : Obj) (ps : List (Addr × Obj)), PSs (X.suite a ((a, err) :: ps)) (b1 :: suite) (ts a))
    (ok : X.Ok) (pins : List (Addr × Obj)) (D : Ends) : Takes (X.tr (X.pn ++ pins) (toClause X pins D [.ExceptHandler (some (.Name x np)) (some n) (b1 :: suite) pos2])) (wKeep X.K c i ts D) := by
  rintro u t ⟨a, B, t0, ps, σ2, H2, cls, dd, rfl, J, nb, up, sky, un, os, ag, C, rfl, rfl, match_, yes⟩
  have frames : X.A.frames = some (X.env :: X.outer) := by rw [ok.frames, own]
  have J := J.ofTry ok
  show wpAny (model X.prog X.w) X.A (noteFrame (.ref a) X.env) _ _ _
  apply Sky.land Zc.steady frames fr (show Sky B (X.env :: X.outer) a (Zc (.ref C) none) X.env.locals t.heap by rw [← own]; exact sky)
  intro h1 f1 u1
  have J1 : Inv X pins σ2 H2 { t with heap := h1 } := J.landed nb f1.1 (up.trans u1) os ag
  obtain ⟨o1, v1, g1, z1, d1⟩ := f1.there
  have out := not_frame f1.2.2.1 g1 d1
  have here : a ≠ X.env.locals := fun z => out (List.mem_filterMap.mpr ⟨X.env, by simp, fr.trans (by rw [z])⟩)
  have outer : a ∉ X.fs := fun m => by
    obtain ⟨y, hy, q⟩ := List.mem_filterMap.mp m
    exact out (List.mem_filterMap.mpr ⟨y, by simp [hy], q⟩)
  have notB : ∀ b o, t0.heap.get? b = some o → b ∉ frs X.stack → b ≠ a := fun b o e h z => by
    have := nb b o e h
    rw [z, f1.2.1] at this
    cases this
  have new0 : X.s_0.heap.get? a = none := by
    cases q : X.s_0.heap.get? a with
    | none => rfl
    | some o =>
      obtain ⟨o', q'⟩ := J.base.there a o q (by rw [ex0]; nofun)
      exact absurd rfl (notB a o' q' (by rw [own]; exact out))
  have pinned : ∀ p ∈ X.pn ++ pins, p.1 ≠ a := fun p hp => by
    obtain ⟨q1, q2, q3, q4, q5⟩ := J.pin p hp
    refine notB p.1 p.2 q1 fun m => ?_
    rw [own] at m
    obtain ⟨y, hy, q⟩ := List.mem_filterMap.mp m
    rcases List.mem_cons.mp hy with e | e
    · subst e
      rw [fr] at q
      exact q3 (Option.some.inj q).symm
    · exact q4 (List.mem_filterMap.mpr ⟨y, e, q⟩)
  have T1 := J1.suite g1 d1 un here outer
  refine wpAny_handleBy_cons (codeAny_handlers_test ?_) nofun
  have cls_at : PySem.W.Looks (model X.prog X.w) h1 (typeOf (.ref a)) (.ref C) := fun _ _ _ _ kp q => wpAny_typeOf_ref (kp _ _ g1) (z1.1.symm ▸ q)
  have asked := PySem.W.exm_one (M := model X.prog X.w) J1.kIn cls_at match_
  have name : ∀ {Q E : Value → Shared → Prop}, Q c { t with heap := h1 } → wpAny (model X.prog X.w) (X.A.mark (some (.ref a))) (eval (.Name x np) X.env) Q E { t with heap := h1 } := fun q => by
    rcases hc with ⟨g, db, m | ⟨m, bb, ne⟩⟩
    · exact ld_glob (X := X.suite a ((a, o1) :: (X.pn ++ pins))) T1 g m q db
    · exact ld_blt (X := X.suite a ((a, o1) :: (X.pn ++ pins))) T1 g m bb q ne db
  apply name
  apply asked.here
  apply codeAny_handlers_suite_as
  apply HandSPX.lands_againZ f1
  intro h2 f2 u2
  have J2 : Inv X pins σ2 H2 { t with heap := h2 } := J.landed nb f2.1 ((up.trans u1).trans u2) os ag
  obtain ⟨o2, v2, g2, z2, d2⟩ := f2.there
  have T2 := J2.suite g2 d2 un here outer
  refine store_ok (X := X.suite a ((a, o2) :: (X.pn ++ pins))) (v := .ref a) T2 nd hi (.inl lc) rfl (fun s5 T5 => ?_) (.inr lc)
  refine wpAny_mono ((hsu a o2 (X.pn ++ pins)).run [] s5 _ H2 _ T5 (yes a un)) (fun fl s6 z => ?_) nofun
  have keep : ∀ {σ6 : L2.St} {H6 : Hp} {s6 : Shared}, Inv (X.suite a ((a, o2) :: (X.pn ++ pins))) [] σ6 H6 s6 → Inv X pins σ6 (upd H6 a (erO C a)) s6 := fun V => by
    obtain ⟨p1, p2, _⟩ := V.pin (a, o2) (List.mem_append.mpr (.inl List.mem_cons_self))
    have W := V.unsuite ok
    exact inv_tell (u := erO C a) W p2 new0 here (fun y cc e z => by
      obtain ⟨v, o, g, dc⟩ := W.cell y cc e
      rw [z, p1] at g
      have := Option.some.inj g
      rw [← this, d2] at dc
      cases dc) pinned (erO_ok p1 z2 ⟨_, d2⟩)
  match fl, z with
  | .next, ⟨_, H6, V, q⟩ => exact gone_ok (keep V) nd hi lc fun s7 K7 => ⟨_, _, K7, q⟩
  | .ret _, ⟨_, _, _, V, r, q⟩ => exact gone_ok (keep V) nd hi lc fun s7 K7 => ⟨_, _, _, K7, r, q⟩
  | .brk, ⟨_, _, _, q⟩ => exact q.elim
  | .cont, ⟨_, _, _, q⟩ => exact q.elim
theorem ps_try_keep (own : X.stack = X.env :: X.outer) (fr : X.env.frame = some X.env.locals) (ex0 : X.ex = []) (nd : X.N.Nodup) (hi : X.N[i]? = some n) (lc : X.env.kindOf n = some .local) (hc : Names X x c)
    (hb : ∀ (wish : WX) (ps : List (Addr × Obj)) (out : Value → Shared → Prop), Takes (X.tr ps out) wish → PassesOwn (model X.prog X.w) X.A X.env out → PSs (X.tr ps out) body (tb wish))
    (hsu : ∀ (a : Addr) (err : Obj) (ps : List (Addr × Obj)), PSs (X.suite a ((a, err) :: ps)) (b1 :: suite) (ts a)) :
    PS X (.Try body [.ExceptHandler (some (.Name x np)) (some n) (b1 :: suite) pos2] [] [] pos) (fun D σ H => tb (wKeep X.K c i ts D) D σ H) := by
  constructor
  intro pins s σ H D I h
  apply wpAny_Try_except
  have run := (hb _ _ _ (clause_keeps (np := np) (pos2 := pos2) own fr ex0 nd hi lc hc hsu I.ok pins D) PassesOwn.looking).run [] s σ H D (I.toTry _) h
  refine wpAny_mono run (fun fl s1 z => ?_) fun _ _ z => z
  match fl, z with
  | .next, ⟨_, _, V, q⟩ => exact wpAny_execs_nil ⟨_, _, V.ofTry I.ok, q⟩
  | .brk, ⟨_, _, V, q⟩ => exact ⟨_, _, V.ofTry I.ok, q⟩
  | .cont, ⟨_, _, V, q⟩ => exact ⟨_, _, V.ofTry I.ok, q⟩
  | .ret _, ⟨_, _, _, V, r, q⟩ => exact ⟨_, _, _, V.ofTry I.ok, r, q⟩
end
section
variable {K : PySem.W.Frag} {D : Addr} {tA : TA} {ds : List SD} {ms : List MD} {P : Po} {R : RS}
/-- try: return f(..), except D as n: return n (slot i) -/
def tTryR (K : PySem.W.Frag) (D : Addr) (i : Nat) (te : WX → TE) : TS := fun E σ H => tRet (te (wKeep K (.ref D) i (fun _ => tRet (tVar i)) E)) E σ H
/-- try: f(..), except D as n: return n -/
def tTryE (K : PySem.W.Frag) (D : Addr) (i : Nat) (te : WX → TE) : TS := fun E σ H => tDrop (te (wKeep K (.ref D) i (fun _ => tRet (tVar i)) E)) E σ H
theorem keep_rt {L M : List Addr} {σ : L2.St} {H1 H2 : Hp} {ms2 : List MD} {C : Addr} {i : Nat} {E : Ends} (li : i < σ.length) (a2 : At L M ms2 H2) (w : Wk L H1 H2) (r : Rx K L M H1 P.rt E.rt) (y : P.rt (.h (erO C)) ms2) (a : Addr) (na : H2 a = none) :
    tRet (tVar i) { nx := fun σ' H' => E.nx (σ'.set i none) (upd H' a (erO C a)), rt := fun v H' => E.rt v (upd H' a (erO C a)), bk := fun _ _ => False, ct := fun _ _ => False } (σ.set i (some (.ref a))) H2 :=
  ⟨.ref a, List.getElem?_set_self li, r (.h (erO C)) _ _ ms2 (w.trans (Wk.new na)) ⟨a2.new na, a, rfl, a2.fresh na, upd_same⟩ y⟩
theorem s_tryR {i : Nat} {Φ : PhY} (li : i < ds.length) (h : EA K tA ds ms fun as ms1 => Φ as ms1 P.rt fun C ms2 => PySem.W.exmOne K (.ref C) (.ref D) = some true ∧ P.rt (.h (erO C)) ms2) :
    S K (tTryR K D i (fun W => tCallS (SpY K Φ) (WE W) tA)) ds ms P := fun L M σ H hS hA E n r b c =>
  h L M σ H hS hA _ fun as vs H1 ms1 w1 a1 o1 h1 =>
    ⟨L, M, ms1, as, _, _, a1, o1, h1, fun s v H2 ms2 w2 o2 r2 => r s v H2 ms2 (w1.trans w2) (o2.back a1 w1) r2, fun C H2 ms2 w2 a2 y => ⟨C, rfl, rfl, y.1, fun a na => keep_rt (hS.lt li) a2 (w1.trans w2) r y.2 a na⟩⟩
theorem s_tryE {i : Nat} {Φ : PhY} (li : i < ds.length) (h : EA K tA ds ms fun as ms1 => Φ as ms1 (fun _ ms2 => P.nx ds ms2) fun C ms2 => PySem.W.exmOne K (.ref C) (.ref D) = some true ∧ P.rt (.h (erO C)) ms2) :
    S K (tTryE K D i (fun W => tCallS (SpY K Φ) (WE W) tA)) ds ms P := fun L M σ H hS hA E n r b c =>
  h L M σ H hS hA _ fun as vs H1 ms1 w1 a1 o1 h1 =>
    ⟨L, M, ms1, as, _, _, a1, o1, h1, fun s v H2 ms2 w2 o2 r2 => n σ H2 ds ms2 (w1.trans w2) (hS.mono hA (w1.trans w2)) o2.at r2, fun C H2 ms2 w2 a2 y => ⟨C, rfl, rfl, y.1, fun a na => keep_rt (hS.lt li) a2 (w1.trans w2) r y.2 a na⟩⟩
end
/-! ### what classes are, and are not, of each other -/
theorem kit_no {K : PySem.W.Frag} {C D : Addr} (hc : PySem.W.isClsIn K D = true) (ht : PySem.W.typeIn K (.ref D) = some (.type "type")) (hs : PySem.W.subIn K (.ref C) (.ref D) = some false) (hr : PySem.W.subIn K (.ref C) (.ref C) = some true) : PySem.W.kitOne K (.ref C) (.ref D) = some false := by
  have hc : (PySem.W.clsIn K D).isSome = true := hc
  unfold PySem.W.kitOne
  by_cases e : ((Value.ref C == Value.ref D) = true)
  · have : C = D := by simpa using e
    subst this
    rw [hr] at hs
    cases hs
  · rw [if_neg e]
    show (if _ then _ else _) = _
    rw [hc, ht, hs]
    rfl
theorem exm_up {K : PySem.W.Frag} {C D : Addr} {b : Bool} (h1 : PySem.W.subIn K (.ref D) (.type "BaseException") = some true) (hc : PySem.W.isClsIn K D = true) (ht : PySem.W.typeIn K (.ref D) = some (.type "type")) (hs : PySem.W.subIn K (.ref C) (.ref D) = some b) : PySem.W.exmOne K (.ref C) (.ref D) = some b := by
  have hc : (PySem.W.clsIn K D).isSome = true := hc
  unfold PySem.W.exmOne
  rw [if_pos (by rw [h1]; rfl)]
  show (if _ then _ else _) = _
  rw [hc, ht, hs]
  rfl
end Hc

namespace K33
open PySem PySem.Spec PyProof.Rows L2 Hc
def topS (i : Nat) : Stmt := PySem.Challenge.pw_heavycut_k33_lightest.main.body.getD i (.Pass ⟨0, 0, 0, 0⟩)
def blt : List Str := ["bool", "isinstance", "int", "tuple", "list", "len", "all", "zip", "range", "enumerate", "sorted", "min", "abs", "reversed", "ValueError", "set"]
structure Cls (K : PySem.W.Frag) (mg : Str → Option Value) (C_CutError C_NoWeb C_NoSide C_NoText C_NoWishes C_NoTurns C_NotFlat C_NoRing C_NoPaper C_NoShare C_NoTie C_NoWeight C_NoDeed C_TooGreat : Addr) : Prop where
  g_CutError : mg "CutError" = some (.ref C_CutError)
  g_NoWeb : mg "NoWeb" = some (.ref C_NoWeb)
  g_NoSide : mg "NoSide" = some (.ref C_NoSide)
  g_NoText : mg "NoText" = some (.ref C_NoText)
  g_NoWishes : mg "NoWishes" = some (.ref C_NoWishes)
  g_NoTurns : mg "NoTurns" = some (.ref C_NoTurns)
  g_NotFlat : mg "NotFlat" = some (.ref C_NotFlat)
  g_NoRing : mg "NoRing" = some (.ref C_NoRing)
  g_NoPaper : mg "NoPaper" = some (.ref C_NoPaper)
  g_NoShare : mg "NoShare" = some (.ref C_NoShare)
  g_NoTie : mg "NoTie" = some (.ref C_NoTie)
  g_NoWeight : mg "NoWeight" = some (.ref C_NoWeight)
  g_NoDeed : mg "NoDeed" = some (.ref C_NoDeed)
  g_TooGreat : mg "TooGreat" = some (.ref C_TooGreat)
  er_NoRing : Er K mg "NoRing" C_NoRing
  k_NoRing_CutError : PySem.W.kitOne K (.ref C_NoRing) (.ref C_CutError) = some true
  n_NoRing_NoWeb : PySem.W.kitOne K (.ref C_NoRing) (.ref C_NoWeb) = some false
  n_NoRing_NoSide : PySem.W.kitOne K (.ref C_NoRing) (.ref C_NoSide) = some false
  n_NoRing_NoText : PySem.W.kitOne K (.ref C_NoRing) (.ref C_NoText) = some false
  n_NoRing_NoWishes : PySem.W.kitOne K (.ref C_NoRing) (.ref C_NoWishes) = some false
  n_NoRing_NoTurns : PySem.W.kitOne K (.ref C_NoRing) (.ref C_NoTurns) = some false
  n_NoRing_NotFlat : PySem.W.kitOne K (.ref C_NoRing) (.ref C_NotFlat) = some false
  n_NoRing_NoPaper : PySem.W.kitOne K (.ref C_NoRing) (.ref C_NoPaper) = some false
  n_NoRing_NoShare : PySem.W.kitOne K (.ref C_NoRing) (.ref C_NoShare) = some false
  n_NoRing_NoTie : PySem.W.kitOne K (.ref C_NoRing) (.ref C_NoTie) = some false
  n_NoRing_NoWeight : PySem.W.kitOne K (.ref C_NoRing) (.ref C_NoWeight) = some false
  n_NoRing_NoDeed : PySem.W.kitOne K (.ref C_NoRing) (.ref C_NoDeed) = some false
  n_NoRing_TooGreat : PySem.W.kitOne K (.ref C_NoRing) (.ref C_TooGreat) = some false
  m_NoRing : PySem.W.exmOne K (.ref C_NoRing) (.ref C_CutError) = some true
  k_NoRing_ValueError : PySem.W.kitOne K (.ref C_NoRing) (.type "ValueError") = some true
  er_NoWishes : Er K mg "NoWishes" C_NoWishes
  k_NoWishes_CutError : PySem.W.kitOne K (.ref C_NoWishes) (.ref C_CutError) = some true
  n_NoWishes_NoWeb : PySem.W.kitOne K (.ref C_NoWishes) (.ref C_NoWeb) = some false
  n_NoWishes_NoSide : PySem.W.kitOne K (.ref C_NoWishes) (.ref C_NoSide) = some false
  n_NoWishes_NoText : PySem.W.kitOne K (.ref C_NoWishes) (.ref C_NoText) = some false
  n_NoWishes_NoTurns : PySem.W.kitOne K (.ref C_NoWishes) (.ref C_NoTurns) = some false
  n_NoWishes_NotFlat : PySem.W.kitOne K (.ref C_NoWishes) (.ref C_NotFlat) = some false
  n_NoWishes_NoRing : PySem.W.kitOne K (.ref C_NoWishes) (.ref C_NoRing) = some false
  n_NoWishes_NoPaper : PySem.W.kitOne K (.ref C_NoWishes) (.ref C_NoPaper) = some false
  n_NoWishes_NoShare : PySem.W.kitOne K (.ref C_NoWishes) (.ref C_NoShare) = some false
  n_NoWishes_NoTie : PySem.W.kitOne K (.ref C_NoWishes) (.ref C_NoTie) = some false
  n_NoWishes_NoWeight : PySem.W.kitOne K (.ref C_NoWishes) (.ref C_NoWeight) = some false
  n_NoWishes_NoDeed : PySem.W.kitOne K (.ref C_NoWishes) (.ref C_NoDeed) = some false
  n_NoWishes_TooGreat : PySem.W.kitOne K (.ref C_NoWishes) (.ref C_TooGreat) = some false
  m_NoWishes : PySem.W.exmOne K (.ref C_NoWishes) (.ref C_CutError) = some true
  k_NoWishes_ValueError : PySem.W.kitOne K (.ref C_NoWishes) (.type "ValueError") = some true
abbrev s_is_whole : Stmt := topS 16
theorem sc_is_whole : FnScope ["thing"] ["thing"] (defScope s_is_whole) := ⟨rfl, rfl, rfl, by decide +kernel, rfl, by decide +kernel, by decide +kernel⟩
abbrev s_is_row : Stmt := topS 17
theorem sc_is_row : FnScope ["thing"] ["thing"] (defScope s_is_row) := ⟨rfl, rfl, rfl, by decide +kernel, rfl, by decide +kernel, by decide +kernel⟩
abbrev s_is_triple : Stmt := topS 18
theorem sc_is_triple : FnScope ["thing"] ["thing"] (defScope s_is_triple) := ⟨rfl, rfl, rfl, by decide +kernel, rfl, by decide +kernel, by decide +kernel⟩
abbrev s_is_number_of : Stmt := topS 19
theorem sc_is_number_of : FnScope ["many", "thing"] ["many", "thing"] (defScope s_is_number_of) := ⟨rfl, rfl, rfl, by decide +kernel, rfl, by decide +kernel, by decide +kernel⟩
abbrev s_are_unlike_points : Stmt := topS 20
theorem sc_are_unlike_points : FnScope ["many", "one", "other"] ["many", "one", "other"] (defScope s_are_unlike_points) := ⟨rfl, rfl, rfl, by decide +kernel, rfl, by decide +kernel, by decide +kernel⟩
abbrev s_is_rising_choice : Stmt := topS 21
theorem sc_is_rising_choice : FnScope ["many", "thing", "number", "following"] ["many", "thing"] (defScope s_is_rising_choice) := ⟨rfl, rfl, rfl, by decide +kernel, rfl, by decide +kernel, by decide +kernel⟩
abbrev s_less : Stmt := topS 23
theorem sc_less : FnScope ["one", "other"] ["one", "other"] (defScope s_less) := ⟨rfl, rfl, rfl, by decide +kernel, rfl, by decide +kernel, by decide +kernel⟩
abbrev s_has_even_ends : Stmt := topS 25
theorem sc_has_even_ends : FnScope ["many", "pairs", "odd", "one", "other"] ["many", "pairs"] (defScope s_has_even_ends) := ⟨rfl, rfl, rfl, by decide +kernel, rfl, by decide +kernel, by decide +kernel⟩
abbrev s_joins_at : Stmt := topS 26
theorem sc_joins_at : FnScope ["many", "joins", "near", "point", "number", "one", "other", "apart"] ["many", "joins"] (defScope s_joins_at) := ⟨rfl, rfl, rfl, by decide +kernel, rfl, by decide +kernel, by decide +kernel⟩
abbrev s_group_from : Stmt := topS 27
theorem sc_group_from : FnScope ["near", "first", "found", "waiting", "point", "mark", "way", "number", "other", "apart"] ["near", "first"] (defScope s_group_from) := ⟨rfl, rfl, rfl, by decide +kernel, rfl, by decide +kernel, by decide +kernel⟩
abbrev s_spread : Stmt := topS 28
theorem sc_spread : FnScope ["many", "joins", "near", "groups", "marks", "ways", "count", "first", "point", "mark", "way"] ["many", "joins"] (defScope s_spread) := ⟨rfl, rfl, rfl, by decide +kernel, rfl, by decide +kernel, by decide +kernel⟩
abbrev s_ring_closed : Stmt := topS 29
theorem sc_ring_closed : FnScope ["way", "other_way", "number", "alone", "step", "other_alone"] ["way", "other_way", "number"] (defScope s_ring_closed) := ⟨rfl, rfl, rfl, by decide +kernel, rfl, by decide +kernel, by decide +kernel⟩
abbrev s_odd_rings : Stmt := topS 30
theorem sc_odd_rings : FnScope ["joins", "marks", "ways", "rings", "number", "one", "other", "apart"] ["joins", "marks", "ways"] (defScope s_odd_rings) := ⟨rfl, rfl, rfl, by decide +kernel, rfl, by decide +kernel, by decide +kernel⟩
abbrev s_parted : Stmt := topS 31
theorem sc_parted : FnScope ["many", "joins", "groups", "marks", "ways", "rings", "point"] ["many", "joins"] (defScope s_parted) := ⟨rfl, rfl, rfl, by decide +kernel, rfl, by decide +kernel, by decide +kernel⟩
abbrev s_size_of : Stmt := topS 33
theorem sc_size_of : FnScope ["web", "tie", "top", "bottom"] ["web", "tie"] (defScope s_size_of) := ⟨rfl, rfl, rfl, by decide +kernel, rfl, by decide +kernel, by decide +kernel⟩
abbrev s_is_gainful : Stmt := topS 34
theorem sc_is_gainful : FnScope ["web", "tie"] ["web", "tie"] (defScope s_is_gainful) := ⟨rfl, rfl, rfl, by decide +kernel, rfl, by decide +kernel, by decide +kernel⟩
abbrev s_is_wish : Stmt := topS 37
theorem sc_is_wish : FnScope ["web", "thing", "one", "other", "apart"] ["web", "thing"] (defScope s_is_wish) := ⟨rfl, rfl, rfl, by decide +kernel, rfl, by decide +kernel, by decide +kernel⟩
abbrev s_made_wishes : Stmt := topS 38
theorem sc_made_wishes : FnScope ["web", "thing", "wish"] ["web", "thing"] (defScope s_made_wishes) := ⟨rfl, rfl, rfl, by decide +kernel, rfl, by decide +kernel, by decide +kernel⟩
abbrev s_grouped : Stmt := topS 39
theorem sc_grouped : FnScope ["web", "wishes"] ["web", "wishes"] (defScope s_grouped) := ⟨rfl, rfl, rfl, by decide +kernel, rfl, by decide +kernel, by decide +kernel⟩
abbrev s_is_lost_together : Stmt := topS 41
theorem sc_is_lost_together : FnScope ["web", "marks", "tie", "one", "other", "weight"] ["web", "marks", "tie"] (defScope s_is_lost_together) := ⟨rfl, rfl, rfl, by decide +kernel, rfl, by decide +kernel, by decide +kernel⟩
abbrev s_is_odd_round : Stmt := topS 42
theorem sc_is_odd_round : FnScope ["web", "groups", "marks", "thing", "ends", "tie"] ["web", "groups", "marks", "thing"] (defScope s_is_odd_round) := ⟨rfl, rfl, rfl, by decide +kernel, rfl, by decide +kernel, by decide +kernel⟩
abbrev s_least_size : Stmt := topS 44
theorem sc_least_size : FnScope ["web", "ring", "least", "tie", "size"] ["web", "ring"] (defScope s_least_size) := ⟨rfl, rfl, rfl, by decide +kernel, rfl, by decide +kernel, by decide +kernel⟩
abbrev s_lightest : Stmt := topS 45
theorem sc_lightest : FnScope ["web", "wishes", "ring", "told", "share"] ["web", "wishes", "ring"] (defScope s_lightest) := ⟨rfl, rfl, rfl, by decide +kernel, rfl, by decide +kernel, by decide +kernel⟩
abbrev s__law_stirred : Stmt := topS 47
theorem sc__law_stirred : FnScope ["_law_cell", "_law_k", "_law_number"] ["_law_cell", "_law_k"] (defScope s__law_stirred) := ⟨rfl, rfl, rfl, by decide +kernel, rfl, by decide +kernel, by decide +kernel⟩
abbrev s__law_deck : Stmt := topS 48
theorem sc__law_deck : FnScope ["_law_script", "_law_many", "_law_cells", "_law_rest", "_law_cell", "_law_deck_here", "_law_k", "_law_at"] ["_law_script", "_law_many"] (defScope s__law_deck) := ⟨rfl, rfl, rfl, by decide +kernel, rfl, by decide +kernel, by decide +kernel⟩
abbrev s__law_next : Stmt := topS 49
theorem sc__law_next : FnScope ["_law_deck_here"] ["_law_deck_here"] (defScope s__law_next) := ⟨rfl, rfl, rfl, by decide +kernel, rfl, by decide +kernel, by decide +kernel⟩
abbrev s__law_fraction : Stmt := topS 50
theorem sc__law_fraction : FnScope ["_law_top", "_law_bottom", "_law_one", "_law_other"] ["_law_top", "_law_bottom"] (defScope s__law_fraction) := ⟨rfl, rfl, rfl, by decide +kernel, rfl, by decide +kernel, by decide +kernel⟩
abbrev s__law_below : Stmt := topS 51
theorem sc__law_below : FnScope ["_law_one", "_law_other"] ["_law_one", "_law_other"] (defScope s__law_below) := ⟨rfl, rfl, rfl, by decide +kernel, rfl, by decide +kernel, by decide +kernel⟩
abbrev s__law_weight : Stmt := topS 52
theorem sc__law_weight : FnScope ["_law_deck_here", "_law_style", "_law_cell", "_law_top"] ["_law_deck_here", "_law_style"] (defScope s__law_weight) := ⟨rfl, rfl, rfl, by decide +kernel, rfl, by decide +kernel, by decide +kernel⟩
abbrev s__law_web : Stmt := topS 53
theorem sc__law_web : FnScope ["_law_deck_here", "_law_most_points", "_law_most_ties", "_law_many", "_law_style", "_law_often", "_law_ties", "_law_other", "_law_one"] ["_law_deck_here", "_law_most_points", "_law_most_ties"] (defScope s__law_web) := ⟨rfl, rfl, rfl, by decide +kernel, rfl, by decide +kernel, by decide +kernel⟩
abbrev s__law_wishes : Stmt := topS 54
theorem sc__law_wishes : FnScope ["_law_deck_here", "_law_many", "_law_way", "_law_found", "_law_bits", "_law_k", "_law_one", "_law_other", "_law_wrong", "_law_point"] ["_law_deck_here", "_law_many"] (defScope s__law_wishes) := ⟨rfl, rfl, rfl, by decide +kernel, rfl, by decide +kernel, by decide +kernel⟩
abbrev s__law_groups : Stmt := topS 55
theorem sc__law_groups : FnScope ["_law_many", "_law_wishes_here", "_law_groups_here", "_law_marks", "_law_one", "_law_other", "_law_apart", "_law_turn", "_law_gone", "_law_point", "_law_first", "_law_told", "_law_group", "_law_mark"] ["_law_many", "_law_wishes_here"] (defScope s__law_groups) := ⟨rfl, rfl, rfl, by decide +kernel, rfl, by decide +kernel, by decide +kernel⟩
abbrev s__law_is_int : Stmt := topS 56
theorem sc__law_is_int : FnScope ["_law_thing_here"] ["_law_thing_here"] (defScope s__law_is_int) := ⟨rfl, rfl, rfl, by decide +kernel, rfl, by decide +kernel, by decide +kernel⟩
abbrev s__law_are_numbers : Stmt := topS 57
theorem sc__law_are_numbers : FnScope ["_law_thing_here", "_law_many", "_law_last", "_law_number"] ["_law_thing_here", "_law_many"] (defScope s__law_are_numbers) := ⟨rfl, rfl, rfl, by decide +kernel, rfl, by decide +kernel, by decide +kernel⟩
abbrev s__law_is_odd_ring : Stmt := topS 58
theorem sc__law_is_odd_ring : FnScope ["_law_web_here", "_law_groups_here", "_law_marks", "_law_ring", "_law_ends", "_law_odd", "_law_tie", "_law_one", "_law_other", "_law_weight_here", "_law_many"] ["_law_web_here", "_law_groups_here", "_law_marks", "_law_ring"] (defScope s__law_is_odd_ring) := ⟨rfl, rfl, rfl, by decide +kernel, rfl, by decide +kernel, by decide +kernel⟩
abbrev s__law_all_rings : Stmt := topS 59
theorem sc__law_all_rings : FnScope ["_law_web_here", "_law_groups_here", "_law_marks", "_law_some", "_law_tie", "_law_ring"] ["_law_web_here", "_law_groups_here", "_law_marks"] (defScope s__law_all_rings) := ⟨rfl, rfl, rfl, by decide +kernel, rfl, by decide +kernel, by decide +kernel⟩
abbrev s__law_one_class : Stmt := topS 60
theorem sc__law_one_class : FnScope ["_law_caught", "_law_at", "_law_one", "_law_two", "_law_three", "_law_four", "_law_found", "_law_k"] ["_law_caught", "_law_at"] (defScope s__law_one_class) := ⟨rfl, rfl, rfl, by decide +kernel, rfl, by decide +kernel, by decide +kernel⟩
abbrev s__law_refused : Stmt := topS 61
theorem sc__law_refused : FnScope ["_law_web_here", "_law_wishes_here", "_law_thing_here", "_law_caught", "error"] ["_law_web_here", "_law_wishes_here", "_law_thing_here"] (defScope s__law_refused) := ⟨rfl, rfl, rfl, by decide +kernel, rfl, by decide +kernel, by decide +kernel⟩
abbrev s__law_paper : Stmt := topS 62
theorem sc__law_paper : FnScope ["_law_web_here", "_law_ring", "_law_least", "_law_tie", "_law_weight_here", "_law_size"] ["_law_web_here", "_law_ring"] (defScope s__law_paper) := ⟨rfl, rfl, rfl, by decide +kernel, rfl, by decide +kernel, by decide +kernel⟩
abbrev s__law_thing : Stmt := topS 63
theorem sc__law_thing : FnScope ["_law_deck_here", "_law_rings", "_law_many", "_law_k", "_law_ring", "_law_more", "_law_odd"] ["_law_deck_here", "_law_rings", "_law_many"] (defScope s__law_thing) := ⟨rfl, rfl, rfl, by decide +kernel, rfl, by decide +kernel, by decide +kernel⟩
abbrev s__law_is_due : Stmt := topS 64
theorem sc__law_is_due : FnScope ["_law_web_here", "_law_found", "_law_thing_here"] ["_law_web_here", "_law_found", "_law_thing_here"] (defScope s__law_is_due) := ⟨rfl, rfl, rfl, by decide +kernel, rfl, by decide +kernel, by decide +kernel⟩
abbrev s__law_tells : Stmt := topS 65
theorem sc__law_tells : FnScope ["_law_web_here", "_law_wishes_here", "_law_thing_here", "_law_due"] ["_law_web_here", "_law_wishes_here", "_law_thing_here"] (defScope s__law_tells) := ⟨rfl, rfl, rfl, by decide +kernel, rfl, by decide +kernel, by decide +kernel⟩
abbrev s_law : Stmt := topS 66
theorem sc_law : FnScope ["_law_script", "_law_deck_here", "_law_web_here", "_law_wishes_here", "_law_found", "_law_rings", "_law_things", "_law_k", "_law_thing_here"] ["_law_script"] (defScope s_law) := ⟨rfl, rfl, rfl, by decide +kernel, rfl, by decide +kernel, by decide +kernel⟩
structure Csts (mg : Str → Option Value) : Prop where
  c_MOST_WISHES : ∃ t, mg "MOST_WISHES" = some (.int 120 t)
section
variable {Pg : Program} {w : World} {K : PySem.W.Frag} {mg : Str → Option Value} {base : Heap}
def t_is_whole (K : PySem.W.Frag) : TS := (tRet (tAndV (tCB (rIsi K) (tCons (tVar 0) (tCons (tC (.ty "int")) tNil))) (tNotV (tCB (rIsi K) (tCons (tVar 0) (tCons (tC (.ty "bool")) tNil))))))
theorem dv_is_whole {f : Addr} {cdv : Value} {A : Around} {outer : List Env} {s : Shared} {H : Hp} {E : XK} (hr : Room 0 (A.deeper (envOfC "is_whole" (defScope s_is_whole) s.heap.objs.size f cdv))) (B : ∀ x, x ∈ blt → mg x = none) (cs : Csts mg) :
    PSs (cxOf CX0 Pg w K mg base ["thing"] "is_whole" (defScope s_is_whole) f cdv A outer s H E).nox (defBody s_is_whole) (t_is_whole K) :=
  (pss_one (ps_ret (pe_and (pe_callB call_isi (by rfl) (B "isinstance" (by decide)) (by decide +kernel) (pa_cons (pv 0) (pa_cons (pe_bltn (by rfl) (B "int" (by decide)) (by decide +kernel) rfl) pa_nil))) (pe_one (pe_not (pe_callB call_isi (by rfl) (B "isinstance" (by decide)) (by decide +kernel) (pa_cons (pv 0) (pa_cons (pe_bltn (by rfl) (B "bool" (by decide)) (by decide +kernel) rfl) pa_nil))))))))
def t_is_row (K : PySem.W.Frag) : TS := (tRet (tCB (rIsiT K) (tCons (tVar 0) (tCons (tTup (tCons (tC (.ty "list")) (tCons (tC (.ty "tuple")) tNil))) tNil))))
theorem dv_is_row {f : Addr} {cdv : Value} {A : Around} {outer : List Env} {s : Shared} {H : Hp} {E : XK} (hr : Room 0 (A.deeper (envOfC "is_row" (defScope s_is_row) s.heap.objs.size f cdv))) (B : ∀ x, x ∈ blt → mg x = none) (cs : Csts mg) :
    PSs (cxOf CX0 Pg w K mg base ["thing"] "is_row" (defScope s_is_row) f cdv A outer s H E).nox (defBody s_is_row) (t_is_row K) :=
  (pss_one (ps_ret (pe_callB call_isiT (by rfl) (B "isinstance" (by decide)) (by decide +kernel) (pa_cons (pv 0) (pa_cons (pe_tup (pa_cons (pe_bltn (by rfl) (B "list" (by decide)) (by decide +kernel) rfl) (pa_cons (pe_bltn (by rfl) (B "tuple" (by decide)) (by decide +kernel) rfl) pa_nil))) pa_nil)))))
def t_is_triple (K : PySem.W.Frag) (Φ_is_row : Ph) : TS := (tRet (tAndV (tCall (SpD K Φ_is_row) [] E0 (tCons (tVar 0) tNil)) (tOp (rEqD K) (tCB (rLenQ K) (tCons (tVar 0) tNil)) (tC (.int 3)))))
theorem dv_is_triple {f : Addr} {cdv : Value} {A : Around} {outer : List Env} {s : Shared} {H : Hp} {E : XK} (hr : Room 1 (A.deeper (envOfC "is_triple" (defScope s_is_triple) s.heap.objs.size f cdv))) (B : ∀ x, x ∈ blt → mg x = none) (cs : Csts mg) {Φ_is_row : Ph} (g_is_row : Kn Pg w K mg base "is_row" 1 ["thing"] Φ_is_row) :
    PSs (cxOf CX0 Pg w K mg base ["thing"] "is_triple" (defScope s_is_triple) f cdv A outer s H E).nox (defBody s_is_triple) (t_is_triple K Φ_is_row) :=
  (pss_one (ps_ret (pe_and (pe_callD g_is_row (hr.mono (by decide)) (by rfl) (pa_cons (pv 0) pa_nil)) (pe_one (pe_cmpR (op_eqD hr.units) (pe_callB call_len_seq (by rfl) (B "len" (by decide)) (by decide +kernel) (pa_cons (pv 0) pa_nil)) pe_int (nomark _))))))
def t_is_number_of (K : PySem.W.Frag) (Φ_is_whole : Ph) : TS := (tRet (tAndV (tCall (SpD K Φ_is_whole) [] E0 (tCons (tVar 1) tNil)) (tChain rLeI rLtI (tC (.int 0)) (tVar 1) (tVar 0))))
theorem dv_is_number_of {f : Addr} {cdv : Value} {A : Around} {outer : List Env} {s : Shared} {H : Hp} {E : XK} (hr : Room 1 (A.deeper (envOfC "is_number_of" (defScope s_is_number_of) s.heap.objs.size f cdv))) (B : ∀ x, x ∈ blt → mg x = none) (cs : Csts mg) {Φ_is_whole : Ph} (g_is_whole : Kn Pg w K mg base "is_whole" 1 ["thing"] Φ_is_whole) :
    PSs (cxOf CX0 Pg w K mg base ["many", "thing"] "is_number_of" (defScope s_is_number_of) f cdv A outer s H E).nox (defBody s_is_number_of) (t_is_number_of K Φ_is_whole) :=
  (pss_one (ps_ret (pe_and (pe_callD g_is_whole (hr.mono (by decide)) (by rfl) (pa_cons (pv 1) pa_nil)) (pe_one (pe_chain op_le op_lt pe_int (pv 1) (pv 0))))))
def t_are_unlike_points (K : PySem.W.Frag) (Φ_is_number_of : Ph) : TS := (tRet (tAndV (tCall (SpD K Φ_is_number_of) [] E0 (tCons (tVar 0) (tCons (tVar 1) tNil))) (tAndV (tCall (SpD K Φ_is_number_of) [] E0 (tCons (tVar 0) (tCons (tVar 2) tNil))) (tOp (rNeD K) (tVar 1) (tVar 2)))))
theorem dv_are_unlike_points {f : Addr} {cdv : Value} {A : Around} {outer : List Env} {s : Shared} {H : Hp} {E : XK} (hr : Room 2 (A.deeper (envOfC "are_unlike_points" (defScope s_are_unlike_points) s.heap.objs.size f cdv))) (B : ∀ x, x ∈ blt → mg x = none) (cs : Csts mg) {Φ_is_number_of : Ph} (g_is_number_of : Kn Pg w K mg base "is_number_of" 2 ["many", "thing"] Φ_is_number_of) :
    PSs (cxOf CX0 Pg w K mg base ["many", "one", "other"] "are_unlike_points" (defScope s_are_unlike_points) f cdv A outer s H E).nox (defBody s_are_unlike_points) (t_are_unlike_points K Φ_is_number_of) :=
  (pss_one (ps_ret (pe_and (pe_callD g_is_number_of (hr.mono (by decide)) (by rfl) (pa_cons (pv 0) (pa_cons (pv 1) pa_nil))) (pe_and (pe_callD g_is_number_of (hr.mono (by decide)) (by rfl) (pa_cons (pv 0) (pa_cons (pv 2) pa_nil))) (pe_one (pe_cmpR (op_neD hr.units) (pv 1) (pv 2) (nomark _)))))))
def t_is_rising_choice (K : PySem.W.Frag) (Φ_is_number_of : Ph) : TS := (tSeq (tIfS (tOr (tNot (L2.tB (tCB (rIsi K) (tCons (tVar 1) (tCons (tC (.ty "tuple")) tNil))))) (tTest (tOp (rEqD K) (tCB (rLenQ K) (tCons (tVar 1) tNil)) (tC (.int 0))))) (tRet (tC (.bl false))) tNext)
    (tSeq (tIfS (tNot (L2.tB (tCB (rAll K) (tCons (tLc (iTup K (tVar 1)) (gName 2) tYes (tCall (SpD K Φ_is_number_of) [] E0 (tCons (tVar 0) (tCons (tVar 2) tNil))) [2]) tNil)))) (tRet (tC (.bl false))) tNext)
    (tRet (tCB (rAll K) (tCons (tLc (RZ.iZipA K (tCons (tVar 1) (tCons (tSl (rSlT K) (tVar 1) (tPart (tC (.int 1))) tNoPart) tNil))) (gTup K 2 (gCons (gName 2) (gCons (gName 3) gNil))) tYes (tOp rLtI (tVar 2) (tVar 3)) [2, 3]) tNil)))))
theorem dv_is_rising_choice {f : Addr} {cdv : Value} {A : Around} {outer : List Env} {s : Shared} {H : Hp} {E : XK} (hr : Room 2 (A.deeper (envOfC "is_rising_choice" (defScope s_is_rising_choice) s.heap.objs.size f cdv))) (B : ∀ x, x ∈ blt → mg x = none) (cs : Csts mg) {Φ_is_number_of : Ph} (g_is_number_of : Kn Pg w K mg base "is_number_of" 2 ["many", "thing"] Φ_is_number_of) :
    PSs (cxOf CX0 Pg w K mg base ["many", "thing", "number", "following"] "is_rising_choice" (defScope s_is_rising_choice) f cdv A outer s H E).nox (defBody s_is_rising_choice) (t_is_rising_choice K Φ_is_number_of) :=
  (pss_cons (ps_if (PW.pt (pw_or (pt_not (pt_val (pe_callB call_isi (by rfl) (B "isinstance" (by decide)) (by decide +kernel) (pa_cons (pv 1) (pa_cons (pe_bltn (by rfl) (B "tuple" (by decide)) (by decide +kernel) rfl) pa_nil))))) (pw_or1 (pt_cmpR (op_eqD hr.units) (pe_callB call_len_seq (by rfl) (B "len" (by decide)) (by decide +kernel) (pa_cons (pv 1) pa_nil)) pe_int (nomark _))))) (pss_one (ps_ret pe_bl)) pss_nil)
      (pss_cons (ps_if (pt_not (pt_val (pe_callB (cr_all rfl) (by rfl) (B "all" (by decide)) (by decide +kernel) (pa_cons (pe_lc (own := [("number", 2)]) (g := (gName 2)) (tt := tYes) rfl sc_is_rising_choice.nd (pi_tup (pv 1)) (blkOk_by (own := [("number", 2)]) (N := ["many", "thing", "number", "following"]) (sc := defScope s_is_rising_choice) (by decide +kernel)) (fun _ _ _ _ _ => (pg_name (i := 2) sc_is_rising_choice.nd rfl (by first | exact .inl rfl | exact .inr rfl))) (fun _ _ _ _ _ => pts_nil) (fun _ _ _ _ _ => (pe_callD g_is_number_of (hr.mono (by decide)) (by rfl) (pa_cons (pv 0) (pa_cons (pv 2) pa_nil))))) pa_nil)))) (pss_one (ps_ret pe_bl)) pss_nil)
      (pss_one (ps_ret (pe_callB (cr_all rfl) (by rfl) (B "all" (by decide)) (by decide +kernel) (pa_cons (pe_lc (own := [("number", 2), ("following", 3)]) (g := (gTup K 2 (gCons (gName 2) (gCons (gName 3) gNil)))) (tt := tYes) rfl sc_is_rising_choice.nd (RZ.pi_zipA (by rfl) (B "zip" (by decide)) (pa_cons (pv 1) (pa_cons (pe_slice sl_tup (pv 1) (po_some pe_int) po_none) pa_nil))) (blkOk_by (own := [("number", 2), ("following", 3)]) (N := ["many", "thing", "number", "following"]) (sc := defScope s_is_rising_choice) (by decide +kernel)) (fun _ _ _ _ _ => (pg_tup rfl (pgs_cons (pg_name (i := 2) sc_is_rising_choice.nd rfl (by first | exact .inl rfl | exact .inr rfl)) (pgs_cons (pg_name (i := 3) sc_is_rising_choice.nd rfl (by first | exact .inl rfl | exact .inr rfl)) pgs_nil)))) (fun _ _ _ _ _ => pts_nil) (fun _ _ _ _ _ => (pe_cmpR op_lt (pv 2) (pv 3) (nomark _)))) pa_nil))))))
def t_less (K : PySem.W.Frag) : TS := (tRet (tOp rLtI (tOp rMulX (tOp (rIx K) (tVar 0) (tC (.int 0))) (tOp (rIx K) (tVar 1) (tC (.int 1)))) (tOp rMulX (tOp (rIx K) (tVar 1) (tC (.int 0))) (tOp (rIx K) (tVar 0) (tC (.int 1))))))
theorem dv_less {f : Addr} {cdv : Value} {A : Around} {outer : List Env} {s : Shared} {H : Hp} {E : XK} (hr : Room 0 (A.deeper (envOfC "less" (defScope s_less) s.heap.objs.size f cdv))) (B : ∀ x, x ∈ blt → mg x = none) (cs : Csts mg) :
    PSs (cxOf CX0 Pg w K mg base ["one", "other"] "less" (defScope s_less) f cdv A outer s H E).nox (defBody s_less) (t_less K) :=
  (pss_one (ps_ret (pe_cmpR op_lt (pe_op op_mulX (pe_ix ix_seq (pv 0) pe_int (fun _ _ => rfl)) (pe_ix ix_seq (pv 1) pe_int (fun _ _ => rfl))) (pe_op op_mulX (pe_ix ix_seq (pv 1) pe_int (fun _ _ => rfl)) (pe_ix ix_seq (pv 0) pe_int (fun _ _ => rfl))) (nomark _))))
def t_has_even_ends (K : PySem.W.Frag) : TS := (tSeq (tAsg (tOp rRep (tLst (tCons (tC (.int 0)) tNil)) (tVar 0)) (gName 2))
    (tSeq (tFor (iList K (tVar 1)) (gTup K 2 (gCons (gName 3) (gCons (gName 4) gNil))) (tSeq (tAugS (tVar 2) (tVar 3) (tC (.int 1)) (rIxN K) (ipI fun i j => Builtin.bitXor i j) rSetL)
    (tAugS (tVar 2) (tVar 4) (tC (.int 1)) (rIxN K) (ipI fun i j => Builtin.bitXor i j) rSetL)))
    (tRet (tOp (rIn K true) (tC (.int 1)) (tVar 2)))))
theorem dv_has_even_ends {f : Addr} {cdv : Value} {A : Around} {outer : List Env} {s : Shared} {H : Hp} {E : XK} (hr : Room 0 (A.deeper (envOfC "has_even_ends" (defScope s_has_even_ends) s.heap.objs.size f cdv))) (B : ∀ x, x ∈ blt → mg x = none) (cs : Csts mg) :
    PSs (cxOf CX0 Pg w K mg base ["many", "pairs", "odd", "one", "other"] "has_even_ends" (defScope s_has_even_ends) f cdv A outer s H E).nox (defBody s_has_even_ends) (t_has_even_ends K) :=
  (pss_cons (ps_set (i := 2) sc_has_even_ends.nd rfl (by first | exact .inl rfl | exact .inr rfl) (pe_op op_rep (pe_lst (pa_cons pe_int pa_nil)) (pv 0)))
      (pss_cons (ps_for PassesOwn.never rfl (pi_list (pv 1)) (pg_tup rfl (pgs_cons (pg_name (i := 3) sc_has_even_ends.nd rfl (by first | exact .inl rfl | exact .inr rfl)) (pgs_cons (pg_name (i := 4) sc_has_even_ends.nd rfl (by first | exact .inl rfl | exact .inr rfl)) pgs_nil))) (pss_cons (ps_augS (pv 2) (pv 3) get_listN pe_int ip_xor set_list)
      (pss_one (ps_augS (pv 2) (pv 4) get_listN pe_int ip_xor set_list))))
      (pss_one (ps_ret (pe_cmpR op_notIn_seq pe_int (pv 2) (by rfl))))))
def t_joins_at (K : PySem.W.Frag) : TS := (tSeq (tAsg (tLc (iRng1 (tCons (tVar 0) tNil)) (gName 3) tYes (tLst tNil) [3]) (gName 2))
    (tSeq (tFor (iEnT K (tCons (tVar 1) tNil)) (gTup K 2 (gCons (gName 4) (gCons (gTup K 3 (gCons (gName 5) (gCons (gName 6) (gCons (gName 7) gNil)))) gNil))) (tSeq (tDrop (tBM K "list" rAppend (tOp (rIx K) (tVar 2) (tVar 5)) (tCons (tTup (tCons (tVar 4) (tCons (tVar 6) (tCons (tVar 7) tNil)))) tNil)))
    (tDrop (tBM K "list" rAppend (tOp (rIx K) (tVar 2) (tVar 6)) (tCons (tTup (tCons (tVar 4) (tCons (tVar 5) (tCons (tVar 7) tNil)))) tNil)))))
    (tRet (tVar 2))))
theorem dv_joins_at {f : Addr} {cdv : Value} {A : Around} {outer : List Env} {s : Shared} {H : Hp} {E : XK} (hr : Room 0 (A.deeper (envOfC "joins_at" (defScope s_joins_at) s.heap.objs.size f cdv))) (B : ∀ x, x ∈ blt → mg x = none) (cs : Csts mg) :
    PSs (cxOf CX0 Pg w K mg base ["many", "joins", "near", "point", "number", "one", "other", "apart"] "joins_at" (defScope s_joins_at) f cdv A outer s H E).nox (defBody s_joins_at) (t_joins_at K) :=
  (pss_cons (ps_setLc (i := 2) (own := [("point", 3)]) (g := (gName 3)) (tt := tYes) rfl sc_joins_at.nd rfl rfl (sw_true rfl rfl rfl (by decide +kernel)) (pi_range1 (by rfl) (B "range" (by decide)) (pa_cons (pv 0) pa_nil)) (blkOk_by (own := [("point", 3)]) (N := ["many", "joins", "near", "point", "number", "one", "other", "apart"]) (sc := defScope s_joins_at) (by decide +kernel)) (fun _ _ _ _ _ => (pg_name (i := 3) sc_joins_at.nd rfl (by first | exact .inl rfl | exact .inr rfl))) (fun _ _ _ _ _ => pts_nil) (fun _ _ _ _ _ => (pe_lst pa_nil)))
      (pss_cons (ps_for PassesOwn.never rfl (pi_enT (by rfl) (B "enumerate" (by decide)) (pa_cons (pv 1) pa_nil)) (pg_tup rfl (pgs_cons (pg_name (i := 4) sc_joins_at.nd rfl (by first | exact .inl rfl | exact .inr rfl)) (pgs_cons (pg_tup rfl (pgs_cons (pg_name (i := 5) sc_joins_at.nd rfl (by first | exact .inl rfl | exact .inr rfl)) (pgs_cons (pg_name (i := 6) sc_joins_at.nd rfl (by first | exact .inl rfl | exact .inr rfl)) (pgs_cons (pg_name (i := 7) sc_joins_at.nd rfl (by first | exact .inl rfl | exact .inr rfl)) pgs_nil)))) pgs_nil))) (pss_cons (ps_expr (pe_bm PySem.F.plainAttrs_list PySem.F.slot_list_append PySem.F.type_list_append mt_append (pe_ix ix_seq (pv 2) (pv 5) (fun _ _ => rfl)) (pa_cons (pe_tup (pa_cons (pv 4) (pa_cons (pv 6) (pa_cons (pv 7) pa_nil)))) pa_nil)))
      (pss_one (ps_expr (pe_bm PySem.F.plainAttrs_list PySem.F.slot_list_append PySem.F.type_list_append mt_append (pe_ix ix_seq (pv 2) (pv 6) (fun _ _ => rfl)) (pa_cons (pe_tup (pa_cons (pv 4) (pa_cons (pv 5) (pa_cons (pv 7) pa_nil)))) pa_nil))))))
      (pss_one (ps_ret (pv 2)))))
def t_group_from (K : PySem.W.Frag) : TS := (tSeq (tAsg (tDisp (((tVar 1), (tTup (tCons (tC (.int 0)) (tCons (tTup tNil) tNil)))) :: [])) (gName 2))
    (tSeq (tAsg (tLst (tCons (tVar 1) tNil)) (gName 3))
    (tSeq (tWhile (tTru K (tVar 3)) (tSeq (tAsg (tBM K "list" rPopAt (tVar 3) (tCons (tC (.int 0)) tNil)) (gName 4))
    (tSeq (tAsg (tDGet (tVar 2) (tVar 4)) (gTup K 2 (gCons (gName 5) (gCons (gName 6) gNil))))
    (tFor (iList K (tOp (rIx K) (tVar 0) (tVar 4))) (gTup K 3 (gCons (gName 7) (gCons (gName 8) (gCons (gName 9) gNil)))) (tIfS (L2.tB (tDNotIn (tVar 8) (tVar 2))) (tSeq (tAsg (tTup (tCons (tOp rXorI (tVar 5) (tVar 9)) (tCons (tOp (rCatA K) (tVar 6) (tTup (tCons (tVar 7) tNil))) tNil))) (gSub (tVar 2) (tVar 8) rSetD))
    (tDrop (tBM K "list" rAppend (tVar 3) (tCons (tVar 8) tNil)))) tNext)))))
    (tRet (tVar 2)))))
theorem dv_group_from {f : Addr} {cdv : Value} {A : Around} {outer : List Env} {s : Shared} {H : Hp} {E : XK} (hr : Room 0 (A.deeper (envOfC "group_from" (defScope s_group_from) s.heap.objs.size f cdv))) (B : ∀ x, x ∈ blt → mg x = none) (cs : Csts mg) :
    PSs (cxOf CX0 Pg w K mg base ["near", "first", "found", "waiting", "point", "mark", "way", "number", "other", "apart"] "group_from" (defScope s_group_from) f cdv A outer s H E).nox (defBody s_group_from) (t_group_from K) :=
  (pss_cons (ps_set (i := 2) sc_group_from.nd rfl (by first | exact .inl rfl | exact .inr rfl) (pe_disp (pps_cons (pv 1) (pe_tup (pa_cons pe_int (pa_cons (pe_tup pa_nil) pa_nil))) pps_nil) (by rfl) (by rfl) (fun z => by cases z) (by decide)))
      (pss_cons (ps_set (i := 3) sc_group_from.nd rfl (by first | exact .inl rfl | exact .inr rfl) (pe_lst (pa_cons (pv 1) pa_nil)))
      (pss_cons (ps_while PassesOwn.never (pt_tru (pv 3)) (pss_cons (ps_set (i := 4) sc_group_from.nd rfl (by first | exact .inl rfl | exact .inr rfl) (pe_bm PySem.F.plainAttrs_list PySem.F.slot_list_pop PySem.F.type_list_pop mt_popAt (pv 3) (pa_cons pe_int pa_nil)))
      (pss_cons (ps_asg (pe_dget (u1 hr) (pv 2) (pv 4) (fun _ _ => rfl)) (pg_tup rfl (pgs_cons (pg_name (i := 5) sc_group_from.nd rfl (by first | exact .inl rfl | exact .inr rfl)) (pgs_cons (pg_name (i := 6) sc_group_from.nd rfl (by first | exact .inl rfl | exact .inr rfl)) pgs_nil))))
      (pss_one (ps_for PassesOwn.never rfl (pi_list (pe_ix ix_seq (pv 0) (pv 4) (fun _ _ => rfl))) (pg_tup rfl (pgs_cons (pg_name (i := 7) sc_group_from.nd rfl (by first | exact .inl rfl | exact .inr rfl)) (pgs_cons (pg_name (i := 8) sc_group_from.nd rfl (by first | exact .inl rfl | exact .inr rfl)) (pgs_cons (pg_name (i := 9) sc_group_from.nd rfl (by first | exact .inl rfl | exact .inr rfl)) pgs_nil)))) (pss_one (ps_if (pt_cmp (pc_dnotin (u1 hr) (pv 8) (pv 2))) (pss_cons (ps_asg (pe_tup (pa_cons (pe_op op_xor (pv 5) (pv 9)) (pa_cons (pe_op op_catA (pv 6) (pe_tup (pa_cons (pv 7) pa_nil))) pa_nil))) (pg_sub (pv 2) (pv 8) (set_dict (u1 hr))))
      (pss_one (ps_expr (pe_bm PySem.F.plainAttrs_list PySem.F.slot_list_append PySem.F.type_list_append mt_append (pv 3) (pa_cons (pv 8) pa_nil))))) pss_nil)))))))
      (pss_one (ps_ret (pv 2))))))
def t_spread (K : PySem.W.Frag) (Φ_joins_at : Ph) (Φ_group_from : Ph) : TS := (tSeq (tAsg (tCall (SpD K Φ_joins_at) [] E0 (tCons (tVar 0) (tCons (tVar 1) tNil))) (gName 2))
    (tSeq (tPar3 3 4 5 (tCons tDNewK (tCons tDNewK (tCons tDNewK tNil))))
    (tSeq (tAsg (tC (.int 0)) (gName 6))
    (tSeq (tFor (iRng1 (tCons (tVar 0) tNil)) (gName 7) (tIfS (L2.tB (tDNotIn (tVar 7) (tVar 3))) (tSeq (tFor (iItems (tLkN (tCall (SpD K Φ_group_from) [] E0 (tCons (tVar 2) (tCons (tVar 7) tNil))))) (gTup K 2 (gCons (gName 8) (gCons (gTup K 2 (gCons (gName 9) (gCons (gName 10) gNil))) gNil))) (tAsg (tTup (tCons (tVar 6) (tCons (tVar 9) (tCons (tVar 10) tNil)))) (gTup K 3 (gCons (gSub (tVar 3) (tVar 8) rSetD) (gCons (gSub (tVar 4) (tVar 8) rSetD) (gCons (gSub (tVar 5) (tVar 8) rSetD) gNil))))))
    (tAug 6 (tC (.int 1)) (ipI fun i j => i + j))) tNext))
    (tRet (tTup (tCons (tVar 3) (tCons (tVar 4) (tCons (tVar 5) tNil)))))))))
theorem dv_spread {f : Addr} {cdv : Value} {A : Around} {outer : List Env} {s : Shared} {H : Hp} {E : XK} (hr : Room 1 (A.deeper (envOfC "spread" (defScope s_spread) s.heap.objs.size f cdv))) (B : ∀ x, x ∈ blt → mg x = none) (cs : Csts mg) {Φ_joins_at : Ph} {Φ_group_from : Ph} (g_joins_at : Kn Pg w K mg base "joins_at" 1 ["many", "joins"] Φ_joins_at) (g_group_from : Kn Pg w K mg base "group_from" 1 ["near", "first"] Φ_group_from) :
    PSs (cxOf CX0 Pg w K mg base ["many", "joins", "near", "groups", "marks", "ways", "count", "first", "point", "mark", "way"] "spread" (defScope s_spread) f cdv A outer s H E).nox (defBody s_spread) (t_spread K Φ_joins_at Φ_group_from) :=
  (pss_cons (ps_set (i := 2) sc_spread.nd rfl (by first | exact .inl rfl | exact .inr rfl) (pe_callD g_joins_at (hr.mono (by decide)) (by rfl) (pa_cons (pv 0) (pa_cons (pv 1) pa_nil))))
      (pss_cons (ps_par3 (by rfl) sc_spread.nd (i := 3) (j := 4) (l := 5) rfl rfl rfl (by decide) (by decide) (by decide) rfl rfl rfl (pa_cons pe_dnewK (pa_cons pe_dnewK (pa_cons pe_dnewK pa_nil))) (by rfl))
      (pss_cons (ps_set (i := 6) sc_spread.nd rfl (by first | exact .inl rfl | exact .inr rfl) pe_int)
      (pss_cons (ps_for PassesOwn.never rfl (pi_range1 (by rfl) (B "range" (by decide)) (pa_cons (pv 0) pa_nil)) (pg_name (i := 7) sc_spread.nd rfl (by first | exact .inl rfl | exact .inr rfl)) (pss_one (ps_if (pt_cmp (pc_dnotin (u1 hr) (pv 7) (pv 3))) (pss_cons (ps_for PassesOwn.never rfl (pi_items (pe_lkN (pe_callD g_group_from (hr.mono (by decide)) (by rfl) (pa_cons (pv 2) (pa_cons (pv 7) pa_nil))))) (pg_tup rfl (pgs_cons (pg_name (i := 8) sc_spread.nd rfl (by first | exact .inl rfl | exact .inr rfl)) (pgs_cons (pg_tup rfl (pgs_cons (pg_name (i := 9) sc_spread.nd rfl (by first | exact .inl rfl | exact .inr rfl)) (pgs_cons (pg_name (i := 10) sc_spread.nd rfl (by first | exact .inl rfl | exact .inr rfl)) pgs_nil))) pgs_nil))) (pss_one (ps_asg (pe_tup (pa_cons (pv 6) (pa_cons (pv 9) (pa_cons (pv 10) pa_nil)))) (pg_tup rfl (pgs_cons (pg_sub (pv 3) (pv 8) (set_dict (u1 hr))) (pgs_cons (pg_sub (pv 4) (pv 8) (set_dict (u1 hr))) (pgs_cons (pg_sub (pv 5) (pv 8) (set_dict (u1 hr))) pgs_nil)))))))
      (pss_one (ps_aug (i := 6) sc_spread.nd rfl (by first | exact .inl rfl | exact .inr rfl) pe_int ip_add))) pss_nil)))
      (pss_one (ps_ret (pe_tup (pa_cons (pv 3) (pa_cons (pv 4) (pa_cons (pv 5) pa_nil))))))))))
def t_ring_closed (K : PySem.W.Frag) : TS := (tSeq (tAsg (tLc (iTup K (tVar 0)) (gName 4) (tTest (tOp (rIn K true) (tVar 4) (tVar 1))) (tVar 4) [4]) (gName 3))
    (tSeq (tAsg (tLc (iTup K (tVar 1)) (gName 4) (tTest (tOp (rIn K true) (tVar 4) (tVar 0))) (tVar 4) [4]) (gName 5))
    (tRet (tCB (rTupQ K) (tCons (tCB (rSortedI K) (tCons (tOp rCat (tOp rCat (tVar 3) (tVar 5)) (tLst (tCons (tVar 2) tNil))) tNil)) tNil)))))
theorem dv_ring_closed {f : Addr} {cdv : Value} {A : Around} {outer : List Env} {s : Shared} {H : Hp} {E : XK} (hr : Room 0 (A.deeper (envOfC "ring_closed" (defScope s_ring_closed) s.heap.objs.size f cdv))) (B : ∀ x, x ∈ blt → mg x = none) (cs : Csts mg) :
    PSs (cxOf CX0 Pg w K mg base ["way", "other_way", "number", "alone", "step", "other_alone"] "ring_closed" (defScope s_ring_closed) f cdv A outer s H E).nox (defBody s_ring_closed) (t_ring_closed K) :=
  (pss_cons (ps_setLc (i := 3) (own := [("step", 4)]) (g := (gName 4)) (tt := (tTest (tOp (rIn K true) (tVar 4) (tVar 1)))) rfl sc_ring_closed.nd rfl rfl (sw_true rfl rfl rfl (by decide +kernel)) (pi_tup (pv 0)) (blkOk_by (own := [("step", 4)]) (N := ["way", "other_way", "number", "alone", "step", "other_alone"]) (sc := defScope s_ring_closed) (by decide +kernel)) (fun _ _ _ _ _ => (pg_name (i := 4) sc_ring_closed.nd rfl (by first | exact .inl rfl | exact .inr rfl))) (fun _ _ _ _ _ => (pts_one (pt_cmpR op_notIn_seq (pv 4) (pv 1) (by rfl)))) (fun _ _ _ _ _ => (pv 4)))
      (pss_cons (ps_setLc (i := 5) (own := [("step", 4)]) (g := (gName 4)) (tt := (tTest (tOp (rIn K true) (tVar 4) (tVar 0)))) rfl sc_ring_closed.nd rfl rfl (sw_true rfl rfl rfl (by decide +kernel)) (pi_tup (pv 1)) (blkOk_by (own := [("step", 4)]) (N := ["way", "other_way", "number", "alone", "step", "other_alone"]) (sc := defScope s_ring_closed) (by decide +kernel)) (fun _ _ _ _ _ => (pg_name (i := 4) sc_ring_closed.nd rfl (by first | exact .inl rfl | exact .inr rfl))) (fun _ _ _ _ _ => (pts_one (pt_cmpR op_notIn_seq (pv 4) (pv 0) (by rfl)))) (fun _ _ _ _ _ => (pv 4)))
      (pss_one (ps_ret (pe_callTy call_tuple_of (by rfl) (B "tuple" (by decide)) (by decide +kernel) (pa_cons (pe_callB cr_sortedI (by rfl) (B "sorted" (by decide)) (by decide +kernel) (pa_cons (pe_op op_cat (pe_op op_cat (pv 3) (pv 5)) (pe_lst (pa_cons (pv 2) pa_nil))) pa_nil)) pa_nil))))))
def t_odd_rings (K : PySem.W.Frag) (Φ_ring_closed : Ph) : TS := (tSeq (tAsg (tLst tNil) (gName 3))
    (tSeq (tFor (iEnT K (tCons (tVar 0) tNil)) (gTup K 2 (gCons (gName 4) (gCons (gTup K 3 (gCons (gName 5) (gCons (gName 6) (gCons (gName 7) gNil)))) gNil))) (tIfS (tTest (tOp (rNeD K) (tOp rXorI (tDGet (tVar 1) (tVar 5)) (tDGet (tVar 1) (tVar 6))) (tVar 7))) (tDrop (tBM K "list" rAppend (tVar 3) (tCons (tCall (SpD K Φ_ring_closed) [] E0 (tCons (tDGet (tVar 2) (tVar 5)) (tCons (tDGet (tVar 2) (tVar 6)) (tCons (tVar 4) tNil)))) tNil))) tNext))
    (tRet (tVar 3))))
theorem dv_odd_rings {f : Addr} {cdv : Value} {A : Around} {outer : List Env} {s : Shared} {H : Hp} {E : XK} (hr : Room 1 (A.deeper (envOfC "odd_rings" (defScope s_odd_rings) s.heap.objs.size f cdv))) (B : ∀ x, x ∈ blt → mg x = none) (cs : Csts mg) {Φ_ring_closed : Ph} (g_ring_closed : Kn Pg w K mg base "ring_closed" 1 ["way", "other_way", "number"] Φ_ring_closed) :
    PSs (cxOf CX0 Pg w K mg base ["joins", "marks", "ways", "rings", "number", "one", "other", "apart"] "odd_rings" (defScope s_odd_rings) f cdv A outer s H E).nox (defBody s_odd_rings) (t_odd_rings K Φ_ring_closed) :=
  (pss_cons (ps_set (i := 3) sc_odd_rings.nd rfl (by first | exact .inl rfl | exact .inr rfl) (pe_lst pa_nil))
      (pss_cons (ps_for PassesOwn.never rfl (pi_enT (by rfl) (B "enumerate" (by decide)) (pa_cons (pv 0) pa_nil)) (pg_tup rfl (pgs_cons (pg_name (i := 4) sc_odd_rings.nd rfl (by first | exact .inl rfl | exact .inr rfl)) (pgs_cons (pg_tup rfl (pgs_cons (pg_name (i := 5) sc_odd_rings.nd rfl (by first | exact .inl rfl | exact .inr rfl)) (pgs_cons (pg_name (i := 6) sc_odd_rings.nd rfl (by first | exact .inl rfl | exact .inr rfl)) (pgs_cons (pg_name (i := 7) sc_odd_rings.nd rfl (by first | exact .inl rfl | exact .inr rfl)) pgs_nil)))) pgs_nil))) (pss_one (ps_if (pt_cmpR (op_neD hr.units) (pe_op op_xor (pe_dget (u1 hr) (pv 1) (pv 5) (fun _ _ => rfl)) (pe_dget (u1 hr) (pv 1) (pv 6) (fun _ _ => rfl))) (pv 7) (nomark _)) (pss_one (ps_expr (pe_bm PySem.F.plainAttrs_list PySem.F.slot_list_append PySem.F.type_list_append mt_append (pv 3) (pa_cons (pe_callD g_ring_closed (hr.mono (by decide)) (by rfl) (pa_cons (pe_dget (u1 hr) (pv 2) (pv 5) (fun _ _ => rfl)) (pa_cons (pe_dget (u1 hr) (pv 2) (pv 6) (fun _ _ => rfl)) (pa_cons (pv 4) pa_nil)))) pa_nil)))) pss_nil)))
      (pss_one (ps_ret (pv 3)))))
def t_parted (K : PySem.W.Frag) (Φ_spread : Ph) (Φ_odd_rings : Ph) : TS := (tSeq (tAsg (tCall (SpD K Φ_spread) [] E0 (tCons (tVar 0) (tCons (tVar 1) tNil))) (gTup K 3 (gCons (gName 2) (gCons (gName 3) (gCons (gName 4) gNil)))))
    (tSeq (tAsg (tCall (SpD K Φ_odd_rings) [] E0 (tCons (tVar 1) (tCons (tVar 3) (tCons (tVar 4) tNil)))) (gName 5))
    (tSeq (tIfS (tTru K (tVar 5)) (tRet (tTup (tCons (tC (.str "ring")) (tCons (tMinL K (tCons (tVar 5) tNil)) tNil)))) tNext)
    (tRet (tTup (tCons (tC (.str "groups")) (tCons (tCB (rTupQ K) (tCons (tLc (iRng1 (tCons (tVar 0) tNil)) (gName 6) tYes (tDGet (tVar 2) (tVar 6)) [6]) tNil)) (tCons (tCB (rTupQ K) (tCons (tLc (iRng1 (tCons (tVar 0) tNil)) (gName 6) tYes (tDGet (tVar 3) (tVar 6)) [6]) tNil)) tNil))))))))
theorem dv_parted {f : Addr} {cdv : Value} {A : Around} {outer : List Env} {s : Shared} {H : Hp} {E : XK} (hr : Room 2 (A.deeper (envOfC "parted" (defScope s_parted) s.heap.objs.size f cdv))) (B : ∀ x, x ∈ blt → mg x = none) (cs : Csts mg) {Φ_spread : Ph} {Φ_odd_rings : Ph} (g_spread : Kn Pg w K mg base "spread" 2 ["many", "joins"] Φ_spread) (g_odd_rings : Kn Pg w K mg base "odd_rings" 2 ["joins", "marks", "ways"] Φ_odd_rings) :
    PSs (cxOf CX0 Pg w K mg base ["many", "joins", "groups", "marks", "ways", "rings", "point"] "parted" (defScope s_parted) f cdv A outer s H E).nox (defBody s_parted) (t_parted K Φ_spread Φ_odd_rings) :=
  (pss_cons (ps_asg (pe_callD g_spread (hr.mono (by decide)) (by rfl) (pa_cons (pv 0) (pa_cons (pv 1) pa_nil))) (pg_tup rfl (pgs_cons (pg_name (i := 2) sc_parted.nd rfl (by first | exact .inl rfl | exact .inr rfl)) (pgs_cons (pg_name (i := 3) sc_parted.nd rfl (by first | exact .inl rfl | exact .inr rfl)) (pgs_cons (pg_name (i := 4) sc_parted.nd rfl (by first | exact .inl rfl | exact .inr rfl)) pgs_nil)))))
      (pss_cons (ps_set (i := 5) sc_parted.nd rfl (by first | exact .inl rfl | exact .inr rfl) (pe_callD g_odd_rings (hr.mono (by decide)) (by rfl) (pa_cons (pv 1) (pa_cons (pv 3) (pa_cons (pv 4) pa_nil)))))
      (pss_cons (ps_if (pt_tru (pv 5)) (pss_one (ps_ret (pe_tup (pa_cons pe_str (pa_cons (pe_minL (by rfl) (by rfl) (B "min" (by decide)) (by rfl) (B "len" (by decide)) (pa_cons (pv 5) pa_nil)) pa_nil))))) pss_nil)
      (pss_one (ps_ret (pe_tup (pa_cons pe_str (pa_cons (pe_callTy call_tuple_of (by rfl) (B "tuple" (by decide)) (by decide +kernel) (pa_cons (pe_lc (own := [("point", 6)]) (g := (gName 6)) (tt := tYes) rfl sc_parted.nd (pi_range1 (by rfl) (B "range" (by decide)) (pa_cons (pv 0) pa_nil)) (blkOk_by (own := [("point", 6)]) (N := ["many", "joins", "groups", "marks", "ways", "rings", "point"]) (sc := defScope s_parted) (by decide +kernel)) (fun _ _ _ _ _ => (pg_name (i := 6) sc_parted.nd rfl (by first | exact .inl rfl | exact .inr rfl))) (fun _ _ _ _ _ => pts_nil) (fun _ _ _ _ _ => (pe_dget (u1 hr) (pv 2) (pv 6) (fun _ _ => rfl)))) pa_nil)) (pa_cons (pe_callTy call_tuple_of (by rfl) (B "tuple" (by decide)) (by decide +kernel) (pa_cons (pe_lc (own := [("point", 6)]) (g := (gName 6)) (tt := tYes) rfl sc_parted.nd (pi_range1 (by rfl) (B "range" (by decide)) (pa_cons (pv 0) pa_nil)) (blkOk_by (own := [("point", 6)]) (N := ["many", "joins", "groups", "marks", "ways", "rings", "point"]) (sc := defScope s_parted) (by decide +kernel)) (fun _ _ _ _ _ => (pg_name (i := 6) sc_parted.nd rfl (by first | exact .inl rfl | exact .inr rfl))) (fun _ _ _ _ _ => pts_nil) (fun _ _ _ _ _ => (pe_dget (u1 hr) (pv 3) (pv 6) (fun _ _ => rfl)))) pa_nil)) pa_nil)))))))))
def t_size_of (K : PySem.W.Frag) : TS := (tSeq (tAsg (tOp (rIx K) (tOp (rIx K) (tOp (rIx K) (tVar 0) (tC (.int 1))) (tVar 1)) (tC (.int 2))) (gTup K 2 (gCons (gName 2) (gCons (gName 3) gNil))))
    (tRet (tTup (tCons (tCB rAbs (tCons (tVar 2) tNil)) (tCons (tVar 3) tNil)))))
theorem dv_size_of {f : Addr} {cdv : Value} {A : Around} {outer : List Env} {s : Shared} {H : Hp} {E : XK} (hr : Room 0 (A.deeper (envOfC "size_of" (defScope s_size_of) s.heap.objs.size f cdv))) (B : ∀ x, x ∈ blt → mg x = none) (cs : Csts mg) :
    PSs (cxOf CX0 Pg w K mg base ["web", "tie", "top", "bottom"] "size_of" (defScope s_size_of) f cdv A outer s H E).nox (defBody s_size_of) (t_size_of K) :=
  (pss_cons (ps_asg (pe_ix ix_seq (pe_ix ix_seq (pe_ix ix_seq (pv 0) pe_int (fun _ _ => rfl)) (pv 1) (fun _ _ => rfl)) pe_int (fun _ _ => rfl)) (pg_tup rfl (pgs_cons (pg_name (i := 2) sc_size_of.nd rfl (by first | exact .inl rfl | exact .inr rfl)) (pgs_cons (pg_name (i := 3) sc_size_of.nd rfl (by first | exact .inl rfl | exact .inr rfl)) pgs_nil))))
      (pss_one (ps_ret (pe_tup (pa_cons (pe_callB call_abs (by rfl) (B "abs" (by decide)) (by decide +kernel) (pa_cons (pv 2) pa_nil)) (pa_cons (pv 3) pa_nil))))))
def t_is_gainful (K : PySem.W.Frag) : TS := (tRet (tOp rGtI (tOp (rIx K) (tOp (rIx K) (tOp (rIx K) (tOp (rIx K) (tVar 0) (tC (.int 1))) (tVar 1)) (tC (.int 2))) (tC (.int 0))) (tC (.int 0))))
theorem dv_is_gainful {f : Addr} {cdv : Value} {A : Around} {outer : List Env} {s : Shared} {H : Hp} {E : XK} (hr : Room 0 (A.deeper (envOfC "is_gainful" (defScope s_is_gainful) s.heap.objs.size f cdv))) (B : ∀ x, x ∈ blt → mg x = none) (cs : Csts mg) :
    PSs (cxOf CX0 Pg w K mg base ["web", "tie"] "is_gainful" (defScope s_is_gainful) f cdv A outer s H E).nox (defBody s_is_gainful) (t_is_gainful K) :=
  (pss_one (ps_ret (pe_cmpR op_gt (pe_ix ix_seq (pe_ix ix_seq (pe_ix ix_seq (pe_ix ix_seq (pv 0) pe_int (fun _ _ => rfl)) (pv 1) (fun _ _ => rfl)) pe_int (fun _ _ => rfl)) pe_int (fun _ _ => rfl)) pe_int (nomark _))))
def t_is_wish (K : PySem.W.Frag) (Φ_is_triple : Ph) (Φ_is_number_of : Ph) (Φ_are_unlike_points : Ph) : TS := (tSeq (tIfS (tNot (L2.tB (tCall (SpD K Φ_is_triple) [] E0 (tCons (tVar 1) tNil)))) (tRet (tC (.bl false))) tNext)
    (tSeq (tAsg (tVar 1) (gRw K 3 (gCons (gName 2) (gCons (gName 3) (gCons (gName 4) gNil)))))
    (tRet (tAndV (tCall (SpD K Φ_are_unlike_points) [] E0 (tCons (tOp (rIx K) (tVar 0) (tC (.int 0))) (tCons (tVar 2) (tCons (tVar 3) tNil)))) (tCall (SpD K Φ_is_number_of) [] E0 (tCons (tC (.int 2)) (tCons (tVar 4) tNil)))))))
theorem dv_is_wish {f : Addr} {cdv : Value} {A : Around} {outer : List Env} {s : Shared} {H : Hp} {E : XK} (hr : Room 3 (A.deeper (envOfC "is_wish" (defScope s_is_wish) s.heap.objs.size f cdv))) (B : ∀ x, x ∈ blt → mg x = none) (cs : Csts mg) {Φ_is_triple : Ph} {Φ_is_number_of : Ph} {Φ_are_unlike_points : Ph} (g_is_triple : Kn Pg w K mg base "is_triple" 2 ["thing"] Φ_is_triple) (g_is_number_of : Kn Pg w K mg base "is_number_of" 2 ["many", "thing"] Φ_is_number_of) (g_are_unlike_points : Kn Pg w K mg base "are_unlike_points" 3 ["many", "one", "other"] Φ_are_unlike_points) :
    PSs (cxOf CX0 Pg w K mg base ["web", "thing", "one", "other", "apart"] "is_wish" (defScope s_is_wish) f cdv A outer s H E).nox (defBody s_is_wish) (t_is_wish K Φ_is_triple Φ_is_number_of Φ_are_unlike_points) :=
  (pss_cons (ps_if (pt_not (pt_val (pe_callD g_is_triple (hr.mono (by decide)) (by rfl) (pa_cons (pv 1) pa_nil)))) (pss_one (ps_ret pe_bl)) pss_nil)
      (pss_cons (ps_asg (pv 1) (pg_rw rfl (pgs_cons (pg_name (i := 2) sc_is_wish.nd rfl (by first | exact .inl rfl | exact .inr rfl)) (pgs_cons (pg_name (i := 3) sc_is_wish.nd rfl (by first | exact .inl rfl | exact .inr rfl)) (pgs_cons (pg_name (i := 4) sc_is_wish.nd rfl (by first | exact .inl rfl | exact .inr rfl)) pgs_nil)))))
      (pss_one (ps_ret (pe_and (pe_callD g_are_unlike_points (hr.mono (by decide)) (by rfl) (pa_cons (pe_ix ix_seq (pv 0) pe_int (fun _ _ => rfl)) (pa_cons (pv 2) (pa_cons (pv 3) pa_nil)))) (pe_one (pe_callD g_is_number_of (hr.mono (by decide)) (by rfl) (pa_cons pe_int (pa_cons (pv 4) pa_nil)))))))))
def t_made_wishes (K : PySem.W.Frag) (C_CutError C_NoWeb C_NoSide C_NoText C_NoWishes C_NoTurns C_NotFlat C_NoRing C_NoPaper C_NoShare C_NoTie C_NoWeight C_NoDeed C_TooGreat : Addr) (Φ_is_row : Ph) (Φ_is_wish : Ph) : XK → TS := fun E => (tSeq (tIfS (tOr (tNot (L2.tB (tCall (SpD K Φ_is_row) [] E0 (tCons (tVar 1) tNil)))) (tTest (tOp rGtI (tCB (rLenQ K) (tCons (tVar 1) tNil)) (tC (.int 120))))) (tRs C_NoWishes E) tNext)
    (tSeq (tIfS (tNot (L2.tB (tCB (rAll K) (tCons (tLc (iRow K 1) (gName 2) tYes (tCall (SpD K Φ_is_wish) [] E0 (tCons (tVar 0) (tCons (tVar 2) tNil))) [2]) tNil)))) (tRs C_NoWishes E) tNext)
    (tRet (tCB (rTupQ K) (tCons (tLc (iRow K 1) (gName 2) tYes (tCB (rTupQ K) (tCons (tVar 2) tNil)) [2]) tNil)))))
theorem dv_made_wishes {f : Addr} {cdv : Value} {A : Around} {outer : List Env} {s : Shared} {H : Hp} {E : XK} (hr : Room 4 (A.deeper (envOfC "made_wishes" (defScope s_made_wishes) s.heap.objs.size f cdv))) (B : ∀ x, x ∈ blt → mg x = none) (cs : Csts mg) {C_CutError C_NoWeb C_NoSide C_NoText C_NoWishes C_NoTurns C_NotFlat C_NoRing C_NoPaper C_NoShare C_NoTie C_NoWeight C_NoDeed C_TooGreat : Addr} (cl : Cls K mg C_CutError C_NoWeb C_NoSide C_NoText C_NoWishes C_NoTurns C_NotFlat C_NoRing C_NoPaper C_NoShare C_NoTie C_NoWeight C_NoDeed C_TooGreat) {Φ_is_row : Ph} {Φ_is_wish : Ph} (g_is_row : Kn Pg w K mg base "is_row" 1 ["thing"] Φ_is_row) (g_is_wish : Kn Pg w K mg base "is_wish" 4 ["web", "thing"] Φ_is_wish) :
    PSs (cxOf (L2.CX Pg w) Pg w K mg base ["web", "thing", "wish"] "made_wishes" (defScope s_made_wishes) f cdv A outer s H E) (defBody s_made_wishes) (t_made_wishes K C_CutError C_NoWeb C_NoSide C_NoText C_NoWishes C_NoTurns C_NotFlat C_NoRing C_NoPaper C_NoShare C_NoTie C_NoWeight C_NoDeed C_TooGreat Φ_is_row Φ_is_wish E) :=
  (pss_cons (ps_if (PW.pt (pw_or (pt_not (pt_val (pe_callD g_is_row (hr.mono (by decide)) (by rfl) (pa_cons (pv 1) pa_nil)))) (pw_or1 (pt_cmpR op_gt (pe_callB call_len_seq (by rfl) (B "len" (by decide)) (by decide +kernel) (pa_cons (pv 1) pa_nil)) (pe_num rfl cs.c_MOST_WISHES) (nomark _))))) (pss_one (ps_raiseD cl.er_NoWishes rfl rfl rfl rfl rfl (by rfl))) pss_nil)
      (pss_cons (ps_if (pt_not (pt_val (pe_callB (cr_all rfl) (by rfl) (B "all" (by decide)) (by decide +kernel) (pa_cons (pe_lc (own := [("wish", 2)]) (g := (gName 2)) (tt := tYes) rfl sc_made_wishes.nd (pi_row (i := 1) (pv 1)) (blkOk_by (own := [("wish", 2)]) (N := ["web", "thing", "wish"]) (sc := defScope s_made_wishes) (by decide +kernel)) (fun _ _ _ _ _ => (pg_name (i := 2) sc_made_wishes.nd rfl (by first | exact .inl rfl | exact .inr rfl))) (fun _ _ _ _ _ => pts_nil) (fun _ _ _ _ _ => (pe_callD g_is_wish (hr.mono (by decide)) (by rfl) (pa_cons (pv 0) (pa_cons (pv 2) pa_nil))))) pa_nil)))) (pss_one (ps_raiseD cl.er_NoWishes rfl rfl rfl rfl rfl (by rfl))) pss_nil)
      (pss_one (ps_ret (pe_callTy call_tuple_of (by rfl) (B "tuple" (by decide)) (by decide +kernel) (pa_cons (pe_lc (own := [("wish", 2)]) (g := (gName 2)) (tt := tYes) rfl sc_made_wishes.nd (pi_row (i := 1) (pv 1)) (blkOk_by (own := [("wish", 2)]) (N := ["web", "thing", "wish"]) (sc := defScope s_made_wishes) (by decide +kernel)) (fun _ _ _ _ _ => (pg_name (i := 2) sc_made_wishes.nd rfl (by first | exact .inl rfl | exact .inr rfl))) (fun _ _ _ _ _ => pts_nil) (fun _ _ _ _ _ => (pe_callTy call_tuple_of (by rfl) (B "tuple" (by decide)) (by decide +kernel) (pa_cons (pv 2) pa_nil)))) pa_nil))))))
def t_grouped (K : PySem.W.Frag) (C_CutError C_NoWeb C_NoSide C_NoText C_NoWishes C_NoTurns C_NotFlat C_NoRing C_NoPaper C_NoShare C_NoTie C_NoWeight C_NoDeed C_TooGreat : Addr) (Φ_parted : Ph) (Φ_made_wishes : PhX) : TS := (tRet (tCall (SpD K Φ_parted) [] E0 (tCons (tOp (rIx K) (tVar 0) (tC (.int 0))) (tCons (tCall (SpX K C_NoWishes Φ_made_wishes) [] E0 (tCons (tVar 0) (tCons (tVar 1) tNil))) tNil))))
theorem dv_grouped {f : Addr} {cdv : Value} {A : Around} {outer : List Env} {s : Shared} {H : Hp} {E : XK} (hr : Room 5 (A.deeper (envOfC "grouped" (defScope s_grouped) s.heap.objs.size f cdv))) (B : ∀ x, x ∈ blt → mg x = none) (cs : Csts mg) {C_CutError C_NoWeb C_NoSide C_NoText C_NoWishes C_NoTurns C_NotFlat C_NoRing C_NoPaper C_NoShare C_NoTie C_NoWeight C_NoDeed C_TooGreat : Addr} (cl : Cls K mg C_CutError C_NoWeb C_NoSide C_NoText C_NoWishes C_NoTurns C_NotFlat C_NoRing C_NoPaper C_NoShare C_NoTie C_NoWeight C_NoDeed C_TooGreat) {Φ_parted : Ph} {Φ_made_wishes : PhX} (g_parted : Kn Pg w K mg base "parted" 3 ["many", "joins"] Φ_parted) (g_made_wishes : KnX Pg w K mg base "made_wishes" 5 ["web", "thing"] C_NoWishes Φ_made_wishes) :
    PSs (cxOf CX0 Pg w K mg base ["web", "wishes"] "grouped" (defScope s_grouped) f cdv A outer s H E).nox (defBody s_grouped) (t_grouped K C_CutError C_NoWeb C_NoSide C_NoText C_NoWishes C_NoTurns C_NotFlat C_NoRing C_NoPaper C_NoShare C_NoTie C_NoWeight C_NoDeed C_TooGreat Φ_parted Φ_made_wishes) :=
  (pss_one (ps_ret (pe_callD g_parted (hr.mono (by decide)) (by rfl) (pa_cons (pe_ix ix_seq (pv 0) pe_int (fun _ _ => rfl)) (pa_cons (pe_callX0 g_made_wishes (hr.mono (by decide)) (by rfl) (pa_cons (pv 0) (pa_cons (pv 1) pa_nil))) pa_nil)))))
def t_is_lost_together (K : PySem.W.Frag) (Φ_is_gainful : Ph) : TS := (tSeq (tAsg (tOp (rIx K) (tOp (rIx K) (tVar 0) (tC (.int 1))) (tVar 2)) (gTup K 3 (gCons (gName 3) (gCons (gName 4) (gCons (gName 5) gNil)))))
    (tRet (tOp (rNeD K) (tOp (rNeD K) (tOp (rIx K) (tVar 1) (tVar 3)) (tOp (rIx K) (tVar 1) (tVar 4))) (tCall (SpD K Φ_is_gainful) [] E0 (tCons (tVar 0) (tCons (tVar 2) tNil))))))
theorem dv_is_lost_together {f : Addr} {cdv : Value} {A : Around} {outer : List Env} {s : Shared} {H : Hp} {E : XK} (hr : Room 1 (A.deeper (envOfC "is_lost_together" (defScope s_is_lost_together) s.heap.objs.size f cdv))) (B : ∀ x, x ∈ blt → mg x = none) (cs : Csts mg) {Φ_is_gainful : Ph} (g_is_gainful : Kn Pg w K mg base "is_gainful" 1 ["web", "tie"] Φ_is_gainful) :
    PSs (cxOf CX0 Pg w K mg base ["web", "marks", "tie", "one", "other", "weight"] "is_lost_together" (defScope s_is_lost_together) f cdv A outer s H E).nox (defBody s_is_lost_together) (t_is_lost_together K Φ_is_gainful) :=
  (pss_cons (ps_asg (pe_ix ix_seq (pe_ix ix_seq (pv 0) pe_int (fun _ _ => rfl)) (pv 2) (fun _ _ => rfl)) (pg_tup rfl (pgs_cons (pg_name (i := 3) sc_is_lost_together.nd rfl (by first | exact .inl rfl | exact .inr rfl)) (pgs_cons (pg_name (i := 4) sc_is_lost_together.nd rfl (by first | exact .inl rfl | exact .inr rfl)) (pgs_cons (pg_name (i := 5) sc_is_lost_together.nd rfl (by first | exact .inl rfl | exact .inr rfl)) pgs_nil)))))
      (pss_one (ps_ret (pe_cmpR (op_neD hr.units) (pe_cmpR (op_neD hr.units) (pe_ix ix_seq (pv 1) (pv 3) (fun _ _ => rfl)) (pe_ix ix_seq (pv 1) (pv 4) (fun _ _ => rfl)) (nomark _)) (pe_callD g_is_gainful (hr.mono (by decide)) (by rfl) (pa_cons (pv 0) (pa_cons (pv 2) pa_nil))) (nomark _)))))
def t_is_odd_round (K : PySem.W.Frag) (Φ_is_rising_choice : Ph) (Φ_has_even_ends : Ph) (Φ_is_lost_together : Ph) : TS := (tSeq (tIfS (tNot (L2.tB (tCall (SpD K Φ_is_rising_choice) [] E0 (tCons (tCB (rLenQ K) (tCons (tOp (rIx K) (tVar 0) (tC (.int 1))) tNil)) (tCons (tVar 3) tNil))))) (tRet (tC (.bl false))) tNext)
    (tSeq (tAsg (tLc (iTup K (tVar 3)) (gName 5) tYes (tTup (tCons (tOp (rIx K) (tVar 1) (tOp (rIx K) (tOp (rIx K) (tOp (rIx K) (tVar 0) (tC (.int 1))) (tVar 5)) (tC (.int 0)))) (tCons (tOp (rIx K) (tVar 1) (tOp (rIx K) (tOp (rIx K) (tOp (rIx K) (tVar 0) (tC (.int 1))) (tVar 5)) (tC (.int 1)))) tNil))) [5]) (gName 4))
    (tSeq (tIfS (tNot (L2.tB (tCall (SpD K Φ_has_even_ends) [] E0 (tCons (tOp (rIx K) (tVar 0) (tC (.int 0))) (tCons (tVar 4) tNil))))) (tRet (tC (.bl false))) tNext)
    (tRet (tOp (rEqD K) (tOp rModN (tCB (rLenQ K) (tCons (tLc (iTup K (tVar 3)) (gName 5) (L2.tB (tCall (SpD K Φ_is_lost_together) [] E0 (tCons (tVar 0) (tCons (tVar 2) (tCons (tVar 5) tNil))))) (tVar 5) [5]) tNil)) (tC (.int 2))) (tC (.int 1)))))))
theorem dv_is_odd_round {f : Addr} {cdv : Value} {A : Around} {outer : List Env} {s : Shared} {H : Hp} {E : XK} (hr : Room 3 (A.deeper (envOfC "is_odd_round" (defScope s_is_odd_round) s.heap.objs.size f cdv))) (B : ∀ x, x ∈ blt → mg x = none) (cs : Csts mg) {Φ_is_rising_choice : Ph} {Φ_has_even_ends : Ph} {Φ_is_lost_together : Ph} (g_is_rising_choice : Kn Pg w K mg base "is_rising_choice" 3 ["many", "thing"] Φ_is_rising_choice) (g_has_even_ends : Kn Pg w K mg base "has_even_ends" 1 ["many", "pairs"] Φ_has_even_ends) (g_is_lost_together : Kn Pg w K mg base "is_lost_together" 2 ["web", "marks", "tie"] Φ_is_lost_together) :
    PSs (cxOf CX0 Pg w K mg base ["web", "groups", "marks", "thing", "ends", "tie"] "is_odd_round" (defScope s_is_odd_round) f cdv A outer s H E).nox (defBody s_is_odd_round) (t_is_odd_round K Φ_is_rising_choice Φ_has_even_ends Φ_is_lost_together) :=
  (pss_cons (ps_if (pt_not (pt_val (pe_callD g_is_rising_choice (hr.mono (by decide)) (by rfl) (pa_cons (pe_callB call_len_seq (by rfl) (B "len" (by decide)) (by decide +kernel) (pa_cons (pe_ix ix_seq (pv 0) pe_int (fun _ _ => rfl)) pa_nil)) (pa_cons (pv 3) pa_nil))))) (pss_one (ps_ret pe_bl)) pss_nil)
      (pss_cons (ps_setLc (i := 4) (own := [("tie", 5)]) (g := (gName 5)) (tt := tYes) rfl sc_is_odd_round.nd rfl rfl (sw_true rfl rfl rfl (by decide +kernel)) (pi_tup (pv 3)) (blkOk_by (own := [("tie", 5)]) (N := ["web", "groups", "marks", "thing", "ends", "tie"]) (sc := defScope s_is_odd_round) (by decide +kernel)) (fun _ _ _ _ _ => (pg_name (i := 5) sc_is_odd_round.nd rfl (by first | exact .inl rfl | exact .inr rfl))) (fun _ _ _ _ _ => pts_nil) (fun _ _ _ _ _ => (pe_tup (pa_cons (pe_ix ix_seq (pv 1) (pe_ix ix_seq (pe_ix ix_seq (pe_ix ix_seq (pv 0) pe_int (fun _ _ => rfl)) (pv 5) (fun _ _ => rfl)) pe_int (fun _ _ => rfl)) (fun _ _ => rfl)) (pa_cons (pe_ix ix_seq (pv 1) (pe_ix ix_seq (pe_ix ix_seq (pe_ix ix_seq (pv 0) pe_int (fun _ _ => rfl)) (pv 5) (fun _ _ => rfl)) pe_int (fun _ _ => rfl)) (fun _ _ => rfl)) pa_nil)))))
      (pss_cons (ps_if (pt_not (pt_val (pe_callD g_has_even_ends (hr.mono (by decide)) (by rfl) (pa_cons (pe_ix ix_seq (pv 0) pe_int (fun _ _ => rfl)) (pa_cons (pv 4) pa_nil))))) (pss_one (ps_ret pe_bl)) pss_nil)
      (pss_one (ps_ret (pe_cmpR (op_eqD hr.units) (pe_op op_modN (pe_callB call_len_seq (by rfl) (B "len" (by decide)) (by decide +kernel) (pa_cons (pe_lc (own := [("tie", 5)]) (g := (gName 5)) (tt := (L2.tB (tCall (SpD K Φ_is_lost_together) [] E0 (tCons (tVar 0) (tCons (tVar 2) (tCons (tVar 5) tNil)))))) rfl sc_is_odd_round.nd (pi_tup (pv 3)) (blkOk_by (own := [("tie", 5)]) (N := ["web", "groups", "marks", "thing", "ends", "tie"]) (sc := defScope s_is_odd_round) (by decide +kernel)) (fun _ _ _ _ _ => (pg_name (i := 5) sc_is_odd_round.nd rfl (by first | exact .inl rfl | exact .inr rfl))) (fun _ _ _ _ _ => (pts_one (pt_val (pe_callD g_is_lost_together (hr.mono (by decide)) (by rfl) (pa_cons (pv 0) (pa_cons (pv 2) (pa_cons (pv 5) pa_nil))))))) (fun _ _ _ _ _ => (pv 5))) pa_nil)) pe_int) pe_int (nomark _)))))))
def t_least_size (K : PySem.W.Frag) (Φ_size_of : Ph) (Φ_less : Ph) : TS := (tSeq (tAsg (tCall (SpD K Φ_size_of) [] E0 (tCons (tVar 0) (tCons (tOp (rIx K) (tVar 1) (tC (.int 0))) tNil))) (gName 2))
    (tSeq (tFor (iTup K (tVar 1)) (gName 3) (tSeq (tAsg (tCall (SpD K Φ_size_of) [] E0 (tCons (tVar 0) (tCons (tVar 3) tNil))) (gName 4))
    (tIfS (L2.tB (tCall (SpD K Φ_less) [] E0 (tCons (tVar 4) (tCons (tVar 2) tNil)))) (tAsg (tVar 4) (gName 2)) tNext)))
    (tRet (tVar 2))))
theorem dv_least_size {f : Addr} {cdv : Value} {A : Around} {outer : List Env} {s : Shared} {H : Hp} {E : XK} (hr : Room 1 (A.deeper (envOfC "least_size" (defScope s_least_size) s.heap.objs.size f cdv))) (B : ∀ x, x ∈ blt → mg x = none) (cs : Csts mg) {Φ_size_of : Ph} {Φ_less : Ph} (g_size_of : Kn Pg w K mg base "size_of" 1 ["web", "tie"] Φ_size_of) (g_less : Kn Pg w K mg base "less" 1 ["one", "other"] Φ_less) :
    PSs (cxOf CX0 Pg w K mg base ["web", "ring", "least", "tie", "size"] "least_size" (defScope s_least_size) f cdv A outer s H E).nox (defBody s_least_size) (t_least_size K Φ_size_of Φ_less) :=
  (pss_cons (ps_set (i := 2) sc_least_size.nd rfl (by first | exact .inl rfl | exact .inr rfl) (pe_callD g_size_of (hr.mono (by decide)) (by rfl) (pa_cons (pv 0) (pa_cons (pe_ix ix_seq (pv 1) pe_int (fun _ _ => rfl)) pa_nil))))
      (pss_cons (ps_for PassesOwn.never rfl (pi_tup (pv 1)) (pg_name (i := 3) sc_least_size.nd rfl (by first | exact .inl rfl | exact .inr rfl)) (pss_cons (ps_set (i := 4) sc_least_size.nd rfl (by first | exact .inl rfl | exact .inr rfl) (pe_callD g_size_of (hr.mono (by decide)) (by rfl) (pa_cons (pv 0) (pa_cons (pv 3) pa_nil))))
      (pss_one (ps_if (pt_val (pe_callD g_less (hr.mono (by decide)) (by rfl) (pa_cons (pv 4) (pa_cons (pv 2) pa_nil)))) (pss_one (ps_set (i := 2) sc_least_size.nd rfl (by first | exact .inl rfl | exact .inr rfl) (pv 4))) pss_nil))))
      (pss_one (ps_ret (pv 2)))))
def t_lightest (K : PySem.W.Frag) (C_CutError C_NoWeb C_NoSide C_NoText C_NoWishes C_NoTurns C_NotFlat C_NoRing C_NoPaper C_NoShare C_NoTie C_NoWeight C_NoDeed C_TooGreat : Addr) (Φ_grouped : Ph) (Φ_is_odd_round : Ph) (Φ_least_size : Ph) : XK → TS := fun E => (tSeq (tAsg (tCall (SpD K Φ_grouped) [] E0 (tCons (tVar 0) (tCons (tVar 1) tNil))) (gName 3))
    (tSeq (tIfS (tOr (tTest (tOp (rEqD K) (tOp (rIx K) (tVar 3) (tC (.int 0))) (tC (.str "ring")))) (tNot (L2.tB (tCall (SpD K Φ_is_odd_round) [] E0 (tCons (tVar 0) (tCons (tOp (rIx K) (tVar 3) (tC (.int 1))) (tCons (tOp (rIx K) (tVar 3) (tC (.int 2))) (tCons (tVar 2) tNil)))))))) (tRs C_NoRing E) tNext)
    (tSeq (tAsg (tCall (SpD K Φ_least_size) [] E0 (tCons (tVar 0) (tCons (tVar 2) tNil))) (gName 4))
    (tRet (tTup (tCons (tC (.str "rings")) (tCons (tIf (tTest (tOp rGtI (tOp (rIx K) (tVar 4) (tC (.int 0))) (tC (.int 0)))) (tTup (tCons (tTup (tCons (tVar 2) (tCons (tVar 4) tNil))) tNil)) (tTup tNil)) tNil)))))))
theorem dv_lightest {f : Addr} {cdv : Value} {A : Around} {outer : List Env} {s : Shared} {H : Hp} {E : XK} (hr : Room 6 (A.deeper (envOfC "lightest" (defScope s_lightest) s.heap.objs.size f cdv))) (B : ∀ x, x ∈ blt → mg x = none) (cs : Csts mg) {C_CutError C_NoWeb C_NoSide C_NoText C_NoWishes C_NoTurns C_NotFlat C_NoRing C_NoPaper C_NoShare C_NoTie C_NoWeight C_NoDeed C_TooGreat : Addr} (cl : Cls K mg C_CutError C_NoWeb C_NoSide C_NoText C_NoWishes C_NoTurns C_NotFlat C_NoRing C_NoPaper C_NoShare C_NoTie C_NoWeight C_NoDeed C_TooGreat) {Φ_grouped : Ph} {Φ_is_odd_round : Ph} {Φ_least_size : Ph} (g_grouped : Kn Pg w K mg base "grouped" 6 ["web", "wishes"] Φ_grouped) (g_is_odd_round : Kn Pg w K mg base "is_odd_round" 4 ["web", "groups", "marks", "thing"] Φ_is_odd_round) (g_least_size : Kn Pg w K mg base "least_size" 2 ["web", "ring"] Φ_least_size) :
    PSs (cxOf (L2.CX Pg w) Pg w K mg base ["web", "wishes", "ring", "told", "share"] "lightest" (defScope s_lightest) f cdv A outer s H E) (defBody s_lightest) (t_lightest K C_CutError C_NoWeb C_NoSide C_NoText C_NoWishes C_NoTurns C_NotFlat C_NoRing C_NoPaper C_NoShare C_NoTie C_NoWeight C_NoDeed C_TooGreat Φ_grouped Φ_is_odd_round Φ_least_size E) :=
  (pss_cons (ps_set (i := 3) sc_lightest.nd rfl (by first | exact .inl rfl | exact .inr rfl) (pe_callD g_grouped (hr.mono (by decide)) (by rfl) (pa_cons (pv 0) (pa_cons (pv 1) pa_nil))))
      (pss_cons (ps_if (PW.pt (pw_or (pt_cmpR (op_eqD hr.units) (pe_ix ix_seq (pv 3) pe_int (fun _ _ => rfl)) pe_str (nomark _)) (pw_or1 (pt_not (pt_val (pe_callD g_is_odd_round (hr.mono (by decide)) (by rfl) (pa_cons (pv 0) (pa_cons (pe_ix ix_seq (pv 3) pe_int (fun _ _ => rfl)) (pa_cons (pe_ix ix_seq (pv 3) pe_int (fun _ _ => rfl)) (pa_cons (pv 2) pa_nil)))))))))) (pss_one (ps_raiseD cl.er_NoRing rfl rfl rfl rfl rfl (by rfl))) pss_nil)
      (pss_cons (ps_set (i := 4) sc_lightest.nd rfl (by first | exact .inl rfl | exact .inr rfl) (pe_callD g_least_size (hr.mono (by decide)) (by rfl) (pa_cons (pv 0) (pa_cons (pv 2) pa_nil))))
      (pss_one (ps_ret (pe_tup (pa_cons pe_str (pa_cons (pe_ifExp (pt_cmpR op_gt (pe_ix ix_seq (pv 4) pe_int (fun _ _ => rfl)) pe_int (nomark _)) (pe_tup (pa_cons (pe_tup (pa_cons (pv 2) (pa_cons (pv 4) pa_nil))) pa_nil)) (pe_tup pa_nil)) pa_nil))))))))
def t__law_stirred (K : PySem.W.Frag) : TS := (tSeq (tAsg (tOp rModN (tOp rAddI (tOp rAddI (tOp rMulI (tVar 0) (tC (.int 48271))) (tOp rMulI (tOp rMulX (tVar 1) (tVar 1)) (tC (.int 69621)))) (tC (.int 7919))) (tC (.int 2147483647))) (gName 2))
    (tSeq (tAsg (tOp rModN (tOp rAddI (tOp rAddI (tOp rMulI (tVar 2) (tC (.int 40692))) (tOp rMulI (tVar 1) (tC (.int 16807)))) (tC (.int 12345))) (tC (.int 2147483399))) (gName 2))
    (tRet (tOp rDivX (tVar 2) (tC (.int 97))))))
theorem dv__law_stirred {f : Addr} {cdv : Value} {A : Around} {outer : List Env} {s : Shared} {H : Hp} {E : XK} (hr : Room 0 (A.deeper (envOfC "_law_stirred" (defScope s__law_stirred) s.heap.objs.size f cdv))) (B : ∀ x, x ∈ blt → mg x = none) (cs : Csts mg) :
    PSs (cxOf CX0 Pg w K mg base ["_law_cell", "_law_k", "_law_number"] "_law_stirred" (defScope s__law_stirred) f cdv A outer s H E).nox (defBody s__law_stirred) (t__law_stirred K) :=
  (pss_cons (ps_set (i := 2) sc__law_stirred.nd rfl (by first | exact .inl rfl | exact .inr rfl) (pe_op op_modN (pe_op op_add (pe_op op_add (pe_op op_mul (pv 0) pe_int) (pe_op op_mul (pe_op op_mulX (pv 1) (pv 1)) pe_int)) pe_int) pe_int))
      (pss_cons (ps_set (i := 2) sc__law_stirred.nd rfl (by first | exact .inl rfl | exact .inr rfl) (pe_op op_modN (pe_op op_add (pe_op op_add (pe_op op_mul (pv 2) pe_int) (pe_op op_mul (pv 1) pe_int)) pe_int) pe_int))
      (pss_one (ps_ret (pe_op op_fdivX (pv 2) pe_int)))))
def t__law_deck (K : PySem.W.Frag) (Φ__law_stirred : Ph) : TS := (tSeq (tAsg (tOp rCat (tCB (rListQ K) (tCons (tSl (rSlL K) (tVar 0) tNoPart (tPart (tC (.int 60)))) tNil)) (tOp rRep (tLst (tCons (tC (.int 0)) tNil)) (tCB rInt1 (tCons (tOp (rEqD K) (tCB (rLenQ K) (tCons (tVar 0) tNil)) (tC (.int 0))) tNil)))) (gName 2))
    (tSeq (tAsg (tLc (iList K (tVar 2)) (gName 4) tYes (tOp rMulI (tVar 4) (tCB rInt1 (tCons (tOp rGeI (tVar 4) (tOp rPowI (tC (.int 10)) (tC (.int 18)))) tNil))) [4]) (gName 3))
    (tSeq (tAsg (tLst tNil) (gName 5))
    (tSeq (tFor (iRng1 (tCons (tVar 1) tNil)) (gName 6) (tSeq (tAsg (tOp rModN (tVar 6) (tCB (rLenQ K) (tCons (tVar 2) tNil))) (gName 7))
    (tIfS (tTest (tOp rGtI (tOp (rIx K) (tVar 3) (tVar 7)) (tC (.int 0)))) (tSeq (tDrop (tBM K "list" rAppend (tVar 5) (tCons (tOp rModN (tOp (rIx K) (tVar 3) (tVar 7)) (tC (.int 1000))) tNil)))
    (tAsg (tOp rDivX (tOp (rIx K) (tVar 3) (tVar 7)) (tC (.int 1000))) (gSub (tVar 3) (tVar 7) rSetL))) (tDrop (tBM K "list" rAppend (tVar 5) (tCons (tOp rModN (tCall (SpD K Φ__law_stirred) [] E0 (tCons (tOp (rIx K) (tVar 2) (tVar 7)) (tCons (tOp rAddI (tVar 6) (tC (.int 1))) tNil))) (tC (.int 1000))) tNil))))))
    (tRet (tLstRev K (tVar 5)))))))
theorem dv__law_deck {f : Addr} {cdv : Value} {A : Around} {outer : List Env} {s : Shared} {H : Hp} {E : XK} (hr : Room 1 (A.deeper (envOfC "_law_deck" (defScope s__law_deck) s.heap.objs.size f cdv))) (B : ∀ x, x ∈ blt → mg x = none) (cs : Csts mg) {Φ__law_stirred : Ph} (g__law_stirred : Kn Pg w K mg base "_law_stirred" 1 ["_law_cell", "_law_k"] Φ__law_stirred) :
    PSs (cxOf CX0 Pg w K mg base ["_law_script", "_law_many", "_law_cells", "_law_rest", "_law_cell", "_law_deck_here", "_law_k", "_law_at"] "_law_deck" (defScope s__law_deck) f cdv A outer s H E).nox (defBody s__law_deck) (t__law_deck K Φ__law_stirred) :=
  (pss_cons (ps_set (i := 2) sc__law_deck.nd rfl (by first | exact .inl rfl | exact .inr rfl) (pe_op op_cat (pe_callTy call_list_of (by rfl) (B "list" (by decide)) (by decide +kernel) (pa_cons (pe_slice sl_list (pv 0) po_none (po_some pe_int)) pa_nil)) (pe_op op_rep (pe_lst (pa_cons pe_int pa_nil)) (pe_callTy call_int1 (by rfl) (B "int" (by decide)) (by decide +kernel) (pa_cons (pe_cmpR (op_eqD hr.units) (pe_callB call_len_seq (by rfl) (B "len" (by decide)) (by decide +kernel) (pa_cons (pv 0) pa_nil)) pe_int (nomark _)) pa_nil)))))
      (pss_cons (ps_setLc (i := 3) (own := [("_law_cell", 4)]) (g := (gName 4)) (tt := tYes) rfl sc__law_deck.nd rfl rfl (sw_true rfl rfl rfl (by decide +kernel)) (pi_list (pv 2)) (blkOk_by (own := [("_law_cell", 4)]) (N := ["_law_script", "_law_many", "_law_cells", "_law_rest", "_law_cell", "_law_deck_here", "_law_k", "_law_at"]) (sc := defScope s__law_deck) (by decide +kernel)) (fun _ _ _ _ _ => (pg_name (i := 4) sc__law_deck.nd rfl (by first | exact .inl rfl | exact .inr rfl))) (fun _ _ _ _ _ => pts_nil) (fun _ _ _ _ _ => (pe_op op_mul (pv 4) (pe_callTy call_int1 (by rfl) (B "int" (by decide)) (by decide +kernel) (pa_cons (pe_cmpR op_ge (pv 4) (pe_op op_pow pe_int pe_int) (nomark _)) pa_nil)))))
      (pss_cons (ps_set (i := 5) sc__law_deck.nd rfl (by first | exact .inl rfl | exact .inr rfl) (pe_lst pa_nil))
      (pss_cons (ps_for PassesOwn.never rfl (pi_range1 (by rfl) (B "range" (by decide)) (pa_cons (pv 1) pa_nil)) (pg_name (i := 6) sc__law_deck.nd rfl (by first | exact .inl rfl | exact .inr rfl)) (pss_cons (ps_set (i := 7) sc__law_deck.nd rfl (by first | exact .inl rfl | exact .inr rfl) (pe_op op_modN (pv 6) (pe_callB call_len_seq (by rfl) (B "len" (by decide)) (by decide +kernel) (pa_cons (pv 2) pa_nil))))
      (pss_one (ps_if (pt_cmpR op_gt (pe_ix ix_seq (pv 3) (pv 7) (fun _ _ => rfl)) pe_int (nomark _)) (pss_cons (ps_expr (pe_bm PySem.F.plainAttrs_list PySem.F.slot_list_append PySem.F.type_list_append mt_append (pv 5) (pa_cons (pe_op op_modN (pe_ix ix_seq (pv 3) (pv 7) (fun _ _ => rfl)) pe_int) pa_nil)))
      (pss_one (ps_asg (pe_op op_fdivX (pe_ix ix_seq (pv 3) (pv 7) (fun _ _ => rfl)) pe_int) (pg_sub (pv 3) (pv 7) set_list)))) (pss_one (ps_expr (pe_bm PySem.F.plainAttrs_list PySem.F.slot_list_append PySem.F.type_list_append mt_append (pv 5) (pa_cons (pe_op op_modN (pe_callD g__law_stirred (hr.mono (by decide)) (by rfl) (pa_cons (pe_ix ix_seq (pv 2) (pv 7) (fun _ _ => rfl)) (pa_cons (pe_op op_add (pv 6) pe_int) pa_nil))) pe_int) pa_nil))))))))
      (pss_one (ps_ret (pe_lstRev rfl (by rfl) (B "list" (by decide)) (by rfl) (B "reversed" (by decide)) (pv 5))))))))
def t__law_next (K : PySem.W.Frag) : TS := (tSeq (tIfS (tTest (tOp rGtI (tCB (rLenQ K) (tCons (tVar 0) tNil)) (tC (.int 0)))) (tRet (tBM0 K "list" rPop (tVar 0))) tNext)
    (tRet (tC (.int 0))))
theorem dv__law_next {f : Addr} {cdv : Value} {A : Around} {outer : List Env} {s : Shared} {H : Hp} {E : XK} (hr : Room 0 (A.deeper (envOfC "_law_next" (defScope s__law_next) s.heap.objs.size f cdv))) (B : ∀ x, x ∈ blt → mg x = none) (cs : Csts mg) :
    PSs (cxOf CX0 Pg w K mg base ["_law_deck_here"] "_law_next" (defScope s__law_next) f cdv A outer s H E).nox (defBody s__law_next) (t__law_next K) :=
  (pss_cons (ps_if (pt_cmpR op_gt (pe_callB call_len_seq (by rfl) (B "len" (by decide)) (by decide +kernel) (pa_cons (pv 0) pa_nil)) pe_int (nomark _)) (pss_one (ps_ret (pe_bm0 PySem.F.plainAttrs_list PySem.F.slot_list_pop PySem.F.type_list_pop mt_pop (pv 0)))) pss_nil)
      (pss_one (ps_ret pe_int)))
def t__law_fraction (K : PySem.W.Frag) : TS := (tSeq (tPar 2 3 (tCons (tCB rAbs (tCons (tVar 0) tNil)) (tCons (tVar 1) tNil)))
    (tSeq (tWhile (tTest (tOp rGtI (tVar 2) (tC (.int 0)))) (tPar 2 3 (tCons (tOp rModN (tVar 3) (tVar 2)) (tCons (tVar 2) tNil))))
    (tRet (tTup (tCons (tOp rDivX (tVar 0) (tVar 3)) (tCons (tOp rDivX (tVar 1) (tVar 3)) tNil))))))
theorem dv__law_fraction {f : Addr} {cdv : Value} {A : Around} {outer : List Env} {s : Shared} {H : Hp} {E : XK} (hr : Room 0 (A.deeper (envOfC "_law_fraction" (defScope s__law_fraction) s.heap.objs.size f cdv))) (B : ∀ x, x ∈ blt → mg x = none) (cs : Csts mg) :
    PSs (cxOf CX0 Pg w K mg base ["_law_top", "_law_bottom", "_law_one", "_law_other"] "_law_fraction" (defScope s__law_fraction) f cdv A outer s H E).nox (defBody s__law_fraction) (t__law_fraction K) :=
  (pss_cons (ps_par (by rfl) sc__law_fraction.nd (i := 2) (j := 3) rfl rfl (by decide) rfl rfl (pa_cons (pe_callB call_abs (by rfl) (B "abs" (by decide)) (by decide +kernel) (pa_cons (pv 0) pa_nil)) (pa_cons (pv 1) pa_nil)) (by rfl))
      (pss_cons (ps_while PassesOwn.never (pt_cmpR op_gt (pv 2) pe_int (nomark _)) (pss_one (ps_par (by rfl) sc__law_fraction.nd (i := 2) (j := 3) rfl rfl (by decide) rfl rfl (pa_cons (pe_op op_modN (pv 3) (pv 2)) (pa_cons (pv 2) pa_nil)) (by rfl))))
      (pss_one (ps_ret (pe_tup (pa_cons (pe_op op_fdivX (pv 0) (pv 3)) (pa_cons (pe_op op_fdivX (pv 1) (pv 3)) pa_nil)))))))
def t__law_below (K : PySem.W.Frag) : TS := (tRet (tOp rLtI (tOp rMulX (tOp (rIx K) (tVar 0) (tC (.int 0))) (tOp (rIx K) (tVar 1) (tC (.int 1)))) (tOp rMulX (tOp (rIx K) (tVar 1) (tC (.int 0))) (tOp (rIx K) (tVar 0) (tC (.int 1))))))
theorem dv__law_below {f : Addr} {cdv : Value} {A : Around} {outer : List Env} {s : Shared} {H : Hp} {E : XK} (hr : Room 0 (A.deeper (envOfC "_law_below" (defScope s__law_below) s.heap.objs.size f cdv))) (B : ∀ x, x ∈ blt → mg x = none) (cs : Csts mg) :
    PSs (cxOf CX0 Pg w K mg base ["_law_one", "_law_other"] "_law_below" (defScope s__law_below) f cdv A outer s H E).nox (defBody s__law_below) (t__law_below K) :=
  (pss_one (ps_ret (pe_cmpR op_lt (pe_op op_mulX (pe_ix ix_seq (pv 0) pe_int (fun _ _ => rfl)) (pe_ix ix_seq (pv 1) pe_int (fun _ _ => rfl))) (pe_op op_mulX (pe_ix ix_seq (pv 1) pe_int (fun _ _ => rfl)) (pe_ix ix_seq (pv 0) pe_int (fun _ _ => rfl))) (nomark _))))
def t__law_weight (K : PySem.W.Frag) (Φ__law_next : Ph) (Φ__law_fraction : Ph) : TS := (tSeq (tAsg (tCall (SpD K Φ__law_next) [] E0 (tCons (tVar 0) tNil)) (gName 2))
    (tSeq (tAsg (tOp rSubI (tOp rModN (tVar 2) (tC (.int 9))) (tC (.int 4))) (gName 3))
    (tSeq (tIfS (tTest (tOp (rEqD K) (tVar 1) (tC (.int 1)))) (tAsg (tCB rAbs (tCons (tVar 3) tNil)) (gName 3)) (tIfS (tTest (tOp (rEqD K) (tVar 1) (tC (.int 2)))) (tAsg (tOp rSubI (tC (.int 0)) (tCB rAbs (tCons (tVar 3) tNil))) (gName 3)) (tIfS (tTest (tOp (rEqD K) (tVar 1) (tC (.int 3)))) (tRet (tTup (tCons (tC (.int 1)) (tCons (tC (.int 1)) tNil)))) (tIfS (tTest (tOp (rEqD K) (tVar 1) (tC (.int 4)))) (tAsg (tOp rAddI (tOp rMulX (tVar 3) (tOp rPowI (tC (.int 10)) (tC (.int 8)))) (tVar 2)) (gName 3)) tNext))))
    (tRet (tCall (SpD K Φ__law_fraction) [] E0 (tCons (tVar 3) (tCons (tOp (rIx K) (tLst (tCons (tC (.int 1)) (tCons (tC (.int 1)) (tCons (tC (.int 2)) (tCons (tC (.int 3)) (tCons (tC (.int 1)) (tCons (tC (.int 1000)) tNil))))))) (tOp rModN (tOp rDivX (tVar 2) (tC (.int 9))) (tC (.int 6)))) tNil)))))))
theorem dv__law_weight {f : Addr} {cdv : Value} {A : Around} {outer : List Env} {s : Shared} {H : Hp} {E : XK} (hr : Room 1 (A.deeper (envOfC "_law_weight" (defScope s__law_weight) s.heap.objs.size f cdv))) (B : ∀ x, x ∈ blt → mg x = none) (cs : Csts mg) {Φ__law_next : Ph} {Φ__law_fraction : Ph} (g__law_next : Kn Pg w K mg base "_law_next" 1 ["_law_deck_here"] Φ__law_next) (g__law_fraction : Kn Pg w K mg base "_law_fraction" 1 ["_law_top", "_law_bottom"] Φ__law_fraction) :
    PSs (cxOf CX0 Pg w K mg base ["_law_deck_here", "_law_style", "_law_cell", "_law_top"] "_law_weight" (defScope s__law_weight) f cdv A outer s H E).nox (defBody s__law_weight) (t__law_weight K Φ__law_next Φ__law_fraction) :=
  (pss_cons (ps_set (i := 2) sc__law_weight.nd rfl (by first | exact .inl rfl | exact .inr rfl) (pe_callD g__law_next (hr.mono (by decide)) (by rfl) (pa_cons (pv 0) pa_nil)))
      (pss_cons (ps_set (i := 3) sc__law_weight.nd rfl (by first | exact .inl rfl | exact .inr rfl) (pe_op op_sub (pe_op op_modN (pv 2) pe_int) pe_int))
      (pss_cons (ps_if (pt_cmpR (op_eqD hr.units) (pv 1) pe_int (nomark _)) (pss_one (ps_set (i := 3) sc__law_weight.nd rfl (by first | exact .inl rfl | exact .inr rfl) (pe_callB call_abs (by rfl) (B "abs" (by decide)) (by decide +kernel) (pa_cons (pv 3) pa_nil)))) (pss_one (ps_if (pt_cmpR (op_eqD hr.units) (pv 1) pe_int (nomark _)) (pss_one (ps_set (i := 3) sc__law_weight.nd rfl (by first | exact .inl rfl | exact .inr rfl) (pe_op op_sub pe_int (pe_callB call_abs (by rfl) (B "abs" (by decide)) (by decide +kernel) (pa_cons (pv 3) pa_nil))))) (pss_one (ps_if (pt_cmpR (op_eqD hr.units) (pv 1) pe_int (nomark _)) (pss_one (ps_ret (pe_tup (pa_cons pe_int (pa_cons pe_int pa_nil))))) (pss_one (ps_if (pt_cmpR (op_eqD hr.units) (pv 1) pe_int (nomark _)) (pss_one (ps_set (i := 3) sc__law_weight.nd rfl (by first | exact .inl rfl | exact .inr rfl) (pe_op op_add (pe_op op_mulX (pv 3) (pe_op op_pow pe_int pe_int)) (pv 2)))) pss_nil)))))))
      (pss_one (ps_ret (pe_callD g__law_fraction (hr.mono (by decide)) (by rfl) (pa_cons (pv 3) (pa_cons (pe_ix ix_seq (pe_lst (pa_cons pe_int (pa_cons pe_int (pa_cons pe_int (pa_cons pe_int (pa_cons pe_int (pa_cons pe_int pa_nil))))))) (pe_op op_modN (pe_op op_fdivX (pv 2) pe_int) pe_int) (fun _ _ => rfl)) pa_nil))))))))
def t__law_web (K : PySem.W.Frag) (Φ__law_next : Ph) (Φ__law_weight : Ph) : TS := (tSeq (tAsg (tOp rAddI (tC (.int 1)) (tOp rModN (tCall (SpD K Φ__law_next) [] E0 (tCons (tVar 0) tNil)) (tVar 1))) (gName 3))
    (tSeq (tAsg (tOp (rIx K) (tLst (tCons (tC (.int 0)) (tCons (tC (.int 0)) (tCons (tC (.int 0)) (tCons (tC (.int 1)) (tCons (tC (.int 2)) (tCons (tC (.int 3)) (tCons (tC (.int 4)) tNil)))))))) (tOp rModN (tCall (SpD K Φ__law_next) [] E0 (tCons (tVar 0) tNil)) (tC (.int 7)))) (gName 4))
    (tSeq (tAsg (tOp rAddI (tC (.int 1)) (tOp rModN (tCall (SpD K Φ__law_next) [] E0 (tCons (tVar 0) tNil)) (tC (.int 4)))) (gName 5))
    (tSeq (tAsg (tLst tNil) (gName 6))
    (tSeq (tFor (iRng1 (tCons (tVar 3) tNil)) (gName 7) (tFor (iRng1 (tCons (tVar 7) tNil)) (gName 8) (tIfS (tAnd (tTest (tOp rLtI (tOp rModN (tCall (SpD K Φ__law_next) [] E0 (tCons (tVar 0) tNil)) (tC (.int 4))) (tVar 5))) (tTest (tOp rLtI (tCB (rLenQ K) (tCons (tVar 6) tNil)) (tVar 2)))) (tDrop (tBM K "list" rAppend (tVar 6) (tCons (tTup (tCons (tVar 8) (tCons (tVar 7) (tCons (tCall (SpD K Φ__law_weight) [] E0 (tCons (tVar 0) (tCons (tVar 4) tNil))) tNil)))) tNil))) tNext)))
    (tRet (tTup (tCons (tVar 3) (tCons (tCB (rTupQ K) (tCons (tCB (rSortV K) (tCons (tVar 6) tNil)) tNil)) tNil)))))))))
theorem dv__law_web {f : Addr} {cdv : Value} {A : Around} {outer : List Env} {s : Shared} {H : Hp} {E : XK} (hr : Room 2 (A.deeper (envOfC "_law_web" (defScope s__law_web) s.heap.objs.size f cdv))) (B : ∀ x, x ∈ blt → mg x = none) (cs : Csts mg) {Φ__law_next : Ph} {Φ__law_weight : Ph} (g__law_next : Kn Pg w K mg base "_law_next" 1 ["_law_deck_here"] Φ__law_next) (g__law_weight : Kn Pg w K mg base "_law_weight" 2 ["_law_deck_here", "_law_style"] Φ__law_weight) :
    PSs (cxOf CX0 Pg w K mg base ["_law_deck_here", "_law_most_points", "_law_most_ties", "_law_many", "_law_style", "_law_often", "_law_ties", "_law_other", "_law_one"] "_law_web" (defScope s__law_web) f cdv A outer s H E).nox (defBody s__law_web) (t__law_web K Φ__law_next Φ__law_weight) :=
  (pss_cons (ps_set (i := 3) sc__law_web.nd rfl (by first | exact .inl rfl | exact .inr rfl) (pe_op op_add pe_int (pe_op op_modN (pe_callD g__law_next (hr.mono (by decide)) (by rfl) (pa_cons (pv 0) pa_nil)) (pv 1))))
      (pss_cons (ps_set (i := 4) sc__law_web.nd rfl (by first | exact .inl rfl | exact .inr rfl) (pe_ix ix_seq (pe_lst (pa_cons pe_int (pa_cons pe_int (pa_cons pe_int (pa_cons pe_int (pa_cons pe_int (pa_cons pe_int (pa_cons pe_int pa_nil)))))))) (pe_op op_modN (pe_callD g__law_next (hr.mono (by decide)) (by rfl) (pa_cons (pv 0) pa_nil)) pe_int) (fun _ _ => rfl)))
      (pss_cons (ps_set (i := 5) sc__law_web.nd rfl (by first | exact .inl rfl | exact .inr rfl) (pe_op op_add pe_int (pe_op op_modN (pe_callD g__law_next (hr.mono (by decide)) (by rfl) (pa_cons (pv 0) pa_nil)) pe_int)))
      (pss_cons (ps_set (i := 6) sc__law_web.nd rfl (by first | exact .inl rfl | exact .inr rfl) (pe_lst pa_nil))
      (pss_cons (ps_for PassesOwn.never rfl (pi_range1 (by rfl) (B "range" (by decide)) (pa_cons (pv 3) pa_nil)) (pg_name (i := 7) sc__law_web.nd rfl (by first | exact .inl rfl | exact .inr rfl)) (pss_one (ps_for PassesOwn.never rfl (pi_range1 (by rfl) (B "range" (by decide)) (pa_cons (pv 7) pa_nil)) (pg_name (i := 8) sc__law_web.nd rfl (by first | exact .inl rfl | exact .inr rfl)) (pss_one (ps_if (PW.pt (pw_and (pt_cmpR op_lt (pe_op op_modN (pe_callD g__law_next (hr.mono (by decide)) (by rfl) (pa_cons (pv 0) pa_nil)) pe_int) (pv 5) (nomark _)) (pw_and1 (pt_cmpR op_lt (pe_callB call_len_seq (by rfl) (B "len" (by decide)) (by decide +kernel) (pa_cons (pv 6) pa_nil)) (pv 2) (nomark _))))) (pss_one (ps_expr (pe_bm PySem.F.plainAttrs_list PySem.F.slot_list_append PySem.F.type_list_append mt_append (pv 6) (pa_cons (pe_tup (pa_cons (pv 8) (pa_cons (pv 7) (pa_cons (pe_callD g__law_weight (hr.mono (by decide)) (by rfl) (pa_cons (pv 0) (pa_cons (pv 4) pa_nil))) pa_nil)))) pa_nil)))) pss_nil)))))
      (pss_one (ps_ret (pe_tup (pa_cons (pv 3) (pa_cons (pe_callTy call_tuple_of (by rfl) (B "tuple" (by decide)) (by decide +kernel) (pa_cons (pe_callB (cr_sortV hr.units) (by rfl) (B "sorted" (by decide)) (by decide +kernel) (pa_cons (pv 6) pa_nil)) pa_nil)) pa_nil))))))))))
def t__law_wishes (K : PySem.W.Frag) (Φ__law_next : Ph) : TS := (tSeq (tAsg (tOp rModN (tCall (SpD K Φ__law_next) [] E0 (tCons (tVar 0) tNil)) (tC (.int 4))) (gName 2))
    (tSeq (tAsg (tLst tNil) (gName 3))
    (tSeq (tIfS (tAnd (tTest (tOp rGtI (tVar 2) (tC (.int 0)))) (tTest (tOp rGtI (tVar 1) (tC (.int 1))))) (tSeq (tAsg (tLc (iRng1 (tCons (tVar 1) tNil)) (gName 9) tYes (tOp rModN (tCall (SpD K Φ__law_next) [] E0 (tCons (tVar 0) tNil)) (tC (.int 2))) [9]) (gName 4))
    (tFor (iRng1 (tCons (tOp rModN (tCall (SpD K Φ__law_next) [] E0 (tCons (tVar 0) tNil)) (tC (.int 5))) tNil)) (gName 5) (tSeq (tAsg (tOp rModN (tCall (SpD K Φ__law_next) [] E0 (tCons (tVar 0) tNil)) (tVar 1)) (gName 6))
    (tSeq (tAsg (tOp rModN (tOp rAddI (tOp rAddI (tVar 6) (tC (.int 1))) (tOp rModN (tCall (SpD K Φ__law_next) [] E0 (tCons (tVar 0) tNil)) (tOp rSubI (tVar 1) (tC (.int 1))))) (tVar 1)) (gName 7))
    (tSeq (tAsg (tCB rInt1 (tCons (tAndV (tOp (rEqD K) (tVar 2) (tC (.int 3))) (tOp (rEqD K) (tOp rModN (tCall (SpD K Φ__law_next) [] E0 (tCons (tVar 0) tNil)) (tC (.int 3))) (tC (.int 0)))) tNil)) (gName 8))
    (tDrop (tBM K "list" rAppend (tVar 3) (tCons (tTup (tCons (tVar 6) (tCons (tVar 7) (tCons (tOp rModN (tOp rAddI (tOp rAddI (tOp (rIx K) (tVar 4) (tVar 6)) (tOp (rIx K) (tVar 4) (tVar 7))) (tVar 8)) (tC (.int 2))) tNil)))) tNil)))))))) tNext)
    (tRet (tCB (rTupQ K) (tCons (tVar 3) tNil))))))
theorem dv__law_wishes {f : Addr} {cdv : Value} {A : Around} {outer : List Env} {s : Shared} {H : Hp} {E : XK} (hr : Room 1 (A.deeper (envOfC "_law_wishes" (defScope s__law_wishes) s.heap.objs.size f cdv))) (B : ∀ x, x ∈ blt → mg x = none) (cs : Csts mg) {Φ__law_next : Ph} (g__law_next : Kn Pg w K mg base "_law_next" 1 ["_law_deck_here"] Φ__law_next) :
    PSs (cxOf CX0 Pg w K mg base ["_law_deck_here", "_law_many", "_law_way", "_law_found", "_law_bits", "_law_k", "_law_one", "_law_other", "_law_wrong", "_law_point"] "_law_wishes" (defScope s__law_wishes) f cdv A outer s H E).nox (defBody s__law_wishes) (t__law_wishes K Φ__law_next) :=
  (pss_cons (ps_set (i := 2) sc__law_wishes.nd rfl (by first | exact .inl rfl | exact .inr rfl) (pe_op op_modN (pe_callD g__law_next (hr.mono (by decide)) (by rfl) (pa_cons (pv 0) pa_nil)) pe_int))
      (pss_cons (ps_set (i := 3) sc__law_wishes.nd rfl (by first | exact .inl rfl | exact .inr rfl) (pe_lst pa_nil))
      (pss_cons (ps_if (PW.pt (pw_and (pt_cmpR op_gt (pv 2) pe_int (nomark _)) (pw_and1 (pt_cmpR op_gt (pv 1) pe_int (nomark _))))) (pss_cons (ps_setLc (i := 4) (own := [("_law_point", 9)]) (g := (gName 9)) (tt := tYes) rfl sc__law_wishes.nd rfl rfl (sw_true rfl rfl rfl (by decide +kernel)) (pi_range1 (by rfl) (B "range" (by decide)) (pa_cons (pv 1) pa_nil)) (blkOk_by (own := [("_law_point", 9)]) (N := ["_law_deck_here", "_law_many", "_law_way", "_law_found", "_law_bits", "_law_k", "_law_one", "_law_other", "_law_wrong", "_law_point"]) (sc := defScope s__law_wishes) (by decide +kernel)) (fun _ _ _ _ _ => (pg_name (i := 9) sc__law_wishes.nd rfl (by first | exact .inl rfl | exact .inr rfl))) (fun _ _ _ _ _ => pts_nil) (fun _ _ _ _ _ => (pe_op op_modN (pe_callD g__law_next (hr.mono (by decide)) (by rfl) (pa_cons (pv 0) pa_nil)) pe_int)))
      (pss_one (ps_for PassesOwn.never rfl (pi_range1 (by rfl) (B "range" (by decide)) (pa_cons (pe_op op_modN (pe_callD g__law_next (hr.mono (by decide)) (by rfl) (pa_cons (pv 0) pa_nil)) pe_int) pa_nil)) (pg_name (i := 5) sc__law_wishes.nd rfl (by first | exact .inl rfl | exact .inr rfl)) (pss_cons (ps_set (i := 6) sc__law_wishes.nd rfl (by first | exact .inl rfl | exact .inr rfl) (pe_op op_modN (pe_callD g__law_next (hr.mono (by decide)) (by rfl) (pa_cons (pv 0) pa_nil)) (pv 1)))
      (pss_cons (ps_set (i := 7) sc__law_wishes.nd rfl (by first | exact .inl rfl | exact .inr rfl) (pe_op op_modN (pe_op op_add (pe_op op_add (pv 6) pe_int) (pe_op op_modN (pe_callD g__law_next (hr.mono (by decide)) (by rfl) (pa_cons (pv 0) pa_nil)) (pe_op op_sub (pv 1) pe_int))) (pv 1)))
      (pss_cons (ps_set (i := 8) sc__law_wishes.nd rfl (by first | exact .inl rfl | exact .inr rfl) (pe_callTy call_int1 (by rfl) (B "int" (by decide)) (by decide +kernel) (pa_cons (pe_and (pe_cmpR (op_eqD hr.units) (pv 2) pe_int (nomark _)) (pe_one (pe_cmpR (op_eqD hr.units) (pe_op op_modN (pe_callD g__law_next (hr.mono (by decide)) (by rfl) (pa_cons (pv 0) pa_nil)) pe_int) pe_int (nomark _)))) pa_nil)))
      (pss_one (ps_expr (pe_bm PySem.F.plainAttrs_list PySem.F.slot_list_append PySem.F.type_list_append mt_append (pv 3) (pa_cons (pe_tup (pa_cons (pv 6) (pa_cons (pv 7) (pa_cons (pe_op op_modN (pe_op op_add (pe_op op_add (pe_ix ix_seq (pv 4) (pv 6) (fun _ _ => rfl)) (pe_ix ix_seq (pv 4) (pv 7) (fun _ _ => rfl))) (pv 8)) pe_int) pa_nil)))) pa_nil)))))))))) pss_nil)
      (pss_one (ps_ret (pe_callTy call_tuple_of (by rfl) (B "tuple" (by decide)) (by decide +kernel) (pa_cons (pv 3) pa_nil)))))))
def t__law_groups (K : PySem.W.Frag) : TS := (tSeq (tAsg (tLstRg (tRg1 (tVar 0))) (gName 2))
    (tSeq (tAsg (tOp rRep (tLst (tCons (tC (.int 0)) tNil)) (tVar 0)) (gName 3))
    (tSeq (tFor (iTup K (tVar 1)) (gTup K 3 (gCons (gName 4) (gCons (gName 5) (gCons (gName 6) gNil)))) (tSeq (tAsg (tOp rModN (tOp rAddI (tOp rAddI (tOp (rIx K) (tVar 3) (tVar 4)) (tOp (rIx K) (tVar 3) (tVar 5))) (tVar 6)) (tC (.int 2))) (gName 7))
    (tSeq (tIfS (tAnd (tTest (tOp (rEqD K) (tOp (rIx K) (tVar 2) (tVar 4)) (tOp (rIx K) (tVar 2) (tVar 5)))) (tTest (tOp (rEqD K) (tVar 7) (tC (.int 1))))) (tRet (tC .non)) tNext)
    (tIfS (tTest (tOp (rNeD K) (tOp (rIx K) (tVar 2) (tVar 4)) (tOp (rIx K) (tVar 2) (tVar 5)))) (tSeq (tAsg (tOp (rIx K) (tVar 2) (tVar 5)) (gName 8))
    (tFor (iRng1 (tCons (tVar 0) tNil)) (gName 9) (tIfS (tTest (tOp (rEqD K) (tOp (rIx K) (tVar 2) (tVar 9)) (tVar 8))) (tSeq (tAsg (tOp (rIx K) (tVar 2) (tVar 4)) (gSub (tVar 2) (tVar 9) rSetL))
    (tAsg (tOp rModN (tOp rAddI (tOp (rIx K) (tVar 3) (tVar 9)) (tVar 7)) (tC (.int 2))) (gSub (tVar 3) (tVar 9) rSetL))) tNext))) tNext))))
    (tSeq (tAsg tDNewK (gName 10))
    (tSeq (tFor (iRng1 (tCons (tVar 0) tNil)) (gName 9) (tIfS (L2.tB (tDNotIn (tOp (rIx K) (tVar 2) (tVar 9)) (tVar 10))) (tAsg (tTup (tCons (tCB rLenDK (tCons (tVar 10) tNil)) (tCons (tOp (rIx K) (tVar 3) (tVar 9)) tNil))) (gSub (tVar 10) (tOp (rIx K) (tVar 2) (tVar 9)) rSetD)) tNext))
    (tSeq (tAsg (tLc (iList K (tVar 2)) (gName 12) tYes (tOp (rIx K) (tDGet (tVar 10) (tVar 12)) (tC (.int 0))) [12]) (gName 11))
    (tRet (tTup (tCons (tVar 11) (tCons (tLc (RZ.iZipA K (tCons (tVar 3) (tCons (tVar 2) tNil))) (gTup K 2 (gCons (gName 13) (gCons (gName 12) gNil))) tYes (tOp rModN (tOp rAddI (tVar 13) (tOp (rIx K) (tDGet (tVar 10) (tVar 12)) (tC (.int 1)))) (tC (.int 2))) [13, 12]) tNil))))))))))
theorem dv__law_groups {f : Addr} {cdv : Value} {A : Around} {outer : List Env} {s : Shared} {H : Hp} {E : XK} (hr : Room 0 (A.deeper (envOfC "_law_groups" (defScope s__law_groups) s.heap.objs.size f cdv))) (B : ∀ x, x ∈ blt → mg x = none) (cs : Csts mg) :
    PSs (cxOf CX0 Pg w K mg base ["_law_many", "_law_wishes_here", "_law_groups_here", "_law_marks", "_law_one", "_law_other", "_law_apart", "_law_turn", "_law_gone", "_law_point", "_law_first", "_law_told", "_law_group", "_law_mark"] "_law_groups" (defScope s__law_groups) f cdv A outer s H E).nox (defBody s__law_groups) (t__law_groups K) :=
  (pss_cons (ps_set (i := 2) sc__law_groups.nd rfl (by first | exact .inl rfl | exact .inr rfl) (pe_listRg rfl (by rfl) (B "list" (by decide)) (prg_1 (by rfl) (B "range" (by decide)) (pv 0))))
      (pss_cons (ps_set (i := 3) sc__law_groups.nd rfl (by first | exact .inl rfl | exact .inr rfl) (pe_op op_rep (pe_lst (pa_cons pe_int pa_nil)) (pv 0)))
      (pss_cons (ps_for PassesOwn.never rfl (pi_tup (pv 1)) (pg_tup rfl (pgs_cons (pg_name (i := 4) sc__law_groups.nd rfl (by first | exact .inl rfl | exact .inr rfl)) (pgs_cons (pg_name (i := 5) sc__law_groups.nd rfl (by first | exact .inl rfl | exact .inr rfl)) (pgs_cons (pg_name (i := 6) sc__law_groups.nd rfl (by first | exact .inl rfl | exact .inr rfl)) pgs_nil)))) (pss_cons (ps_set (i := 7) sc__law_groups.nd rfl (by first | exact .inl rfl | exact .inr rfl) (pe_op op_modN (pe_op op_add (pe_op op_add (pe_ix ix_seq (pv 3) (pv 4) (fun _ _ => rfl)) (pe_ix ix_seq (pv 3) (pv 5) (fun _ _ => rfl))) (pv 6)) pe_int))
      (pss_cons (ps_if (PW.pt (pw_and (pt_cmpR (op_eqD hr.units) (pe_ix ix_seq (pv 2) (pv 4) (fun _ _ => rfl)) (pe_ix ix_seq (pv 2) (pv 5) (fun _ _ => rfl)) (nomark _)) (pw_and1 (pt_cmpR (op_eqD hr.units) (pv 7) pe_int (nomark _))))) (pss_one (ps_ret pe_non)) pss_nil)
      (pss_one (ps_if (pt_cmpR (op_neD hr.units) (pe_ix ix_seq (pv 2) (pv 4) (fun _ _ => rfl)) (pe_ix ix_seq (pv 2) (pv 5) (fun _ _ => rfl)) (nomark _)) (pss_cons (ps_set (i := 8) sc__law_groups.nd rfl (by first | exact .inl rfl | exact .inr rfl) (pe_ix ix_seq (pv 2) (pv 5) (fun _ _ => rfl)))
      (pss_one (ps_for PassesOwn.never rfl (pi_range1 (by rfl) (B "range" (by decide)) (pa_cons (pv 0) pa_nil)) (pg_name (i := 9) sc__law_groups.nd rfl (by first | exact .inl rfl | exact .inr rfl)) (pss_one (ps_if (pt_cmpR (op_eqD hr.units) (pe_ix ix_seq (pv 2) (pv 9) (fun _ _ => rfl)) (pv 8) (nomark _)) (pss_cons (ps_asg (pe_ix ix_seq (pv 2) (pv 4) (fun _ _ => rfl)) (pg_sub (pv 2) (pv 9) set_list))
      (pss_one (ps_asg (pe_op op_modN (pe_op op_add (pe_ix ix_seq (pv 3) (pv 9) (fun _ _ => rfl)) (pv 7)) pe_int) (pg_sub (pv 3) (pv 9) set_list)))) pss_nil))))) pss_nil)))))
      (pss_cons (ps_set (i := 10) sc__law_groups.nd rfl (by first | exact .inl rfl | exact .inr rfl) pe_dnewK)
      (pss_cons (ps_for PassesOwn.never rfl (pi_range1 (by rfl) (B "range" (by decide)) (pa_cons (pv 0) pa_nil)) (pg_name (i := 9) sc__law_groups.nd rfl (by first | exact .inl rfl | exact .inr rfl)) (pss_one (ps_if (pt_cmp (pc_dnotin (u1 hr) (pe_ix ix_seq (pv 2) (pv 9) (fun _ _ => rfl)) (pv 10))) (pss_one (ps_asg (pe_tup (pa_cons (pe_callB call_lenD (by rfl) (B "len" (by decide)) (by decide +kernel) (pa_cons (pv 10) pa_nil)) (pa_cons (pe_ix ix_seq (pv 3) (pv 9) (fun _ _ => rfl)) pa_nil))) (pg_sub (pv 10) (pe_ix ix_seq (pv 2) (pv 9) (fun _ _ => rfl)) (set_dict (u1 hr))))) pss_nil)))
      (pss_cons (ps_setLc (i := 11) (own := [("_law_group", 12)]) (g := (gName 12)) (tt := tYes) rfl sc__law_groups.nd rfl rfl (sw_true rfl rfl rfl (by decide +kernel)) (pi_list (pv 2)) (blkOk_by (own := [("_law_group", 12)]) (N := ["_law_many", "_law_wishes_here", "_law_groups_here", "_law_marks", "_law_one", "_law_other", "_law_apart", "_law_turn", "_law_gone", "_law_point", "_law_first", "_law_told", "_law_group", "_law_mark"]) (sc := defScope s__law_groups) (by decide +kernel)) (fun _ _ _ _ _ => (pg_name (i := 12) sc__law_groups.nd rfl (by first | exact .inl rfl | exact .inr rfl))) (fun _ _ _ _ _ => pts_nil) (fun _ _ _ _ _ => (pe_ix ix_seq (pe_dget (u1 hr) (pv 10) (pv 12) (fun _ _ => rfl)) pe_int (fun _ _ => rfl))))
      (pss_one (ps_ret (pe_tup (pa_cons (pv 11) (pa_cons (pe_lc (own := [("_law_mark", 13), ("_law_group", 12)]) (g := (gTup K 2 (gCons (gName 13) (gCons (gName 12) gNil)))) (tt := tYes) rfl sc__law_groups.nd (RZ.pi_zipA (by rfl) (B "zip" (by decide)) (pa_cons (pv 3) (pa_cons (pv 2) pa_nil))) (blkOk_by (own := [("_law_mark", 13), ("_law_group", 12)]) (N := ["_law_many", "_law_wishes_here", "_law_groups_here", "_law_marks", "_law_one", "_law_other", "_law_apart", "_law_turn", "_law_gone", "_law_point", "_law_first", "_law_told", "_law_group", "_law_mark"]) (sc := defScope s__law_groups) (by decide +kernel)) (fun _ _ _ _ _ => (pg_tup rfl (pgs_cons (pg_name (i := 13) sc__law_groups.nd rfl (by first | exact .inl rfl | exact .inr rfl)) (pgs_cons (pg_name (i := 12) sc__law_groups.nd rfl (by first | exact .inl rfl | exact .inr rfl)) pgs_nil)))) (fun _ _ _ _ _ => pts_nil) (fun _ _ _ _ _ => (pe_op op_modN (pe_op op_add (pv 13) (pe_ix ix_seq (pe_dget (u1 hr) (pv 10) (pv 12) (fun _ _ => rfl)) pe_int (fun _ _ => rfl))) pe_int))) pa_nil)))))))))))
def t__law_is_int (K : PySem.W.Frag) : TS := (tRet (tAndV (tCB (rIsi K) (tCons (tVar 0) (tCons (tC (.ty "int")) tNil))) (tNotV (tCB (rIsi K) (tCons (tVar 0) (tCons (tC (.ty "bool")) tNil))))))
theorem dv__law_is_int {f : Addr} {cdv : Value} {A : Around} {outer : List Env} {s : Shared} {H : Hp} {E : XK} (hr : Room 0 (A.deeper (envOfC "_law_is_int" (defScope s__law_is_int) s.heap.objs.size f cdv))) (B : ∀ x, x ∈ blt → mg x = none) (cs : Csts mg) :
    PSs (cxOf CX0 Pg w K mg base ["_law_thing_here"] "_law_is_int" (defScope s__law_is_int) f cdv A outer s H E).nox (defBody s__law_is_int) (t__law_is_int K) :=
  (pss_one (ps_ret (pe_and (pe_callB call_isi (by rfl) (B "isinstance" (by decide)) (by decide +kernel) (pa_cons (pv 0) (pa_cons (pe_bltn (by rfl) (B "int" (by decide)) (by decide +kernel) rfl) pa_nil))) (pe_one (pe_not (pe_callB call_isi (by rfl) (B "isinstance" (by decide)) (by decide +kernel) (pa_cons (pv 0) (pa_cons (pe_bltn (by rfl) (B "bool" (by decide)) (by decide +kernel) rfl) pa_nil))))))))
def t__law_are_numbers (K : PySem.W.Frag) (Φ__law_is_int : Ph) : TS := (tSeq (tIfS (tOr (tNot (L2.tB (tCB (rIsi K) (tCons (tVar 0) (tCons (tC (.ty "tuple")) tNil))))) (tTest (tOp (rEqD K) (tVar 0) (tTup tNil)))) (tRet (tC (.bl false))) tNext)
    (tSeq (tAsg (tUn rNegI (tC (.int 1))) (gName 2))
    (tSeq (tFor (iTup K (tVar 0)) (gName 3) (tSeq (tIfS (tOr (tNot (L2.tB (tCall (SpD K Φ__law_is_int) [] E0 (tCons (tVar 3) tNil)))) (tNot (tTest (tChain rLtI rLtI (tVar 2) (tVar 3) (tVar 1))))) (tRet (tC (.bl false))) tNext)
    (tAsg (tVar 3) (gName 2))))
    (tRet (tC (.bl true))))))
theorem dv__law_are_numbers {f : Addr} {cdv : Value} {A : Around} {outer : List Env} {s : Shared} {H : Hp} {E : XK} (hr : Room 1 (A.deeper (envOfC "_law_are_numbers" (defScope s__law_are_numbers) s.heap.objs.size f cdv))) (B : ∀ x, x ∈ blt → mg x = none) (cs : Csts mg) {Φ__law_is_int : Ph} (g__law_is_int : Kn Pg w K mg base "_law_is_int" 1 ["_law_thing_here"] Φ__law_is_int) :
    PSs (cxOf CX0 Pg w K mg base ["_law_thing_here", "_law_many", "_law_last", "_law_number"] "_law_are_numbers" (defScope s__law_are_numbers) f cdv A outer s H E).nox (defBody s__law_are_numbers) (t__law_are_numbers K Φ__law_is_int) :=
  (pss_cons (ps_if (PW.pt (pw_or (pt_not (pt_val (pe_callB call_isi (by rfl) (B "isinstance" (by decide)) (by decide +kernel) (pa_cons (pv 0) (pa_cons (pe_bltn (by rfl) (B "tuple" (by decide)) (by decide +kernel) rfl) pa_nil))))) (pw_or1 (pt_cmpR (op_eqD hr.units) (pv 0) (pe_tup pa_nil) (nomark _))))) (pss_one (ps_ret pe_bl)) pss_nil)
      (pss_cons (ps_set (i := 2) sc__law_are_numbers.nd rfl (by first | exact .inl rfl | exact .inr rfl) (pe_un un_neg pe_int))
      (pss_cons (ps_for PassesOwn.never rfl (pi_tup (pv 0)) (pg_name (i := 3) sc__law_are_numbers.nd rfl (by first | exact .inl rfl | exact .inr rfl)) (pss_cons (ps_if (PW.pt (pw_or (pt_not (pt_val (pe_callD g__law_is_int (hr.mono (by decide)) (by rfl) (pa_cons (pv 3) pa_nil)))) (pw_or1 (pt_not (pt_chain op_lt op_lt (pv 2) (pv 3) (pv 1)))))) (pss_one (ps_ret pe_bl)) pss_nil)
      (pss_one (ps_set (i := 2) sc__law_are_numbers.nd rfl (by first | exact .inl rfl | exact .inr rfl) (pv 3)))))
      (pss_one (ps_ret pe_bl)))))
def t__law_is_odd_ring (K : PySem.W.Frag) : TS := (tSeq (tAsg (tOp rRep (tLst (tCons (tC (.int 0)) tNil)) (tOp (rIx K) (tVar 0) (tC (.int 0)))) (gName 4))
    (tSeq (tAsg (tC (.int 0)) (gName 5))
    (tSeq (tFor (iTup K (tVar 3)) (gName 6) (tSeq (tAsg (tOp (rIx K) (tOp (rIx K) (tVar 0) (tC (.int 1))) (tVar 6)) (gTup K 3 (gCons (gName 7) (gCons (gName 8) (gCons (gName 9) gNil)))))
    (tSeq (tAsg (tOp rAddI (tOp (rIx K) (tVar 4) (tOp (rIx K) (tVar 1) (tVar 7))) (tC (.int 1))) (gSub (tVar 4) (tOp (rIx K) (tVar 1) (tVar 7)) rSetL))
    (tSeq (tAsg (tOp rAddI (tOp (rIx K) (tVar 4) (tOp (rIx K) (tVar 1) (tVar 8))) (tC (.int 1))) (gSub (tVar 4) (tOp (rIx K) (tVar 1) (tVar 8)) rSetL))
    (tAsg (tOp rAddI (tOp rAddI (tVar 5) (tCB rInt1 (tCons (tOp rGtI (tOp (rIx K) (tVar 9) (tC (.int 0))) (tC (.int 0))) tNil))) (tCB rInt1 (tCons (tOp (rNeD K) (tOp (rIx K) (tVar 2) (tVar 7)) (tOp (rIx K) (tVar 2) (tVar 8))) tNil))) (gName 5))))))
    (tRet (tAndV (tOp (rEqD K) (tLc (iList K (tVar 4)) (gName 10) (tTest (tOp (rEqD K) (tOp rModN (tVar 10) (tC (.int 2))) (tC (.int 1)))) (tVar 10) [10]) (tLst tNil)) (tOp (rEqD K) (tOp rModN (tVar 5) (tC (.int 2))) (tC (.int 1))))))))
theorem dv__law_is_odd_ring {f : Addr} {cdv : Value} {A : Around} {outer : List Env} {s : Shared} {H : Hp} {E : XK} (hr : Room 0 (A.deeper (envOfC "_law_is_odd_ring" (defScope s__law_is_odd_ring) s.heap.objs.size f cdv))) (B : ∀ x, x ∈ blt → mg x = none) (cs : Csts mg) :
    PSs (cxOf CX0 Pg w K mg base ["_law_web_here", "_law_groups_here", "_law_marks", "_law_ring", "_law_ends", "_law_odd", "_law_tie", "_law_one", "_law_other", "_law_weight_here", "_law_many"] "_law_is_odd_ring" (defScope s__law_is_odd_ring) f cdv A outer s H E).nox (defBody s__law_is_odd_ring) (t__law_is_odd_ring K) :=
  (pss_cons (ps_set (i := 4) sc__law_is_odd_ring.nd rfl (by first | exact .inl rfl | exact .inr rfl) (pe_op op_rep (pe_lst (pa_cons pe_int pa_nil)) (pe_ix ix_seq (pv 0) pe_int (fun _ _ => rfl))))
      (pss_cons (ps_set (i := 5) sc__law_is_odd_ring.nd rfl (by first | exact .inl rfl | exact .inr rfl) pe_int)
      (pss_cons (ps_for PassesOwn.never rfl (pi_tup (pv 3)) (pg_name (i := 6) sc__law_is_odd_ring.nd rfl (by first | exact .inl rfl | exact .inr rfl)) (pss_cons (ps_asg (pe_ix ix_seq (pe_ix ix_seq (pv 0) pe_int (fun _ _ => rfl)) (pv 6) (fun _ _ => rfl)) (pg_tup rfl (pgs_cons (pg_name (i := 7) sc__law_is_odd_ring.nd rfl (by first | exact .inl rfl | exact .inr rfl)) (pgs_cons (pg_name (i := 8) sc__law_is_odd_ring.nd rfl (by first | exact .inl rfl | exact .inr rfl)) (pgs_cons (pg_name (i := 9) sc__law_is_odd_ring.nd rfl (by first | exact .inl rfl | exact .inr rfl)) pgs_nil)))))
      (pss_cons (ps_asg (pe_op op_add (pe_ix ix_seq (pv 4) (pe_ix ix_seq (pv 1) (pv 7) (fun _ _ => rfl)) (fun _ _ => rfl)) pe_int) (pg_sub (pv 4) (pe_ix ix_seq (pv 1) (pv 7) (fun _ _ => rfl)) set_list))
      (pss_cons (ps_asg (pe_op op_add (pe_ix ix_seq (pv 4) (pe_ix ix_seq (pv 1) (pv 8) (fun _ _ => rfl)) (fun _ _ => rfl)) pe_int) (pg_sub (pv 4) (pe_ix ix_seq (pv 1) (pv 8) (fun _ _ => rfl)) set_list))
      (pss_one (ps_set (i := 5) sc__law_is_odd_ring.nd rfl (by first | exact .inl rfl | exact .inr rfl) (pe_op op_add (pe_op op_add (pv 5) (pe_callTy call_int1 (by rfl) (B "int" (by decide)) (by decide +kernel) (pa_cons (pe_cmpR op_gt (pe_ix ix_seq (pv 9) pe_int (fun _ _ => rfl)) pe_int (nomark _)) pa_nil))) (pe_callTy call_int1 (by rfl) (B "int" (by decide)) (by decide +kernel) (pa_cons (pe_cmpR (op_neD hr.units) (pe_ix ix_seq (pv 2) (pv 7) (fun _ _ => rfl)) (pe_ix ix_seq (pv 2) (pv 8) (fun _ _ => rfl)) (nomark _)) pa_nil)))))))))
      (pss_one (ps_ret (pe_and (pe_cmpR (op_eqD hr.units) (pe_lc (own := [("_law_many", 10)]) (g := (gName 10)) (tt := (tTest (tOp (rEqD K) (tOp rModN (tVar 10) (tC (.int 2))) (tC (.int 1))))) rfl sc__law_is_odd_ring.nd (pi_list (pv 4)) (blkOk_by (own := [("_law_many", 10)]) (N := ["_law_web_here", "_law_groups_here", "_law_marks", "_law_ring", "_law_ends", "_law_odd", "_law_tie", "_law_one", "_law_other", "_law_weight_here", "_law_many"]) (sc := defScope s__law_is_odd_ring) (by decide +kernel)) (fun _ _ _ _ _ => (pg_name (i := 10) sc__law_is_odd_ring.nd rfl (by first | exact .inl rfl | exact .inr rfl))) (fun _ _ _ _ _ => (pts_one (pt_cmpR (op_eqD hr.units) (pe_op op_modN (pv 10) pe_int) pe_int (nomark _)))) (fun _ _ _ _ _ => (pv 10))) (pe_lst pa_nil) (nomark _)) (pe_one (pe_cmpR (op_eqD hr.units) (pe_op op_modN (pv 5) pe_int) pe_int (nomark _)))))))))
def t__law_all_rings (K : PySem.W.Frag) (Φ__law_is_odd_ring : Ph) : TS := (tSeq (tAsg (tLst (tCons (tTup tNil) tNil)) (gName 3))
    (tSeq (tFor (iRng1 (tCons (tCB (rLenQ K) (tCons (tOp (rIx K) (tVar 0) (tC (.int 1))) tNil)) tNil)) (gName 4) (tAsg (tOp rCat (tVar 3) (tLc (iList K (tVar 3)) (gName 5) tYes (tOp (rCatA K) (tVar 5) (tTup (tCons (tVar 4) tNil))) [5])) (gName 3)))
    (tRet (tLc (iList K (tSl (rSlL K) (tVar 3) (tPart (tC (.int 1))) tNoPart)) (gName 5) (L2.tB (tCall (SpD K Φ__law_is_odd_ring) [] E0 (tCons (tVar 0) (tCons (tVar 1) (tCons (tVar 2) (tCons (tVar 5) tNil)))))) (tVar 5) [5]))))
theorem dv__law_all_rings {f : Addr} {cdv : Value} {A : Around} {outer : List Env} {s : Shared} {H : Hp} {E : XK} (hr : Room 1 (A.deeper (envOfC "_law_all_rings" (defScope s__law_all_rings) s.heap.objs.size f cdv))) (B : ∀ x, x ∈ blt → mg x = none) (cs : Csts mg) {Φ__law_is_odd_ring : Ph} (g__law_is_odd_ring : Kn Pg w K mg base "_law_is_odd_ring" 1 ["_law_web_here", "_law_groups_here", "_law_marks", "_law_ring"] Φ__law_is_odd_ring) :
    PSs (cxOf CX0 Pg w K mg base ["_law_web_here", "_law_groups_here", "_law_marks", "_law_some", "_law_tie", "_law_ring"] "_law_all_rings" (defScope s__law_all_rings) f cdv A outer s H E).nox (defBody s__law_all_rings) (t__law_all_rings K Φ__law_is_odd_ring) :=
  (pss_cons (ps_set (i := 3) sc__law_all_rings.nd rfl (by first | exact .inl rfl | exact .inr rfl) (pe_lst (pa_cons (pe_tup pa_nil) pa_nil)))
      (pss_cons (ps_for PassesOwn.never rfl (pi_range1 (by rfl) (B "range" (by decide)) (pa_cons (pe_callB call_len_seq (by rfl) (B "len" (by decide)) (by decide +kernel) (pa_cons (pe_ix ix_seq (pv 0) pe_int (fun _ _ => rfl)) pa_nil)) pa_nil)) (pg_name (i := 4) sc__law_all_rings.nd rfl (by first | exact .inl rfl | exact .inr rfl)) (pss_one (ps_set (i := 3) sc__law_all_rings.nd rfl (by first | exact .inl rfl | exact .inr rfl) (pe_op op_cat (pv 3) (pe_lc (own := [("_law_ring", 5)]) (g := (gName 5)) (tt := tYes) rfl sc__law_all_rings.nd (pi_list (pv 3)) (blkOk_by (own := [("_law_ring", 5)]) (N := ["_law_web_here", "_law_groups_here", "_law_marks", "_law_some", "_law_tie", "_law_ring"]) (sc := defScope s__law_all_rings) (by decide +kernel)) (fun _ _ _ _ _ => (pg_name (i := 5) sc__law_all_rings.nd rfl (by first | exact .inl rfl | exact .inr rfl))) (fun _ _ _ _ _ => pts_nil) (fun _ _ _ _ _ => (pe_op op_catA (pv 5) (pe_tup (pa_cons (pv 4) pa_nil)))))))))
      (pss_one (ps_ret (pe_lc (own := [("_law_ring", 5)]) (g := (gName 5)) (tt := (L2.tB (tCall (SpD K Φ__law_is_odd_ring) [] E0 (tCons (tVar 0) (tCons (tVar 1) (tCons (tVar 2) (tCons (tVar 5) tNil))))))) rfl sc__law_all_rings.nd (pi_list (pe_slice sl_list (pv 3) (po_some pe_int) po_none)) (blkOk_by (own := [("_law_ring", 5)]) (N := ["_law_web_here", "_law_groups_here", "_law_marks", "_law_some", "_law_tie", "_law_ring"]) (sc := defScope s__law_all_rings) (by decide +kernel)) (fun _ _ _ _ _ => (pg_name (i := 5) sc__law_all_rings.nd rfl (by first | exact .inl rfl | exact .inr rfl))) (fun _ _ _ _ _ => (pts_one (pt_val (pe_callD g__law_is_odd_ring (hr.mono (by decide)) (by rfl) (pa_cons (pv 0) (pa_cons (pv 1) (pa_cons (pv 2) (pa_cons (pv 5) pa_nil)))))))) (fun _ _ _ _ _ => (pv 5)))))))
def t__law_one_class (K : PySem.W.Frag) (C_CutError C_NoWeb C_NoSide C_NoText C_NoWishes C_NoTurns C_NotFlat C_NoRing C_NoPaper C_NoShare C_NoTie C_NoWeight C_NoDeed C_TooGreat : Addr) : TS := (tSeq (tAsg (tLst (tCons (tCB (rIsH K) (tCons (tVar 0) (tCons (tC (.ref C_NoWeb)) tNil))) (tCons (tCB (rIsH K) (tCons (tVar 0) (tCons (tC (.ref C_NoSide)) tNil))) (tCons (tCB (rIsH K) (tCons (tVar 0) (tCons (tC (.ref C_NoText)) tNil))) tNil)))) (gName 2))
    (tSeq (tAsg (tLst (tCons (tCB (rIsH K) (tCons (tVar 0) (tCons (tC (.ref C_NoWishes)) tNil))) (tCons (tCB (rIsH K) (tCons (tVar 0) (tCons (tC (.ref C_NoTurns)) tNil))) (tCons (tCB (rIsH K) (tCons (tVar 0) (tCons (tC (.ref C_NotFlat)) tNil))) tNil)))) (gName 3))
    (tSeq (tAsg (tLst (tCons (tCB (rIsH K) (tCons (tVar 0) (tCons (tC (.ref C_NoRing)) tNil))) (tCons (tCB (rIsH K) (tCons (tVar 0) (tCons (tC (.ref C_NoPaper)) tNil))) (tCons (tCB (rIsH K) (tCons (tVar 0) (tCons (tC (.ref C_NoShare)) tNil))) tNil)))) (gName 4))
    (tSeq (tAsg (tLst (tCons (tCB (rIsH K) (tCons (tVar 0) (tCons (tC (.ref C_NoTie)) tNil))) (tCons (tCB (rIsH K) (tCons (tVar 0) (tCons (tC (.ref C_NoWeight)) tNil))) (tCons (tCB (rIsH K) (tCons (tVar 0) (tCons (tC (.ref C_NoDeed)) tNil))) tNil)))) (gName 5))
    (tSeq (tAsg (tOp rCat (tOp rCat (tOp rCat (tOp rCat (tVar 2) (tVar 3)) (tVar 4)) (tVar 5)) (tLst (tCons (tCB (rIsH K) (tCons (tVar 0) (tCons (tC (.ref C_TooGreat)) tNil))) tNil))) (gName 6))
    (tRet (tAndV (tOp (rEqD K) (tVar 6) (tLc (iRng1 (tCons (tC (.int 13)) tNil)) (gName 7) tYes (tOp (rEqD K) (tVar 7) (tVar 1)) [7])) (tCB (rIsH K) (tCons (tVar 0) (tCons (tC (.ty "ValueError")) tNil))))))))))
theorem dv__law_one_class {f : Addr} {cdv : Value} {A : Around} {outer : List Env} {s : Shared} {H : Hp} {E : XK} (hr : Room 0 (A.deeper (envOfC "_law_one_class" (defScope s__law_one_class) s.heap.objs.size f cdv))) (B : ∀ x, x ∈ blt → mg x = none) (cs : Csts mg) {C_CutError C_NoWeb C_NoSide C_NoText C_NoWishes C_NoTurns C_NotFlat C_NoRing C_NoPaper C_NoShare C_NoTie C_NoWeight C_NoDeed C_TooGreat : Addr} (cl : Cls K mg C_CutError C_NoWeb C_NoSide C_NoText C_NoWishes C_NoTurns C_NotFlat C_NoRing C_NoPaper C_NoShare C_NoTie C_NoWeight C_NoDeed C_TooGreat) :
    PSs (cxOf CX0 Pg w K mg base ["_law_caught", "_law_at", "_law_one", "_law_two", "_law_three", "_law_four", "_law_found", "_law_k"] "_law_one_class" (defScope s__law_one_class) f cdv A outer s H E).nox (defBody s__law_one_class) (t__law_one_class K C_CutError C_NoWeb C_NoSide C_NoText C_NoWishes C_NoTurns C_NotFlat C_NoRing C_NoPaper C_NoShare C_NoTie C_NoWeight C_NoDeed C_TooGreat) :=
  (pss_cons (ps_set (i := 2) sc__law_one_class.nd rfl (by first | exact .inl rfl | exact .inr rfl) (pe_lst (pa_cons (pe_callB call_isH (by rfl) (B "isinstance" (by decide)) (by decide +kernel) (pa_cons (pv 0) (pa_cons (pe_glob rfl cl.g_NoWeb rfl) pa_nil))) (pa_cons (pe_callB call_isH (by rfl) (B "isinstance" (by decide)) (by decide +kernel) (pa_cons (pv 0) (pa_cons (pe_glob rfl cl.g_NoSide rfl) pa_nil))) (pa_cons (pe_callB call_isH (by rfl) (B "isinstance" (by decide)) (by decide +kernel) (pa_cons (pv 0) (pa_cons (pe_glob rfl cl.g_NoText rfl) pa_nil))) pa_nil)))))
      (pss_cons (ps_set (i := 3) sc__law_one_class.nd rfl (by first | exact .inl rfl | exact .inr rfl) (pe_lst (pa_cons (pe_callB call_isH (by rfl) (B "isinstance" (by decide)) (by decide +kernel) (pa_cons (pv 0) (pa_cons (pe_glob rfl cl.g_NoWishes rfl) pa_nil))) (pa_cons (pe_callB call_isH (by rfl) (B "isinstance" (by decide)) (by decide +kernel) (pa_cons (pv 0) (pa_cons (pe_glob rfl cl.g_NoTurns rfl) pa_nil))) (pa_cons (pe_callB call_isH (by rfl) (B "isinstance" (by decide)) (by decide +kernel) (pa_cons (pv 0) (pa_cons (pe_glob rfl cl.g_NotFlat rfl) pa_nil))) pa_nil)))))
      (pss_cons (ps_set (i := 4) sc__law_one_class.nd rfl (by first | exact .inl rfl | exact .inr rfl) (pe_lst (pa_cons (pe_callB call_isH (by rfl) (B "isinstance" (by decide)) (by decide +kernel) (pa_cons (pv 0) (pa_cons (pe_glob rfl cl.g_NoRing rfl) pa_nil))) (pa_cons (pe_callB call_isH (by rfl) (B "isinstance" (by decide)) (by decide +kernel) (pa_cons (pv 0) (pa_cons (pe_glob rfl cl.g_NoPaper rfl) pa_nil))) (pa_cons (pe_callB call_isH (by rfl) (B "isinstance" (by decide)) (by decide +kernel) (pa_cons (pv 0) (pa_cons (pe_glob rfl cl.g_NoShare rfl) pa_nil))) pa_nil)))))
      (pss_cons (ps_set (i := 5) sc__law_one_class.nd rfl (by first | exact .inl rfl | exact .inr rfl) (pe_lst (pa_cons (pe_callB call_isH (by rfl) (B "isinstance" (by decide)) (by decide +kernel) (pa_cons (pv 0) (pa_cons (pe_glob rfl cl.g_NoTie rfl) pa_nil))) (pa_cons (pe_callB call_isH (by rfl) (B "isinstance" (by decide)) (by decide +kernel) (pa_cons (pv 0) (pa_cons (pe_glob rfl cl.g_NoWeight rfl) pa_nil))) (pa_cons (pe_callB call_isH (by rfl) (B "isinstance" (by decide)) (by decide +kernel) (pa_cons (pv 0) (pa_cons (pe_glob rfl cl.g_NoDeed rfl) pa_nil))) pa_nil)))))
      (pss_cons (ps_set (i := 6) sc__law_one_class.nd rfl (by first | exact .inl rfl | exact .inr rfl) (pe_op op_cat (pe_op op_cat (pe_op op_cat (pe_op op_cat (pv 2) (pv 3)) (pv 4)) (pv 5)) (pe_lst (pa_cons (pe_callB call_isH (by rfl) (B "isinstance" (by decide)) (by decide +kernel) (pa_cons (pv 0) (pa_cons (pe_glob rfl cl.g_TooGreat rfl) pa_nil))) pa_nil))))
      (pss_one (ps_ret (pe_and (pe_cmpR (op_eqD hr.units) (pv 6) (pe_lc (own := [("_law_k", 7)]) (g := (gName 7)) (tt := tYes) rfl sc__law_one_class.nd (pi_range1 (by rfl) (B "range" (by decide)) (pa_cons pe_int pa_nil)) (blkOk_by (own := [("_law_k", 7)]) (N := ["_law_caught", "_law_at", "_law_one", "_law_two", "_law_three", "_law_four", "_law_found", "_law_k"]) (sc := defScope s__law_one_class) (by decide +kernel)) (fun _ _ _ _ _ => (pg_name (i := 7) sc__law_one_class.nd rfl (by first | exact .inl rfl | exact .inr rfl))) (fun _ _ _ _ _ => pts_nil) (fun _ _ _ _ _ => (pe_cmpR (op_eqD hr.units) (pv 7) (pv 1) (nomark _)))) (nomark _)) (pe_one (pe_callB call_isH (by rfl) (B "isinstance" (by decide)) (by decide +kernel) (pa_cons (pv 0) (pa_cons (pe_bltn (by rfl) (B "ValueError" (by decide)) (by decide +kernel) rfl) pa_nil))))))))))))
def t__law_refused (K : PySem.W.Frag) (C_CutError C_NoWeb C_NoSide C_NoText C_NoWishes C_NoTurns C_NotFlat C_NoRing C_NoPaper C_NoShare C_NoTie C_NoWeight C_NoDeed C_TooGreat : Addr) (Φ_lightest : PhX) (Φ__law_one_class : Ph) : TS := (tSeq (tAsg (tC .non) (gName 3))
    (tSeq (tTryH K C_NoRing C_CutError 4 3 (fun W => (tCallS (SpX K C_NoRing Φ_lightest) (WE W) (tCons (tVar 0) (tCons (tVar 1) (tCons (tVar 2) tNil))))))
    (tRet (tCall (SpD K Φ__law_one_class) [] E0 (tCons (tVar 3) (tCons (tC (.int 6)) tNil))))))
theorem dv__law_refused {f : Addr} {cdv : Value} {A : Around} {outer : List Env} {s : Shared} {H : Hp} {E : XK} (hr : Room 7 (A.deeper (envOfC "_law_refused" (defScope s__law_refused) s.heap.objs.size f cdv))) (B : ∀ x, x ∈ blt → mg x = none) (cs : Csts mg) {C_CutError C_NoWeb C_NoSide C_NoText C_NoWishes C_NoTurns C_NotFlat C_NoRing C_NoPaper C_NoShare C_NoTie C_NoWeight C_NoDeed C_TooGreat : Addr} (cl : Cls K mg C_CutError C_NoWeb C_NoSide C_NoText C_NoWishes C_NoTurns C_NotFlat C_NoRing C_NoPaper C_NoShare C_NoTie C_NoWeight C_NoDeed C_TooGreat) {Φ_lightest : PhX} {Φ__law_one_class : Ph} (g_lightest : KnX Pg w K mg base "lightest" 7 ["web", "wishes", "ring"] C_NoRing Φ_lightest) (g__law_one_class : Kn Pg w K mg base "_law_one_class" 1 ["_law_caught", "_law_at"] Φ__law_one_class) :
    PSs (cxOf CX0 Pg w K mg base ["_law_web_here", "_law_wishes_here", "_law_thing_here", "_law_caught", "error"] "_law_refused" (defScope s__law_refused) f cdv A outer s H E).nox (defBody s__law_refused) (t__law_refused K C_CutError C_NoWeb C_NoSide C_NoText C_NoWishes C_NoTurns C_NotFlat C_NoRing C_NoPaper C_NoShare C_NoTie C_NoWeight C_NoDeed C_TooGreat Φ_lightest Φ__law_one_class) :=
  (pss_cons (ps_set (i := 3) sc__law_refused.nd rfl (by first | exact .inl rfl | exact .inr rfl) pe_non)
      (pss_cons (ps_try_hold (i := 4) (C := C_NoRing) (tb := fun W => tDrop (tCallS (SpX K C_NoRing Φ_lightest) (WE W) (tCons (tVar 0) (tCons (tVar 1) (tCons (tVar 2) tNil))))) (ts := fun _ => (tAsg (tVar 4) (gName 3))) rfl rfl rfl sc__law_refused.nd rfl rfl ⟨rfl, by decide, .inl cl.g_CutError⟩ (fun W pn xe tk _ => pss_one (ps_expr (pe_callX g_lightest (hr.mono (by decide)) (by rfl) tk (pa_cons (pv 0) (pa_cons (pv 1) (pa_cons (pv 2) pa_nil)))))) (fun a err ps => (pss_one (ps_set (i := 3) sc__law_refused.nd rfl (by first | exact .inl rfl | exact .inr rfl) (pv 4)))))
      (pss_one (ps_ret (pe_callD g__law_one_class (hr.mono (by decide)) (by rfl) (pa_cons (pv 3) (pa_cons pe_int pa_nil)))))))
def t__law_paper (K : PySem.W.Frag) (Φ__law_below : Ph) : TS := (tSeq (tAsg (tC .non) (gName 2))
    (tSeq (tFor (iTup K (tVar 1)) (gName 3) (tSeq (tAsg (tOp (rIx K) (tOp (rIx K) (tOp (rIx K) (tVar 0) (tC (.int 1))) (tVar 3)) (tC (.int 2))) (gName 4))
    (tSeq (tAsg (tTup (tCons (tCB rAbs (tCons (tOp (rIx K) (tVar 4) (tC (.int 0))) tNil)) (tCons (tOp (rIx K) (tVar 4) (tC (.int 1))) tNil))) (gName 5))
    (tIfS (tOr (tTest (tOp rIsNn (tVar 2) (tC .non))) (L2.tB (tCall (SpD K Φ__law_below) [] E0 (tCons (tVar 5) (tCons (tVar 2) tNil))))) (tAsg (tVar 5) (gName 2)) tNext))))
    (tSeq (tIfS (tTest (tOp (rEqD K) (tOp (rIx K) (tVar 2) (tC (.int 0))) (tC (.int 0)))) (tRet (tTup (tCons (tC (.str "rings")) (tCons (tTup tNil) tNil)))) tNext)
    (tRet (tTup (tCons (tC (.str "rings")) (tCons (tTup (tCons (tTup (tCons (tVar 1) (tCons (tVar 2) tNil))) tNil)) tNil)))))))
theorem dv__law_paper {f : Addr} {cdv : Value} {A : Around} {outer : List Env} {s : Shared} {H : Hp} {E : XK} (hr : Room 1 (A.deeper (envOfC "_law_paper" (defScope s__law_paper) s.heap.objs.size f cdv))) (B : ∀ x, x ∈ blt → mg x = none) (cs : Csts mg) {Φ__law_below : Ph} (g__law_below : Kn Pg w K mg base "_law_below" 1 ["_law_one", "_law_other"] Φ__law_below) :
    PSs (cxOf CX0 Pg w K mg base ["_law_web_here", "_law_ring", "_law_least", "_law_tie", "_law_weight_here", "_law_size"] "_law_paper" (defScope s__law_paper) f cdv A outer s H E).nox (defBody s__law_paper) (t__law_paper K Φ__law_below) :=
  (pss_cons (ps_set (i := 2) sc__law_paper.nd rfl (by first | exact .inl rfl | exact .inr rfl) pe_non)
      (pss_cons (ps_for PassesOwn.never rfl (pi_tup (pv 1)) (pg_name (i := 3) sc__law_paper.nd rfl (by first | exact .inl rfl | exact .inr rfl)) (pss_cons (ps_set (i := 4) sc__law_paper.nd rfl (by first | exact .inl rfl | exact .inr rfl) (pe_ix ix_seq (pe_ix ix_seq (pe_ix ix_seq (pv 0) pe_int (fun _ _ => rfl)) (pv 3) (fun _ _ => rfl)) pe_int (fun _ _ => rfl)))
      (pss_cons (ps_set (i := 5) sc__law_paper.nd rfl (by first | exact .inl rfl | exact .inr rfl) (pe_tup (pa_cons (pe_callB call_abs (by rfl) (B "abs" (by decide)) (by decide +kernel) (pa_cons (pe_ix ix_seq (pv 4) pe_int (fun _ _ => rfl)) pa_nil)) (pa_cons (pe_ix ix_seq (pv 4) pe_int (fun _ _ => rfl)) pa_nil))))
      (pss_one (ps_if (PW.pt (pw_or (pt_cmpR op_isN (pv 2) pe_non (nomark _)) (pw_or1 (pt_val (pe_callD g__law_below (hr.mono (by decide)) (by rfl) (pa_cons (pv 5) (pa_cons (pv 2) pa_nil))))))) (pss_one (ps_set (i := 2) sc__law_paper.nd rfl (by first | exact .inl rfl | exact .inr rfl) (pv 5))) pss_nil)))))
      (pss_cons (ps_if (pt_cmpR (op_eqD hr.units) (pe_ix ix_seq (pv 2) pe_int (fun _ _ => rfl)) pe_int (nomark _)) (pss_one (ps_ret (pe_tup (pa_cons pe_str (pa_cons (pe_tup pa_nil) pa_nil))))) pss_nil)
      (pss_one (ps_ret (pe_tup (pa_cons pe_str (pa_cons (pe_tup (pa_cons (pe_tup (pa_cons (pv 1) (pa_cons (pv 2) pa_nil))) pa_nil)) pa_nil))))))))
def t__law_thing (K : PySem.W.Frag) (Φ__law_next : Ph) : TS := (tSeq (tIfS (tOr (tTest (tOp (rEqD K) (tVar 2) (tC (.int 0)))) (tTest (tOp (rEqD K) (tOp rModN (tCall (SpD K Φ__law_next) [] E0 (tCons (tVar 0) tNil)) (tC (.int 4))) (tC (.int 0))))) (tRet (tOp (rIx K) (tLst (tCons (tC .non) (tCons (tC (.int 0)) (tCons (tC (.str "rings")) (tCons (tTup tNil) (tCons (tLst tNil) (tCons (tTup (tCons (tC (.bl true)) tNil)) (tCons (tTup (tCons (tC (.int 0)) (tCons (tC (.int 0)) tNil))) (tCons (tTup (tCons (tTup (tCons (tC (.int 0)) tNil)) tNil)) (tCons (tTup (tCons (tUn rNegI (tC (.int 1))) tNil)) (tCons (tTup (tCons (tVar 2) tNil)) tNil))))))))))) (tOp rModN (tCall (SpD K Φ__law_next) [] E0 (tCons (tVar 0) tNil)) (tC (.int 10))))) tNext)
    (tSeq (tIfS (tOr (tTest (tOp (rEqD K) (tVar 1) (tLst tNil))) (tTest (tOp (rEqD K) (tOp rModN (tCall (SpD K Φ__law_next) [] E0 (tCons (tVar 0) tNil)) (tC (.int 2))) (tC (.int 0))))) (tRet (tCB (rTupQ K) (tCons (tSortSet K (tLc (iRng1 (tCons (tOp rAddI (tC (.int 1)) (tOp rModN (tCall (SpD K Φ__law_next) [] E0 (tCons (tVar 0) tNil)) (tC (.int 4)))) tNil)) (gName 3) tYes (tOp rModN (tCall (SpD K Φ__law_next) [] E0 (tCons (tVar 0) tNil)) (tVar 2)) [3])) tNil))) tNext)
    (tSeq (tAsg (tOp (rIx K) (tVar 1) (tOp rModN (tCall (SpD K Φ__law_next) [] E0 (tCons (tVar 0) tNil)) (tCB (rLenQ K) (tCons (tVar 1) tNil)))) (gName 4))
    (tSeq (tAsg (tOp rModN (tCall (SpD K Φ__law_next) [] E0 (tCons (tVar 0) tNil)) (tVar 2)) (gName 5))
    (tSeq (tAsg (tLst (tCons (tSl (rSlA K) (tVar 4) (tPart (tC (.int 1))) tNoPart) (tCons (tSl (rSlA K) (tVar 4) tNoPart (tPart (tUn rNegI (tC (.int 1))))) (tCons (tCB (rTupQ K) (tCons (tSortSet K (tOp (rCatA K) (tVar 4) (tTup (tCons (tVar 5) tNil)))) tNil)) (tCons (tRevT K (tVar 4)) (tCons (tCB (rListQ K) (tCons (tVar 4) tNil)) (tCons (tOp (rCatA K) (tVar 4) (tVar 4)) tNil))))))) (gName 6))
    (tRet (tOp (rIx K) (tVar 6) (tOp rModN (tCall (SpD K Φ__law_next) [] E0 (tCons (tVar 0) tNil)) (tC (.int 6))))))))))
theorem dv__law_thing {f : Addr} {cdv : Value} {A : Around} {outer : List Env} {s : Shared} {H : Hp} {E : XK} (hr : Room 1 (A.deeper (envOfC "_law_thing" (defScope s__law_thing) s.heap.objs.size f cdv))) (B : ∀ x, x ∈ blt → mg x = none) (cs : Csts mg) {Φ__law_next : Ph} (g__law_next : Kn Pg w K mg base "_law_next" 1 ["_law_deck_here"] Φ__law_next) :
    PSs (cxOf CX0 Pg w K mg base ["_law_deck_here", "_law_rings", "_law_many", "_law_k", "_law_ring", "_law_more", "_law_odd"] "_law_thing" (defScope s__law_thing) f cdv A outer s H E).nox (defBody s__law_thing) (t__law_thing K Φ__law_next) :=
  (pss_cons (ps_if (PW.pt (pw_or (pt_cmpR (op_eqD hr.units) (pv 2) pe_int (nomark _)) (pw_or1 (pt_cmpR (op_eqD hr.units) (pe_op op_modN (pe_callD g__law_next (hr.mono (by decide)) (by rfl) (pa_cons (pv 0) pa_nil)) pe_int) pe_int (nomark _))))) (pss_one (ps_ret (pe_ix ix_seq (pe_lst (pa_cons pe_non (pa_cons pe_int (pa_cons pe_str (pa_cons (pe_tup pa_nil) (pa_cons (pe_lst pa_nil) (pa_cons (pe_tup (pa_cons pe_bl pa_nil)) (pa_cons (pe_tup (pa_cons pe_int (pa_cons pe_int pa_nil))) (pa_cons (pe_tup (pa_cons (pe_tup (pa_cons pe_int pa_nil)) pa_nil)) (pa_cons (pe_tup (pa_cons (pe_un un_neg pe_int) pa_nil)) (pa_cons (pe_tup (pa_cons (pv 2) pa_nil)) pa_nil))))))))))) (pe_op op_modN (pe_callD g__law_next (hr.mono (by decide)) (by rfl) (pa_cons (pv 0) pa_nil)) pe_int) (fun _ _ => rfl)))) pss_nil)
      (pss_cons (ps_if (PW.pt (pw_or (pt_cmpR (op_eqD hr.units) (pv 1) (pe_lst pa_nil) (nomark _)) (pw_or1 (pt_cmpR (op_eqD hr.units) (pe_op op_modN (pe_callD g__law_next (hr.mono (by decide)) (by rfl) (pa_cons (pv 0) pa_nil)) pe_int) pe_int (nomark _))))) (pss_one (ps_ret (pe_callTy call_tuple_of (by rfl) (B "tuple" (by decide)) (by decide +kernel) (pa_cons (pe_sortSet rfl (by rfl) (B "sorted" (by decide)) (by rfl) (B "set" (by decide)) (pe_lc (own := [("_law_k", 3)]) (g := (gName 3)) (tt := tYes) rfl sc__law_thing.nd (pi_range1 (by rfl) (B "range" (by decide)) (pa_cons (pe_op op_add pe_int (pe_op op_modN (pe_callD g__law_next (hr.mono (by decide)) (by rfl) (pa_cons (pv 0) pa_nil)) pe_int)) pa_nil)) (blkOk_by (own := [("_law_k", 3)]) (N := ["_law_deck_here", "_law_rings", "_law_many", "_law_k", "_law_ring", "_law_more", "_law_odd"]) (sc := defScope s__law_thing) (by decide +kernel)) (fun _ _ _ _ _ => (pg_name (i := 3) sc__law_thing.nd rfl (by first | exact .inl rfl | exact .inr rfl))) (fun _ _ _ _ _ => pts_nil) (fun _ _ _ _ _ => (pe_op op_modN (pe_callD g__law_next (hr.mono (by decide)) (by rfl) (pa_cons (pv 0) pa_nil)) (pv 2))))) pa_nil)))) pss_nil)
      (pss_cons (ps_set (i := 4) sc__law_thing.nd rfl (by first | exact .inl rfl | exact .inr rfl) (pe_ix ix_seq (pv 1) (pe_op op_modN (pe_callD g__law_next (hr.mono (by decide)) (by rfl) (pa_cons (pv 0) pa_nil)) (pe_callB call_len_seq (by rfl) (B "len" (by decide)) (by decide +kernel) (pa_cons (pv 1) pa_nil))) (fun _ _ => rfl)))
      (pss_cons (ps_set (i := 5) sc__law_thing.nd rfl (by first | exact .inl rfl | exact .inr rfl) (pe_op op_modN (pe_callD g__law_next (hr.mono (by decide)) (by rfl) (pa_cons (pv 0) pa_nil)) (pv 2)))
      (pss_cons (ps_set (i := 6) sc__law_thing.nd rfl (by first | exact .inl rfl | exact .inr rfl) (pe_lst (pa_cons (pe_slice sl_tupA (pv 4) (po_some pe_int) po_none) (pa_cons (pe_slice sl_tupA (pv 4) po_none (po_some (pe_un un_neg pe_int))) (pa_cons (pe_callTy call_tuple_of (by rfl) (B "tuple" (by decide)) (by decide +kernel) (pa_cons (pe_sortSet rfl (by rfl) (B "sorted" (by decide)) (by rfl) (B "set" (by decide)) (pe_op op_catA (pv 4) (pe_tup (pa_cons (pv 5) pa_nil)))) pa_nil)) (pa_cons (pe_tupRevT rfl (by rfl) (B "tuple" (by decide)) (by rfl) (B "reversed" (by decide)) (pv 4)) (pa_cons (pe_callTy call_list_of (by rfl) (B "list" (by decide)) (by decide +kernel) (pa_cons (pv 4) pa_nil)) (pa_cons (pe_op op_catA (pv 4) (pv 4)) pa_nil))))))))
      (pss_one (ps_ret (pe_ix ix_seq (pv 6) (pe_op op_modN (pe_callD g__law_next (hr.mono (by decide)) (by rfl) (pa_cons (pv 0) pa_nil)) pe_int) (fun _ _ => rfl)))))))))
def t__law_is_due (K : PySem.W.Frag) (Φ__law_are_numbers : Ph) (Φ__law_is_odd_ring : Ph) : TS := (tSeq (tIfS (tOr (tTest (tOp rIsNn (tVar 1) (tC .non))) (tNot (L2.tB (tCall (SpD K Φ__law_are_numbers) [] E0 (tCons (tVar 2) (tCons (tCB (rLenQ K) (tCons (tOp (rIx K) (tVar 0) (tC (.int 1))) tNil)) tNil)))))) (tRet (tC (.bl false))) tNext)
    (tRet (tCall (SpD K Φ__law_is_odd_ring) [] E0 (tCons (tVar 0) (tCons (tOp (rIx K) (tVar 1) (tC (.int 0))) (tCons (tOp (rIx K) (tVar 1) (tC (.int 1))) (tCons (tVar 2) tNil)))))))
theorem dv__law_is_due {f : Addr} {cdv : Value} {A : Around} {outer : List Env} {s : Shared} {H : Hp} {E : XK} (hr : Room 2 (A.deeper (envOfC "_law_is_due" (defScope s__law_is_due) s.heap.objs.size f cdv))) (B : ∀ x, x ∈ blt → mg x = none) (cs : Csts mg) {Φ__law_are_numbers : Ph} {Φ__law_is_odd_ring : Ph} (g__law_are_numbers : Kn Pg w K mg base "_law_are_numbers" 2 ["_law_thing_here", "_law_many"] Φ__law_are_numbers) (g__law_is_odd_ring : Kn Pg w K mg base "_law_is_odd_ring" 1 ["_law_web_here", "_law_groups_here", "_law_marks", "_law_ring"] Φ__law_is_odd_ring) :
    PSs (cxOf CX0 Pg w K mg base ["_law_web_here", "_law_found", "_law_thing_here"] "_law_is_due" (defScope s__law_is_due) f cdv A outer s H E).nox (defBody s__law_is_due) (t__law_is_due K Φ__law_are_numbers Φ__law_is_odd_ring) :=
  (pss_cons (ps_if (PW.pt (pw_or (pt_cmpR op_isN (pv 1) pe_non (nomark _)) (pw_or1 (pt_not (pt_val (pe_callD g__law_are_numbers (hr.mono (by decide)) (by rfl) (pa_cons (pv 2) (pa_cons (pe_callB call_len_seq (by rfl) (B "len" (by decide)) (by decide +kernel) (pa_cons (pe_ix ix_seq (pv 0) pe_int (fun _ _ => rfl)) pa_nil)) pa_nil)))))))) (pss_one (ps_ret pe_bl)) pss_nil)
      (pss_one (ps_ret (pe_callD g__law_is_odd_ring (hr.mono (by decide)) (by rfl) (pa_cons (pv 0) (pa_cons (pe_ix ix_seq (pv 1) pe_int (fun _ _ => rfl)) (pa_cons (pe_ix ix_seq (pv 1) pe_int (fun _ _ => rfl)) (pa_cons (pv 2) pa_nil))))))))
def t__law_tells (K : PySem.W.Frag) (C_CutError C_NoWeb C_NoSide C_NoText C_NoWishes C_NoTurns C_NotFlat C_NoRing C_NoPaper C_NoShare C_NoTie C_NoWeight C_NoDeed C_TooGreat : Addr) (Φ__law_paper : Ph) (Φ_lightest : PhX) : TS := (tSeq (tAsg (tCall (SpD K Φ__law_paper) [] E0 (tCons (tVar 0) (tCons (tVar 2) tNil))) (gName 3))
    (tRet (tAndV (tOp (rEqD K) (tCall (SpX K C_NoRing Φ_lightest) [] E0 (tCons (tVar 0) (tCons (tVar 1) (tCons (tVar 2) tNil)))) (tVar 3)) (tOp (rEqD K) (tCall (SpX K C_NoRing Φ_lightest) [] E0 (tCons (tVar 0) (tCons (tCB (rListQ K) (tCons (tVar 1) tNil)) (tCons (tVar 2) tNil)))) (tVar 3)))))
theorem dv__law_tells {f : Addr} {cdv : Value} {A : Around} {outer : List Env} {s : Shared} {H : Hp} {E : XK} (hr : Room 7 (A.deeper (envOfC "_law_tells" (defScope s__law_tells) s.heap.objs.size f cdv))) (B : ∀ x, x ∈ blt → mg x = none) (cs : Csts mg) {C_CutError C_NoWeb C_NoSide C_NoText C_NoWishes C_NoTurns C_NotFlat C_NoRing C_NoPaper C_NoShare C_NoTie C_NoWeight C_NoDeed C_TooGreat : Addr} (cl : Cls K mg C_CutError C_NoWeb C_NoSide C_NoText C_NoWishes C_NoTurns C_NotFlat C_NoRing C_NoPaper C_NoShare C_NoTie C_NoWeight C_NoDeed C_TooGreat) {Φ__law_paper : Ph} {Φ_lightest : PhX} (g__law_paper : Kn Pg w K mg base "_law_paper" 2 ["_law_web_here", "_law_ring"] Φ__law_paper) (g_lightest : KnX Pg w K mg base "lightest" 7 ["web", "wishes", "ring"] C_NoRing Φ_lightest) :
    PSs (cxOf CX0 Pg w K mg base ["_law_web_here", "_law_wishes_here", "_law_thing_here", "_law_due"] "_law_tells" (defScope s__law_tells) f cdv A outer s H E).nox (defBody s__law_tells) (t__law_tells K C_CutError C_NoWeb C_NoSide C_NoText C_NoWishes C_NoTurns C_NotFlat C_NoRing C_NoPaper C_NoShare C_NoTie C_NoWeight C_NoDeed C_TooGreat Φ__law_paper Φ_lightest) :=
  (pss_cons (ps_set (i := 3) sc__law_tells.nd rfl (by first | exact .inl rfl | exact .inr rfl) (pe_callD g__law_paper (hr.mono (by decide)) (by rfl) (pa_cons (pv 0) (pa_cons (pv 2) pa_nil))))
      (pss_one (ps_ret (pe_and (pe_cmpR (op_eqD hr.units) (pe_callX0 g_lightest (hr.mono (by decide)) (by rfl) (pa_cons (pv 0) (pa_cons (pv 1) (pa_cons (pv 2) pa_nil)))) (pv 3) (nomark _)) (pe_one (pe_cmpR (op_eqD hr.units) (pe_callX0 g_lightest (hr.mono (by decide)) (by rfl) (pa_cons (pv 0) (pa_cons (pe_callTy call_list_of (by rfl) (B "list" (by decide)) (by decide +kernel) (pa_cons (pv 1) pa_nil)) (pa_cons (pv 2) pa_nil)))) (pv 3) (nomark _)))))))
def t_law (K : PySem.W.Frag) (Φ__law_deck : Ph) (Φ__law_web : Ph) (Φ__law_wishes : Ph) (Φ__law_groups : Ph) (Φ__law_all_rings : Ph) (Φ__law_thing : Ph) (Φ__law_next : Ph) (Φ__law_is_due : Ph) (Φ__law_refused : Ph) (Φ__law_tells : Ph) : TS := (tSeq (tAsg (tCall (SpD K Φ__law_deck) [] E0 (tCons (tVar 0) (tCons (tC (.int 160)) tNil))) (gName 1))
    (tSeq (tAsg (tCall (SpD K Φ__law_web) [] E0 (tCons (tVar 1) (tCons (tC (.int 6)) (tCons (tC (.int 9)) tNil)))) (gName 2))
    (tSeq (tAsg (tCall (SpD K Φ__law_wishes) [] E0 (tCons (tVar 1) (tCons (tOp (rIx K) (tVar 2) (tC (.int 0))) tNil))) (gName 3))
    (tSeq (tAsg (tCall (SpD K Φ__law_groups) [] E0 (tCons (tOp (rIx K) (tVar 2) (tC (.int 0))) (tCons (tVar 3) tNil))) (gName 4))
    (tSeq (tAsg (tCall (SpD K Φ__law_all_rings) [] E0 (tCons (tVar 2) (tCons (tLstRg (tRg1 (tOp (rIx K) (tVar 2) (tC (.int 0))))) (tCons (tOp rRep (tLst (tCons (tC (.int 0)) tNil)) (tOp (rIx K) (tVar 2) (tC (.int 0)))) tNil)))) (gName 5))
    (tSeq (tIfS (tTest (tOp rNotNn (tVar 4) (tC .non))) (tAsg (tCall (SpD K Φ__law_all_rings) [] E0 (tCons (tVar 2) (tCons (tOp (rIx K) (tVar 4) (tC (.int 0))) (tCons (tOp (rIx K) (tVar 4) (tC (.int 1))) tNil)))) (gName 5)) tNext)
    (tSeq (tAsg (tLc (iRng1 (tCons (tC (.int 10)) tNil)) (gName 7) tYes (tCall (SpD K Φ__law_thing) [] E0 (tCons (tVar 1) (tCons (tVar 5) (tCons (tCB (rLenQ K) (tCons (tOp (rIx K) (tVar 2) (tC (.int 1))) tNil)) tNil)))) [7]) (gName 6))
    (tSeq (tFor (iRng1 (tCons (tOp rMulI (tCB rInt1 (tCons (tOp (rNeD K) (tVar 5) (tLst tNil)) tNil)) (tC (.int 6))) tNil)) (gName 7) (tDrop (tBM K "list" rAppend (tVar 6) (tCons (tOp (rIx K) (tVar 5) (tOp rModN (tCall (SpD K Φ__law_next) [] E0 (tCons (tVar 1) tNil)) (tCB (rLenQ K) (tCons (tVar 5) tNil)))) tNil))))
    (tSeq (tFor (iList K (tVar 6)) (gName 8) (tIfS (tNot (L2.tB (tCall (SpD K Φ__law_is_due) [] E0 (tCons (tVar 2) (tCons (tVar 4) (tCons (tVar 8) tNil)))))) (tIfS (tNot (L2.tB (tCall (SpD K Φ__law_refused) [] E0 (tCons (tVar 2) (tCons (tVar 3) (tCons (tVar 8) tNil)))))) (tRet (tC (.bl false))) tNext) (tIfS (tNot (L2.tB (tCall (SpD K Φ__law_tells) [] E0 (tCons (tVar 2) (tCons (tVar 3) (tCons (tVar 8) tNil)))))) (tRet (tC (.bl false))) tNext)))
    (tRet (tC (.bl true))))))))))))
theorem dv_law {f : Addr} {cdv : Value} {A : Around} {outer : List Env} {s : Shared} {H : Hp} {E : XK} (hr : Room 8 (A.deeper (envOfC "law" (defScope s_law) s.heap.objs.size f cdv))) (B : ∀ x, x ∈ blt → mg x = none) (cs : Csts mg) {Φ__law_deck : Ph} {Φ__law_web : Ph} {Φ__law_wishes : Ph} {Φ__law_groups : Ph} {Φ__law_all_rings : Ph} {Φ__law_thing : Ph} {Φ__law_next : Ph} {Φ__law_is_due : Ph} {Φ__law_refused : Ph} {Φ__law_tells : Ph} (g__law_deck : Kn Pg w K mg base "_law_deck" 2 ["_law_script", "_law_many"] Φ__law_deck) (g__law_web : Kn Pg w K mg base "_law_web" 3 ["_law_deck_here", "_law_most_points", "_law_most_ties"] Φ__law_web) (g__law_wishes : Kn Pg w K mg base "_law_wishes" 2 ["_law_deck_here", "_law_many"] Φ__law_wishes) (g__law_groups : Kn Pg w K mg base "_law_groups" 1 ["_law_many", "_law_wishes_here"] Φ__law_groups) (g__law_all_rings : Kn Pg w K mg base "_law_all_rings" 2 ["_law_web_here", "_law_groups_here", "_law_marks"] Φ__law_all_rings) (g__law_thing : Kn Pg w K mg base "_law_thing" 2 ["_law_deck_here", "_law_rings", "_law_many"] Φ__law_thing) (g__law_next : Kn Pg w K mg base "_law_next" 1 ["_law_deck_here"] Φ__law_next) (g__law_is_due : Kn Pg w K mg base "_law_is_due" 3 ["_law_web_here", "_law_found", "_law_thing_here"] Φ__law_is_due) (g__law_refused : Kn Pg w K mg base "_law_refused" 8 ["_law_web_here", "_law_wishes_here", "_law_thing_here"] Φ__law_refused) (g__law_tells : Kn Pg w K mg base "_law_tells" 8 ["_law_web_here", "_law_wishes_here", "_law_thing_here"] Φ__law_tells) :
    PSs (cxOf CX0 Pg w K mg base ["_law_script", "_law_deck_here", "_law_web_here", "_law_wishes_here", "_law_found", "_law_rings", "_law_things", "_law_k", "_law_thing_here"] "law" (defScope s_law) f cdv A outer s H E).nox (defBody s_law) (t_law K Φ__law_deck Φ__law_web Φ__law_wishes Φ__law_groups Φ__law_all_rings Φ__law_thing Φ__law_next Φ__law_is_due Φ__law_refused Φ__law_tells) :=
  (pss_cons (ps_set (i := 1) sc_law.nd rfl (by first | exact .inl rfl | exact .inr rfl) (pe_callD g__law_deck (hr.mono (by decide)) (by rfl) (pa_cons (pv 0) (pa_cons pe_int pa_nil))))
      (pss_cons (ps_set (i := 2) sc_law.nd rfl (by first | exact .inl rfl | exact .inr rfl) (pe_callD g__law_web (hr.mono (by decide)) (by rfl) (pa_cons (pv 1) (pa_cons pe_int (pa_cons pe_int pa_nil)))))
      (pss_cons (ps_set (i := 3) sc_law.nd rfl (by first | exact .inl rfl | exact .inr rfl) (pe_callD g__law_wishes (hr.mono (by decide)) (by rfl) (pa_cons (pv 1) (pa_cons (pe_ix ix_seq (pv 2) pe_int (fun _ _ => rfl)) pa_nil))))
      (pss_cons (ps_set (i := 4) sc_law.nd rfl (by first | exact .inl rfl | exact .inr rfl) (pe_callD g__law_groups (hr.mono (by decide)) (by rfl) (pa_cons (pe_ix ix_seq (pv 2) pe_int (fun _ _ => rfl)) (pa_cons (pv 3) pa_nil))))
      (pss_cons (ps_set (i := 5) sc_law.nd rfl (by first | exact .inl rfl | exact .inr rfl) (pe_callD g__law_all_rings (hr.mono (by decide)) (by rfl) (pa_cons (pv 2) (pa_cons (pe_listRg rfl (by rfl) (B "list" (by decide)) (prg_1 (by rfl) (B "range" (by decide)) (pe_ix ix_seq (pv 2) pe_int (fun _ _ => rfl)))) (pa_cons (pe_op op_rep (pe_lst (pa_cons pe_int pa_nil)) (pe_ix ix_seq (pv 2) pe_int (fun _ _ => rfl))) pa_nil)))))
      (pss_cons (ps_if (pt_cmpR op_notN (pv 4) pe_non (nomark _)) (pss_one (ps_set (i := 5) sc_law.nd rfl (by first | exact .inl rfl | exact .inr rfl) (pe_callD g__law_all_rings (hr.mono (by decide)) (by rfl) (pa_cons (pv 2) (pa_cons (pe_ix ix_seq (pv 4) pe_int (fun _ _ => rfl)) (pa_cons (pe_ix ix_seq (pv 4) pe_int (fun _ _ => rfl)) pa_nil)))))) pss_nil)
      (pss_cons (ps_setLc (i := 6) (own := [("_law_k", 7)]) (g := (gName 7)) (tt := tYes) rfl sc_law.nd rfl rfl (sw_true rfl rfl rfl (by decide +kernel)) (pi_range1 (by rfl) (B "range" (by decide)) (pa_cons pe_int pa_nil)) (blkOk_by (own := [("_law_k", 7)]) (N := ["_law_script", "_law_deck_here", "_law_web_here", "_law_wishes_here", "_law_found", "_law_rings", "_law_things", "_law_k", "_law_thing_here"]) (sc := defScope s_law) (by decide +kernel)) (fun _ _ _ _ _ => (pg_name (i := 7) sc_law.nd rfl (by first | exact .inl rfl | exact .inr rfl))) (fun _ _ _ _ _ => pts_nil) (fun _ _ _ _ _ => (pe_callD g__law_thing (hr.mono (by decide)) (by rfl) (pa_cons (pv 1) (pa_cons (pv 5) (pa_cons (pe_callB call_len_seq (by rfl) (B "len" (by decide)) (by decide +kernel) (pa_cons (pe_ix ix_seq (pv 2) pe_int (fun _ _ => rfl)) pa_nil)) pa_nil))))))
      (pss_cons (ps_for PassesOwn.never rfl (pi_range1 (by rfl) (B "range" (by decide)) (pa_cons (pe_op op_mul (pe_callTy call_int1 (by rfl) (B "int" (by decide)) (by decide +kernel) (pa_cons (pe_cmpR (op_neD hr.units) (pv 5) (pe_lst pa_nil) (nomark _)) pa_nil)) pe_int) pa_nil)) (pg_name (i := 7) sc_law.nd rfl (by first | exact .inl rfl | exact .inr rfl)) (pss_one (ps_expr (pe_bm PySem.F.plainAttrs_list PySem.F.slot_list_append PySem.F.type_list_append mt_append (pv 6) (pa_cons (pe_ix ix_seq (pv 5) (pe_op op_modN (pe_callD g__law_next (hr.mono (by decide)) (by rfl) (pa_cons (pv 1) pa_nil)) (pe_callB call_len_seq (by rfl) (B "len" (by decide)) (by decide +kernel) (pa_cons (pv 5) pa_nil))) (fun _ _ => rfl)) pa_nil)))))
      (pss_cons (ps_for PassesOwn.never rfl (pi_list (pv 6)) (pg_name (i := 8) sc_law.nd rfl (by first | exact .inl rfl | exact .inr rfl)) (pss_one (ps_if (pt_not (pt_val (pe_callD g__law_is_due (hr.mono (by decide)) (by rfl) (pa_cons (pv 2) (pa_cons (pv 4) (pa_cons (pv 8) pa_nil)))))) (pss_one (ps_if (pt_not (pt_val (pe_callD g__law_refused (hr.mono (by decide)) (by rfl) (pa_cons (pv 2) (pa_cons (pv 3) (pa_cons (pv 8) pa_nil)))))) (pss_one (ps_ret pe_bl)) pss_nil)) (pss_one (ps_if (pt_not (pt_val (pe_callD g__law_tells (hr.mono (by decide)) (by rfl) (pa_cons (pv 2) (pa_cons (pv 3) (pa_cons (pv 8) pa_nil)))))) (pss_one (ps_ret pe_bl)) pss_nil)))))
      (pss_one (ps_ret pe_bl)))))))))))
end
local macro_rules | `(tactic| walk_at "ev") => `(tactic| first
  | ((with_reducible apply e_var); exact rfl) | ((with_reducible apply e_varm); exact rfl) | ((with_reducible apply e_vars); exact rfl)
  | with_reducible refine e_int ?_ | with_reducible refine e_bl ?_ | with_reducible refine e_non ?_ | with_reducible refine e_str ?_
  | with_reducible refine e_op ?_ | with_reducible refine e_un ?_
  | ((with_reducible refine rr_I0 ?_); refine ⟨_, _, rfl, rfl, ?_⟩) | ((with_reducible refine rr_B0 ?_); refine ⟨_, _, rfl, rfl, ?_⟩)
  | ((with_reducible refine rr_isB ?_); refine ⟨_, _, rfl, rfl, ?_⟩) | ((with_reducible refine rr_notB ?_); refine ⟨_, _, rfl, rfl, ?_⟩)
  | ((with_reducible refine ru_I ?_); refine ⟨_, rfl, ?_⟩)
  | with_reducible refine e_isi instInt ?_ | with_reducible refine e_isi instBool ?_ | with_reducible refine e_isi instTuple ?_ | with_reducible refine e_isiT instList instTuple ?_
  | with_reducible refine e_cb ?_ | with_reducible refine e_call ?_ | with_reducible refine e_callX0 ?_ | with_reducible refine e_chain ?_
  | with_reducible refine ea_cons ?_ | with_reducible refine ea_nil ?_
  | with_reducible refine e_slL ?_ | with_reducible refine eo_some ?_ | with_reducible refine eo_none ?_
  | with_reducible refine e_tup ?_ | with_reducible refine e_lst ?_
  | with_reducible refine e_and ?_ | with_reducible refine e_or ?_ | with_reducible refine e_not ?_ | with_reducible refine e_if ?_
  | with_reducible refine et_test ?_ | with_reducible refine et_B ?_ | with_reducible refine et_and ?_ | with_reducible refine et_or ?_ | with_reducible refine et_not ?_ | with_reducible refine et_yes ?_
  | with_reducible refine s_seq ?_ | with_reducible refine s_asg ?_ | with_reducible refine s_ret ?_ | with_reducible refine s_drop ?_ | with_reducible refine s_if ?_ | with_reducible refine s_next ?_ | with_reducible refine s_par ?_
  | ((with_reducible refine rc_abs ?_); refine ⟨_, rfl, ?_⟩) | ((with_reducible refine rc_max ?_); refine ⟨_, _, rfl, ?_⟩) | ((with_reducible refine rc_min ?_); refine ⟨_, _, rfl, ?_⟩)
  | ((with_reducible refine rr_ix ?_); first | refine ⟨_, _, _, .inr (.d _), rfl, atI_nat (j := 0) rfl, ?_⟩ | refine ⟨_, _, _, .inr (.d _), rfl, atI_nat (j := 1) rfl, ?_⟩ | refine ⟨_, _, _, .inr (.d _), rfl, atI_nat (j := 2) rfl, ?_⟩ | refine ⟨_, _, _, .inl (.d _), rfl, atI_nat (j := 0) rfl, ?_⟩ | refine ⟨_, _, _, .inl (.d _), rfl, atI_nat (j := 1) rfl, ?_⟩ | refine ⟨_, _, _, .inl (.d _), rfl, atI_nat (j := 2) rfl, ?_⟩)
  | ((with_reducible apply Exists.intro); first | refine ⟨(rfl : _ = List.map SD.d []), Nat.le_of_ble_eq_true rfl, ?_⟩ | refine ⟨(rfl : _ = List.map SD.d [_]), Nat.le_of_ble_eq_true rfl, ?_⟩ | refine ⟨(rfl : _ = List.map SD.d [_, _]), Nat.le_of_ble_eq_true rfl, ?_⟩ | refine ⟨(rfl : _ = List.map SD.d [_, _, _]), Nat.le_of_ble_eq_true rfl, ?_⟩ | refine ⟨(rfl : _ = List.map SD.d [_, _, _, _]), Nat.le_of_ble_eq_true rfl, ?_⟩ | refine ⟨Sv.d _, nofun, ?_⟩ | refine ⟨Sv.d _, ?_⟩ | refine ⟨rfl, ?_⟩ | ((with_reducible apply Exists.intro); refine ⟨rfl, ?_⟩)))
local macro_rules | `(tactic| walk_at "evs") => `(tactic| repeat walk_at "ev")

def Φ_is_whole : Ph := ph1 fun a ms R => ∃ x, a = .d x ∧ R (.d (.bool (isWhole x))) ms
theorem len_is_whole : ∀ as ms R, Φ_is_whole as ms R → as.length = 1 := ph1_len
theorem rd_is_whole {K : PySem.W.Frag} : ∀ as ms R, Φ_is_whole as ms R → S K (t_is_whole K) (as ++ List.replicate (1 - as.length) .u) ms (fin R) := by
  rintro as ms R ⟨a, rfl, x, rfl, r⟩
  rw [← whole_and] at r
  unfold t_is_whole
  walk_at "evs"
  refine ⟨fun h => ?_, fun h => ?_⟩
  · walk_at "evs"
    rw [h, Bool.true_and] at r
    exact r
  · rw [h, Bool.false_and] at r
    exact r

def Φ_is_row : Ph := ph1 fun a ms R => ∃ x, a = .d x ∧ R (.d (.bool (isRow x))) ms
theorem len_is_row : ∀ as ms R, Φ_is_row as ms R → as.length = 1 := ph1_len
theorem rd_is_row {K : PySem.W.Frag} : ∀ as ms R, Φ_is_row as ms R → S K (t_is_row K) (as ++ List.replicate (1 - as.length) .u) ms (fin R) := by
  rintro as ms R ⟨a, rfl, x, rfl, r⟩
  rw [← inst_row] at r
  unfold t_is_row
  walk_at "evs"
  exact r

def tripB : PyData → Bool
  | .list es => decide (es.length = 3)
  | .tuple es => decide (es.length = 3)
  | _ => false
def Φ_is_triple : Ph := ph1 fun a ms R => ∃ x, a = .d x ∧ R (.d (.bool (tripB x))) ms
theorem len_is_triple : ∀ as ms R, Φ_is_triple as ms R → as.length = 1 := ph1_len
theorem rd_is_triple {K : PySem.W.Frag} : ∀ as ms R, Φ_is_triple as ms R → S K (t_is_triple K Φ_is_row) (as ++ List.replicate (1 - as.length) .u) ms (fin R) := by
  rintro as ms R ⟨a, rfl, x, rfl, r⟩
  unfold t_is_triple
  walk_at "evs"
  refine ⟨_, rfl, x, rfl, ?_⟩
  refine ⟨_, rfl, fun h => ?_, fun h => ?_⟩
  · obtain ⟨es, sv, e⟩ : ∃ es, (Sv ms (.d x) (.list es) ∨ Sv ms (.d x) (.tuple es)) ∧ tripB x = decide (es.length = 3) := by
      cases x with
      | list es => exact ⟨es, .inl (.d _), rfl⟩
      | tuple es => exact ⟨es, .inr (.d _), rfl⟩
      | _ => cases h
    walk_at "evs"
    refine rc_len ⟨_, es, rfl, sv, ?_⟩
    walk_at "evs"
    refine rr_eq ⟨_, _, .d _, .d _, shaped_int _, shaped_int _, ?_⟩
    rw [eqv_int]
    rw [e] at r
    have : decide (((es.length : Nat) : Int) = 3) = decide (es.length = 3) := decide_eq_decide.mpr (by omega)
    rw [this]
    exact r
  · have e : tripB x = false := by
      cases x with
      | list es => cases h
      | tuple es => cases h
      | _ => rfl
    rw [e] at r
    exact r

def numB (m : Int) : PyData → Bool
  | .int i => decide (0 ≤ i) && decide (i < m)
  | _ => false
def Φ_is_number_of : Ph := ph2 fun a b ms R => ∃ m x, a = .d (.int m) ∧ b = .d x ∧ R (.d (.bool (numB m x))) ms
theorem len_is_number_of : ∀ as ms R, Φ_is_number_of as ms R → as.length = 2 := ph2_len
theorem rd_is_number_of {K : PySem.W.Frag} : ∀ as ms R, Φ_is_number_of as ms R → S K (t_is_number_of K Φ_is_whole) (as ++ List.replicate (2 - as.length) .u) ms (fin R) := by
  rintro as ms R ⟨a, b, rfl, m, x, rfl, rfl, r⟩
  unfold t_is_number_of
  walk_at "evs"
  refine ⟨_, rfl, x, rfl, _, rfl, fun h => ?_, fun h => ?_⟩
  · obtain ⟨i, rfl⟩ := whole_inv h
    walk_at "evs"
    refine ⟨fun h2 => ?_, fun h2 => ?_⟩
    · walk_at "evs"
      rintro b' rfl
      walk_at "evs"
      have e : numB m (.int i) = decide (i < m) := by show (decide (0 ≤ i) && decide (i < m)) = _; rw [h2, Bool.true_and]
      rw [e] at r
      exact r
    · have e : numB m (.int i) = false := by show (decide (0 ≤ i) && decide (i < m)) = _; rw [h2, Bool.false_and]
      rw [e] at r
      exact r
  · have e : numB m x = false := by
      cases x with
      | int i => cases h
      | _ => rfl
    rw [e] at r
    exact r

def unlB (m : Int) (x y : PyData) : Bool := numB m x && (numB m y && !PyData.eqv x y)
def Φ_are_unlike_points : Ph := ph3 fun a b c ms R => ∃ m x y, a = .d (.int m) ∧ b = .d x ∧ c = .d y ∧ R (.d (.bool (unlB m x y))) ms
theorem len_are_unlike_points : ∀ as ms R, Φ_are_unlike_points as ms R → as.length = 3 := ph3_len
theorem numI {n : Int} {e : PyData} (h : numB n e = true) : ∃ i : Int, e = .int i := by
  cases e with
  | int i => exact ⟨i, rfl⟩
  | _ => cases h
theorem rd_are_unlike_points {K : PySem.W.Frag} : ∀ as ms R, Φ_are_unlike_points as ms R → S K (t_are_unlike_points K Φ_is_number_of) (as ++ List.replicate (3 - as.length) .u) ms (fin R) := by
  rintro as ms R ⟨a, b, c, rfl, m, x, y, rfl, rfl, rfl, r⟩
  unfold t_are_unlike_points
  walk_at "evs"
  refine ⟨_, _, rfl, m, x, rfl, rfl, ?_⟩
  unfold unlB at r
  refine ⟨_, rfl, fun h => ?_, fun h => ?_⟩
  · obtain ⟨i, rfl⟩ := numI h
    rw [h, Bool.true_and] at r
    walk_at "evs"
    refine ⟨_, _, rfl, m, y, rfl, rfl, ?_⟩
    refine ⟨_, rfl, fun h2 => ?_, fun h2 => ?_⟩
    · obtain ⟨j, rfl⟩ := numI h2
      rw [h2, Bool.true_and] at r
      walk_at "evs"
      exact rr_ne ⟨_, _, .d _, .d _, shaped_int _, shaped_int _, r⟩
    · rw [h2, Bool.false_and] at r
      exact r
  · rw [h, Bool.false_and] at r
    exact r

def ltD : PyData → PyData → Bool
  | .int a, .int b => decide (a < b)
  | _, _ => false
def riseB (es : List PyData) : Bool := (List.zip es (es.drop 1)).all fun p => ltD p.1 p.2
def choiceB (n : Int) : PyData → Bool
  | .tuple es => !es.isEmpty && (es.all (numB n) && riseB es)
  | _ => false
def Φ_is_rising_choice : Ph := ph2 fun a b ms R => ∃ n x, a = .d (.int n) ∧ b = .d x ∧ (∀ es, x = .tuple es → es.length ≤ 10000) ∧ R (.d (.bool (choiceB n x))) ms
theorem len_is_rising_choice : ∀ as ms R, Φ_is_rising_choice as ms R → as.length = 2 := ph2_len
theorem num_inv {n : Int} {e : PyData} (h : numB n e = true) : ∃ i : Int, e = .int i ∧ 0 ≤ i ∧ i < n := by
  cases e with
  | int i =>
    have h2 : (decide (0 ≤ i) && decide (i < n)) = true := h
    rw [Bool.and_eq_true] at h2
    exact ⟨i, rfl, of_decide_eq_true h2.1, of_decide_eq_true h2.2⟩
  | _ => cases h
theorem cutT_from1 (es : List PyData) : Hc.cutD es (some 1) none = es.drop 1 := by
  unfold Hc.cutD
  rw [show HT.sIx es.length 0 (some 1) = min 1 es.length from HT.sIx_nat es.length 0 1, HT.sIx_none]
  cases es with
  | nil => rfl
  | cons a r =>
    have : min 1 (a :: r).length = 1 := by simp
    rw [this]
    exact List.take_of_length_le (by simp)
theorem rd_is_rising_choice {K : PySem.W.Frag} : ∀ as ms R, Φ_is_rising_choice as ms R → S K (t_is_rising_choice K Φ_is_number_of) (as ++ List.replicate (4 - as.length) .u) ms (fin R) := by
  rintro as ms R ⟨a, b, rfl, n, x, rfl, rfl, hz, r⟩
  unfold t_is_rising_choice
  walk_at "evs"
  rw [inst_tup]
  refine ⟨fun h => ?_, fun h => ?_⟩
  · have e : choiceB n x = false := by
      cases x with
      | tuple _ => cases h
      | _ => rfl
    rw [e] at r
    refine ⟨fun _ => ?_, nofun⟩
    walk_at "evs"
    exact r
  · obtain ⟨es, rfl⟩ := tup_inv (by simpa using h)
    have hz := hz es rfl
    walk_at "evs"
    refine rc_len ⟨_, es, rfl, .inr (.d _), ?_⟩
    walk_at "evs"
    refine rr_eq ⟨_, _, .d _, .d _, shaped_int _, shaped_int _, _, rfl, fun h2 => ?_, fun h2 => ?_⟩
    · rw [eqv_int] at h2
      have e0 : es = [] := List.eq_nil_of_length_eq_zero (by simpa using h2)
      subst e0
      walk_at "evs"
      exact r
    · rw [eqv_int] at h2
      obtain ⟨e1, er, rfl⟩ : ∃ e1 er, es = e1 :: er := by
        cases es with
        | nil => simp at h2
        | cons f fs => exact ⟨f, fs, rfl⟩
      have ee : choiceB n (.tuple (e1 :: er)) = ((e1 :: er).all (numB n) && riseB (e1 :: er)) := rfl
      rw [ee] at r
      generalize hE : e1 :: er = es at *
      walk_at "evs"
      refine e_lcT (js := [2]) (by simp) ?_
      walk_at "evs"
      refine ⟨hz, fun k acc ms' => acc = ((es.take k).map (numB n)).map .bool ∧ ms' = ms, ⟨rfl, rfl⟩, ?_, ?_⟩
      · rintro k e acc ms' hk ⟨rfl, rfl⟩
        refine eg_name ?_
        walk_at "evs"
        refine ⟨fun _ => ?_, nofun⟩
        walk_at "evs"
        refine ⟨_, _, rfl, n, e, rfl, rfl, ?_⟩
        exact ⟨_, rfl, by rw [take_snoc hk]; simp, rfl⟩
      rintro acc ms' ⟨rfl, rfl⟩
      walk_at "evs"
      rw [List.take_length]
      refine rc_all ⟨_, _, rfl, .d _, ?_⟩
      have al : (es.map (numB n)).all id = es.all (numB n) := by rw [List.all_map]; rfl
      rw [al]
      walk_at "evs"
      refine ⟨fun h3 => ?_, fun h3 => ?_⟩
      · rw [show es.all (numB n) = false by simpa using h3, Bool.false_and] at r
        walk_at "evs"
        exact r
      · have h4 : es.all (numB n) = true := by simpa using h3
        rw [h4, Bool.true_and] at r
        walk_at "evs"
        refine e_lcZ (js := [2, 3]) (by simp) ?_
        walk_at "evs"
        refine e_slT ?_
        walk_at "evs"
        refine ⟨?_, ?_⟩
        · rintro ⟨z1, _⟩
          rw [show HT.sIx es.length 0 (some 1) = min 1 es.length from HT.sIx_nat es.length 0 1] at z1
          subst hE
          simp at z1
        rw [cutT_from1]
        walk_at "evs"
        refine ⟨hz, fun k acc ms2 => acc = ((List.zip es (es.drop 1)).take k).map (fun p => PyData.bool (ltD p.1 p.2)) ∧ ms2 = ms', ⟨rfl, rfl⟩, ?_, ?_⟩
        · rintro k e f acc ms2 hk hk2 ⟨rfl, rfl⟩
          obtain ⟨i, rfl, _⟩ := num_inv (List.all_eq_true.mp h4 e (List.mem_of_getElem? hk))
          obtain ⟨j, rfl, _⟩ := num_inv (List.all_eq_true.mp h4 f (List.mem_of_mem_drop (List.mem_of_getElem? hk2)))
          refine eg_tup rfl (egs_cons (eg_name (egs_cons (eg_name (egs_nil ?_)))))
          walk_at "evs"
          refine ⟨fun _ => ?_, nofun⟩
          walk_at "evs"
          have hz2 : (List.zip es (es.drop 1))[k]? = some (.int i, .int j) := by rw [List.getElem?_zip_eq_some]; exact ⟨hk, hk2⟩
          exact ⟨by rw [take_snoc hz2]; simp [ltD], rfl⟩
        rintro acc ms2 ⟨rfl, rfl⟩
        have e9 : (List.zip es (es.drop 1)).take (min es.length (es.drop 1).length) = List.zip es (es.drop 1) := List.take_of_length_le (by rw [List.length_zip]; exact Nat.le_refl _)
        rw [e9]
        walk_at "evs"
        refine rc_all ⟨_, (List.zip es (es.drop 1)).map fun p => ltD p.1 p.2, rfl, ?_, ?_⟩
        · rw [List.map_map]
          exact .d _
        rw [List.all_map]
        exact r

def Φ_less : Ph := ph2 fun a b ms R => ∃ p q : Int × Int, a = .d (pr p) ∧ b = .d (pr q) ∧ (Bd 20000 p.1 ∧ Bd 20000 p.2 ∧ Bd 20000 q.1 ∧ Bd 20000 q.2) ∧ R (.d (.bool (decide (p.1 * q.2 < q.1 * p.2)))) ms
theorem len_less : ∀ as ms R, Φ_less as ms R → as.length = 2 := ph2_len
theorem rd_less {K : PySem.W.Frag} : ∀ as ms R, Φ_less as ms R → S K (t_less K) (as ++ List.replicate (2 - as.length) .u) ms (fin R) := by
  rintro as ms R ⟨a, b, rfl, p, q, rfl, rfl, ⟨b1, b2, b3, b4⟩, r⟩
  have up : ∀ {x : Int}, Bd 20000 x → Bd 100000 x := fun h => h.mono (by decide)
  unfold t_less
  walk_at "evs"
  refine rr_I ⟨_, _, rfl, rfl, ⟨up b1, up b4⟩, ?_⟩
  walk_at "evs"
  refine rr_I ⟨_, _, rfl, rfl, ⟨up b3, up b2⟩, ?_⟩
  walk_at "evs"
  exact r

def tog (l : List Int) (i : Nat) : List Int := l.set i (Builtin.bitXor (l.getD i 0) 1)
def oddL (m : Nat) (ps : List (Nat × Nat)) : List Int := ps.foldl (fun l p => tog (tog l p.1) p.2) (List.replicate m 0)
abbrev encP (p : Nat × Nat) : PyData := .tuple [.int p.1, .int p.2]
def Φ_has_even_ends : Ph := ph2 fun a b ms R => ∃ (m : Nat) (ps : List (Nat × Nat)), a = .d (.int m) ∧ b = .d (.list (ps.map encP)) ∧ m ≤ 1000 ∧ (∀ p ∈ ps, p.1 < m ∧ p.2 < m) ∧ R (.d (.bool (!decide ((1 : Int) ∈ oddL m ps)))) ms
theorem len_has_even_ends : ∀ as ms R, Φ_has_even_ends as ms R → as.length = 2 := ph2_len
theorem tog_len (l : List Int) (i : Nat) : (tog l i).length = l.length := by simp [tog]
theorem odd_len (m : Nat) : ∀ (ps : List (Nat × Nat)) (l : List Int), (ps.foldl (fun l p => tog (tog l p.1) p.2) l).length = l.length
  | [], _ => rfl
  | p :: r, l => by
    show (r.foldl _ (tog (tog l p.1) p.2)).length = _
    rw [odd_len m r, tog_len, tog_len]
theorem get_some {l : List Int} {i : Nat} (h : i < l.length) : l[i]? = some (l.getD i 0) := by simp [List.getD, h]
theorem rd_has_even_ends {K : PySem.W.Frag} : ∀ as ms R, Φ_has_even_ends as ms R → S K (t_has_even_ends K) (as ++ List.replicate (5 - as.length) .u) ms (fin R) := by
  rintro as ms R ⟨a, b, rfl, m, ps, rfl, rfl, hm, hp, r⟩
  unfold t_has_even_ends
  refine s_new ?_
  walk_at "evs"
  refine rr_rep ⟨_, _, rfl, rfl, by omega, by omega, _, rfl, ?_⟩
  have e0 : List.replicate ((m : Int)).toNat (PyData.int 0) = (List.replicate m (0 : Int)).map .int := by simp
  rw [e0]
  refine s_seq ?_
  refine s_forL (js := [3, 4]) ?_
  walk_at "evs"
  refine ⟨_, .d _, fun k ds' ms' => ∃ o o2 : SD, ds' = [.d (.int m), .d (.list (ps.map encP)), .m ms.length, o, o2] ∧ ms' = ms ++ [.l ((oddL m (ps.take k)).map .int)], ⟨.u, .u, rfl, rfl⟩, ?_, ?_⟩
  · rintro k e ds' ms' hk ⟨o, o2, rfl, rfl⟩
    rw [List.getElem?_map] at hk
    cases q : ps[k]? with
    | none => rw [q] at hk; cases hk
    | some p =>
      rw [q] at hk
      have e1 := (Option.some.inj hk).symm
      subst e1
      obtain ⟨p1, p2⟩ := hp p (List.mem_of_getElem? q)
      have ll : (oddL m (ps.take k)).length = m := by unfold oddL; rw [odd_len m]; simp
      refine eg_tup rfl (egs_cons (eg_name (egs_cons (eg_name (egs_nil ?_)))))
      refine s_seq ?_
      refine s_augN rfl rfl (get1 _ _) (get_some (by omega)) ?_
      rw [set1]
      refine s_augN (ns := tog (oddL m (ps.take k)) p.1) rfl rfl (get1 _ _) (get_some (by rw [tog_len]; omega)) ?_
      rw [set1]
      refine ⟨_, _, rfl, ?_⟩
      rw [take_snoc q]
      unfold oddL
      rw [List.foldl_append]
      rfl
  · rintro ds' ms' ⟨o, o2, rfl, rfl⟩
    rw [List.length_map, List.take_length]
    walk_at "evs"
    refine rr_in ⟨1, oddL m ps, rfl, .inl (.m (get1 _ _)), ?_⟩
    exact ⟨ms, _, rfl, rfl, r⟩

def szF (p : Int × Int) : Int × Int := ((p.1.natAbs : Int), p.2)
def Φ_size_of : Ph := ph2 fun a b ms R => ∃ (m : Nat) (ts : List Tie) (i : Nat), a = .d (encW m ts) ∧ b = .d (.int i) ∧ i < ts.length ∧ R (.d (pr (szF (ts.getD i tie0).2.2))) ms
theorem len_size_of : ∀ as ms R, Φ_size_of as ms R → as.length = 2 := ph2_len
theorem rd_size_of {K : PySem.W.Frag} : ∀ as ms R, Φ_size_of as ms R → S K (t_size_of K) (as ++ List.replicate (4 - as.length) .u) ms (fin R) := by
  rintro as ms R ⟨a, b, rfl, m, ts, i, rfl, rfl, hi, r⟩
  unfold t_size_of
  walk_at "evs"
  refine s_asgG (js := [2, 3]) ?_
  walk_at "evs"
  refine rr_ix ⟨_, _, _, .inr (.d _), rfl, atI_nat (j := i) (tie_at hi), ?_⟩
  walk_at "evs"
  refine eg_tup rfl (egs_cons (eg_name (egs_cons (eg_name (egs_nil ?_)))))
  walk_at "evs"
  rw [abs_nat]
  exact r

def Φ_is_gainful : Ph := ph2 fun a b ms R => ∃ (m : Nat) (ts : List Tie) (i : Nat), a = .d (encW m ts) ∧ b = .d (.int i) ∧ i < ts.length ∧ R (.d (.bool (gainB (ts.getD i tie0)))) ms
theorem len_is_gainful : ∀ as ms R, Φ_is_gainful as ms R → as.length = 2 := ph2_len
theorem rd_is_gainful {K : PySem.W.Frag} : ∀ as ms R, Φ_is_gainful as ms R → S K (t_is_gainful K) (as ++ List.replicate (2 - as.length) .u) ms (fin R) := by
  rintro as ms R ⟨a, b, rfl, m, ts, i, rfl, rfl, hi, r⟩
  unfold t_is_gainful
  walk_at "evs"
  refine rr_ix ⟨_, _, _, .inr (.d _), rfl, atI_nat (j := i) (tie_at hi), ?_⟩
  walk_at "evs"
  exact r

/-- a join: two points, 0 or 1 -/
abbrev Jn := Nat × Nat × Nat
abbrev encJ (j : Jn) : PyData := .tuple [.int j.1, .int j.2.1, .int j.2.2]
structure JOk (m : Nat) (js : List Jn) : Prop where
  m60 : m ≤ 60
  len : js.length ≤ 200
  all : ∀ j ∈ js, j.1 < m ∧ j.2.1 < m ∧ j.1 ≠ j.2.1 ∧ j.2.2 < 2
/-- what stands at the point p of one join, numbered k -/
def atP (p k : Nat) (j : Jn) : List Jn := if j.1 = p then [(k, j.2.1, j.2.2)] else if j.2.1 = p then [(k, j.1, j.2.2)] else []
def nbr (js : List Jn) (p : Nat) : List Jn := (List.range js.length).flatMap fun k => match js[k]? with | some j => atP p k j | none => []
def nearJ (js : List Jn) (m : Nat) : List (List PyData) := (List.range m).map fun p => (nbr js p).map encJ
def Φ_joins_at : Ph := ph2 fun a b ms R => ∃ (m : Nat) (js : List Jn), a = .d (.int m) ∧ b = .d (.tuple (js.map encJ)) ∧ JOk m js ∧ R (.d (.list ((nearJ js m).map .list))) ms
theorem len_joins_at : ∀ as ms R, Φ_joins_at as ms R → as.length = 2 := ph2_len
theorem nearJ_get (js : List Jn) {m p : Nat} (h : p < m) : (nearJ js m)[p]? = some ((nbr js p).map encJ) := by
  unfold nearJ
  rw [List.getElem?_map, List.getElem?_range h]
  rfl
theorem nbr_snoc (js : List Jn) (j : Jn) (p : Nat) : nbr (js ++ [j]) p = nbr js p ++ atP p js.length j := by
  unfold nbr
  rw [List.length_append, List.length_singleton, List.range_succ, List.flatMap_append]
  congr 1
  · rw [List.flatMap_def, List.flatMap_def]
    congr 1
    refine List.map_congr_left fun k hk => ?_
    rw [List.getElem?_append_left (List.mem_range.mp hk)]
  · simp
theorem nbr_mem {js : List Jn} {p k o c : Nat} (h : (k, o, c) ∈ nbr js p) : ∃ j, js[k]? = some j ∧ j.2.2 = c ∧ ((j.1 = p ∧ j.2.1 = o) ∨ (j.2.1 = p ∧ j.1 = o)) := by
  unfold nbr at h
  obtain ⟨i, _, hi⟩ := List.mem_flatMap.mp h
  cases q : js[i]? with
  | none => rw [q] at hi; cases hi
  | some j =>
    rw [q] at hi
    have hi : (k, o, c) ∈ atP p i j := hi
    unfold atP at hi
    split at hi
    · rename_i h1
      simp at hi
      obtain ⟨rfl, rfl, rfl⟩ := hi
      exact ⟨j, q, rfl, .inl ⟨h1, rfl⟩⟩
    · split at hi
      · rename_i h1
        simp at hi
        obtain ⟨rfl, rfl, rfl⟩ := hi
        exact ⟨j, q, rfl, .inr ⟨h1, rfl⟩⟩
      · cases hi
theorem nbr_of {js : List Jn} {k : Nat} {j : Jn} (h : js[k]? = some j) (hne : j.1 ≠ j.2.1) : (k, j.2.1, j.2.2) ∈ nbr js j.1 ∧ (k, j.1, j.2.2) ∈ nbr js j.2.1 := by
  have hk := (List.getElem?_eq_some_iff.mp h).1
  unfold nbr
  refine ⟨List.mem_flatMap.mpr ⟨k, List.mem_range.mpr hk, ?_⟩, List.mem_flatMap.mpr ⟨k, List.mem_range.mpr hk, ?_⟩⟩
  · rw [h]
    simp [atP]
  · rw [h]
    simp [atP, hne]
theorem nbr_len (js : List Jn) (p : Nat) : (nbr js p).length ≤ js.length := by
  unfold nbr
  rw [List.flatMap_def, List.length_flatten]
  have : ∀ n, ((List.map List.length (List.map (fun k => match js[k]? with | some j => atP p k j | none => []) (List.range n)))).sum ≤ n := by
    intro n
    induction n with
    | zero => simp
    | succ n ih =>
      rw [List.range_succ, List.map_append, List.map_append, List.sum_append]
      have : (match js[n]? with | some j => atP p n j | none => []).length ≤ 1 := by
        split
        · unfold atP
          split
          · simp
          · split <;> simp
        · simp
      simp only [List.map_cons, List.map_nil, List.sum_cons, List.sum_nil]
      omega
  exact this js.length
theorem nearJ_snoc (js : List Jn) (j : Jn) {m : Nat} (h1 : j.1 < m) (h2 : j.2.1 < m) (hne : j.1 ≠ j.2.1) :
    nearJ (js ++ [j]) m = ((nearJ js m).set j.1 ((nbr js j.1).map encJ ++ [encJ (js.length, j.2.1, j.2.2)])).set j.2.1 ((nbr js j.2.1).map encJ ++ [encJ (js.length, j.1, j.2.2)]) := by
  apply List.ext_getElem?
  intro p
  have hl : (nearJ js m).length = m := by simp [nearJ]
  by_cases hp : p < m
  · rw [nearJ_get _ hp, nbr_snoc]
    by_cases e2 : p = j.2.1
    · subst e2
      rw [List.getElem?_set_self (by rw [List.length_set, hl]; exact h2)]
      unfold atP
      rw [if_neg hne, if_pos rfl, List.map_append]
      rfl
    · rw [List.getElem?_set_ne (Ne.symm e2)]
      by_cases e1 : p = j.1
      · subst e1
        rw [List.getElem?_set_self (by omega)]
        unfold atP
        rw [if_pos rfl, List.map_append]
        rfl
      · rw [List.getElem?_set_ne (Ne.symm e1), nearJ_get _ hp]
        unfold atP
        rw [if_neg (Ne.symm e1), if_neg (Ne.symm e2), List.append_nil]
  · rw [List.getElem?_eq_none (by simp [nearJ]; omega), List.getElem?_eq_none (by simp [nearJ]; omega)]
theorem rowsJ_set (n : Nat) (ms : List MD) (ess : List (List PyData)) (hn : ms.length = n) {p : Nat} (hp : p < ess.length) (x : List PyData) : (ms ++ rowsM n ess).set (n + p) (.l x) = ms ++ rowsM n (ess.set p x) := by
  subst hn
  rw [List.set_append_right _ _ (by omega)]
  unfold rowsM
  have : ms.length + p - ms.length = p := by omega
  rw [this, List.set_append_left _ _ (by simp; exact hp), List.map_set, List.length_set]
theorem rd_joins_at {K : PySem.W.Frag} : ∀ as ms R, Φ_joins_at as ms R → S K (t_joins_at K) (as ++ List.replicate (8 - as.length) .u) ms (fin R) := by
  rintro as ms R ⟨a, b, rfl, m, js, rfl, rfl, hw, r⟩
  have hl := hw.len
  have hm60 := hw.m60
  unfold t_joins_at
  refine s_newLL ?_
  walk_at "evs"
  refine ⟨by omega, ?_⟩
  refine s_seq (s_forET (js := [4, 5, 6, 7]) ?_)
  refine ea_cons (e_var rfl (ea_nil ⟨_, rfl, ?_⟩))
  have h0 : List.replicate m ([] : List PyData) = nearJ [] m := by
    apply List.ext_getElem?
    intro p
    by_cases hp : p < m
    · rw [nearJ_get _ hp, List.getElem?_replicate, if_pos hp]
      rfl
    · rw [List.getElem?_eq_none (by simp; omega), List.getElem?_eq_none (by simp [nearJ]; omega)]
  have nl : ∀ us, (nearJ us m).length = m := fun us => by simp [nearJ]
  refine ⟨fun k ds' ms' => ∃ o2 o3 o4 o5 o6 : SD, ds' = [.d (.int m), .d (.tuple (js.map encJ)), .m (ms.length + m), o2, o3, o4, o5, o6] ∧ ms' = ms ++ rowsM ms.length (nearJ (js.take k) m), ⟨.u, .u, .u, .u, .u, rfl, by rw [h0]; rfl⟩, ?_, ?_⟩
  · rintro k e ds' ms' he ⟨o2, o3, o4, o5, o6, rfl, rfl⟩
    rw [List.getElem?_map] at he
    cases q : js[k]? with
    | none => rw [q] at he; cases he
    | some j =>
      rw [q] at he
      have e1 := (Option.some.inj he).symm
      subst e1
      obtain ⟨t1, t2, tn, t3⟩ := hw.all j (List.mem_of_getElem? q)
      have hk := (List.getElem?_eq_some_iff.mp q).1
      have kl : (js.take k).length = k := by rw [List.length_take]; omega
      refine eg_tup rfl (egs_cons (eg_name (egs_cons (eg_tup rfl (egs_cons (eg_name (egs_cons (eg_name (egs_cons (eg_name (egs_nil (egs_nil ?_))))))))))))
      have top : ∀ ess : List (List PyData), ess.length = m → (ms ++ rowsM ms.length ess)[ms.length + m]? = some (.r (List.range' ms.length m)) := fun ess e => by
        have := rows_top ms.length ms ess
        rw [e] at this
        exact this
      have rg : ∀ p, p < m → (List.range' ms.length m)[p]? = some (ms.length + p) := fun p hp => by
        rw [List.getElem?_range' hp]
        simp
      have c1 := nbr_len (js.take k) j.1
      have c2 := nbr_len (js.take k) j.2.1
      have g1 := nearJ_get (js.take k) t1
      have g2 := nearJ_get (js.take k) t2
      refine s_seq (s_drop (e_append (e_op (e_varm rfl (e_var rfl (rr_ixR ⟨ms.length + m, j.1, ms.length + j.1, _, rfl, rfl, top _ (nl _), rg _ t1, ⟨_, rows_at _ _ _ g1⟩, _, rfl, ?_⟩))))))
      refine e_tup (ea_cons (e_var rfl (ea_cons (e_var rfl (ea_cons (e_var rfl (ea_nil ⟨_, (rfl : _ = List.map SD.d [_, _, _]), Nat.le_of_ble_eq_true rfl, ?_⟩)))))))
      refine ⟨_, _, rfl, rows_at _ _ _ g1, by rw [List.length_map]; omega, ?_⟩
      rw [rowsJ_set _ _ _ rfl (by rw [nl]; exact t1)]
      have g3 : ((nearJ (js.take k) m).set j.1 ((nbr (js.take k) j.1).map encJ ++ [PyData.tuple [.int k, .int j.2.1, .int j.2.2]]))[j.2.1]? = some ((nbr (js.take k) j.2.1).map encJ) := by
        rw [List.getElem?_set_ne tn]
        exact g2
      have l3 : ((nearJ (js.take k) m).set j.1 ((nbr (js.take k) j.1).map encJ ++ [PyData.tuple [.int k, .int j.2.1, .int j.2.2]])).length = m := by rw [List.length_set, nl]
      refine s_drop (e_append (e_op (e_varm rfl (e_var rfl (rr_ixR ⟨ms.length + m, j.2.1, ms.length + j.2.1, _, rfl, rfl, top _ l3, rg _ t2, ⟨_, rows_at _ _ _ g3⟩, _, rfl, ?_⟩)))))
      refine e_tup (ea_cons (e_var rfl (ea_cons (e_var rfl (ea_cons (e_var rfl (ea_nil ⟨_, (rfl : _ = List.map SD.d [_, _, _]), Nat.le_of_ble_eq_true rfl, ?_⟩)))))))
      refine ⟨_, _, rfl, rows_at _ _ _ g3, by rw [List.length_map]; omega, ?_⟩
      rw [rowsJ_set _ _ _ rfl (by rw [l3]; exact t2)]
      refine ⟨_, _, _, _, _, rfl, ?_⟩
      rw [take_snoc q, nearJ_snoc _ _ t1 t2 tn, kl]
  · rintro ds' ms' ⟨o2, o3, o4, o5, o6, rfl, rfl⟩
    walk_at "evs"
    have e : js.take (js.map encJ).length = js := by
      rw [List.take_of_length_le]
      simp
    rw [e]
    refine ⟨ms, _, rfl, rfl, nl _, ?_⟩
    show R (if ms.length + m < ms.length then _ else if ms.length + m = ms.length + (nearJ js m).length then _ else _) ms
    rw [if_neg (by omega), if_pos (by rw [nl])]
    exact r

/-- what the dict has for a point: its mark, the way to it -/
abbrev Ent := Nat × Nat × List Nat
def encE (e : Ent) : Key × PyData := (.inl (e.1 : Int), .tuple [.int e.2.1, .tuple (e.2.2.map fun (k : Nat) => .int k)])
def eF (js : List Jn) (x k : Nat) : Nat := match js[k]? with | some j => (if x = j.1 then 1 else 0) + (if x = j.2.1 then 1 else 0) | none => 0
def aF (js : List Jn) (k : Nat) : Nat := match js[k]? with | some j => j.2.2 | none => 0
def endN (js : List Jn) (w : List Nat) (x : Nat) : Nat := (w.map (eF js x)).sum
def apN (js : List Jn) (w : List Nat) : Nat := (w.map (aF js)).sum
/-- a join whose points have marks that fit -/
def Fits (js : List Jn) (es : List Ent) (k : Nat) : Prop := ∃ j c1 w1 c2 w2, js[k]? = some j ∧ (j.1, c1, w1) ∈ es ∧ (j.2.1, c2, w2) ∈ es ∧ (c1 + c2) % 2 = j.2.2
structure EOk (js : List Jn) (f : Nat) (es : List Ent) (e : Ent) : Prop where
  bit : e.2.1 < 2
  ap : apN js e.2.2 % 2 = e.2.1
  ends : ∀ x, endN js e.2.2 x % 2 = ((if x = f then 1 else 0) + (if x = e.1 then 1 else 0)) % 2
  nd : e.2.2.Nodup
  fit : ∀ k ∈ e.2.2, Fits js es k
  side : ∀ s : Nat → Nat, (∀ (k : Nat) (j : Jn), js[k]? = some j → (s j.1 + s j.2.1) % 2 = j.2.2) → (s f + s e.1) % 2 = e.2.1
  reach : ∀ C : Nat → Prop, (∀ p k o a, (k, o, a) ∈ nbr js p → C p → C o) → C f → C e.1
structure GOk (m : Nat) (js : List Jn) (f : Nat) (es : List Ent) : Prop where
  keys : (es.map (·.1)).Nodup
  lt : ∀ e ∈ es, e.1 < m
  fst : (f, 0, []) ∈ es
  all : ∀ e ∈ es, EOk js f es e
def Closed (js : List Jn) (es : List Ent) (p : Nat) : Prop := ∀ k o c, (k, o, c) ∈ nbr js p → ∃ e ∈ es, e.1 = o
def Φ_group_from : Ph := ph2 fun a b ms R => ∃ (m : Nat) (js : List Jn) (f : Nat), a = .d (.list ((nearJ js m).map .list)) ∧ b = .d (.int f) ∧ JOk m js ∧ f < m ∧
  ∀ es : List Ent, GOk m js f es → (∀ e ∈ es, Closed js es e.1) → R (.g (kD (es.map encE))) ms
theorem len_group_from : ∀ as ms R, Φ_group_from as ms R → as.length = 2 := ph2_len
theorem valE_none {es : List Ent} {p : Nat} (h : ∀ e ∈ es, e.1 ≠ p) : valD (es.map encE) (.inl (p : Int)) = none := by
  induction es with
  | nil => rfl
  | cons e r ih =>
    have h1 : ¬ ((encE e).1 = (.inl (p : Int) : Key)) := fun z => by
      have z' : (Sum.inl (e.1 : Int) : Key) = .inl (p : Int) := z
      injection z' with z'
      exact h e (by simp) (by omega)
    have := ih fun e he => h e (List.mem_cons_of_mem _ he)
    simp only [valD, List.map_cons, List.find?_cons, h1, decide_false] at this ⊢
    exact this
theorem valE_some {es : List Ent} {e : Ent} (h : e ∈ es) (nd : (es.map (·.1)).Nodup) : valD (es.map encE) (.inl (e.1 : Int)) = some (.tuple [.int e.2.1, .tuple (e.2.2.map fun (k : Nat) => .int k)]) := by
  induction es with
  | nil => cases h
  | cons a r ih =>
    rw [List.map_cons, List.nodup_cons] at nd
    by_cases z : a.1 = e.1
    · have : a = e := by
        rcases List.mem_cons.mp h with y | y
        · exact y.symm
        · exact absurd (List.mem_map.mpr ⟨e, y, z.symm⟩) nd.1
      subst this
      simp [valD, encE]
    · have h1 : ¬ ((encE a).1 = (.inl (e.1 : Int) : Key)) := fun y => by
        have y' : (Sum.inl (a.1 : Int) : Key) = .inl (e.1 : Int) := y
        injection y' with y'
        exact z (by omega)
      have h2 : e ∈ r := by
        rcases List.mem_cons.mp h with y | y
        · exact absurd (by rw [y]) z
        · exact y
      have := ih h2 nd.2
      simp only [valD, List.map_cons, List.find?_cons, h1, decide_false] at this ⊢
      exact this
theorem putE {es : List Ent} {p : Nat} (h : ∀ e ∈ es, e.1 ≠ p) (d : PyData) : putD (es.map encE) (.inl (p : Int)) d = es.map encE ++ [(.inl (p : Int), d)] := by
  unfold putD
  rw [if_neg]
  intro z
  obtain ⟨kv, hm, hk⟩ := List.any_eq_true.mp z
  obtain ⟨e, he, rfl⟩ := List.mem_map.mp hm
  have z' : (Sum.inl (e.1 : Int) : Key) = .inl (p : Int) := of_decide_eq_true hk
  injection z' with z'
  exact h e he (by omega)
theorem nd_len : ∀ (m : Nat) (l : List Nat), l.Nodup → (∀ x ∈ l, x < m) → l.length ≤ m
  | 0, l, _, h => by
    cases l with
    | nil => simp
    | cons a r => exact absurd (h a (by simp)) (by omega)
  | m + 1, l, nd, h => by
    have := nd_len m (l.erase m) (nd.erase m) (fun x hx => by
      have h1 := h x (List.mem_of_mem_erase hx)
      have h2 : x ≠ m := fun z => by subst z; exact absurd hx (by simp [nd.mem_erase_iff])
      omega)
    by_cases hm : m ∈ l
    · rw [List.length_erase_of_mem hm] at this
      omega
    · rw [List.erase_of_not_mem hm] at this
      omega
theorem xor2 {a b : Nat} (ha : a < 2) (hb : b < 2) : Builtin.bitXor (a : Int) (b : Int) = (((a + b) % 2 : Nat) : Int) := by
  have h1 : a = 0 ∨ a = 1 := by omega
  have h2 : b = 0 ∨ b = 1 := by omega
  rcases h1 with rfl | rfl <;> rcases h2 with rfl | rfl <;> decide
theorem Fits.mono {js : List Jn} {es es' : List Ent} {k : Nat} (h : ∀ e ∈ es, e ∈ es') (f : Fits js es k) : Fits js es' k := by
  obtain ⟨j, c1, w1, c2, w2, h1, h2, h3, h4⟩ := f
  exact ⟨j, c1, w1, c2, w2, h1, h _ h2, h _ h3, h4⟩
theorem EOk.mono {js : List Jn} {f : Nat} {es es' : List Ent} {e : Ent} (h : ∀ e ∈ es, e ∈ es') (k : EOk js f es e) : EOk js f es' e := ⟨k.bit, k.ap, k.ends, k.nd, fun i hi => (k.fit i hi).mono h, k.side, k.reach⟩
/-- one point more, over a join from a point that is there -/
theorem GOk.more {m : Nat} {js : List Jn} {f : Nat} {es : List Ent} (g : GOk m js f es) (hw : JOk m js) {p c : Nat} {w : List Nat} {k o a : Nat} (hp : (p, c, w) ∈ es) (hn : (k, o, a) ∈ nbr js p) (ho : ∀ e ∈ es, e.1 ≠ o) : GOk m js f (es ++ [(o, (c + a) % 2, w ++ [k])]) := by
  obtain ⟨j, hj, ha, hends⟩ := nbr_mem hn
  obtain ⟨t1, t2, tn, t3⟩ := hw.all j (List.mem_of_getElem? hj)
  have ep := g.all _ hp
  have sub : ∀ e ∈ es, e ∈ es ++ [(o, (c + a) % 2, w ++ [k])] := fun e he => List.mem_append_left _ he
  refine ⟨?_, fun e he => ?_, sub _ g.fst, fun e he => ?_⟩
  · rw [List.map_append]
    refine List.nodup_append.mpr ⟨g.keys, by simp, fun x hx y hy z => ?_⟩
    obtain ⟨e, he, rfl⟩ := List.mem_map.mp hx
    simp at hy
    exact ho e he (z.trans hy)
  · rcases List.mem_append.mp he with z | z
    · exact g.lt e z
    · have : e = (o, (c + a) % 2, w ++ [k]) := by simpa using z
      subst this
      rcases hends with ⟨_, h2⟩ | ⟨_, h2⟩ <;> (show o < m; omega)
  · rcases List.mem_append.mp he with z | z
    · exact (g.all e z).mono sub
    · have : e = (o, (c + a) % 2, w ++ [k]) := by simpa using z
      subst this
      have hop : o ≠ p := fun z => ho _ hp z.symm
      refine ⟨Nat.mod_lt _ (by decide), ?_, fun x => ?_, ?_, fun i hi => ?_, fun s hs => ?_, fun C hC h0 => hC p k o a hn (ep.reach C hC h0)⟩
      · show apN js (w ++ [k]) % 2 = (c + a) % 2
        have e1 : apN js (w ++ [k]) = apN js w + a := by simp [apN, aF, hj, ha]
        have e2 : apN js w % 2 = c := ep.ap
        rw [e1]
        omega
      · show endN js (w ++ [k]) x % 2 = ((if x = f then 1 else 0) + (if x = o then 1 else 0)) % 2
        have e1 : endN js (w ++ [k]) x = endN js w x + ((if x = j.1 then 1 else 0) + (if x = j.2.1 then 1 else 0)) := by simp [endN, eF, hj]
        have e2 : endN js w x % 2 = ((if x = f then 1 else 0) + (if x = p then 1 else 0)) % 2 := ep.ends x
        rw [e1]
        rcases hends with ⟨h1, h2⟩ | ⟨h1, h2⟩
        · rw [h1, h2]
          by_cases x1 : x = p
          · subst x1
            simp only [if_true, if_neg hop, if_neg (Ne.symm hop)] at e2 ⊢
            omega
          · simp only [if_neg x1, if_neg (Ne.symm x1)] at e2 ⊢
            by_cases x2 : x = o
            · subst x2; simp only [if_true] at e2 ⊢; omega
            · simp only [if_neg x2, if_neg (Ne.symm x2)] at e2 ⊢; omega
        · rw [h1, h2]
          by_cases x1 : x = p
          · subst x1
            simp only [if_true, if_neg hop, if_neg (Ne.symm hop)] at e2 ⊢
            omega
          · simp only [if_neg x1, if_neg (Ne.symm x1)] at e2 ⊢
            by_cases x2 : x = o
            · subst x2; simp only [if_true] at e2 ⊢; omega
            · simp only [if_neg x2, if_neg (Ne.symm x2)] at e2 ⊢; omega
      · show (w ++ [k]).Nodup
        refine List.nodup_append.mpr ⟨ep.nd, by simp, fun x hx y hy z => ?_⟩
        have hk : x = k := by simp at hy; exact z.trans hy
        subst hk
        obtain ⟨j2, c1, w1, c2, w2, f1, f2, f3, _⟩ := ep.fit x hx
        rw [hj] at f1
        cases f1
        rcases hends with ⟨_, h2⟩ | ⟨_, h2⟩
        · exact ho _ f3 h2
        · exact ho _ f2 h2
      · have hi : i ∈ w ++ [k] := hi
        rcases List.mem_append.mp hi with z | z
        · exact (ep.fit i z).mono sub
        · have : i = k := by simpa using z
          subst this
          have hb := ep.bit
          have hb : c < 2 := hb
          have new : (o, (c + a) % 2, w ++ [i]) ∈ es ++ [(o, (c + a) % 2, w ++ [i])] := List.mem_append_right _ (by simp)
          rcases hends with ⟨h1, h2⟩ | ⟨h1, h2⟩
          · exact ⟨j, c, w, (c + a) % 2, w ++ [i], hj, by rw [h1]; exact sub _ hp, by rw [h2]; exact new, by omega⟩
          · exact ⟨j, (c + a) % 2, w ++ [i], c, w, hj, by rw [h2]; exact new, by rw [h1]; exact sub _ hp, by omega⟩
      · show (s f + s o) % 2 = (c + a) % 2
        have e1 : (s f + s p) % 2 = c := ep.side s hs
        have e2 := hs k j hj
        rcases hends with ⟨h1, h2⟩ | ⟨h1, h2⟩
        · rw [h1, h2] at e2; omega
        · rw [h1, h2] at e2; omega
theorem rd_group_from {K : PySem.W.Frag} : ∀ as ms R, Φ_group_from as ms R → S K (t_group_from K) (as ++ List.replicate (10 - as.length) .u) ms (fin R) := by
  rintro as ms R ⟨a, b, rfl, m, js, f, rfl, rfl, hw, hf, r⟩
  have hm60 := hw.m60
  unfold t_group_from
  refine s_newD (e_disp1 (e_var rfl ⟨.inl (f : Int), rfl, ?_⟩))
  refine e_tup (ea_cons (e_int (ea_cons (e_tup (ea_nil ⟨[], rfl, Nat.zero_le _, ?_⟩)))))
  refine ea_nil ⟨[_, _], rfl, Nat.le_of_ble_eq_true rfl, ?_⟩
  refine ⟨_, rfl, _, rfl, ?_⟩
  refine s_new (e_lst (ea_cons (e_var rfl (ea_nil ⟨[_], rfl, Nat.le_of_ble_eq_true rfl, _, rfl, ?_⟩))))
  have hn : (ms ++ [MD.k [(keyD (.inl (f : Int)), PyData.tuple [.int 0, .tuple []])]]).length = ms.length + 1 := by simp
  rw [hn]
  have g0 : GOk m js f [(f, 0, [])] := ⟨by simp, by simpa using hf, by simp, fun e he => by
    have : e = (f, 0, []) := by simpa using he
    subst this
    refine ⟨Nat.zero_lt_succ _, rfl, fun x => ?_, List.nodup_nil, (fun k hk => by cases hk), fun s hs => ?_, fun C _ h0 => h0⟩
    · show 0 % 2 = ((if x = f then 1 else 0) + (if x = f then 1 else 0)) % 2
      split <;> rfl
    · show (s f + s f) % 2 = 0
      omega⟩
  have idx2 : ∀ (x y : MD), (ms ++ [x] ++ [y])[ms.length]? = some x := fun x y => by simp
  have idx3 : ∀ (x y : MD), (ms ++ [x] ++ [y])[ms.length + 1]? = some y := fun x y => by
    rw [List.getElem?_append_right (by simp)]
    simp
  have set2 : ∀ (x y z : MD), (ms ++ [x] ++ [y]).set ms.length z = ms ++ [z] ++ [y] := fun x y z => by
    rw [List.append_assoc, List.set_append_right _ _ (Nat.le_refl _), Nat.sub_self]
    simp
  have set3 : ∀ (x y z : MD), (ms ++ [x] ++ [y]).set (ms.length + 1) z = ms ++ [x] ++ [z] := fun x y z => by
    rw [List.set_append_right _ _ (by simp)]
    simp
  have shape : ∀ (es : List Ent) (wt : List Nat), GOk m js f es → es.length ≤ m := fun es wt g => by
    have := nd_len m (es.map (·.1)) g.keys (fun x hx => by
      obtain ⟨e, he, rfl⟩ := List.mem_map.mp hx
      exact g.lt e he)
    simpa using this
  refine s_seq (s_while (fun n ds' ms' => ∃ (es : List Ent) (wt : List Nat) (o4 o5 o6 o7 o8 o9 : SD), GOk m js f es ∧ (∀ p ∈ wt, ∃ e ∈ es, e.1 = p) ∧ (∀ e ∈ es, e.1 ∈ wt ∨ Closed js es e.1) ∧ n = wt.length + 2 * (m - es.length) ∧ wt.length ≤ es.length ∧
      ds' = [.d (.list ((nearJ js m).map .list)), .d (.int f), .q ms.length, .m (ms.length + 1), o4, o5, o6, o7, o8, o9] ∧ ms' = ms ++ [.k (kD (es.map encE))] ++ [.l (wt.map fun (p : Nat) => .int p)]) (1 + 2 * (m - 1))
    ⟨[(f, 0, [])], [f], .u, .u, .u, .u, .u, .u, g0, (by simp), (by simp), rfl, Nat.le_refl _, rfl, rfl⟩ ?_)
  rintro n ds' ms' ⟨es, wt, o4, o5, o6, o7, o8, o9, g, hwt, hcl, en, hle, rfl, rfl⟩
  refine et_tru (e_varm rfl ⟨_, .inl (.m (idx3 _ _)), fun hb => ?_, fun hb => ?_⟩)
  · cases wt with
    | nil => simp at hb
    | cons p wt =>
      obtain ⟨e, he, ep⟩ := hwt p (by simp)
      obtain ⟨p', c, w⟩ := e
      have ep : p' = p := ep
      subst ep
      have hpm := g.lt _ he
      have hpm : p' < m := hpm
      have hc : c < 2 := (g.all _ he).bit
      have hle2 : wt.length + 1 ≤ es.length := by simpa using hle
      refine s_seq (s_asg (e_popAt0 (e_varm rfl ⟨_, _, _, rfl, idx3 _ _, ?_⟩)))
      rw [set3]
      refine s_seq (s_asgG (js := [5, 6]) (e_dget (e_varq rfl (e_var rfl ⟨_, .inl (p' : Int), _, .q (idx2 _ _), rfl, valE_some he g.keys, ?_⟩))))
      refine eg_tup rfl (egs_cons (eg_name (egs_cons (eg_name (egs_nil ?_)))))
      refine s_forL (js := [7, 8, 9]) (e_op (e_var rfl (e_var rfl (rr_ix ⟨_, _, .list ((nbr js p').map encJ), .inl (.d _), rfl, atI_nat (by rw [List.getElem?_map, nearJ_get js hpm]; rfl), ?_⟩))))
      refine ⟨_, .d _, fun i ds2 ms2 => ∃ (es2 : List Ent) (wt2 : List Nat) (o7 o8 o9 : SD), GOk m js f es2 ∧ (∀ e ∈ es, e ∈ es2) ∧ (∀ q ∈ wt2, ∃ e ∈ es2, e.1 = q) ∧ (∀ q ∈ wt, q ∈ wt2) ∧ (∀ e ∈ es2, e ∈ es ∨ e.1 ∈ wt2) ∧
          (∀ (k : Nat) (x : Jn), k < i → (nbr js p')[k]? = some x → ∃ e ∈ es2, e.1 = x.2.1) ∧ es.length ≤ es2.length ∧ wt2.length + es.length = wt.length + es2.length ∧
          ds2 = [.d (.list ((nearJ js m).map .list)), .d (.int f), .q ms.length, .m (ms.length + 1), .d (.int p'), .d (.int c), .d (.tuple (w.map fun (k : Nat) => .int k)), o7, o8, o9] ∧ ms2 = ms ++ [.k (kD (es2.map encE))] ++ [.l (wt2.map fun (p : Nat) => .int p)],
        ⟨es, wt, _, _, _, g, (fun e he => he), (fun q hq => hwt q (List.mem_cons_of_mem _ hq)), (fun q hq => hq), (fun e he => .inl he), (fun k x hk => by omega), Nat.le_refl _, rfl, rfl, rfl⟩, ?_, ?_⟩
      · rintro i e2 ds2 ms2 hi ⟨es2, wt2, o7, o8, o9, g2, sub, hwt2, wsub, hnew, hdone, hel, hln, rfl, rfl⟩
        rw [List.getElem?_map] at hi
        cases qn : (nbr js p')[i]? with
        | none => rw [qn] at hi; cases hi
        | some x =>
          rw [qn] at hi
          have e1 := (Option.some.inj hi).symm
          subst e1
          obtain ⟨k, o, a⟩ := x
          have hx := List.mem_of_getElem? qn
          obtain ⟨j, hj, hja, _⟩ := nbr_mem hx
          have ha2 : a < 2 := by rw [← hja]; exact (hw.all j (List.mem_of_getElem? hj)).2.2.2
          have l2 := shape es2 wt2 g2
          refine eg_tup rfl (egs_cons (eg_name (egs_cons (eg_name (egs_cons (eg_name (egs_nil ?_)))))))
          refine s_if (et_B (e_dnotin (e_var rfl (e_varq rfl ⟨_, .inl (o : Int), .q (idx2 _ _), rfl, _, rfl, fun hb => ?_, fun hb => ?_⟩))))
          · have hno : ∀ e ∈ es2, e.1 ≠ o := fun e he z => by
              subst z
              rw [valE_some he g2.keys] at hb
              simp at hb
            refine s_seq (s_asgH (e_tup (ea_cons (e_op (e_var rfl (e_var rfl (rr_I0 ⟨_, _, rfl, rfl, ?_⟩)))))))
            have wl : w.length ≤ js.length := nd_len js.length w (g.all _ he).nd (fun k hk => by
              obtain ⟨j2, _, _, _, _, f1, _⟩ := (g.all _ he).fit k hk
              exact (List.getElem?_eq_some_iff.mp f1).1)
            have jl := hw.len
            refine ea_cons (e_op (e_var rfl (e_tup (ea_cons (e_var rfl (ea_nil ⟨[_], rfl, Nat.le_of_ble_eq_true rfl, rr_catA ⟨_, _, rfl, rfl, by simp; omega, ?_⟩⟩))))))
            refine ea_nil ⟨[_, _], rfl, Nat.le_of_ble_eq_true rfl, ?_⟩
            refine egh_set (e_varq rfl ⟨_, rfl, e_var rfl ⟨.inl (o : Int), _, rfl, idx2 _ _, by simp; omega, ?_⟩⟩)
            rw [set2, putE hno, xor2 hc ha2]
            have enc : es2.map encE ++ [(Sum.inl (o : Int), PyData.tuple [.int (((c + a) % 2 : Nat) : Int), .tuple ((w.map fun (k : Nat) => PyData.int k) ++ [PyData.int k])])] = (es2 ++ [(o, (c + a) % 2, w ++ [k])]).map encE := by
              simp [encE]
            rw [enc]
            refine s_drop (e_append (e_varm rfl ⟨_, rfl, e_var rfl ⟨_, _, rfl, idx3 _ _, ?_, ?_⟩⟩))
            · have : wt2.length ≤ 200 := by omega
              simp; omega
            · rw [set3]
              have g3 := g2.more hw (sub _ he) hx hno
              refine ⟨es2 ++ [(o, (c + a) % 2, w ++ [k])], wt2 ++ [o], _, _, _, g3, (fun e he => List.mem_append_left _ (sub e he)), ?_, (fun q hq => List.mem_append_left _ (wsub q hq)), ?_, ?_, by simp; omega, by simp; omega, rfl, by simp⟩
              · intro q hq
                rcases List.mem_append.mp hq with z | z
                · obtain ⟨e, he, ee⟩ := hwt2 q z
                  exact ⟨e, List.mem_append_left _ he, ee⟩
                · exact ⟨(o, (c + a) % 2, w ++ [k]), by simp, by simp at z; exact z.symm⟩
              · intro e he2
                rcases List.mem_append.mp he2 with z | z
                · rcases hnew e z with y | y
                  · exact .inl y
                  · exact .inr (List.mem_append_left _ y)
                · have : e = (o, (c + a) % 2, w ++ [k]) := by simpa using z
                  subst this
                  exact .inr (List.mem_append_right _ (by simp))
              · intro k2 x2 hk2 hx2
                by_cases hki : k2 = i
                · subst hki
                  rw [qn] at hx2
                  cases hx2
                  exact ⟨(o, (c + a) % 2, w ++ [k]), by simp, rfl⟩
                · obtain ⟨e, he, ee⟩ := hdone k2 x2 (by omega) hx2
                  exact ⟨e, List.mem_append_left _ he, ee⟩
          · refine s_next ⟨es2, wt2, _, _, _, g2, sub, hwt2, wsub, hnew, ?_, hel, hln, rfl, rfl⟩
            intro k2 x2 hk2 hx2
            by_cases hki : k2 = i
            · subst hki
              rw [qn] at hx2
              cases hx2
              apply Classical.byContradiction
              intro hno
              have hno' : ∀ e ∈ es2, e.1 ≠ o := fun e he z => hno ⟨e, he, z⟩
              rw [valE_none hno'] at hb
              simp at hb
            · exact hdone k2 x2 (by omega) hx2
      · rintro ds2 ms2 ⟨es2, wt2, o7, o8, o9, g2, sub, hwt2, wsub, hnew, hdone, hel, hln, rfl, rfl⟩
        have l2 := shape es2 wt2 g2
        have l1 := shape es wt g
        simp only [List.length_cons] at en hle
        refine ⟨wt2.length + 2 * (m - es2.length), by omega, es2, wt2, _, _, _, _, _, _, g2, hwt2, ?_, rfl, by omega, rfl, rfl⟩
        intro e he2
        rcases hnew e he2 with y | y
        · rcases hcl e y with z | z
          · rcases List.mem_cons.mp z with z | z
            · refine .inr fun k o a hk => ?_
              rw [z] at hk
              obtain ⟨i, hi, hie⟩ := List.getElem_of_mem hk
              exact hdone i (k, o, a) (by simpa using hi) (by rw [List.getElem?_eq_getElem hi, hie])
            · exact .inl (wsub _ z)
          · refine .inr fun k o a hk => ?_
            obtain ⟨e3, h3, h4⟩ := z k o a hk
            exact ⟨e3, sub _ h3, h4⟩
        · exact .inl y
  · have hwn : wt = [] := by
      cases wt with
      | nil => rfl
      | cons p wt => simp at hb
    subst hwn
    refine s_ret (e_varq rfl ⟨ms ++ [.k (kD (es.map encE))], [], rfl, by simp, ?_⟩)
    refine ⟨ms, kD (es.map encE), rfl, rfl, ?_⟩
    show R (if ms.length = ms.length then .g (kD (es.map encE)) else .q ms.length) ms
    rw [if_pos rfl]
    refine r es g fun e he => ?_
    rcases hcl e he with z | z
    · cases z
    · exact z

abbrev Row := Nat × Ent
section
variable {α : Type} {key : α → Nat} {v : α → PyData} {l : List α}
theorem valF_none {p : Nat} (h : ∀ e ∈ l, key e ≠ p) : valD (l.map fun a => ((.inl (key a : Int) : Key), v a)) (.inl (p : Int)) = none := by
  induction l with
  | nil => rfl
  | cons e r ih =>
    have h1 : ¬ ((.inl (key e : Int) : Key) = .inl (p : Int)) := fun z => by
      injection z with z
      exact h e (by simp) (by omega)
    have := ih fun e he => h e (List.mem_cons_of_mem _ he)
    simp only [valD, List.map_cons, List.find?_cons, h1, decide_false] at this ⊢
    exact this
theorem valF_some {e : α} (h : e ∈ l) (nd : (l.map key).Nodup) : valD (l.map fun a => ((.inl (key a : Int) : Key), v a)) (.inl (key e : Int)) = some (v e) := by
  induction l with
  | nil => cases h
  | cons a r ih =>
    rw [List.map_cons, List.nodup_cons] at nd
    by_cases z : key a = key e
    · rcases List.mem_cons.mp h with y | y
      · subst y
        simp [valD]
      · exact absurd (List.mem_map.mpr ⟨e, y, z.symm⟩) nd.1
    · have h1 : ¬ ((.inl (key a : Int) : Key) = .inl (key e : Int)) := fun y => by
        injection y with y
        exact z (by omega)
      have h2 : e ∈ r := by
        rcases List.mem_cons.mp h with y | y
        · exact absurd (by rw [y]) z
        · exact y
      have := ih h2 nd.2
      simp only [valD, List.map_cons, List.find?_cons, h1, decide_false] at this ⊢
      exact this
theorem putF {p : Nat} (h : ∀ e ∈ l, key e ≠ p) (d : PyData) : putD (l.map fun a => ((.inl (key a : Int) : Key), v a)) (.inl (p : Int)) d = (l.map fun a => ((.inl (key a : Int) : Key), v a)) ++ [(.inl (p : Int), d)] := by
  unfold putD
  rw [if_neg]
  intro z
  obtain ⟨kv, hm, hk⟩ := List.any_eq_true.mp z
  obtain ⟨e, he, rfl⟩ := List.mem_map.mp hm
  have z' : (.inl (key e : Int) : Key) = .inl (p : Int) := of_decide_eq_true hk
  injection z' with z'
  exact h e he (by omega)
end
abbrev dG (rs : List Row) : List (Key × PyData) := rs.map fun r => ((.inl (r.2.1 : Int) : Key), .int r.1)
abbrev dM (rs : List Row) : List (Key × PyData) := rs.map fun r => ((.inl (r.2.1 : Int) : Key), .int r.2.2.1)
abbrev dW (rs : List Row) : List (Key × PyData) := rs.map fun r => ((.inl (r.2.1 : Int) : Key), .tuple (r.2.2.2.map fun (k : Nat) => .int k))
/-- groups with their first points fs, each point's group, mark and way -/
structure SOk (m : Nat) (js : List Jn) (fs : List Nat) (rs : List Row) : Prop where
  keys : (rs.map fun r => r.2.1).Nodup
  lt : ∀ r ∈ rs, r.2.1 < m
  ok : ∀ r ∈ rs, ∃ f, fs[r.1]? = some f ∧ EOk js f (rs.map (·.2)) r.2 ∧ f ≤ r.2.1
  cl : ∀ r ∈ rs, ∀ k o c, (k, o, c) ∈ nbr js r.2.1 → ∃ r' ∈ rs, r'.1 = r.1 ∧ r'.2.1 = o
  fst : ∀ (g f : Nat), fs[g]? = some f → ((g, f, 0, []) : Row) ∈ rs
  rise : fs.Pairwise (· < ·)
theorem nbr_sym {m : Nat} {js : List Jn} (hw : JOk m js) {p k o a : Nat} (h : (k, o, a) ∈ nbr js p) : (k, p, a) ∈ nbr js o := by
  obtain ⟨j, hj, ha, he⟩ := nbr_mem h
  obtain ⟨_, _, hn, _⟩ := hw.all j (List.mem_of_getElem? hj)
  obtain ⟨h1, h2⟩ := nbr_of hj hn
  rcases he with ⟨e1, e2⟩ | ⟨e1, e2⟩
  · rw [ha, e1, e2] at h2; exact h2
  · rw [ha, e1, e2] at h1; exact h1
theorem SOk.apart {m : Nat} {js : List Jn} {fs : List Nat} {rs : List Row} {f : Nat} {es : List Ent} (hw : JOk m js) (s : SOk m js fs rs) (g : GOk m js f es) (hf : ∀ r ∈ rs, r.2.1 ≠ f) : ∀ e ∈ es, ∀ r ∈ rs, r.2.1 ≠ e.1 := fun e he r hr z => by
  have := (g.all e he).reach (fun p => ¬ ∃ r ∈ rs, r.2.1 = p) (fun p k o a hn hp ⟨r', hr', er⟩ => by
    have h1 := nbr_sym hw hn
    rw [← er] at h1
    obtain ⟨r2, h2, _, h3⟩ := s.cl r' hr' k p a h1
    exact hp ⟨r2, h2, h3⟩) (fun ⟨r', hr', er⟩ => hf r' hr' er)
  exact this ⟨r, hr, z⟩
theorem SOk.join {m : Nat} {js : List Jn} {fs : List Nat} {rs : List Row} {f : Nat} {es : List Ent} (hw : JOk m js) (s : SOk m js fs rs) (g : GOk m js f es) (hc : ∀ e ∈ es, Closed js es e.1) (hf : ∀ r ∈ rs, r.2.1 ≠ f)
    (hb : ∀ p, p < f → ∃ r ∈ rs, r.2.1 = p) (hfs : ∀ x ∈ fs, x < f) : SOk m js (fs ++ [f]) (rs ++ es.map fun e => (fs.length, e)) := by
  have ap := s.apart hw g hf
  have old : ∀ e ∈ rs.map (·.2), e ∈ (rs ++ es.map fun e => (fs.length, e)).map (·.2) := fun e he => by
    rw [List.map_append]; exact List.mem_append_left _ he
  have new : ∀ e ∈ es, e ∈ (rs ++ es.map fun e => (fs.length, e)).map (·.2) := fun e he => by
    rw [List.map_append, List.map_map]
    exact List.mem_append_right _ (List.mem_map.mpr ⟨e, he, rfl⟩)
  have gt : ∀ g x, fs[g]? = some x → (fs ++ [f])[g]? = some x := fun g x h => by
    rw [List.getElem?_append_left (List.getElem?_eq_some_iff.mp h).1]; exact h
  refine ⟨?_, fun r hr => ?_, fun r hr => ?_, fun r hr k o c hn => ?_, fun gi x h => ?_, ?_⟩
  · rw [List.map_append, List.map_map]
    refine List.nodup_append.mpr ⟨s.keys, g.keys, fun x hx y hy z => ?_⟩
    obtain ⟨r, hr, rfl⟩ := List.mem_map.mp hx
    obtain ⟨e, he, rfl⟩ := List.mem_map.mp hy
    exact ap e he r hr z
  · rcases List.mem_append.mp hr with z | z
    · exact s.lt r z
    · obtain ⟨e, he, rfl⟩ := List.mem_map.mp z
      exact g.lt e he
  · rcases List.mem_append.mp hr with z | z
    · obtain ⟨x, h1, h2, h3⟩ := s.ok r z
      exact ⟨x, gt _ _ h1, h2.mono old, h3⟩
    · obtain ⟨e, he, rfl⟩ := List.mem_map.mp z
      refine ⟨f, by simp, (g.all e he).mono new, ?_⟩
      apply Classical.byContradiction
      intro hlt
      obtain ⟨r, hr, er⟩ := hb e.1 (by show e.1 < f; exact Nat.lt_of_not_le hlt)
      exact ap e he r hr er
  · rcases List.mem_append.mp hr with z | z
    · obtain ⟨r', h1, h2, h3⟩ := s.cl r z k o c hn
      exact ⟨r', List.mem_append_left _ h1, h2, h3⟩
    · obtain ⟨e, he, rfl⟩ := List.mem_map.mp z
      obtain ⟨e', h1, h2⟩ := hc e he k o c hn
      exact ⟨(fs.length, e'), List.mem_append_right _ (List.mem_map.mpr ⟨e', h1, rfl⟩), rfl, h2⟩
  · by_cases hg : gi < fs.length
    · rw [List.getElem?_append_left hg] at h
      exact List.mem_append_left _ (s.fst gi x h)
    · have hl := (List.getElem?_eq_some_iff.mp h).1
      simp at hl
      have : gi = fs.length := by omega
      subst this
      simp at h
      subst h
      exact List.mem_append_right _ (List.mem_map.mpr ⟨_, g.fst, rfl⟩)
  · refine List.pairwise_append.mpr ⟨s.rise, by simp, fun x hx y hy => ?_⟩
    simp at hy
    subst hy
    exact hfs x hx
theorem s_back {K : PySem.W.Frag} {t u v : TS} {ds : List SD} {ms : List MD} {P : Po} (h : S K (tSeq t (tSeq u v)) ds ms P) : S K (tSeq (tSeq t u) v) ds ms P := h
def Φ_spread : Ph := ph2 fun a b ms R => ∃ (m : Nat) (js : List Jn), a = .d (.int m) ∧ b = .d (.tuple (js.map encJ)) ∧ JOk m js ∧
  ∀ (fs : List Nat) (rs : List Row), SOk m js fs rs → (∀ p, p < m → ∃ r ∈ rs, r.2.1 = p) → R (.d (.tuple [.dict (kD (dG rs)), .dict (kD (dM rs)), .dict (kD (dW rs))])) ms
theorem len_spread : ∀ as ms R, Φ_spread as ms R → as.length = 2 := ph2_len
theorem rd_spread {K : PySem.W.Frag} : ∀ as ms R, Φ_spread as ms R → S K (t_spread K Φ_joins_at Φ_group_from) (as ++ List.replicate (11 - as.length) .u) ms (fin R) := by
  rintro as ms R ⟨a, b, rfl, m, js, rfl, rfl, hw, r⟩
  have hm60 := hw.m60
  unfold t_spread
  refine s_seq (s_asg (e_call (ea_cons (e_var rfl (ea_cons (e_var rfl (ea_nil ⟨_, _, rfl, m, js, rfl, rfl, hw, ?_⟩)))))))
  refine s_assoc (s_assoc (s_mid (fun ds' ms' => ∃ (fs : List Nat) (rs : List Row) (o6 o7 o8 o9 o10 : SD), SOk m js fs rs ∧ (∀ p, p < m → ∃ r ∈ rs, r.2.1 = p) ∧ ms' = ms ∧
    ds' = [.d (.int m), .d (.tuple (js.map encJ)), .d (.list ((nearJ js m).map .list)), .d (.dict (kD (dG rs))), .d (.dict (kD (dM rs))), .d (.dict (kD (dW rs))), o6, o7, o8, o9, o10]) ?_ ?_))
  · refine s_back ?_
    refine s_par3D (s_newD (e_dnewG ⟨_, rfl, s_newD (e_dnewG ⟨_, rfl, s_newD (e_dnewG ⟨_, rfl, ?_⟩)⟩)⟩))
    have l1 : (ms ++ [MD.k []]).length = ms.length + 1 := by simp
    have l2 : (ms ++ [MD.k []] ++ [MD.k []]).length = ms.length + 2 := by simp
    rw [l1, l2]
    have ix0 : ∀ x y z : MD, (ms ++ [x] ++ [y] ++ [z])[ms.length]? = some x := fun x y z => by simp
    have ix1 : ∀ x y z : MD, (ms ++ [x] ++ [y] ++ [z])[ms.length + 1]? = some y := fun x y z => by
      rw [List.append_assoc (ms ++ [x]), List.getElem?_append_right (by simp)]
      simp
    have ix2 : ∀ x y z : MD, (ms ++ [x] ++ [y] ++ [z])[ms.length + 2]? = some z := fun x y z => by
      rw [List.getElem?_append_right (by simp)]
      simp
    have st0 : ∀ x y z u : MD, (ms ++ [x] ++ [y] ++ [z]).set ms.length u = ms ++ [u] ++ [y] ++ [z] := fun x y z u => by
      simp only [List.append_assoc]
      rw [List.set_append_right _ _ (Nat.le_refl _), Nat.sub_self]
      rfl
    have st1 : ∀ x y z u : MD, (ms ++ [x] ++ [y] ++ [z]).set (ms.length + 1) u = ms ++ [x] ++ [u] ++ [z] := fun x y z u => by
      simp only [List.append_assoc]
      rw [List.set_append_right _ _ (by omega), Nat.add_sub_cancel_left]
      rfl
    have st2 : ∀ x y z u : MD, (ms ++ [x] ++ [y] ++ [z]).set (ms.length + 2) u = ms ++ [x] ++ [y] ++ [u] := fun x y z u => by
      simp only [List.append_assoc]
      rw [List.set_append_right _ _ (by omega), Nat.add_sub_cancel_left]
      rfl
    refine s_seq (s_asg (e_int ?_))
    refine s_forR (js := [7]) (ea_cons (e_var rfl (ea_nil ⟨_, rfl, by omega, fun i ds' ms' => ∃ (fs : List Nat) (rs : List Row) (o7 o8 o9 o10 : SD), SOk m js fs rs ∧ (∀ p, p < i → ∃ r ∈ rs, r.2.1 = p) ∧ (∀ x ∈ fs, x < i) ∧
      ds' = [.d (.int m), .d (.tuple (js.map encJ)), .d (.list ((nearJ js m).map .list)), .q ms.length, .q (ms.length + 1), .q (ms.length + 2), .d (.int fs.length), o7, o8, o9, o10] ∧ ms' = ms ++ [.k (kD (dG rs))] ++ [.k (kD (dM rs))] ++ [.k (kD (dW rs))],
      ⟨[], [], .u, .u, .u, .u, ⟨List.nodup_nil, (fun r hr => by cases hr), (fun r hr => by cases hr), (fun r hr => by cases hr), (fun g f h => by simp at h), List.Pairwise.nil⟩, (fun p hp => by omega), (fun x hx => by cases hx), rfl, rfl⟩, ?_, ?_⟩)))
    · rintro i ds' ms' hi ⟨fs, rs, o7, o8, o9, o10, s, hb, hfs, rfl, rfl⟩
      have him : i < m := by omega
      refine eg_name ?_
      have rl : ∀ (fs : List Nat) (rs : List Row), SOk m js fs rs → rs.length ≤ 60 := fun fs rs s => by
        have := nd_len m (rs.map fun r => r.2.1) s.keys (fun x hx => by
          obtain ⟨r, hr, rfl⟩ := List.mem_map.mp hx
          exact s.lt r hr)
        simp at this
        omega
      refine s_if (et_B (e_dnotin (e_var rfl (e_varq rfl ⟨_, .inl (i : Int), .q (ix0 _ _ _), rfl, _, rfl, fun hb' => ?_, fun hb' => ?_⟩))))
      · have hno : ∀ r ∈ rs, r.2.1 ≠ i := fun r hr z => by
          subst z
          rw [valF_some (key := fun r : Row => r.2.1) hr s.keys] at hb'
          simp at hb'
        refine s_seq (s_forD (js := [8, 9, 10]) (e_call (ea_cons (e_var rfl (ea_cons (e_var rfl (ea_nil ⟨_, _, rfl, m, js, i, rfl, rfl, hw, him, fun es g hc => ?_⟩)))))))
        have ap := s.apart hw g hno
        have sj := s.join hw g hc hno hb hfs
        have rj := rl _ _ sj
        simp only [List.length_append, List.length_map] at rj
        refine ⟨_, rfl, fun k ds2 ms2 => ∃ (o8 o9 o10 : SD), ds2 = [.d (.int m), .d (.tuple (js.map encJ)), .d (.list ((nearJ js m).map .list)), .q ms.length, .q (ms.length + 1), .q (ms.length + 2), .d (.int fs.length), .d (.int i), o8, o9, o10] ∧
          ms2 = ms ++ [.k (kD (dG (rs ++ (es.take k).map fun e => (fs.length, e))))] ++ [.k (kD (dM (rs ++ (es.take k).map fun e => (fs.length, e))))] ++ [.k (kD (dW (rs ++ (es.take k).map fun e => (fs.length, e))))], ⟨_, _, _, rfl, by simp⟩, ?_, ?_⟩
        · rintro k kk ee ds2 ms2 hk ⟨o8, o9, o10, rfl, rfl⟩
          rw [List.getElem?_map] at hk
          cases qe : es[k]? with
          | none => rw [qe] at hk; cases hk
          | some e0 =>
            rw [qe] at hk
            have hk' : encE e0 = (kk, ee) := Option.some.inj hk
            unfold encE at hk'
            injection hk' with k1 k2
            subst k1 k2
            have hkl := (List.getElem?_eq_some_iff.mp qe).1
            have dis : ∀ r ∈ rs ++ (es.take k).map (fun e => (fs.length, e)), r.2.1 ≠ e0.1 := fun r hr => by
              rcases List.mem_append.mp hr with z | z
              · exact ap e0 (List.mem_of_getElem? qe) r z
              · obtain ⟨e, he, rfl⟩ := List.mem_map.mp z
                have nd := g.keys
                have sl : ((es.take (k + 1)).map (·.1)).Nodup := nd.sublist ((List.take_sublist _ _).map _)
                rw [take_snoc qe, List.map_append] at sl
                exact (List.nodup_append.mp sl).2.2 e.1 (List.mem_map.mpr ⟨e, he, rfl⟩) e0.1 (by simp)
            have hlen : (rs ++ (es.take k).map (fun e => (fs.length, e))).length < 10000 := by
              simp only [List.length_append, List.length_map, List.length_take]
              omega
            have nxt : rs ++ (es.take (k + 1)).map (fun e => (fs.length, e)) = (rs ++ (es.take k).map (fun e => (fs.length, e))) ++ [(fs.length, e0)] := by
              rw [take_snoc qe, List.map_append, List.append_assoc]
              rfl
            refine eg_tup rfl (egs_cons (eg_name (egs_cons (eg_tup rfl (egs_cons (eg_name (egs_cons (eg_name (egs_nil (egs_nil ?_))))))))))
            refine s_asgH (e_tup (ea_cons (e_var rfl (ea_cons (e_var rfl (ea_cons (e_var rfl (ea_nil ⟨[_, _, _], rfl, Nat.le_of_ble_eq_true rfl, ?_⟩))))))))
            refine egh_tup rfl (eghs_cons (egh_set (e_varq rfl ⟨_, rfl, e_var rfl ⟨.inl (e0.1 : Int), _, rfl, ix0 _ _ _, by rw [List.length_map]; exact hlen, ?_⟩⟩)))
            rw [st0, putF (key := fun r : Row => r.2.1) dis]
            refine eghs_cons (egh_set (e_varq rfl ⟨_, rfl, e_var rfl ⟨.inl (e0.1 : Int), _, rfl, ix1 _ _ _, by rw [List.length_map]; exact hlen, ?_⟩⟩))
            rw [st1, putF (key := fun r : Row => r.2.1) dis]
            refine eghs_cons (egh_set (e_varq rfl ⟨_, rfl, e_var rfl ⟨.inl (e0.1 : Int), _, rfl, ix2 _ _ _, by rw [List.length_map]; exact hlen, ?_⟩⟩))
            rw [st2, putF (key := fun r : Row => r.2.1) dis]
            refine eghs_nil ⟨_, _, _, rfl, ?_⟩
            rw [nxt]
            simp only [dG, dM, dW, List.map_append, List.map_cons, List.map_nil]
        · rintro ds2 ms2 ⟨o8, o9, o10, rfl, rfl⟩
          refine s_augI rfl (e_int ⟨_, rfl, ?_⟩)
          refine ⟨fs ++ [i], rs ++ es.map (fun e => (fs.length, e)), .d (.int i), o8, o9, o10, sj, fun p hp => ?_, fun x hx => ?_, ?_, ?_⟩
          · by_cases z : p = i
            · subst z
              exact ⟨(fs.length, p, 0, []), List.mem_append_right _ (List.mem_map.mpr ⟨_, g.fst, rfl⟩), rfl⟩
            · obtain ⟨r, hr, er⟩ := hb p (by omega)
              exact ⟨r, List.mem_append_left _ hr, er⟩
          · rcases List.mem_append.mp hx with z | z
            · have := hfs x z; omega
            · simp at z; omega
          · simp
          · rw [List.take_of_length_le (by simp)]
      · refine s_next ⟨fs, rs, _, _, _, _, s, fun p hp => ?_, fun x hx => by have := hfs x hx; omega, rfl, rfl⟩
        by_cases z : p = i
        · subst z
          apply Classical.byContradiction
          intro hno
          have hno' : ∀ r ∈ rs, r.2.1 ≠ p := fun r hr z => hno ⟨r, hr, z⟩
          rw [valF_none (key := fun r : Row => r.2.1) hno'] at hb'
          simp at hb'
        · exact hb p (by omega)
    · rintro ds' ms' ⟨fs, rs, o7, o8, o9, o10, s, hb, hfs, rfl, rfl⟩
      refine ⟨ms ++ [.k (kD (dG rs))] ++ [.k (kD (dM rs))], kD (dW rs), rfl, by simp, ms ++ [.k (kD (dG rs))], kD (dM rs), rfl, by simp, ms, kD (dG rs), rfl, rfl, ?_⟩
      refine ⟨fs, rs, frzSK ms.length (kD (dG rs)) (frzSK (ms.length + 1) (kD (dM rs)) (frzSK (ms.length + 2) (kD (dW rs)) (.d (.int fs.length)))), frzSK ms.length (kD (dG rs)) (frzSK (ms.length + 1) (kD (dM rs)) (frzSK (ms.length + 2) (kD (dW rs)) o7)), frzSK ms.length (kD (dG rs)) (frzSK (ms.length + 1) (kD (dM rs)) (frzSK (ms.length + 2) (kD (dW rs)) o8)), frzSK ms.length (kD (dG rs)) (frzSK (ms.length + 1) (kD (dM rs)) (frzSK (ms.length + 2) (kD (dW rs)) o9)), frzSK ms.length (kD (dG rs)) (frzSK (ms.length + 1) (kD (dM rs)) (frzSK (ms.length + 2) (kD (dW rs)) o10)), s, fun p hp => hb p (by simpa using hp), rfl, ?_⟩
      simp [frzSK]
  · rintro ds' ms' ⟨fs, rs, o6, o7, o8, o9, o10, s, hb, rfl, rfl⟩
    refine s_ret (e_tup (ea_cons (e_var rfl (ea_cons (e_var rfl (ea_cons (e_var rfl (ea_nil ⟨[_, _, _], rfl, Nat.le_of_ble_eq_true rfl, ?_⟩))))))))
    exact r fs rs s hb

abbrev tN (w : List Nat) : PyData := .tuple (w.map fun (k : Nat) => .int k)
def outOf (w1 w2 : List Nat) : List Nat := w1.filter fun k => !decide (k ∈ w2)
def Φ_ring_closed : Ph := ph3 fun a b c ms R => ∃ (w1 w2 : List Nat) (k : Nat), a = .d (tN w1) ∧ b = .d (tN w2) ∧ c = .d (.int k) ∧ w1.length ≤ 1000 ∧ w2.length ≤ 1000 ∧
  ∀ ns : List Nat, ns.Perm (outOf w1 w2 ++ outOf w2 w1 ++ [k]) → ns.Pairwise (· ≤ ·) → R (.d (tN ns)) ms
theorem len_ring_closed : ∀ as ms R, Φ_ring_closed as ms R → as.length = 3 := ph3_len
theorem outOf_snoc {w1 w2 : List Nat} {i x : Nat} (h : w1[i]? = some x) : outOf (w1.take (i + 1)) w2 = outOf (w1.take i) w2 ++ (if x ∈ w2 then [] else [x]) := by
  unfold outOf
  rw [take_snoc h, List.filter_append]
  by_cases z : x ∈ w2 <;> simp [z]
theorem mem_cast {x : Nat} {w : List Nat} : decide ((x : Int) ∈ w.map fun (k : Nat) => (k : Int)) = decide (x ∈ w) := by
  by_cases z : x ∈ w
  · rw [decide_eq_true z, decide_eq_true (List.mem_map.mpr ⟨x, z, rfl⟩)]
  · rw [decide_eq_false z, decide_eq_false fun y => by
      obtain ⟨a, ha, e⟩ := List.mem_map.mp y
      have : a = x := by omega
      exact z (this ▸ ha)]
theorem tN_ints (w : List Nat) : (w.map fun (k : Nat) => PyData.int k) = (w.map fun (k : Nat) => (k : Int)).map PyData.int := by
  rw [List.map_map]
  rfl
theorem nats_of : ∀ (ns : List Int) (w : List Nat), ns.Perm (w.map fun (k : Nat) => (k : Int)) → ∃ us : List Nat, ns = us.map (fun (k : Nat) => (k : Int)) ∧ us.Perm w := by
  intro ns w h
  refine ⟨ns.map Int.toNat, ?_, ?_⟩
  · rw [List.map_map]
    have : ∀ x ∈ ns, ((fun (k : Nat) => (k : Int)) ∘ Int.toNat) x = x := fun x hx => by
      obtain ⟨a, _, e⟩ := List.mem_map.mp (h.mem_iff.mp hx)
      subst e
      rfl
    rw [List.map_congr_left this]
    simp
  · have := h.map Int.toNat
    rw [List.map_map] at this
    have e : w.map (Int.toNat ∘ fun (k : Nat) => (k : Int)) = w := by
      have : (Int.toNat ∘ fun (k : Nat) => (k : Int)) = id := by
        funext x
        exact Int.toNat_natCast x
      rw [this, List.map_id]
    rw [e] at this
    exact this
theorem rd_ring_closed {K : PySem.W.Frag} : ∀ as ms R, Φ_ring_closed as ms R → S K (t_ring_closed K) (as ++ List.replicate (6 - as.length) .u) ms (fin R) := by
  rintro as ms R ⟨a, b, c, rfl, w1, w2, k, rfl, rfl, rfl, l1, l2, r⟩
  unfold t_ring_closed
  refine s_seq (s_asg (e_lcT (js := [4]) (by simp) (e_var rfl ⟨_, rfl, by rw [List.length_map]; omega, fun i acc ms' => acc = (outOf (w1.take i) w2).map (fun (k : Nat) => PyData.int k) ∧ ms = ms', ⟨rfl, rfl⟩, ?_, ?_⟩)))
  · rintro i e acc ms' hi ⟨rfl, rfl⟩
    rw [List.getElem?_map] at hi
    cases q : w1[i]? with
    | none => rw [q] at hi; cases hi
    | some x =>
      rw [q] at hi
      have e1 := (Option.some.inj hi).symm
      subst e1
      refine eg_name (et_test (e_op (e_var rfl (e_var rfl (rr_in ⟨x, w2.map fun (k : Nat) => (k : Int), rfl, .inr (by rw [← tN_ints]; exact .d _), ?_⟩)))))
      rw [mem_cast]
      refine ⟨_, rfl, fun hb => ?_, fun hb => ?_⟩
      · have hx : ¬ x ∈ w2 := by simpa using hb
        refine e_var rfl ⟨_, rfl, ?_, rfl⟩
        rw [outOf_snoc q, if_neg hx, List.map_append]
        rfl
      · have hx : x ∈ w2 := by simpa using hb
        refine ⟨?_, rfl⟩
        rw [outOf_snoc q, if_pos hx, List.append_nil]
  rintro acc _ ⟨rfl, hms⟩
  subst hms
  rw [List.length_map, List.take_length]
  refine s_seq (s_asg (e_lcT (js := [4]) (by simp) (e_var rfl ⟨_, rfl, by rw [List.length_map]; omega, fun i acc ms' => acc = (outOf (w2.take i) w1).map (fun (k : Nat) => PyData.int k) ∧ ms = ms', ⟨rfl, rfl⟩, ?_, ?_⟩)))
  · rintro i e acc ms' hi ⟨rfl, rfl⟩
    rw [List.getElem?_map] at hi
    cases q : w2[i]? with
    | none => rw [q] at hi; cases hi
    | some x =>
      rw [q] at hi
      have e1 := (Option.some.inj hi).symm
      subst e1
      refine eg_name (et_test (e_op (e_var rfl (e_var rfl (rr_in ⟨x, w1.map fun (k : Nat) => (k : Int), rfl, .inr (by rw [← tN_ints]; exact .d _), ?_⟩)))))
      rw [mem_cast]
      refine ⟨_, rfl, fun hb => ?_, fun hb => ?_⟩
      · have hx : ¬ x ∈ w1 := by simpa using hb
        refine e_var rfl ⟨_, rfl, ?_, rfl⟩
        rw [outOf_snoc q, if_neg hx, List.map_append]
        rfl
      · have hx : x ∈ w1 := by simpa using hb
        refine ⟨?_, rfl⟩
        rw [outOf_snoc q, if_pos hx, List.append_nil]
  rintro acc _ ⟨rfl, hms⟩
  subst hms
  rw [List.length_map, List.take_length]
  have o1 : (outOf w1 w2).length ≤ w1.length := List.length_filter_le _ _
  have o2 : (outOf w2 w1).length ≤ w2.length := List.length_filter_le _ _
  refine s_ret (e_cb (ea_cons (e_cb (ea_cons (e_op (e_op (e_var rfl (e_var rfl (rr_cat ⟨_, _, rfl, rfl, by simp; omega, ?_⟩)))))))))
  refine e_lst (ea_cons (e_var rfl (ea_nil ⟨[_], rfl, Nat.le_of_ble_eq_true rfl, rr_cat ⟨_, _, rfl, rfl, by simp; omega, ?_⟩⟩)))
  have cat : ((outOf w1 w2).map (fun (k : Nat) => PyData.int k) ++ (outOf w2 w1).map (fun (k : Nat) => PyData.int k)) ++ [PyData.int k] = ((outOf w1 w2 ++ outOf w2 w1 ++ [k]).map fun (k : Nat) => (k : Int)).map PyData.int := by
    simp only [List.map_append, List.map_cons, List.map_nil, List.map_map]
    rfl
  rw [cat]
  refine ea_nil (rc_sorted ⟨_, _, rfl, .d _, fun ns' hp hs => ?_⟩)
  refine ea_nil (rc_tuple ⟨_, _, rfl, .inl (.d _), ?_⟩)
  obtain ⟨us, rfl, hu⟩ := nats_of _ _ hp
  rw [← tN_ints]
  refine r us hu ?_
  rw [List.pairwise_map] at hs
  exact hs.imp fun h => by omega

structure RingOk (js : List Jn) (ns : List Nat) : Prop where
  rise : ns.Pairwise (· < ·)
  ne : ns ≠ []
  lt : ∀ k ∈ ns, k < js.length
  ends : ∀ x, endN js ns x % 2 = 0
  odd : apN js ns % 2 = 1
theorem sum_perm {α : Type} (f : α → Nat) {l l' : List α} (h : l.Perm l') : (l.map f).sum = (l'.map f).sum := by
  induction h with
  | nil => rfl
  | cons x _ ih => simp [ih]
  | swap x y l => simp; omega
  | trans _ _ h1 h2 => exact h1.trans h2
theorem sum_part (f : Nat → Nat) (p : Nat → Bool) : ∀ w : List Nat, (w.map f).sum = ((w.filter fun k => !p k).map f).sum + ((w.filter p).map f).sum
  | [] => rfl
  | x :: r => by
    have := sum_part f p r
    cases h : p x <;> simp [h, this] <;> omega
theorem nd_perm : ∀ {a b : List Nat}, a.Nodup → b.Nodup → (∀ x, x ∈ a ↔ x ∈ b) → a.Perm b
  | [], b, _, _, h => by
    cases b with
    | nil => exact .nil
    | cons x r => exact absurd ((h x).mpr (by simp)) (by simp)
  | x :: a, b, na, nb, h => by
    have hx : x ∈ b := (h x).mp (by simp)
    have h2 : a.Perm (b.erase x) := nd_perm (List.nodup_cons.mp na).2 (nb.erase x) fun y => by
      rw [nb.mem_erase_iff]
      constructor
      · intro hy
        exact ⟨fun z => by subst z; exact (List.nodup_cons.mp na).1 hy, (h y).mp (List.mem_cons_of_mem _ hy)⟩
      · rintro ⟨z, hy⟩
        rcases List.mem_cons.mp ((h y).mpr hy) with e | e
        · exact absurd e z
        · exact e
    exact (h2.cons x).trans (List.perm_cons_erase hx).symm
theorem sum_sym (f : Nat → Nat) {w1 w2 : List Nat} (n1 : w1.Nodup) (n2 : w2.Nodup) : (((outOf w1 w2 ++ outOf w2 w1).map f).sum) % 2 = ((w1.map f).sum + (w2.map f).sum) % 2 := by
  have e1 := sum_part f (fun k => decide (k ∈ w2)) w1
  have e2 := sum_part f (fun k => decide (k ∈ w1)) w2
  have pm : (w1.filter fun k => decide (k ∈ w2)).Perm (w2.filter fun k => decide (k ∈ w1)) := nd_perm (n1.filter _) (n2.filter _) fun x => by simp [and_comm]
  have e3 := sum_perm f pm
  unfold outOf
  rw [List.map_append, List.sum_append]
  omega
theorem row_inj {m : Nat} {js : List Jn} {fs : List Nat} {rs : List Row} (s : SOk m js fs rs) {r1 r2 : Row} (h1 : r1 ∈ rs) (h2 : r2 ∈ rs) (e : r1.2.1 = r2.2.1) : r1 = r2 := by
  have nd := s.keys
  clear s
  induction rs with
  | nil => cases h1
  | cons a r ih =>
    rw [List.map_cons, List.nodup_cons] at nd
    rcases List.mem_cons.mp h1 with z1 | z1 <;> rcases List.mem_cons.mp h2 with z2 | z2
    · rw [z1, z2]
    · subst z1
      exact absurd (List.mem_map.mpr ⟨r2, z2, e.symm⟩) nd.1
    · subst z2
      exact absurd (List.mem_map.mpr ⟨r1, z1, e⟩) nd.1
    · exact ih z1 z2 nd.2
/-- the ring that a join closes whose points have marks that don't fit -/
theorem ring_of {m : Nat} {js : List Jn} {fs : List Nat} {rs : List Row} (hw : JOk m js) (s : SOk m js fs rs) {k : Nat} {j : Jn} (hj : js[k]? = some j) {r1 r2 : Row} (h1 : r1 ∈ rs) (h2 : r2 ∈ rs) (e1 : r1.2.1 = j.1) (e2 : r2.2.1 = j.2.1)
    (odd : (r1.2.2.1 + r2.2.2.1) % 2 ≠ j.2.2) {ns : List Nat} (hp : ns.Perm (outOf r1.2.2.2 r2.2.2.2 ++ outOf r2.2.2.2 r1.2.2.2 ++ [k])) (hs : ns.Pairwise (· ≤ ·)) : RingOk js ns := by
  obtain ⟨_, _, hn, hb⟩ := hw.all j (List.mem_of_getElem? hj)
  obtain ⟨n1, n2⟩ := nbr_of hj hn
  rw [← e1] at n1
  obtain ⟨r', hr', g', p'⟩ := s.cl r1 h1 _ _ _ n1
  have : r' = r2 := row_inj s hr' h2 (p'.trans e2.symm)
  subst this
  obtain ⟨f1, q1, ok1, _⟩ := s.ok r1 h1
  obtain ⟨f2, q2, ok2, _⟩ := s.ok r' h2
  rw [g', q1] at q2
  cases q2
  have nofit : ¬ Fits js (rs.map (·.2)) k := fun ⟨j2, c1, w1, c2, w2, g1, g2, g3, g4⟩ => by
    rw [hj] at g1
    cases g1
    obtain ⟨a1, ha1, ea1⟩ := List.mem_map.mp g2
    obtain ⟨a2, ha2, ea2⟩ := List.mem_map.mp g3
    have i1 : a1 = r1 := row_inj s ha1 h1 (by rw [ea1, e1])
    have i2 : a2 = r' := row_inj s ha2 h2 (by rw [ea2, e2])
    subst i1 i2
    rw [ea1, ea2] at odd
    exact odd g4
  have k1 : k ∉ r1.2.2.2 := fun z => nofit (ok1.fit k z)
  have k2 : k ∉ r'.2.2.2 := fun z => nofit (ok2.fit k z)
  have nd : (outOf r1.2.2.2 r'.2.2.2 ++ outOf r'.2.2.2 r1.2.2.2 ++ [k]).Nodup := by
    refine List.nodup_append.mpr ⟨List.nodup_append.mpr ⟨ok1.nd.filter _, ok2.nd.filter _, fun x hx y hy z => ?_⟩, by simp, fun x hx y hy z => ?_⟩
    · subst z
      have a := List.mem_filter.mp hx
      have b := List.mem_filter.mp hy
      have : x ∉ r'.2.2.2 := by simpa using a.2
      exact this b.1
    · have : x = k := by simp at hy; exact z.trans hy
      subst this
      rcases List.mem_append.mp hx with y | y
      · exact k1 (List.mem_filter.mp y).1
      · exact k2 (List.mem_filter.mp y).1
  have hk : k < js.length := (List.getElem?_eq_some_iff.mp hj).1
  refine ⟨?_, fun z => ?_, fun i hi => ?_, fun x => ?_, ?_⟩
  · have nd2 : ns.Nodup := hp.nodup_iff.mpr nd
    have : ns.Pairwise fun a b => a ≤ b ∧ a ≠ b := hs.and nd2
    exact this.imp fun h => by omega
  · rw [z] at hp
    have := hp.length_eq
    simp at this
  · have := hp.mem_iff.mp hi
    rcases List.mem_append.mp this with y | y
    · rcases List.mem_append.mp y with y | y
      · obtain ⟨_, _, _, _, _, g1, _⟩ := ok1.fit i (List.mem_filter.mp y).1
        exact (List.getElem?_eq_some_iff.mp g1).1
      · obtain ⟨_, _, _, _, _, g1, _⟩ := ok2.fit i (List.mem_filter.mp y).1
        exact (List.getElem?_eq_some_iff.mp g1).1
    · simp at y
      omega
  · unfold endN
    rw [sum_perm _ hp, List.map_append, List.sum_append]
    have a := sum_sym (eF js x) ok1.nd ok2.nd
    have hk1 : eF js x k = (if x = j.1 then 1 else 0) + (if x = j.2.1 then 1 else 0) := by simp [eF, hj]
    have b1 := ok1.ends x
    have b2 := ok2.ends x
    unfold endN at b1 b2
    simp only [List.map_cons, List.map_nil, List.sum_cons, List.sum_nil, hk1]
    rw [e1] at b1
    rw [e2] at b2
    omega
  · unfold apN
    rw [sum_perm _ hp, List.map_append, List.sum_append]
    have a := sum_sym (aF js) ok1.nd ok2.nd
    have hk1 : aF js k = j.2.2 := by simp [aF, hj]
    have b1 := ok1.ap
    have b2 := ok2.ap
    unfold apN at b1 b2
    simp only [List.map_cons, List.map_nil, List.sum_cons, List.sum_nil, hk1]
    have c1 := ok1.bit
    have c2 := ok2.bit
    omega
def Φ_odd_rings : Ph := ph3 fun a b c ms R => ∃ (m : Nat) (js : List Jn) (fs : List Nat) (rs : List Row), a = .d (.tuple (js.map encJ)) ∧ b = .d (.dict (kD (dM rs))) ∧ c = .d (.dict (kD (dW rs))) ∧ JOk m js ∧ SOk m js fs rs ∧ (∀ p, p < m → ∃ r ∈ rs, r.2.1 = p) ∧
  ∀ ys : List (List Nat), (∀ ns ∈ ys, RingOk js ns) → (ys = [] → ∀ (k : Nat) (j : Jn), js[k]? = some j → Fits js (rs.map (·.2)) k) → R (.f (ys.map tN)) ms
theorem len_odd_rings : ∀ as ms R, Φ_odd_rings as ms R → as.length = 3 := ph3_len
theorem rd_odd_rings {K : PySem.W.Frag} : ∀ as ms R, Φ_odd_rings as ms R → S K (t_odd_rings K Φ_ring_closed) (as ++ List.replicate (8 - as.length) .u) ms (fin R) := by
  rintro as ms R ⟨a, b, c, rfl, m, js, fs, rs, rfl, rfl, rfl, hw, s, hall, r⟩
  have jl := hw.len
  unfold t_odd_rings
  refine s_new (e_lst (ea_nil ⟨[], rfl, Nat.zero_le _, _, rfl, ?_⟩))
  refine s_seq (s_forET (js := [4, 5, 6, 7]) (ea_cons (e_var rfl (ea_nil ⟨_, rfl, fun i ds' ms' => ∃ (ys : List (List Nat)) (o4 o5 o6 o7 : SD), (∀ ns ∈ ys, RingOk js ns) ∧ ys.length ≤ i ∧ (ys = [] → ∀ (k : Nat) (j : Jn), k < i → js[k]? = some j → Fits js (rs.map (·.2)) k) ∧
    ds' = [.d (.tuple (js.map encJ)), .d (.dict (kD (dM rs))), .d (.dict (kD (dW rs))), .m ms.length, o4, o5, o6, o7] ∧ ms' = ms ++ [.l (ys.map tN)], ⟨[], .u, .u, .u, .u, (fun ns h => by cases h), Nat.le_refl _, (fun _ k j hk => by omega), rfl, rfl⟩, ?_, ?_⟩))))
  · rintro i e ds' ms' hi ⟨ys, o4, o5, o6, o7, hys, hyl, hfit, rfl, rfl⟩
    rw [List.getElem?_map] at hi
    cases q : js[i]? with
    | none => rw [q] at hi; cases hi
    | some j =>
      rw [q] at hi
      have e1 := (Option.some.inj hi).symm
      subst e1
      have hil := (List.getElem?_eq_some_iff.mp q).1
      obtain ⟨t1, t2, tn, t3⟩ := hw.all j (List.mem_of_getElem? q)
      obtain ⟨r1, h1, p1⟩ := hall j.1 t1
      obtain ⟨r2, h2, p2⟩ := hall j.2.1 t2
      obtain ⟨_, _, ok1, _⟩ := s.ok r1 h1
      obtain ⟨_, _, ok2, _⟩ := s.ok r2 h2
      have v1 := valF_some (key := fun r : Row => r.2.1) (v := fun r : Row => PyData.int r.2.2.1) h1 s.keys
      have v2 := valF_some (key := fun r : Row => r.2.1) (v := fun r : Row => PyData.int r.2.2.1) h2 s.keys
      have u1 := valF_some (key := fun r : Row => r.2.1) (v := fun r : Row => tN r.2.2.2) h1 s.keys
      have u2 := valF_some (key := fun r : Row => r.2.1) (v := fun r : Row => tN r.2.2.2) h2 s.keys
      rw [p1] at v1 u1
      rw [p2] at v2 u2
      refine eg_tup rfl (egs_cons (eg_name (egs_cons (eg_tup rfl (egs_cons (eg_name (egs_cons (eg_name (egs_cons (eg_name (egs_nil (egs_nil ?_))))))))))))
      refine s_if (et_test (e_op (e_op (e_dget (e_var rfl (e_var rfl ⟨_, .inl (j.1 : Int), _, .d (dM rs), rfl, v1, ?_⟩))))))
      refine e_dget (e_var rfl (e_var rfl ⟨_, .inl (j.2.1 : Int), _, .d (dM rs), rfl, v2, rr_I0 ⟨_, _, rfl, rfl, ?_⟩⟩))
      rw [xor2 ok1.bit ok2.bit]
      refine e_var rfl (rr_ne ⟨_, _, .d _, .d _, rfl, rfl, ?_⟩)
      have eq : PyData.eqv (.int (((r1.2.2.1 + r2.2.2.1) % 2 : Nat) : Int)) (.int (j.2.2 : Nat)) = decide ((r1.2.2.1 + r2.2.2.1) % 2 = j.2.2) := by
        show ((((r1.2.2.1 + r2.2.2.1) % 2 : Nat) : Int) == ((j.2.2 : Nat) : Int)) = _
        by_cases z : (r1.2.2.1 + r2.2.2.1) % 2 = j.2.2
        · rw [z]; simp
        · rw [decide_eq_false z]
          simp
          omega
      rw [eq]
      refine ⟨_, rfl, fun hb => ?_, fun hb => ?_⟩
      · have odd : (r1.2.2.1 + r2.2.2.1) % 2 ≠ j.2.2 := by simpa using hb
        have len : ∀ {f : Nat} {e : Ent}, EOk js f (rs.map (·.2)) e → e.2.2.length ≤ 1000 := fun {f e} ok => by
          have := nd_len js.length e.2.2 ok.nd (fun k hk => by
            obtain ⟨_, _, _, _, _, g1, _⟩ := ok.fit k hk
            exact (List.getElem?_eq_some_iff.mp g1).1)
          omega
        refine s_drop (e_append (e_varm rfl ⟨_, rfl, e_call (ea_cons (e_dget (e_var rfl (e_var rfl ⟨_, .inl (j.1 : Int), _, .d (dW rs), rfl, u1, ?_⟩)))) ⟩))
        refine ea_cons (e_dget (e_var rfl (e_var rfl ⟨_, .inl (j.2.1 : Int), _, .d (dW rs), rfl, u2, ?_⟩)))
        refine ea_cons (e_var rfl (ea_nil ⟨_, _, _, rfl, r1.2.2.2, r2.2.2.2, i, rfl, rfl, rfl, len ok1, len ok2, fun ns hp hs => ?_⟩))
        have ring := ring_of hw s q h1 h2 p1 p2 odd hp hs
        refine ⟨_, _, rfl, (by simp : (ms ++ [MD.l (ys.map tN)])[ms.length]? = some (.l (ys.map tN))), by rw [List.length_map]; omega, ?_⟩
        refine ⟨ys ++ [ns], _, _, _, _, fun n hn => ?_, by simp; omega, (fun z => by simp at z), rfl, by simp⟩
        rcases List.mem_append.mp hn with z | z
        · exact hys n z
        · have : n = ns := by simpa using z
          subst this
          exact ring
      · have fit : (r1.2.2.1 + r2.2.2.1) % 2 = j.2.2 := by simpa using hb
        refine s_next ⟨ys, _, _, _, _, hys, by omega, fun z k j' hk hj' => ?_, rfl, rfl⟩
        by_cases hki : k = i
        · subst hki
          rw [q] at hj'
          cases hj'
          refine ⟨j, r1.2.2.1, r1.2.2.2, r2.2.2.1, r2.2.2.2, q, List.mem_map.mpr ⟨r1, h1, ?_⟩, List.mem_map.mpr ⟨r2, h2, ?_⟩, fit⟩
          · rw [← p1]
          · rw [← p2]
        · exact hfit z k j' (by omega) hj'
  · rintro ds' ms' ⟨ys, o4, o5, o6, o7, hys, hyl, hfit, rfl, rfl⟩
    refine s_ret (e_varm rfl ⟨ms, _, rfl, rfl, ?_⟩)
    show R (if ms.length = ms.length then .f (ys.map tN) else .m ms.length) ms
    rw [if_pos rfl]
    exact r ys hys fun z k j hj => hfit z k j (by rw [List.length_map]; exact (List.getElem?_eq_some_iff.mp hj).1) hj

def Φ_parted : Ph := ph2 fun a b ms R => ∃ (m : Nat) (js : List Jn), a = .d (.int m) ∧ b = .d (.tuple (js.map encJ)) ∧ JOk m js ∧
  (∀ ns, RingOk js ns → R (.d (.tuple [.str "ring", tN ns])) ms) ∧
  ∀ (fs : List Nat) (rs : List Row) (G C : Nat → Nat), SOk m js fs rs → (∀ p, p < m → ∃ w, ((G p, p, C p, w) : Row) ∈ rs) → (∀ (k : Nat) (j : Jn), js[k]? = some j → Fits js (rs.map (·.2)) k) →
    R (.d (.tuple [.str "groups", tN ((List.range m).map G), tN ((List.range m).map C)])) ms
theorem len_parted : ∀ as ms R, Φ_parted as ms R → as.length = 2 := ph2_len
theorem range_snocN (i : Nat) (G : Nat → Nat) : ((List.range (i + 1)).map G).map (fun (k : Nat) => PyData.int k) = ((List.range i).map G).map (fun (k : Nat) => PyData.int k) ++ [PyData.int (G i)] := by
  rw [List.range_succ, List.map_append, List.map_append]
  rfl
theorem rd_parted {K : PySem.W.Frag} : ∀ as ms R, Φ_parted as ms R → S K (t_parted K Φ_spread Φ_odd_rings) (as ++ List.replicate (7 - as.length) .u) ms (fin R) := by
  rintro as ms R ⟨a, b, rfl, m, js, rfl, rfl, hw, r1, r2⟩
  have hm60 := hw.m60
  unfold t_parted
  refine s_seq (s_asgG (js := [2, 3, 4]) (e_call (ea_cons (e_var rfl (ea_cons (e_var rfl (ea_nil ⟨_, _, rfl, m, js, rfl, rfl, hw, fun fs rs s hall => ?_⟩)))))))
  refine eg_tup rfl (egs_cons (eg_name (egs_cons (eg_name (egs_cons (eg_name (egs_nil ?_)))))))
  refine s_seq (s_asg (e_call (ea_cons (e_var rfl (ea_cons (e_var rfl (ea_cons (e_var rfl (ea_nil ⟨_, _, _, rfl, m, js, fs, rs, rfl, rfl, rfl, hw, s, hall, fun ys hys hfit => ?_⟩)))))))))
  refine s_seq (s_if (et_tru (e_var rfl ⟨_, .inl (.d _), fun hb => ?_, fun hb => ?_⟩)))
  · have hne : 0 < (ys.map tN).length := by
      cases ys with
      | nil => simp at hb
      | cons y t => simp
    refine s_ret (e_tup (ea_cons (e_str (ea_cons (e_minL (ea_cons (e_var rfl (ea_nil ⟨_, ⟨_, rfl, .d _⟩, hne, fun e he => ?_, fun e he => ?_⟩))))))))
    · obtain ⟨n, _, rfl⟩ := List.mem_map.mp he
      exact ⟨_, rfl⟩
    · obtain ⟨n, hn, rfl⟩ := List.mem_map.mp he
      refine ea_nil ⟨[_, _], rfl, Nat.le_of_ble_eq_true rfl, ?_⟩
      exact r1 n (hys n hn)
  · have hy0 : ys = [] := by
      cases ys with
      | nil => rfl
      | cons y t => simp at hb
    refine s_next ?_
    have hall' : ∀ p : Nat, ∃ r : Row, p < m → r ∈ rs ∧ r.2.1 = p := fun p => by
      by_cases hp : p < m
      · obtain ⟨r, h1, h2⟩ := hall p hp
        exact ⟨r, fun _ => ⟨h1, h2⟩⟩
      · exact ⟨(0, 0, 0, []), fun z => absurd z hp⟩
    obtain ⟨F, hF⟩ := Classical.axiomOfChoice hall'
    have vg : ∀ p, p < m → valD (dG rs) (.inl (p : Int)) = some (.int ((F p).1 : Nat)) := fun p hp => by
      have := valF_some (key := fun r : Row => r.2.1) (v := fun r : Row => PyData.int r.1) (hF p hp).1 s.keys
      rw [(hF p hp).2] at this
      exact this
    have vc : ∀ p, p < m → valD (dM rs) (.inl (p : Int)) = some (.int ((F p).2.2.1 : Nat)) := fun p hp => by
      have := valF_some (key := fun r : Row => r.2.1) (v := fun r : Row => PyData.int r.2.2.1) (hF p hp).1 s.keys
      rw [(hF p hp).2] at this
      exact this
    refine s_ret (e_tup (ea_cons (e_str (ea_cons (e_cb (ea_cons (e_lcR (js := [6]) (by simp) (ea_cons (e_var rfl (ea_nil ⟨_, rfl, by omega, fun i acc ms' => acc = ((List.range i).map fun p => (F p).1).map (fun (k : Nat) => PyData.int k) ∧ ms = ms', ⟨rfl, rfl⟩, ?_, ?_⟩))))))))))
    · rintro i acc _ hi ⟨rfl, hms⟩
      subst hms
      have hi' : i < m := by omega
      refine eg_name (et_yes ⟨fun _ => e_dget (e_var rfl (e_var rfl ⟨_, .inl (i : Int), _, .d (dG rs), rfl, vg i hi', ⟨_, rfl, ?_, rfl⟩⟩)), nofun⟩)
      rw [range_snocN]
    rintro acc _ ⟨rfl, hms⟩
    subst hms
    refine ea_nil (rc_tuple ⟨_, _, rfl, .inl (.d _), ?_⟩)
    refine ea_cons (e_cb (ea_cons (e_lcR (js := [6]) (by simp) (ea_cons (e_var rfl (ea_nil ⟨_, rfl, by omega, fun i acc ms' => acc = ((List.range i).map fun p => (F p).2.2.1).map (fun (k : Nat) => PyData.int k) ∧ ms = ms', ⟨rfl, rfl⟩, ?_, ?_⟩))))))
    · rintro i acc _ hi ⟨rfl, hms⟩
      subst hms
      have hi' : i < m := by omega
      refine eg_name (et_yes ⟨fun _ => e_dget (e_var rfl (e_var rfl ⟨_, .inl (i : Int), _, .d (dM rs), rfl, vc i hi', ⟨_, rfl, ?_, rfl⟩⟩)), nofun⟩)
      rw [range_snocN]
    rintro acc _ ⟨rfl, hms⟩
    subst hms
    refine ea_nil (rc_tuple ⟨_, _, rfl, .inl (.d _), ?_⟩)
    refine ea_nil ⟨[_, _, _], rfl, Nat.le_of_ble_eq_true rfl, ?_⟩
    refine r2 fs rs (fun p => (F p).1) (fun p => (F p).2.2.1) s (fun p hp => ⟨(F p).2.2.2, ?_⟩) (hfit hy0)
    have h1 := (hF p hp).1
    have h2 := (hF p hp).2
    generalize F p = q at h1 h2 ⊢
    obtain ⟨q1, q2, q3, q4⟩ := q
    have h2 : q2 = p := h2
    subst h2
    exact h1

def jOk (m : Nat) (j : Jn) : Prop := j.1 < m ∧ j.2.1 < m ∧ j.1 ≠ j.2.1 ∧ j.2.2 < 2
theorem unl_j {m : Nat} {j : Jn} (h : jOk m j) : unlB m (.int j.1) (.int j.2.1) = true := by
  obtain ⟨h1, h2, h3, h4⟩ := h
  have e : PyData.eqv (.int (j.1 : Int)) (.int (j.2.1 : Int)) = false := by
    show (((j.1 : Nat) : Int) == ((j.2.1 : Nat) : Int)) = false
    simp
    omega
  simp [unlB, numB, e]
  omega
theorem num_j {m : Nat} {j : Jn} (h : jOk m j) : numB 2 (.int j.2.2) = true := by
  obtain ⟨h1, h2, h3, h4⟩ := h
  simp [numB]
  omega
abbrev triJ (j : Jn) : List PyData := [.int j.1, .int j.2.1, .int j.2.2]
/-- a wish, as a list or a tuple -/
def RowJ (x : PyData) (j : Jn) : Prop := x = .list (triJ j) ∨ x = .tuple (triJ j)
theorem RowJ.trip {x : PyData} {j : Jn} (h : RowJ x j) : tripB x = true := by
  rcases h with rfl | rfl <;> rfl
def Φ_is_wish : Ph := ph2 fun a b ms R => ∃ (m : Nat) (w : PyData) (j : Jn) (x : PyData), a = .d (.tuple [.int m, w]) ∧ b = .d x ∧ RowJ x j ∧ jOk m j ∧ R (.d (.bool true)) ms
theorem len_is_wish : ∀ as ms R, Φ_is_wish as ms R → as.length = 2 := ph2_len
theorem rd_is_wish {K : PySem.W.Frag} : ∀ as ms R, Φ_is_wish as ms R → S K (t_is_wish K Φ_is_triple Φ_is_number_of Φ_are_unlike_points) (as ++ List.replicate (5 - as.length) .u) ms (fin R) := by
  rintro as ms R ⟨a, b, rfl, m, w, j, x, rfl, rfl, hx, hj, r⟩
  unfold t_is_wish
  refine s_seq (s_if (et_not (et_B (e_call (ea_cons (e_var rfl (ea_nil ⟨_, rfl, _, rfl, ?_⟩)))))))
  rw [hx.trip]
  refine ⟨true, rfl, nofun, fun _ => ?_⟩
  refine s_next ?_
  refine s_seq (s_asgG (js := [2, 3, 4]) (e_var rfl ?_))
  refine eg_rw hx rfl (egs_cons (eg_name (egs_cons (eg_name (egs_cons (eg_name (egs_nil ?_)))))))
  refine s_ret (e_and (e_call (ea_cons (e_op (e_var rfl (e_int (rr_ix ⟨_, _, _, .inr (.d _), rfl, atI_nat (j := 0) rfl, ?_⟩)))))))
  refine ea_cons (e_var rfl (ea_cons (e_var rfl (ea_nil ⟨_, _, _, rfl, m, _, _, rfl, rfl, rfl, ?_⟩))))
  rw [unl_j hj]
  refine ⟨true, rfl, fun _ => ?_, nofun⟩
  refine e_call (ea_cons (e_int (ea_cons (e_var rfl (ea_nil ⟨_, _, rfl, 2, _, rfl, rfl, ?_⟩)))))
  rw [num_j hj]
  exact r

/-- wishes, as a list or a tuple of such rows -/
structure RowsJ (x : PyData) (hs : List PyData) (js : List Jn) : Prop where
  row : x = .list hs ∨ x = .tuple hs
  len : hs.length = js.length
  all : ∀ (i : Nat) (h : PyData) (j : Jn), hs[i]? = some h → js[i]? = some j → RowJ h j
theorem RowsJ.at {x : PyData} {hs : List PyData} {js : List Jn} (r : RowsJ x hs js) {i : Nat} {h : PyData} (hi : hs[i]? = some h) : ∃ j, js[i]? = some j ∧ RowJ h j := by
  have l := (List.getElem?_eq_some_iff.mp hi).1
  have e : js[i]? = some (js[i]'(by rw [← r.len]; exact l)) := List.getElem?_eq_getElem _
  exact ⟨_, e, r.all i h _ hi e⟩
theorem RowsJ.isRow {x : PyData} {hs : List PyData} {js : List Jn} (r : RowsJ x hs js) : isRow x = true := by
  rcases r.row with rfl | rfl <;> rfl
theorem RowsJ.sv {x : PyData} {hs : List PyData} {js : List Jn} (r : RowsJ x hs js) (ms : List MD) : Sv ms (.d x) (.list hs) ∨ Sv ms (.d x) (.tuple hs) := by
  rcases r.row with rfl | rfl
  · exact .inl (.d _)
  · exact .inr (.d _)
def Φ_made_wishes : PhX := phx2 fun a b ms R Y => ∃ (m : Nat) (w x : PyData) (hs : List PyData) (js : List Jn), a = .d (.tuple [.int m, w]) ∧ b = .d x ∧ RowsJ x hs js ∧ js.length ≤ 120 ∧ (∀ j ∈ js, jOk m j) ∧ R (.d (.tuple (js.map encJ))) ms
theorem len_made_wishes : ∀ as ms R Y, Φ_made_wishes as ms R Y → as.length = 2 := phx2_len
theorem rd_made_wishes {K : PySem.W.Frag} {C_CutError C_NoWeb C_NoSide C_NoText C_NoWishes C_NoTurns C_NotFlat C_NoRing C_NoPaper C_NoShare C_NoTie C_NoWeight C_NoDeed C_TooGreat : Addr} : ∀ as ms R Y, Φ_made_wishes as ms R Y → SX K C_NoWishes (t_made_wishes K C_CutError C_NoWeb C_NoSide C_NoText C_NoWishes C_NoTurns C_NotFlat C_NoRing C_NoPaper C_NoShare C_NoTie C_NoWeight C_NoDeed C_TooGreat Φ_is_row Φ_is_wish) (as ++ List.replicate (3 - as.length) .u) ms (fin R) Y := by
  rintro as ms R Y ⟨a, b, rfl, m, w, x, hs, js, rfl, rfl, hr, hl, hj, r⟩
  have hln := hr.len
  unfold t_made_wishes
  refine sx_seq (sx_if ?_)
  refine et_or (et_not (et_B (e_call (ea_cons (e_var rfl (ea_nil ⟨_, rfl, _, rfl, ?_⟩))))))
  rw [hr.isRow]
  refine ⟨true, rfl, nofun, fun _ => ?_⟩
  refine et_test (e_op (e_cb (ea_cons (e_var rfl (ea_nil (rc_len ⟨_, hs, rfl, hr.sv _, e_int (rr_B0 ⟨_, _, rfl, rfl, _, rfl, fun h => ?_, fun _ => ?_⟩)⟩))))))
  · have h2 := of_decide_eq_true h
    omega
  refine sx_of (s_next ?_)
  have len : hs.length ≤ 10000 := by omega
  refine sx_seq (sx_if (et_not (et_B (e_cb (ea_cons (e_lcRow (js := [2]) rfl hr.row (by simp) len (fun i acc ms' => acc = (List.replicate i true).map PyData.bool ∧ ms = ms') ⟨rfl, rfl⟩ ?_ ?_))))))
  · rintro i e acc _ hi ⟨rfl, hms⟩
    subst hms
    obtain ⟨j, ej, rj⟩ := hr.at hi
    refine eg_name (et_yes ⟨fun _ => e_call (ea_cons (e_var rfl (ea_cons (e_var rfl (ea_nil ⟨_, _, rfl, m, w, j, e, rfl, rfl, rj, hj j (List.mem_of_getElem? ej), _, rfl, ?_, rfl⟩))))), nofun⟩)
    rw [List.replicate_succ', List.map_append]
    rfl
  rintro acc _ ⟨rfl, hms⟩
  subst hms
  refine ea_nil (rc_all ⟨_, _, rfl, .d _, _, rfl, fun h => ?_, fun _ => ?_⟩)
  · simp at h
  refine sx_of (s_next ?_)
  refine sx_of (s_ret (e_cb (ea_cons (e_lcRow (js := [2]) rfl hr.row (by simp) len (fun i acc ms' => acc = (js.map encJ).take i ∧ ms = ms') ⟨rfl, rfl⟩ ?_ ?_))))
  · rintro i e acc _ hi ⟨rfl, hms⟩
    subst hms
    obtain ⟨j, ej, rj⟩ := hr.at hi
    have ej' : (js.map encJ)[i]? = some (encJ j) := by rw [List.getElem?_map, ej]; rfl
    have sv : Sv ms (.d e) (.list (triJ j)) ∨ Sv ms (.d e) (.tuple (triJ j)) := by
      rcases rj with rfl | rfl
      · exact .inl (.d _)
      · exact .inr (.d _)
    refine eg_name (et_yes ⟨fun _ => e_cb (ea_cons (e_var rfl (ea_nil (rc_tuple ⟨_, _, rfl, sv, _, rfl, ?_, rfl⟩)))), nofun⟩)
    rw [take_snoc ej']
  rintro acc _ ⟨rfl, hms⟩
  subst hms
  have e : (js.map encJ).take hs.length = js.map encJ := by rw [hln, ← List.length_map (f := encJ), List.take_length]
  rw [e]
  exact ea_nil (rc_tuple ⟨_, _, rfl, .inl (.d _), r⟩)

def Φ_grouped : Ph := ph2 fun a b ms R => ∃ (m : Nat) (w x : PyData) (hs : List PyData) (js : List Jn), a = .d (.tuple [.int m, w]) ∧ b = .d x ∧ RowsJ x hs js ∧ js.length ≤ 120 ∧ JOk m js ∧
  (∀ ns, RingOk js ns → R (.d (.tuple [.str "ring", tN ns])) ms) ∧
  ∀ (fs : List Nat) (rs : List Row) (G C : Nat → Nat), SOk m js fs rs → (∀ p, p < m → ∃ w, ((G p, p, C p, w) : Row) ∈ rs) → (∀ (k : Nat) (j : Jn), js[k]? = some j → Fits js (rs.map (·.2)) k) →
    R (.d (.tuple [.str "groups", tN ((List.range m).map G), tN ((List.range m).map C)])) ms
theorem len_grouped : ∀ as ms R, Φ_grouped as ms R → as.length = 2 := ph2_len
theorem rd_grouped {K : PySem.W.Frag} {C_CutError C_NoWeb C_NoSide C_NoText C_NoWishes C_NoTurns C_NotFlat C_NoRing C_NoPaper C_NoShare C_NoTie C_NoWeight C_NoDeed C_TooGreat : Addr} : ∀ as ms R, Φ_grouped as ms R → S K (t_grouped K C_CutError C_NoWeb C_NoSide C_NoText C_NoWishes C_NoTurns C_NotFlat C_NoRing C_NoPaper C_NoShare C_NoTie C_NoWeight C_NoDeed C_TooGreat Φ_parted Φ_made_wishes) (as ++ List.replicate (2 - as.length) .u) ms (fin R) := by
  rintro as ms R ⟨a, b, rfl, m, w, x, hs, js, rfl, rfl, hr, hl, hj, r1, r2⟩
  unfold t_grouped
  refine s_ret (e_call (ea_cons (e_op (e_var rfl (e_int (rr_ix ⟨_, _, _, .inr (.d _), rfl, atI_nat (j := 0) rfl, ?_⟩))))))
  refine ea_cons (e_callX0 (ea_cons (e_var rfl (ea_cons (e_var rfl (ea_nil ⟨_, _, rfl, m, w, x, hs, js, rfl, rfl, hr, hl, hj.all, ?_⟩))))))
  exact ea_nil ⟨_, _, rfl, m, js, rfl, rfl, hj, r1, r2⟩

theorem sum_add (f g : Nat → Nat) : ∀ l : List Nat, (l.map fun x => f x + g x).sum = (l.map f).sum + (l.map g).sum
  | [] => rfl
  | x :: r => by
    have := sum_add f g r
    simp only [List.map_cons, List.sum_cons, this]
    omega

theorem sum_at (s : Nat → Nat) (a : Nat) : ∀ m : Nat, ((List.range m).map fun x => s x * (if x = a then 1 else 0)).sum = if a < m then s a else 0
  | 0 => by simp
  | m + 1 => by
    rw [List.range_succ, List.map_append, List.sum_append, sum_at s a m]
    simp only [List.map_cons, List.map_nil, List.sum_cons, List.sum_nil]
    by_cases h : m = a
    · subst h
      rw [if_neg (by omega), if_pos rfl, if_pos (by omega)]
      omega
    · by_cases h2 : a < m
      · rw [if_pos h2, if_neg h, if_pos (by omega)]
        omega
      · rw [if_neg h2, if_neg h, if_neg (by omega)]
        omega
def kF (js : List Jn) (s : Nat → Nat) (k : Nat) : Nat := match js[k]? with | some j => s j.1 + s j.2.1 | none => 0
theorem sum_ends {m : Nat} {js : List Jn} (hw : JOk m js) (s : Nat → Nat) : ∀ ns : List Nat, (∀ k ∈ ns, k < js.length) →
    ((List.range m).map fun x => s x * endN js ns x).sum = (ns.map (kF js s)).sum
  | [], _ => by
    have : ∀ l : List Nat, (l.map fun x => s x * endN js [] x).sum = 0 := fun l => by
      induction l with
      | nil => rfl
      | cons x r ih => simp only [List.map_cons, List.sum_cons, ih]; simp [endN]
    rw [this]
    rfl
  | k :: ns, h => by
    have ih := sum_ends hw s ns fun i hi => h i (List.mem_cons_of_mem _ hi)
    have hk := h k (by simp)
    have hj : js[k]? = some js[k] := List.getElem?_eq_getElem hk
    obtain ⟨h1, h2, h3, h4⟩ := hw.all js[k] (List.getElem_mem hk)
    have e1 : ∀ x, s x * endN js (k :: ns) x = (s x * (if x = (js[k]).1 then 1 else 0) + s x * (if x = (js[k]).2.1 then 1 else 0)) + s x * endN js ns x := fun x => by
      have : endN js (k :: ns) x = eF js x k + endN js ns x := by simp [endN]
      rw [this]
      have e2 : eF js x k = (if x = (js[k]).1 then 1 else 0) + (if x = (js[k]).2.1 then 1 else 0) := by simp [eF, hj]
      rw [e2, Nat.mul_add, Nat.mul_add]
    have e3 : (fun x => s x * endN js (k :: ns) x) = fun x => (fun x => (fun x => s x * (if x = (js[k]).1 then 1 else 0)) x + (fun x => s x * (if x = (js[k]).2.1 then 1 else 0)) x) x + (fun x => s x * endN js ns x) x := funext e1
    have e4 : kF js s k = s (js[k]).1 + s (js[k]).2.1 := by simp [kF, hj]
    rw [e3, sum_add, sum_add, sum_at, sum_at, ih, if_pos h1, if_pos h2, List.map_cons, List.sum_cons, e4]
theorem even_sum (s e : Nat → Nat) : ∀ l : List Nat, (∀ x ∈ l, e x % 2 = 0) → ((l.map fun x => s x * e x).sum) % 2 = 0
  | [], _ => rfl
  | x :: r, h => by
    have ih := even_sum s e r fun y hy => h y (List.mem_cons_of_mem _ hy)
    have hx := h x (by simp)
    simp only [List.map_cons, List.sum_cons]
    have : (s x * e x) % 2 = 0 := by rw [Nat.mul_mod, hx, Nat.mul_zero]
    omega
/-- where there is an odd ring no side keeps all joins -/
theorem ring_no {m : Nat} {js : List Jn} {ns : List Nat} (hw : JOk m js) (hr : RingOk js ns) (s : Nat → Nat) (hk : ∀ j ∈ js, (s j.1 + s j.2.1) % 2 = j.2.2) : False := by
  have e1 := sum_ends hw s ns hr.lt
  have e2 := even_sum s (fun x => endN js ns x) (List.range m) fun x _ => hr.ends x
  have e3 : ∀ l : List Nat, (∀ k ∈ l, k < js.length) → ((l.map (kF js s)).sum) % 2 = apN js l % 2 := fun l => by
    induction l with
    | nil => intro _; rfl
    | cons k r ih =>
      intro hl
      have ih := ih fun i hi => hl i (List.mem_cons_of_mem _ hi)
      have hkl := hl k (by simp)
      have hj : js[k]? = some js[k] := List.getElem?_eq_getElem hkl
      have hkk := hk js[k] (List.getElem_mem hkl)
      have ea : apN js (k :: r) = (js[k]).2.2 + apN js r := by simp [apN, aF, hj]
      have e4 : kF js s k = s (js[k]).1 + s (js[k]).2.1 := by simp [kF, hj]
      rw [List.map_cons, List.sum_cons, e4, ea]
      omega
  have e4 := e3 ns hr.lt
  have e5 := hr.odd
  rw [← e1] at e4
  omega
/-- .. so where there are groups there is none -/
theorem groups_no {m : Nat} {js : List Jn} {fs ns : List Nat} {rs : List Row} {G C : Nat → Nat} (hw : JOk m js) (s : SOk m js fs rs) (hall : ∀ p, p < m → ∃ w, ((G p, p, C p, w) : Row) ∈ rs)
    (hfit : ∀ (k : Nat) (j : Jn), js[k]? = some j → Fits js (rs.map (·.2)) k) (hr : RingOk js ns) : False := by
  refine ring_no hw hr C fun j hj => ?_
  obtain ⟨k, hk, ek⟩ := List.getElem_of_mem hj
  have hjk : js[k]? = some j := by rw [List.getElem?_eq_getElem hk, ek]
  obtain ⟨t1, t2, tn, t3⟩ := hw.all j hj
  obtain ⟨j2, c1, w1, c2, w2, g1, g2, g3, g4⟩ := hfit k j hjk
  rw [hjk] at g1
  cases g1
  obtain ⟨wa, ra⟩ := hall j.1 t1
  obtain ⟨wb, rb⟩ := hall j.2.1 t2
  obtain ⟨r1, hr1, er1⟩ := List.mem_map.mp g2
  obtain ⟨r2, hr2, er2⟩ := List.mem_map.mp g3
  have i1 : r1 = (G j.1, j.1, C j.1, wa) := row_inj s hr1 ra (by rw [er1])
  have i2 : r2 = (G j.2.1, j.2.1, C j.2.1, wb) := row_inj s hr2 rb (by rw [er2])
  rw [i1] at er1
  rw [i2] at er2
  have ec1 : C j.1 = c1 := congrArg (fun e : Ent => e.2.1) er1
  have ec2 : C j.2.1 = c2 := congrArg (fun e : Ent => e.2.1) er2
  rw [ec1, ec2]
  exact g4
theorem count_sum (f : Nat → Nat) (x : Nat) : ∀ l : List Nat, (l.map f).count x = (l.map fun k => if x = f k then 1 else 0).sum
  | [] => rfl
  | a :: r => by
    rw [List.map_cons, List.count_cons, count_sum f x r, List.map_cons, List.sum_cons]
    by_cases h : x = f a
    · subst h; simp; omega
    · have : ¬ (f a = x) := fun z => h z.symm
      simp [h, this]
theorem ends_sum {js : List Jn} {rg : List Nat} (hl : ∀ k ∈ rg, k < js.length) (x : Nat) : ((rg.map fun k => (js.getD k (0, 0, 0)).1).count x) + ((rg.map fun k => (js.getD k (0, 0, 0)).2.1).count x) = endN js rg x := by
  rw [count_sum, count_sum, ← sum_add]
  unfold endN
  congr 1
  refine List.map_congr_left fun k hk => ?_
  have h := hl k hk
  have e : js[k]? = some js[k] := List.getElem?_eq_getElem h
  simp [eF, e, List.getD]

theorem tog_get {l : List Int} {i : Nat} (hi : i < l.length) (j : Nat) : (tog l i).getD j 0 = if i = j then Builtin.bitXor (l.getD i 0) 1 else l.getD j 0 := by
  unfold tog
  by_cases e : i = j
  · subst e
    rw [if_pos rfl]
    simp [List.getD, hi]
  · rw [if_neg e]
    simp [List.getD, List.getElem?_set_ne e]
def Par (l : List Int) (c : Nat → Nat) : Prop := ∀ j, j < l.length → l.getD j 0 = ((c j % 2 : Nat) : Int)
theorem Par.flip {l : List Int} {c : Nat → Nat} (h : Par l c) {i : Nat} (hi : i < l.length) : Par (tog l i) (fun j => c j + if i = j then 1 else 0) := fun j hj => by
  rw [tog_len] at hj
  rw [tog_get hi]
  by_cases e : i = j
  · subst e
    rw [if_pos rfl, h i hi]
    simp only [if_true]
    rcases Nat.mod_two_eq_zero_or_one (c i) with z | z
    · have z2 : (c i + 1) % 2 = 1 := by omega
      rw [z, z2]
      decide
    · have z2 : (c i + 1) % 2 = 0 := by omega
      rw [z, z2]
      decide
  · rw [if_neg e, h j hj]
    simp [e]
theorem Par.fold : ∀ (ps : List (Nat × Nat)) (l : List Int) (c : Nat → Nat), Par l c → (∀ p ∈ ps, p.1 < l.length ∧ p.2 < l.length) → Par (ps.foldl (fun l p => tog (tog l p.1) p.2) l) (fun j => c j + (ps.map Prod.fst).count j + (ps.map Prod.snd).count j)
  | [], l, c, h, _ => fun j hj => by simpa using h j hj
  | p :: r, l, c, h, hp => by
    have h0 := hp p (by simp)
    have h1 := (h.flip h0.1).flip (i := p.2) (by rw [tog_len]; exact h0.2)
    have h2 := Par.fold r _ _ h1 (fun q hq => by rw [tog_len, tog_len]; exact hp q (by simp [hq]))
    intro j hj
    have h3 := h2 j hj
    have e : (c j + (if p.1 = j then 1 else 0) + (if p.2 = j then 1 else 0) + (r.map Prod.fst).count j + (r.map Prod.snd).count j) = c j + ((p :: r).map Prod.fst).count j + ((p :: r).map Prod.snd).count j := by
      rw [List.map_cons, List.map_cons, List.count_cons, List.count_cons]
      simp only [beq_iff_eq]
      omega
    show _ = (((c j + ((p :: r).map Prod.fst).count j + ((p :: r).map Prod.snd).count j) % 2 : Nat) : Int)
    rw [← e]
    exact h3

/-! ### groups and marks, told by the sides that keep the wishes -/
def KeepF (js : List Jn) (s : Nat → Nat) : Prop := ∀ j ∈ js, (s j.1 + s j.2.1) % 2 = j.2.2
/-- s is on each group as the marks, or turned -/
def FolF (m : Nat) (gs cs : List Nat) (s : Nat → Nat) : Prop := ∀ i j, i < m → j < m → gs.getD i 0 = gs.getD j 0 → (cs.getD i 0 + s i) % 2 = (cs.getD j 0 + s j) % 2
structure GrOk (m : Nat) (js : List Jn) (gs cs : List Nat) : Prop where
  lg : gs.length = m
  lc : cs.length = m
  lt : ∀ g ∈ gs, g < m
  bit : ∀ c ∈ cs, c < 2
  iff : ∀ s : Nat → Nat, KeepF js s ↔ FolF m gs cs s
section
variable {m : Nat} {js : List Jn} {gs cs gs' cs' : List Nat}
theorem GrOk.own (b : GrOk m js gs cs) : KeepF js fun x => cs.getD x 0 := (b.iff _).mpr fun x y _ _ _ => by omega
theorem GrOk.part (a : GrOk m js gs cs) (b : GrOk m js gs' cs') {i j : Nat} (hi : i < m) (hj : j < m) (h : gs.getD i 0 = gs.getD j 0) : gs'.getD i 0 = gs'.getD j 0 := by
  apply Classical.byContradiction
  intro hne
  have q1 := (a.iff _).mp b.own i j hi hj h
  have k2 : KeepF js fun x => cs'.getD x 0 + if gs'.getD x 0 = gs'.getD i 0 then 1 else 0 := (b.iff _).mpr fun x y _ _ e => by
    show (cs'.getD x 0 + (cs'.getD x 0 + if gs'.getD x 0 = gs'.getD i 0 then 1 else 0)) % 2 = (cs'.getD y 0 + (cs'.getD y 0 + if gs'.getD y 0 = gs'.getD i 0 then 1 else 0)) % 2
    rw [e]
    omega
  have q2 := (a.iff _).mp k2 i j hi hj h
  have hne' : ¬ gs'.getD j 0 = gs'.getD i 0 := fun z => hne z.symm
  simp only [if_true, if_neg hne'] at q1 q2
  omega
theorem GrOk.mark (a : GrOk m js gs cs) (b : GrOk m js gs' cs') {i j : Nat} (hi : i < m) (hj : j < m) (h : gs.getD i 0 = gs.getD j 0) : (cs.getD i 0 + cs'.getD i 0) % 2 = (cs.getD j 0 + cs'.getD j 0) % 2 :=
  (a.iff _).mp b.own i j hi hj h
theorem getD_all {p : Nat → Prop} {l : List Nat} (h : ∀ x ∈ l, p x) {i : Nat} (hi : i < l.length) : p (l.getD i 0) := h _ (by simp [List.getD, hi])
end
/-! ### rings of ties between groups -/
def prsG (ts : List Tie) (gs ns : List Nat) : List (Nat × Nat) := ns.map fun n => (gs.getD (ts.getD n tie0).1 0, gs.getD (ts.getD n tie0).2.1 0)
def lostT (cs : List Nat) (t : Tie) : Bool := (!decide (cs.getD t.1 0 = cs.getD t.2.1 0)) != gainB t
def oddG (ts : List Tie) (cs ns : List Nat) : Bool := decide ((ns.filter fun n => lostT cs (ts.getD n tie0)).length % 2 = 1)
def evenG (m : Nat) (ts : List Tie) (gs ns : List Nat) : Bool := !decide ((1 : Int) ∈ oddL m (prsG ts gs ns))
def ind (a x : Nat) : Nat := if a = x then 1 else 0
/-- how many ends at x -/
def cE (ps : List (Nat × Nat)) (x : Nat) : Nat := (ps.map fun p => ind p.1 x + ind p.2 x).sum
theorem cE_cnt : ∀ (ps : List (Nat × Nat)) (x : Nat), cE ps x = (ps.map Prod.fst).count x + (ps.map Prod.snd).count x
  | [], _ => rfl
  | p :: r, x => by
    have ih := cE_cnt r x
    have e : cE (p :: r) x = (ind p.1 x + ind p.2 x) + cE r x := rfl
    rw [e, ih, List.map_cons, List.map_cons, List.count_cons, List.count_cons]
    simp only [beq_iff_eq, ind]
    omega
theorem even_iff {m : Nat} {ps : List (Nat × Nat)} (hp : ∀ p ∈ ps, p.1 < m ∧ p.2 < m) : (!decide ((1 : Int) ∈ oddL m ps)) = true ↔ ∀ x, x < m → cE ps x % 2 = 0 := by
  have p0 : Par (List.replicate m 0) (fun _ => 0) := fun j hj => by
    rw [List.length_replicate] at hj
    simp [List.getD, hj]
  have pf := p0.fold ps _ _ (by simpa using hp)
  have hl : (oddL m ps).length = m := by
    unfold oddL
    rw [odd_len m]
    simp
  have at_ : ∀ x, x < m → (oddL m ps).getD x 0 = ((cE ps x % 2 : Nat) : Int) := fun x hx => by
    have := pf x (by show x < (oddL m ps).length; rw [hl]; exact hx)
    rw [cE_cnt]
    have e0 : 0 + (ps.map Prod.fst).count x + (ps.map Prod.snd).count x = (ps.map Prod.fst).count x + (ps.map Prod.snd).count x := by omega
    rw [← e0]
    exact this
  constructor
  · intro h x hx
    have h' : (1 : Int) ∉ oddL m ps := by simpa using h
    have e := at_ x hx
    rcases Nat.mod_two_eq_zero_or_one (cE ps x) with z | z
    · exact z
    · exfalso
      rw [z] at e
      exact h' (by
        have : (oddL m ps).getD x 0 ∈ oddL m ps := by simp [List.getD, hl, hx]
        rw [e] at this
        exact this)
  · intro h
    have h' : (1 : Int) ∉ oddL m ps := fun z => by
      obtain ⟨x, hx, ex⟩ := List.getElem_of_mem z
      have e := at_ x (by rw [← hl]; exact hx)
      rw [h x (by rw [← hl]; exact hx)] at e
      have : (oddL m ps).getD x 0 = 1 := by simp [List.getD, hx, ex]
      rw [this] at e
      cases e
    simpa using h'
theorem sum_pairs (f : Nat → Nat) (m : Nat) : ∀ ps : List (Nat × Nat), (∀ p ∈ ps, p.1 < m ∧ p.2 < m) → ((List.range m).map fun x => f x * cE ps x).sum = (ps.map fun p => f p.1 + f p.2).sum
  | [], _ => by
    have : ∀ l : List Nat, (l.map fun x => f x * cE [] x).sum = 0 := fun l => by
      induction l with
      | nil => rfl
      | cons x r ih => rw [List.map_cons, List.sum_cons, ih]; rfl
    exact this _
  | p :: r, h => by
    have ih := sum_pairs f m r fun q hq => h q (by simp [hq])
    obtain ⟨h1, h2⟩ := h p (by simp)
    have e : (fun x => f x * cE (p :: r) x) = fun x => ((fun x => (fun x => f x * (if x = p.1 then 1 else 0)) x + (fun x => f x * (if x = p.2 then 1 else 0)) x) x) + (fun x => f x * cE r x) x := funext fun x => by
      have e1 : cE (p :: r) x = (ind p.1 x + ind p.2 x) + cE r x := rfl
      have e2 : ∀ a, ind a x = if x = a then 1 else 0 := fun a => by
        unfold ind
        by_cases z : a = x
        · rw [if_pos z, if_pos z.symm]
        · rw [if_neg z, if_neg fun y => z y.symm]
      rw [e1, e2, e2, Nat.mul_add, Nat.mul_add]
    rw [e, sum_add, sum_add, sum_at, sum_at, if_pos h1, if_pos h2, ih, List.map_cons, List.sum_cons]
section
variable {m : Nat} {js : List Jn} {gs cs gs' cs' : List Nat} {ts : List Tie} {ns : List Nat}
theorem prs_lt (hg : gs.length = m) (lt : ∀ g ∈ gs, g < m) (hw : ∀ t ∈ ts, TieOk m t) (hn : ∀ n ∈ ns, n < ts.length) : ∀ p ∈ prsG ts gs ns, p.1 < m ∧ p.2 < m := fun p hp => by
  obtain ⟨n, hn', rfl⟩ := List.mem_map.mp hp
  have ht := hw _ (getD_mem (hn n hn'))
  have h1 := ht.lt
  have h2 := ht.lm
  exact ⟨getD_all (p := (· < m)) lt (by omega), getD_all (p := (· < m)) lt (by omega)⟩
theorem even_inv (a : GrOk m js gs cs) (b : GrOk m js gs' cs') (hw : ∀ t ∈ ts, TieOk m t) (hn : ∀ n ∈ ns, n < ts.length) (h : evenG m ts gs ns = true) : evenG m ts gs' ns = true := by
  have h0 := (even_iff (prs_lt a.lg a.lt hw hn)).mp h
  refine (even_iff (prs_lt b.lg b.lt hw hn)).mpr fun x hx => ?_
  by_cases hex : ∃ p, p < m ∧ gs'.getD p 0 = x
  · obtain ⟨p, hp, rfl⟩ := hex
    have e : cE (prsG ts gs' ns) (gs'.getD p 0) = cE (prsG ts gs ns) (gs.getD p 0) := by
      unfold cE prsG
      rw [List.map_map, List.map_map]
      congr 1
      refine List.map_congr_left fun n hn' => ?_
      have ht := hw _ (getD_mem (hn n hn'))
      have h1 := ht.lt
      have h2 := ht.lm
      have same : ∀ q, q < m → ind (gs'.getD q 0) (gs'.getD p 0) = ind (gs.getD q 0) (gs.getD p 0) := fun q hq => by
        unfold ind
        by_cases z : gs.getD q 0 = gs.getD p 0
        · rw [if_pos z, if_pos (a.part b hq hp z)]
        · rw [if_neg z, if_neg fun y => z (b.part a hq hp y)]
      show ind _ _ + ind _ _ = ind _ _ + ind _ _
      rw [same _ (by omega), same _ h2]
    rw [e]
    exact h0 _ (getD_all (p := (· < m)) a.lt (by rw [a.lg]; exact hp))
  · have e : ∀ l : List Nat, (∀ n ∈ l, n < ts.length) → cE (prsG ts gs' l) x = 0 := fun l => by
      induction l with
      | nil => intro _; rfl
      | cons n r ih =>
        intro hl
        have ht := hw _ (getD_mem (hl n (by simp)))
        have h1 := ht.lt
        have h2 := ht.lm
        have no : ∀ q, q < m → ind (gs'.getD q 0) x = 0 := fun q hq => by
          unfold ind
          rw [if_neg fun z => hex ⟨q, hq, z⟩]
        show (ind _ _ + ind _ _) + cE (prsG ts gs' r) x = 0
        rw [ih fun k hk => hl k (by simp [hk]), no _ (by omega), no _ h2]
    rw [e ns hn]
def gN (t : Tie) : Nat := if gainB t = true then 1 else 0
theorem odd_sum (hc : ∀ i, cs.getD i 0 < 2) : ∀ ns : List Nat, (ns.filter fun n => lostT cs (ts.getD n tie0)).length % 2 = (ns.map fun n => cs.getD (ts.getD n tie0).1 0 + cs.getD (ts.getD n tie0).2.1 0 + gN (ts.getD n tie0)).sum % 2
  | [] => rfl
  | n :: r => by
    have ih := odd_sum hc r
    have h1 := hc (ts.getD n tie0).1
    have h2 := hc (ts.getD n tie0).2.1
    rw [List.map_cons, List.sum_cons, List.filter_cons]
    generalize hS : (r.map fun n => cs.getD (ts.getD n tie0).1 0 + cs.getD (ts.getD n tie0).2.1 0 + gN (ts.getD n tie0)).sum = S at *
    generalize ts.getD n tie0 = t at *
    generalize (r.filter fun n => lostT cs (ts.getD n tie0)) = Q at *
    have l1 : (if lostT cs t = true then n :: Q else Q).length = (if lostT cs t = true then 1 else 0) + Q.length := by
      split
      · rw [List.length_cons]; omega
      · omega
    rw [l1]
    have l2 : (if lostT cs t = true then 1 else 0) % 2 = (cs.getD t.1 0 + cs.getD t.2.1 0 + gN t) % 2 := by
      unfold lostT gN
      generalize cs.getD t.1 0 = x at *
      generalize cs.getD t.2.1 0 = y at *
      have hx : x = 0 ∨ x = 1 := by omega
      have hy : y = 0 ∨ y = 1 := by omega
      cases gainB t <;> rcases hx with rfl | rfl <;> rcases hy with rfl | rfl <;> rfl
    omega
theorem bit_at (h : ∀ c ∈ cs, c < 2) (i : Nat) : cs.getD i 0 < 2 := by
  by_cases hi : i < cs.length
  · exact getD_all (p := (· < 2)) h hi
  · simp [List.getD, hi]
theorem odd_inv (a : GrOk m js gs cs) (b : GrOk m js gs' cs') (hw : ∀ t ∈ ts, TieOk m t) (hn : ∀ n ∈ ns, n < ts.length) (he : evenG m ts gs ns = true) (h : oddG ts cs ns = true) : oddG ts cs' ns = true := by
  have h0 := (even_iff (prs_lt a.lg a.lt hw hn)).mp he
  have hex : ∀ g, ∃ p, (∃ q, q < m ∧ gs.getD q 0 = g) → p < m ∧ gs.getD p 0 = g := fun g => by
    by_cases z : ∃ q, q < m ∧ gs.getD q 0 = g
    · obtain ⟨q, h1, h2⟩ := z
      exact ⟨q, fun _ => ⟨h1, h2⟩⟩
    · exact ⟨0, fun y => absurd y z⟩
  obtain ⟨F, hF⟩ := Classical.axiomOfChoice hex
  have s0 := sum_pairs (fun g => cs.getD (F g) 0 + cs'.getD (F g) 0) m (prsG ts gs ns) (prs_lt a.lg a.lt hw hn)
  have s1 := even_sum (fun g => cs.getD (F g) 0 + cs'.getD (F g) 0) (cE (prsG ts gs ns)) (List.range m) fun x hx => h0 x (List.mem_range.mp hx)
  rw [s0] at s1
  have o1 := odd_sum (ts := ts) (bit_at a.bit) ns
  have o2 := odd_sum (ts := ts) (bit_at b.bit) ns
  have key : ∀ l : List Nat, (∀ n ∈ l, n < ts.length) → ((l.map fun n => cs.getD (ts.getD n tie0).1 0 + cs.getD (ts.getD n tie0).2.1 0 + gN (ts.getD n tie0)).sum + ((prsG ts gs l).map fun p => (cs.getD (F p.1) 0 + cs'.getD (F p.1) 0) + (cs.getD (F p.2) 0 + cs'.getD (F p.2) 0)).sum) % 2 = (l.map fun n => cs'.getD (ts.getD n tie0).1 0 + cs'.getD (ts.getD n tie0).2.1 0 + gN (ts.getD n tie0)).sum % 2 := fun l => by
    induction l with
    | nil => intro _; rfl
    | cons n r ih =>
      intro hl
      have ih := ih fun k hk => hl k (by simp [hk])
      have ht := hw _ (getD_mem (hl n (by simp)))
      have h1 := ht.lt
      have h2 := ht.lm
      have m1 : ∀ q, q < m → (cs.getD (F (gs.getD q 0)) 0 + cs'.getD (F (gs.getD q 0)) 0) % 2 = (cs.getD q 0 + cs'.getD q 0) % 2 := fun q hq => by
        obtain ⟨f1, f2⟩ := hF (gs.getD q 0) ⟨q, hq, rfl⟩
        exact a.mark b f1 hq f2
      have e1 := m1 (ts.getD n tie0).1 (by omega)
      have e2 := m1 (ts.getD n tie0).2.1 h2
      rw [List.map_cons, List.sum_cons, List.map_cons, List.sum_cons]
      show (_ + (((cs.getD (F (gs.getD (ts.getD n tie0).1 0)) 0 + cs'.getD (F (gs.getD (ts.getD n tie0).1 0)) 0) + (cs.getD (F (gs.getD (ts.getD n tie0).2.1 0)) 0 + cs'.getD (F (gs.getD (ts.getD n tie0).2.1 0)) 0)) + ((prsG ts gs r).map fun p => (cs.getD (F p.1) 0 + cs'.getD (F p.1) 0) + (cs.getD (F p.2) 0 + cs'.getD (F p.2) 0)).sum)) % 2 = _
      omega
  have k := key ns hn
  unfold oddG at h ⊢
  have h' := of_decide_eq_true h
  refine decide_eq_true ?_
  rw [o2, ← k]
  rw [o1] at h'
  have s1' : (((prsG ts gs ns).map fun p => (cs.getD (F p.1) 0 + cs'.getD (F p.1) 0) + (cs.getD (F p.2) 0 + cs'.getD (F p.2) 0)).sum) % 2 = 0 := s1
  omega
end

theorem rise_len {m : Nat} : ∀ {fs : List Nat} {a : Nat}, fs.Pairwise (· < ·) → (∀ x ∈ fs, a ≤ x ∧ x < m) → fs.length + a ≤ m ∨ fs = []
  | [], _, _, _ => .inr rfl
  | x :: r, a, hp, h => by
    obtain ⟨h1, h2⟩ := h x (by simp)
    rw [List.pairwise_cons] at hp
    rcases rise_len (m := m) (a := x + 1) hp.2 (fun y hy => ⟨hp.1 y hy, (h y (by simp [hy])).2⟩) with z | z
    · left; simp only [List.length_cons]; omega
    · left; subst z; simp only [List.length_cons, List.length_nil]; omega
theorem gr_of {m : Nat} {js : List Jn} {fs : List Nat} {rs : List Row} {G C : Nat → Nat} (hw : JOk m js) (s : SOk m js fs rs) (hall : ∀ p, p < m → ∃ w, ((G p, p, C p, w) : Row) ∈ rs)
    (hfit : ∀ (k : Nat) (j : Jn), js[k]? = some j → Fits js (rs.map (·.2)) k) : GrOk m js ((List.range m).map G) ((List.range m).map C) := by
  have gd : ∀ (F : Nat → Nat) i, i < m → ((List.range m).map F).getD i 0 = F i := fun F i hi => by
    simp [List.getD, hi]
  have fl : fs.length ≤ m := by
    rcases rise_len (m := m) (a := 0) s.rise (fun x hx => ⟨Nat.zero_le _, by
      obtain ⟨g, hg, e⟩ := List.getElem_of_mem hx
      have := s.lt _ (s.fst g x (by rw [List.getElem?_eq_getElem hg, e]))
      exact this⟩) with z | z
    · omega
    · subst z; exact Nat.zero_le _
  refine ⟨by simp, by simp, fun g hg => ?_, fun c hc => ?_, fun t => ⟨fun h i j hi hj he => ?_, fun h j hj => ?_⟩⟩
  · obtain ⟨p, hp, rfl⟩ := List.mem_map.mp hg
    obtain ⟨w, rw_⟩ := hall p (List.mem_range.mp hp)
    obtain ⟨f, h1, _⟩ := s.ok _ rw_
    have := (List.getElem?_eq_some_iff.mp h1).1
    exact Nat.lt_of_lt_of_le this fl
  · obtain ⟨p, hp, rfl⟩ := List.mem_map.mp hc
    obtain ⟨w, rw_⟩ := hall p (List.mem_range.mp hp)
    obtain ⟨f, _, h2, _⟩ := s.ok _ rw_
    exact h2.bit
  · have hk : ∀ (k : Nat) (j : Jn), js[k]? = some j → (t j.1 + t j.2.1) % 2 = j.2.2 := fun k j hj => h j (List.mem_of_getElem? hj)
    rw [gd G i hi, gd G j hj] at he
    obtain ⟨wi, ri⟩ := hall i hi
    obtain ⟨wj, rj⟩ := hall j hj
    obtain ⟨f1, q1, ok1, _⟩ := s.ok _ ri
    obtain ⟨f2, q2, ok2, _⟩ := s.ok _ rj
    have q1 : fs[G i]? = some f1 := q1
    have q2 : fs[G j]? = some f2 := q2
    rw [← he, q1] at q2
    cases q2
    have a1 : (t f1 + t i) % 2 = C i := ok1.side t hk
    have a2 : (t f1 + t j) % 2 = C j := ok2.side t hk
    rw [gd C i hi, gd C j hj]
    omega
  · obtain ⟨k, hk, ek⟩ := List.getElem_of_mem hj
    have hjk : js[k]? = some j := by rw [List.getElem?_eq_getElem hk, ek]
    obtain ⟨t1, t2, tn, t3⟩ := hw.all j hj
    obtain ⟨j2, c1, w1, c2, w2, g1, g2, g3, g4⟩ := hfit k j hjk
    rw [hjk] at g1
    cases g1
    obtain ⟨wa, ra⟩ := hall j.1 t1
    obtain ⟨wb, rb⟩ := hall j.2.1 t2
    obtain ⟨r1, hr1, er1⟩ := List.mem_map.mp g2
    obtain ⟨r2, hr2, er2⟩ := List.mem_map.mp g3
    have i1 : r1 = (G j.1, j.1, C j.1, wa) := row_inj s hr1 ra (by rw [er1])
    have i2 : r2 = (G j.2.1, j.2.1, C j.2.1, wb) := row_inj s hr2 rb (by rw [er2])
    rw [i1] at er1
    rw [i2] at er2
    have ec1 : C j.1 = c1 := congrArg (fun e : Ent => e.2.1) er1
    have ec2 : C j.2.1 = c2 := congrArg (fun e : Ent => e.2.1) er2
    obtain ⟨n1, _⟩ := nbr_of hjk tn
    obtain ⟨r', hr', g', p'⟩ := s.cl _ ra _ _ _ n1
    have i3 : r' = (G j.2.1, j.2.1, C j.2.1, wb) := row_inj s hr' rb p'
    rw [i3] at g'
    have g' : G j.2.1 = G j.1 := g'
    have hf := h j.1 j.2.1 t1 t2 (by rw [gd G _ t1, gd G _ t2, g'])
    rw [gd C _ t1, gd C _ t2] at hf
    omega

/-! ### ring papers -/
abbrev Rw := List Nat × (Int × Int)
abbrev encRw (r : Rw) : PyData := .tuple [tN r.1, pr r.2]
abbrev papR (rs : List Rw) : PyData := .tuple [.str "rings", .tuple (rs.map encRw)]
structure RowOk (m : Nat) (ts : List Tie) (gs cs : List Nat) (r : Rw) : Prop where
  ne : r.1 ≠ []
  rise : r.1.Pairwise (· < ·)
  lt : ∀ n ∈ r.1, n < ts.length
  even : evenG m ts gs r.1 = true
  odd : oddG ts cs r.1 = true
  lo : Lo r.2
  pos : 0 < r.2.1
theorem RowOk.inv {m : Nat} {js : List Jn} {gs cs gs' cs' : List Nat} {ts : List Tie} {r : Rw} (a : GrOk m js gs cs) (b : GrOk m js gs' cs') (hw : ∀ t ∈ ts, TieOk m t) (h : RowOk m ts gs cs r) : RowOk m ts gs' cs' r :=
  ⟨h.ne, h.rise, h.lt, even_inv a b hw h.lt h.even, odd_inv a b hw h.lt h.even h.odd, h.lo, h.pos⟩
/-- what the rows ask of a tie -/
def sharesAt (rs : List Rw) (t : Nat) : List (Int × Int) := (rs.filter fun r => decide (t ∈ r.1)).map (·.2)
def FitOk (ts : List Tie) (rs : List Rw) : Prop := ∀ t, t < ts.length → sumV (sharesAt rs t) ≤ val (szF (ts.getD t tie0).2.2)
def nsOf : PyData → List Nat
  | .tuple es => es.map fun e => match e with | .int i => i.toNat | _ => 0
  | _ => []
theorem nsOf_tN (ns : List Nat) : nsOf (tN ns) = ns := by
  show (ns.map fun (k : Nat) => PyData.int k).map _ = ns
  rw [List.map_map]
  have : ∀ l : List Nat, l.map ((fun e => match e with | PyData.int i => i.toNat | _ => 0) ∘ fun (k : Nat) => PyData.int k) = l := fun l => by
    induction l with
    | nil => rfl
    | cons a r ih => rw [List.map_cons, ih]; rfl
  exact this ns
theorem rise_tN : ∀ ns : List Nat, riseB (ns.map fun (k : Nat) => PyData.int k) = true ↔ ns.Pairwise (· < ·)
  | [] => by simp [riseB]
  | [a] => by simp [riseB]
  | a :: b :: r => by
    have ih := rise_tN (b :: r)
    have e : riseB ((a :: b :: r).map fun (k : Nat) => PyData.int k) = (ltD (.int a) (.int b) && riseB ((b :: r).map fun (k : Nat) => PyData.int k)) := by
      simp only [riseB, List.map_cons, List.drop_succ_cons, List.drop_zero, List.zip_cons_cons, List.all_cons]
    rw [e, Bool.and_eq_true, ih, List.pairwise_cons (a := a)]
    have hl : ltD (.int a) (.int b) = true ↔ a < b := by
      show decide ((a : Int) < (b : Int)) = true ↔ _
      rw [decide_eq_true_eq]
      omega
    rw [hl]
    constructor
    · rintro ⟨h1, h2⟩
      refine ⟨fun x hx => ?_, h2⟩
      rcases List.mem_cons.mp hx with rfl | hx
      · exact h1
      · exact Nat.lt_trans h1 ((List.pairwise_cons.mp h2).1 x hx)
    · rintro ⟨h1, h2⟩
      exact ⟨h1 b (by simp), h2⟩
theorem choice_dec {n : Nat} {x : PyData} (h : choiceB n x = true) : ∃ ns : List Nat, x = tN ns ∧ ns ≠ [] ∧ ns.Pairwise (· < ·) ∧ ∀ k ∈ ns, k < n := by
  cases x with
  | tuple es =>
    have h2 : (!es.isEmpty && (es.all (numB n) && riseB es)) = true := h
    rw [Bool.and_eq_true, Bool.and_eq_true] at h2
    have dec : ∀ l : List PyData, l.all (numB n) = true → ∃ ns : List Nat, l = ns.map (fun (k : Nat) => PyData.int k) ∧ ∀ k ∈ ns, k < n := fun l => by
      induction l with
      | nil => intro _; exact ⟨[], rfl, nofun⟩
      | cons e r ih =>
        intro hl
        rw [List.all_cons, Bool.and_eq_true] at hl
        obtain ⟨ns, rfl, hn⟩ := ih hl.2
        obtain ⟨i, rfl, i0, i1⟩ := num_inv hl.1
        refine ⟨i.toNat :: ns, ?_, fun k hk => ?_⟩
        · rw [List.map_cons]
          congr 2
          omega
        · rcases List.mem_cons.mp hk with rfl | hk
          · omega
          · exact hn k hk
    obtain ⟨ns, rfl, hn⟩ := dec es h2.2.1
    exact ⟨ns, rfl, fun z => by subst z; simp at h2, (rise_tN ns).mp h2.2.2, hn⟩
  | _ => cases h
theorem choice_of {n : Nat} {ns : List Nat} (h0 : ns ≠ []) (h1 : ns.Pairwise (· < ·)) (h2 : ∀ k ∈ ns, k < n) : choiceB n (tN ns) = true := by
  show (!(ns.map fun (k : Nat) => PyData.int k).isEmpty && ((ns.map fun (k : Nat) => PyData.int k).all (numB n) && riseB (ns.map fun (k : Nat) => PyData.int k))) = true
  rw [(rise_tN ns).mpr h1, Bool.and_true, Bool.and_eq_true]
  refine ⟨?_, ?_⟩
  · cases ns with
    | nil => exact absurd rfl h0
    | cons a r => rfl
  · rw [List.all_eq_true]
    intro e he
    obtain ⟨k, hk, rfl⟩ := List.mem_map.mp he
    have := h2 k hk
    show (decide (0 ≤ (k : Int)) && decide ((k : Int) < (n : Int))) = true
    rw [decide_eq_true (by omega), decide_eq_true (by omega)]
    rfl
def roundB (m : Nat) (ts : List Tie) (gs cs : List Nat) (x : PyData) : Bool := choiceB ts.length x && (evenG m ts gs (nsOf x) && oddG ts cs (nsOf x))
def shareB : PyData → Bool
  | .tuple [.int p, .int q] => isFrac (.tuple [.int p, .int q]) && decide (0 < p)
  | _ => false
def rowB (m : Nat) (ts : List Tie) (gs cs : List Nat) : PyData → Bool
  | .tuple [a, b] => roundB m ts gs cs a && shareB b
  | _ => false
theorem frac_dec {x : PyData} (h : isFrac x = true) : ∃ f : Int × Int, x = pr f ∧ Lo f := by
  match x, h with
  | .tuple [.int p, .int q], h =>
    have h2 : (decide (1 ≤ q) && decide (Int.gcd p q = 1)) = true := h
    rw [Bool.and_eq_true] at h2
    have := of_decide_eq_true h2.1
    exact ⟨(p, q), rfl, by show 0 < q; omega, of_decide_eq_true h2.2⟩
theorem frac_of {f : Int × Int} (h : Lo f) : isFrac (pr f) = true := by
  show (decide (1 ≤ f.2) && decide (Int.gcd f.1 f.2 = 1)) = true
  have := h.pos
  rw [decide_eq_true (by omega), decide_eq_true h.low]
  rfl
theorem share_dec {x : PyData} (h : shareB x = true) : ∃ f : Int × Int, x = pr f ∧ Lo f ∧ 0 < f.1 := by
  match x, h with
  | .tuple [.int p, .int q], h =>
    have h2 : (isFrac (.tuple [.int p, .int q]) && decide (0 < p)) = true := h
    rw [Bool.and_eq_true] at h2
    obtain ⟨f, e, lo⟩ := frac_dec h2.1
    cases e
    exact ⟨_, rfl, lo, of_decide_eq_true h2.2⟩
theorem share_of {f : Int × Int} (h : Lo f) (hp : 0 < f.1) : shareB (pr f) = true := by
  show (isFrac (pr f) && decide (0 < f.1)) = true
  rw [frac_of h, decide_eq_true hp]
  rfl
section
variable {m : Nat} {ts : List Tie} {gs cs : List Nat}
theorem row_dec {x : PyData} (h : rowB m ts gs cs x = true) : ∃ r : Rw, x = encRw r ∧ RowOk m ts gs cs r := by
  match x, h with
  | .tuple [a, b], h =>
    have h2 : (roundB m ts gs cs a && shareB b) = true := h
    rw [Bool.and_eq_true] at h2
    obtain ⟨f, rfl, lo, pos⟩ := share_dec h2.2
    have h3 := h2.1
    unfold roundB at h3
    rw [Bool.and_eq_true, Bool.and_eq_true] at h3
    obtain ⟨ns, rfl, h4, h5, h6⟩ := choice_dec h3.1
    rw [nsOf_tN] at h3
    exact ⟨(ns, f), rfl, h4, h5, h6, h3.2.1, h3.2.2, lo, pos⟩
theorem row_of {r : Rw} (h : RowOk m ts gs cs r) : rowB m ts gs cs (encRw r) = true := by
  show (roundB m ts gs cs (tN r.1) && shareB (pr r.2)) = true
  rw [share_of h.lo h.pos, Bool.and_true]
  unfold roundB
  rw [nsOf_tN, choice_of h.ne h.rise h.lt, h.even, h.odd]
  rfl
theorem rows_dec : ∀ {l : List PyData}, l.all (rowB m ts gs cs) = true → ∃ rs : List Rw, l = rs.map encRw ∧ ∀ r ∈ rs, RowOk m ts gs cs r
  | [], _ => ⟨[], rfl, nofun⟩
  | x :: l, h => by
    rw [List.all_cons, Bool.and_eq_true] at h
    obtain ⟨rs, rfl, hr⟩ := rows_dec h.2
    obtain ⟨r, rfl, h1⟩ := row_dec h.1
    refine ⟨r :: rs, rfl, fun y hy => ?_⟩
    rcases List.mem_cons.mp hy with rfl | hy
    · exact h1
    · exact hr y hy
theorem rows_of {rs : List Rw} (h : ∀ r ∈ rs, RowOk m ts gs cs r) : (rs.map encRw).all (rowB m ts gs cs) = true := by
  rw [List.all_eq_true]
  intro x hx
  obtain ⟨r, hr, rfl⟩ := List.mem_map.mp hx
  exact row_of (h r hr)
end
theorem tN_inj {a b : List Nat} (h : tN a = tN b) : a = b := by
  have := congrArg nsOf h
  rwa [nsOf_tN, nsOf_tN] at this
theorem encRw_inj : ∀ {a b : List Rw}, a.map encRw = b.map encRw → a = b
  | [], [], _ => rfl
  | [], _ :: _, h => by cases h
  | _ :: _, [], h => by cases h
  | x :: a, y :: b, h => by
    rw [List.map_cons, List.map_cons] at h
    have h1 := (List.cons.inj h).1
    have h2 := encRw_inj (List.cons.inj h).2
    have h3 := (PyData.tuple.inj h1)
    have h4 : tN x.1 = tN y.1 := (List.cons.inj h3).1
    have h5 : pr x.2 = pr y.2 := (List.cons.inj (List.cons.inj h3).2).1
    have h6 : x.2 = y.2 := by
      have q := PyData.tuple.inj h5
      have q1 := PyData.int.inj (List.cons.inj q).1
      have q2 := PyData.int.inj (List.cons.inj (List.cons.inj q).2).1
      exact Prod.ext q1 q2
    rw [h2, show x = y from Prod.ext (tN_inj h4) h6]
theorem papR_inj {a b : List Rw} (h : papR a = papR b) : a = b := by
  have q := PyData.tuple.inj h
  exact encRw_inj (PyData.tuple.inj (List.cons.inj (List.cons.inj q).2).1)
/-- the rows of a right ring paper -/
def IsPap (m : Nat) (ts : List Tie) (gs cs : List Nat) (x : PyData) (rs : List Rw) : Prop := x = papR rs ∧ (∀ r ∈ rs, RowOk m ts gs cs r) ∧ FitOk ts rs
open Classical in
noncomputable def lossD (m : Nat) (ts : List Tie) (gs cs : List Nat) (x : PyData) : Option (Int × Int) :=
  if h : ∃ rs, IsPap m ts gs cs x rs then some (sumF (h.choose.map (·.2))) else none
theorem loss_yes {m : Nat} {ts : List Tie} {gs cs : List Nat} {x : PyData} {rs : List Rw} (h : IsPap m ts gs cs x rs) : lossD m ts gs cs x = some (sumF (rs.map (·.2))) := by
  have hex : ∃ rs, IsPap m ts gs cs x rs := ⟨rs, h⟩
  unfold lossD
  rw [dif_pos hex]
  have e : hex.choose = rs := papR_inj (hex.choose_spec.1.symm.trans h.1)
  rw [e]
theorem loss_no {m : Nat} {ts : List Tie} {gs cs : List Nat} {x : PyData} (h : ∀ rs, ¬ IsPap m ts gs cs x rs) : lossD m ts gs cs x = none := by
  unfold lossD
  rw [dif_neg fun ⟨rs, z⟩ => h rs z]
theorem loss_inv {m : Nat} {js : List Jn} {gs cs gs' cs' : List Nat} {ts : List Tie} {x : PyData} (a : GrOk m js gs cs) (b : GrOk m js gs' cs') (hw : ∀ t ∈ ts, TieOk m t) : lossD m ts gs cs x = lossD m ts gs' cs' x := by
  by_cases h : ∃ rs, IsPap m ts gs cs x rs
  · obtain ⟨rs, h1, h2, h3⟩ := h
    rw [loss_yes ⟨h1, h2, h3⟩, loss_yes ⟨h1, fun r hr => (h2 r hr).inv a b hw, h3⟩]
  · rw [loss_no fun rs z => h ⟨rs, z⟩, loss_no fun rs z => h ⟨rs, z.1, fun r hr => (z.2.1 r hr).inv b a hw, z.2.2⟩]
def encO : Option (Int × Int) → PyData
  | none => .none
  | some f => pr f
/-- what is no greater than is dealt with here -/
structure Tame (x : PyData) : Prop where
  nm : ∀ z r, x = .tuple (.str z :: r) → PyData.strOk z = true
  rows : ∀ z rows, x = .tuple [z, .tuple rows] → rows.length ≤ 16 ∧ ∀ a b, PyData.tuple [a, b] ∈ rows → (∀ es, a = .tuple es → es.length ≤ 10000) ∧ ∀ p q, b = .tuple [.int p, .int q] → Bd 200 p ∧ Bd 200 q

theorem tN_at {ss : List Nat} {p : Nat} (h : p < ss.length) : (ss.map fun (k : Nat) => PyData.int k)[p]? = some (.int (ss.getD p 0 : Nat)) := by
  rw [List.getElem?_map, List.getElem?_eq_getElem h]
  simp [List.getD, h]
theorem eqv_nat (a b : Nat) : PyData.eqv (.int (a : Int)) (.int (b : Int)) = decide (a = b) := by
  rw [eqv_int]
  exact decide_eq_decide.mpr ⟨fun h => by omega, fun h => by omega⟩
theorem eqv_bool (a b : Bool) : PyData.eqv (.bool a) (.bool b) = decide (a = b) := by cases a <;> cases b <;> rfl
def Φ_is_lost_together : Ph := ph3 fun a b c ms R => ∃ (m : Nat) (ts : List Tie) (cs : List Nat) (n : Nat), a = .d (encW m ts) ∧ b = .d (tN cs) ∧ c = .d (.int n) ∧ (∀ t ∈ ts, TieOk m t) ∧ cs.length = m ∧ n < ts.length ∧ R (.d (.bool (lostT cs (ts.getD n tie0)))) ms
theorem len_is_lost_together : ∀ as ms R, Φ_is_lost_together as ms R → as.length = 3 := ph3_len
theorem rd_is_lost_together {K : PySem.W.Frag} : ∀ as ms R, Φ_is_lost_together as ms R → S K (t_is_lost_together K Φ_is_gainful) (as ++ List.replicate (6 - as.length) .u) ms (fin R) := by
  rintro as ms R ⟨a, b, c, rfl, m, ts, cs, n, rfl, rfl, rfl, hw, hc, hn, r⟩
  have ht := hw _ (getD_mem hn)
  have h1 := ht.lt
  have h2 := ht.lm
  unfold t_is_lost_together
  refine s_seq (s_asgG (js := [3, 4, 5]) ?_)
  walk_at "evs"
  refine rr_ix ⟨_, _, _, .inr (.d _), rfl, atI_nat (j := n) (tie_at hn), ?_⟩
  refine eg_tup rfl (egs_cons (eg_name (egs_cons (eg_name (egs_cons (eg_name (egs_nil ?_)))))))
  refine s_ret (e_op (e_op (e_op (e_var rfl (e_var rfl (rr_ix ⟨_, _, _, .inr (.d _), rfl, atI_nat (tN_at (p := (ts.getD n tie0).1) (by omega)), ?_⟩))))))
  refine e_op (e_var rfl (e_var rfl (rr_ix ⟨_, _, _, .inr (.d _), rfl, atI_nat (tN_at (p := (ts.getD n tie0).2.1) (by omega)), ?_⟩)))
  refine rr_ne ⟨_, _, .d _, .d _, shaped_int _, shaped_int _, ?_⟩
  rw [eqv_nat]
  refine e_call (ea_cons (e_var rfl (ea_cons (e_var rfl (ea_nil ⟨_, _, rfl, m, ts, n, rfl, rfl, hn, rr_ne ⟨_, _, .d _, .d _, rfl, rfl, ?_⟩⟩)))))
  rw [eqv_bool]
  have e : (!decide ((!decide (cs.getD (ts.getD n tie0).1 0 = cs.getD (ts.getD n tie0).2.1 0)) = gainB (ts.getD n tie0))) = lostT cs (ts.getD n tie0) := by
    unfold lostT
    cases gainB (ts.getD n tie0) <;> cases (!decide (cs.getD (ts.getD n tie0).1 0 = cs.getD (ts.getD n tie0).2.1 0)) <;> rfl
  rw [e]
  exact r

def Φ_is_odd_round : Ph := ph4 fun a b c d ms R => ∃ (m : Nat) (ts : List Tie) (gs cs : List Nat) (x : PyData), a = .d (encW m ts) ∧ b = .d (tN gs) ∧ c = .d (tN cs) ∧ d = .d x ∧ WebOk m ts ∧ gs.length = m ∧ cs.length = m ∧ (∀ g ∈ gs, g < m) ∧ (∀ es, x = .tuple es → es.length ≤ 10000) ∧ R (.d (.bool (roundB m ts gs cs x))) ms
theorem len_is_odd_round : ∀ as ms R, Φ_is_odd_round as ms R → as.length = 4 := ph4_len
theorem rd_is_odd_round {K : PySem.W.Frag} : ∀ as ms R, Φ_is_odd_round as ms R → S K (t_is_odd_round K Φ_is_rising_choice Φ_has_even_ends Φ_is_lost_together) (as ++ List.replicate (6 - as.length) .u) ms (fin R) := by
  rintro as ms R ⟨a, b, c, d, rfl, m, ts, gs, cs, x, rfl, rfl, rfl, rfl, hw, hg, hc, hlt, hz, r⟩
  have m60 := hw.m60
  unfold t_is_odd_round
  refine s_seq (s_if (et_not (et_B (e_call (ea_cons (e_cb (ea_cons ?_)))))))
  walk_at "evs"
  refine rc_len ⟨_, _, rfl, .inr (.d _), ?_⟩
  rw [List.length_map]
  refine ea_cons (e_var rfl (ea_nil ⟨_, _, rfl, ts.length, x, rfl, rfl, hz, _, rfl, fun h => ?_, fun h => ?_⟩))
  · have h' : choiceB ts.length x = false := by simpa using h
    have e : roundB m ts gs cs x = false := by unfold roundB; rw [h', Bool.false_and]
    rw [e] at r
    exact s_ret (e_bl r)
  have h' : choiceB ts.length x = true := by simpa using h
  obtain ⟨ns, rfl, _, _, hn⟩ := choice_dec h'
  have hz := hz _ rfl
  rw [List.length_map] at hz
  have e : roundB m ts gs cs (tN ns) = (evenG m ts gs ns && oddG ts cs ns) := by unfold roundB; rw [h', Bool.true_and, nsOf_tN]
  rw [e] at r
  refine s_next (s_seq (s_asg (e_lcT (js := [5]) (by simp) (e_var rfl ⟨_, rfl, by rw [List.length_map]; exact hz, fun k acc ms' => acc = (prsG ts gs (ns.take k)).map encP ∧ ms' = ms, ⟨rfl, rfl⟩, ?_, ?_⟩))))
  · rintro k e acc ms' hk ⟨rfl, rfl⟩
    rw [List.getElem?_map] at hk
    cases q : ns[k]? with
    | none => rw [q] at hk; cases hk
    | some n =>
      rw [q] at hk
      cases hk
      have hn' := hn n (List.mem_of_getElem? q)
      have ht := hw.all _ (getD_mem hn')
      have h1 := ht.lt
      have h2 := ht.lm
      refine eg_name (et_yes ⟨fun _ => e_tup (ea_cons (e_op (e_var rfl (e_op (e_op (e_op (e_var rfl (e_int (rr_ix ⟨_, _, _, .inr (.d _), rfl, atI_nat (j := 1) rfl, ?_⟩))))))))), nofun⟩)
      refine e_var rfl (rr_ix ⟨_, _, _, .inr (.d _), rfl, atI_nat (j := n) (tie_at hn'), e_int (rr_ix ⟨_, _, _, .inr (.d _), rfl, atI_nat (j := 0) rfl, ?_⟩)⟩)
      refine rr_ix ⟨_, _, _, .inr (.d _), rfl, atI_nat (tN_at (p := (ts.getD n tie0).1) (by omega)), ?_⟩
      refine ea_cons (e_op (e_var rfl (e_op (e_op (e_op (e_var rfl (e_int (rr_ix ⟨_, _, _, .inr (.d _), rfl, atI_nat (j := 1) rfl, ?_⟩))))))))
      refine e_var rfl (rr_ix ⟨_, _, _, .inr (.d _), rfl, atI_nat (j := n) (tie_at hn'), e_int (rr_ix ⟨_, _, _, .inr (.d _), rfl, atI_nat (j := 1) rfl, ?_⟩)⟩)
      refine rr_ix ⟨_, _, _, .inr (.d _), rfl, atI_nat (tN_at (p := (ts.getD n tie0).2.1) (by omega)), ?_⟩
      refine ea_nil ⟨[_, _], rfl, Nat.le_of_ble_eq_true rfl, _, rfl, ?_, rfl⟩
      rw [take_snoc q]
      unfold prsG
      rw [List.map_append, List.map_append]
      rfl
  rintro acc ms' ⟨rfl, rfl⟩
  rw [List.length_map, List.take_length]
  refine s_seq (s_if (et_not (et_B (e_call (ea_cons (e_op (e_var rfl (e_int (rr_ix ⟨_, _, _, .inr (.d _), rfl, atI_nat (j := 0) rfl, ?_⟩)))))))))
  refine ea_cons (e_var rfl (ea_nil ⟨_, _, rfl, m, prsG ts gs ns, rfl, rfl, by omega, prs_lt hg hlt hw.all hn, _, rfl, fun h => ?_, fun h => ?_⟩))
  · have h2 : evenG m ts gs ns = false := by simpa [evenG] using h
    rw [h2, Bool.false_and] at r
    exact s_ret (e_bl r)
  have h2 : evenG m ts gs ns = true := by simpa [evenG] using h
  rw [h2, Bool.true_and] at r
  refine s_next (s_ret (e_op (e_op (e_cb (ea_cons (e_lcT (js := [5]) (by simp) (e_var rfl ⟨_, rfl, by rw [List.length_map]; exact hz, fun k acc ms'' => acc = encN ((ns.take k).filter fun n => lostT cs (ts.getD n tie0)) ∧ ms'' = ms', ⟨rfl, rfl⟩, ?_, ?_⟩)))))))
  · rintro k e acc ms'' hk ⟨rfl, rfl⟩
    rw [List.getElem?_map] at hk
    cases q : ns[k]? with
    | none => rw [q] at hk; cases hk
    | some n =>
      rw [q] at hk
      cases hk
      have hn' := hn n (List.mem_of_getElem? q)
      refine eg_name (et_B (e_call (ea_cons (e_var rfl (ea_cons (e_var rfl (ea_cons (e_var rfl (ea_nil ⟨_, _, _, rfl, m, ts, cs, n, rfl, rfl, rfl, hw.all, hc, hn', ?_⟩)))))))))
      refine ⟨_, rfl, fun hl => ?_, fun hl => ?_⟩
      · refine e_var rfl ⟨_, rfl, ?_, rfl⟩
        rw [take_snoc q, List.filter_append, List.filter_cons, if_pos hl]
        unfold encN
        rw [List.map_append]
        rfl
      · refine ⟨?_, rfl⟩
        rw [take_snoc q, List.filter_append, List.filter_cons, if_neg (by rw [hl]; decide)]
        show _ = encN (_ ++ [])
        rw [List.append_nil]
  rintro acc ms'' ⟨rfl, rfl⟩
  rw [List.length_map, List.take_length]
  refine ea_nil (rc_len ⟨_, _, rfl, .inl (.d _), e_int (rr_I ⟨_, _, rfl, rfl, by decide, e_int (rr_eq ⟨_, _, .d _, .d _, shaped_int _, shaped_int _, ?_⟩)⟩)⟩)
  have e2 : Int.fmod ((encN (ns.filter fun n => lostT cs (ts.getD n tie0))).length : Int) 2 = (((ns.filter fun n => lostT cs (ts.getD n tie0)).length % 2 : Nat) : Int) := by
    unfold encN
    rw [List.length_map]
    exact fmod_nat _ 2
  rw [e2, show (1 : Int) = ((1 : Nat) : Int) from rfl, eqv_nat]
  exact r

/-- what a reader of papers answers -/
def Told (m : Nat) (js : List Jn) (none_ : Prop) (some_ : List Nat → List Nat → Prop) : Prop := ((∀ s, ¬ KeepF js s) → none_) ∧ ∀ gs cs, GrOk m js gs cs → some_ gs cs
theorem ring_str : PyData.eqv (.str "ring") (.str "ring") = true := by decide +kernel
theorem groups_str : PyData.eqv (.str "groups") (.str "ring") = false := by decide +kernel

/-! ### the least size of a ring -/
def lsr (l s : Int × Int) : Int × Int := if s.1 * l.2 < l.1 * s.2 then s else l
def szAt (ts : List Tie) (n : Nat) : Int × Int := szF (ts.getD n tie0).2.2
def lF (ts : List Tie) (a : Int × Int) (ns : List Nat) : Int × Int := ns.foldl (fun l n => lsr l (szAt ts n)) a
theorem lsr_self (a : Int × Int) : lsr a a = a := by unfold lsr; split <;> rfl
theorem lF_snoc (ts : List Tie) (a : Int × Int) (ns : List Nat) (n : Nat) : lF ts a (ns ++ [n]) = lsr (lF ts a ns) (szAt ts n) := by
  unfold lF
  rw [List.foldl_append]
  rfl
theorem lF_mem {ts : List Tie} {ns : List Nat} {n0 : Nat} (h0 : n0 ∈ ns) : ∀ k, ∃ n ∈ ns, lF ts (szAt ts n0) (ns.take k) = szAt ts n
  | 0 => ⟨n0, h0, by rw [List.take_zero]; rfl⟩
  | k + 1 => by
    obtain ⟨n, hn, e⟩ := lF_mem (ts := ts) h0 k
    by_cases hk : k < ns.length
    · rw [take_snoc (List.getElem?_eq_getElem hk), lF_snoc, e]
      unfold lsr
      split
      · exact ⟨ns[k], List.getElem_mem hk, rfl⟩
      · exact ⟨n, hn, rfl⟩
    · refine ⟨n, hn, ?_⟩
      rw [List.take_of_length_le (by omega)]
      rw [List.take_of_length_le (by omega)] at e
      exact e
theorem szAt_bd {m n : Nat} {ts : List Tie} (hw : WebOk m ts) (hn : n < ts.length) : 0 < (szAt ts n).2 ∧ Bd 32 (szAt ts n).1 ∧ Bd 10 (szAt ts n).2 := by
  have w := (hw.all _ (getD_mem hn)).w
  unfold szAt
  generalize (ts.getD n tie0).2.2 = p at w
  exact ⟨w.lo.pos, w.b1.le (by show ((p.1.natAbs : Int)).natAbs ≤ _; omega), w.b2⟩
/-- the paper of one ring alone -/
def ltP (ts : List Tie) (ns : List Nat) : PyData := .tuple [.str "rings", if 0 < (lF ts (szAt ts (ns.headD 0)) ns).1 then .tuple [.tuple [tN ns, pr (lF ts (szAt ts (ns.headD 0)) ns)]] else .tuple []]

def Φ_least_size : Ph := ph2 fun a b ms R => ∃ (m : Nat) (ts : List Tie) (ns : List Nat), a = .d (encW m ts) ∧ b = .d (tN ns) ∧ WebOk m ts ∧ ns ≠ [] ∧ (∀ n ∈ ns, n < ts.length) ∧ R (.d (pr (lF ts (szAt ts (ns.headD 0)) ns))) ms
theorem len_least_size : ∀ as ms R, Φ_least_size as ms R → as.length = 2 := ph2_len
theorem rd_least_size {K : PySem.W.Frag} : ∀ as ms R, Φ_least_size as ms R → S K (t_least_size K Φ_size_of Φ_less) (as ++ List.replicate (5 - as.length) .u) ms (fin R) := by
  rintro as ms R ⟨a, b, rfl, m, ts, ns, rfl, rfl, hw, hne, hn, r⟩
  obtain ⟨n0, nr, en⟩ := List.exists_cons_of_ne_nil hne
  have h0 : n0 ∈ ns := by rw [en]; simp
  have e0 : ns.headD 0 = n0 := by rw [en]; rfl
  have g0 : (ns.map fun (k : Nat) => PyData.int k)[0]? = some (.int (n0 : Int)) := by rw [en]; rfl
  rw [e0] at r
  unfold t_least_size
  refine s_seq (s_asg (e_call (ea_cons (e_var rfl (ea_cons (e_op (e_var rfl (e_int (rr_ix ⟨_, _, _, .inr (.d _), rfl, atI_nat (j := 0) g0, ?_⟩)))))))))
  refine ea_nil ⟨_, _, rfl, m, ts, n0, rfl, rfl, hn n0 h0, ?_⟩
  refine s_seq (s_forT (js := [3]) (e_var rfl ⟨_, rfl, fun k ds' ms' => ∃ (o3 o4 : SD), ds' = [.d (encW m ts), .d (tN ns), .d (pr (lF ts (szAt ts n0) (ns.take k))), o3, o4] ∧ ms' = ms, ⟨_, _, rfl, rfl⟩, ?_, ?_⟩))
  · rintro k e ds' ms' hk ⟨o3, o4, rfl, rfl⟩
    rw [List.getElem?_map] at hk
    cases q : ns[k]? with
    | none => rw [q] at hk; cases hk
    | some n =>
      rw [q] at hk
      cases hk
      have hn' := hn n (List.mem_of_getElem? q)
      obtain ⟨n', hm', e'⟩ := lF_mem (ts := ts) h0 k
      obtain ⟨p1, p2, p3⟩ := szAt_bd hw hn'
      obtain ⟨q1, q2, q3⟩ := szAt_bd hw (hn n' hm')
      refine eg_name ?_
      refine s_seq (s_asg (e_call (ea_cons (e_var rfl (ea_cons (e_var rfl (ea_nil ⟨_, _, rfl, m, ts, n, rfl, rfl, hn', ?_⟩)))))))
      refine s_if (et_B (e_call (ea_cons (e_var rfl (ea_cons (e_var rfl (ea_nil ⟨_, _, rfl, szAt ts n, lF ts (szAt ts n0) (ns.take k), rfl, rfl, ?_, ?_⟩)))))))
      · rw [e']
        exact ⟨p2.mono (by decide), p3.mono (by decide), q2.mono (by decide), q3.mono (by decide)⟩
      refine ⟨_, rfl, fun h => ?_, fun h => ?_⟩
      · refine s_asg (e_var rfl ⟨.d (.int (n : Nat)), .d (pr (szAt ts n)), ?_, rfl⟩)
        rw [take_snoc q, lF_snoc, lsr, if_pos (of_decide_eq_true h)]
        rfl
      · refine s_next ⟨.d (.int (n : Nat)), .d (pr (szAt ts n)), ?_, rfl⟩
        rw [take_snoc q, lF_snoc, lsr, if_neg (of_decide_eq_false h)]
        rfl
  · rintro ds' ms' ⟨o3, o4, rfl, rfl⟩
    rw [List.length_map, List.take_length]
    exact s_ret (e_var rfl r)

def phx3 (f : SD → SD → SD → List MD → RS → (List MD → Prop) → Prop) : PhX := fun as ms R Y => ∃ a b c, as = [a, b, c] ∧ f a b c ms R Y
theorem phx3_len {f : SD → SD → SD → List MD → RS → (List MD → Prop) → Prop} : ∀ as ms R Y, phx3 f as ms R Y → as.length = 3 := fun _ _ _ _ ⟨_, _, _, e, _⟩ => by rw [e]; rfl
def LightIs (m : Nat) (ts : List Tie) (js : List Jn) (x : PyData) (o : Option (List Nat)) : Prop := Told m js (o = none) fun gs cs => (if roundB m ts gs cs x = true then some (nsOf x) else none) = o
def Φ_lightest : PhX := phx3 fun a b c ms R Y => ∃ (m : Nat) (ts : List Tie) (y : PyData) (hs : List PyData) (js : List Jn) (x : PyData), a = .d (encW m ts) ∧ b = .d y ∧ c = .d x ∧ WebOk m ts ∧ RowsJ y hs js ∧ js.length ≤ 120 ∧ JOk m js ∧ (∀ es, x = .tuple es → es.length ≤ 10000) ∧
  ∃ o, LightIs m ts js x o ∧ (o = none → Y ms) ∧ ∀ ns, o = some ns → R (.d (ltP ts ns)) ms
theorem len_lightest : ∀ as ms R Y, Φ_lightest as ms R Y → as.length = 3 := phx3_len
theorem rd_lightest {K : PySem.W.Frag} {C_CutError C_NoWeb C_NoSide C_NoText C_NoWishes C_NoTurns C_NotFlat C_NoRing C_NoPaper C_NoShare C_NoTie C_NoWeight C_NoDeed C_TooGreat : Addr} : ∀ as ms R Y, Φ_lightest as ms R Y → SX K C_NoRing (t_lightest K C_CutError C_NoWeb C_NoSide C_NoText C_NoWishes C_NoTurns C_NotFlat C_NoRing C_NoPaper C_NoShare C_NoTie C_NoWeight C_NoDeed C_TooGreat Φ_grouped Φ_is_odd_round Φ_least_size) (as ++ List.replicate (5 - as.length) .u) ms (fin R) Y := by
  rintro as ms R Y ⟨a, b, c, rfl, m, ts, y, hs, js, x, rfl, rfl, rfl, hw, hr, hl, hj, hz, o, ho, no, r⟩
  unfold t_lightest
  refine sx_seq (sx_of (s_asg (e_call (ea_cons (e_var rfl (ea_cons (e_var rfl (ea_nil ⟨_, _, rfl, m, _, y, hs, js, rfl, rfl, hr, hl, hj, fun ns hns => ?_, fun fs rs G C s hall hfit => ?_⟩))))))))
  · refine sx_seq (sx_if (et_or (et_test (e_op (e_op (e_var rfl (e_int (rr_ix ⟨_, _, _, .inr (.d _), rfl, atI_nat (j := 0) rfl, e_str (rr_eq ⟨_, _, .d _, .d _, by decide +kernel, by decide +kernel, ?_⟩)⟩))))))))
    rw [ring_str]
    exact ⟨true, rfl, fun _ => ⟨fun _ => sx_raise (no (ho.1 fun s hk => ring_no hj hns s hk)), nofun⟩, nofun⟩
  · have gr := gr_of hj s hall hfit
    have e : (if roundB m ts ((List.range m).map G) ((List.range m).map C) x = true then some (nsOf x) else none) = o := ho.2 _ _ gr
    refine sx_seq (sx_if (et_or (et_test (e_op (e_op (e_var rfl (e_int (rr_ix ⟨_, _, _, .inr (.d _), rfl, atI_nat (j := 0) rfl, e_str (rr_eq ⟨_, _, .d _, .d _, by decide +kernel, by decide +kernel, ?_⟩)⟩))))))))
    rw [groups_str]
    refine ⟨false, rfl, nofun, fun _ => ?_⟩
    refine et_not (et_B (e_call (ea_cons (e_var rfl (ea_cons (e_op (e_var rfl (e_int (rr_ix ⟨_, _, _, .inr (.d _), rfl, atI_nat (j := 1) rfl, ?_⟩)))))))))
    refine ea_cons (e_op (e_var rfl (e_int (rr_ix ⟨_, _, _, .inr (.d _), rfl, atI_nat (j := 2) rfl, ?_⟩))))
    refine ea_cons (e_var rfl (ea_nil ⟨_, _, _, _, rfl, m, ts, _, _, x, rfl, rfl, rfl, rfl, hw, gr.lg, gr.lc, gr.lt, hz, _, rfl, fun h => ?_, fun h => ?_⟩))
    · have h' : roundB m ts ((List.range m).map G) ((List.range m).map C) x = false := by simpa using h
      rw [h'] at e
      exact sx_raise (no e.symm)
    · have h' : roundB m ts ((List.range m).map G) ((List.range m).map C) x = true := by simpa using h
      rw [if_pos h'] at e
      have hc : choiceB ts.length x = true := by
        unfold roundB at h'
        exact (Bool.and_eq_true_iff.mp h').1
      obtain ⟨ns, rfl, hne, _, hn⟩ := choice_dec hc
      rw [nsOf_tN] at e
      have r := r ns e.symm
      unfold ltP at r
      refine sx_of (s_next ?_)
      refine sx_of (s_seq (s_asg (e_call (ea_cons (e_var rfl (ea_cons (e_var rfl (ea_nil ⟨_, _, rfl, m, ts, ns, rfl, rfl, hw, hne, hn, ?_⟩))))))))
      refine s_ret (e_tup (ea_cons (e_str (ea_cons (e_if (et_test (e_op (e_op (e_var rfl (e_int (rr_ix ⟨_, _, _, .inr (.d _), rfl, atI_nat (j := 0) rfl, e_int (rr_B0 ⟨_, _, rfl, rfl, _, rfl, fun h => ?_, fun h => ?_⟩)⟩)))))))))))
      · rw [if_pos (of_decide_eq_true h)] at r
        refine e_tup (ea_cons (e_tup (ea_cons (e_var rfl (ea_cons (e_var rfl (ea_nil ⟨[_, _], rfl, Nat.le_of_ble_eq_true rfl, ?_⟩)))))))
        exact ea_nil ⟨[_], rfl, Nat.le_of_ble_eq_true rfl, ea_nil ⟨[_, _], rfl, Nat.le_of_ble_eq_true rfl, r⟩⟩
      · rw [if_neg (of_decide_eq_false h)] at r
        refine e_tup (ea_nil ⟨[], rfl, Nat.zero_le _, ?_⟩)
        exact ea_nil ⟨[_, _], rfl, Nat.le_of_ble_eq_true rfl, r⟩

theorem fm_ex (x : Int) {m : Int} (h : 0 < m) : ∃ a : Nat, (a : Int) < m ∧ x.fmod m = a := by
  have h1 := Int.fmod_nonneg_of_pos x h
  have h2 := Int.fmod_lt_of_pos x h
  exact ⟨(x.fmod m).toNat, by omega, by omega⟩
theorem bdS {n : Nat} {x : Int} (h : x.natAbs < 2 ^ 64) (hn : 64 ≤ n) : Bd n x := Bd.mono (Bd.of (n := 64) h) hn
theorem cdv (x j : Int) (h1 : j ≠ 0) (h2 : j.natAbs < 2 ^ 64) : CDivX x j := ⟨h1, bdS h2 (by decide)⟩
def Φ__law_stirred : Ph := ph2 fun a b ms R => ∃ (c : Int) (k : Nat), a = .d (.int c) ∧ b = .d (.int k) ∧ k ≤ 1000 ∧ ∀ x : Int, R (.d (.int x)) ms
theorem len__law_stirred : ∀ as ms R, Φ__law_stirred as ms R → as.length = 2 := ph2_len
theorem rd__law_stirred {K : PySem.W.Frag} : ∀ as ms R, Φ__law_stirred as ms R → S K (t__law_stirred K) (as ++ List.replicate (3 - as.length) .u) ms (fin R) := by
  rintro as ms R ⟨a, b, rfl, c, k, rfl, rfl, hk, r⟩
  have hb : Bd 100000 (k : Int) := bdS (by omega) (by decide)
  unfold t__law_stirred
  refine s_seq (s_asg (e_op (e_op (e_op (e_op (e_var rfl (e_int (rr_I ⟨_, _, rfl, rfl, .inr ⟨by decide, by decide⟩, ?_⟩))))))))
  refine e_op (e_op (e_var rfl (e_var rfl (rr_I ⟨_, _, rfl, rfl, ⟨hb, hb⟩, e_int (rr_I ⟨_, _, rfl, rfl, .inr ⟨by decide, by decide⟩, rr_I0 ⟨_, _, rfl, rfl, ?_⟩⟩)⟩))))
  refine e_int (rr_I0 ⟨_, _, rfl, rfl, e_int (rr_I ⟨_, _, rfl, rfl, by decide, ?_⟩)⟩)
  refine s_seq (s_asg (e_op (e_op (e_op (e_op (e_var rfl (e_int (rr_I ⟨_, _, rfl, rfl, .inr ⟨by decide, by decide⟩, ?_⟩))))))))
  refine e_op (e_var rfl (e_int (rr_I ⟨_, _, rfl, rfl, .inr ⟨by decide, by decide⟩, rr_I0 ⟨_, _, rfl, rfl, ?_⟩⟩)))
  refine e_int (rr_I0 ⟨_, _, rfl, rfl, e_int (rr_I ⟨_, _, rfl, rfl, by decide, ?_⟩)⟩)
  refine s_ret (e_op (e_var rfl (e_int (rr_I ⟨_, _, rfl, rfl, cdv _ _ (by decide) (by decide), ?_⟩))))
  exact r _

/-- a deck: numbers below 1000 -/
abbrev dkL (xs : List Nat) : List PyData := xs.map fun (k : Nat) => .int k
def Dk (xs : List Nat) : Prop := ∀ x ∈ xs, x < 1000
theorem Dk.snoc {xs : List Nat} {z : Nat} (h : Dk xs) (hz : z < 1000) : Dk (xs ++ [z]) := fun x hx => by
  rcases List.mem_append.mp hx with y | y
  · exact h x y
  · simp at y; omega
theorem dk_snoc (xs : List Nat) (z : Nat) : dkL (xs ++ [z]) = dkL xs ++ [.int z] := by
  unfold dkL
  rw [List.map_append]
  rfl
def Φ__law_deck : Ph := ph2 fun a b ms R => ∃ (ns : List Int) (n : Nat), a = .s ns ∧ b = .d (.int n) ∧ ns.length ≤ 63 ∧ n < 1000 ∧ ∀ xs : List Nat, Dk xs → R (.f (dkL xs)) ms
theorem len__law_deck : ∀ as ms R, Φ__law_deck as ms R → as.length = 2 := ph2_len
theorem int_at {ns : List Int} {j : Nat} (h : j < ns.length) : (ns.map PyData.int)[j]? = some (.int (ns.getD j 0)) := by
  rw [List.getElem?_map, List.getElem?_eq_getElem h]
  simp [List.getD, h]
theorem ixN_nat {n j : Nat} (h : j < n) : ixN n (j : Int) = some j := by
  unfold ixN
  simp [h]
theorem rd__law_deck {K : PySem.W.Frag} : ∀ as ms R, Φ__law_deck as ms R → S K (t__law_deck K Φ__law_stirred) (as ++ List.replicate (8 - as.length) .u) ms (fin R) := by
  rintro as ms R ⟨a, b, rfl, ns, n, rfl, rfl, hl, hn, r⟩
  unfold t__law_deck
  refine s_mid (fun ds' ms' => ∃ cs : List Int, cs ≠ [] ∧ cs.length ≤ 64 ∧ ds' = [.s ns, .d (.int n), .d (.list (cs.map .int)), .u, .u, .u, .u, .u] ∧ ms' = ms) ?_ ?_
  · refine s_asg (e_op (e_cb (ea_cons (e_slL (e_vars rfl (eo_none (eo_some (e_int ⟨_, rfl, _, .s ns, ?_⟩))))))))
    refine ea_nil (rc_list ⟨_, _, rfl, .inl (.d _), ?_⟩)
    refine e_op (e_lst (ea_cons (e_int (ea_nil ⟨[_], rfl, Nat.le_of_ble_eq_true rfl, ?_⟩))))
    refine e_cb (ea_cons (e_op (e_cb (ea_cons (e_vars rfl (ea_nil (rc_len ⟨_, _, rfl, .inl (.s ns), e_int (rr_eq ⟨_, _, .d _, .d _, shaped_int _, shaped_int _, ?_⟩)⟩)))))))
    refine ea_nil (rc_intB ⟨_, rfl, ?_⟩)
    rw [List.length_map, eqv_int]
    generalize hq : (if decide (((ns.length : Nat) : Int) = 0) = true then (1 : Int) else 0) = q
    have q01 : 0 ≤ q ∧ q ≤ 1 := by subst hq; split <;> omega
    refine rr_rep ⟨_, _, rfl, rfl, q01.1, by omega, ?_⟩
    have e1 : Hc.cutD (ns.map PyData.int) none (some 60) = (ns.take 60).map .int := by
      unfold Hc.cutD
      rw [HT.sIx_none, List.length_map, List.drop_zero, Nat.sub_zero, List.map_take]
      rw [show HT.sIx ns.length ns.length (some 60) = min 60 ns.length from HT.sIx_nat ns.length ns.length 60]
      rcases Nat.le_total 60 ns.length with z | z
      · rw [Nat.min_eq_left z]
      · rw [Nat.min_eq_right z, List.take_of_length_le (by simp), List.take_of_length_le (by simpa using z)]
    have e2 : Hc.cutD (ns.map PyData.int) none (some 60) ++ List.replicate q.toNat (PyData.int 0) = (ns.take 60 ++ List.replicate q.toNat 0).map .int := by
      rw [e1, List.map_append]
      simp
    have l2 := congrArg List.length e2
    refine rr_cat ⟨_, _, rfl, rfl, ?_, ?_⟩
    · rw [← List.length_append, e2]
      simp
      omega
    rw [e2]
    refine ⟨_, ?_, ?_, rfl, rfl⟩
    · intro z
      rw [List.append_eq_nil_iff] at z
      have z0 : ns = [] := by
        rcases List.take_eq_nil_iff.mp z.1 with y | y
        · cases y
        · exact y
      subst z0
      have q1 : q = 1 := hq.symm
      rw [q1] at z
      cases z.2
    · simp
      omega
  rintro ds' ms' ⟨cs, hc0, hc64, rfl, rfl⟩
  have hc1 : 0 < cs.length := List.length_pos_iff.mpr hc0
  have e18 : ((10 : Int) ^ (18 : Int).toNat) = 1000000000000000000 := by decide
  refine s_new (e_lcL (js := [4]) (by simp) (e_var rfl ⟨_, .d _, by rw [List.length_map]; omega, fun i acc ms1 => ∃ rs : List Int, rs.length = i ∧ acc = rs.map .int ∧ ms1 = ms', ⟨[], rfl, rfl, rfl⟩, ?_, ?_⟩))
  · rintro i e acc ms1 hi ⟨rs, hrl, rfl, rfl⟩
    rw [List.getElem?_map] at hi
    cases q : cs[i]? with
    | none => rw [q] at hi; cases hi
    | some c =>
      rw [q] at hi
      cases hi
      refine eg_name (et_yes ⟨fun _ => e_op (e_var rfl (e_cb (ea_cons (e_op (e_var rfl (e_op (e_int (e_int (rr_I ⟨_, _, rfl, rfl, ⟨by decide, by decide, by decide⟩, ?_⟩))))))))), nofun⟩)
      refine rr_B0 ⟨_, _, rfl, rfl, ea_nil (rc_intB ⟨_, rfl, rr_I ⟨_, _, rfl, rfl, .inr ?_, ?_⟩⟩)⟩
      · split <;> exact ⟨by decide, by decide⟩
      refine ⟨_, rfl, rs ++ [c * if decide ((10 : Int) ^ (18 : Int).toNat ≤ c) = true then 1 else 0], by simp [hrl], ?_, rfl⟩
      rw [List.map_append]
      rfl
  rintro acc ms1 ⟨rs, hrl, rfl, rfl⟩
  rw [List.length_map] at hrl
  refine ⟨_, rfl, ?_⟩
  refine s_new (e_lst (ea_nil ⟨[], rfl, Nat.zero_le _, _, rfl, ?_⟩))
  have n1 : (ms1 ++ [MD.l (rs.map PyData.int)]).length = ms1.length + 1 := by simp
  rw [n1]
  refine s_seq (s_forR (js := [6]) (ea_cons (e_var rfl (ea_nil ⟨_, rfl, by omega, fun i ds' ms' => ∃ (rs : List Int) (xs : List Nat) (o6 o7 : SD), rs.length = cs.length ∧ Dk xs ∧ xs.length = i ∧
    ds' = [.s ns, .d (.int n), .d (.list (cs.map .int)), .m ms1.length, .u, .m (ms1.length + 1), o6, o7] ∧ ms' = ms1 ++ [.l (rs.map .int)] ++ [.l (dkL xs)], ⟨rs, [], _, _, hrl, nofun, rfl, rfl, rfl⟩, ?_, ?_⟩))))
  · rintro i ds' ms' hi ⟨rs, xs, o6, o7, hr, hx, hxl, rfl, rfl⟩
    have hi' : i < n := by omega
    refine eg_name ?_
    refine s_seq (s_asg (e_op (e_var rfl (e_cb (ea_cons (e_var rfl (ea_nil (rc_len ⟨_, _, rfl, .inl (.d _), rr_I ⟨_, _, rfl, rfl, ?_, ?_⟩⟩))))))))
    · rw [List.length_map]; omega
    obtain ⟨j, hj, ej⟩ := fm_ex (i : Int) (m := (((cs.map PyData.int).length : Nat) : Int)) (by rw [List.length_map]; omega)
    rw [ej]
    have hj' : j < rs.length := by rw [List.length_map] at hj; omega
    have hjc : j < cs.length := by omega
    have g1 : ∀ A B : MD, (ms1 ++ [A] ++ [B])[ms1.length]? = some A := fun A B => get2a ms1 A B
    have two : ∀ (A B : MD), (ms1 ++ [A] ++ [B])[ms1.length + 1]? = some B := fun A B => get2b ms1 A B
    refine s_if (et_test (e_op (e_op (e_varm rfl (e_var rfl (rr_ix ⟨_, _, _, .inl (.m (g1 _ _)), rfl, atI_nat (int_at hj'), e_int (rr_B0 ⟨_, _, rfl, rfl, _, rfl, fun _ => ?_, fun _ => ?_⟩)⟩))))))
    · refine s_seq (s_drop (e_append (e_varm rfl ⟨_, rfl, e_op (e_op (e_varm rfl (e_var rfl (rr_ix ⟨_, _, _, .inl (.m (g1 _ _)), rfl, atI_nat (int_at hj'), e_int (rr_I ⟨_, _, rfl, rfl, by decide, ?_⟩)⟩))))⟩)))
      obtain ⟨z, hz, ez⟩ := fm_ex (rs.getD j 0) (m := 1000) (by decide)
      rw [ez]
      refine ⟨_, _, rfl, two _ _, by rw [List.length_map]; omega, ?_⟩
      rw [set2b]
      refine s_setL (e_op (e_op (e_varm rfl (e_var rfl (rr_ix ⟨_, _, _, .inl (.m (g1 _ _)), rfl, atI_nat (int_at hj'), e_int (rr_I ⟨_, _, rfl, rfl, cdv _ _ (by decide) (by decide), ?_⟩)⟩)))))
      refine ⟨_, rfl, e_varm rfl ⟨_, rfl, e_var rfl ⟨_, j, _, rfl, g1 _ _, ixN_nat (by rw [List.length_map]; exact hj'), ?_⟩⟩⟩
      rw [set2a]
      refine ⟨rs.set j ((rs.getD j 0).fdiv 1000), xs ++ [z], _, _, by simp [hr], hx.snoc (by omega), by simp [hxl], rfl, ?_⟩
      rw [List.map_set, dk_snoc]
    · refine s_drop (e_append (e_varm rfl ⟨_, rfl, e_op (e_call (ea_cons (e_op (e_var rfl (e_var rfl (rr_ix ⟨_, _, _, .inl (.d _), rfl, atI_nat (int_at hjc), ?_⟩))))))⟩))
      refine ea_cons (e_op (e_var rfl (e_int (rr_I0 ⟨_, _, rfl, rfl, ?_⟩))))
      refine ea_nil ⟨_, _, rfl, _, i + 1, rfl, rfl, by omega, fun x => e_int (rr_I ⟨_, _, rfl, rfl, by decide, ?_⟩)⟩
      obtain ⟨z, hz, ez⟩ := fm_ex x (m := 1000) (by decide)
      rw [ez]
      refine ⟨_, _, rfl, two _ _, by rw [List.length_map]; omega, ?_⟩
      rw [set2b]
      refine ⟨rs, xs ++ [z], _, _, hr, hx.snoc (by omega), by simp [hxl], rfl, by rw [dk_snoc]⟩
  rintro ds' ms' ⟨rs, xs, o6, o7, hr, hx, hxl, rfl, rfl⟩
  refine s_ret (e_lstRev (e_varm rfl ⟨_, .m (get2b ms1 _ _), ?_⟩))
  refine ⟨_, _, rfl, by simp, _, _, rfl, rfl, ?_⟩
  rw [← List.map_reverse]
  exact r _ fun x hx' => hx x (by simpa using hx')

theorem set_same {α : Type} : ∀ (l : List α) (k : Nat) (x : α), l[k]? = some x → l.set k x = l
  | [], k, x, h => by simp at h
  | a :: r, 0, x, h => by simp at h; simp [h]
  | a :: r, k + 1, x, h => by simp at h; simp [set_same r k x h]
def Φ__law_next : Ph := ph1 fun a ms R => ∃ (k : Nat) (xs : List Nat), a = .m k ∧ Dk xs ∧ ms[k]? = some (.l (dkL xs)) ∧ ∀ (z : Nat) (xs' : List Nat), z < 1000 → Dk xs' → R (.d (.int z)) (ms.set k (.l (dkL xs')))
theorem len__law_next : ∀ as ms R, Φ__law_next as ms R → as.length = 1 := ph1_len
theorem rd__law_next {K : PySem.W.Frag} : ∀ as ms R, Φ__law_next as ms R → S K (t__law_next K) (as ++ List.replicate (1 - as.length) .u) ms (fin R) := by
  rintro as ms R ⟨a, rfl, k, xs, rfl, hx, hk, r⟩
  unfold t__law_next
  refine s_seq (s_if (et_test (e_op (e_cb (ea_cons (e_varm rfl (ea_nil (rc_len ⟨_, _, rfl, .inl (.m hk), e_int (rr_B0 ⟨_, _, rfl, rfl, _, rfl, fun h => ?_, fun h => ?_⟩)⟩))))))))
  · have h1 : xs ≠ [] := fun z => by subst z; simp at h
    have e : xs = xs.dropLast ++ [xs.getLast h1] := (List.dropLast_concat_getLast h1).symm
    refine s_ret (e_pop (e_varm rfl ⟨k, dkL xs.dropLast, .int (xs.getLast h1 : Nat), rfl, ?_, ?_⟩))
    · rw [hk, show dkL xs = dkL (xs.dropLast ++ [xs.getLast h1]) by rw [← e]]
      unfold dkL
      rw [List.map_append]
      rfl
    · exact r _ _ (hx _ (List.getLast_mem h1)) fun x hx' => hx x (by rw [List.dropLast_eq_take] at hx'; exact List.mem_of_mem_take hx')
  · refine s_next (s_ret (e_int ?_))
    have := r 0 xs (by decide) hx
    rw [set_same _ _ _ hk] at this
    exact this
/-- one more of the deck -/
theorem e_next {K : PySem.W.Frag} {ds : List SD} {ms : List MD} {i k : Nat} {xs : List Nat} {R : RS} (hi : ds[i]? = some (.m k)) (hk : ms[k]? = some (.l (dkL xs))) (hn : Dk xs)
    (r : ∀ (z : Nat) (xs' : List Nat), z < 1000 → Dk xs' → R (.d (.int z)) (ms.set k (.l (dkL xs')))) : E K (tCall (SpD K Φ__law_next) [] E0 (tCons (tVar i) tNil)) ds ms R :=
  e_call (ea_cons (e_varm hi (ea_nil ⟨_, rfl, k, xs, rfl, hn, hk, r⟩)))

def Φ__law_fraction : Ph := ph2 fun a b ms R => ∃ i j : Int, a = .d (.int i) ∧ b = .d (.int j) ∧ 0 < j ∧ Bd 8000 j ∧ R (.d (pr (fr i j))) ms
theorem len__law_fraction : ∀ as ms R, Φ__law_fraction as ms R → as.length = 2 := ph2_len
theorem fr_posj {i j : Int} (h : 0 < j) : fr i j = (i.fdiv (Int.gcd i j), j.fdiv (Int.gcd i j)) := if_neg (by omega)
theorem rd__law_fraction {K : PySem.W.Frag} : ∀ as ms R, Φ__law_fraction as ms R → S K (t__law_fraction K) (as ++ List.replicate (4 - as.length) .u) ms (fin R) := by
  rintro as ms R ⟨a, b, rfl, i, j, rfl, rfl, hj, hb, r⟩
  have hg : 0 < Int.gcd i j := Int.gcd_pos_of_ne_zero_right i (by omega)
  have hgb : Bd 8000 (Int.gcd i j : Int) := hb.le (by
    have := Int.gcd_le_natAbs_right i (show j ≠ 0 by omega)
    omega)
  unfold t__law_fraction
  refine s_mid (fun ds' ms' => ds' = [.d (.int i), .d (.int j), .d (.int (i.natAbs : Int)), .d (.int (j.natAbs : Int))] ∧ ms' = ms) ?_ ?_
  · walk_at "evs"
    rw [abs_nat]
    have : (j.natAbs : Int) = j := by omega
    rw [this]
    exact ⟨rfl, rfl⟩
  rintro ds' ms' ⟨rfl, rfl⟩
  refine s_mid (fun ds' ms1 => ∃ o : SD, ds' = [.d (.int i), .d (.int j), o, .d (.int (Int.gcd i j : Int))] ∧ ms1 = ms') ?_ ?_
  · refine s_while (fun n ds ms1 => ∃ x y : Nat, ds = [.d (.int i), .d (.int j), .d (.int (x : Int)), .d (.int (y : Int))] ∧ ms1 = ms' ∧ Nat.gcd x y = Int.gcd i j ∧ n = x) i.natAbs ⟨i.natAbs, j.natAbs, rfl, rfl, rfl, rfl⟩ ?_
    rintro n ds ms1 ⟨x, y, rfl, rfl, hgc, hn⟩
    walk_at "evs"
    refine ⟨fun h => ?_, fun h => ?_⟩
    · have hx : 0 < x := by have := of_decide_eq_true h; omega
      walk_at "evs"
      refine rr_I ⟨_, _, rfl, rfl, by omega, ?_⟩
      walk_at "evs"
      rw [fmod_nat]
      refine ⟨y % x, by rw [hn]; exact Nat.mod_lt _ hx, y % x, x, rfl, rfl, ?_, rfl⟩
      rw [Nat.gcd_comm, gcd_step, Nat.gcd_comm]
      exact hgc
    · have hx : x = 0 := by have := of_decide_eq_false h; omega
      subst hx
      rw [Nat.gcd_zero_left] at hgc
      subst hgc
      exact ⟨_, rfl, rfl⟩
  rintro ds' ms1 ⟨o, rfl, rfl⟩
  rw [fr_posj hj] at r
  walk_at "evs"
  refine rr_I ⟨_, _, rfl, rfl, ⟨by omega, hgb⟩, ?_⟩
  walk_at "evs"
  refine rr_I ⟨_, _, rfl, rfl, ⟨by omega, hgb⟩, ?_⟩
  walk_at "evs"
  exact r

/-- two fractions that may be added -/
structure Two (p q : Int × Int) : Prop where
  p0 : 0 < p.2
  q0 : 0 < q.2
  p1 : Bd 20000 p.1
  p2 : Bd 4000 p.2
  q1 : Bd 20000 q.1
  q2 : Bd 4000 q.2

def Φ__law_below : Ph := ph2 fun a b ms R => ∃ p q : Int × Int, a = .d (pr p) ∧ b = .d (pr q) ∧ Two p q ∧ R (.d (.bool (decide (p.1 * q.2 < q.1 * p.2)))) ms
theorem len__law_below : ∀ as ms R, Φ__law_below as ms R → as.length = 2 := ph2_len
theorem rd__law_below {K : PySem.W.Frag} : ∀ as ms R, Φ__law_below as ms R → S K (t__law_below K) (as ++ List.replicate (2 - as.length) .u) ms (fin R) := by
  rintro as ms R ⟨a, b, rfl, p, q, rfl, rfl, ⟨p0, q0, b1, b2, b3, b4⟩, r⟩
  have up : ∀ {x : Int}, Bd 20000 x → Bd 100000 x := fun h => h.mono (by decide)
  have uq : ∀ {x : Int}, Bd 4000 x → Bd 100000 x := fun h => h.mono (by decide)
  unfold t__law_below
  walk_at "evs"
  refine rr_I ⟨_, _, rfl, rfl, ⟨up b1, uq b4⟩, ?_⟩
  walk_at "evs"
  refine rr_I ⟨_, _, rfl, rfl, ⟨up b3, uq b2⟩, ?_⟩
  walk_at "evs"
  exact r

theorem wt_fr {i j : Int} (hj : 0 < j) (h1 : i.natAbs < 2 ^ 32) (h2 : j.natAbs < 2 ^ 10) : Wt (fr i j) := by
  have hne : j ≠ 0 := by omega
  have l := fr_le (i := i) hne
  exact ⟨Lo.fr hne, (Bd.of h1).le l.1, (Bd.of h2).le l.2⟩
def Φ__law_weight : Ph := ph2 fun a b ms R => ∃ (k : Nat) (xs : List Nat) (w : Nat), a = .m k ∧ b = .d (.int w) ∧ Dk xs ∧ ms[k]? = some (.l (dkL xs)) ∧ ∀ (f : Int × Int) (xs' : List Nat), Wt f → Dk xs' → R (.d (pr f)) (ms.set k (.l (dkL xs')))
theorem len__law_weight : ∀ as ms R, Φ__law_weight as ms R → as.length = 2 := ph2_len
theorem rd__law_weight {K : PySem.W.Frag} : ∀ as ms R, Φ__law_weight as ms R → S K (t__law_weight K Φ__law_next Φ__law_fraction) (as ++ List.replicate (4 - as.length) .u) ms (fin R) := by
  rintro as ms R ⟨a, b, rfl, k, xs, w, rfl, rfl, hx, hk, r⟩
  unfold t__law_weight
  refine s_seq (s_asg (e_next rfl hk hx fun c xs1 hc hx1 => ?_))
  refine s_seq (s_asg (e_op (e_op (e_var rfl (e_int (rr_I ⟨_, _, rfl, rfl, by decide, e_int (rr_I0 ⟨_, _, rfl, rfl, ?_⟩)⟩))))))
  obtain ⟨c9, hc9, e9⟩ := fm_ex (c : Int) (m := 9) (by decide)
  rw [e9]
  have e8 : ((10 : Int) ^ (8 : Int).toNat) = 100000000 := by decide
  refine s_mid (fun ds' ms' => ∃ t : Int, t.natAbs < 2 ^ 32 ∧ ds' = [.m k, .d (.int w), .d (.int (c : Nat)), .d (.int t)] ∧ ms' = ms.set k (.l (dkL xs1))) ?_ ?_
  · refine s_if (et_test (e_op (e_var rfl (e_int (rr_eq ⟨_, _, .d _, .d _, shaped_int _, shaped_int _, _, rfl, fun _ => ?_, fun _ => ?_⟩)))))
    · refine s_asg (e_cb (ea_cons (e_var rfl (ea_nil (rc_abs ⟨_, rfl, ?_⟩)))))
      rw [abs_nat]
      exact ⟨_, by omega, rfl, rfl⟩
    refine s_if (et_test (e_op (e_var rfl (e_int (rr_eq ⟨_, _, .d _, .d _, shaped_int _, shaped_int _, _, rfl, fun _ => ?_, fun _ => ?_⟩)))))
    · refine s_asg (e_op (e_int (e_cb (ea_cons (e_var rfl (ea_nil (rc_abs ⟨_, rfl, rr_I0 ⟨_, _, rfl, rfl, ?_⟩⟩)))))))
      rw [abs_nat]
      exact ⟨_, by omega, rfl, rfl⟩
    refine s_if (et_test (e_op (e_var rfl (e_int (rr_eq ⟨_, _, .d _, .d _, shaped_int _, shaped_int _, _, rfl, fun _ => ?_, fun _ => ?_⟩)))))
    · refine s_ret (e_tup (ea_cons (e_int (ea_cons (e_int (ea_nil ⟨[_, _], rfl, Nat.le_of_ble_eq_true rfl, ?_⟩))))))
      exact r (1, 1) xs1 ⟨⟨by decide, by decide⟩, Bd.of (by decide), Bd.of (by decide)⟩ hx1
    refine s_if (et_test (e_op (e_var rfl (e_int (rr_eq ⟨_, _, .d _, .d _, shaped_int _, shaped_int _, _, rfl, fun _ => ?_, fun _ => ?_⟩)))))
    · refine s_asg (e_op (e_op (e_var rfl (e_op (e_int (e_int (rr_I ⟨_, _, rfl, rfl, ⟨by decide, by decide, by decide⟩, ?_⟩)))))))
      rw [e8]
      refine rr_I ⟨_, _, rfl, rfl, ⟨bdS (by omega) (by decide), bdS (by decide) (by decide)⟩, e_var rfl (rr_I0 ⟨_, _, rfl, rfl, ?_⟩)⟩
      exact ⟨_, by omega, rfl, rfl⟩
    · exact s_next ⟨_, by omega, rfl, rfl⟩
  rintro ds' ms' ⟨t, ht, rfl, rfl⟩
  refine s_ret (e_call (ea_cons (e_var rfl (ea_cons (e_op (e_lst (ea_cons (e_int (ea_cons (e_int (ea_cons (e_int (ea_cons (e_int (ea_cons (e_int (ea_cons (e_int (ea_nil ⟨[_, _, _, _, _, _], rfl, Nat.le_of_ble_eq_true rfl, ?_⟩)))))))))))))))))))
  refine e_op (e_op (e_var rfl (e_int (rr_I ⟨_, _, rfl, rfl, cdv _ _ (by decide) (by decide), e_int (rr_I ⟨_, _, rfl, rfl, by decide, ?_⟩)⟩))))
  obtain ⟨j, hj, ej⟩ := fm_ex ((c : Int).fdiv 9) (m := 6) (by decide)
  rw [ej]
  have at_ : ∃ d : Int, (0 < d ∧ d.natAbs < 2 ^ 10) ∧ ([PyData.int 1, .int 1, .int 2, .int 3, .int 1, .int 1000] : List PyData)[j]? = some (.int d) := by
    have : j = 0 ∨ j = 1 ∨ j = 2 ∨ j = 3 ∨ j = 4 ∨ j = 5 := by omega
    rcases this with rfl | rfl | rfl | rfl | rfl | rfl
    · exact ⟨1, by decide, rfl⟩
    · exact ⟨1, by decide, rfl⟩
    · exact ⟨2, by decide, rfl⟩
    · exact ⟨3, by decide, rfl⟩
    · exact ⟨1, by decide, rfl⟩
    · exact ⟨1000, by decide, rfl⟩
  obtain ⟨d, ⟨d0, d1⟩, ed⟩ := at_
  refine rr_ix ⟨_, _, _, .inl (.d _), rfl, atI_nat ed, ea_nil ⟨_, _, rfl, t, d, rfl, rfl, d0, (Bd.of d1).mono (by decide), ?_⟩⟩
  exact r _ _ (wt_fr d0 ht d1) hx1

theorem perm_enc {α β : Type} (f : α → β) : ∀ {l : List α} {m : List β}, m.Perm (l.map f) → ∃ l' : List α, m = l'.map f ∧ l'.Perm l := by
  intro l m h
  have key : ∀ {a b : List β}, a.Perm b → ∀ l : List α, b = l.map f → ∃ l' : List α, a = l'.map f ∧ l'.Perm l := by
    intro a b h
    induction h with
    | nil =>
      intro l e
      cases l with
      | nil => exact ⟨[], rfl, .nil⟩
      | cons x r => cases e
    | cons x h ih =>
      intro l e
      cases l with
      | nil => cases e
      | cons y r =>
        rw [List.map_cons] at e
        obtain ⟨l', e1, p⟩ := ih r (List.cons.inj e).2
        exact ⟨y :: l', by rw [List.map_cons, e1, (List.cons.inj e).1], p.cons y⟩
    | swap x y r =>
      intro l e
      match l, e with
      | [], e => cases e
      | [_], e => cases (List.cons.inj e).2
      | a :: b :: t, e =>
        rw [List.map_cons, List.map_cons] at e
        obtain ⟨e1, e2⟩ := List.cons.inj e
        obtain ⟨e2, e3⟩ := List.cons.inj e2
        exact ⟨b :: a :: t, by rw [List.map_cons, List.map_cons, e1, e2, e3], .swap a b t⟩
    | trans h1 h2 ih1 ih2 =>
      intro l e
      obtain ⟨l2, e2, p2⟩ := ih2 l e
      obtain ⟨l1, e1, p1⟩ := ih1 l2 e2
      exact ⟨l1, e1, p1.trans p2⟩
  exact key h l rfl
theorem ties_sort (ts : List Tie) : (∀ e ∈ ts.map encT, Shp 60 e) ∧ PySem.W.AllAlike (ts.map encT) ∧ PySem.W.Sortable (ts.map encT) := by
  refine ⟨fun e he => ?_, fun d hd d' hd' => ?_, .inl fun d hd => ?_⟩
  · obtain ⟨t, _, rfl⟩ := List.mem_map.mp he
    refine (Shp.tup (n := 1) fun x hx => ?_).mono (by decide)
    simp only [List.mem_cons, List.not_mem_nil, or_false] at hx
    rcases hx with rfl | rfl | rfl
    · exact (Shp.int _).mono (by decide)
    · exact (Shp.int _).mono (by decide)
    · exact Shp.pr _
  · obtain ⟨t, _, rfl⟩ := List.mem_map.mp hd
    obtain ⟨u, _, rfl⟩ := List.mem_map.mp hd'
    rfl
  · obtain ⟨t, _, rfl⟩ := List.mem_map.mp hd
    exact ⟨_, _, rfl⟩
def Φ__law_web : Ph := ph3 fun a b c ms R => ∃ (k : Nat) (xs : List Nat) (mp mt : Nat), a = .m k ∧ b = .d (.int mp) ∧ c = .d (.int mt) ∧ Dk xs ∧ ms[k]? = some (.l (dkL xs)) ∧ 1 ≤ mp ∧ mp ≤ 60 ∧ mt ≤ 120 ∧
  ∀ (m : Nat) (ts : List Tie) (xs' : List Nat), m ≤ mp → ts.length ≤ mt → WebOk m ts → Dk xs' → R (.d (encW m ts)) (ms.set k (.l (dkL xs')))
theorem len__law_web : ∀ as ms R, Φ__law_web as ms R → as.length = 3 := ph3_len
theorem rd__law_web {K : PySem.W.Frag} : ∀ as ms R, Φ__law_web as ms R → S K (t__law_web K Φ__law_next Φ__law_weight) (as ++ List.replicate (9 - as.length) .u) ms (fin R) := by
  rintro as ms R ⟨a, b, c, rfl, k, xs, mp, mt, rfl, rfl, rfl, hx, hk, p1, p60, t120, r⟩
  have hkl : k < ms.length := (List.getElem?_eq_some_iff.mp hk).1
  have ln : ∀ x : MD, (ms.set k x).length = ms.length := fun x => List.length_set
  have at1 : ∀ x : MD, (ms.set k x)[k]? = some x := fun x => List.getElem?_set_self hkl
  have at2 : ∀ x y : MD, (ms.set k x ++ [y])[k]? = some x := fun x y => by rw [List.getElem?_append_left (by rw [ln]; exact hkl)]; exact at1 x
  have st2 : ∀ x y z : MD, (ms.set k x ++ [y]).set k z = ms.set k z ++ [y] := fun x y z => by rw [List.set_append_left _ _ (by rw [ln]; exact hkl), List.set_set]
  have la : ∀ x y : MD, (ms.set k x ++ [y])[ms.length]? = some y := fun x y => by rw [List.getElem?_append_right (by rw [ln]; exact Nat.le_refl _), ln, Nat.sub_self]; rfl
  have sl : ∀ x y z : MD, (ms.set k x ++ [y]).set ms.length z = ms.set k x ++ [z] := fun x y z => by rw [List.set_append_right _ _ (by rw [ln]; exact Nat.le_refl _), ln, Nat.sub_self]; rfl
  unfold t__law_web
  refine s_seq (s_asg (e_op (e_int (e_op (e_next rfl hk hx fun z1 xs1 hz1 hx1 => e_var rfl (rr_I ⟨_, _, rfl, rfl, by omega, rr_I0 ⟨_, _, rfl, rfl, ?_⟩⟩))))))
  obtain ⟨m0, hm0, em0⟩ := fm_ex (z1 : Int) (m := (mp : Int)) (by omega)
  rw [em0, show (1 : Int) + (m0 : Int) = ((m0 + 1 : Nat) : Int) by omega]
  refine s_seq (s_asg (e_op (e_lst (ea_cons (e_int (ea_cons (e_int (ea_cons (e_int (ea_cons (e_int (ea_cons (e_int (ea_cons (e_int (ea_cons (e_int (ea_nil ⟨[_, _, _, _, _, _, _], rfl, Nat.le_of_ble_eq_true rfl, ?_⟩))))))))))))))))))
  refine e_op (e_next rfl (at1 _) hx1 fun z2 xs2 hz2 hx2 => e_int (rr_I ⟨_, _, rfl, rfl, by decide, ?_⟩))
  rw [List.set_set]
  obtain ⟨j, hj, ej⟩ := fm_ex (z2 : Int) (m := 7) (by decide)
  rw [ej]
  have at_ : ∃ d : Nat, ([PyData.int 0, .int 0, .int 0, .int 1, .int 2, .int 3, .int 4] : List PyData)[j]? = some (.int (d : Int)) := by
    have : j = 0 ∨ j = 1 ∨ j = 2 ∨ j = 3 ∨ j = 4 ∨ j = 5 ∨ j = 6 := by omega
    rcases this with rfl | rfl | rfl | rfl | rfl | rfl | rfl
    · exact ⟨0, rfl⟩
    · exact ⟨0, rfl⟩
    · exact ⟨0, rfl⟩
    · exact ⟨1, rfl⟩
    · exact ⟨2, rfl⟩
    · exact ⟨3, rfl⟩
    · exact ⟨4, rfl⟩
  obtain ⟨w, ew⟩ := at_
  refine rr_ix ⟨_, _, _, .inl (.d _), rfl, atI_nat ew, ?_⟩
  refine s_seq (s_asg (e_op (e_int (e_op (e_next rfl (at1 _) hx2 fun z3 xs3 hz3 hx3 => e_int (rr_I ⟨_, _, rfl, rfl, by decide, rr_I0 ⟨_, _, rfl, rfl, ?_⟩⟩))))))
  rw [List.set_set]
  generalize (1 : Int) + Int.fmod (z3 : Int) 4 = often
  refine s_new (e_lst (ea_nil ⟨[], rfl, Nat.zero_le _, _, rfl, ?_⟩))
  rw [ln]
  refine s_seq (s_forR (js := [7]) (ea_cons (e_var rfl (ea_nil ⟨_, rfl, by omega, fun i ds' ms' => ∃ (ts : List Tie) (xs' : List Nat) (o7 o8 : SD), (∀ t ∈ ts, TieOk (m0 + 1) t) ∧ ts.length ≤ mt ∧ Dk xs' ∧
    ds' = [.m k, .d (.int mp), .d (.int mt), .d (.int ((m0 + 1 : Nat) : Int)), .d (.int (w : Int)), .d (.int often), .m ms.length, o7, o8] ∧ ms' = ms.set k (.l (dkL xs')) ++ [.l (ts.map encT)], ⟨[], xs3, _, _, nofun, Nat.zero_le _, hx3, rfl, rfl⟩, ?_, ?_⟩))))
  · rintro i ds' ms' hi ⟨ts, xs4, o7, o8, ht, htl, hx4, rfl, rfl⟩
    have hi' : i < m0 + 1 := by simpa using hi
    refine eg_name ?_
    refine s_forR (js := [8]) (ea_cons (e_var rfl (ea_nil ⟨_, rfl, by omega, fun j ds' ms' => ∃ (ts : List Tie) (xs' : List Nat) (o8 : SD), (∀ t ∈ ts, TieOk (m0 + 1) t) ∧ ts.length ≤ mt ∧ Dk xs' ∧
      ds' = [.m k, .d (.int mp), .d (.int mt), .d (.int ((m0 + 1 : Nat) : Int)), .d (.int (w : Int)), .d (.int often), .m ms.length, .d (.int (i : Int)), o8] ∧ ms' = ms.set k (.l (dkL xs')) ++ [.l (ts.map encT)], ⟨ts, xs4, _, ht, htl, hx4, rfl, rfl⟩, ?_, ?_⟩)))
    · rintro j ds' ms' hj ⟨ts, xs5, o8, ht, htl, hx5, rfl, rfl⟩
      have hj' : j < i := by simpa using hj
      refine eg_name ?_
      refine s_if (et_and (et_test (e_op (e_op (e_next rfl (at2 _ _) hx5 fun z6 xs6 hz6 hx6 => e_int (rr_I ⟨_, _, rfl, rfl, by decide, e_var rfl (rr_B0 ⟨_, _, rfl, rfl, _, rfl, fun _ => ?_, fun _ => ?_⟩)⟩))))))
      · rw [st2]
        refine et_test (e_op (e_cb (ea_cons (e_varm rfl (ea_nil (rc_len ⟨_, _, rfl, .inl (.m (la _ _)), e_var rfl (rr_B0 ⟨_, _, rfl, rfl, _, rfl, fun hlt => ?_, fun _ => ?_⟩)⟩))))))
        · have hlt' : ts.length < mt := by
            rw [List.length_map] at hlt
            have := of_decide_eq_true hlt
            omega
          refine s_drop (e_append (e_varm rfl ⟨_, rfl, e_tup (ea_cons (e_var rfl (ea_cons (e_var rfl (ea_cons (e_call (ea_cons (e_varm rfl (ea_cons (e_var rfl (ea_nil ⟨_, _, rfl, k, xs6, w, rfl, rfl, hx6, at2 _ _, fun f xs7 hf hx7 => ?_⟩)))))))))))⟩))
          rw [st2]
          refine ea_nil ⟨[_, _, _], rfl, Nat.le_of_ble_eq_true rfl, _, _, rfl, la _ _, by rw [List.length_map]; omega, ?_⟩
          rw [sl]
          refine ⟨ts ++ [(j, i, f)], xs7, _, fun t h => ?_, by simp; omega, hx7, rfl, ?_⟩
          · rcases List.mem_append.mp h with h | h
            · exact ht t h
            · have e : t = (j, i, f) := by simpa using h
              subst e
              exact ⟨hj', hi', hf⟩
          · rw [List.map_append]
            rfl
        · exact s_next ⟨ts, xs6, _, ht, htl, hx6, rfl, rfl⟩
      · rw [st2]
        exact ⟨nofun, fun _ => s_next ⟨ts, xs6, _, ht, htl, hx6, rfl, rfl⟩⟩
    · rintro ds' ms' ⟨ts, xs5, o8, ht, htl, hx5, rfl, rfl⟩
      exact ⟨ts, xs5, _, _, ht, htl, hx5, rfl, rfl⟩
  rintro ds' ms' ⟨ts, xs5, o7, o8, ht, htl, hx5, rfl, rfl⟩
  obtain ⟨s1, s2, s3⟩ := ties_sort ts
  obtain ⟨ts', et, pt⟩ := perm_enc encT (l := ts) (List.mergeSort_perm (ts.map encT) (PySem.W.dataLe false id))
  refine s_ret (e_tup (ea_cons (e_var rfl (ea_cons (e_cb (ea_cons (e_cb (ea_cons (e_varm rfl (ea_nil (rc_sortD ⟨_, _, rfl, .m (la _ _), s1, s2, s3, ?_⟩)))))))))))
  rw [show sortD (ts.map encT) = ts'.map encT from et]
  refine ea_nil (rc_tuple ⟨_, _, rfl, .inl (.d _), ea_nil ⟨[_, _], rfl, Nat.le_of_ble_eq_true rfl, _, _, rfl, ln _, ?_⟩⟩)
  refine r (m0 + 1) ts' xs5 (by omega) (by rw [pt.length_eq]; exact htl) ⟨fun t h => ht t (pt.mem_iff.mp h), by rw [pt.length_eq]; omega, by omega, by omega⟩ hx5

def Φ__law_wishes : Ph := ph2 fun a b ms R => ∃ (k : Nat) (xs : List Nat) (m : Nat), a = .m k ∧ b = .d (.int m) ∧ Dk xs ∧ ms[k]? = some (.l (dkL xs)) ∧ 1 ≤ m ∧ m ≤ 60 ∧
  ∀ (js : List Jn) (xs' : List Nat), (∀ j ∈ js, jOk m j) → js.length ≤ 4 → Dk xs' → R (.d (.tuple (js.map encJ))) (ms.set k (.l (dkL xs')))
theorem len__law_wishes : ∀ as ms R, Φ__law_wishes as ms R → as.length = 2 := ph2_len
theorem rd__law_wishes {K : PySem.W.Frag} : ∀ as ms R, Φ__law_wishes as ms R → S K (t__law_wishes K Φ__law_next) (as ++ List.replicate (10 - as.length) .u) ms (fin R) := by
  rintro as ms R ⟨a, b, rfl, k, xs, m, rfl, rfl, hx, hk, m1, m60, r⟩
  have hkl : k < ms.length := (List.getElem?_eq_some_iff.mp hk).1
  have ln : ∀ x : MD, (ms.set k x).length = ms.length := fun x => List.length_set
  have at1 : ∀ x : MD, (ms.set k x)[k]? = some x := fun x => List.getElem?_set_self hkl
  have at2 : ∀ x y : MD, (ms.set k x ++ [y])[k]? = some x := fun x y => by rw [List.getElem?_append_left (by rw [ln]; exact hkl)]; exact at1 x
  have st2 : ∀ x y z : MD, (ms.set k x ++ [y]).set k z = ms.set k z ++ [y] := fun x y z => by rw [List.set_append_left _ _ (by rw [ln]; exact hkl), List.set_set]
  have la : ∀ x y : MD, (ms.set k x ++ [y])[ms.length]? = some y := fun x y => by rw [List.getElem?_append_right (by rw [ln]; exact Nat.le_refl _), ln, Nat.sub_self]; rfl
  have sl : ∀ x y z : MD, (ms.set k x ++ [y]).set ms.length z = ms.set k x ++ [z] := fun x y z => by rw [List.set_append_right _ _ (by rw [ln]; exact Nat.le_refl _), ln, Nat.sub_self]; rfl
  unfold t__law_wishes
  refine s_seq (s_asg (e_op (e_next rfl hk hx fun z1 xs1 hz1 hx1 => e_int (rr_I ⟨_, _, rfl, rfl, by decide, ?_⟩))))
  generalize Int.fmod (z1 : Int) 4 = way
  refine s_new (e_lst (ea_nil ⟨[], rfl, Nat.zero_le _, _, rfl, ?_⟩))
  rw [ln]
  refine s_mid (fun ds' ms' => ∃ (js : List Jn) (xs' : List Nat) (o4 o5 o6 o7 o8 o9 : SD), (∀ j ∈ js, jOk m j) ∧ js.length ≤ 4 ∧ Dk xs' ∧ ds' = [.m k, .d (.int m), .d (.int way), .m ms.length, o4, o5, o6, o7, o8, o9] ∧ ms' = ms.set k (.l (dkL xs')) ++ [.l (js.map encJ)]) ?_ ?_
  · refine s_if (et_and (et_test (e_op (e_var rfl (e_int (rr_B0 ⟨_, _, rfl, rfl, _, rfl, fun _ => ?_, fun _ => ?_⟩))))))
    · refine et_test (e_op (e_var rfl (e_int (rr_B0 ⟨_, _, rfl, rfl, _, rfl, fun hm => ?_, fun _ => ?_⟩))))
      · have m2 : 1 < m := by have := of_decide_eq_true hm; omega
        refine s_seq (s_asg (e_lcR (js := [9]) (by simp) (ea_cons (e_var rfl (ea_nil ⟨_, rfl, by omega, fun i acc ms' => ∃ (ss xs' : List Nat), ss.length = i ∧ acc = dkL ss ∧ Dk xs' ∧ ms' = ms.set k (.l (dkL xs')) ++ [.l []], ⟨[], xs1, rfl, rfl, hx1, rfl⟩, ?_, ?_⟩)))))
        · rintro i acc _ hi ⟨ss, xs2, hsl, rfl, hx2, rfl⟩
          refine eg_name (et_yes ⟨fun _ => e_op (e_next rfl (at2 _ _) hx2 fun z xs3 hz hx3 => e_int (rr_I ⟨_, _, rfl, rfl, by decide, ?_⟩)), nofun⟩)
          obtain ⟨b, hb, eb⟩ := fm_ex (z : Int) (m := 2) (by decide)
          rw [eb, st2]
          exact ⟨_, rfl, ss ++ [b], xs3, by simp [hsl], by rw [dk_snoc], hx3, rfl⟩
        rintro acc _ ⟨ss, xs2, hsl, rfl, hx2, rfl⟩
        have hsl : ss.length = m := by simpa using hsl
        refine s_forR (js := [5]) (ea_cons (e_op (e_next rfl (at2 _ _) hx2 fun z3 xs3 hz3 hx3 => e_int (rr_I ⟨_, _, rfl, rfl, by decide, ?_⟩))))
        obtain ⟨c, hc, ec⟩ := fm_ex (z3 : Int) (m := 5) (by decide)
        rw [ec, st2]
        refine ea_nil ⟨_, rfl, by omega, fun i ds' ms' => ∃ (js : List Jn) (xs' : List Nat) (o5 o6 o7 o8 o9 : SD), (∀ j ∈ js, jOk m j) ∧ js.length ≤ i ∧ Dk xs' ∧ ds' = [.m k, .d (.int m), .d (.int way), .m ms.length, .d (.list (dkL ss)), o5, o6, o7, o8, o9] ∧ ms' = ms.set k (.l (dkL xs')) ++ [.l (js.map encJ)],
          ⟨[], xs3, _, _, _, _, _, nofun, Nat.zero_le _, hx3, rfl, rfl⟩, ?_, ?_⟩
        · rintro i ds' ms' hi ⟨js, xs4, o5, o6, o7, o8, o9, hj, hjl, hx4, rfl, rfl⟩
          have hi' : i < c := by simpa using hi
          refine eg_name ?_
          refine s_seq (s_asg (e_op (e_next rfl (at2 _ _) hx4 fun z5 xs5 hz5 hx5 => e_var rfl (rr_I ⟨_, _, rfl, rfl, by omega, ?_⟩))))
          obtain ⟨a, ha, ea⟩ := fm_ex (z5 : Int) (m := (m : Int)) (by omega)
          rw [ea, st2]
          refine s_seq (s_asg (e_op (e_op (e_op (e_var rfl (e_int (rr_I0 ⟨_, _, rfl, rfl, ?_⟩)))))))
          refine e_op (e_next rfl (at2 _ _) hx5 fun z6 xs6 hz6 hx6 => e_op (e_var rfl (e_int (rr_I0 ⟨_, _, rfl, rfl, rr_I ⟨_, _, rfl, rfl, by omega, rr_I0 ⟨_, _, rfl, rfl, e_var rfl (rr_I ⟨_, _, rfl, rfl, by omega, ?_⟩)⟩⟩⟩))))
          obtain ⟨d, hd, ed⟩ := fm_ex (z6 : Int) (m := (m : Int) - 1) (by omega)
          rw [ed, st2]
          obtain ⟨b, hb, eb⟩ := fm_ex ((a : Int) + 1 + (d : Int)) (m := (m : Int)) (by omega)
          rw [eb]
          have hab : a ≠ b := fun y => by
            subst y
            have e1 : Int.fmod ((a : Int) + 1 + (d : Int)) (m : Int) = (((a + 1 + d) % m : Nat) : Int) := fmod_nat (a + 1 + d) m
            rw [e1] at eb
            have e2 : (a + 1 + d) % m = a := by omega
            have h1 : a < m := by omega
            have h2 : d + 1 < m := by omega
            by_cases h3 : a + 1 + d < m
            · rw [Nat.mod_eq_of_lt h3] at e2
              omega
            · rw [Nat.mod_eq_sub_mod (by omega), Nat.mod_eq_of_lt (by omega)] at e2
              omega
          refine s_mid (fun ds' ms' => ∃ (q : Nat) (xs7 : List Nat), Dk xs7 ∧ ds' = [.m k, .d (.int m), .d (.int way), .m ms.length, .d (.list (dkL ss)), .d (.int (i : Int)), .d (.int (a : Int)), .d (.int (b : Int)), .d (.int (q : Int)), o9] ∧ ms' = ms.set k (.l (dkL xs7)) ++ [.l (js.map encJ)]) ?_ ?_
          · refine s_asg (e_cb (ea_cons (e_and (e_op (e_var rfl (e_int (rr_eq ⟨_, _, .d _, .d _, shaped_int _, shaped_int _, _, rfl, fun _ => ?_, fun _ => ?_⟩)))))))
            · refine e_op (e_op (e_next rfl (at2 _ _) hx6 fun z8 xs8 hz8 hx8 => e_int (rr_I ⟨_, _, rfl, rfl, by decide, e_int (rr_eq ⟨_, _, .d _, .d _, shaped_int _, shaped_int _, ea_nil (rc_intB ⟨_, rfl, ?_⟩)⟩)⟩)))
              rw [st2]
              generalize PyData.eqv _ _ = bb
              exact ⟨if bb then 1 else 0, xs8, hx8, by cases bb <;> rfl, rfl⟩
            · exact ea_nil (rc_intB ⟨_, rfl, 0, xs6, hx6, rfl, rfl⟩)
          rintro ds' ms' ⟨q, xs7, hx7, rfl, rfl⟩
          refine s_drop (e_append (e_varm rfl ⟨_, rfl, e_tup (ea_cons (e_var rfl (ea_cons (e_var rfl (ea_cons (e_op (e_op (e_op (e_op (e_var rfl (e_var rfl (rr_ix ⟨_, _, _, .inl (.d _), rfl, atI_nat (tN_at (p := a) (by omega)), ?_⟩))))))))))))⟩))
          refine e_op (e_var rfl (e_var rfl (rr_ix ⟨_, _, _, .inl (.d _), rfl, atI_nat (tN_at (p := b) (by omega)), rr_I0 ⟨_, _, rfl, rfl, e_var rfl (rr_I0 ⟨_, _, rfl, rfl, e_int (rr_I ⟨_, _, rfl, rfl, by decide, ?_⟩)⟩)⟩⟩)))
          obtain ⟨e, he, ee⟩ := fm_ex (((ss.getD a 0 : Nat) : Int) + ((ss.getD b 0 : Nat) : Int) + (q : Int)) (m := 2) (by decide)
          rw [ee]
          refine ea_nil ⟨[_, _, _], rfl, Nat.le_of_ble_eq_true rfl, _, _, rfl, la _ _, by rw [List.length_map]; omega, ?_⟩
          rw [sl]
          refine ⟨js ++ [(a, b, e)], xs7, _, _, _, _, _, fun j h => ?_, by simp; omega, hx7, rfl, by rw [List.map_append]; rfl⟩
          rcases List.mem_append.mp h with h | h
          · exact hj j h
          · have e1 : j = (a, b, e) := by simpa using h
            subst e1
            exact ⟨by show a < m; omega, by show b < m; omega, hab, by show e < 2; omega⟩
        · rintro ds' ms' ⟨js, xs4, o5, o6, o7, o8, o9, hj, hjl, hx4, rfl, rfl⟩
          have hc' : ((c : Int)).toNat = c := by omega
          rw [hc'] at hjl
          exact ⟨js, xs4, _, _, _, _, _, _, hj, by omega, hx4, rfl, rfl⟩
      · exact s_next ⟨[], xs1, _, _, _, _, _, _, nofun, Nat.zero_le _, hx1, rfl, rfl⟩
    · exact ⟨nofun, fun _ => s_next ⟨[], xs1, _, _, _, _, _, _, nofun, Nat.zero_le _, hx1, rfl, rfl⟩⟩
  rintro ds' ms' ⟨js, xs', o4, o5, o6, o7, o8, o9, hj, hjl, hx', rfl, rfl⟩
  refine s_ret (e_cb (ea_cons (e_varm rfl (ea_nil (rc_tuple ⟨_, _, rfl, .inl (.m (la _ _)), _, _, rfl, ln _, ?_⟩)))))
  exact r js xs' hj hjl hx'

theorem nodup_len {k : Nat} {l : List Nat} (nd : l.Nodup) (h : ∀ x ∈ l, x < k) : l.length ≤ k := by
  induction k generalizing l with
  | zero =>
    cases l with
    | nil => exact Nat.le_refl _
    | cons a r => exact absurd (h a (by simp)) (by omega)
  | succ k ih =>
    have h1 := ih (nd.erase k) fun x hx => by
      have hx' := (nd.mem_erase_iff).mp hx
      have := h x hx'.2
      have := hx'.1
      omega
    have h2 := List.length_erase_le (a := k) (l := l)
    have h3 : l.length ≤ (l.erase k).length + 1 := by
      rw [List.length_erase]
      split <;> omega
    omega

theorem keep_snoc {js : List Jn} {j : Jn} {s : Nat → Nat} : KeepF (js ++ [j]) s ↔ KeepF js s ∧ (s j.1 + s j.2.1) % 2 = j.2.2 := by
  constructor
  · intro h
    exact ⟨fun x hx => h x (List.mem_append_left _ hx), h j (by simp)⟩
  · rintro ⟨h1, h2⟩ x hx
    rcases List.mem_append.mp hx with y | y
    · exact h1 x y
    · have : x = j := by simpa using y
      rw [this]; exact h2
section
variable {m : Nat} {js : List Jn} {gs cs : List Nat} {a b p : Nat}
theorem gr_zero (m : Nat) : GrOk m [] (List.range m) (List.replicate m 0) := by
  refine ⟨by simp, by simp, fun g hg => List.mem_range.mp hg, fun c hc => by rw [(List.mem_replicate.mp hc).2]; decide, fun s => ⟨fun _ i j hi hj h => ?_, fun _ => nofun⟩⟩
  have e : ∀ x, x < m → (List.range m).getD x 0 = x := fun x hx => by simp [List.getD, hx]
  rw [e i hi, e j hj] at h
  rw [h]
theorem gr_same (h : GrOk m js gs cs) (ha : a < m) (hb : b < m) (hg : gs.getD a 0 = gs.getD b 0) (ht : (cs.getD a 0 + cs.getD b 0 + p) % 2 = 0) (hp : p < 2) : GrOk m (js ++ [(a, b, p)]) gs cs := by
  refine ⟨h.lg, h.lc, h.lt, h.bit, fun s => ?_⟩
  rw [keep_snoc, h.iff]
  constructor
  · exact fun z => z.1
  · intro z
    refine ⟨z, ?_⟩
    have := z a b ha hb hg
    show (s a + s b) % 2 = p
    omega
theorem gr_none (h : GrOk m js gs cs) (ha : a < m) (hb : b < m) (hg : gs.getD a 0 = gs.getD b 0) (ht : (cs.getD a 0 + cs.getD b 0 + p) % 2 = 1) (s : Nat → Nat) (k : KeepF (js ++ [(a, b, p)]) s) : False := by
  rw [keep_snoc, h.iff] at k
  have h1 := k.1 a b ha hb hg
  have h2 : (s a + s b) % 2 = p := k.2
  omega
theorem gr_join {gs' cs' : List Nat} (h : GrOk m js gs cs) (ha : a < m) (hb : b < m) (hp : p < 2) (hg : ¬ gs.getD a 0 = gs.getD b 0) (lg : gs'.length = m) (lc : cs'.length = m)
    (eg : ∀ x, x < m → gs'.getD x 0 = if gs.getD x 0 = gs.getD b 0 then gs.getD a 0 else gs.getD x 0)
    (ec : ∀ x, x < m → cs'.getD x 0 = if gs.getD x 0 = gs.getD b 0 then (cs.getD x 0 + (cs.getD a 0 + cs.getD b 0 + p) % 2) % 2 else cs.getD x 0) : GrOk m (js ++ [(a, b, p)]) gs' cs' := by
  have gl : ∀ x, x < m → gs.getD x 0 < m := fun x hx => getD_all (p := (· < m)) h.lt (by rw [h.lg]; exact hx)
  have cl : ∀ x, cs.getD x 0 < 2 := bit_at h.bit
  have mem : ∀ {P : Nat → Prop} {l : List Nat}, l.length = m → (∀ x, x < m → P (l.getD x 0)) → ∀ y ∈ l, P y := fun {P l} hl hP y hy => by
    obtain ⟨i, hi, e⟩ := List.getElem_of_mem hy
    have := hP i (by omega)
    simp [List.getD, hi, e] at this
    exact this
  refine ⟨lg, lc, mem (P := (· < m)) lg fun x hx => ?_, mem (P := (· < 2)) lc fun x hx => ?_, fun s => ?_⟩
  · show gs'.getD x 0 < m
    rw [eg x hx]
    split
    · exact gl a ha
    · exact gl x hx
  · show cs'.getD x 0 < 2
    rw [ec x hx]
    split
    · omega
    · exact cl x
  rw [keep_snoc, h.iff]
  constructor
  · rintro ⟨z, zk⟩ x y hx hy hxy
    have zk : (s a + s b) % 2 = p := zk
    rw [eg x hx, eg y hy] at hxy
    rw [ec x hx, ec y hy]
    by_cases gx : gs.getD x 0 = gs.getD b 0 <;> by_cases gy : gs.getD y 0 = gs.getD b 0
    · rw [if_pos gx, if_pos gy]
      have := z x y hx hy (gx.trans gy.symm)
      omega
    · rw [if_pos gx, if_neg gy] at hxy ⊢
      have h1 := z x b hx hb gx
      have h2 := z y a hy ha hxy.symm
      omega
    · rw [if_neg gx, if_pos gy] at hxy ⊢
      have h1 := z y b hy hb gy
      have h2 := z x a hx ha hxy
      omega
    · rw [if_neg gx, if_neg gy] at hxy ⊢
      exact z x y hx hy hxy
  · intro z
    refine ⟨fun x y hx hy hxy => ?_, ?_⟩
    · have h1 := z x y hx hy (by rw [eg x hx, eg y hy, hxy])
      rw [ec x hx, ec y hy] at h1
      rw [hxy] at h1
      by_cases gy : gs.getD y 0 = gs.getD b 0
      · rw [if_pos gy, if_pos gy] at h1
        omega
      · rw [if_neg gy, if_neg gy] at h1
        exact h1
    · have h1 := z a b ha hb (by rw [eg a ha, eg b hb, if_neg hg, if_pos rfl])
      rw [ec a ha, ec b hb, if_neg hg, if_pos rfl] at h1
      show (s a + s b) % 2 = p
      omega
/-- the groups called otherwise, each turned or not -/
theorem gr_named {f t : Nat → Nat} {gs' cs' : List Nat} (h : GrOk m js gs cs) (lg : gs'.length = m) (lc : cs'.length = m) (eg : ∀ x, x < m → gs'.getD x 0 = f (gs.getD x 0)) (ec : ∀ x, x < m → cs'.getD x 0 = (cs.getD x 0 + t (gs.getD x 0)) % 2)
    (inj : ∀ x y, x < m → y < m → f (gs.getD x 0) = f (gs.getD y 0) → gs.getD x 0 = gs.getD y 0) (lt : ∀ x, x < m → f (gs.getD x 0) < m) : GrOk m js gs' cs' := by
  have mem : ∀ {P : Nat → Prop} {l : List Nat}, l.length = m → (∀ x, x < m → P (l.getD x 0)) → ∀ y ∈ l, P y := fun {P l} hl hP y hy => by
    obtain ⟨i, hi, e⟩ := List.getElem_of_mem hy
    have := hP i (by omega)
    simp [List.getD, hi, e] at this
    exact this
  refine ⟨lg, lc, mem (P := (· < m)) lg fun x hx => ?_, mem (P := (· < 2)) lc fun x hx => ?_, fun s => ?_⟩
  · show gs'.getD x 0 < m
    rw [eg x hx]; exact lt x hx
  · show cs'.getD x 0 < 2
    rw [ec x hx]; omega
  rw [h.iff]
  constructor
  · intro z x y hx hy hxy
    rw [eg x hx, eg y hy] at hxy
    have e := inj x y hx hy hxy
    have := z x y hx hy e
    rw [ec x hx, ec y hy, e]
    omega
  · intro z x y hx hy hxy
    have := z x y hx hy (by rw [eg x hx, eg y hy, hxy])
    rw [ec x hx, ec y hy, hxy] at this
    omega
end

/-- the dict of first points -/
def encF (es : List (Nat × Nat)) : List (Key × PyData) := (List.range es.length).map fun i => ((.inl (((es.getD i (0, 0)).1 : Nat) : Int) : Key), .tuple [.int (i : Int), .int (((es.getD i (0, 0)).2 : Nat) : Int)])
theorem encF_snoc (es : List (Nat × Nat)) (e : Nat × Nat) : encF (es ++ [e]) = encF es ++ [((.inl (e.1 : Int) : Key), .tuple [.int (es.length : Int), .int (e.2 : Int)])] := by
  unfold encF
  rw [List.length_append, List.length_singleton, List.range_succ, List.map_append]
  congr 1
  · refine List.map_congr_left fun i hi => ?_
    have hi := List.mem_range.mp hi
    have : (es ++ [e]).getD i (0, 0) = es.getD i (0, 0) := by simp [List.getD, List.getElem?_append_left hi]
    rw [this]
  · have : (es ++ [e]).getD es.length (0, 0) = e := by simp [List.getD]
    rw [List.map_singleton, this]
theorem encF_keys (es : List (Nat × Nat)) : (List.range es.length).map (fun i => (es.getD i (0, 0)).1) = es.map (·.1) := by
  apply List.ext_getElem?
  intro i
  rw [List.getElem?_map, List.getElem?_map]
  by_cases h : i < es.length
  · rw [List.getElem?_range h, List.getElem?_eq_getElem h]
    simp [List.getD, h]
  · rw [List.getElem?_eq_none (by simpa using h), List.getElem?_eq_none (by simpa using h)]
    rfl
theorem encF_at {es : List (Nat × Nat)} (nd : (es.map (·.1)).Nodup) {g : Nat} (h : g ∈ es.map (·.1)) : (es.map (·.1)).idxOf g < es.length ∧ valD (encF es) (.inl (g : Int)) = some (.tuple [.int ((es.map (·.1)).idxOf g : Nat), .int ((es.getD ((es.map (·.1)).idxOf g) (0, 0)).2 : Nat)]) := by
  have hl := List.idxOf_lt_length_of_mem h
  rw [List.length_map] at hl
  have hg : (es.getD ((es.map (·.1)).idxOf g) (0, 0)).1 = g := by
    have e := List.getElem_idxOf (x := g) (xs := es.map (·.1)) (by rw [List.length_map]; exact hl)
    rw [List.getElem_map] at e
    have : es.getD ((es.map (·.1)).idxOf g) (0, 0) = es[(es.map (·.1)).idxOf g] := by simp [List.getD, hl]
    rw [this]
    exact e
  have := valF_some (key := fun i => (es.getD i (0, 0)).1) (v := fun i => PyData.tuple [.int (i : Int), .int (((es.getD i (0, 0)).2 : Nat) : Int)]) (l := List.range es.length) (e := (es.map (·.1)).idxOf g) (List.mem_range.mpr hl) (by rw [encF_keys]; exact nd)
  simp only [hg] at this
  exact ⟨hl, this⟩
theorem encF_no {es : List (Nat × Nat)} {g : Nat} (h : ¬ g ∈ es.map (·.1)) : (∀ d, putD (encF es) (.inl (g : Int)) d = encF es ++ [(.inl (g : Int), d)]) ∧ valD (encF es) (.inl (g : Int)) = none := by
  have no : ∀ i ∈ List.range es.length, (es.getD i (0, 0)).1 ≠ g := fun i hi z => h (by
    have hi := List.mem_range.mp hi
    rw [← z]
    exact List.mem_map.mpr ⟨es.getD i (0, 0), by simp [List.getD, hi], rfl⟩)
  exact ⟨fun d => putF (key := fun i => (es.getD i (0, 0)).1) (v := fun i => PyData.tuple [.int (i : Int), .int (((es.getD i (0, 0)).2 : Nat) : Int)]) no d, valF_none (key := fun i => (es.getD i (0, 0)).1) (v := fun i => PyData.tuple [.int (i : Int), .int (((es.getD i (0, 0)).2 : Nat) : Int)]) no⟩
theorem encF_len (es : List (Nat × Nat)) : (encF es).length = es.length := by simp [encF]
def Φ__law_groups : Ph := ph2 fun a b ms R => ∃ (m : Nat) (js : List Jn), a = .d (.int m) ∧ b = .d (.tuple (js.map encJ)) ∧ JOk m js ∧ Told m js (R (.d .none) ms) fun gs cs => R (.d (.tuple [.list (dkL gs), .list (dkL cs)])) ms
theorem len__law_groups : ∀ as ms R, Φ__law_groups as ms R → as.length = 2 := ph2_len
theorem ap2 (ms : List MD) (A B : MD) : (ms ++ [A] ++ [B]).length = ms.length + 2 := by simp
theorem getD_set {l : List Nat} {i x v : Nat} (hi : i < l.length) : (l.set i v).getD x 0 = if x = i then v else l.getD x 0 := by
  by_cases h : x = i
  · subst h; simp [List.getD, hi]
  · have h' : ¬ i = x := fun z => h z.symm
    simp [List.getD, h', h]
theorem rd__law_groups {K : PySem.W.Frag} : ∀ as ms R, Φ__law_groups as ms R → S K (t__law_groups K) (as ++ List.replicate (14 - as.length) .u) ms (fin R) := by
  rintro as ms R ⟨a, b, rfl, m, js, rfl, rfl, hj, r1, r2⟩
  have m60 := hj.m60
  have g1 : ∀ A B : MD, (ms ++ [A] ++ [B])[ms.length]? = some A := fun A B => get2a ms A B
  have g2 : ∀ A B : MD, (ms ++ [A] ++ [B])[ms.length + 1]? = some B := fun A B => get2b ms A B
  unfold t__law_groups
  refine s_assoc (s_assoc (s_mid (fun ds' ms' => ∃ (gs cs : List Nat) (o4 o5 o6 o7 o8 o9 : SD), GrOk m js gs cs ∧ ds' = [.d (.int m), .d (.tuple (js.map encJ)), .d (.list (dkL gs)), .d (.list (dkL cs)), o4, o5, o6, o7, o8, o9, .u, .u, .u, .u] ∧ ms' = ms) (s_back ?_) ?_))
  · refine s_new (e_lrg (e_var rfl ⟨m, rfl, by omega, _, rfl, ?_⟩))
    refine s_new (e_op (e_lst (ea_cons (e_int (ea_nil ⟨[_], rfl, Nat.le_of_ble_eq_true rfl, e_var rfl (rr_rep ⟨_, _, rfl, rfl, by omega, by omega, _, rfl, ?_⟩)⟩)))))
    have n1 : (ms ++ [MD.l ((List.range m).map fun k : Nat => PyData.int k)]).length = ms.length + 1 := by simp
    rw [n1]
    have e0 : List.replicate ((m : Int)).toNat (PyData.int 0) = dkL (List.replicate m 0) := by simp [dkL]
    rw [e0]
    refine s_forT (js := [4, 5, 6]) (e_var rfl ⟨_, rfl, fun i ds' ms' => ∃ (gs cs : List Nat) (o4 o5 o6 o7 o8 o9 : SD), GrOk m (js.take i) gs cs ∧ ds' = [.d (.int m), .d (.tuple (js.map encJ)), .m ms.length, .m (ms.length + 1), o4, o5, o6, o7, o8, o9, .u, .u, .u, .u] ∧ ms' = ms ++ [.l (dkL gs)] ++ [.l (dkL cs)],
      ⟨List.range m, List.replicate m 0, _, _, _, _, _, _, gr_zero m, rfl, rfl⟩, ?_, ?_⟩)
    · rintro i e ds' ms' hi ⟨gs, cs, o4, o5, o6, o7, o8, o9, gr, rfl, rfl⟩
      rw [List.getElem?_map] at hi
      cases q : js[i]? with
      | none => rw [q] at hi; cases hi
      | some j =>
        rw [q] at hi
        cases hi
        obtain ⟨a, b, p⟩ := j
        obtain ⟨ha, hb, hne, hp⟩ := hj.all _ (List.mem_of_getElem? q)
        have ha : a < m := ha
        have hb : b < m := hb
        have hp : p < 2 := hp
        have lg := gr.lg
        have lc := gr.lc
        refine eg_tup rfl (egs_cons (eg_name (egs_cons (eg_name (egs_cons (eg_name (egs_nil ?_)))))))
        refine s_seq (s_asg (e_op (e_op (e_op (e_op (e_varm rfl (e_var rfl (rr_ix ⟨_, _, _, .inl (.m (g2 _ _)), rfl, atI_nat (tN_at (p := a) (by omega)), ?_⟩))))))))
        refine e_op (e_varm rfl (e_var rfl (rr_ix ⟨_, _, _, .inl (.m (g2 _ _)), rfl, atI_nat (tN_at (p := b) (by omega)), rr_I0 ⟨_, _, rfl, rfl, e_var rfl (rr_I0 ⟨_, _, rfl, rfl, e_int (rr_I ⟨_, _, rfl, rfl, by decide, ?_⟩)⟩)⟩⟩)))
        have et : Int.fmod (((cs.getD a 0 : Nat) : Int) + ((cs.getD b 0 : Nat) : Int) + ((p : Nat) : Int)) 2 = (((cs.getD a 0 + cs.getD b 0 + p) % 2 : Nat) : Int) := fmod_nat (cs.getD a 0 + cs.getD b 0 + p) 2
        rw [et]
        generalize hT : (cs.getD a 0 + cs.getD b 0 + p) % 2 = T
        have ga : ∀ {R : RS} {ds : List SD} {v w : Nat} (_ : ds[v]? = some (.m ms.length)) (_ : ds[w]? = some (.d (.int (a : Int)))), R (.d (.int (gs.getD a 0 : Nat))) (ms ++ [.l (dkL gs)] ++ [.l (dkL cs)]) → E K (tOp (rIx K) (tVar v) (tVar w)) ds (ms ++ [.l (dkL gs)] ++ [.l (dkL cs)]) R := fun h1 h2 r =>
          e_op (e_varm h1 (e_var h2 (rr_ix ⟨_, _, _, .inl (.m (g1 _ _)), rfl, atI_nat (tN_at (p := a) (by omega)), r⟩)))
        have gb : ∀ {R : RS} {ds : List SD} {v w : Nat} (_ : ds[v]? = some (.m ms.length)) (_ : ds[w]? = some (.d (.int (b : Int)))), R (.d (.int (gs.getD b 0 : Nat))) (ms ++ [.l (dkL gs)] ++ [.l (dkL cs)]) → E K (tOp (rIx K) (tVar v) (tVar w)) ds (ms ++ [.l (dkL gs)] ++ [.l (dkL cs)]) R := fun h1 h2 r =>
          e_op (e_varm h1 (e_var h2 (rr_ix ⟨_, _, _, .inl (.m (g1 _ _)), rfl, atI_nat (tN_at (p := b) (by omega)), r⟩)))
        refine s_seq (s_if (et_and (et_test (e_op (ga rfl rfl (gb rfl rfl (rr_eq ⟨_, _, .d _, .d _, shaped_int _, shaped_int _, ?_⟩)))))))
        rw [eqv_nat]
        have tk : js.take (i + 1) = js.take i ++ [(a, b, p)] := take_snoc q
        have second : ∀ (P : Po), (T = 0 ∨ ¬ gs.getD a 0 = gs.getD b 0) → (∀ (gs cs : List Nat) (o8 o9 : SD), GrOk m (js.take (i + 1)) gs cs → P.nx [.d (.int m), .d (.tuple (js.map encJ)), .m ms.length, .m (ms.length + 1), .d (.int (a : Int)), .d (.int (b : Int)), .d (.int (p : Int)), .d (.int (T : Int)), o8, o9, .u, .u, .u, .u] (ms ++ [.l (dkL gs)] ++ [.l (dkL cs)])) →
            S K (tIfS (tTest (tOp (rNeD K) (tOp (rIx K) (tVar 2) (tVar 4)) (tOp (rIx K) (tVar 2) (tVar 5))))
            (tSeq (tAsg (tOp (rIx K) (tVar 2) (tVar 5)) (gName 8)) (tFor (iRng1 (tCons (tVar 0) tNil)) (gName 9) (tIfS (tTest (tOp (rEqD K) (tOp (rIx K) (tVar 2) (tVar 9)) (tVar 8))) (tSeq (tAsg (tOp (rIx K) (tVar 2) (tVar 4)) (gSub (tVar 2) (tVar 9) rSetL)) (tAsg (tOp rModN (tOp rAddI (tOp (rIx K) (tVar 3) (tVar 9)) (tVar 7)) (tC (.int 2))) (gSub (tVar 3) (tVar 9) rSetL))) tNext))) tNext)
            [.d (.int m), .d (.tuple (js.map encJ)), .m ms.length, .m (ms.length + 1), .d (.int (a : Int)), .d (.int (b : Int)), .d (.int (p : Int)), .d (.int (T : Int)), o8, o9, .u, .u, .u, .u] (ms ++ [.l (dkL gs)] ++ [.l (dkL cs)]) P := by
          intro P hT2 hP
          refine s_if (et_test (e_op (ga rfl rfl (gb rfl rfl (rr_ne ⟨_, _, .d _, .d _, shaped_int _, shaped_int _, _, rfl, fun h => ?_, fun h => ?_⟩)))))
          · rw [eqv_nat] at h
            have hg : ¬ gs.getD a 0 = gs.getD b 0 := by simpa using h
            refine s_seq (s_asg (gb rfl rfl ?_))
            refine s_forR (js := [9]) (ea_cons (e_var rfl (ea_nil ⟨_, rfl, by omega, fun x ds' ms' => ∃ (gs' cs' : List Nat) (o9 : SD), gs'.length = m ∧ cs'.length = m ∧
              (∀ y, y < m → gs'.getD y 0 = if y < x ∧ gs.getD y 0 = gs.getD b 0 then gs.getD a 0 else gs.getD y 0) ∧ (∀ y, y < m → cs'.getD y 0 = if y < x ∧ gs.getD y 0 = gs.getD b 0 then (cs.getD y 0 + T) % 2 else cs.getD y 0) ∧
              ds' = [.d (.int m), .d (.tuple (js.map encJ)), .m ms.length, .m (ms.length + 1), .d (.int (a : Int)), .d (.int (b : Int)), .d (.int (p : Int)), .d (.int (T : Int)), .d (.int (gs.getD b 0 : Nat)), o9, .u, .u, .u, .u] ∧ ms' = ms ++ [.l (dkL gs')] ++ [.l (dkL cs')], ⟨gs, cs, _, lg, lc, (fun y hy => by rw [if_neg (fun z => by omega)]), (fun y hy => by rw [if_neg (fun z => by omega)]), rfl, rfl⟩, ?_, ?_⟩)))
            · rintro x ds' ms' hx ⟨gs', cs', o9', lg', lc', eg, ec, rfl, rfl⟩
              have hx' : x < m := by simpa using hx
              refine eg_name ?_
              refine s_if (et_test (e_op (e_op (e_varm rfl (e_var rfl (rr_ix ⟨_, _, _, .inl (.m (g1 _ _)), rfl, atI_nat (tN_at (p := x) (by omega)), e_var rfl (rr_eq ⟨_, _, .d _, .d _, shaped_int _, shaped_int _, _, rfl, fun h => ?_, fun h => ?_⟩)⟩))))))
              · rw [eqv_nat] at h
                have gx : gs.getD x 0 = gs.getD b 0 := by
                  have := of_decide_eq_true h
                  rw [eg x hx', if_neg (fun z => by omega)] at this
                  exact this
                have a' : gs'.getD a 0 = gs.getD a 0 := by rw [eg a ha, if_neg (fun z => hg z.2)]
                refine s_seq (s_setL (e_op (e_varm rfl (e_var rfl (rr_ix ⟨_, _, _, .inl (.m (g1 _ _)), rfl, atI_nat (tN_at (p := a) (by omega)), ?_⟩)))))
                refine ⟨_, rfl, e_varm rfl ⟨_, rfl, e_var rfl ⟨_, x, _, rfl, g1 _ _, ixN_nat (by rw [List.length_map]; omega), ?_⟩⟩⟩
                rw [set2a]
                refine s_setL (e_op (e_op (e_op (e_varm rfl (e_var rfl (rr_ix ⟨_, _, _, .inl (.m (g2 _ _)), rfl, atI_nat (tN_at (p := x) (by omega)), ?_⟩))))))
                refine e_var rfl (rr_I0 ⟨_, _, rfl, rfl, e_int (rr_I ⟨_, _, rfl, rfl, by decide, ?_⟩)⟩)
                refine ⟨_, rfl, e_varm rfl ⟨_, rfl, e_var rfl ⟨_, x, _, rfl, g2 _ _, ixN_nat (by rw [List.length_map]; omega), ?_⟩⟩⟩
                rw [set2b]
                have em : Int.fmod (((cs'.getD x 0 : Nat) : Int) + ((T : Nat) : Int)) 2 = (((cs'.getD x 0 + T) % 2 : Nat) : Int) := fmod_nat (cs'.getD x 0 + T) 2
                rw [em]
                refine ⟨gs'.set x (gs'.getD a 0), cs'.set x ((cs'.getD x 0 + T) % 2), _, by simp [lg'], by simp [lc'], fun y hy => ?_, fun y hy => ?_, rfl, ?_⟩
                · rw [getD_set (by omega)]
                  by_cases z : y = x
                  · subst z
                    rw [if_pos rfl, a', if_pos ⟨by omega, gx⟩]
                  · rw [if_neg z, eg y hy]
                    by_cases z2 : y < x ∧ gs.getD y 0 = gs.getD b 0
                    · rw [if_pos z2, if_pos ⟨by omega, z2.2⟩]
                    · rw [if_neg z2, if_neg (fun z3 => z2 ⟨by omega, z3.2⟩)]
                · rw [getD_set (by omega)]
                  by_cases z : y = x
                  · subst z
                    rw [if_pos rfl, ec y hy, if_neg (fun z => by omega), if_pos ⟨by omega, gx⟩]
                  · rw [if_neg z, ec y hy]
                    by_cases z2 : y < x ∧ gs.getD y 0 = gs.getD b 0
                    · rw [if_pos z2, if_pos ⟨by omega, z2.2⟩]
                    · rw [if_neg z2, if_neg (fun z3 => z2 ⟨by omega, z3.2⟩)]
                · unfold dkL
                  rw [List.map_set, List.map_set]
              · rw [eqv_nat] at h
                have gx : ¬ gs.getD x 0 = gs.getD b 0 := by
                  have := of_decide_eq_false h
                  rw [eg x hx', if_neg (fun z => by omega)] at this
                  exact this
                refine s_next ⟨gs', cs', _, lg', lc', fun y hy => ?_, fun y hy => ?_, rfl, rfl⟩
                · rw [eg y hy]
                  by_cases z2 : y < x ∧ gs.getD y 0 = gs.getD b 0
                  · rw [if_pos z2, if_pos ⟨by omega, z2.2⟩]
                  · rw [if_neg z2, if_neg (fun z3 => z2 ⟨by
                      have : y ≠ x := fun e => gx (e ▸ z3.2)
                      omega, z3.2⟩)]
                · rw [ec y hy]
                  by_cases z2 : y < x ∧ gs.getD y 0 = gs.getD b 0
                  · rw [if_pos z2, if_pos ⟨by omega, z2.2⟩]
                  · rw [if_neg z2, if_neg (fun z3 => z2 ⟨by
                      have : y ≠ x := fun e => gx (e ▸ z3.2)
                      omega, z3.2⟩)]
            · rintro ds' ms' ⟨gs', cs', o9', lg', lc', eg, ec, rfl, rfl⟩
              refine hP gs' cs' _ _ ?_
              rw [tk]
              refine gr_join gr ha hb hp hg lg' lc' (fun x hx => ?_) (fun x hx => ?_)
              · rw [eg x hx]
                by_cases z : gs.getD x 0 = gs.getD b 0
                · rw [if_pos z, if_pos ⟨by omega, z⟩]
                · rw [if_neg z, if_neg (fun y => z y.2)]
              · rw [ec x hx, hT]
                by_cases z : gs.getD x 0 = gs.getD b 0
                · rw [if_pos z, if_pos ⟨by omega, z⟩]
                · rw [if_neg z, if_neg (fun y => z y.2)]
          · rw [eqv_nat] at h
            have hg : gs.getD a 0 = gs.getD b 0 := by simpa using h
            refine s_next (hP gs cs _ _ ?_)
            rw [tk]
            refine gr_same gr ha hb hg ?_ hp
            rw [hT]
            rcases hT2 with z | z
            · exact z
            · exact absurd hg z
        refine ⟨_, rfl, fun h => ?_, fun h => ?_⟩
        · have hg : gs.getD a 0 = gs.getD b 0 := of_decide_eq_true h
          refine et_test (e_op (e_var rfl (e_int (rr_eq ⟨_, _, .d _, .d _, shaped_int _, shaped_int _, ?_⟩))))
          rw [show (1 : Int) = ((1 : Nat) : Int) from rfl, eqv_nat]
          refine ⟨_, rfl, fun h2 => ?_, fun h2 => ?_⟩
          · have t1 : T = 1 := of_decide_eq_true h2
            refine s_ret (e_non ⟨ms ++ [.l (dkL gs)], _, rfl, by simp, ms, _, rfl, rfl, r1 fun s k => ?_⟩)
            refine gr_none gr ha hb hg (by rw [hT]; exact t1) s fun y hy => k y ?_
            rw [← tk] at hy
            exact List.mem_of_mem_take hy
          · have t0 : T = 0 := by
              have := of_decide_eq_false h2
              omega
            exact s_next (second _ (.inl t0) fun gs' cs' o8' o9' g' => ⟨gs', cs', _, _, _, _, _, _, g', rfl, rfl⟩)
        · have hg : ¬ gs.getD a 0 = gs.getD b 0 := of_decide_eq_false h
          exact ⟨nofun, fun _ => s_next (second _ (.inr hg) fun gs' cs' o8' o9' g' => ⟨gs', cs', _, _, _, _, _, _, g', rfl, rfl⟩)⟩
    · rintro ds' ms' ⟨gs, cs, o4, o5, o6, o7, o8, o9, gr, rfl, rfl⟩
      rw [List.length_map, List.take_length] at gr
      have hA : frzS ms.length (dkL gs) (frzS (ms.length + 1) (dkL cs) (.m ms.length)) = .d (.list (dkL gs)) := by simp [frzS]
      have hB : frzS ms.length (dkL gs) (frzS (ms.length + 1) (dkL cs) (.m (ms.length + 1))) = .d (.list (dkL cs)) := by simp [frzS]
      generalize hz : (fun o => frzS ms.length (dkL gs) (frzS (ms.length + 1) (dkL cs) o)) = z
      refine ⟨ms ++ [.l (dkL gs)], _, rfl, by simp, ms, _, rfl, rfl, gs, cs, z o4, z o5, z o6, z o7, z o8, z o9, gr, ?_, rfl⟩
      subst hz
      show [_, _, frzS ms.length (dkL gs) (frzS (ms.length + 1) (dkL cs) (.m ms.length)), frzS ms.length (dkL gs) (frzS (ms.length + 1) (dkL cs) (.m (ms.length + 1))), _, _, _, _, _, _, _, _, _, _] = _
      rw [hA, hB]
      rfl
  rintro ds' ms' ⟨gs, cs, o4, o5, o6, o7, o8, o9, gr, rfl, rfl⟩
  have lg := gr.lg
  have lc := gr.lc
  refine s_newD (e_dnewG ⟨_, rfl, ?_⟩)
  have dl : ∀ A : MD, (ms' ++ [A])[ms'.length]? = some A := fun A => get1 ms' A
  have ds_ : ∀ A B : MD, (ms' ++ [A]).set ms'.length B = ms' ++ [B] := fun A B => set1 ms' A B
  refine s_seq (s_forR (js := [9]) (ea_cons (e_var rfl (ea_nil ⟨_, rfl, by omega, fun x ds1 ms1 => ∃ (es : List (Nat × Nat)) (o9 : SD), (es.map (·.1)).Nodup ∧ es.length ≤ x ∧ (∀ y, y < x → gs.getD y 0 ∈ es.map (·.1)) ∧
    ds1 = [.d (.int m), .d (.tuple (js.map encJ)), .d (.list (dkL gs)), .d (.list (dkL cs)), o4, o5, o6, o7, o8, o9, .q ms'.length, .u, .u, .u] ∧ ms1 = ms' ++ [.k (kD (encF es))], ⟨[], _, by simp, Nat.le_refl _, (fun y hy => by omega), rfl, rfl⟩, ?_, ?_⟩))))
  · rintro x ds1 ms1 hx ⟨es, o9', nd, hl, hall, rfl, rfl⟩
    have hx' : x < m := by simpa using hx
    refine eg_name ?_
    refine s_if (et_B (e_dnotin (e_op (e_var rfl (e_var rfl (rr_ix ⟨_, _, _, .inl (.d _), rfl, atI_nat (tN_at (p := x) (by omega)), e_varq rfl ⟨encF es, .inl ((gs.getD x 0 : Nat) : Int), .q (dl _), rfl, _, rfl, fun h => ?_, fun h => ?_⟩⟩))))))
    · have hno : ¬ gs.getD x 0 ∈ es.map (·.1) := fun z => by
        rw [(encF_at nd z).2] at h
        simp at h
      refine s_asgH (e_tup (ea_cons (e_cb (ea_cons (e_varq rfl (ea_nil (rc_lenD ⟨_, _, rfl, .q (dl _), ?_⟩)))))))
      rw [encF_len]
      refine ea_cons (e_op (e_var rfl (e_var rfl (rr_ix ⟨_, _, _, .inl (.d _), rfl, atI_nat (tN_at (p := x) (by omega)), ?_⟩))))
      refine ea_nil ⟨[_, _], rfl, Nat.le_of_ble_eq_true rfl, egh_set (e_varq rfl ⟨_, rfl, e_op (e_var rfl (e_var rfl (rr_ix ⟨_, _, _, .inl (.d _), rfl, atI_nat (tN_at (p := x) (by omega)), ?_⟩)))⟩)⟩
      refine ⟨.inl ((gs.getD x 0 : Nat) : Int), encF es, rfl, dl _, by rw [encF_len]; omega, ?_⟩
      rw [ds_, (encF_no hno).1, ← encF_snoc es (gs.getD x 0, cs.getD x 0)]
      refine ⟨_, _, ?_, by simp; omega, fun y hy => ?_, rfl, rfl⟩
      · rw [List.map_append]
        refine List.nodup_append.mpr ⟨nd, by simp, fun u hu v hv z => hno ?_⟩
        have : v = gs.getD x 0 := by simpa using hv
        rw [← this, ← z]
        exact hu
      · rw [List.map_append]
        by_cases z : y = x
        · subst z
          exact List.mem_append_right _ (by simp)
        · exact List.mem_append_left _ (hall y (by omega))
    · have hyes : gs.getD x 0 ∈ es.map (·.1) := Classical.byContradiction fun z => by
        rw [(encF_no z).2] at h
        simp at h
      refine s_next ⟨es, _, nd, by omega, fun y hy => ?_, rfl, rfl⟩
      by_cases z : y = x
      · subst z; exact hyes
      · exact hall y (by omega)
  rintro ds1 ms1 ⟨es, o9', nd, hl, hall, rfl, rfl⟩
  have hl : es.length ≤ m := by simpa using hl
  have hall : ∀ y, y < m → gs.getD y 0 ∈ es.map (·.1) := fun y hy => hall y (by simpa using hy)
  have gi : ∀ {i : Nat} {e : PyData}, (dkL gs)[i]? = some e → i < m ∧ e = .int (gs.getD i 0 : Nat) := fun {i e} h => by
    have hi := (List.getElem?_eq_some_iff.mp h).1
    rw [List.length_map] at hi
    rw [show (dkL gs)[i]? = _ from tN_at hi] at h
    exact ⟨by omega, (Option.some.inj h).symm⟩
  have ci : ∀ {i : Nat} {e : PyData}, (dkL cs)[i]? = some e → i < m ∧ e = .int (cs.getD i 0 : Nat) := fun {i e} h => by
    have hi := (List.getElem?_eq_some_iff.mp h).1
    rw [List.length_map] at hi
    rw [show (dkL cs)[i]? = _ from tN_at hi] at h
    exact ⟨by omega, (Option.some.inj h).symm⟩
  have rs : ∀ (f : Nat → Nat) (i : Nat), dkL ((List.range (i + 1)).map f) = dkL ((List.range i).map f) ++ [.int (f i : Nat)] := fun f i => by
    rw [List.range_succ, List.map_append, List.map_singleton, dk_snoc]
  refine s_seq (s_asg (e_lcL (js := [12]) (by simp) (e_var rfl ⟨_, .d _, by rw [List.length_map]; omega, fun i acc ms2 => acc = dkL ((List.range i).map fun y => (es.map (·.1)).idxOf (gs.getD y 0)) ∧ ms2 = ms' ++ [.k (kD (encF es))], ⟨rfl, rfl⟩, ?_, ?_⟩)))
  · rintro i e acc ms2 hi ⟨rfl, rfl⟩
    obtain ⟨hi', rfl⟩ := gi hi
    refine eg_name (et_yes ⟨fun _ => e_op (e_dget (e_varq rfl (e_var rfl ⟨encF es, .inl ((gs.getD i 0 : Nat) : Int), _, .q (dl _), rfl, (encF_at nd (hall i hi')).2, e_int (rr_ix ⟨_, _, _, .inr (.d _), rfl, atI_nat (j := 0) rfl, _, rfl, ?_, rfl⟩)⟩))), nofun⟩)
    rw [rs]
  rintro acc ms2 ⟨rfl, rfl⟩
  refine s_ret (e_tup (ea_cons (e_var rfl (ea_cons (e_lcZL (js := [13, 12]) (by simp) (ea_cons (e_var rfl (ea_cons (e_var rfl (ea_nil ⟨_, _, _, _, rfl, .d _, .d _, by rw [List.length_map]; omega, fun i acc ms2 => acc = dkL ((List.range i).map fun y => (cs.getD y 0 + (es.getD ((es.map (·.1)).idxOf (gs.getD y 0)) (0, 0)).2) % 2) ∧ ms2 = ms' ++ [.k (kD (encF es))], ⟨rfl, rfl⟩, ?_, ?_⟩))))))))))
  · rintro i e f acc ms2 he hf ⟨rfl, rfl⟩
    obtain ⟨hi', rfl⟩ := gi hf
    obtain ⟨_, rfl⟩ := ci he
    refine eg_tup rfl (egs_cons (eg_name (egs_cons (eg_name (egs_nil (et_yes ⟨fun _ => e_op (e_op (e_var rfl (e_op (e_dget (e_varq rfl (e_var rfl ⟨encF es, .inl ((gs.getD i 0 : Nat) : Int), _, .q (dl _), rfl, (encF_at nd (hall i hi')).2, e_int (rr_ix ⟨_, _, _, .inr (.d _), rfl, atI_nat (j := 1) rfl, ?_⟩)⟩)))))), nofun⟩))))))
    refine rr_I0 ⟨_, _, rfl, rfl, e_int (rr_I ⟨_, _, rfl, rfl, by decide, _, rfl, ?_, rfl⟩)⟩
    rw [rs]
    have em : Int.fmod (((cs.getD i 0 : Nat) : Int) + (((es.getD ((es.map (·.1)).idxOf (gs.getD i 0)) (0, 0)).2 : Nat) : Int)) 2 = (((cs.getD i 0 + (es.getD ((es.map (·.1)).idxOf (gs.getD i 0)) (0, 0)).2) % 2 : Nat) : Int) := fmod_nat _ 2
    rw [em]
  rintro acc ms2 ⟨rfl, rfl⟩
  refine ea_nil ⟨[_, _], rfl, Nat.le_of_ble_eq_true rfl, ms', _, rfl, rfl, ?_⟩
  have l1 : (dkL gs).length = m := by rw [List.length_map]; exact lg
  have l2 : min (dkL cs).length (dkL gs).length = m := by rw [List.length_map, List.length_map]; omega
  rw [l2, l1]
  have gd : ∀ (F : Nat → Nat) i, i < m → ((List.range m).map F).getD i 0 = F i := fun F i hi => by simp [List.getD, hi]
  refine r2 _ _ (gr_named (f := fun g => (es.map (·.1)).idxOf g) (t := fun g => (es.getD ((es.map (·.1)).idxOf g) (0, 0)).2) gr (by simp) (by simp) (fun x hx => gd _ x hx) (fun x hx => gd _ x hx) (fun x y hx hy h => ?_) fun x hx => ?_)
  · have h1 := hall x hx
    have h2 := hall y hy
    have e1 := List.getElem_idxOf (x := gs.getD x 0) (xs := es.map (·.1)) (List.idxOf_lt_length_of_mem h1)
    have e2 := List.getElem_idxOf (x := gs.getD y 0) (xs := es.map (·.1)) (List.idxOf_lt_length_of_mem h2)
    have h : (es.map (·.1)).idxOf (gs.getD x 0) = (es.map (·.1)).idxOf (gs.getD y 0) := h
    rw [← e1, ← e2]
    simp only [h]
  · have := (encF_at nd (hall x hx)).1
    show (es.map (·.1)).idxOf (gs.getD x 0) < m
    omega

def Φ__law_is_int : Ph := ph1 fun a ms R => ∃ x, a = .d x ∧ R (.d (.bool (isWhole x))) ms
theorem len__law_is_int : ∀ as ms R, Φ__law_is_int as ms R → as.length = 1 := ph1_len
theorem rd__law_is_int {K : PySem.W.Frag} : ∀ as ms R, Φ__law_is_int as ms R → S K (t__law_is_int K) (as ++ List.replicate (1 - as.length) .u) ms (fin R) := by
  rintro as ms R ⟨a, rfl, x, rfl, r⟩
  rw [← whole_and] at r
  unfold t__law_is_int
  walk_at "evs"
  refine ⟨fun h => ?_, fun h => ?_⟩
  · walk_at "evs"
    rw [h, Bool.true_and] at r
    exact r
  · rw [h, Bool.false_and] at r
    exact r

def Φ__law_are_numbers : Ph := ph2 fun a b ms R => ∃ (x : PyData) (n : Nat), a = .d x ∧ b = .d (.int n) ∧ (∀ es, x = .tuple es → SeqAt.shaped (.tuple es) = true) ∧ R (.d (.bool (choiceB n x))) ms
theorem len__law_are_numbers : ∀ as ms R, Φ__law_are_numbers as ms R → as.length = 2 := ph2_len
theorem eqv_nil (es : List PyData) : PyData.eqv (.tuple es) (.tuple []) = es.isEmpty := by cases es <;> rfl
/-- numbers from l on, rising -/
def upB (n : Nat) : Int → List PyData → Bool
  | _, [] => true
  | l, .int i :: r => (decide (l < i) && decide (i < n)) && upB n i r
  | _, _ :: _ => false
def hdB (l : Int) : List PyData → Bool
  | .int i :: _ => decide (l < i)
  | _ => true
theorem upB_rise {n : Nat} : ∀ (es : List PyData) (l : Int), -1 ≤ l → upB n l es = ((es.all (numB n) && riseB es) && hdB l es)
  | [], l, _ => rfl
  | .int i :: r, l, hl => by
    have e : upB n l (.int i :: r) = ((decide (l < i) && decide (i < n)) && upB n i r) := rfl
    have e4 : hdB l (.int i :: r) = decide (l < i) := rfl
    rw [e, e4]
    by_cases h : l < i
    · rw [upB_rise r i (by omega)]
      have e2 : numB n (.int i) = decide (i < n) := by
        show (decide (0 ≤ i) && decide (i < n)) = _
        rw [decide_eq_true (by omega), Bool.true_and]
      rw [decide_eq_true h, Bool.true_and, Bool.and_true, List.all_cons, e2]
      match r with
      | [] => simp [riseB, hdB]
      | .int j :: r =>
        have e3 : riseB (.int i :: .int j :: r) = (decide (i < j) && riseB (.int j :: r)) := by simp [riseB, ltD]
        have e5 : hdB i (.int j :: r) = decide (i < j) := rfl
        rw [e3, e5]
        cases decide (i < n) <;> cases (PyData.int j :: r).all (numB n) <;> cases riseB (PyData.int j :: r) <;> cases decide (i < j) <;> rfl
      | .none :: r => simp [numB]
      | .bool _ :: r => simp [numB]
      | .str _ :: r => simp [numB]
      | .list _ :: r => simp [numB]
      | .tuple _ :: r => simp [numB]
      | .dict _ :: r => simp [numB]
    · rw [decide_eq_false h, Bool.false_and, Bool.false_and, Bool.and_false]
  | .none :: r, l, _ => by simp [upB, numB]
  | .bool _ :: r, l, _ => by simp [upB, numB]
  | .str _ :: r, l, _ => by simp [upB, numB]
  | .list _ :: r, l, _ => by simp [upB, numB]
  | .tuple _ :: r, l, _ => by simp [upB, numB]
  | .dict _ :: r, l, _ => by simp [upB, numB]
theorem upB_choice {n : Nat} {es : List PyData} (h : es.isEmpty = false) : upB n (-1) es = choiceB n (.tuple es) := by
  rw [upB_rise es (-1) (by omega)]
  show _ = (!es.isEmpty && (es.all (numB n) && riseB es))
  rw [h, Bool.not_false, Bool.true_and]
  match es with
  | [] => cases h
  | .int i :: r =>
    have e5 : hdB (-1) (.int i :: r) = decide (-1 < i) := rfl
    rw [e5]
    by_cases hi : 0 ≤ i
    · rw [decide_eq_true (show (-1 : Int) < i by omega), Bool.and_true]
    · have : numB n (.int i) = false := by
        show (decide (0 ≤ i) && decide (i < n)) = _
        rw [decide_eq_false hi, Bool.false_and]
      rw [List.all_cons, this]
      simp
  | .none :: r => exact Bool.and_true _
  | .bool _ :: r => exact Bool.and_true _
  | .str _ :: r => exact Bool.and_true _
  | .list _ :: r => exact Bool.and_true _
  | .tuple _ :: r => exact Bool.and_true _
  | .dict _ :: r => exact Bool.and_true _
theorem rd__law_are_numbers {K : PySem.W.Frag} : ∀ as ms R, Φ__law_are_numbers as ms R → S K (t__law_are_numbers K Φ__law_is_int) (as ++ List.replicate (4 - as.length) .u) ms (fin R) := by
  rintro as ms R ⟨a, b, rfl, x, n, rfl, rfl, hz, r⟩
  unfold t__law_are_numbers
  refine s_seq (s_if (et_or (et_not (et_B (e_isi instTuple (e_var rfl ⟨_, .d _, nofun, ?_⟩))))))
  rw [inst_tup]
  refine ⟨_, rfl, fun h => ?_, fun h => ?_⟩
  · have e : choiceB n x = false := by
      cases x with
      | tuple es => cases h
      | _ => rfl
    rw [e] at r
    exact ⟨fun _ => s_ret (e_bl r), nofun⟩
  obtain ⟨es, rfl⟩ := tup_inv (x := x) (by simpa using h)
  refine et_test (e_op (e_var rfl (e_tup (ea_nil ⟨[], rfl, Nat.zero_le _, rr_eq ⟨_, _, .d _, .d _, hz es rfl, by decide +kernel, ?_⟩⟩))))
  rw [eqv_nil]
  refine ⟨_, rfl, fun h2 => ?_, fun h2 => ?_⟩
  · have e : es = [] := by cases es with | nil => rfl | cons _ _ => cases h2
    subst e
    exact s_ret (e_bl r)
  rw [← upB_choice h2] at r
  refine s_next (s_seq (s_asg (e_un (e_int (ru_I ⟨_, rfl, ?_⟩)))))
  refine s_seq (s_forT (js := [3]) (e_var rfl ⟨es, rfl, fun k ds' ms' => ∃ (l : Int) (o : SD), -1 ≤ l ∧ upB n (-1) es = upB n l (es.drop k) ∧ ds' = [.d (.tuple es), .d (.int n), .d (.int l), o] ∧ ms' = ms, ⟨-1, _, by omega, by simp, rfl, rfl⟩, ?_, ?_⟩))
  · rintro k e ds' ms' hk ⟨l, o, hl, hu, rfl, rfl⟩
    have ed : es.drop k = e :: es.drop (k + 1) := by
      obtain ⟨hk1, hk2⟩ := List.getElem?_eq_some_iff.mp hk
      rw [List.drop_eq_getElem_cons hk1, hk2]
    rw [ed] at hu
    refine eg_name ?_
    refine s_seq (s_if (et_or (et_not (et_B (e_call (ea_cons (e_var rfl (ea_nil ⟨_, rfl, e, rfl, _, rfl, fun h3 => ?_, fun h3 => ?_⟩))))))))
    · have e2 : upB n l (e :: es.drop (k + 1)) = false := by
        have : isWhole e = false := by simpa using h3
        cases e with
        | int i => cases this
        | _ => rfl
      rw [hu, e2] at r
      exact ⟨fun _ => s_ret (e_bl r), nofun⟩
    obtain ⟨i, rfl⟩ := whole_inv (x := e) (by simpa using h3)
    have e2 : upB n l (.int i :: es.drop (k + 1)) = ((decide (l < i) && decide (i < n)) && upB n i (es.drop (k + 1))) := rfl
    refine et_not (et_test (e_chain (e_var rfl (e_var rfl (rr_B0 ⟨_, _, rfl, rfl, _, rfl, fun h4 => ?_, fun h4 => ?_⟩)))))
    · refine e_var rfl fun b' hb => ?_
      subst hb
      refine rr_B0 ⟨_, _, rfl, rfl, _, rfl, fun h5 => ?_, fun h5 => ?_⟩
      · rw [hu, e2, show decide (i < (n : Int)) = false by simpa using h5, Bool.and_false, Bool.false_and] at r
        exact s_ret (e_bl r)
      · have h6 : decide (i < (n : Int)) = true := by simpa using h5
        refine s_next (s_asg (e_var rfl ⟨i, _, ?_, ?_, rfl, rfl⟩))
        · have := of_decide_eq_true h4
          omega
        · rw [hu, e2, h4, h6]
          rfl
    · rw [hu, e2, show decide (l < i) = false by simpa using h4, Bool.false_and, Bool.false_and] at r
      exact ⟨_, rfl, fun _ => s_ret (e_bl r), nofun⟩
  · rintro ds' ms' ⟨l, o, hl, hu, rfl, rfl⟩
    rw [List.drop_length] at hu
    rw [hu] at r
    exact s_ret (e_bl r)

def Φ__law_is_odd_ring : Ph := ph4 fun a b c d ms R => ∃ (m : Nat) (ts : List Tie) (gs cs ns : List Nat), a = .d (encW m ts) ∧ b = .d (.list (dkL gs)) ∧ c = .d (.list (dkL cs)) ∧ d = .d (tN ns) ∧ WebOk m ts ∧ gs.length = m ∧ cs.length = m ∧ (∀ g ∈ gs, g < m) ∧ (∀ c ∈ cs, c < 2) ∧ (∀ n ∈ ns, n < ts.length) ∧
  R (.d (.bool (evenG m ts gs ns && oddG ts cs ns))) ms
theorem len__law_is_odd_ring : ∀ as ms R, Φ__law_is_odd_ring as ms R → as.length = 4 := ph4_len
theorem cE_snoc (ps : List (Nat × Nat)) (p : Nat × Nat) (x : Nat) : cE (ps ++ [p]) x = cE ps x + (ind p.1 x + ind p.2 x) := by
  unfold cE
  rw [List.map_append, List.sum_append]
  simp
theorem prs_snoc (ts : List Tie) (gs ns : List Nat) (n : Nat) : prsG ts gs (ns ++ [n]) = prsG ts gs ns ++ [(gs.getD (ts.getD n tie0).1 0, gs.getD (ts.getD n tie0).2.1 0)] := by
  unfold prsG
  rw [List.map_append]
  rfl
theorem rd__law_is_odd_ring {K : PySem.W.Frag} : ∀ as ms R, Φ__law_is_odd_ring as ms R → S K (t__law_is_odd_ring K) (as ++ List.replicate (11 - as.length) .u) ms (fin R) := by
  rintro as ms R ⟨a, b, c, d, rfl, m, ts, gs, cs, ns, rfl, rfl, rfl, rfl, hw, hg, hc, hlt, hbit, hn, r⟩
  have m60 := hw.m60
  have la : ∀ A : MD, (ms ++ [A])[ms.length]? = some A := fun A => get1 ms A
  have sa : ∀ A B : MD, (ms ++ [A]).set ms.length B = ms ++ [B] := fun A B => set1 ms A B
  unfold t__law_is_odd_ring
  refine s_new (e_op (e_lst (ea_cons (e_int (ea_nil ⟨[_], rfl, Nat.le_of_ble_eq_true rfl, ?_⟩)))))
  refine e_op (e_var rfl (e_int (rr_ix ⟨_, _, _, .inr (.d _), rfl, atI_nat (j := 0) rfl, rr_rep ⟨_, _, rfl, rfl, by omega, by omega, _, rfl, ?_⟩⟩)))
  have e0 : List.replicate ((m : Int)).toNat (PyData.int 0) = dkL ((List.range m).map fun x => cE (prsG ts gs (ns.take 0)) x) := by
    have e1 : ((List.range m).map fun x => cE (prsG ts gs (ns.take 0)) x) = List.replicate m 0 := by
      rw [List.take_zero]
      have : (fun x => cE (prsG ts gs []) x) = fun _ => 0 := funext fun x => rfl
      rw [this, List.map_const']
      simp
    rw [e1]
    simp [dkL]
  rw [e0]
  refine s_seq (s_asg (e_int ?_))
  refine s_seq (s_forT (js := [6]) (e_var rfl ⟨_, rfl, fun k ds' ms' => ∃ (od : Nat) (o6 o7 o8 o9 : SD), od % 2 = ((ns.take k).filter fun n => lostT cs (ts.getD n tie0)).length % 2 ∧
    ds' = [.d (encW m ts), .d (.list (dkL gs)), .d (.list (dkL cs)), .d (tN ns), .m ms.length, .d (.int (od : Nat)), o6, o7, o8, o9, .u] ∧ ms' = ms ++ [.l (dkL ((List.range m).map fun x => cE (prsG ts gs (ns.take k)) x))], ⟨0, _, _, _, _, rfl, rfl, rfl⟩, ?_, ?_⟩))
  · rintro k e ds' ms' hk ⟨od, o6, o7, o8, o9, hod, rfl, rfl⟩
    rw [List.getElem?_map] at hk
    cases q : ns[k]? with
    | none => rw [q] at hk; cases hk
    | some n =>
      rw [q] at hk
      cases hk
      have hn' := hn n (List.mem_of_getElem? q)
      have ht := hw.all _ (getD_mem hn')
      have h1 := ht.lt
      have h2 := ht.lm
      generalize hT : ts.getD n tie0 = t at *
      have g1 : gs.getD t.1 0 < m := getD_all (p := (· < m)) hlt (by omega)
      have g2 : gs.getD t.2.1 0 < m := getD_all (p := (· < m)) hlt (by omega)
      refine eg_name ?_
      refine s_seq (s_asgG (js := [7, 8, 9]) (e_op (e_op (e_var rfl (e_int (rr_ix ⟨_, _, _, .inr (.d _), rfl, atI_nat (j := 1) rfl, e_var rfl (rr_ix ⟨_, _, _, .inr (.d _), rfl, atI_nat (j := n) (tie_at hn'), ?_⟩)⟩))))))
      rw [hT]
      refine eg_tup rfl (egs_cons (eg_name (egs_cons (eg_name (egs_cons (eg_name (egs_nil ?_)))))))
      have cl : ∀ F : Nat → Nat, (dkL ((List.range m).map F)).length = m := fun F => by simp
      have at_ : ∀ (F : Nat → Nat) (x : Nat), x < m → (dkL ((List.range m).map F))[x]? = some (.int (F x : Nat)) := fun F x hx => by
        rw [tN_at (by simpa using hx)]
        simp [List.getD, hx]
      have st_ : ∀ (F : Nat → Nat) (x : Nat), x < m → (dkL ((List.range m).map F)).set x (.int ((F x + 1 : Nat) : Int)) = dkL ((List.range m).map fun y => F y + ind x y) := fun F x hx => by
        unfold dkL
        rw [List.map_map, List.map_map]
        apply List.ext_getElem?
        intro y
        by_cases z : y = x
        · subst z
          rw [List.getElem?_set_self (by simpa using hx), List.getElem?_map, List.getElem?_range hx]
          simp [ind]
        · rw [List.getElem?_set_ne (Ne.symm z), List.getElem?_map, List.getElem?_map]
          by_cases hy : y < m
          · rw [List.getElem?_range hy]
            have : ind x y = 0 := by unfold ind; rw [if_neg fun e => z e.symm]
            simp [this]
          · rw [List.getElem?_eq_none (by simpa using hy)]
            rfl
      refine s_seq (s_setL (e_op (e_op (e_varm rfl (e_op (e_var rfl (e_var rfl (rr_ix ⟨_, _, _, .inl (.d _), rfl, atI_nat (tN_at (p := t.1) (by omega)), ?_⟩))))))))
      refine rr_ix ⟨_, _, _, .inl (.m (la _)), rfl, atI_nat (at_ _ _ g1), e_int (rr_I0 ⟨_, _, rfl, rfl, _, rfl, e_varm rfl ⟨_, rfl, e_op (e_var rfl (e_var rfl (rr_ix ⟨_, _, _, .inl (.d _), rfl, atI_nat (tN_at (p := t.1) (by omega)), ?_⟩)))⟩⟩)⟩
      refine ⟨_, gs.getD t.1 0, _, rfl, la _, ixN_nat (by rw [cl]; exact g1), ?_⟩
      rw [sa, show ∀ z : Nat, (z : Int) + 1 = ((z + 1 : Nat) : Int) from fun z => rfl, st_ _ _ g1]
      refine s_seq (s_setL (e_op (e_op (e_varm rfl (e_op (e_var rfl (e_var rfl (rr_ix ⟨_, _, _, .inl (.d _), rfl, atI_nat (tN_at (p := t.2.1) (by omega)), ?_⟩))))))))
      refine rr_ix ⟨_, _, _, .inl (.m (la _)), rfl, atI_nat (at_ _ _ g2), e_int (rr_I0 ⟨_, _, rfl, rfl, _, rfl, e_varm rfl ⟨_, rfl, e_op (e_var rfl (e_var rfl (rr_ix ⟨_, _, _, .inl (.d _), rfl, atI_nat (tN_at (p := t.2.1) (by omega)), ?_⟩)))⟩⟩)⟩
      refine ⟨_, gs.getD t.2.1 0, _, rfl, la _, ixN_nat (by rw [cl]; exact g2), ?_⟩
      rw [sa, show ∀ z : Nat, (z : Int) + 1 = ((z + 1 : Nat) : Int) from fun z => rfl, st_ _ _ g2]
      refine s_asg (e_op (e_op (e_var rfl (e_cb (ea_cons (e_op (e_op (e_var rfl (e_int (rr_ix ⟨_, _, _, .inr (.d _), rfl, atI_nat (j := 0) rfl, e_int (rr_B0 ⟨_, _, rfl, rfl, ea_nil (rc_intB ⟨_, rfl, rr_I0 ⟨_, _, rfl, rfl, ?_⟩⟩)⟩)⟩))))))))))
      refine e_cb (ea_cons (e_op (e_op (e_var rfl (e_var rfl (rr_ix ⟨_, _, _, .inl (.d _), rfl, atI_nat (tN_at (p := t.1) (by omega)), ?_⟩))))))
      refine e_op (e_var rfl (e_var rfl (rr_ix ⟨_, _, _, .inl (.d _), rfl, atI_nat (tN_at (p := t.2.1) (by omega)), rr_ne ⟨_, _, .d _, .d _, shaped_int _, shaped_int _, ?_⟩⟩)))
      rw [eqv_nat]
      refine ea_nil (rc_intB ⟨_, rfl, rr_I0 ⟨_, _, rfl, rfl, ?_⟩⟩)
      refine ⟨od + (if decide (0 < t.2.2.1) then 1 else 0) + (if (!decide (cs.getD t.1 0 = cs.getD t.2.1 0)) then 1 else 0), .d (.int (n : Nat)), .d (.int (t.1 : Nat)), .d (.int (t.2.1 : Nat)), .d (pr t.2.2), ?_, ?_, ?_⟩
      · rw [take_snoc q, List.filter_append, List.length_append, List.filter_cons, hT]
        have l2 : (if lostT cs t = true then [n] else []).length = if lostT cs t = true then 1 else 0 := by split <;> rfl
        show _ = (_ + (if lostT cs t = true then n :: List.filter _ [] else List.filter _ []).length) % 2
        rw [List.filter_nil, l2]
        generalize ((ns.take k).filter fun n => lostT cs (ts.getD n tie0)).length = FL at *
        unfold lostT gainB
        cases decide (0 < t.2.2.1) <;> cases (!decide (cs.getD t.1 0 = cs.getD t.2.1 0)) <;> simp <;> omega
      · congr 6
        cases decide (0 < t.2.2.1) <;> cases (!decide (cs.getD t.1 0 = cs.getD t.2.1 0)) <;> rfl
      · rw [take_snoc q, prs_snoc, hT]
        congr 4
        refine List.map_congr_left fun x _ => ?_
        rw [cE_snoc]
        exact Nat.add_assoc _ _ _
  rintro ds' ms' ⟨od, o6, o7, o8, o9, hod, rfl, rfl⟩
  rw [List.length_map, List.take_length] at hod
  rw [List.length_map, List.take_length]
  generalize hE : ((List.range m).map fun x => cE (prsG ts gs ns) x) = E
  have el : E.length = m := by rw [← hE]; simp
  have ei : dkL E = (E.map fun (n : Nat) => (n : Int)).map .int := by
    unfold dkL
    rw [List.map_map]
    rfl
  have ev : evenG m ts gs ns = (E.filter fun n => decide (n % 2 = 1)).isEmpty := by
    have h0 := even_iff (prs_lt hg hlt hw.all hn)
    have h1 : (E.filter fun n => decide (n % 2 = 1)).isEmpty = true ↔ ∀ x, x < m → cE (prsG ts gs ns) x % 2 = 0 := by
      rw [List.isEmpty_iff, List.filter_eq_nil_iff, ← hE]
      constructor
      · intro h x hx
        have := h _ (List.mem_map.mpr ⟨x, List.mem_range.mpr hx, rfl⟩)
        simp at this
        omega
      · intro h y hy
        obtain ⟨x, hx, rfl⟩ := List.mem_map.mp hy
        have := h x (List.mem_range.mp hx)
        simp
        omega
    cases h2 : (E.filter fun n => decide (n % 2 = 1)).isEmpty with
    | true => exact h0.mpr (h1.mp h2)
    | false =>
      cases h3 : evenG m ts gs ns with
      | false => rfl
      | true =>
        rw [h1.mpr (h0.mp h3)] at h2
        cases h2
  refine s_ret (e_and (e_op (e_lcM (js := [10]) (by simp) (e_varm rfl ⟨_, E.map fun (n : Nat) => (n : Int), rfl, by rw [List.length_map]; omega, fun i acc ms' => acc = dkL ((E.take i).filter fun n => decide (n % 2 = 1)) ∧ ms' = ms ++ [.l (dkL E)], ⟨rfl, rfl⟩, ?_, ?_, ?_⟩))))
  · rintro i acc ms' ⟨_, rfl⟩
    rw [la, ei]
  · rintro i e acc ms' hi ⟨rfl, rfl⟩
    rw [List.getElem?_map] at hi
    cases q : E[i]? with
    | none => rw [q] at hi; cases hi
    | some x =>
      rw [q] at hi
      cases hi
      refine eg_name (et_test (e_op (e_op (e_var rfl (e_int (rr_I ⟨_, _, rfl, rfl, by decide, e_int (rr_eq ⟨_, _, .d _, .d _, shaped_int _, shaped_int _, ?_⟩)⟩))))))
      have em : Int.fmod (x : Int) 2 = ((x % 2 : Nat) : Int) := fmod_nat x 2
      rw [em, show (1 : Int) = ((1 : Nat) : Int) from rfl, eqv_nat]
      refine ⟨_, rfl, fun h => e_var rfl ⟨_, rfl, ?_, rfl⟩, fun h => ⟨?_, rfl⟩⟩
      · rw [take_snoc q, List.filter_append, List.filter_cons, if_pos h]
        exact (dk_snoc _ _).symm
      · rw [take_snoc q, List.filter_append, List.filter_cons, if_neg (by rw [h]; decide), List.filter_nil, List.append_nil]
  · rintro acc ms' ⟨rfl, rfl⟩
    rw [List.length_map, List.take_length]
    refine e_lst (ea_nil ⟨[], rfl, Nat.zero_le _, rr_eq ⟨_, _, .d _, .d _, ?_, by decide +kernel, ?_⟩⟩)
    · refine (Shp.lst (n := 0) fun e he => ?_).ok (by decide)
      obtain ⟨k, _, rfl⟩ := List.mem_map.mp he
      exact Shp.int _
    have en : ∀ l : List Nat, PyData.eqv (.list (dkL l)) (.list []) = l.isEmpty := fun l => by cases l <;> rfl
    rw [en, ← ev]
    refine ⟨_, rfl, fun h => ?_, fun h => ?_⟩
    · rw [h, Bool.true_and] at r
      refine e_op (e_op (e_var rfl (e_int (rr_I ⟨_, _, rfl, rfl, by decide, e_int (rr_eq ⟨_, _, .d _, .d _, shaped_int _, shaped_int _, ?_⟩)⟩))))
      have em : Int.fmod (od : Int) 2 = ((od % 2 : Nat) : Int) := fmod_nat od 2
      rw [em, show (1 : Int) = ((1 : Nat) : Int) from rfl, eqv_nat, hod]
      exact ⟨_, _, rfl, rfl, r⟩
    · rw [h, Bool.false_and] at r
      exact ⟨_, _, rfl, rfl, r⟩

/-- all rows of numbers below k, rising -/
def subs : Nat → List (List Nat)
  | 0 => [[]]
  | k + 1 => subs k ++ (subs k).map (· ++ [k])
theorem subs_len : ∀ k, (subs k).length = 2 ^ k
  | 0 => rfl
  | k + 1 => by
    show (subs k ++ (subs k).map (· ++ [k])).length = _
    rw [List.length_append, List.length_map, subs_len k, Nat.pow_succ]
    omega
theorem subs_ok : ∀ k, ∀ s ∈ subs k, s.Pairwise (· < ·) ∧ ∀ x ∈ s, x < k
  | 0, s, h => by
    have : s = [] := by simpa [subs] using h
    subst this
    exact ⟨.nil, nofun⟩
  | k + 1, s, h => by
    rcases List.mem_append.mp h with h | h
    · obtain ⟨h1, h2⟩ := subs_ok k s h
      exact ⟨h1, fun x hx => Nat.lt_succ_of_lt (h2 x hx)⟩
    · obtain ⟨t, ht, rfl⟩ := List.mem_map.mp h
      obtain ⟨h1, h2⟩ := subs_ok k t ht
      refine ⟨List.pairwise_append.mpr ⟨h1, by simp, fun x hx y hy => ?_⟩, fun x hx => ?_⟩
      · have : y = k := by simpa using hy
        rw [this]; exact h2 x hx
      · rcases List.mem_append.mp hx with z | z
        · exact Nat.lt_succ_of_lt (h2 x z)
        · have : x = k := by simpa using z
          omega
theorem subs_cons : ∀ k, ∃ l, subs k = [] :: l ∧ ∀ s ∈ l, s ≠ []
  | 0 => ⟨[], rfl, nofun⟩
  | k + 1 => by
    obtain ⟨l, e, h⟩ := subs_cons k
    refine ⟨l ++ (subs k).map (· ++ [k]), ?_, fun s hs => ?_⟩
    · show subs k ++ _ = _
      rw [e]
      rfl
    · rcases List.mem_append.mp hs with z | z
      · exact h s z
      · obtain ⟨t, _, rfl⟩ := List.mem_map.mp z
        simp
structure RgOk (m : Nat) (ts : List Tie) (gs cs ns : List Nat) : Prop where
  ne : ns ≠ []
  rise : ns.Pairwise (· < ·)
  lt : ∀ n ∈ ns, n < ts.length
  even : evenG m ts gs ns = true
  odd : oddG ts cs ns = true
def Φ__law_all_rings : Ph := ph3 fun a b c ms R => ∃ (m : Nat) (ts : List Tie) (gs cs : List Nat), a = .d (encW m ts) ∧ b = .d (.list (dkL gs)) ∧ c = .d (.list (dkL cs)) ∧ WebOk m ts ∧ ts.length ≤ 12 ∧ gs.length = m ∧ cs.length = m ∧ (∀ g ∈ gs, g < m) ∧ (∀ c ∈ cs, c < 2) ∧
  ∀ rg : List (List Nat), (∀ ns ∈ rg, RgOk m ts gs cs ns) → rg.length ≤ 4096 → R (.f (rg.map tN)) ms
theorem len__law_all_rings : ∀ as ms R, Φ__law_all_rings as ms R → as.length = 3 := ph3_len
theorem rd__law_all_rings {K : PySem.W.Frag} : ∀ as ms R, Φ__law_all_rings as ms R → S K (t__law_all_rings K Φ__law_is_odd_ring) (as ++ List.replicate (6 - as.length) .u) ms (fin R) := by
  rintro as ms R ⟨a, b, c, rfl, m, ts, gs, cs, rfl, rfl, rfl, hw, h12, hg, hc, hlt, hbit, r⟩
  unfold t__law_all_rings
  have p12 : ∀ k, k ≤ 12 → 2 ^ k ≤ 4096 := fun k hk => Nat.le_trans (Nat.pow_le_pow_right (by decide) hk) (by decide)
  refine s_mid (fun ds' ms' => ds' = [.d (encW m ts), .d (.list (dkL gs)), .d (.list (dkL cs)), .d (.list ((subs 0).map tN)), .u, .u] ∧ ms' = ms) ?_ ?_
  · exact s_asg (e_lst (ea_cons (e_tup (ea_nil ⟨[], rfl, Nat.zero_le _, ea_nil ⟨[_], rfl, Nat.le_of_ble_eq_true rfl, rfl, rfl⟩⟩))))
  rintro ds' ms' ⟨rfl, rfl⟩
  refine s_seq (s_forR (js := [4]) (ea_cons (e_cb (ea_cons (e_op (e_var rfl (e_int (rr_ix ⟨_, _, _, .inr (.d _), rfl, atI_nat (j := 1) rfl, ea_nil (rc_len ⟨_, _, rfl, .inr (.d _), ?_⟩)⟩))))))))
  rw [List.length_map]
  refine ea_nil ⟨_, rfl, by omega, fun k ds' ms1 => ∃ o4 : SD, ds' = [.d (encW m ts), .d (.list (dkL gs)), .d (.list (dkL cs)), .d (.list ((subs k).map tN)), o4, .u] ∧ ms1 = ms', ⟨_, rfl, rfl⟩, ?_, ?_⟩
  · rintro k ds' ms1 hk ⟨o4, rfl, rfl⟩
    have hk' : k < ts.length := by simpa using hk
    have l1 := subs_len k
    have l2 := p12 (k + 1) (by omega)
    rw [Nat.pow_succ] at l2
    refine eg_name ?_
    refine s_asg (e_op (e_var rfl (e_lcL (js := [5]) (by simp) (e_var rfl ⟨_, .d _, by rw [List.length_map]; omega, fun i acc ms2 => acc = (((subs k).take i).map (· ++ [k])).map tN ∧ ms2 = ms1, ⟨rfl, rfl⟩, ?_, ?_⟩))))
    · rintro i e acc ms2 hi ⟨rfl, rfl⟩
      rw [List.getElem?_map] at hi
      cases q : (subs k)[i]? with
      | none => rw [q] at hi; cases hi
      | some s =>
        rw [q] at hi
        cases hi
        have hs := subs_ok k s (List.mem_of_getElem? q)
        have sl := nodup_len (hs.1.imp (fun h => Nat.ne_of_lt h)) hs.2
        refine eg_name (et_yes ⟨fun _ => e_op (e_var rfl (e_tup (ea_cons (e_var rfl (ea_nil ⟨[_], rfl, Nat.le_of_ble_eq_true rfl, rr_catA ⟨_, _, rfl, rfl, by simp; omega, _, rfl, ?_, rfl⟩⟩))))), nofun⟩)
        rw [take_snoc q, List.map_append, List.map_append]
        congr 1
        show [PyData.tuple _] = [tN (s ++ [k])]
        unfold tN
        rw [List.map_append]
        rfl
    · rintro acc ms2 ⟨rfl, rfl⟩
      rw [List.length_map, List.take_length]
      refine rr_cat ⟨_, _, rfl, rfl, by rw [List.length_map, List.length_map, List.length_map]; omega, ⟨.d (.int (k : Nat)), ?_, rfl⟩⟩
      rw [← List.map_append]
      rfl
  rintro ds' ms1 ⟨o4, rfl, rfl⟩
  have l1 := subs_len ts.length
  have l2 := p12 ts.length h12
  obtain ⟨tl, etl, hne⟩ := subs_cons ts.length
  have tl_mem : ∀ s ∈ tl, s ∈ subs ts.length := fun s hs => by rw [etl]; exact List.mem_cons_of_mem _ hs
  have tll : tl.length ≤ 4096 := by
    have : (subs ts.length).length = tl.length + 1 := by rw [etl]; rfl
    omega
  refine s_ret (e_lcL (js := [5]) (by simp) (e_slL (e_var rfl (eo_some (e_int ⟨_, rfl, eo_none ⟨_, .d _, ?_⟩⟩)))))
  have ec : Hc.cutD ((subs (((ts.length : Nat) : Int)).toNat).map tN) (some 1) none = tl.map tN := by
    rw [cutT_from1, show (((ts.length : Nat) : Int)).toNat = ts.length by omega, etl]
    rfl
  rw [ec]
  refine ⟨_, .d _, by rw [List.length_map]; omega, fun i acc ms2 => acc = (((tl.take i).filter fun ns => evenG m ts gs ns && oddG ts cs ns)).map tN ∧ ms2 = ms1, ⟨rfl, rfl⟩, ?_, ?_⟩
  · rintro i e acc ms2 hi ⟨rfl, rfl⟩
    rw [List.getElem?_map] at hi
    cases q : tl[i]? with
    | none => rw [q] at hi; cases hi
    | some s =>
      rw [q] at hi
      cases hi
      have hs := subs_ok ts.length s (tl_mem s (List.mem_of_getElem? q))
      refine eg_name (et_B (e_call (ea_cons (e_var rfl (ea_cons (e_var rfl (ea_cons (e_var rfl (ea_cons (e_var rfl (ea_nil ⟨_, _, _, _, rfl, m, ts, gs, cs, s, rfl, rfl, rfl, rfl, hw, hg, hc, hlt, hbit, hs.2, _, rfl, fun h => e_var rfl ⟨_, rfl, ?_, rfl⟩, fun h => ⟨?_, rfl⟩⟩)))))))))))
      · rw [take_snoc q, List.filter_append, List.filter_cons, if_pos h, List.map_append]
        rfl
      · rw [take_snoc q, List.filter_append, List.filter_cons, if_neg (by rw [h]; decide), List.filter_nil, List.append_nil]
  · rintro acc ms2 ⟨rfl, rfl⟩
    rw [List.length_map, List.take_length]
    refine r _ (fun ns hn => ?_) (Nat.le_trans (List.length_filter_le _ _) tll)
    obtain ⟨h1, h2⟩ := List.mem_filter.mp hn
    rw [Bool.and_eq_true] at h2
    have hs := subs_ok ts.length ns (tl_mem ns h1)
    exact ⟨hne ns h1, hs.1, hs.2, h2.1, h2.2⟩

theorem kit_same {K : PySem.W.Frag} {C : Addr} : PySem.W.kitOne K (.ref C) (.ref C) = some true := by
  unfold PySem.W.kitOne
  rw [if_pos (by simp)]
def Φ__law_one_class (C_CutError C_NoWeb C_NoSide C_NoText C_NoWishes C_NoTurns C_NotFlat C_NoRing C_NoPaper C_NoShare C_NoTie C_NoWeight C_NoDeed C_TooGreat : Addr) : Ph := ph2 fun a b ms R => a = .h (erO C_NoRing) ∧ b = .d (.int 6) ∧ R (.d (.bool true)) ms
theorem len__law_one_class {C_CutError C_NoWeb C_NoSide C_NoText C_NoWishes C_NoTurns C_NotFlat C_NoRing C_NoPaper C_NoShare C_NoTie C_NoWeight C_NoDeed C_TooGreat : Addr} : ∀ as ms R, Φ__law_one_class C_CutError C_NoWeb C_NoSide C_NoText C_NoWishes C_NoTurns C_NotFlat C_NoRing C_NoPaper C_NoShare C_NoTie C_NoWeight C_NoDeed C_TooGreat as ms R → as.length = 2 := ph2_len
theorem rd__law_one_class {K : PySem.W.Frag} {mg : Str → Option Value} {C_CutError C_NoWeb C_NoSide C_NoText C_NoWishes C_NoTurns C_NotFlat C_NoRing C_NoPaper C_NoShare C_NoTie C_NoWeight C_NoDeed C_TooGreat : Addr} (cl : Cls K mg C_CutError C_NoWeb C_NoSide C_NoText C_NoWishes C_NoTurns C_NotFlat C_NoRing C_NoPaper C_NoShare C_NoTie C_NoWeight C_NoDeed C_TooGreat) : ∀ as ms R, Φ__law_one_class C_CutError C_NoWeb C_NoSide C_NoText C_NoWishes C_NoTurns C_NotFlat C_NoRing C_NoPaper C_NoShare C_NoTie C_NoWeight C_NoDeed C_TooGreat as ms R →
    S K (t__law_one_class K C_CutError C_NoWeb C_NoSide C_NoText C_NoWishes C_NoTurns C_NotFlat C_NoRing C_NoPaper C_NoShare C_NoTie C_NoWeight C_NoDeed C_TooGreat) (as ++ List.replicate (8 - as.length) .u) ms (fin R) := by
  rintro as ms R ⟨a, b, rfl, rfl, rfl, r⟩
  have ex := cl.er_NoRing.e
  unfold t__law_one_class
  have three : ∀ {A B C : TE} {i : Nat} {ds : List SD} {P : Po} (x y z : Bool), (∀ R : RS, R (.d (.bool x)) ms → E K A ds ms R) → (∀ R : RS, R (.d (.bool y)) ms → E K B ds ms R) → (∀ R : RS, R (.d (.bool z)) ms → E K C ds ms R) → P.nx (ds.set i (.d (.list [.bool x, .bool y, .bool z]))) ms → S K (tAsg (tLst (tCons A (tCons B (tCons C tNil)))) (gName i)) ds ms P :=
    fun x y z h1 h2 h3 h => s_asg (e_lst (ea_cons (h1 _ (ea_cons (h2 _ (ea_cons (h3 _ (ea_nil ⟨[_, _, _], rfl, Nat.le_of_ble_eq_true rfl, h⟩))))))))
  refine s_seq (three false false false (fun _ h => e_isH ex rfl (fun _ h => h) cl.n_NoRing_NoWeb h) (fun _ h => e_isH ex rfl (fun _ h => h) cl.n_NoRing_NoSide h) (fun _ h => e_isH ex rfl (fun _ h => h) cl.n_NoRing_NoText h) ?_)
  refine s_seq (three false false false (fun _ h => e_isH ex rfl (fun _ h => h) cl.n_NoRing_NoWishes h) (fun _ h => e_isH ex rfl (fun _ h => h) cl.n_NoRing_NoTurns h) (fun _ h => e_isH ex rfl (fun _ h => h) cl.n_NoRing_NotFlat h) ?_)
  refine s_seq (three true false false (fun _ h => e_isH ex rfl (fun _ h => h) kit_same h) (fun _ h => e_isH ex rfl (fun _ h => h) cl.n_NoRing_NoPaper h) (fun _ h => e_isH ex rfl (fun _ h => h) cl.n_NoRing_NoShare h) ?_)
  refine s_seq (three false false false (fun _ h => e_isH ex rfl (fun _ h => h) cl.n_NoRing_NoTie h) (fun _ h => e_isH ex rfl (fun _ h => h) cl.n_NoRing_NoWeight h) (fun _ h => e_isH ex rfl (fun _ h => h) cl.n_NoRing_NoDeed h) ?_)
  refine s_seq (s_asg (e_op (e_op (e_op (e_op (e_var rfl (e_var rfl (rr_cat ⟨_, _, rfl, rfl, Nat.le_of_ble_eq_true rfl, ?_⟩))))))))
  refine e_var rfl (rr_cat ⟨_, _, rfl, rfl, Nat.le_of_ble_eq_true rfl, ?_⟩)
  refine e_var rfl (rr_cat ⟨_, _, rfl, rfl, Nat.le_of_ble_eq_true rfl, ?_⟩)
  refine e_lst (ea_cons (e_isH ex rfl (fun _ h => h) cl.n_NoRing_TooGreat (ea_nil ⟨[_], rfl, Nat.le_of_ble_eq_true rfl, ?_⟩)))
  refine rr_cat ⟨_, _, rfl, rfl, Nat.le_of_ble_eq_true rfl, ?_⟩
  refine s_ret (e_and (e_op (e_var rfl (e_lcR (js := [7]) (by simp) (ea_cons (e_int (ea_nil ⟨13, rfl, by decide, fun i acc ms' => acc = (List.range i).map (fun k : Nat => PyData.bool (PyData.eqv (.int (k : Int)) (.int 6))) ∧ ms' = ms, ⟨rfl, rfl⟩, ?_, ?_⟩)))))))
  · rintro i acc ms' hi ⟨rfl, rfl⟩
    refine eg_name (et_yes ⟨fun _ => e_op (e_var rfl (e_var rfl (rr_eq ⟨_, _, .d _, .d _, shaped_int _, shaped_int _, _, rfl, ?_, rfl⟩))), nofun⟩)
    rw [List.range_succ, List.map_append]
    rfl
  rintro acc ms' ⟨rfl, rfl⟩
  refine rr_eq ⟨_, _, .d _, .d _, by decide +kernel, by decide +kernel, ?_⟩
  refine ⟨true, congrArg SD.d (congrArg PyData.bool (by decide +kernel)), fun _ => ?_, nofun⟩
  exact e_isH ex rfl (fun u h => h) cl.k_NoRing_ValueError r

def Φ__law_refused : Ph := ph3 fun a b c ms R => ∃ (m : Nat) (ts : List Tie) (y : PyData) (hs : List PyData) (js : List Jn) (x : PyData), a = .d (encW m ts) ∧ b = .d y ∧ c = .d x ∧ WebOk m ts ∧ RowsJ y hs js ∧ js.length ≤ 120 ∧ JOk m js ∧ (∀ es, x = .tuple es → es.length ≤ 10000) ∧ LightIs m ts js x none ∧ R (.d (.bool true)) ms
theorem len__law_refused : ∀ as ms R, Φ__law_refused as ms R → as.length = 3 := ph3_len
theorem rd__law_refused {K : PySem.W.Frag} {mg : Str → Option Value} {C_CutError C_NoWeb C_NoSide C_NoText C_NoWishes C_NoTurns C_NotFlat C_NoRing C_NoPaper C_NoShare C_NoTie C_NoWeight C_NoDeed C_TooGreat : Addr} (cl : Cls K mg C_CutError C_NoWeb C_NoSide C_NoText C_NoWishes C_NoTurns C_NotFlat C_NoRing C_NoPaper C_NoShare C_NoTie C_NoWeight C_NoDeed C_TooGreat) : ∀ as ms R, Φ__law_refused as ms R →
    S K (t__law_refused K C_CutError C_NoWeb C_NoSide C_NoText C_NoWishes C_NoTurns C_NotFlat C_NoRing C_NoPaper C_NoShare C_NoTie C_NoWeight C_NoDeed C_TooGreat Φ_lightest (Φ__law_one_class C_CutError C_NoWeb C_NoSide C_NoText C_NoWishes C_NoTurns C_NotFlat C_NoRing C_NoPaper C_NoShare C_NoTie C_NoWeight C_NoDeed C_TooGreat)) (as ++ List.replicate (5 - as.length) .u) ms (fin R) := by
  rintro as ms R ⟨a, b, c, rfl, m, ts, y, hs, js, x, rfl, rfl, rfl, hw, hr, hl, hj, hz, ho, r⟩
  unfold t__law_refused
  refine s_seq (s_asg (e_non ?_))
  refine s_seq (s_tryH (Nat.le_of_ble_eq_true rfl) (by decide) cl.m_NoRing (ea_cons (e_var rfl (ea_cons (e_var rfl (ea_cons (e_var rfl (ea_nil ⟨_, _, _, rfl, m, ts, y, hs, js, x, rfl, rfl, rfl, hw, hr, hl, hj, hz, none, ho, fun _ => ?_, nofun⟩))))))))
  refine s_ret (e_call (ea_cons (e_varh rfl (ea_cons (e_int (ea_nil ⟨_, _, rfl, rfl, rfl, r⟩))))))

def Φ__law_paper : Ph := ph2 fun a b ms R => ∃ (m : Nat) (ts : List Tie) (ns : List Nat), a = .d (encW m ts) ∧ b = .d (tN ns) ∧ WebOk m ts ∧ ns ≠ [] ∧ (∀ n ∈ ns, n < ts.length) ∧ R (.d (ltP ts ns)) ms
theorem len__law_paper : ∀ as ms R, Φ__law_paper as ms R → as.length = 2 := ph2_len
theorem rd__law_paper {K : PySem.W.Frag} : ∀ as ms R, Φ__law_paper as ms R → S K (t__law_paper K Φ__law_below) (as ++ List.replicate (6 - as.length) .u) ms (fin R) := by
  rintro as ms R ⟨a, b, rfl, m, ts, ns, rfl, rfl, hw, hne, hn, r⟩
  obtain ⟨n0, nr, en⟩ := List.exists_cons_of_ne_nil hne
  have h0 : n0 ∈ ns := by rw [en]; simp
  have e0 : ns.headD 0 = n0 := by rw [en]; rfl
  have t1 : ns.take 1 = [n0] := by rw [en]; rfl
  unfold ltP at r
  rw [e0] at r
  unfold t__law_paper
  refine s_seq (s_asg (e_non ?_))
  refine s_seq (s_forT (js := [3]) (e_var rfl ⟨_, rfl, fun k ds' ms' => ∃ (x : PyData) (o3 o4 o5 : SD), (k = 0 → x = .none) ∧ (0 < k → x = pr (lF ts (szAt ts n0) (ns.take k))) ∧ ds' = [.d (encW m ts), .d (tN ns), .d x, o3, o4, o5] ∧ ms' = ms, ⟨_, _, _, _, fun _ => rfl, nofun, rfl, rfl⟩, ?_, ?_⟩))
  · rintro k e ds' ms' hk ⟨x, o3, o4, o5, hx0, hx1, rfl, rfl⟩
    rw [List.getElem?_map] at hk
    cases q : ns[k]? with
    | none => rw [q] at hk; cases hk
    | some n =>
      rw [q] at hk
      cases hk
      have hn' := hn n (List.mem_of_getElem? q)
      obtain ⟨n', hm', e'⟩ := lF_mem (ts := ts) h0 k
      obtain ⟨p1, p2, p3⟩ := szAt_bd hw hn'
      obtain ⟨q1, q2, q3⟩ := szAt_bd hw (hn n' hm')
      refine eg_name ?_
      refine s_seq (s_asg (e_op (e_op (e_op (e_var rfl (e_int (rr_ix ⟨_, _, _, .inr (.d _), rfl, atI_nat (j := 1) rfl, ?_⟩)))))))
      refine e_var rfl (rr_ix ⟨_, _, _, .inr (.d _), rfl, atI_nat (j := n) (tie_at hn'), e_int (rr_ix ⟨_, _, _, .inr (.d _), rfl, atI_nat (j := 2) rfl, ?_⟩)⟩)
      refine s_seq (s_asg (e_tup (ea_cons (e_cb (ea_cons (e_op (e_var rfl (e_int (rr_ix ⟨_, _, _, .inr (.d _), rfl, atI_nat (j := 0) rfl, ea_nil (rc_abs ⟨_, rfl, ?_⟩)⟩)))))))))
      rw [abs_nat]
      refine ea_cons (e_op (e_var rfl (e_int (rr_ix ⟨_, _, _, .inr (.d _), rfl, atI_nat (j := 1) rfl, ea_nil ⟨[_, _], rfl, Nat.le_of_ble_eq_true rfl, ?_⟩⟩))))
      by_cases z : k = 0
      · have ex := hx0 z
        subst z ex
        have en0 : n = n0 := by rw [en] at q; cases q; rfl
        subst en0
        refine s_if (et_or (et_test (e_op (e_var rfl (e_non (rr_isN ⟨_, rfl, rfl, true, rfl, fun _ => ⟨fun _ => ?_, nofun⟩, nofun⟩))))))
        refine s_asg (e_var rfl ⟨_, _, _, _, nofun, fun _ => ?_, rfl, rfl⟩)
        rw [t1]
        show _ = pr (lsr (szAt ts n) (szAt ts n))
        rw [lsr_self]
        rfl
      · have ex := hx1 (by omega)
        subst ex
        refine s_if (et_or (et_test (e_op (e_var rfl (e_non (rr_isN ⟨_, rfl, rfl, false, rfl, nofun, fun _ => ?_⟩))))))
        refine et_B (e_call (ea_cons (e_var rfl (ea_cons (e_var rfl (ea_nil ⟨_, _, rfl, szAt ts n, lF ts (szAt ts n0) (ns.take k), rfl, rfl, ?_, _, rfl, fun h => ?_, fun h => ?_⟩))))))
        · rw [e']
          exact ⟨p1, q1, p2.mono (by decide), p3.mono (by decide), q2.mono (by decide), q3.mono (by decide)⟩
        · refine s_asg (e_var rfl ⟨_, _, _, _, nofun, fun _ => ?_, rfl, rfl⟩)
          rw [take_snoc q, lF_snoc]
          show _ = pr (lsr _ _)
          unfold lsr
          rw [if_pos (of_decide_eq_true h)]
          rfl
        · refine s_next ⟨_, _, _, _, nofun, fun _ => ?_, rfl, rfl⟩
          rw [take_snoc q, lF_snoc]
          show _ = pr (lsr _ _)
          unfold lsr
          rw [if_neg (of_decide_eq_false h)]
  · rintro ds' ms' ⟨x, o3, o4, o5, hx0, hx1, rfl, rfl⟩
    have pos : 0 < ns.length := List.length_pos_iff.mpr hne
    have ex := hx1 (by rw [List.length_map]; exact pos)
    rw [List.length_map, List.take_length] at ex
    subst ex
    obtain ⟨n', hm', e'⟩ := lF_mem (ts := ts) h0 ns.length
    rw [List.take_length] at e'
    have nn : 0 ≤ (lF ts (szAt ts n0) ns).1 := by
      rw [e']
      exact Int.natCast_nonneg _
    refine s_seq (s_if (et_test (e_op (e_op (e_var rfl (e_int (rr_ix ⟨_, _, _, .inr (.d _), rfl, atI_nat (j := 0) rfl, e_int (rr_eq ⟨_, _, .d _, .d _, shaped_int _, shaped_int _, ?_⟩)⟩)))))))
    rw [show PyData.eqv (.int (lF ts (szAt ts n0) ns).1) (.int 0) = decide ((lF ts (szAt ts n0) ns).1 = 0) from rfl]
    refine ⟨_, rfl, fun h => ?_, fun h => ?_⟩
    · rw [if_neg (by have := of_decide_eq_true h; omega)] at r
      exact s_ret (e_tup (ea_cons (e_str (ea_cons (e_tup (ea_nil ⟨[], rfl, Nat.zero_le _, ea_nil ⟨[_, _], rfl, Nat.le_of_ble_eq_true rfl, r⟩⟩))))))
    · rw [if_pos (by have := of_decide_eq_false h; omega)] at r
      refine s_next (s_ret (e_tup (ea_cons (e_str (ea_cons (e_tup (ea_cons (e_tup (ea_cons (e_var rfl (ea_cons (e_var rfl (ea_nil ⟨[_, _], rfl, Nat.le_of_ble_eq_true rfl, ?_⟩)))))))))))))
      exact ea_nil ⟨[_], rfl, Nat.le_of_ble_eq_true rfl, ea_nil ⟨[_, _], rfl, Nat.le_of_ble_eq_true rfl, r⟩⟩

/-- data of a bounded make; a ring may be told twice over -/
inductive Ge : Nat → PyData → Prop
  | int {n : Nat} {i : Int} : Bd 200 i → Ge n (.int i)
  | bl {n : Nat} (b : Bool) : Ge n (.bool b)
  | non {n : Nat} : Ge n .none
  | str {n : Nat} {z : Str} : PyData.strOk z = true → Ge n (.str z)
  | tup {n : Nat} {es : List PyData} : es.length ≤ 32 → (∀ e ∈ es, Ge n e) → Ge (n + 1) (.tuple es)
  | lst {n : Nat} {es : List PyData} : es.length ≤ 32 → (∀ e ∈ es, Ge n e) → Ge (n + 1) (.list es)
theorem Ge.mono {m n : Nat} {x : PyData} (h : Ge m x) (l : m ≤ n) : Ge n x := by
  induction h generalizing n with
  | int b => exact .int b
  | bl b => exact .bl b
  | non => exact .non
  | str b => exact .str b
  | tup hl _ ih =>
    obtain ⟨k, rfl⟩ : ∃ k, n = k + 1 := ⟨n - 1, by omega⟩
    exact .tup hl fun e he => ih e he (by omega)
  | lst hl _ ih =>
    obtain ⟨k, rfl⟩ : ∃ k, n = k + 1 := ⟨n - 1, by omega⟩
    exact .lst hl fun e he => ih e he (by omega)
theorem Ge.shp {n : Nat} {x : PyData} (h : Ge n x) : Shp n x := by
  induction h with
  | int b => exact (Shp.int _).mono (Nat.zero_le _)
  | bl b => exact (Shp.bl _).mono (Nat.zero_le _)
  | non => exact ⟨rfl, Nat.zero_le _⟩
  | str b => exact ⟨by simp [PyData.canLay0, b], Nat.zero_le _⟩
  | tup hl _ ih => exact Shp.tup ih
  | lst hl _ ih => exact Shp.lst ih
theorem Ge.parts {n : Nat} {es : List PyData} (h : Ge n (.tuple es)) : es.length ≤ 32 ∧ ∃ k, n = k + 1 ∧ ∀ e ∈ es, Ge k e := by
  cases h with
  | tup hl ha => exact ⟨hl, _, rfl, ha⟩
theorem Ge.bd {n : Nat} {i : Int} (h : Ge n (.int i)) : Bd 200 i := by
  cases h
  assumption
theorem Ge.ok {n : Nat} {z : Str} (h : Ge n (.str z)) : PyData.strOk z = true := by
  cases h
  assumption
theorem Ge.nat {n k : Nat} (h : k < 2 ^ 20) : Ge n (.int (k : Int)) := .int (.of (by rw [Int.natAbs_natCast]; exact Nat.lt_of_lt_of_le h (Nat.pow_le_pow_right (by decide) (by decide))))
theorem pick_of {P : PyData → Prop} {l : List PyData} {j : Nat} (h : ∀ e ∈ l, P e) (hj : j < l.length) : ∃ y, l[j]? = some y ∧ P y := ⟨l[j], List.getElem?_eq_getElem hj, h _ (List.getElem_mem hj)⟩
theorem ge_tN {A : List Nat} {k : Nat} (hl : A.length ≤ 32) (h : ∀ a ∈ A, a < 1000) : Ge (k + 1) (tN A) := .tup (by rw [List.length_map]; exact hl) fun e he => by
  obtain ⟨a, ha, rfl⟩ := List.mem_map.mp he
  exact .nat (Nat.lt_trans (h a ha) (by decide))
/-- part of a row of numbers, whichever -/
theorem e_slN {K : PySem.W.Frag} {te : TE} {to th : TO} {ds : List SD} {ms : List MD} {R : RS} {ns : List Nat} (h : E K te ds ms fun s ms1 => EO K to ds ms1 fun lo ms2 => EO K th ds ms2 fun hi ms3 => s = .d (tN ns) ∧ ∀ A : List Nat, A.length ≤ ns.length → (∀ a ∈ A, a ∈ ns) → R (.d (tN A)) ms3) : E K (tSl (rSlA K) te to th) ds ms R := by
  refine e_slA ?_
  have up : ∀ s lo hi (ms3 : List MD), (s = SD.d (tN ns) ∧ ∀ A : List Nat, A.length ≤ ns.length → (∀ a ∈ A, a ∈ ns) → R (.d (tN A)) ms3) → ∃ es, s = .d (.tuple es) ∧ R (.d (.tuple (Hc.cutD es lo hi))) ms3 := fun s lo hi ms3 ⟨e, k⟩ => by
    refine ⟨_, e, ?_⟩
    have ec : Hc.cutD (ns.map fun (k : Nat) => PyData.int k) lo hi = (((ns.drop (HT.sIx ns.length 0 lo)).take (HT.sIx ns.length ns.length hi - HT.sIx ns.length 0 lo))).map fun (k : Nat) => PyData.int k := by
      unfold Hc.cutD
      rw [List.length_map, List.map_take, List.map_drop]
    rw [ec]
    refine k _ ?_ fun a ha => List.mem_of_mem_drop (List.mem_of_mem_take ha)
    rw [List.length_take, List.length_drop]
    omega
  exact fun L M σ H hS hA Q q => h L M σ H hS hA _ fun s v H1 ms1 w1 o1 h1 => q s v H1 ms1 w1 o1 fun L' M' σ' H' hS' hA' Q' q' => h1 L' M' σ' H' hS' hA' _ fun lo H2 ms2 w2 a2 h2 => q' lo H2 ms2 w2 a2 fun L3 M3 σ3 H3 hS3 hA3 Q3 q3 => h2 L3 M3 σ3 H3 hS3 hA3 _ fun hi H4 ms4 w4 a4 h4 => q3 hi H4 ms4 w4 a4 (up _ _ _ _ h4)

theorem ge_cat {k : Nat} {as bs : List PyData} (ha : Ge (k + 1) (.tuple as)) (hb : Ge (k + 1) (.tuple bs)) (hl : as.length + bs.length ≤ 32) : Ge (k + 1) (.tuple (as ++ bs)) := by
  obtain ⟨_, k1, e1, h1⟩ := ha.parts
  obtain ⟨_, k2, e2, h2⟩ := hb.parts
  have : k1 = k := by omega
  subst this
  have : k2 = k1 := by omega
  subst this
  refine .tup (by rw [List.length_append]; exact hl) fun e he => ?_
  rcases List.mem_append.mp he with z | z
  · exact h1 e z
  · exact h2 e z
theorem ge_one {k : Nat} {x : PyData} (h : Ge k x) : Ge (k + 1) (.tuple [x]) := .tup (Nat.le_of_ble_eq_true rfl) fun e he => by
  have := List.mem_singleton.mp he
  subst this
  exact h

theorem rows_tup (js : List Jn) : RowsJ (.tuple (js.map encJ)) (js.map encJ) js := ⟨.inr rfl, by simp, fun i h j hi hj => by
  rw [List.getElem?_map, hj] at hi
  cases hi
  exact .inr rfl⟩
theorem rows_lst (js : List Jn) : RowsJ (.list (js.map encJ)) (js.map encJ) js := ⟨.inl rfl, by simp, fun i h j hi hj => by
  rw [List.getElem?_map, hj] at hi
  cases hi
  exact .inr rfl⟩
abbrev encJl (j : Jn) : PyData := .list (triJ j)
theorem rows_ll (js : List Jn) : RowsJ (.list (js.map encJl)) (js.map encJl) js := ⟨.inl rfl, by simp, fun i h j hi hj => by
  rw [List.getElem?_map, hj] at hi
  cases hi
  exact .inl rfl⟩

def Φ__law_thing : Ph := ph3 fun a b c ms R => ∃ (k : Nat) (xs : List Nat) (rg : List (List Nat)) (kk : Nat), a = .m k ∧ b = .d (.list (rg.map tN)) ∧ c = .d (.int kk) ∧ Dk xs ∧ ms[k]? = some (.l (dkL xs)) ∧ rg.length ≤ 4096 ∧ (∀ ns ∈ rg, ns.length ≤ 15 ∧ ∀ n ∈ ns, n < 1000) ∧ kk < 999 ∧
  ∀ (y : PyData) (xs' : List Nat), Ge 3 y → Dk xs' → R (.d y) (ms.set k (.l (dkL xs')))
theorem len__law_thing : ∀ as ms R, Φ__law_thing as ms R → as.length = 3 := ph3_len
theorem ge_out {out : List Int} {ns : List Nat} {N : Nat} (hk : ∀ k, k ∈ out ↔ k ∈ ns.map fun (n : Nat) => (n : Int)) (hn : ∀ n ∈ ns, n < 1000) (hl : out.Pairwise (· < ·)) (hN : ns.length ≤ 32) : Ge (N + 1) (.tuple (out.map .int)) := by
  have nd : out.Nodup := hl.imp fun h => by omega
  have le : out.length ≤ ns.length := by
    have := nd.length_le_of_subset (fun k h => (hk k).mp h)
    rwa [List.length_map] at this
  refine .tup (by rw [List.length_map]; omega) fun e he => ?_
  obtain ⟨i, hi, rfl⟩ := List.mem_map.mp he
  obtain ⟨n, hn', rfl⟩ := List.mem_map.mp ((hk i).mp hi)
  exact .nat (Nat.lt_trans (hn n hn') (by decide))
theorem rings_ok : PyData.strOk "rings" = true := by decide +kernel
theorem shp_rings (rg : List (List Nat)) : SeqAt.shaped (.list (rg.map tN)) = true := by
  refine (Shp.lst (n := 1) fun e he => ?_).ok (by decide)
  obtain ⟨ns, _, rfl⟩ := List.mem_map.mp he
  refine Shp.tup fun x hx => ?_
  obtain ⟨n, _, rfl⟩ := List.mem_map.mp hx
  exact Shp.int _
theorem eqv_rings (rg : List (List Nat)) : PyData.eqv (.list (rg.map tN)) (.list []) = rg.isEmpty := by cases rg <;> rfl
theorem rd__law_thing {K : PySem.W.Frag} : ∀ as ms R, Φ__law_thing as ms R → S K (t__law_thing K Φ__law_next) (as ++ List.replicate (7 - as.length) .u) ms (fin R) := by
  rintro as ms R ⟨a, b, c, rfl, k, xs, rg, kk, rfl, rfl, rfl, hx, hk, hrl, hrg, hkk, r⟩
  have hkl : k < ms.length := (List.getElem?_eq_some_iff.mp hk).1
  have at1 : ∀ x : MD, (ms.set k x)[k]? = some x := fun x => List.getElem?_set_self hkl
  unfold t__law_thing
  have first : ∀ (xs : List Nat) (ms' : List MD) (P : Po), Dk xs → ms'[k]? = some (.l (dkL xs)) → (∀ (y : PyData) (xs' : List Nat), Ge 3 y → Dk xs' → P.rt (.d y) (ms'.set k (.l (dkL xs')))) →
      S K (tRet (tOp (rIx K) (tLst (tCons (tC .non) (tCons (tC (.int 0)) (tCons (tC (.str "rings")) (tCons (tTup tNil) (tCons (tLst tNil) (tCons (tTup (tCons (tC (.bl true)) tNil)) (tCons (tTup (tCons (tC (.int 0)) (tCons (tC (.int 0)) tNil))) (tCons (tTup (tCons (tTup (tCons (tC (.int 0)) tNil)) tNil)) (tCons (tTup (tCons (tUn rNegI (tC (.int 1))) tNil)) (tCons (tTup (tCons (tVar 2) tNil)) tNil))))))))))) (tOp rModN (tCall (SpD K Φ__law_next) [] E0 (tCons (tVar 0) tNil)) (tC (.int 10)))))
        [.m k, .d (.list (rg.map tN)), .d (.int kk), .u, .u, .u, .u] ms' P := by
    intro xs ms' P hx hk r
    refine s_ret (e_op (e_lst (ea_cons (e_non (ea_cons (e_int (ea_cons (e_str (ea_cons (e_tup (ea_nil ⟨[], rfl, Nat.zero_le _, ?_⟩)))))))))))
    refine ea_cons (e_lst (ea_nil ⟨[], rfl, Nat.zero_le _, ?_⟩))
    refine ea_cons (e_tup (ea_cons (e_bl (ea_nil ⟨[_], rfl, Nat.le_of_ble_eq_true rfl, ?_⟩))))
    refine ea_cons (e_tup (ea_cons (e_int (ea_cons (e_int (ea_nil ⟨[_, _], rfl, Nat.le_of_ble_eq_true rfl, ?_⟩))))))
    refine ea_cons (e_tup (ea_cons (e_tup (ea_cons (e_int (ea_nil ⟨[_], rfl, Nat.le_of_ble_eq_true rfl, ea_nil ⟨[_], rfl, Nat.le_of_ble_eq_true rfl, ?_⟩⟩))))))
    refine ea_cons (e_tup (ea_cons (e_un (e_int (ru_I ⟨_, rfl, ea_nil ⟨[_], rfl, Nat.le_of_ble_eq_true rfl, ?_⟩⟩)))))
    refine ea_cons (e_tup (ea_cons (e_var rfl (ea_nil ⟨[_], rfl, Nat.le_of_ble_eq_true rfl, ?_⟩))))
    refine ea_nil ⟨[_, _, _, _, _, _, _, _, _, _], rfl, Nat.le_of_ble_eq_true rfl, ?_⟩
    refine e_op (e_next rfl hk hx fun z xs1 hz hx1 => e_int (rr_I ⟨_, _, rfl, rfl, by decide, ?_⟩))
    obtain ⟨c, hc, ec⟩ := fm_ex (z : Int) (m := 10) (by decide)
    rw [ec]
    obtain ⟨y, ey, gy⟩ := pick_of (P := Ge 3) (l := [.none, .int 0, .str "rings", .tuple [], .list [], .tuple [.bool true], .tuple [.int 0, .int 0], .tuple [.tuple [.int 0]], .tuple [.int (-1)], .tuple [.int (kk : Int)]]) (j := c) (fun e he => by
      simp only [List.mem_cons, List.not_mem_nil, or_false] at he
      rcases he with rfl | rfl | rfl | rfl | rfl | rfl | rfl | rfl | rfl | rfl
      · exact .non
      · exact .int (.of (by decide))
      · exact .str rings_ok
      · exact .tup (Nat.zero_le _) nofun
      · exact .lst (Nat.zero_le _) nofun
      · exact ge_one (.bl _)
      · refine .tup (Nat.le_of_ble_eq_true rfl) fun e he => ?_
        simp only [List.mem_cons, List.not_mem_nil, or_false] at he
        rcases he with rfl | rfl <;> exact .int (.of (by decide))
      · exact ge_one (ge_one (.int (.of (by decide))))
      · exact ge_one (.int (.of (by decide)))
      · exact ge_one (.nat (by omega))) (by show c < 10; omega)
    exact rr_ix ⟨_, _, y, .inl (.d _), rfl, atI_nat (j := c) ey, r y xs1 gy hx1⟩
  refine s_seq (s_if (et_or (et_test (e_op (e_var rfl (e_int (rr_eq ⟨_, _, .d _, .d _, shaped_int _, shaped_int _, _, rfl, fun _ => ⟨fun _ => ?_, nofun⟩, fun h0 => ?_⟩)))))))
  · exact first xs ms _ hx hk r
  have k0 : 0 < kk := by
    rw [show PyData.eqv (.int (kk : Int)) (.int 0) = decide ((kk : Int) = 0) from rfl] at h0
    have := of_decide_eq_false h0
    omega
  refine et_test (e_op (e_op (e_next rfl hk hx fun z1 xs1 hz1 hx1 => e_int (rr_I ⟨_, _, rfl, rfl, by decide, e_int (rr_eq ⟨_, _, .d _, .d _, shaped_int _, shaped_int _, _, rfl, fun _ => ?_, fun _ => ?_⟩)⟩))))
  · refine first xs1 _ _ hx1 (at1 _) fun y xs' gy hx' => ?_
    rw [List.set_set]
    exact r y xs' gy hx'
  refine s_next ?_
  have second : ∀ (xs : List Nat) (ms' : List MD) (P : Po), Dk xs → k < ms'.length → ms'[k]? = some (.l (dkL xs)) → (∀ (y : PyData) (xs' : List Nat), Ge 3 y → Dk xs' → P.rt (.d y) (ms'.set k (.l (dkL xs')))) →
      S K (tRet (tCB (rTupQ K) (tCons (tSortSet K (tLc (iRng1 (tCons (tOp rAddI (tC (.int 1)) (tOp rModN (tCall (SpD K Φ__law_next) [] E0 (tCons (tVar 0) tNil)) (tC (.int 4)))) tNil)) (gName 3) tYes (tOp rModN (tCall (SpD K Φ__law_next) [] E0 (tCons (tVar 0) tNil)) (tVar 2)) [3])) tNil)))
        [.m k, .d (.list (rg.map tN)), .d (.int kk), .u, .u, .u, .u] ms' P := by
    intro xs ms' P hx hkl hk r
    have at1 : ∀ x : MD, (ms'.set k x)[k]? = some x := fun x => List.getElem?_set_self hkl
    refine s_ret (e_cb (ea_cons (e_sortSet (e_lcR (js := [3]) (by simp) (ea_cons (e_op (e_int (e_op (e_next rfl hk hx fun z xs1 hz hx1 => e_int (rr_I ⟨_, _, rfl, rfl, by decide, rr_I0 ⟨_, _, rfl, rfl, ?_⟩⟩))))))))))
    obtain ⟨c, hc, ec⟩ := fm_ex (z : Int) (m := 4) (by decide)
    rw [ec]
    refine ea_nil ⟨_, rfl, by omega, fun i acc ms2 => ∃ (ys xs' : List Nat), ys.length = i ∧ (∀ y ∈ ys, y < kk) ∧ Dk xs' ∧ acc = (ys.map fun (n : Nat) => (n : Int)).map .int ∧ ms2 = ms'.set k (.l (dkL xs')), ⟨[], xs1, rfl, nofun, hx1, rfl, rfl⟩, ?_, ?_⟩
    · rintro i acc ms2 hi ⟨ys, xs2, hl, hy, hx2, rfl, rfl⟩
      refine eg_name (et_yes ⟨fun _ => ?_, nofun⟩)
      refine e_op (e_next rfl (at1 _) hx2 fun z2 xs3 hz2 hx3 => e_var rfl (rr_I ⟨_, _, rfl, rfl, by omega, ?_⟩))
      obtain ⟨c2, hc2, ec2⟩ := fm_ex (z2 : Int) (m := (kk : Int)) (by omega)
      rw [ec2, List.set_set]
      refine ⟨_, rfl, ys ++ [c2], xs3, by simp [hl], fun y h => ?_, hx3, by simp, rfl⟩
      rcases List.mem_append.mp h with h | h
      · exact hy y h
      · rw [List.mem_singleton.mp h]; omega
    · rintro acc ms2 ⟨ys, xs2, hl, hy, hx2, rfl, rfl⟩
      refine ⟨_, .inl (.d _), by rw [List.length_map, hl]; omega, fun out p1 p2 => ?_⟩
      refine ea_nil (rc_tuple ⟨_, _, rfl, .inl (.d _), ?_⟩)
      exact r _ xs2 (ge_out (ns := ys) p2 (fun n hn => by have := hy n hn; omega) p1 (by omega)) hx2
  refine s_seq (s_if (et_or (et_test (e_op (e_var rfl (e_lst (ea_nil ⟨[], rfl, Nat.zero_le _, rr_eq ⟨_, _, .d _, .d _, shp_rings rg, by decide +kernel, _, rfl, fun _ => ⟨fun _ => ?_, nofun⟩, fun h2 => ?_⟩⟩)))))))
  · refine second xs1 _ _ hx1 (by rw [List.length_set]; exact hkl) (at1 _) fun y xs' gy hx' => ?_
    rw [List.set_set]
    exact r y xs' gy hx'
  rw [eqv_rings] at h2
  have rpos : 0 < rg.length := by cases rg with | nil => cases h2 | cons _ _ => exact Nat.succ_pos _
  refine et_test (e_op (e_op (e_next rfl (at1 _) hx1 fun z2 xs2 hz2 hx2 => e_int (rr_I ⟨_, _, rfl, rfl, by decide, e_int (rr_eq ⟨_, _, .d _, .d _, shaped_int _, shaped_int _, _, rfl, fun _ => ?_, fun _ => ?_⟩)⟩))))
  · rw [List.set_set]
    refine second xs2 _ _ hx2 (by rw [List.length_set]; exact hkl) (at1 _) fun y xs' gy hx' => ?_
    rw [List.set_set]
    exact r y xs' gy hx'
  refine s_next ?_
  rw [List.set_set]
  refine s_seq (s_asg (e_op (e_var rfl (e_op (e_next rfl (at1 _) hx2 fun z3 xs3 hz3 hx3 => ?_)))))
  refine e_cb (ea_cons (e_var rfl (ea_nil (rc_len ⟨_, _, rfl, .inl (.d _), rr_I ⟨_, _, rfl, rfl, ?_, ?_⟩⟩))))
  · rw [List.length_map]; omega
  rw [List.length_map, List.set_set]
  obtain ⟨c3, hc3, ec3⟩ := fm_ex (z3 : Int) (m := (rg.length : Int)) (by omega)
  rw [ec3]
  have lt3 : c3 < rg.length := by omega
  obtain ⟨nl, nlt⟩ := hrg rg[c3] (List.getElem_mem lt3)
  refine rr_ix ⟨_, _, tN rg[c3], .inl (.d _), rfl, atI_nat (j := c3) (by rw [List.getElem?_map, List.getElem?_eq_getElem lt3]; rfl), ?_⟩
  generalize rg[c3] = ns at nl nlt
  refine s_seq (s_asg (e_op (e_next rfl (at1 _) hx3 fun z4 xs4 hz4 hx4 => e_var rfl (rr_I ⟨_, _, rfl, rfl, by omega, ?_⟩))))
  rw [List.set_set]
  obtain ⟨c4, hc4, ec4⟩ := fm_ex (z4 : Int) (m := (kk : Int)) (by omega)
  rw [ec4]
  have lt4 : c4 < 1000 := by omega
  have gN : ∀ A : List Nat, A.length ≤ ns.length → (∀ a ∈ A, a ∈ ns) → Ge 3 (tN A) := fun A l m => ge_tN (by omega) fun a ha => nlt a (m a ha)
  have gns : Ge 3 (tN ns) := gN ns (Nat.le_refl _) fun _ h => h
  refine s_seq (s_asg (e_lst (ea_cons (e_slN (ns := ns) (e_var rfl (eo_some (e_int ⟨_, rfl, eo_none ⟨rfl, fun A lA mA => ?_⟩⟩)))))))
  refine ea_cons (e_slN (ns := ns) (e_var rfl (eo_none (eo_some (e_un (e_int (ru_I ⟨_, rfl, _, rfl, rfl, fun B lB mB => ?_⟩)))))))
  refine ea_cons (e_cb (ea_cons (e_sortSet (e_op (e_var rfl (e_tup (ea_cons (e_var rfl (ea_nil ⟨[_], rfl, Nat.le_of_ble_eq_true rfl, ?_⟩)))))))))
  refine rr_catA ⟨_, _, rfl, rfl, ?_, ?_⟩
  · rw [List.length_map]; show ns.length + 1 ≤ 10000; omega
  have e5 : (ns.map fun (k : Nat) => PyData.int k) ++ [PyData.int (c4 : Int)] = ((ns ++ [c4]).map fun (n : Nat) => (n : Int)).map .int := by simp
  rw [e5]
  refine ⟨_, .inr (.d _), by rw [List.length_map, List.length_append, List.length_singleton]; omega, fun out p1 p2 => ?_⟩
  refine ea_nil (rc_tuple ⟨_, _, rfl, .inl (.d _), ?_⟩)
  refine ea_cons (e_revT (e_var rfl ⟨_, rfl, ?_⟩))
  refine ea_cons (e_cb (ea_cons (e_var rfl (ea_nil (rc_list ⟨_, _, rfl, .inr (.d _), ?_⟩)))))
  refine ea_cons (e_op (e_var rfl (e_var rfl (rr_catA ⟨_, _, rfl, rfl, ?_, ?_⟩))))
  · rw [List.length_map]; omega
  refine ea_nil ⟨[_, _, _, _, _, _], rfl, Nat.le_of_ble_eq_true rfl, ?_⟩
  refine s_ret (e_op (e_var rfl (e_op (e_next rfl (at1 _) hx4 fun z6 xs6 hz6 hx6 => e_int (rr_I ⟨_, _, rfl, rfl, by decide, ?_⟩)))))
  rw [List.set_set]
  obtain ⟨c6, hc6, ec6⟩ := fm_ex (z6 : Int) (m := 6) (by decide)
  rw [ec6]
  obtain ⟨h1, k1, e1, h2⟩ := gns.parts
  have : k1 = 2 := by omega
  subst this
  obtain ⟨y, ey, gy⟩ := pick_of (P := Ge 3) (l := [tN A, tN B, .tuple (out.map .int), .tuple (ns.map fun (k : Nat) => PyData.int k).reverse, .list (ns.map fun (k : Nat) => PyData.int k), .tuple ((ns.map fun (k : Nat) => PyData.int k) ++ ns.map fun (k : Nat) => PyData.int k)]) (j := c6) (fun e he => by
    simp only [List.mem_cons, List.not_mem_nil, or_false] at he
    rcases he with rfl | rfl | rfl | rfl | rfl | rfl
    · exact gN A lA mA
    · exact gN B lB mB
    · exact ge_out (ns := ns ++ [c4]) p2 (fun n hn => by
        rcases List.mem_append.mp hn with h | h
        · exact nlt n h
        · rw [List.mem_singleton.mp h]; exact lt4) p1 (by rw [List.length_append, List.length_singleton]; omega)
    · exact .tup (by rw [List.length_reverse]; exact h1) fun e he => h2 e (List.mem_reverse.mp he)
    · exact .lst h1 h2
    · exact ge_cat gns gns (by rw [List.length_map]; omega)) (by show c6 < 6; omega)
  exact rr_ix ⟨_, _, y, .inl (.d _), rfl, atI_nat (j := c6) ey, r y xs6 gy hx6⟩

/-- groups and marks, if there are any -/
def encG : Option (List Nat × List Nat) → PyData
  | none => .none
  | some p => .tuple [.list (dkL p.1), .list (dkL p.2)]
def dueO (m : Nat) (ts : List Tie) (o : Option (List Nat × List Nat)) (x : PyData) : Bool := match o with | none => false | some p => roundB m ts p.1 p.2 x
def Φ__law_is_due : Ph := ph3 fun a b c ms R => ∃ (m : Nat) (ts : List Tie) (o : Option (List Nat × List Nat)) (x : PyData), a = .d (encW m ts) ∧ b = .d (encG o) ∧ c = .d x ∧ WebOk m ts ∧ (∀ p, o = some p → p.1.length = m ∧ p.2.length = m ∧ (∀ g ∈ p.1, g < m) ∧ (∀ c ∈ p.2, c < 2)) ∧ (∀ es, x = .tuple es → SeqAt.shaped (.tuple es) = true) ∧ R (.d (.bool (dueO m ts o x))) ms
theorem len__law_is_due : ∀ as ms R, Φ__law_is_due as ms R → as.length = 3 := ph3_len
theorem rd__law_is_due {K : PySem.W.Frag} : ∀ as ms R, Φ__law_is_due as ms R → S K (t__law_is_due K Φ__law_are_numbers Φ__law_is_odd_ring) (as ++ List.replicate (3 - as.length) .u) ms (fin R) := by
  rintro as ms R ⟨a, b, c, rfl, m, ts, o, x, rfl, rfl, rfl, hw, ho, hz, r⟩
  unfold t__law_is_due
  cases o with
  | none =>
    refine s_seq (s_if (et_or (et_test (e_op (e_var rfl (e_non (rr_isN ⟨_, rfl, rfl, true, rfl, fun _ => ⟨fun _ => s_ret (e_bl r), nofun⟩, nofun⟩)))))))
  | some p =>
    obtain ⟨lg, lc, hg, hc⟩ := ho p rfl
    refine s_seq (s_if (et_or (et_test (e_op (e_var rfl (e_non (rr_isN ⟨_, rfl, rfl, false, rfl, nofun, fun _ => ?_⟩)))))))
    refine et_not (et_B (e_call (ea_cons (e_var rfl (ea_cons (e_cb (ea_cons (e_op (e_var rfl (e_int (rr_ix ⟨_, _, _, .inr (.d _), rfl, atI_nat (j := 1) rfl, ea_nil (rc_len ⟨_, _, rfl, .inr (.d _), ?_⟩)⟩)))))))))))
    rw [List.length_map]
    refine ea_nil ⟨_, _, rfl, x, ts.length, rfl, rfl, hz, _, rfl, fun h => ?_, fun h => ?_⟩
    · have h' : choiceB ts.length x = false := by simpa using h
      rw [show dueO m ts (some p) x = (choiceB ts.length x && (evenG m ts p.1 (nsOf x) && oddG ts p.2 (nsOf x))) from rfl, h', Bool.false_and] at r
      exact s_ret (e_bl r)
    · have h' : choiceB ts.length x = true := by simpa using h
      rw [show dueO m ts (some p) x = (choiceB ts.length x && (evenG m ts p.1 (nsOf x) && oddG ts p.2 (nsOf x))) from rfl, h', Bool.true_and] at r
      obtain ⟨ns, rfl, _, _, hn⟩ := choice_dec h'
      rw [nsOf_tN] at r
      refine s_next (s_ret (e_call (ea_cons (e_var rfl (ea_cons (e_op (e_var rfl (e_int (rr_ix ⟨_, _, _, .inr (.d _), rfl, atI_nat (j := 0) rfl, ?_⟩)))))))))
      refine ea_cons (e_op (e_var rfl (e_int (rr_ix ⟨_, _, _, .inr (.d _), rfl, atI_nat (j := 1) rfl, ?_⟩))))
      exact ea_cons (e_var rfl (ea_nil ⟨_, _, _, _, rfl, m, ts, p.1, p.2, ns, rfl, rfl, rfl, rfl, hw, lg, lc, hg, hc, hn, r⟩))

def Φ__law_tells : Ph := ph3 fun a b c ms R => ∃ (m : Nat) (ts : List Tie) (js : List Jn) (ns : List Nat), a = .d (encW m ts) ∧ b = .d (.tuple (js.map encJ)) ∧ c = .d (tN ns) ∧ WebOk m ts ∧ js.length ≤ 120 ∧ JOk m js ∧ ns.length ≤ 10000 ∧ ns ≠ [] ∧ (∀ n ∈ ns, n < ts.length) ∧ LightIs m ts js (tN ns) (some ns) ∧ R (.d (.bool true)) ms
theorem len__law_tells : ∀ as ms R, Φ__law_tells as ms R → as.length = 3 := ph3_len
theorem shp_ltP (ts : List Tie) (ns : List Nat) : Shp 4 (ltP ts ns) := by
  refine Shp.tup (n := 3) fun e he => ?_
  simp only [List.mem_cons, List.not_mem_nil, or_false] at he
  rcases he with rfl | rfl
  · exact ⟨by decide +kernel, Nat.zero_le _⟩
  · split
    · refine Shp.tup (n := 2) fun e he => ?_
      rw [List.mem_singleton.mp he]
      refine Shp.tup (n := 1) fun e he => ?_
      simp only [List.mem_cons, List.not_mem_nil, or_false] at he
      rcases he with rfl | rfl
      · refine Shp.tup fun e he => ?_
        obtain ⟨n, _, rfl⟩ := List.mem_map.mp he
        exact Shp.int _
      · exact Shp.pr _
    · exact Shp.tup (n := 2) nofun
theorem rd__law_tells {K : PySem.W.Frag} {C_CutError C_NoWeb C_NoSide C_NoText C_NoWishes C_NoTurns C_NotFlat C_NoRing C_NoPaper C_NoShare C_NoTie C_NoWeight C_NoDeed C_TooGreat : Addr} : ∀ as ms R, Φ__law_tells as ms R →
    S K (t__law_tells K C_CutError C_NoWeb C_NoSide C_NoText C_NoWishes C_NoTurns C_NotFlat C_NoRing C_NoPaper C_NoShare C_NoTie C_NoWeight C_NoDeed C_TooGreat Φ__law_paper Φ_lightest) (as ++ List.replicate (4 - as.length) .u) ms (fin R) := by
  rintro as ms R ⟨a, b, c, rfl, m, ts, js, ns, rfl, rfl, rfl, hw, hl, hj, hnl, hne, hn, told, r⟩
  have sp := (shp_ltP ts ns).ok (by decide)
  have hz : ∀ es, tN ns = .tuple es → es.length ≤ 10000 := fun es e => by
    cases e
    rw [List.length_map]
    exact hnl
  unfold t__law_tells
  refine s_seq (s_asg (e_call (ea_cons (e_var rfl (ea_cons (e_var rfl (ea_nil ⟨_, _, rfl, m, ts, ns, rfl, rfl, hw, hne, hn, ?_⟩)))))))
  refine s_ret (e_and (e_op (e_callX0 (ea_cons (e_var rfl (ea_cons (e_var rfl (ea_cons (e_var rfl (ea_nil ⟨_, _, _, rfl, m, ts, _, _, js, _, rfl, rfl, rfl, hw, rows_tup js, hl, hj, hz, _, told, nofun, fun ns' e => ?_⟩))))))))))
  cases e
  refine e_var rfl (rr_eq ⟨_, _, .d _, .d _, sp, sp, ?_⟩)
  rw [eqv_self (shp_ltP ts ns)]
  refine ⟨true, rfl, fun _ => ?_, nofun⟩
  refine e_op (e_callX0 (ea_cons (e_var rfl (ea_cons (e_cb (ea_cons (e_var rfl (ea_nil (rc_list ⟨_, _, rfl, .inr (.d _), ?_⟩)))))))))
  refine ea_cons (e_var rfl (ea_nil ⟨_, _, _, rfl, m, ts, _, _, js, _, rfl, rfl, rfl, hw, rows_lst js, hl, hj, hz, _, told, nofun, fun ns' e => ?_⟩))
  cases e
  refine e_var rfl (rr_eq ⟨_, _, .d _, .d _, sp, sp, ?_⟩)
  rw [eqv_self (shp_ltP ts ns)]
  exact r

def Φ_law : Ph := ph1 fun a ms R => ∃ ns : List Int, a = .s ns ∧ ns.length ≤ 63 ∧ ms = [] ∧ R (.d (.bool true)) ms
theorem len_law : ∀ as ms R, Φ_law as ms R → as.length = 1 := ph1_len
theorem law_at {K : PySem.W.Frag} {H : Hp} {a : Addr} {ns : List Int} (hl : ns.length ≤ 63) (hO : Only H) (hS : SqL K H a (ns.map V.int)) : SpD K Φ_law [.ref a] H (fun v _ => v = .bl true) fun _ _ _ => False :=
  ⟨[], [], [], [.s ns], fun s _ => s = .d (.bool true), at_nil, ⟨.ref a, [], rfl, at_door hO hS, rfl⟩, ⟨_, rfl, ns, rfl, hl, rfl, rfl⟩, fun s v H' ms' w o e => by
    subst e
    obtain ⟨_, h⟩ := o
    cases h
    rfl⟩
theorem round_le {m : Nat} {js : List Jn} {ts : List Tie} {gs cs gs' cs' : List Nat} {x : PyData} (a : GrOk m js gs cs) (b : GrOk m js gs' cs') (hw : ∀ t ∈ ts, TieOk m t) (h : roundB m ts gs cs x = true) : roundB m ts gs' cs' x = true := by
  unfold roundB at h ⊢
  rw [Bool.and_eq_true, Bool.and_eq_true] at h
  obtain ⟨h1, h2, h3⟩ := h
  obtain ⟨ns, rfl, _, _, hn⟩ := choice_dec h1
  rw [nsOf_tN] at h2 h3 ⊢
  rw [h1, even_inv a b hw hn h2, odd_inv a b hw hn h2 h3]
  rfl
theorem round_inv {m : Nat} {js : List Jn} {ts : List Tie} {gs cs gs' cs' : List Nat} {x : PyData} (a : GrOk m js gs cs) (b : GrOk m js gs' cs') (hw : ∀ t ∈ ts, TieOk m t) : roundB m ts gs cs x = roundB m ts gs' cs' x := by
  cases q : roundB m ts gs cs x with
  | true => exact (round_le a b hw q).symm
  | false =>
    cases q2 : roundB m ts gs' cs' x with
    | false => rfl
    | true =>
      rw [round_le b a hw q2] at q
      cases q
theorem s_un {K : PySem.W.Frag} {t u v : TS} {ds : List SD} {ms : List MD} {P : Po} (h : S K (tSeq t (tSeq u v)) ds ms P) : S K (tSeq (tSeq t u) v) ds ms P := h
theorem rd_law {K : PySem.W.Frag} : ∀ as ms R, Φ_law as ms R → S K (t_law K Φ__law_deck Φ__law_web Φ__law_wishes Φ__law_groups Φ__law_all_rings Φ__law_thing Φ__law_next Φ__law_is_due Φ__law_refused Φ__law_tells) (as ++ List.replicate (9 - as.length) .u) ms (fin R) := by
  rintro as ms R ⟨a, rfl, ns, rfl, hns, rfl, r⟩
  unfold t_law
  refine s_new (e_call (ea_cons (e_vars rfl (ea_cons (e_int (ea_nil ⟨_, _, rfl, ns, 160, rfl, rfl, hns, by decide, fun xs hx => ⟨_, rfl, ?_⟩⟩))))))
  refine s_seq (s_asg (e_call (ea_cons (e_varm rfl (ea_cons (e_int (ea_cons (e_int (ea_nil ⟨_, _, _, rfl, 0, xs, 6, 9, rfl, rfl, rfl, hx, rfl, by decide, by decide, by decide, fun m ts xs1 hm htl hw hx1 => ?_⟩)))))))))
  have m1 := hw.m1
  refine s_seq (s_asg (e_call (ea_cons (e_varm rfl (ea_cons (e_op (e_var rfl (e_int (rr_ix ⟨_, _, _, .inr (.d _), rfl, atI_nat (j := 0) rfl, ea_nil ⟨_, _, rfl, 0, xs1, m, rfl, rfl, hx1, rfl, m1, by omega, fun js xs2 hjs hjl hx2 => ?_⟩⟩)))))))))
  have hj : JOk m js := ⟨by omega, by omega, hjs⟩
  have web : ∀ {R : RS} {ds : List SD} {ms : List MD} (_ : ds[2]? = some (.d (encW m ts))), R (.d (.int m)) ms → E K (tOp (rIx K) (tVar 2) (tC (.int 0))) ds ms R := fun h r => e_op (e_var h (e_int (rr_ix ⟨_, _, _, .inr (.d _), rfl, atI_nat (j := 0) rfl, r⟩)))
  refine s_assoc (s_assoc (s_mid (fun ds' ms' => ∃ (o : Option (List Nat × List Nat)) (rg : List (List Nat)), (∀ p, o = some p → GrOk m js p.1 p.2) ∧ (o = none → ∀ s, ¬ KeepF js s) ∧ rg.length ≤ 4096 ∧ (∀ q ∈ rg, q ≠ [] ∧ q.Pairwise (· < ·) ∧ ∀ n ∈ q, n < ts.length) ∧
    ds' = [.s ns, .m 0, .d (encW m ts), .d (.tuple (js.map encJ)), .d (encG o), .d (.list (rg.map tN)), .u, .u, .u] ∧ ms' = [.l (dkL xs2)]) ?_ ?_))
  · have zero : ∀ {R : RS} {ds : List SD} {ms : List MD} (_ : ds[2]? = some (.d (encW m ts))), (∀ rg : List (List Nat), (∀ q ∈ rg, RgOk m ts (List.range m) (List.replicate m 0) q) → rg.length ≤ 4096 → R (.f (rg.map tN)) ms) →
        E K (tCall (SpD K Φ__law_all_rings) [] E0 (tCons (tVar 2) (tCons (tLstRg (tRg1 (tOp (rIx K) (tVar 2) (tC (.int 0))))) (tCons (tOp rRep (tLst (tCons (tC (.int 0)) tNil)) (tOp (rIx K) (tVar 2) (tC (.int 0)))) tNil)))) ds ms R := fun h r => by
      refine e_call (ea_cons (e_var h (ea_cons (e_lrg (web h ⟨m, rfl, by omega, ?_⟩)))))
      refine ea_cons (e_op (e_lst (ea_cons (e_int (ea_nil ⟨[_], rfl, Nat.le_of_ble_eq_true rfl, web h (rr_rep ⟨_, _, rfl, rfl, by omega, by omega, ?_⟩)⟩)))))
      have e0 : List.replicate ((m : Int)).toNat (PyData.int 0) = dkL (List.replicate m 0) := by simp [dkL]
      rw [e0]
      have gz := gr_zero m
      exact ea_nil ⟨_, _, _, rfl, m, ts, List.range m, List.replicate m 0, rfl, rfl, rfl, hw, by omega, gz.lg, gz.lc, gz.lt, gz.bit, r⟩
    refine s_un ?_
    refine s_seq (s_asg (e_call (ea_cons (web rfl (ea_cons (e_var rfl (ea_nil ⟨_, _, rfl, m, js, rfl, rfl, hj, fun hno => ?_, fun gs cs gr => ?_⟩)))))))
    · refine s_seq (s_asg (zero rfl fun rg hrg hrl => ?_))
      refine s_if (et_test (e_op (e_var rfl (e_non (rr_notN ⟨_, rfl, rfl, false, rfl, nofun, fun _ => s_next ⟨none, rg, nofun, fun _ => hno, hrl, fun q hq => ⟨(hrg q hq).ne, (hrg q hq).rise, (hrg q hq).lt⟩, rfl, rfl⟩⟩)))))
    · refine s_seq (s_asg (zero rfl fun rg hrg hrl => ?_))
      refine s_if (et_test (e_op (e_var rfl (e_non (rr_notN ⟨_, rfl, rfl, true, rfl, fun _ => ?_, nofun⟩)))))
      refine s_asg (e_call (ea_cons (e_var rfl (ea_cons (e_op (e_var rfl (e_int (rr_ix ⟨_, _, _, .inr (.d _), rfl, atI_nat (j := 0) rfl, ?_⟩))))))))
      refine ea_cons (e_op (e_var rfl (e_int (rr_ix ⟨_, _, _, .inr (.d _), rfl, atI_nat (j := 1) rfl, ea_nil ⟨_, _, _, rfl, m, ts, gs, cs, rfl, rfl, rfl, hw, by omega, gr.lg, gr.lc, gr.lt, gr.bit, fun rg2 hrg2 hrl2 => ?_⟩⟩))))
      exact ⟨some (gs, cs), rg2, fun p e => by cases e; exact gr, nofun, hrl2, fun q hq => ⟨(hrg2 q hq).ne, (hrg2 q hq).rise, (hrg2 q hq).lt⟩, rfl, rfl⟩
  rintro ds' ms' ⟨o, rg, ho, hno, hrl, hrg, rfl, rfl⟩
  have rlen : ∀ q ∈ rg, q.length ≤ 9 ∧ ∀ n ∈ q, n < 1000 := fun q hq => by
    obtain ⟨_, h2, h3⟩ := hrg q hq
    have := nodup_len (h2.imp (fun h => Nat.ne_of_lt h)) h3
    exact ⟨by omega, fun n hn => by have := h3 n hn; omega⟩
  refine s_assoc (s_mid (fun ds' ms' => ∃ (hs : List PyData) (xs' : List Nat) (o7 o8 : SD), hs.length ≤ 16 ∧ (∀ x ∈ hs, Ge 3 x) ∧ Dk xs' ∧
    ds' = [.s ns, .m 0, .d (encW m ts), .d (.tuple (js.map encJ)), .d (encG o), .d (.list (rg.map tN)), .d (.list hs), o7, o8] ∧ ms' = [.l (dkL xs')]) ?_ ?_)
  · refine s_new (e_lcR (js := [7]) (by simp) (ea_cons (e_int (ea_nil ⟨10, rfl, by decide, fun i acc ms' => ∃ xs' : List Nat, acc.length = i ∧ (∀ x ∈ acc, Ge 3 x) ∧ Dk xs' ∧ ms' = [.l (dkL xs')], ⟨xs2, rfl, nofun, hx2, rfl⟩, ?_, ?_⟩))))
    · rintro i acc ms' hi ⟨xs3, hl, ha, hx3, rfl⟩
      refine eg_name (et_yes ⟨fun _ => ?_, nofun⟩)
      refine e_call (ea_cons (e_varm rfl (ea_cons (e_var rfl (ea_cons (e_cb (ea_cons (e_op (e_var rfl (e_int (rr_ix ⟨_, _, _, .inr (.d _), rfl, atI_nat (j := 1) rfl, ea_nil (rc_len ⟨_, _, rfl, .inr (.d _), ?_⟩)⟩)))))))))))
      rw [List.length_map]
      refine ea_nil ⟨_, _, _, rfl, 0, xs3, rg, ts.length, rfl, rfl, rfl, hx3, rfl, hrl, fun q hq => ⟨by have := (rlen q hq).1; omega, (rlen q hq).2⟩, by omega, fun y xs4 gy hx4 => ?_⟩
      exact ⟨_, rfl, xs4, by simp [hl], fun x h => by
        rcases List.mem_append.mp h with h | h
        · exact ha x h
        · rw [List.mem_singleton.mp h]; exact gy, hx4, rfl⟩
    rintro acc ms' ⟨xs3, hl, ha, hx3, rfl⟩
    refine ⟨_, rfl, ?_⟩
    refine s_forR (js := [7]) (ea_cons (e_op (e_cb (ea_cons (e_op (e_var rfl (e_lst (ea_nil ⟨[], rfl, Nat.zero_le _, rr_ne ⟨_, _, .d _, .d _, shp_rings rg, by decide +kernel, ea_nil (rc_intB ⟨_, rfl, ?_⟩)⟩⟩))))))))
    rw [eqv_rings]
    obtain ⟨cn, ecn, hcn, hcr⟩ : ∃ cn : Nat, ((if (!rg.isEmpty) = true then (1 : Int) else 0) * 6) = (cn : Int) ∧ cn ≤ 6 ∧ (0 < cn → rg ≠ []) := by
      cases rg with
      | nil => exact ⟨0, by simp, by omega, by omega⟩
      | cons y l => exact ⟨6, by simp, by omega, fun _ => by simp⟩
    refine e_int (rr_I ⟨_, _, rfl, rfl, .inl ?_, ?_⟩)
    · split <;> exact ⟨by decide, by decide⟩
    rw [ecn]
    refine ea_nil ⟨_, rfl, by omega, fun i ds' ms' => ∃ (hs : List PyData) (xs' : List Nat) (o7 : SD), hs.length = 10 + i ∧ (∀ x ∈ hs, Ge 3 x) ∧ Dk xs' ∧
      ds' = [.s ns, .m 0, .d (encW m ts), .d (.tuple (js.map encJ)), .d (encG o), .d (.list (rg.map tN)), .m 1, o7, .u] ∧ ms' = [.l (dkL xs'), .l hs], ⟨acc, xs3, _, by rw [hl]; rfl, ha, hx3, rfl, rfl⟩, ?_, ?_⟩
    · rintro i ds' ms' hi ⟨hs, xs4, o7, hl2, ha2, hx4, rfl, rfl⟩
      have rpos : 0 < rg.length := List.length_pos_iff.mpr (hcr (by omega))
      refine eg_name (s_drop (e_append (e_varm rfl ⟨1, rfl, e_op (e_var rfl (e_op (e_next rfl rfl hx4 fun z xs5 hz hx5 => ?_)))⟩)))
      refine e_cb (ea_cons (e_var rfl (ea_nil (rc_len ⟨_, _, rfl, .inl (.d _), rr_I ⟨_, _, rfl, rfl, ?_, ?_⟩⟩))))
      · rw [List.length_map]; omega
      rw [List.length_map]
      obtain ⟨c3, hc3, ec3⟩ := fm_ex (z : Int) (m := (rg.length : Int)) (by omega)
      rw [ec3]
      have lt3 : c3 < rg.length := by omega
      refine rr_ix ⟨_, _, tN rg[c3], .inl (.d _), rfl, atI_nat (j := c3) (by rw [List.getElem?_map, List.getElem?_eq_getElem lt3]; rfl), ?_⟩
      refine ⟨tN rg[c3], hs, rfl, rfl, by omega, hs ++ [tN rg[c3]], xs5, _, by rw [List.length_append, hl2, List.length_singleton]; omega, fun x h => ?_, hx5, rfl, rfl⟩
      rcases List.mem_append.mp h with h | h
      · exact ha2 x h
      · rw [List.mem_singleton.mp h]
        obtain ⟨h1, h2⟩ := rlen _ (List.getElem_mem lt3)
        exact ge_tN (by omega) h2
    · rintro ds' ms' ⟨hs, xs4, o7, hl2, ha2, hx4, rfl, rfl⟩
      exact ⟨[_], _, rfl, rfl, hs, xs4, _, _, by omega, ha2, hx4, rfl, rfl⟩
  rintro ds' ms' ⟨hs, xs3, o7, o8, hl, ha, hx3, rfl, rfl⟩
  refine s_seq (s_forL (js := [8]) (e_var rfl ⟨_, .d _, fun i ds' ms' => ∃ o8 : SD, ds' = [.s ns, .m 0, .d (encW m ts), .d (.tuple (js.map encJ)), .d (encG o), .d (.list (rg.map tN)), .d (.list hs), o7, o8] ∧ ms' = [.l (dkL xs3)], ⟨_, rfl, rfl⟩, ?_, ?_⟩))
  · rintro i x ds' ms' hi ⟨o8, rfl, rfl⟩
    have gx := ha x (List.mem_of_getElem? hi)
    have hz : ∀ es, x = .tuple es → es.length ≤ 10000 := fun es e => by
      subst e
      have := gx.parts.1
      omega
    refine eg_name ?_
    refine s_if (et_not (et_B (e_call (ea_cons (e_var rfl (ea_cons (e_var rfl (ea_cons (e_var rfl (ea_nil ⟨_, _, _, rfl, m, ts, o, x, rfl, rfl, rfl, hw, fun p e => ⟨(ho p e).lg, (ho p e).lc, (ho p e).lt, (ho p e).bit⟩, fun es e => by subst e; exact gx.shp.ok (by decide), _, rfl, fun h => ?_, fun h => ?_⟩))))))))))
    · have h' : dueO m ts o x = false := by simpa using h
      have told : LightIs m ts js x none := by
        cases o with
        | none => exact ⟨fun _ => rfl, fun gs cs gr => absurd gr.own (hno rfl _)⟩
        | some p =>
          have gp := ho p rfl
          refine ⟨fun hn => rfl, fun gs cs gr => ?_⟩
          show (if roundB m ts gs cs x = true then some (nsOf x) else none) = none
          rw [round_inv gr gp hw.all]
          show (if dueO m ts (some p) x = true then some (nsOf x) else none) = none
          rw [h']
          rfl
      refine s_if (et_not (et_B (e_call (ea_cons (e_var rfl (ea_cons (e_var rfl (ea_cons (e_var rfl (ea_nil ⟨_, _, _, rfl, m, ts, _, _, js, x, rfl, rfl, rfl, hw, rows_tup js, by omega, hj, hz, told, true, rfl, nofun, fun _ => s_next ⟨_, rfl, rfl⟩⟩))))))))))
    · have h' : dueO m ts o x = true := by simpa using h
      cases o with
      | none => cases h'
      | some p =>
        have gp := ho p rfl
        have hr : roundB m ts p.1 p.2 x = true := h'
        have hc : choiceB ts.length x = true := by
          unfold roundB at hr
          exact (Bool.and_eq_true_iff.mp hr).1
        obtain ⟨q, rfl, hne, hri, hn⟩ := choice_dec hc
        have ql := nodup_len (hri.imp (fun h => Nat.ne_of_lt h)) hn
        have told : LightIs m ts js (tN q) (some q) := by
          refine ⟨fun hn => absurd gp.own (hn _), fun gs cs gr => ?_⟩
          show (if roundB m ts gs cs (tN q) = true then some (nsOf (tN q)) else none) = some q
          rw [round_inv gr gp hw.all, if_pos hr, nsOf_tN]
        refine s_if (et_not (et_B (e_call (ea_cons (e_var rfl (ea_cons (e_var rfl (ea_cons (e_var rfl (ea_nil ⟨_, _, _, rfl, m, ts, js, q, rfl, rfl, rfl, hw, by omega, hj, by omega, hne, hn, told, true, rfl, nofun, fun _ => s_next ⟨_, rfl, rfl⟩⟩))))))))))
  · rintro ds' ms' ⟨o8, rfl, rfl⟩
    exact s_ret (e_bl ⟨[], _, rfl, rfl, r⟩)

theorem ok_is_whole {Pg : Program} {w : World} {K : PySem.W.Frag} {mg : Str → Option Value} {base : Heap} {f : Addr} {fd : FuncData} (F : Fun K "is_whole" "is_whole" s_is_whole f fd) (hm : mg "is_whole" = some (.ref f)) (B : ∀ x, x ∈ blt → mg x = none) (cs : Csts mg) : Kn Pg w K mg base "is_whole" 1 ["thing"] Φ_is_whole :=
  ⟨f, fd, ok_of F sc_is_whole len_is_whole (by decide) (fun cdv A outer s H E hr => ⟨_, dv_is_whole hr B cs, rd_is_whole⟩), hm, F.kp, F.binds fun _ _ _ _ _ _ us hl => match us, hl with | [_], _ => rfl⟩
theorem ok_is_row {Pg : Program} {w : World} {K : PySem.W.Frag} {mg : Str → Option Value} {base : Heap} {f : Addr} {fd : FuncData} (F : Fun K "is_row" "is_row" s_is_row f fd) (hm : mg "is_row" = some (.ref f)) (B : ∀ x, x ∈ blt → mg x = none) (cs : Csts mg) : Kn Pg w K mg base "is_row" 1 ["thing"] Φ_is_row :=
  ⟨f, fd, ok_of F sc_is_row len_is_row (by decide) (fun cdv A outer s H E hr => ⟨_, dv_is_row hr B cs, rd_is_row⟩), hm, F.kp, F.binds fun _ _ _ _ _ _ us hl => match us, hl with | [_], _ => rfl⟩
theorem ok_is_triple {Pg : Program} {w : World} {K : PySem.W.Frag} {mg : Str → Option Value} {base : Heap} {f : Addr} {fd : FuncData} (F : Fun K "is_triple" "is_triple" s_is_triple f fd) (hm : mg "is_triple" = some (.ref f)) (B : ∀ x, x ∈ blt → mg x = none) (cs : Csts mg) (g_is_row : Kn Pg w K mg base "is_row" 1 ["thing"] Φ_is_row) : Kn Pg w K mg base "is_triple" 2 ["thing"] Φ_is_triple :=
  ⟨f, fd, ok_of F sc_is_triple len_is_triple (by decide) (fun cdv A outer s H E hr => ⟨_, dv_is_triple hr B cs g_is_row, rd_is_triple⟩), hm, F.kp, F.binds fun _ _ _ _ _ _ us hl => match us, hl with | [_], _ => rfl⟩
theorem ok_is_number_of {Pg : Program} {w : World} {K : PySem.W.Frag} {mg : Str → Option Value} {base : Heap} {f : Addr} {fd : FuncData} (F : Fun K "is_number_of" "is_number_of" s_is_number_of f fd) (hm : mg "is_number_of" = some (.ref f)) (B : ∀ x, x ∈ blt → mg x = none) (cs : Csts mg) (g_is_whole : Kn Pg w K mg base "is_whole" 1 ["thing"] Φ_is_whole) : Kn Pg w K mg base "is_number_of" 2 ["many", "thing"] Φ_is_number_of :=
  ⟨f, fd, ok_of F sc_is_number_of len_is_number_of (by decide) (fun cdv A outer s H E hr => ⟨_, dv_is_number_of hr B cs g_is_whole, rd_is_number_of⟩), hm, F.kp, F.binds fun _ _ _ _ _ _ us hl => match us, hl with | [_, _], _ => rfl⟩
theorem ok_are_unlike_points {Pg : Program} {w : World} {K : PySem.W.Frag} {mg : Str → Option Value} {base : Heap} {f : Addr} {fd : FuncData} (F : Fun K "are_unlike_points" "are_unlike_points" s_are_unlike_points f fd) (hm : mg "are_unlike_points" = some (.ref f)) (B : ∀ x, x ∈ blt → mg x = none) (cs : Csts mg) (g_is_number_of : Kn Pg w K mg base "is_number_of" 2 ["many", "thing"] Φ_is_number_of) : Kn Pg w K mg base "are_unlike_points" 3 ["many", "one", "other"] Φ_are_unlike_points :=
  ⟨f, fd, ok_of F sc_are_unlike_points len_are_unlike_points (by decide) (fun cdv A outer s H E hr => ⟨_, dv_are_unlike_points hr B cs g_is_number_of, rd_are_unlike_points⟩), hm, F.kp, F.binds fun _ _ _ _ _ _ us hl => match us, hl with | [_, _, _], _ => rfl⟩
theorem ok_is_rising_choice {Pg : Program} {w : World} {K : PySem.W.Frag} {mg : Str → Option Value} {base : Heap} {f : Addr} {fd : FuncData} (F : Fun K "is_rising_choice" "is_rising_choice" s_is_rising_choice f fd) (hm : mg "is_rising_choice" = some (.ref f)) (B : ∀ x, x ∈ blt → mg x = none) (cs : Csts mg) (g_is_number_of : Kn Pg w K mg base "is_number_of" 2 ["many", "thing"] Φ_is_number_of) : Kn Pg w K mg base "is_rising_choice" 3 ["many", "thing"] Φ_is_rising_choice :=
  ⟨f, fd, ok_of F sc_is_rising_choice len_is_rising_choice (by decide) (fun cdv A outer s H E hr => ⟨_, dv_is_rising_choice hr B cs g_is_number_of, rd_is_rising_choice⟩), hm, F.kp, F.binds fun _ _ _ _ _ _ us hl => match us, hl with | [_, _], _ => rfl⟩
theorem ok_less {Pg : Program} {w : World} {K : PySem.W.Frag} {mg : Str → Option Value} {base : Heap} {f : Addr} {fd : FuncData} (F : Fun K "less" "less" s_less f fd) (hm : mg "less" = some (.ref f)) (B : ∀ x, x ∈ blt → mg x = none) (cs : Csts mg) : Kn Pg w K mg base "less" 1 ["one", "other"] Φ_less :=
  ⟨f, fd, ok_of F sc_less len_less (by decide) (fun cdv A outer s H E hr => ⟨_, dv_less hr B cs, rd_less⟩), hm, F.kp, F.binds fun _ _ _ _ _ _ us hl => match us, hl with | [_, _], _ => rfl⟩
theorem ok_has_even_ends {Pg : Program} {w : World} {K : PySem.W.Frag} {mg : Str → Option Value} {base : Heap} {f : Addr} {fd : FuncData} (F : Fun K "has_even_ends" "has_even_ends" s_has_even_ends f fd) (hm : mg "has_even_ends" = some (.ref f)) (B : ∀ x, x ∈ blt → mg x = none) (cs : Csts mg) : Kn Pg w K mg base "has_even_ends" 1 ["many", "pairs"] Φ_has_even_ends :=
  ⟨f, fd, ok_of F sc_has_even_ends len_has_even_ends (by decide) (fun cdv A outer s H E hr => ⟨_, dv_has_even_ends hr B cs, rd_has_even_ends⟩), hm, F.kp, F.binds fun _ _ _ _ _ _ us hl => match us, hl with | [_, _], _ => rfl⟩
theorem ok_joins_at {Pg : Program} {w : World} {K : PySem.W.Frag} {mg : Str → Option Value} {base : Heap} {f : Addr} {fd : FuncData} (F : Fun K "joins_at" "joins_at" s_joins_at f fd) (hm : mg "joins_at" = some (.ref f)) (B : ∀ x, x ∈ blt → mg x = none) (cs : Csts mg) : Kn Pg w K mg base "joins_at" 1 ["many", "joins"] Φ_joins_at :=
  ⟨f, fd, ok_of F sc_joins_at len_joins_at (by decide) (fun cdv A outer s H E hr => ⟨_, dv_joins_at hr B cs, rd_joins_at⟩), hm, F.kp, F.binds fun _ _ _ _ _ _ us hl => match us, hl with | [_, _], _ => rfl⟩
theorem ok_group_from {Pg : Program} {w : World} {K : PySem.W.Frag} {mg : Str → Option Value} {base : Heap} {f : Addr} {fd : FuncData} (F : Fun K "group_from" "group_from" s_group_from f fd) (hm : mg "group_from" = some (.ref f)) (B : ∀ x, x ∈ blt → mg x = none) (cs : Csts mg) : Kn Pg w K mg base "group_from" 1 ["near", "first"] Φ_group_from :=
  ⟨f, fd, ok_of F sc_group_from len_group_from (by decide) (fun cdv A outer s H E hr => ⟨_, dv_group_from hr B cs, rd_group_from⟩), hm, F.kp, F.binds fun _ _ _ _ _ _ us hl => match us, hl with | [_, _], _ => rfl⟩
theorem ok_spread {Pg : Program} {w : World} {K : PySem.W.Frag} {mg : Str → Option Value} {base : Heap} {f : Addr} {fd : FuncData} (F : Fun K "spread" "spread" s_spread f fd) (hm : mg "spread" = some (.ref f)) (B : ∀ x, x ∈ blt → mg x = none) (cs : Csts mg) (g_joins_at : Kn Pg w K mg base "joins_at" 1 ["many", "joins"] Φ_joins_at) (g_group_from : Kn Pg w K mg base "group_from" 1 ["near", "first"] Φ_group_from) : Kn Pg w K mg base "spread" 2 ["many", "joins"] Φ_spread :=
  ⟨f, fd, ok_of F sc_spread len_spread (by decide) (fun cdv A outer s H E hr => ⟨_, dv_spread hr B cs g_joins_at g_group_from, rd_spread⟩), hm, F.kp, F.binds fun _ _ _ _ _ _ us hl => match us, hl with | [_, _], _ => rfl⟩
theorem ok_ring_closed {Pg : Program} {w : World} {K : PySem.W.Frag} {mg : Str → Option Value} {base : Heap} {f : Addr} {fd : FuncData} (F : Fun K "ring_closed" "ring_closed" s_ring_closed f fd) (hm : mg "ring_closed" = some (.ref f)) (B : ∀ x, x ∈ blt → mg x = none) (cs : Csts mg) : Kn Pg w K mg base "ring_closed" 1 ["way", "other_way", "number"] Φ_ring_closed :=
  ⟨f, fd, ok_of F sc_ring_closed len_ring_closed (by decide) (fun cdv A outer s H E hr => ⟨_, dv_ring_closed hr B cs, rd_ring_closed⟩), hm, F.kp, F.binds fun _ _ _ _ _ _ us hl => match us, hl with | [_, _, _], _ => rfl⟩
theorem ok_odd_rings {Pg : Program} {w : World} {K : PySem.W.Frag} {mg : Str → Option Value} {base : Heap} {f : Addr} {fd : FuncData} (F : Fun K "odd_rings" "odd_rings" s_odd_rings f fd) (hm : mg "odd_rings" = some (.ref f)) (B : ∀ x, x ∈ blt → mg x = none) (cs : Csts mg) (g_ring_closed : Kn Pg w K mg base "ring_closed" 1 ["way", "other_way", "number"] Φ_ring_closed) : Kn Pg w K mg base "odd_rings" 2 ["joins", "marks", "ways"] Φ_odd_rings :=
  ⟨f, fd, ok_of F sc_odd_rings len_odd_rings (by decide) (fun cdv A outer s H E hr => ⟨_, dv_odd_rings hr B cs g_ring_closed, rd_odd_rings⟩), hm, F.kp, F.binds fun _ _ _ _ _ _ us hl => match us, hl with | [_, _, _], _ => rfl⟩
theorem ok_parted {Pg : Program} {w : World} {K : PySem.W.Frag} {mg : Str → Option Value} {base : Heap} {f : Addr} {fd : FuncData} (F : Fun K "parted" "parted" s_parted f fd) (hm : mg "parted" = some (.ref f)) (B : ∀ x, x ∈ blt → mg x = none) (cs : Csts mg) (g_spread : Kn Pg w K mg base "spread" 2 ["many", "joins"] Φ_spread) (g_odd_rings : Kn Pg w K mg base "odd_rings" 2 ["joins", "marks", "ways"] Φ_odd_rings) : Kn Pg w K mg base "parted" 3 ["many", "joins"] Φ_parted :=
  ⟨f, fd, ok_of F sc_parted len_parted (by decide) (fun cdv A outer s H E hr => ⟨_, dv_parted hr B cs g_spread g_odd_rings, rd_parted⟩), hm, F.kp, F.binds fun _ _ _ _ _ _ us hl => match us, hl with | [_, _], _ => rfl⟩
theorem ok_size_of {Pg : Program} {w : World} {K : PySem.W.Frag} {mg : Str → Option Value} {base : Heap} {f : Addr} {fd : FuncData} (F : Fun K "size_of" "size_of" s_size_of f fd) (hm : mg "size_of" = some (.ref f)) (B : ∀ x, x ∈ blt → mg x = none) (cs : Csts mg) : Kn Pg w K mg base "size_of" 1 ["web", "tie"] Φ_size_of :=
  ⟨f, fd, ok_of F sc_size_of len_size_of (by decide) (fun cdv A outer s H E hr => ⟨_, dv_size_of hr B cs, rd_size_of⟩), hm, F.kp, F.binds fun _ _ _ _ _ _ us hl => match us, hl with | [_, _], _ => rfl⟩
theorem ok_is_gainful {Pg : Program} {w : World} {K : PySem.W.Frag} {mg : Str → Option Value} {base : Heap} {f : Addr} {fd : FuncData} (F : Fun K "is_gainful" "is_gainful" s_is_gainful f fd) (hm : mg "is_gainful" = some (.ref f)) (B : ∀ x, x ∈ blt → mg x = none) (cs : Csts mg) : Kn Pg w K mg base "is_gainful" 1 ["web", "tie"] Φ_is_gainful :=
  ⟨f, fd, ok_of F sc_is_gainful len_is_gainful (by decide) (fun cdv A outer s H E hr => ⟨_, dv_is_gainful hr B cs, rd_is_gainful⟩), hm, F.kp, F.binds fun _ _ _ _ _ _ us hl => match us, hl with | [_, _], _ => rfl⟩
theorem ok_is_wish {Pg : Program} {w : World} {K : PySem.W.Frag} {mg : Str → Option Value} {base : Heap} {f : Addr} {fd : FuncData} (F : Fun K "is_wish" "is_wish" s_is_wish f fd) (hm : mg "is_wish" = some (.ref f)) (B : ∀ x, x ∈ blt → mg x = none) (cs : Csts mg) (g_is_triple : Kn Pg w K mg base "is_triple" 2 ["thing"] Φ_is_triple) (g_is_number_of : Kn Pg w K mg base "is_number_of" 2 ["many", "thing"] Φ_is_number_of) (g_are_unlike_points : Kn Pg w K mg base "are_unlike_points" 3 ["many", "one", "other"] Φ_are_unlike_points) : Kn Pg w K mg base "is_wish" 4 ["web", "thing"] Φ_is_wish :=
  ⟨f, fd, ok_of F sc_is_wish len_is_wish (by decide) (fun cdv A outer s H E hr => ⟨_, dv_is_wish hr B cs g_is_triple g_is_number_of g_are_unlike_points, rd_is_wish⟩), hm, F.kp, F.binds fun _ _ _ _ _ _ us hl => match us, hl with | [_, _], _ => rfl⟩
theorem ok_made_wishes {Pg : Program} {w : World} {K : PySem.W.Frag} {mg : Str → Option Value} {base : Heap} {f : Addr} {fd : FuncData} (F : Fun K "made_wishes" "made_wishes" s_made_wishes f fd) (hm : mg "made_wishes" = some (.ref f)) (B : ∀ x, x ∈ blt → mg x = none) (cs : Csts mg) {C_CutError C_NoWeb C_NoSide C_NoText C_NoWishes C_NoTurns C_NotFlat C_NoRing C_NoPaper C_NoShare C_NoTie C_NoWeight C_NoDeed C_TooGreat : Addr} (cl : Cls K mg C_CutError C_NoWeb C_NoSide C_NoText C_NoWishes C_NoTurns C_NotFlat C_NoRing C_NoPaper C_NoShare C_NoTie C_NoWeight C_NoDeed C_TooGreat) (g_is_row : Kn Pg w K mg base "is_row" 1 ["thing"] Φ_is_row) (g_is_wish : Kn Pg w K mg base "is_wish" 4 ["web", "thing"] Φ_is_wish) : KnX Pg w K mg base "made_wishes" 5 ["web", "thing"] C_NoWishes Φ_made_wishes :=
  ⟨f, fd, okX_of F sc_made_wishes len_made_wishes (by decide) (t_made_wishes K C_CutError C_NoWeb C_NoSide C_NoText C_NoWishes C_NoTurns C_NotFlat C_NoRing C_NoPaper C_NoShare C_NoTie C_NoWeight C_NoDeed C_TooGreat Φ_is_row Φ_is_wish) (fun cdv A outer s H E hr => dv_made_wishes hr B cs cl g_is_row g_is_wish) rd_made_wishes, hm, F.kp, F.binds fun _ _ _ _ _ _ us hl => match us, hl with | [_, _], _ => rfl⟩
theorem ok_grouped {Pg : Program} {w : World} {K : PySem.W.Frag} {mg : Str → Option Value} {base : Heap} {f : Addr} {fd : FuncData} (F : Fun K "grouped" "grouped" s_grouped f fd) (hm : mg "grouped" = some (.ref f)) (B : ∀ x, x ∈ blt → mg x = none) (cs : Csts mg) {C_CutError C_NoWeb C_NoSide C_NoText C_NoWishes C_NoTurns C_NotFlat C_NoRing C_NoPaper C_NoShare C_NoTie C_NoWeight C_NoDeed C_TooGreat : Addr} (cl : Cls K mg C_CutError C_NoWeb C_NoSide C_NoText C_NoWishes C_NoTurns C_NotFlat C_NoRing C_NoPaper C_NoShare C_NoTie C_NoWeight C_NoDeed C_TooGreat) (g_parted : Kn Pg w K mg base "parted" 3 ["many", "joins"] Φ_parted) (g_made_wishes : KnX Pg w K mg base "made_wishes" 5 ["web", "thing"] C_NoWishes Φ_made_wishes) : Kn Pg w K mg base "grouped" 6 ["web", "wishes"] Φ_grouped :=
  ⟨f, fd, ok_of F sc_grouped len_grouped (by decide) (fun cdv A outer s H E hr => ⟨_, dv_grouped hr B cs cl g_parted g_made_wishes, rd_grouped⟩), hm, F.kp, F.binds fun _ _ _ _ _ _ us hl => match us, hl with | [_, _], _ => rfl⟩
theorem ok_is_lost_together {Pg : Program} {w : World} {K : PySem.W.Frag} {mg : Str → Option Value} {base : Heap} {f : Addr} {fd : FuncData} (F : Fun K "is_lost_together" "is_lost_together" s_is_lost_together f fd) (hm : mg "is_lost_together" = some (.ref f)) (B : ∀ x, x ∈ blt → mg x = none) (cs : Csts mg) (g_is_gainful : Kn Pg w K mg base "is_gainful" 1 ["web", "tie"] Φ_is_gainful) : Kn Pg w K mg base "is_lost_together" 2 ["web", "marks", "tie"] Φ_is_lost_together :=
  ⟨f, fd, ok_of F sc_is_lost_together len_is_lost_together (by decide) (fun cdv A outer s H E hr => ⟨_, dv_is_lost_together hr B cs g_is_gainful, rd_is_lost_together⟩), hm, F.kp, F.binds fun _ _ _ _ _ _ us hl => match us, hl with | [_, _, _], _ => rfl⟩
theorem ok_is_odd_round {Pg : Program} {w : World} {K : PySem.W.Frag} {mg : Str → Option Value} {base : Heap} {f : Addr} {fd : FuncData} (F : Fun K "is_odd_round" "is_odd_round" s_is_odd_round f fd) (hm : mg "is_odd_round" = some (.ref f)) (B : ∀ x, x ∈ blt → mg x = none) (cs : Csts mg) (g_is_rising_choice : Kn Pg w K mg base "is_rising_choice" 3 ["many", "thing"] Φ_is_rising_choice) (g_has_even_ends : Kn Pg w K mg base "has_even_ends" 1 ["many", "pairs"] Φ_has_even_ends) (g_is_lost_together : Kn Pg w K mg base "is_lost_together" 2 ["web", "marks", "tie"] Φ_is_lost_together) : Kn Pg w K mg base "is_odd_round" 4 ["web", "groups", "marks", "thing"] Φ_is_odd_round :=
  ⟨f, fd, ok_of F sc_is_odd_round len_is_odd_round (by decide) (fun cdv A outer s H E hr => ⟨_, dv_is_odd_round hr B cs g_is_rising_choice g_has_even_ends g_is_lost_together, rd_is_odd_round⟩), hm, F.kp, F.binds fun _ _ _ _ _ _ us hl => match us, hl with | [_, _, _, _], _ => rfl⟩
theorem ok_least_size {Pg : Program} {w : World} {K : PySem.W.Frag} {mg : Str → Option Value} {base : Heap} {f : Addr} {fd : FuncData} (F : Fun K "least_size" "least_size" s_least_size f fd) (hm : mg "least_size" = some (.ref f)) (B : ∀ x, x ∈ blt → mg x = none) (cs : Csts mg) (g_size_of : Kn Pg w K mg base "size_of" 1 ["web", "tie"] Φ_size_of) (g_less : Kn Pg w K mg base "less" 1 ["one", "other"] Φ_less) : Kn Pg w K mg base "least_size" 2 ["web", "ring"] Φ_least_size :=
  ⟨f, fd, ok_of F sc_least_size len_least_size (by decide) (fun cdv A outer s H E hr => ⟨_, dv_least_size hr B cs g_size_of g_less, rd_least_size⟩), hm, F.kp, F.binds fun _ _ _ _ _ _ us hl => match us, hl with | [_, _], _ => rfl⟩
theorem ok_lightest {Pg : Program} {w : World} {K : PySem.W.Frag} {mg : Str → Option Value} {base : Heap} {f : Addr} {fd : FuncData} (F : Fun K "lightest" "lightest" s_lightest f fd) (hm : mg "lightest" = some (.ref f)) (B : ∀ x, x ∈ blt → mg x = none) (cs : Csts mg) {C_CutError C_NoWeb C_NoSide C_NoText C_NoWishes C_NoTurns C_NotFlat C_NoRing C_NoPaper C_NoShare C_NoTie C_NoWeight C_NoDeed C_TooGreat : Addr} (cl : Cls K mg C_CutError C_NoWeb C_NoSide C_NoText C_NoWishes C_NoTurns C_NotFlat C_NoRing C_NoPaper C_NoShare C_NoTie C_NoWeight C_NoDeed C_TooGreat) (g_grouped : Kn Pg w K mg base "grouped" 6 ["web", "wishes"] Φ_grouped) (g_is_odd_round : Kn Pg w K mg base "is_odd_round" 4 ["web", "groups", "marks", "thing"] Φ_is_odd_round) (g_least_size : Kn Pg w K mg base "least_size" 2 ["web", "ring"] Φ_least_size) : KnX Pg w K mg base "lightest" 7 ["web", "wishes", "ring"] C_NoRing Φ_lightest :=
  ⟨f, fd, okX_of F sc_lightest len_lightest (by decide) (t_lightest K C_CutError C_NoWeb C_NoSide C_NoText C_NoWishes C_NoTurns C_NotFlat C_NoRing C_NoPaper C_NoShare C_NoTie C_NoWeight C_NoDeed C_TooGreat Φ_grouped Φ_is_odd_round Φ_least_size) (fun cdv A outer s H E hr => dv_lightest hr B cs cl g_grouped g_is_odd_round g_least_size) rd_lightest, hm, F.kp, F.binds fun _ _ _ _ _ _ us hl => match us, hl with | [_, _, _], _ => rfl⟩
theorem ok__law_stirred {Pg : Program} {w : World} {K : PySem.W.Frag} {mg : Str → Option Value} {base : Heap} {f : Addr} {fd : FuncData} (F : Fun K "_law_stirred" "_law_stirred" s__law_stirred f fd) (hm : mg "_law_stirred" = some (.ref f)) (B : ∀ x, x ∈ blt → mg x = none) (cs : Csts mg) : Kn Pg w K mg base "_law_stirred" 1 ["_law_cell", "_law_k"] Φ__law_stirred :=
  ⟨f, fd, ok_of F sc__law_stirred len__law_stirred (by decide) (fun cdv A outer s H E hr => ⟨_, dv__law_stirred hr B cs, rd__law_stirred⟩), hm, F.kp, F.binds fun _ _ _ _ _ _ us hl => match us, hl with | [_, _], _ => rfl⟩
theorem ok__law_deck {Pg : Program} {w : World} {K : PySem.W.Frag} {mg : Str → Option Value} {base : Heap} {f : Addr} {fd : FuncData} (F : Fun K "_law_deck" "_law_deck" s__law_deck f fd) (hm : mg "_law_deck" = some (.ref f)) (B : ∀ x, x ∈ blt → mg x = none) (cs : Csts mg) (g__law_stirred : Kn Pg w K mg base "_law_stirred" 1 ["_law_cell", "_law_k"] Φ__law_stirred) : Kn Pg w K mg base "_law_deck" 2 ["_law_script", "_law_many"] Φ__law_deck :=
  ⟨f, fd, ok_of F sc__law_deck len__law_deck (by decide) (fun cdv A outer s H E hr => ⟨_, dv__law_deck hr B cs g__law_stirred, rd__law_deck⟩), hm, F.kp, F.binds fun _ _ _ _ _ _ us hl => match us, hl with | [_, _], _ => rfl⟩
theorem ok__law_next {Pg : Program} {w : World} {K : PySem.W.Frag} {mg : Str → Option Value} {base : Heap} {f : Addr} {fd : FuncData} (F : Fun K "_law_next" "_law_next" s__law_next f fd) (hm : mg "_law_next" = some (.ref f)) (B : ∀ x, x ∈ blt → mg x = none) (cs : Csts mg) : Kn Pg w K mg base "_law_next" 1 ["_law_deck_here"] Φ__law_next :=
  ⟨f, fd, ok_of F sc__law_next len__law_next (by decide) (fun cdv A outer s H E hr => ⟨_, dv__law_next hr B cs, rd__law_next⟩), hm, F.kp, F.binds fun _ _ _ _ _ _ us hl => match us, hl with | [_], _ => rfl⟩
theorem ok__law_fraction {Pg : Program} {w : World} {K : PySem.W.Frag} {mg : Str → Option Value} {base : Heap} {f : Addr} {fd : FuncData} (F : Fun K "_law_fraction" "_law_fraction" s__law_fraction f fd) (hm : mg "_law_fraction" = some (.ref f)) (B : ∀ x, x ∈ blt → mg x = none) (cs : Csts mg) : Kn Pg w K mg base "_law_fraction" 1 ["_law_top", "_law_bottom"] Φ__law_fraction :=
  ⟨f, fd, ok_of F sc__law_fraction len__law_fraction (by decide) (fun cdv A outer s H E hr => ⟨_, dv__law_fraction hr B cs, rd__law_fraction⟩), hm, F.kp, F.binds fun _ _ _ _ _ _ us hl => match us, hl with | [_, _], _ => rfl⟩
theorem ok__law_below {Pg : Program} {w : World} {K : PySem.W.Frag} {mg : Str → Option Value} {base : Heap} {f : Addr} {fd : FuncData} (F : Fun K "_law_below" "_law_below" s__law_below f fd) (hm : mg "_law_below" = some (.ref f)) (B : ∀ x, x ∈ blt → mg x = none) (cs : Csts mg) : Kn Pg w K mg base "_law_below" 1 ["_law_one", "_law_other"] Φ__law_below :=
  ⟨f, fd, ok_of F sc__law_below len__law_below (by decide) (fun cdv A outer s H E hr => ⟨_, dv__law_below hr B cs, rd__law_below⟩), hm, F.kp, F.binds fun _ _ _ _ _ _ us hl => match us, hl with | [_, _], _ => rfl⟩
theorem ok__law_weight {Pg : Program} {w : World} {K : PySem.W.Frag} {mg : Str → Option Value} {base : Heap} {f : Addr} {fd : FuncData} (F : Fun K "_law_weight" "_law_weight" s__law_weight f fd) (hm : mg "_law_weight" = some (.ref f)) (B : ∀ x, x ∈ blt → mg x = none) (cs : Csts mg) (g__law_next : Kn Pg w K mg base "_law_next" 1 ["_law_deck_here"] Φ__law_next) (g__law_fraction : Kn Pg w K mg base "_law_fraction" 1 ["_law_top", "_law_bottom"] Φ__law_fraction) : Kn Pg w K mg base "_law_weight" 2 ["_law_deck_here", "_law_style"] Φ__law_weight :=
  ⟨f, fd, ok_of F sc__law_weight len__law_weight (by decide) (fun cdv A outer s H E hr => ⟨_, dv__law_weight hr B cs g__law_next g__law_fraction, rd__law_weight⟩), hm, F.kp, F.binds fun _ _ _ _ _ _ us hl => match us, hl with | [_, _], _ => rfl⟩
theorem ok__law_web {Pg : Program} {w : World} {K : PySem.W.Frag} {mg : Str → Option Value} {base : Heap} {f : Addr} {fd : FuncData} (F : Fun K "_law_web" "_law_web" s__law_web f fd) (hm : mg "_law_web" = some (.ref f)) (B : ∀ x, x ∈ blt → mg x = none) (cs : Csts mg) (g__law_next : Kn Pg w K mg base "_law_next" 1 ["_law_deck_here"] Φ__law_next) (g__law_weight : Kn Pg w K mg base "_law_weight" 2 ["_law_deck_here", "_law_style"] Φ__law_weight) : Kn Pg w K mg base "_law_web" 3 ["_law_deck_here", "_law_most_points", "_law_most_ties"] Φ__law_web :=
  ⟨f, fd, ok_of F sc__law_web len__law_web (by decide) (fun cdv A outer s H E hr => ⟨_, dv__law_web hr B cs g__law_next g__law_weight, rd__law_web⟩), hm, F.kp, F.binds fun _ _ _ _ _ _ us hl => match us, hl with | [_, _, _], _ => rfl⟩
theorem ok__law_wishes {Pg : Program} {w : World} {K : PySem.W.Frag} {mg : Str → Option Value} {base : Heap} {f : Addr} {fd : FuncData} (F : Fun K "_law_wishes" "_law_wishes" s__law_wishes f fd) (hm : mg "_law_wishes" = some (.ref f)) (B : ∀ x, x ∈ blt → mg x = none) (cs : Csts mg) (g__law_next : Kn Pg w K mg base "_law_next" 1 ["_law_deck_here"] Φ__law_next) : Kn Pg w K mg base "_law_wishes" 2 ["_law_deck_here", "_law_many"] Φ__law_wishes :=
  ⟨f, fd, ok_of F sc__law_wishes len__law_wishes (by decide) (fun cdv A outer s H E hr => ⟨_, dv__law_wishes hr B cs g__law_next, rd__law_wishes⟩), hm, F.kp, F.binds fun _ _ _ _ _ _ us hl => match us, hl with | [_, _], _ => rfl⟩
theorem ok__law_groups {Pg : Program} {w : World} {K : PySem.W.Frag} {mg : Str → Option Value} {base : Heap} {f : Addr} {fd : FuncData} (F : Fun K "_law_groups" "_law_groups" s__law_groups f fd) (hm : mg "_law_groups" = some (.ref f)) (B : ∀ x, x ∈ blt → mg x = none) (cs : Csts mg) : Kn Pg w K mg base "_law_groups" 1 ["_law_many", "_law_wishes_here"] Φ__law_groups :=
  ⟨f, fd, ok_of F sc__law_groups len__law_groups (by decide) (fun cdv A outer s H E hr => ⟨_, dv__law_groups hr B cs, rd__law_groups⟩), hm, F.kp, F.binds fun _ _ _ _ _ _ us hl => match us, hl with | [_, _], _ => rfl⟩
theorem ok__law_is_int {Pg : Program} {w : World} {K : PySem.W.Frag} {mg : Str → Option Value} {base : Heap} {f : Addr} {fd : FuncData} (F : Fun K "_law_is_int" "_law_is_int" s__law_is_int f fd) (hm : mg "_law_is_int" = some (.ref f)) (B : ∀ x, x ∈ blt → mg x = none) (cs : Csts mg) : Kn Pg w K mg base "_law_is_int" 1 ["_law_thing_here"] Φ__law_is_int :=
  ⟨f, fd, ok_of F sc__law_is_int len__law_is_int (by decide) (fun cdv A outer s H E hr => ⟨_, dv__law_is_int hr B cs, rd__law_is_int⟩), hm, F.kp, F.binds fun _ _ _ _ _ _ us hl => match us, hl with | [_], _ => rfl⟩
theorem ok__law_are_numbers {Pg : Program} {w : World} {K : PySem.W.Frag} {mg : Str → Option Value} {base : Heap} {f : Addr} {fd : FuncData} (F : Fun K "_law_are_numbers" "_law_are_numbers" s__law_are_numbers f fd) (hm : mg "_law_are_numbers" = some (.ref f)) (B : ∀ x, x ∈ blt → mg x = none) (cs : Csts mg) (g__law_is_int : Kn Pg w K mg base "_law_is_int" 1 ["_law_thing_here"] Φ__law_is_int) : Kn Pg w K mg base "_law_are_numbers" 2 ["_law_thing_here", "_law_many"] Φ__law_are_numbers :=
  ⟨f, fd, ok_of F sc__law_are_numbers len__law_are_numbers (by decide) (fun cdv A outer s H E hr => ⟨_, dv__law_are_numbers hr B cs g__law_is_int, rd__law_are_numbers⟩), hm, F.kp, F.binds fun _ _ _ _ _ _ us hl => match us, hl with | [_, _], _ => rfl⟩
theorem ok__law_is_odd_ring {Pg : Program} {w : World} {K : PySem.W.Frag} {mg : Str → Option Value} {base : Heap} {f : Addr} {fd : FuncData} (F : Fun K "_law_is_odd_ring" "_law_is_odd_ring" s__law_is_odd_ring f fd) (hm : mg "_law_is_odd_ring" = some (.ref f)) (B : ∀ x, x ∈ blt → mg x = none) (cs : Csts mg) : Kn Pg w K mg base "_law_is_odd_ring" 1 ["_law_web_here", "_law_groups_here", "_law_marks", "_law_ring"] Φ__law_is_odd_ring :=
  ⟨f, fd, ok_of F sc__law_is_odd_ring len__law_is_odd_ring (by decide) (fun cdv A outer s H E hr => ⟨_, dv__law_is_odd_ring hr B cs, rd__law_is_odd_ring⟩), hm, F.kp, F.binds fun _ _ _ _ _ _ us hl => match us, hl with | [_, _, _, _], _ => rfl⟩
theorem ok__law_all_rings {Pg : Program} {w : World} {K : PySem.W.Frag} {mg : Str → Option Value} {base : Heap} {f : Addr} {fd : FuncData} (F : Fun K "_law_all_rings" "_law_all_rings" s__law_all_rings f fd) (hm : mg "_law_all_rings" = some (.ref f)) (B : ∀ x, x ∈ blt → mg x = none) (cs : Csts mg) (g__law_is_odd_ring : Kn Pg w K mg base "_law_is_odd_ring" 1 ["_law_web_here", "_law_groups_here", "_law_marks", "_law_ring"] Φ__law_is_odd_ring) : Kn Pg w K mg base "_law_all_rings" 2 ["_law_web_here", "_law_groups_here", "_law_marks"] Φ__law_all_rings :=
  ⟨f, fd, ok_of F sc__law_all_rings len__law_all_rings (by decide) (fun cdv A outer s H E hr => ⟨_, dv__law_all_rings hr B cs g__law_is_odd_ring, rd__law_all_rings⟩), hm, F.kp, F.binds fun _ _ _ _ _ _ us hl => match us, hl with | [_, _, _], _ => rfl⟩
theorem ok__law_one_class {Pg : Program} {w : World} {K : PySem.W.Frag} {mg : Str → Option Value} {base : Heap} {f : Addr} {fd : FuncData} (F : Fun K "_law_one_class" "_law_one_class" s__law_one_class f fd) (hm : mg "_law_one_class" = some (.ref f)) (B : ∀ x, x ∈ blt → mg x = none) (cs : Csts mg) {C_CutError C_NoWeb C_NoSide C_NoText C_NoWishes C_NoTurns C_NotFlat C_NoRing C_NoPaper C_NoShare C_NoTie C_NoWeight C_NoDeed C_TooGreat : Addr} (cl : Cls K mg C_CutError C_NoWeb C_NoSide C_NoText C_NoWishes C_NoTurns C_NotFlat C_NoRing C_NoPaper C_NoShare C_NoTie C_NoWeight C_NoDeed C_TooGreat) : Kn Pg w K mg base "_law_one_class" 1 ["_law_caught", "_law_at"] (Φ__law_one_class C_CutError C_NoWeb C_NoSide C_NoText C_NoWishes C_NoTurns C_NotFlat C_NoRing C_NoPaper C_NoShare C_NoTie C_NoWeight C_NoDeed C_TooGreat) :=
  ⟨f, fd, ok_of F sc__law_one_class len__law_one_class (by decide) (fun cdv A outer s H E hr => ⟨_, dv__law_one_class hr B cs cl, rd__law_one_class cl⟩), hm, F.kp, F.binds fun _ _ _ _ _ _ us hl => match us, hl with | [_, _], _ => rfl⟩
theorem ok__law_refused {Pg : Program} {w : World} {K : PySem.W.Frag} {mg : Str → Option Value} {base : Heap} {f : Addr} {fd : FuncData} (F : Fun K "_law_refused" "_law_refused" s__law_refused f fd) (hm : mg "_law_refused" = some (.ref f)) (B : ∀ x, x ∈ blt → mg x = none) (cs : Csts mg) {C_CutError C_NoWeb C_NoSide C_NoText C_NoWishes C_NoTurns C_NotFlat C_NoRing C_NoPaper C_NoShare C_NoTie C_NoWeight C_NoDeed C_TooGreat : Addr} (cl : Cls K mg C_CutError C_NoWeb C_NoSide C_NoText C_NoWishes C_NoTurns C_NotFlat C_NoRing C_NoPaper C_NoShare C_NoTie C_NoWeight C_NoDeed C_TooGreat) (g_lightest : KnX Pg w K mg base "lightest" 7 ["web", "wishes", "ring"] C_NoRing Φ_lightest) (g__law_one_class : Kn Pg w K mg base "_law_one_class" 1 ["_law_caught", "_law_at"] (Φ__law_one_class C_CutError C_NoWeb C_NoSide C_NoText C_NoWishes C_NoTurns C_NotFlat C_NoRing C_NoPaper C_NoShare C_NoTie C_NoWeight C_NoDeed C_TooGreat)) : Kn Pg w K mg base "_law_refused" 8 ["_law_web_here", "_law_wishes_here", "_law_thing_here"] Φ__law_refused :=
  ⟨f, fd, ok_of F sc__law_refused len__law_refused (by decide) (fun cdv A outer s H E hr => ⟨_, dv__law_refused hr B cs cl g_lightest g__law_one_class, rd__law_refused cl⟩), hm, F.kp, F.binds fun _ _ _ _ _ _ us hl => match us, hl with | [_, _, _], _ => rfl⟩
theorem ok__law_paper {Pg : Program} {w : World} {K : PySem.W.Frag} {mg : Str → Option Value} {base : Heap} {f : Addr} {fd : FuncData} (F : Fun K "_law_paper" "_law_paper" s__law_paper f fd) (hm : mg "_law_paper" = some (.ref f)) (B : ∀ x, x ∈ blt → mg x = none) (cs : Csts mg) (g__law_below : Kn Pg w K mg base "_law_below" 1 ["_law_one", "_law_other"] Φ__law_below) : Kn Pg w K mg base "_law_paper" 2 ["_law_web_here", "_law_ring"] Φ__law_paper :=
  ⟨f, fd, ok_of F sc__law_paper len__law_paper (by decide) (fun cdv A outer s H E hr => ⟨_, dv__law_paper hr B cs g__law_below, rd__law_paper⟩), hm, F.kp, F.binds fun _ _ _ _ _ _ us hl => match us, hl with | [_, _], _ => rfl⟩
theorem ok__law_thing {Pg : Program} {w : World} {K : PySem.W.Frag} {mg : Str → Option Value} {base : Heap} {f : Addr} {fd : FuncData} (F : Fun K "_law_thing" "_law_thing" s__law_thing f fd) (hm : mg "_law_thing" = some (.ref f)) (B : ∀ x, x ∈ blt → mg x = none) (cs : Csts mg) (g__law_next : Kn Pg w K mg base "_law_next" 1 ["_law_deck_here"] Φ__law_next) : Kn Pg w K mg base "_law_thing" 2 ["_law_deck_here", "_law_rings", "_law_many"] Φ__law_thing :=
  ⟨f, fd, ok_of F sc__law_thing len__law_thing (by decide) (fun cdv A outer s H E hr => ⟨_, dv__law_thing hr B cs g__law_next, rd__law_thing⟩), hm, F.kp, F.binds fun _ _ _ _ _ _ us hl => match us, hl with | [_, _, _], _ => rfl⟩
theorem ok__law_is_due {Pg : Program} {w : World} {K : PySem.W.Frag} {mg : Str → Option Value} {base : Heap} {f : Addr} {fd : FuncData} (F : Fun K "_law_is_due" "_law_is_due" s__law_is_due f fd) (hm : mg "_law_is_due" = some (.ref f)) (B : ∀ x, x ∈ blt → mg x = none) (cs : Csts mg) (g__law_are_numbers : Kn Pg w K mg base "_law_are_numbers" 2 ["_law_thing_here", "_law_many"] Φ__law_are_numbers) (g__law_is_odd_ring : Kn Pg w K mg base "_law_is_odd_ring" 1 ["_law_web_here", "_law_groups_here", "_law_marks", "_law_ring"] Φ__law_is_odd_ring) : Kn Pg w K mg base "_law_is_due" 3 ["_law_web_here", "_law_found", "_law_thing_here"] Φ__law_is_due :=
  ⟨f, fd, ok_of F sc__law_is_due len__law_is_due (by decide) (fun cdv A outer s H E hr => ⟨_, dv__law_is_due hr B cs g__law_are_numbers g__law_is_odd_ring, rd__law_is_due⟩), hm, F.kp, F.binds fun _ _ _ _ _ _ us hl => match us, hl with | [_, _, _], _ => rfl⟩
theorem ok__law_tells {Pg : Program} {w : World} {K : PySem.W.Frag} {mg : Str → Option Value} {base : Heap} {f : Addr} {fd : FuncData} (F : Fun K "_law_tells" "_law_tells" s__law_tells f fd) (hm : mg "_law_tells" = some (.ref f)) (B : ∀ x, x ∈ blt → mg x = none) (cs : Csts mg) {C_CutError C_NoWeb C_NoSide C_NoText C_NoWishes C_NoTurns C_NotFlat C_NoRing C_NoPaper C_NoShare C_NoTie C_NoWeight C_NoDeed C_TooGreat : Addr} (cl : Cls K mg C_CutError C_NoWeb C_NoSide C_NoText C_NoWishes C_NoTurns C_NotFlat C_NoRing C_NoPaper C_NoShare C_NoTie C_NoWeight C_NoDeed C_TooGreat) (g__law_paper : Kn Pg w K mg base "_law_paper" 2 ["_law_web_here", "_law_ring"] Φ__law_paper) (g_lightest : KnX Pg w K mg base "lightest" 7 ["web", "wishes", "ring"] C_NoRing Φ_lightest) : Kn Pg w K mg base "_law_tells" 8 ["_law_web_here", "_law_wishes_here", "_law_thing_here"] Φ__law_tells :=
  ⟨f, fd, ok_of F sc__law_tells len__law_tells (by decide) (fun cdv A outer s H E hr => ⟨_, dv__law_tells hr B cs cl g__law_paper g_lightest, rd__law_tells⟩), hm, F.kp, F.binds fun _ _ _ _ _ _ us hl => match us, hl with | [_, _, _], _ => rfl⟩
theorem all_mk {l : PySem.W.OpenLaw} {w : World} {K : PySem.W.Frag} {h : Heap} {mg : Str → Option Value} {fa f1 f2 f3 f4 f5 f6 f7 f8 f9 f10 f11 f12 f13 f14 f15 f16 f17 f18 f19 f20 f21 f22 f23 f24 f25 f26 f27 f28 f29 f30 f31 f32 f33 f34 f35 f36 f37 f38 f39 f40 f41 f42 f43 C_CutError C_NoWeb C_NoSide C_NoText C_NoWishes C_NoTurns C_NotFlat C_NoRing C_NoPaper C_NoShare C_NoTie C_NoWeight C_NoDeed C_TooGreat : Addr} (X : K.In h) (G : h.Ns mainGlobals mg) (hfa : mg "law" = some (.ref fa))
    {od1 an1 od2 an2 od3 an3 od4 an4 od5 an5 od6 an6 od7 an7 od8 an8 od9 an9 od10 an10 od11 an11 od12 an12 od13 an13 od14 an14 od15 an15 od16 an16 od17 an17 od18 an18 od19 an19 od20 an20 od21 an21 od22 an22 od23 an23 od24 an24 od25 an25 od26 an26 od27 an27 od28 an28 od29 an29 od30 an30 od31 an31 od32 an32 od33 an33 od34 an34 od35 an35 od36 an36 od37 an37 od38 an38 od39 an39 od40 an40 od41 an41 od42 an42 od43 an43 : Option Addr} {sl1 sl2 sl3 sl4 sl5 sl6 sl7 sl8 sl9 sl10 sl11 sl12 sl13 sl14 sl15 sl16 sl17 sl18 sl19 sl20 sl21 sl22 sl23 sl24 sl25 sl26 sl27 sl28 sl29 sl30 sl31 sl32 sl33 sl34 sl35 sl36 sl37 sl38 sl39 sl40 sl41 sl42 sl43 : Array (Option Value)} {oc1 kV1 dc1 pm1 cd1 ct1 oc2 kV2 dc2 pm2 cd2 ct2 oc3 kV3 dc3 pm3 cd3 ct3 oc4 kV4 dc4 pm4 cd4 ct4 oc5 kV5 dc5 pm5 cd5 ct5 oc6 kV6 dc6 pm6 cd6 ct6 oc7 kV7 dc7 pm7 cd7 ct7 oc8 kV8 dc8 pm8 cd8 ct8 oc9 kV9 dc9 pm9 cd9 ct9 oc10 kV10 dc10 pm10 cd10 ct10 oc11 kV11 dc11 pm11 cd11 ct11 oc12 kV12 dc12 pm12 cd12 ct12 oc13 kV13 dc13 pm13 cd13 ct13 oc14 kV14 dc14 pm14 cd14 ct14 oc15 kV15 dc15 pm15 cd15 ct15 oc16 kV16 dc16 pm16 cd16 ct16 oc17 kV17 dc17 pm17 cd17 ct17 oc18 kV18 dc18 pm18 cd18 ct18 oc19 kV19 dc19 pm19 cd19 ct19 oc20 kV20 dc20 pm20 cd20 ct20 oc21 kV21 dc21 pm21 cd21 ct21 oc22 kV22 dc22 pm22 cd22 ct22 oc23 kV23 dc23 pm23 cd23 ct23 oc24 kV24 dc24 pm24 cd24 ct24 oc25 kV25 dc25 pm25 cd25 ct25 oc26 kV26 dc26 pm26 cd26 ct26 oc27 kV27 dc27 pm27 cd27 ct27 oc28 kV28 dc28 pm28 cd28 ct28 oc29 kV29 dc29 pm29 cd29 ct29 oc30 kV30 dc30 pm30 cd30 ct30 oc31 kV31 dc31 pm31 cd31 ct31 oc32 kV32 dc32 pm32 cd32 ct32 oc33 kV33 dc33 pm33 cd33 ct33 oc34 kV34 dc34 pm34 cd34 ct34 oc35 kV35 dc35 pm35 cd35 ct35 oc36 kV36 dc36 pm36 cd36 ct36 oc37 kV37 dc37 pm37 cd37 ct37 oc38 kV38 dc38 pm38 cd38 ct38 oc39 kV39 dc39 pm39 cd39 ct39 oc40 kV40 dc40 pm40 cd40 ct40 oc41 kV41 dc41 pm41 cd41 ct41 oc42 kV42 dc42 pm42 cd42 ct42 oc43 kV43 dc43 pm43 cd43 ct43 : Value}
    (a1 : PySem.W.nsIn K mainGlobals "is_whole" = some (some (.ref f1))) (l1 : K.lookup f1 = some ⟨oc1, od1, .func (PySem.W.fnOf "is_whole" "is_whole" (defArgs s_is_whole) (defBody s_is_whole) (defScope s_is_whole) .none kV1 dc1 pm1 an1 cd1 ct1), sl1⟩) (c1 : PySem.W.codeIn K cd1 "is_whole" = true) (k1 : PySem.W.keepIn K (.ref f1) = true)
    (a2 : PySem.W.nsIn K mainGlobals "is_row" = some (some (.ref f2))) (l2 : K.lookup f2 = some ⟨oc2, od2, .func (PySem.W.fnOf "is_row" "is_row" (defArgs s_is_row) (defBody s_is_row) (defScope s_is_row) .none kV2 dc2 pm2 an2 cd2 ct2), sl2⟩) (c2 : PySem.W.codeIn K cd2 "is_row" = true) (k2 : PySem.W.keepIn K (.ref f2) = true)
    (a3 : PySem.W.nsIn K mainGlobals "is_triple" = some (some (.ref f3))) (l3 : K.lookup f3 = some ⟨oc3, od3, .func (PySem.W.fnOf "is_triple" "is_triple" (defArgs s_is_triple) (defBody s_is_triple) (defScope s_is_triple) .none kV3 dc3 pm3 an3 cd3 ct3), sl3⟩) (c3 : PySem.W.codeIn K cd3 "is_triple" = true) (k3 : PySem.W.keepIn K (.ref f3) = true)
    (a4 : PySem.W.nsIn K mainGlobals "is_number_of" = some (some (.ref f4))) (l4 : K.lookup f4 = some ⟨oc4, od4, .func (PySem.W.fnOf "is_number_of" "is_number_of" (defArgs s_is_number_of) (defBody s_is_number_of) (defScope s_is_number_of) .none kV4 dc4 pm4 an4 cd4 ct4), sl4⟩) (c4 : PySem.W.codeIn K cd4 "is_number_of" = true) (k4 : PySem.W.keepIn K (.ref f4) = true)
    (a5 : PySem.W.nsIn K mainGlobals "are_unlike_points" = some (some (.ref f5))) (l5 : K.lookup f5 = some ⟨oc5, od5, .func (PySem.W.fnOf "are_unlike_points" "are_unlike_points" (defArgs s_are_unlike_points) (defBody s_are_unlike_points) (defScope s_are_unlike_points) .none kV5 dc5 pm5 an5 cd5 ct5), sl5⟩) (c5 : PySem.W.codeIn K cd5 "are_unlike_points" = true) (k5 : PySem.W.keepIn K (.ref f5) = true)
    (a6 : PySem.W.nsIn K mainGlobals "is_rising_choice" = some (some (.ref f6))) (l6 : K.lookup f6 = some ⟨oc6, od6, .func (PySem.W.fnOf "is_rising_choice" "is_rising_choice" (defArgs s_is_rising_choice) (defBody s_is_rising_choice) (defScope s_is_rising_choice) .none kV6 dc6 pm6 an6 cd6 ct6), sl6⟩) (c6 : PySem.W.codeIn K cd6 "is_rising_choice" = true) (k6 : PySem.W.keepIn K (.ref f6) = true)
    (a7 : PySem.W.nsIn K mainGlobals "less" = some (some (.ref f7))) (l7 : K.lookup f7 = some ⟨oc7, od7, .func (PySem.W.fnOf "less" "less" (defArgs s_less) (defBody s_less) (defScope s_less) .none kV7 dc7 pm7 an7 cd7 ct7), sl7⟩) (c7 : PySem.W.codeIn K cd7 "less" = true) (k7 : PySem.W.keepIn K (.ref f7) = true)
    (a8 : PySem.W.nsIn K mainGlobals "has_even_ends" = some (some (.ref f8))) (l8 : K.lookup f8 = some ⟨oc8, od8, .func (PySem.W.fnOf "has_even_ends" "has_even_ends" (defArgs s_has_even_ends) (defBody s_has_even_ends) (defScope s_has_even_ends) .none kV8 dc8 pm8 an8 cd8 ct8), sl8⟩) (c8 : PySem.W.codeIn K cd8 "has_even_ends" = true) (k8 : PySem.W.keepIn K (.ref f8) = true)
    (a9 : PySem.W.nsIn K mainGlobals "joins_at" = some (some (.ref f9))) (l9 : K.lookup f9 = some ⟨oc9, od9, .func (PySem.W.fnOf "joins_at" "joins_at" (defArgs s_joins_at) (defBody s_joins_at) (defScope s_joins_at) .none kV9 dc9 pm9 an9 cd9 ct9), sl9⟩) (c9 : PySem.W.codeIn K cd9 "joins_at" = true) (k9 : PySem.W.keepIn K (.ref f9) = true)
    (a10 : PySem.W.nsIn K mainGlobals "group_from" = some (some (.ref f10))) (l10 : K.lookup f10 = some ⟨oc10, od10, .func (PySem.W.fnOf "group_from" "group_from" (defArgs s_group_from) (defBody s_group_from) (defScope s_group_from) .none kV10 dc10 pm10 an10 cd10 ct10), sl10⟩) (c10 : PySem.W.codeIn K cd10 "group_from" = true) (k10 : PySem.W.keepIn K (.ref f10) = true)
    (a11 : PySem.W.nsIn K mainGlobals "spread" = some (some (.ref f11))) (l11 : K.lookup f11 = some ⟨oc11, od11, .func (PySem.W.fnOf "spread" "spread" (defArgs s_spread) (defBody s_spread) (defScope s_spread) .none kV11 dc11 pm11 an11 cd11 ct11), sl11⟩) (c11 : PySem.W.codeIn K cd11 "spread" = true) (k11 : PySem.W.keepIn K (.ref f11) = true)
    (a12 : PySem.W.nsIn K mainGlobals "ring_closed" = some (some (.ref f12))) (l12 : K.lookup f12 = some ⟨oc12, od12, .func (PySem.W.fnOf "ring_closed" "ring_closed" (defArgs s_ring_closed) (defBody s_ring_closed) (defScope s_ring_closed) .none kV12 dc12 pm12 an12 cd12 ct12), sl12⟩) (c12 : PySem.W.codeIn K cd12 "ring_closed" = true) (k12 : PySem.W.keepIn K (.ref f12) = true)
    (a13 : PySem.W.nsIn K mainGlobals "odd_rings" = some (some (.ref f13))) (l13 : K.lookup f13 = some ⟨oc13, od13, .func (PySem.W.fnOf "odd_rings" "odd_rings" (defArgs s_odd_rings) (defBody s_odd_rings) (defScope s_odd_rings) .none kV13 dc13 pm13 an13 cd13 ct13), sl13⟩) (c13 : PySem.W.codeIn K cd13 "odd_rings" = true) (k13 : PySem.W.keepIn K (.ref f13) = true)
    (a14 : PySem.W.nsIn K mainGlobals "parted" = some (some (.ref f14))) (l14 : K.lookup f14 = some ⟨oc14, od14, .func (PySem.W.fnOf "parted" "parted" (defArgs s_parted) (defBody s_parted) (defScope s_parted) .none kV14 dc14 pm14 an14 cd14 ct14), sl14⟩) (c14 : PySem.W.codeIn K cd14 "parted" = true) (k14 : PySem.W.keepIn K (.ref f14) = true)
    (a15 : PySem.W.nsIn K mainGlobals "size_of" = some (some (.ref f15))) (l15 : K.lookup f15 = some ⟨oc15, od15, .func (PySem.W.fnOf "size_of" "size_of" (defArgs s_size_of) (defBody s_size_of) (defScope s_size_of) .none kV15 dc15 pm15 an15 cd15 ct15), sl15⟩) (c15 : PySem.W.codeIn K cd15 "size_of" = true) (k15 : PySem.W.keepIn K (.ref f15) = true)
    (a16 : PySem.W.nsIn K mainGlobals "is_gainful" = some (some (.ref f16))) (l16 : K.lookup f16 = some ⟨oc16, od16, .func (PySem.W.fnOf "is_gainful" "is_gainful" (defArgs s_is_gainful) (defBody s_is_gainful) (defScope s_is_gainful) .none kV16 dc16 pm16 an16 cd16 ct16), sl16⟩) (c16 : PySem.W.codeIn K cd16 "is_gainful" = true) (k16 : PySem.W.keepIn K (.ref f16) = true)
    (a17 : PySem.W.nsIn K mainGlobals "is_wish" = some (some (.ref f17))) (l17 : K.lookup f17 = some ⟨oc17, od17, .func (PySem.W.fnOf "is_wish" "is_wish" (defArgs s_is_wish) (defBody s_is_wish) (defScope s_is_wish) .none kV17 dc17 pm17 an17 cd17 ct17), sl17⟩) (c17 : PySem.W.codeIn K cd17 "is_wish" = true) (k17 : PySem.W.keepIn K (.ref f17) = true)
    (a18 : PySem.W.nsIn K mainGlobals "made_wishes" = some (some (.ref f18))) (l18 : K.lookup f18 = some ⟨oc18, od18, .func (PySem.W.fnOf "made_wishes" "made_wishes" (defArgs s_made_wishes) (defBody s_made_wishes) (defScope s_made_wishes) .none kV18 dc18 pm18 an18 cd18 ct18), sl18⟩) (c18 : PySem.W.codeIn K cd18 "made_wishes" = true) (k18 : PySem.W.keepIn K (.ref f18) = true)
    (a19 : PySem.W.nsIn K mainGlobals "grouped" = some (some (.ref f19))) (l19 : K.lookup f19 = some ⟨oc19, od19, .func (PySem.W.fnOf "grouped" "grouped" (defArgs s_grouped) (defBody s_grouped) (defScope s_grouped) .none kV19 dc19 pm19 an19 cd19 ct19), sl19⟩) (c19 : PySem.W.codeIn K cd19 "grouped" = true) (k19 : PySem.W.keepIn K (.ref f19) = true)
    (a20 : PySem.W.nsIn K mainGlobals "is_lost_together" = some (some (.ref f20))) (l20 : K.lookup f20 = some ⟨oc20, od20, .func (PySem.W.fnOf "is_lost_together" "is_lost_together" (defArgs s_is_lost_together) (defBody s_is_lost_together) (defScope s_is_lost_together) .none kV20 dc20 pm20 an20 cd20 ct20), sl20⟩) (c20 : PySem.W.codeIn K cd20 "is_lost_together" = true) (k20 : PySem.W.keepIn K (.ref f20) = true)
    (a21 : PySem.W.nsIn K mainGlobals "is_odd_round" = some (some (.ref f21))) (l21 : K.lookup f21 = some ⟨oc21, od21, .func (PySem.W.fnOf "is_odd_round" "is_odd_round" (defArgs s_is_odd_round) (defBody s_is_odd_round) (defScope s_is_odd_round) .none kV21 dc21 pm21 an21 cd21 ct21), sl21⟩) (c21 : PySem.W.codeIn K cd21 "is_odd_round" = true) (k21 : PySem.W.keepIn K (.ref f21) = true)
    (a22 : PySem.W.nsIn K mainGlobals "least_size" = some (some (.ref f22))) (l22 : K.lookup f22 = some ⟨oc22, od22, .func (PySem.W.fnOf "least_size" "least_size" (defArgs s_least_size) (defBody s_least_size) (defScope s_least_size) .none kV22 dc22 pm22 an22 cd22 ct22), sl22⟩) (c22 : PySem.W.codeIn K cd22 "least_size" = true) (k22 : PySem.W.keepIn K (.ref f22) = true)
    (a23 : PySem.W.nsIn K mainGlobals "lightest" = some (some (.ref f23))) (l23 : K.lookup f23 = some ⟨oc23, od23, .func (PySem.W.fnOf "lightest" "lightest" (defArgs s_lightest) (defBody s_lightest) (defScope s_lightest) .none kV23 dc23 pm23 an23 cd23 ct23), sl23⟩) (c23 : PySem.W.codeIn K cd23 "lightest" = true) (k23 : PySem.W.keepIn K (.ref f23) = true)
    (a24 : PySem.W.nsIn K mainGlobals "_law_stirred" = some (some (.ref f24))) (l24 : K.lookup f24 = some ⟨oc24, od24, .func (PySem.W.fnOf "_law_stirred" "_law_stirred" (defArgs s__law_stirred) (defBody s__law_stirred) (defScope s__law_stirred) .none kV24 dc24 pm24 an24 cd24 ct24), sl24⟩) (c24 : PySem.W.codeIn K cd24 "_law_stirred" = true) (k24 : PySem.W.keepIn K (.ref f24) = true)
    (a25 : PySem.W.nsIn K mainGlobals "_law_deck" = some (some (.ref f25))) (l25 : K.lookup f25 = some ⟨oc25, od25, .func (PySem.W.fnOf "_law_deck" "_law_deck" (defArgs s__law_deck) (defBody s__law_deck) (defScope s__law_deck) .none kV25 dc25 pm25 an25 cd25 ct25), sl25⟩) (c25 : PySem.W.codeIn K cd25 "_law_deck" = true) (k25 : PySem.W.keepIn K (.ref f25) = true)
    (a26 : PySem.W.nsIn K mainGlobals "_law_next" = some (some (.ref f26))) (l26 : K.lookup f26 = some ⟨oc26, od26, .func (PySem.W.fnOf "_law_next" "_law_next" (defArgs s__law_next) (defBody s__law_next) (defScope s__law_next) .none kV26 dc26 pm26 an26 cd26 ct26), sl26⟩) (c26 : PySem.W.codeIn K cd26 "_law_next" = true) (k26 : PySem.W.keepIn K (.ref f26) = true)
    (a27 : PySem.W.nsIn K mainGlobals "_law_fraction" = some (some (.ref f27))) (l27 : K.lookup f27 = some ⟨oc27, od27, .func (PySem.W.fnOf "_law_fraction" "_law_fraction" (defArgs s__law_fraction) (defBody s__law_fraction) (defScope s__law_fraction) .none kV27 dc27 pm27 an27 cd27 ct27), sl27⟩) (c27 : PySem.W.codeIn K cd27 "_law_fraction" = true) (k27 : PySem.W.keepIn K (.ref f27) = true)
    (a28 : PySem.W.nsIn K mainGlobals "_law_below" = some (some (.ref f28))) (l28 : K.lookup f28 = some ⟨oc28, od28, .func (PySem.W.fnOf "_law_below" "_law_below" (defArgs s__law_below) (defBody s__law_below) (defScope s__law_below) .none kV28 dc28 pm28 an28 cd28 ct28), sl28⟩) (c28 : PySem.W.codeIn K cd28 "_law_below" = true) (k28 : PySem.W.keepIn K (.ref f28) = true)
    (a29 : PySem.W.nsIn K mainGlobals "_law_weight" = some (some (.ref f29))) (l29 : K.lookup f29 = some ⟨oc29, od29, .func (PySem.W.fnOf "_law_weight" "_law_weight" (defArgs s__law_weight) (defBody s__law_weight) (defScope s__law_weight) .none kV29 dc29 pm29 an29 cd29 ct29), sl29⟩) (c29 : PySem.W.codeIn K cd29 "_law_weight" = true) (k29 : PySem.W.keepIn K (.ref f29) = true)
    (a30 : PySem.W.nsIn K mainGlobals "_law_web" = some (some (.ref f30))) (l30 : K.lookup f30 = some ⟨oc30, od30, .func (PySem.W.fnOf "_law_web" "_law_web" (defArgs s__law_web) (defBody s__law_web) (defScope s__law_web) .none kV30 dc30 pm30 an30 cd30 ct30), sl30⟩) (c30 : PySem.W.codeIn K cd30 "_law_web" = true) (k30 : PySem.W.keepIn K (.ref f30) = true)
    (a31 : PySem.W.nsIn K mainGlobals "_law_wishes" = some (some (.ref f31))) (l31 : K.lookup f31 = some ⟨oc31, od31, .func (PySem.W.fnOf "_law_wishes" "_law_wishes" (defArgs s__law_wishes) (defBody s__law_wishes) (defScope s__law_wishes) .none kV31 dc31 pm31 an31 cd31 ct31), sl31⟩) (c31 : PySem.W.codeIn K cd31 "_law_wishes" = true) (k31 : PySem.W.keepIn K (.ref f31) = true)
    (a32 : PySem.W.nsIn K mainGlobals "_law_groups" = some (some (.ref f32))) (l32 : K.lookup f32 = some ⟨oc32, od32, .func (PySem.W.fnOf "_law_groups" "_law_groups" (defArgs s__law_groups) (defBody s__law_groups) (defScope s__law_groups) .none kV32 dc32 pm32 an32 cd32 ct32), sl32⟩) (c32 : PySem.W.codeIn K cd32 "_law_groups" = true) (k32 : PySem.W.keepIn K (.ref f32) = true)
    (a33 : PySem.W.nsIn K mainGlobals "_law_is_int" = some (some (.ref f33))) (l33 : K.lookup f33 = some ⟨oc33, od33, .func (PySem.W.fnOf "_law_is_int" "_law_is_int" (defArgs s__law_is_int) (defBody s__law_is_int) (defScope s__law_is_int) .none kV33 dc33 pm33 an33 cd33 ct33), sl33⟩) (c33 : PySem.W.codeIn K cd33 "_law_is_int" = true) (k33 : PySem.W.keepIn K (.ref f33) = true)
    (a34 : PySem.W.nsIn K mainGlobals "_law_are_numbers" = some (some (.ref f34))) (l34 : K.lookup f34 = some ⟨oc34, od34, .func (PySem.W.fnOf "_law_are_numbers" "_law_are_numbers" (defArgs s__law_are_numbers) (defBody s__law_are_numbers) (defScope s__law_are_numbers) .none kV34 dc34 pm34 an34 cd34 ct34), sl34⟩) (c34 : PySem.W.codeIn K cd34 "_law_are_numbers" = true) (k34 : PySem.W.keepIn K (.ref f34) = true)
    (a35 : PySem.W.nsIn K mainGlobals "_law_is_odd_ring" = some (some (.ref f35))) (l35 : K.lookup f35 = some ⟨oc35, od35, .func (PySem.W.fnOf "_law_is_odd_ring" "_law_is_odd_ring" (defArgs s__law_is_odd_ring) (defBody s__law_is_odd_ring) (defScope s__law_is_odd_ring) .none kV35 dc35 pm35 an35 cd35 ct35), sl35⟩) (c35 : PySem.W.codeIn K cd35 "_law_is_odd_ring" = true) (k35 : PySem.W.keepIn K (.ref f35) = true)
    (a36 : PySem.W.nsIn K mainGlobals "_law_all_rings" = some (some (.ref f36))) (l36 : K.lookup f36 = some ⟨oc36, od36, .func (PySem.W.fnOf "_law_all_rings" "_law_all_rings" (defArgs s__law_all_rings) (defBody s__law_all_rings) (defScope s__law_all_rings) .none kV36 dc36 pm36 an36 cd36 ct36), sl36⟩) (c36 : PySem.W.codeIn K cd36 "_law_all_rings" = true) (k36 : PySem.W.keepIn K (.ref f36) = true)
    (a37 : PySem.W.nsIn K mainGlobals "_law_one_class" = some (some (.ref f37))) (l37 : K.lookup f37 = some ⟨oc37, od37, .func (PySem.W.fnOf "_law_one_class" "_law_one_class" (defArgs s__law_one_class) (defBody s__law_one_class) (defScope s__law_one_class) .none kV37 dc37 pm37 an37 cd37 ct37), sl37⟩) (c37 : PySem.W.codeIn K cd37 "_law_one_class" = true) (k37 : PySem.W.keepIn K (.ref f37) = true)
    (a38 : PySem.W.nsIn K mainGlobals "_law_refused" = some (some (.ref f38))) (l38 : K.lookup f38 = some ⟨oc38, od38, .func (PySem.W.fnOf "_law_refused" "_law_refused" (defArgs s__law_refused) (defBody s__law_refused) (defScope s__law_refused) .none kV38 dc38 pm38 an38 cd38 ct38), sl38⟩) (c38 : PySem.W.codeIn K cd38 "_law_refused" = true) (k38 : PySem.W.keepIn K (.ref f38) = true)
    (a39 : PySem.W.nsIn K mainGlobals "_law_paper" = some (some (.ref f39))) (l39 : K.lookup f39 = some ⟨oc39, od39, .func (PySem.W.fnOf "_law_paper" "_law_paper" (defArgs s__law_paper) (defBody s__law_paper) (defScope s__law_paper) .none kV39 dc39 pm39 an39 cd39 ct39), sl39⟩) (c39 : PySem.W.codeIn K cd39 "_law_paper" = true) (k39 : PySem.W.keepIn K (.ref f39) = true)
    (a40 : PySem.W.nsIn K mainGlobals "_law_thing" = some (some (.ref f40))) (l40 : K.lookup f40 = some ⟨oc40, od40, .func (PySem.W.fnOf "_law_thing" "_law_thing" (defArgs s__law_thing) (defBody s__law_thing) (defScope s__law_thing) .none kV40 dc40 pm40 an40 cd40 ct40), sl40⟩) (c40 : PySem.W.codeIn K cd40 "_law_thing" = true) (k40 : PySem.W.keepIn K (.ref f40) = true)
    (a41 : PySem.W.nsIn K mainGlobals "_law_is_due" = some (some (.ref f41))) (l41 : K.lookup f41 = some ⟨oc41, od41, .func (PySem.W.fnOf "_law_is_due" "_law_is_due" (defArgs s__law_is_due) (defBody s__law_is_due) (defScope s__law_is_due) .none kV41 dc41 pm41 an41 cd41 ct41), sl41⟩) (c41 : PySem.W.codeIn K cd41 "_law_is_due" = true) (k41 : PySem.W.keepIn K (.ref f41) = true)
    (a42 : PySem.W.nsIn K mainGlobals "_law_tells" = some (some (.ref f42))) (l42 : K.lookup f42 = some ⟨oc42, od42, .func (PySem.W.fnOf "_law_tells" "_law_tells" (defArgs s__law_tells) (defBody s__law_tells) (defScope s__law_tells) .none kV42 dc42 pm42 an42 cd42 ct42), sl42⟩) (c42 : PySem.W.codeIn K cd42 "_law_tells" = true) (k42 : PySem.W.keepIn K (.ref f42) = true)
    (a43 : PySem.W.nsIn K mainGlobals "law" = some (some (.ref f43))) (l43 : K.lookup f43 = some ⟨oc43, od43, .func (PySem.W.fnOf "law" "law" (defArgs s_law) (defBody s_law) (defScope s_law) .none kV43 dc43 pm43 an43 cd43 ct43), sl43⟩) (c43 : PySem.W.codeIn K cd43 "law" = true) (k43 : PySem.W.keepIn K (.ref f43) = true)
    (g_CutError : PySem.W.nsIn K mainGlobals "CutError" = some (some (.ref C_CutError)))
    (g_NoWeb : PySem.W.nsIn K mainGlobals "NoWeb" = some (some (.ref C_NoWeb)))
    (g_NoSide : PySem.W.nsIn K mainGlobals "NoSide" = some (some (.ref C_NoSide)))
    (g_NoText : PySem.W.nsIn K mainGlobals "NoText" = some (some (.ref C_NoText)))
    (g_NoWishes : PySem.W.nsIn K mainGlobals "NoWishes" = some (some (.ref C_NoWishes)))
    (g_NoTurns : PySem.W.nsIn K mainGlobals "NoTurns" = some (some (.ref C_NoTurns)))
    (g_NotFlat : PySem.W.nsIn K mainGlobals "NotFlat" = some (some (.ref C_NotFlat)))
    (g_NoRing : PySem.W.nsIn K mainGlobals "NoRing" = some (some (.ref C_NoRing)))
    (g_NoPaper : PySem.W.nsIn K mainGlobals "NoPaper" = some (some (.ref C_NoPaper)))
    (g_NoShare : PySem.W.nsIn K mainGlobals "NoShare" = some (some (.ref C_NoShare)))
    (g_NoTie : PySem.W.nsIn K mainGlobals "NoTie" = some (some (.ref C_NoTie)))
    (g_NoWeight : PySem.W.nsIn K mainGlobals "NoWeight" = some (some (.ref C_NoWeight)))
    (g_NoDeed : PySem.W.nsIn K mainGlobals "NoDeed" = some (some (.ref C_NoDeed)))
    (g_TooGreat : PySem.W.nsIn K mainGlobals "TooGreat" = some (some (.ref C_TooGreat)))
    (iq_CutError : PySem.W.isClsIn K C_CutError = true)
    (yq_CutError : PySem.W.typeIn K (.ref C_CutError) = some (.type "type"))
    (iq_NoWeb : PySem.W.isClsIn K C_NoWeb = true)
    (yq_NoWeb : PySem.W.typeIn K (.ref C_NoWeb) = some (.type "type"))
    (iq_NoSide : PySem.W.isClsIn K C_NoSide = true)
    (yq_NoSide : PySem.W.typeIn K (.ref C_NoSide) = some (.type "type"))
    (iq_NoText : PySem.W.isClsIn K C_NoText = true)
    (yq_NoText : PySem.W.typeIn K (.ref C_NoText) = some (.type "type"))
    (iq_NoWishes : PySem.W.isClsIn K C_NoWishes = true)
    (yq_NoWishes : PySem.W.typeIn K (.ref C_NoWishes) = some (.type "type"))
    (iq_NoTurns : PySem.W.isClsIn K C_NoTurns = true)
    (yq_NoTurns : PySem.W.typeIn K (.ref C_NoTurns) = some (.type "type"))
    (iq_NotFlat : PySem.W.isClsIn K C_NotFlat = true)
    (yq_NotFlat : PySem.W.typeIn K (.ref C_NotFlat) = some (.type "type"))
    (iq_NoRing : PySem.W.isClsIn K C_NoRing = true)
    (yq_NoRing : PySem.W.typeIn K (.ref C_NoRing) = some (.type "type"))
    (iq_NoPaper : PySem.W.isClsIn K C_NoPaper = true)
    (yq_NoPaper : PySem.W.typeIn K (.ref C_NoPaper) = some (.type "type"))
    (iq_NoShare : PySem.W.isClsIn K C_NoShare = true)
    (yq_NoShare : PySem.W.typeIn K (.ref C_NoShare) = some (.type "type"))
    (iq_NoTie : PySem.W.isClsIn K C_NoTie = true)
    (yq_NoTie : PySem.W.typeIn K (.ref C_NoTie) = some (.type "type"))
    (iq_NoWeight : PySem.W.isClsIn K C_NoWeight = true)
    (yq_NoWeight : PySem.W.typeIn K (.ref C_NoWeight) = some (.type "type"))
    (iq_NoDeed : PySem.W.isClsIn K C_NoDeed = true)
    (yq_NoDeed : PySem.W.typeIn K (.ref C_NoDeed) = some (.type "type"))
    (iq_TooGreat : PySem.W.isClsIn K C_TooGreat = true)
    (yq_TooGreat : PySem.W.typeIn K (.ref C_TooGreat) = some (.type "type"))
    (bq_CutError : PySem.W.subIn K (.ref C_CutError) (.type "BaseException") = some true)
    (x_NoRing : PySem.W.excIn K C_NoRing [.type "ValueError", .type "Exception", .type "BaseException", .type "object"] "ValueError.__new__" = true)
    (k_NoRing : PySem.W.keepIn K (.ref C_NoRing) = true)
    (b_NoRing : PySem.W.subIn K (.ref C_NoRing) (.type "BaseException") = some true)
    (t_NoRing : PySem.W.typeIn K (.ref C_NoRing) = some (.type "type"))
    (s_NoRing : PySem.W.subIn K (.ref C_NoRing) (.ref C_NoRing) = some true)
    (e0_NoRing : PySem.W.findIn K (.ref C_NoRing) "__getattribute__" = some (some (.builtin "BaseException.__getattribute__")))
    (e1_NoRing : PySem.W.findIn K (.ref C_NoRing) "__getattr__" = some none)
    (e2_NoRing : PySem.W.subIn K (.ref C_NoRing) (.type "BaseException") = some true)
    (e3_NoRing : PySem.W.hasDictIn K C_NoRing = true)
    (e4_NoRing : PySem.W.findIn K (.ref C_NoRing) "__class__" = some (some (.builtin "object.__class__")))
    (e5_NoRing : PySem.W.specialIn K (.builtin "object.__class__") "__get__" = some (some (.builtin "getset_descriptor.__get__")))
    (e6_NoRing : PySem.W.takesIn K (.builtin "object.__class__") = some true)
    (e7_NoRing : PySem.W.mroIn K C_NoRing (.type "object") = some true)
    (n_NoRing_NoWeb : PySem.W.subIn K (.ref C_NoRing) (.ref C_NoWeb) = some false)
    (n_NoRing_NoSide : PySem.W.subIn K (.ref C_NoRing) (.ref C_NoSide) = some false)
    (n_NoRing_NoText : PySem.W.subIn K (.ref C_NoRing) (.ref C_NoText) = some false)
    (n_NoRing_NoWishes : PySem.W.subIn K (.ref C_NoRing) (.ref C_NoWishes) = some false)
    (n_NoRing_NoTurns : PySem.W.subIn K (.ref C_NoRing) (.ref C_NoTurns) = some false)
    (n_NoRing_NotFlat : PySem.W.subIn K (.ref C_NoRing) (.ref C_NotFlat) = some false)
    (n_NoRing_NoPaper : PySem.W.subIn K (.ref C_NoRing) (.ref C_NoPaper) = some false)
    (n_NoRing_NoShare : PySem.W.subIn K (.ref C_NoRing) (.ref C_NoShare) = some false)
    (n_NoRing_NoTie : PySem.W.subIn K (.ref C_NoRing) (.ref C_NoTie) = some false)
    (n_NoRing_NoWeight : PySem.W.subIn K (.ref C_NoRing) (.ref C_NoWeight) = some false)
    (n_NoRing_NoDeed : PySem.W.subIn K (.ref C_NoRing) (.ref C_NoDeed) = some false)
    (n_NoRing_TooGreat : PySem.W.subIn K (.ref C_NoRing) (.ref C_TooGreat) = some false)
    (i_NoRing_CutError : PySem.W.isClsIn K C_CutError = true)
    (y_NoRing_CutError : PySem.W.typeIn K (.ref C_CutError) = some (.type "type"))
    (u_NoRing_CutError : PySem.W.subIn K (.ref C_NoRing) (.ref C_CutError) = some true)
    (v_NoRing : PySem.W.subIn K (.ref C_NoRing) (.type "ValueError") = some true)
    (x_NoWishes : PySem.W.excIn K C_NoWishes [.type "ValueError", .type "Exception", .type "BaseException", .type "object"] "ValueError.__new__" = true)
    (k_NoWishes : PySem.W.keepIn K (.ref C_NoWishes) = true)
    (b_NoWishes : PySem.W.subIn K (.ref C_NoWishes) (.type "BaseException") = some true)
    (t_NoWishes : PySem.W.typeIn K (.ref C_NoWishes) = some (.type "type"))
    (s_NoWishes : PySem.W.subIn K (.ref C_NoWishes) (.ref C_NoWishes) = some true)
    (e0_NoWishes : PySem.W.findIn K (.ref C_NoWishes) "__getattribute__" = some (some (.builtin "BaseException.__getattribute__")))
    (e1_NoWishes : PySem.W.findIn K (.ref C_NoWishes) "__getattr__" = some none)
    (e2_NoWishes : PySem.W.subIn K (.ref C_NoWishes) (.type "BaseException") = some true)
    (e3_NoWishes : PySem.W.hasDictIn K C_NoWishes = true)
    (e4_NoWishes : PySem.W.findIn K (.ref C_NoWishes) "__class__" = some (some (.builtin "object.__class__")))
    (e5_NoWishes : PySem.W.specialIn K (.builtin "object.__class__") "__get__" = some (some (.builtin "getset_descriptor.__get__")))
    (e6_NoWishes : PySem.W.takesIn K (.builtin "object.__class__") = some true)
    (e7_NoWishes : PySem.W.mroIn K C_NoWishes (.type "object") = some true)
    (n_NoWishes_NoWeb : PySem.W.subIn K (.ref C_NoWishes) (.ref C_NoWeb) = some false)
    (n_NoWishes_NoSide : PySem.W.subIn K (.ref C_NoWishes) (.ref C_NoSide) = some false)
    (n_NoWishes_NoText : PySem.W.subIn K (.ref C_NoWishes) (.ref C_NoText) = some false)
    (n_NoWishes_NoTurns : PySem.W.subIn K (.ref C_NoWishes) (.ref C_NoTurns) = some false)
    (n_NoWishes_NotFlat : PySem.W.subIn K (.ref C_NoWishes) (.ref C_NotFlat) = some false)
    (n_NoWishes_NoRing : PySem.W.subIn K (.ref C_NoWishes) (.ref C_NoRing) = some false)
    (n_NoWishes_NoPaper : PySem.W.subIn K (.ref C_NoWishes) (.ref C_NoPaper) = some false)
    (n_NoWishes_NoShare : PySem.W.subIn K (.ref C_NoWishes) (.ref C_NoShare) = some false)
    (n_NoWishes_NoTie : PySem.W.subIn K (.ref C_NoWishes) (.ref C_NoTie) = some false)
    (n_NoWishes_NoWeight : PySem.W.subIn K (.ref C_NoWishes) (.ref C_NoWeight) = some false)
    (n_NoWishes_NoDeed : PySem.W.subIn K (.ref C_NoWishes) (.ref C_NoDeed) = some false)
    (n_NoWishes_TooGreat : PySem.W.subIn K (.ref C_NoWishes) (.ref C_TooGreat) = some false)
    (i_NoWishes_CutError : PySem.W.isClsIn K C_CutError = true)
    (y_NoWishes_CutError : PySem.W.typeIn K (.ref C_CutError) = some (.type "type"))
    (u_NoWishes_CutError : PySem.W.subIn K (.ref C_NoWishes) (.ref C_CutError) = some true)
    (v_NoWishes : PySem.W.subIn K (.ref C_NoWishes) (.type "ValueError") = some true)
    {n_MOST_WISHES : Tok} (m_MOST_WISHES : PySem.W.nsIn K mainGlobals "MOST_WISHES" = some (some (.int 120 n_MOST_WISHES)))
    (z0 : PySem.W.nsIn K mainGlobals "bool" = some none) (z1 : PySem.W.nsIn K mainGlobals "isinstance" = some none) (z2 : PySem.W.nsIn K mainGlobals "int" = some none) (z3 : PySem.W.nsIn K mainGlobals "tuple" = some none) (z4 : PySem.W.nsIn K mainGlobals "list" = some none) (z5 : PySem.W.nsIn K mainGlobals "len" = some none) (z6 : PySem.W.nsIn K mainGlobals "all" = some none) (z7 : PySem.W.nsIn K mainGlobals "zip" = some none) (z8 : PySem.W.nsIn K mainGlobals "range" = some none) (z9 : PySem.W.nsIn K mainGlobals "enumerate" = some none) (z10 : PySem.W.nsIn K mainGlobals "sorted" = some none) (z11 : PySem.W.nsIn K mainGlobals "min" = some none) (z12 : PySem.W.nsIn K mainGlobals "abs" = some none) (z13 : PySem.W.nsIn K mainGlobals "reversed" = some none) (z14 : PySem.W.nsIn K mainGlobals "ValueError" = some none) (z15 : PySem.W.nsIn K mainGlobals "set" = some none) :
    ∃ fd : FuncData, (∀ (s : Shared) (v : Value), BindsTo s fd ⟨[v], []⟩ [("_law_script", v)]) ∧ ∀ base : Heap, K.In base → base.Ns mainGlobals mg → FnOk l.prog w K mg base CX0 9 fa fd ["_law_script"] (SpD K Φ_law) := by
  have B : ∀ x, x ∈ blt → mg x = none := by
    intro x hx
    simp only [blt, List.mem_cons, List.not_mem_nil, or_false] at hx
    rcases hx with rfl | rfl | rfl | rfl | rfl | rfl | rfl | rfl | rfl | rfl | rfl | rfl | rfl | rfl | rfl | rfl
    · exact PySem.W.mg_none_of X G z0
    · exact PySem.W.mg_none_of X G z1
    · exact PySem.W.mg_none_of X G z2
    · exact PySem.W.mg_none_of X G z3
    · exact PySem.W.mg_none_of X G z4
    · exact PySem.W.mg_none_of X G z5
    · exact PySem.W.mg_none_of X G z6
    · exact PySem.W.mg_none_of X G z7
    · exact PySem.W.mg_none_of X G z8
    · exact PySem.W.mg_none_of X G z9
    · exact PySem.W.mg_none_of X G z10
    · exact PySem.W.mg_none_of X G z11
    · exact PySem.W.mg_none_of X G z12
    · exact PySem.W.mg_none_of X G z13
    · exact PySem.W.mg_none_of X G z14
    · exact PySem.W.mg_none_of X G z15
  have cs : Csts mg := ⟨⟨_, PySem.W.mg_of X G m_MOST_WISHES⟩⟩
  have cl : Cls K mg C_CutError C_NoWeb C_NoSide C_NoText C_NoWishes C_NoTurns C_NotFlat C_NoRing C_NoPaper C_NoShare C_NoTie C_NoWeight C_NoDeed C_TooGreat := ⟨PySem.W.mg_of X G g_CutError, PySem.W.mg_of X G g_NoWeb, PySem.W.mg_of X G g_NoSide, PySem.W.mg_of X G g_NoText, PySem.W.mg_of X G g_NoWishes, PySem.W.mg_of X G g_NoTurns, PySem.W.mg_of X G g_NotFlat, PySem.W.mg_of X G g_NoRing, PySem.W.mg_of X G g_NoPaper, PySem.W.mg_of X G g_NoShare, PySem.W.mg_of X G g_NoTie, PySem.W.mg_of X G g_NoWeight, PySem.W.mg_of X G g_NoDeed, PySem.W.mg_of X G g_TooGreat, ⟨PySem.W.mg_of X G g_NoRing, x_NoRing, k_NoRing, b_NoRing, t_NoRing, s_NoRing, ⟨e0_NoRing, e1_NoRing, e2_NoRing, e3_NoRing, e4_NoRing, e5_NoRing, e6_NoRing, e7_NoRing⟩⟩, kit_up i_NoRing_CutError y_NoRing_CutError u_NoRing_CutError, kit_no iq_NoWeb yq_NoWeb n_NoRing_NoWeb s_NoRing, kit_no iq_NoSide yq_NoSide n_NoRing_NoSide s_NoRing, kit_no iq_NoText yq_NoText n_NoRing_NoText s_NoRing, kit_no iq_NoWishes yq_NoWishes n_NoRing_NoWishes s_NoRing, kit_no iq_NoTurns yq_NoTurns n_NoRing_NoTurns s_NoRing, kit_no iq_NotFlat yq_NotFlat n_NoRing_NotFlat s_NoRing, kit_no iq_NoPaper yq_NoPaper n_NoRing_NoPaper s_NoRing, kit_no iq_NoShare yq_NoShare n_NoRing_NoShare s_NoRing, kit_no iq_NoTie yq_NoTie n_NoRing_NoTie s_NoRing, kit_no iq_NoWeight yq_NoWeight n_NoRing_NoWeight s_NoRing, kit_no iq_NoDeed yq_NoDeed n_NoRing_NoDeed s_NoRing, kit_no iq_TooGreat yq_TooGreat n_NoRing_TooGreat s_NoRing, exm_up bq_CutError iq_CutError yq_CutError u_NoRing_CutError, kit_upT (by decide +kernel) v_NoRing, ⟨PySem.W.mg_of X G g_NoWishes, x_NoWishes, k_NoWishes, b_NoWishes, t_NoWishes, s_NoWishes, ⟨e0_NoWishes, e1_NoWishes, e2_NoWishes, e3_NoWishes, e4_NoWishes, e5_NoWishes, e6_NoWishes, e7_NoWishes⟩⟩, kit_up i_NoWishes_CutError y_NoWishes_CutError u_NoWishes_CutError, kit_no iq_NoWeb yq_NoWeb n_NoWishes_NoWeb s_NoWishes, kit_no iq_NoSide yq_NoSide n_NoWishes_NoSide s_NoWishes, kit_no iq_NoText yq_NoText n_NoWishes_NoText s_NoWishes, kit_no iq_NoTurns yq_NoTurns n_NoWishes_NoTurns s_NoWishes, kit_no iq_NotFlat yq_NotFlat n_NoWishes_NotFlat s_NoWishes, kit_no iq_NoRing yq_NoRing n_NoWishes_NoRing s_NoWishes, kit_no iq_NoPaper yq_NoPaper n_NoWishes_NoPaper s_NoWishes, kit_no iq_NoShare yq_NoShare n_NoWishes_NoShare s_NoWishes, kit_no iq_NoTie yq_NoTie n_NoWishes_NoTie s_NoWishes, kit_no iq_NoWeight yq_NoWeight n_NoWishes_NoWeight s_NoWishes, kit_no iq_NoDeed yq_NoDeed n_NoWishes_NoDeed s_NoWishes, kit_no iq_TooGreat yq_TooGreat n_NoWishes_TooGreat s_NoWishes, exm_up bq_CutError iq_CutError yq_CutError u_NoWishes_CutError, kit_upT (by decide +kernel) v_NoWishes⟩
  have e := hfa.symm.trans (PySem.W.mg_of X G a43)
  cases e
  have F1 := fun_mk (st := s_is_whole) l1 c1 k1
  have F2 := fun_mk (st := s_is_row) l2 c2 k2
  have F3 := fun_mk (st := s_is_triple) l3 c3 k3
  have F4 := fun_mk (st := s_is_number_of) l4 c4 k4
  have F5 := fun_mk (st := s_are_unlike_points) l5 c5 k5
  have F6 := fun_mk (st := s_is_rising_choice) l6 c6 k6
  have F7 := fun_mk (st := s_less) l7 c7 k7
  have F8 := fun_mk (st := s_has_even_ends) l8 c8 k8
  have F9 := fun_mk (st := s_joins_at) l9 c9 k9
  have F10 := fun_mk (st := s_group_from) l10 c10 k10
  have F11 := fun_mk (st := s_spread) l11 c11 k11
  have F12 := fun_mk (st := s_ring_closed) l12 c12 k12
  have F13 := fun_mk (st := s_odd_rings) l13 c13 k13
  have F14 := fun_mk (st := s_parted) l14 c14 k14
  have F15 := fun_mk (st := s_size_of) l15 c15 k15
  have F16 := fun_mk (st := s_is_gainful) l16 c16 k16
  have F17 := fun_mk (st := s_is_wish) l17 c17 k17
  have F18 := fun_mk (st := s_made_wishes) l18 c18 k18
  have F19 := fun_mk (st := s_grouped) l19 c19 k19
  have F20 := fun_mk (st := s_is_lost_together) l20 c20 k20
  have F21 := fun_mk (st := s_is_odd_round) l21 c21 k21
  have F22 := fun_mk (st := s_least_size) l22 c22 k22
  have F23 := fun_mk (st := s_lightest) l23 c23 k23
  have F24 := fun_mk (st := s__law_stirred) l24 c24 k24
  have F25 := fun_mk (st := s__law_deck) l25 c25 k25
  have F26 := fun_mk (st := s__law_next) l26 c26 k26
  have F27 := fun_mk (st := s__law_fraction) l27 c27 k27
  have F28 := fun_mk (st := s__law_below) l28 c28 k28
  have F29 := fun_mk (st := s__law_weight) l29 c29 k29
  have F30 := fun_mk (st := s__law_web) l30 c30 k30
  have F31 := fun_mk (st := s__law_wishes) l31 c31 k31
  have F32 := fun_mk (st := s__law_groups) l32 c32 k32
  have F33 := fun_mk (st := s__law_is_int) l33 c33 k33
  have F34 := fun_mk (st := s__law_are_numbers) l34 c34 k34
  have F35 := fun_mk (st := s__law_is_odd_ring) l35 c35 k35
  have F36 := fun_mk (st := s__law_all_rings) l36 c36 k36
  have F37 := fun_mk (st := s__law_one_class) l37 c37 k37
  have F38 := fun_mk (st := s__law_refused) l38 c38 k38
  have F39 := fun_mk (st := s__law_paper) l39 c39 k39
  have F40 := fun_mk (st := s__law_thing) l40 c40 k40
  have F41 := fun_mk (st := s__law_is_due) l41 c41 k41
  have F42 := fun_mk (st := s__law_tells) l42 c42 k42
  have F43 := fun_mk (st := s_law) l43 c43 k43
  have g_is_whole : ∀ base : Heap, Kn l.prog w K mg base "is_whole" 1 ["thing"] Φ_is_whole := fun base => ok_is_whole F1 (PySem.W.mg_of X G a1) B cs
  have g_is_row : ∀ base : Heap, Kn l.prog w K mg base "is_row" 1 ["thing"] Φ_is_row := fun base => ok_is_row F2 (PySem.W.mg_of X G a2) B cs
  have g_less : ∀ base : Heap, Kn l.prog w K mg base "less" 1 ["one", "other"] Φ_less := fun base => ok_less F7 (PySem.W.mg_of X G a7) B cs
  have g_has_even_ends : ∀ base : Heap, Kn l.prog w K mg base "has_even_ends" 1 ["many", "pairs"] Φ_has_even_ends := fun base => ok_has_even_ends F8 (PySem.W.mg_of X G a8) B cs
  have g_joins_at : ∀ base : Heap, Kn l.prog w K mg base "joins_at" 1 ["many", "joins"] Φ_joins_at := fun base => ok_joins_at F9 (PySem.W.mg_of X G a9) B cs
  have g_group_from : ∀ base : Heap, Kn l.prog w K mg base "group_from" 1 ["near", "first"] Φ_group_from := fun base => ok_group_from F10 (PySem.W.mg_of X G a10) B cs
  have g_ring_closed : ∀ base : Heap, Kn l.prog w K mg base "ring_closed" 1 ["way", "other_way", "number"] Φ_ring_closed := fun base => ok_ring_closed F12 (PySem.W.mg_of X G a12) B cs
  have g_size_of : ∀ base : Heap, Kn l.prog w K mg base "size_of" 1 ["web", "tie"] Φ_size_of := fun base => ok_size_of F15 (PySem.W.mg_of X G a15) B cs
  have g_is_gainful : ∀ base : Heap, Kn l.prog w K mg base "is_gainful" 1 ["web", "tie"] Φ_is_gainful := fun base => ok_is_gainful F16 (PySem.W.mg_of X G a16) B cs
  have g__law_stirred : ∀ base : Heap, Kn l.prog w K mg base "_law_stirred" 1 ["_law_cell", "_law_k"] Φ__law_stirred := fun base => ok__law_stirred F24 (PySem.W.mg_of X G a24) B cs
  have g__law_next : ∀ base : Heap, Kn l.prog w K mg base "_law_next" 1 ["_law_deck_here"] Φ__law_next := fun base => ok__law_next F26 (PySem.W.mg_of X G a26) B cs
  have g__law_fraction : ∀ base : Heap, Kn l.prog w K mg base "_law_fraction" 1 ["_law_top", "_law_bottom"] Φ__law_fraction := fun base => ok__law_fraction F27 (PySem.W.mg_of X G a27) B cs
  have g__law_below : ∀ base : Heap, Kn l.prog w K mg base "_law_below" 1 ["_law_one", "_law_other"] Φ__law_below := fun base => ok__law_below F28 (PySem.W.mg_of X G a28) B cs
  have g__law_groups : ∀ base : Heap, Kn l.prog w K mg base "_law_groups" 1 ["_law_many", "_law_wishes_here"] Φ__law_groups := fun base => ok__law_groups F32 (PySem.W.mg_of X G a32) B cs
  have g__law_is_int : ∀ base : Heap, Kn l.prog w K mg base "_law_is_int" 1 ["_law_thing_here"] Φ__law_is_int := fun base => ok__law_is_int F33 (PySem.W.mg_of X G a33) B cs
  have g__law_is_odd_ring : ∀ base : Heap, Kn l.prog w K mg base "_law_is_odd_ring" 1 ["_law_web_here", "_law_groups_here", "_law_marks", "_law_ring"] Φ__law_is_odd_ring := fun base => ok__law_is_odd_ring F35 (PySem.W.mg_of X G a35) B cs
  have g__law_one_class : ∀ base : Heap, Kn l.prog w K mg base "_law_one_class" 1 ["_law_caught", "_law_at"] (Φ__law_one_class C_CutError C_NoWeb C_NoSide C_NoText C_NoWishes C_NoTurns C_NotFlat C_NoRing C_NoPaper C_NoShare C_NoTie C_NoWeight C_NoDeed C_TooGreat) := fun base => ok__law_one_class F37 (PySem.W.mg_of X G a37) B cs cl
  have g_is_triple : ∀ base : Heap, Kn l.prog w K mg base "is_triple" 2 ["thing"] Φ_is_triple := fun base => ok_is_triple F3 (PySem.W.mg_of X G a3) B cs (g_is_row base)
  have g_is_number_of : ∀ base : Heap, Kn l.prog w K mg base "is_number_of" 2 ["many", "thing"] Φ_is_number_of := fun base => ok_is_number_of F4 (PySem.W.mg_of X G a4) B cs (g_is_whole base)
  have g_spread : ∀ base : Heap, Kn l.prog w K mg base "spread" 2 ["many", "joins"] Φ_spread := fun base => ok_spread F11 (PySem.W.mg_of X G a11) B cs (g_joins_at base) (g_group_from base)
  have g_odd_rings : ∀ base : Heap, Kn l.prog w K mg base "odd_rings" 2 ["joins", "marks", "ways"] Φ_odd_rings := fun base => ok_odd_rings F13 (PySem.W.mg_of X G a13) B cs (g_ring_closed base)
  have g_is_lost_together : ∀ base : Heap, Kn l.prog w K mg base "is_lost_together" 2 ["web", "marks", "tie"] Φ_is_lost_together := fun base => ok_is_lost_together F20 (PySem.W.mg_of X G a20) B cs (g_is_gainful base)
  have g_least_size : ∀ base : Heap, Kn l.prog w K mg base "least_size" 2 ["web", "ring"] Φ_least_size := fun base => ok_least_size F22 (PySem.W.mg_of X G a22) B cs (g_size_of base) (g_less base)
  have g__law_deck : ∀ base : Heap, Kn l.prog w K mg base "_law_deck" 2 ["_law_script", "_law_many"] Φ__law_deck := fun base => ok__law_deck F25 (PySem.W.mg_of X G a25) B cs (g__law_stirred base)
  have g__law_weight : ∀ base : Heap, Kn l.prog w K mg base "_law_weight" 2 ["_law_deck_here", "_law_style"] Φ__law_weight := fun base => ok__law_weight F29 (PySem.W.mg_of X G a29) B cs (g__law_next base) (g__law_fraction base)
  have g__law_wishes : ∀ base : Heap, Kn l.prog w K mg base "_law_wishes" 2 ["_law_deck_here", "_law_many"] Φ__law_wishes := fun base => ok__law_wishes F31 (PySem.W.mg_of X G a31) B cs (g__law_next base)
  have g__law_are_numbers : ∀ base : Heap, Kn l.prog w K mg base "_law_are_numbers" 2 ["_law_thing_here", "_law_many"] Φ__law_are_numbers := fun base => ok__law_are_numbers F34 (PySem.W.mg_of X G a34) B cs (g__law_is_int base)
  have g__law_all_rings : ∀ base : Heap, Kn l.prog w K mg base "_law_all_rings" 2 ["_law_web_here", "_law_groups_here", "_law_marks"] Φ__law_all_rings := fun base => ok__law_all_rings F36 (PySem.W.mg_of X G a36) B cs (g__law_is_odd_ring base)
  have g__law_paper : ∀ base : Heap, Kn l.prog w K mg base "_law_paper" 2 ["_law_web_here", "_law_ring"] Φ__law_paper := fun base => ok__law_paper F39 (PySem.W.mg_of X G a39) B cs (g__law_below base)
  have g__law_thing : ∀ base : Heap, Kn l.prog w K mg base "_law_thing" 2 ["_law_deck_here", "_law_rings", "_law_many"] Φ__law_thing := fun base => ok__law_thing F40 (PySem.W.mg_of X G a40) B cs (g__law_next base)
  have g_are_unlike_points : ∀ base : Heap, Kn l.prog w K mg base "are_unlike_points" 3 ["many", "one", "other"] Φ_are_unlike_points := fun base => ok_are_unlike_points F5 (PySem.W.mg_of X G a5) B cs (g_is_number_of base)
  have g_is_rising_choice : ∀ base : Heap, Kn l.prog w K mg base "is_rising_choice" 3 ["many", "thing"] Φ_is_rising_choice := fun base => ok_is_rising_choice F6 (PySem.W.mg_of X G a6) B cs (g_is_number_of base)
  have g_parted : ∀ base : Heap, Kn l.prog w K mg base "parted" 3 ["many", "joins"] Φ_parted := fun base => ok_parted F14 (PySem.W.mg_of X G a14) B cs (g_spread base) (g_odd_rings base)
  have g__law_web : ∀ base : Heap, Kn l.prog w K mg base "_law_web" 3 ["_law_deck_here", "_law_most_points", "_law_most_ties"] Φ__law_web := fun base => ok__law_web F30 (PySem.W.mg_of X G a30) B cs (g__law_next base) (g__law_weight base)
  have g__law_is_due : ∀ base : Heap, Kn l.prog w K mg base "_law_is_due" 3 ["_law_web_here", "_law_found", "_law_thing_here"] Φ__law_is_due := fun base => ok__law_is_due F41 (PySem.W.mg_of X G a41) B cs (g__law_are_numbers base) (g__law_is_odd_ring base)
  have g_is_wish : ∀ base : Heap, Kn l.prog w K mg base "is_wish" 4 ["web", "thing"] Φ_is_wish := fun base => ok_is_wish F17 (PySem.W.mg_of X G a17) B cs (g_is_triple base) (g_is_number_of base) (g_are_unlike_points base)
  have g_is_odd_round : ∀ base : Heap, Kn l.prog w K mg base "is_odd_round" 4 ["web", "groups", "marks", "thing"] Φ_is_odd_round := fun base => ok_is_odd_round F21 (PySem.W.mg_of X G a21) B cs (g_is_rising_choice base) (g_has_even_ends base) (g_is_lost_together base)
  have g_made_wishes : ∀ base : Heap, KnX l.prog w K mg base "made_wishes" 5 ["web", "thing"] C_NoWishes Φ_made_wishes := fun base => ok_made_wishes F18 (PySem.W.mg_of X G a18) B cs cl (g_is_row base) (g_is_wish base)
  have g_grouped : ∀ base : Heap, Kn l.prog w K mg base "grouped" 6 ["web", "wishes"] Φ_grouped := fun base => ok_grouped F19 (PySem.W.mg_of X G a19) B cs cl (g_parted base) (g_made_wishes base)
  have g_lightest : ∀ base : Heap, KnX l.prog w K mg base "lightest" 7 ["web", "wishes", "ring"] C_NoRing Φ_lightest := fun base => ok_lightest F23 (PySem.W.mg_of X G a23) B cs cl (g_grouped base) (g_is_odd_round base) (g_least_size base)
  have g__law_refused : ∀ base : Heap, Kn l.prog w K mg base "_law_refused" 8 ["_law_web_here", "_law_wishes_here", "_law_thing_here"] Φ__law_refused := fun base => ok__law_refused F38 (PySem.W.mg_of X G a38) B cs cl (g_lightest base) (g__law_one_class base)
  have g__law_tells : ∀ base : Heap, Kn l.prog w K mg base "_law_tells" 8 ["_law_web_here", "_law_wishes_here", "_law_thing_here"] Φ__law_tells := fun base => ok__law_tells F42 (PySem.W.mg_of X G a42) B cs cl (g__law_paper base) (g_lightest base)
  exact ⟨PySem.W.fnOf "law" "law" (defArgs s_law) (defBody s_law) (defScope s_law) .none kV43 dc43 pm43 an43 cd43 ct43, fun s v => .of_eq rfl, fun base _ _ => ok_of F43 sc_law len_law (by decide) (fun cdv A outer s H E hr => ⟨_, dv_law hr B cs (g__law_deck base) (g__law_web base) (g__law_wishes base) (g__law_groups base) (g__law_all_rings base) (g__law_thing base) (g__law_next base) (g__law_is_due base) (g__law_refused base) (g__law_tells base), rd_law⟩)⟩
end K33
open PySem PySem.W PyProof.Rows
set_option maxRecDepth 100000 in
set_option maxHeartbeats 0 in
theorem PySem.Challenge.cw_heavycut_k33_lightest_holds : PySem.Challenge.rw_heavycut_k33_lightest.Holds := by
  w_on; o_law; k_head; (case hw => w_witness2)
  k_fill
  refine L2.walk_of (l := PySem.Challenge.rw_heavycut_k33_lightest) (n := 63) (k := 9) (x := "_law_script") (CX := fun _ => L2.CX0) (sp := fun w => Hc.SpD _ K33.Φ_law) rfl (by decide) rfl ⟨rfl, by decide, by decide⟩ (fun w h Y => PySem.W.kIn_of Y) ?F (fun _ _ a ns hl hO hS => K33.law_at hl hO hS) (fun _ _ _ _ _ h => h)
  case F =>
    intro w mg fa h KX G hmg
    refine' K33.all_mk KX G hmg ?a1 ?l1 ?c1 ?k1 ?a2 ?l2 ?c2 ?k2 ?a3 ?l3 ?c3 ?k3 ?a4 ?l4 ?c4 ?k4 ?a5 ?l5 ?c5 ?k5 ?a6 ?l6 ?c6 ?k6 ?a7 ?l7 ?c7 ?k7 ?a8 ?l8 ?c8 ?k8 ?a9 ?l9 ?c9 ?k9 ?a10 ?l10 ?c10 ?k10 ?a11 ?l11 ?c11 ?k11 ?a12 ?l12 ?c12 ?k12 ?a13 ?l13 ?c13 ?k13 ?a14 ?l14 ?c14 ?k14 ?a15 ?l15 ?c15 ?k15 ?a16 ?l16 ?c16 ?k16 ?a17 ?l17 ?c17 ?k17 ?a18 ?l18 ?c18 ?k18 ?a19 ?l19 ?c19 ?k19 ?a20 ?l20 ?c20 ?k20 ?a21 ?l21 ?c21 ?k21 ?a22 ?l22 ?c22 ?k22 ?a23 ?l23 ?c23 ?k23 ?a24 ?l24 ?c24 ?k24 ?a25 ?l25 ?c25 ?k25 ?a26 ?l26 ?c26 ?k26 ?a27 ?l27 ?c27 ?k27 ?a28 ?l28 ?c28 ?k28 ?a29 ?l29 ?c29 ?k29 ?a30 ?l30 ?c30 ?k30 ?a31 ?l31 ?c31 ?k31 ?a32 ?l32 ?c32 ?k32 ?a33 ?l33 ?c33 ?k33 ?a34 ?l34 ?c34 ?k34 ?a35 ?l35 ?c35 ?k35 ?a36 ?l36 ?c36 ?k36 ?a37 ?l37 ?c37 ?k37 ?a38 ?l38 ?c38 ?k38 ?a39 ?l39 ?c39 ?k39 ?a40 ?l40 ?c40 ?k40 ?a41 ?l41 ?c41 ?k41 ?a42 ?l42 ?c42 ?k42 ?a43 ?l43 ?c43 ?k43 ?g_CutError ?g_NoWeb ?g_NoSide ?g_NoText ?g_NoWishes ?g_NoTurns ?g_NotFlat ?g_NoRing ?g_NoPaper ?g_NoShare ?g_NoTie ?g_NoWeight ?g_NoDeed ?g_TooGreat ?iq_CutError ?yq_CutError ?iq_NoWeb ?yq_NoWeb ?iq_NoSide ?yq_NoSide ?iq_NoText ?yq_NoText ?iq_NoWishes ?yq_NoWishes ?iq_NoTurns ?yq_NoTurns ?iq_NotFlat ?yq_NotFlat ?iq_NoRing ?yq_NoRing ?iq_NoPaper ?yq_NoPaper ?iq_NoShare ?yq_NoShare ?iq_NoTie ?yq_NoTie ?iq_NoWeight ?yq_NoWeight ?iq_NoDeed ?yq_NoDeed ?iq_TooGreat ?yq_TooGreat ?bq_CutError ?x_NoRing ?k_NoRing ?b_NoRing ?t_NoRing ?s_NoRing ?e0_NoRing ?e1_NoRing ?e2_NoRing ?e3_NoRing ?e4_NoRing ?e5_NoRing ?e6_NoRing ?e7_NoRing ?n_NoRing_NoWeb ?n_NoRing_NoSide ?n_NoRing_NoText ?n_NoRing_NoWishes ?n_NoRing_NoTurns ?n_NoRing_NotFlat ?n_NoRing_NoPaper ?n_NoRing_NoShare ?n_NoRing_NoTie ?n_NoRing_NoWeight ?n_NoRing_NoDeed ?n_NoRing_TooGreat ?i_NoRing_CutError ?y_NoRing_CutError ?u_NoRing_CutError ?v_NoRing ?x_NoWishes ?k_NoWishes ?b_NoWishes ?t_NoWishes ?s_NoWishes ?e0_NoWishes ?e1_NoWishes ?e2_NoWishes ?e3_NoWishes ?e4_NoWishes ?e5_NoWishes ?e6_NoWishes ?e7_NoWishes ?n_NoWishes_NoWeb ?n_NoWishes_NoSide ?n_NoWishes_NoText ?n_NoWishes_NoTurns ?n_NoWishes_NotFlat ?n_NoWishes_NoRing ?n_NoWishes_NoPaper ?n_NoWishes_NoShare ?n_NoWishes_NoTie ?n_NoWishes_NoWeight ?n_NoWishes_NoDeed ?n_NoWishes_TooGreat ?i_NoWishes_CutError ?y_NoWishes_CutError ?u_NoWishes_CutError ?v_NoWishes ?m_MOST_WISHES ?z0 ?z1 ?z2 ?z3 ?z4 ?z5 ?z6 ?z7 ?z8 ?z9 ?z10 ?z11 ?z12 ?z13 ?z14 ?z15
    (case a1 => k_is); (case l1 => k_is); (case c1 => k_is); (case k1 => k_is); (case a2 => k_is); (case l2 => k_is); (case c2 => k_is); (case k2 => k_is); (case a3 => k_is); (case l3 => k_is); (case c3 => k_is); (case k3 => k_is); (case a4 => k_is); (case l4 => k_is); (case c4 => k_is); (case k4 => k_is); (case a5 => k_is); (case l5 => k_is); (case c5 => k_is); (case k5 => k_is); (case a6 => k_is); (case l6 => k_is); (case c6 => k_is); (case k6 => k_is); (case a7 => k_is); (case l7 => k_is); (case c7 => k_is); (case k7 => k_is); (case a8 => k_is); (case l8 => k_is); (case c8 => k_is); (case k8 => k_is); (case a9 => k_is); (case l9 => k_is); (case c9 => k_is); (case k9 => k_is); (case a10 => k_is); (case l10 => k_is); (case c10 => k_is); (case k10 => k_is); (case a11 => k_is); (case l11 => k_is); (case c11 => k_is); (case k11 => k_is); (case a12 => k_is); (case l12 => k_is); (case c12 => k_is); (case k12 => k_is); (case a13 => k_is); (case l13 => k_is); (case c13 => k_is); (case k13 => k_is); (case a14 => k_is); (case l14 => k_is); (case c14 => k_is); (case k14 => k_is); (case a15 => k_is); (case l15 => k_is); (case c15 => k_is); (case k15 => k_is); (case a16 => k_is); (case l16 => k_is); (case c16 => k_is); (case k16 => k_is); (case a17 => k_is); (case l17 => k_is); (case c17 => k_is); (case k17 => k_is); (case a18 => k_is); (case l18 => k_is); (case c18 => k_is); (case k18 => k_is); (case a19 => k_is); (case l19 => k_is); (case c19 => k_is); (case k19 => k_is); (case a20 => k_is); (case l20 => k_is); (case c20 => k_is); (case k20 => k_is); (case a21 => k_is); (case l21 => k_is); (case c21 => k_is); (case k21 => k_is); (case a22 => k_is); (case l22 => k_is); (case c22 => k_is); (case k22 => k_is); (case a23 => k_is); (case l23 => k_is); (case c23 => k_is); (case k23 => k_is); (case a24 => k_is); (case l24 => k_is); (case c24 => k_is); (case k24 => k_is); (case a25 => k_is); (case l25 => k_is); (case c25 => k_is); (case k25 => k_is); (case a26 => k_is); (case l26 => k_is); (case c26 => k_is); (case k26 => k_is); (case a27 => k_is); (case l27 => k_is); (case c27 => k_is); (case k27 => k_is); (case a28 => k_is); (case l28 => k_is); (case c28 => k_is); (case k28 => k_is); (case a29 => k_is); (case l29 => k_is); (case c29 => k_is); (case k29 => k_is); (case a30 => k_is); (case l30 => k_is); (case c30 => k_is); (case k30 => k_is); (case a31 => k_is); (case l31 => k_is); (case c31 => k_is); (case k31 => k_is); (case a32 => k_is); (case l32 => k_is); (case c32 => k_is); (case k32 => k_is); (case a33 => k_is); (case l33 => k_is); (case c33 => k_is); (case k33 => k_is); (case a34 => k_is); (case l34 => k_is); (case c34 => k_is); (case k34 => k_is); (case a35 => k_is); (case l35 => k_is); (case c35 => k_is); (case k35 => k_is); (case a36 => k_is); (case l36 => k_is); (case c36 => k_is); (case k36 => k_is); (case a37 => k_is); (case l37 => k_is); (case c37 => k_is); (case k37 => k_is); (case a38 => k_is); (case l38 => k_is); (case c38 => k_is); (case k38 => k_is); (case a39 => k_is); (case l39 => k_is); (case c39 => k_is); (case k39 => k_is); (case a40 => k_is); (case l40 => k_is); (case c40 => k_is); (case k40 => k_is); (case a41 => k_is); (case l41 => k_is); (case c41 => k_is); (case k41 => k_is); (case a42 => k_is); (case l42 => k_is); (case c42 => k_is); (case k42 => k_is); (case a43 => k_is); (case l43 => k_is); (case c43 => k_is); (case k43 => k_is); (case g_CutError => k_is); (case g_NoWeb => k_is); (case g_NoSide => k_is); (case g_NoText => k_is); (case g_NoWishes => k_is); (case g_NoTurns => k_is); (case g_NotFlat => k_is); (case g_NoRing => k_is); (case g_NoPaper => k_is); (case g_NoShare => k_is); (case g_NoTie => k_is); (case g_NoWeight => k_is); (case g_NoDeed => k_is); (case g_TooGreat => k_is); (case iq_CutError => k_is); (case yq_CutError => k_is); (case iq_NoWeb => k_is); (case yq_NoWeb => k_is); (case iq_NoSide => k_is); (case yq_NoSide => k_is); (case iq_NoText => k_is); (case yq_NoText => k_is); (case iq_NoWishes => k_is); (case yq_NoWishes => k_is); (case iq_NoTurns => k_is); (case yq_NoTurns => k_is); (case iq_NotFlat => k_is); (case yq_NotFlat => k_is); (case iq_NoRing => k_is); (case yq_NoRing => k_is); (case iq_NoPaper => k_is); (case yq_NoPaper => k_is); (case iq_NoShare => k_is); (case yq_NoShare => k_is); (case iq_NoTie => k_is); (case yq_NoTie => k_is); (case iq_NoWeight => k_is); (case yq_NoWeight => k_is); (case iq_NoDeed => k_is); (case yq_NoDeed => k_is); (case iq_TooGreat => k_is); (case yq_TooGreat => k_is); (case bq_CutError => k_is); (case x_NoRing => k_exc); (case k_NoRing => k_is); (case b_NoRing => k_is); (case t_NoRing => k_is); (case s_NoRing => first | rfl | k_is); (case e0_NoRing => k_is); (case e1_NoRing => k_is); (case e2_NoRing => k_is); (case e3_NoRing => k_is); (case e4_NoRing => k_is); (case e5_NoRing => k_is); (case e6_NoRing => k_is); (case e7_NoRing => k_is); (case n_NoRing_NoWeb => k_is); (case n_NoRing_NoSide => k_is); (case n_NoRing_NoText => k_is); (case n_NoRing_NoWishes => k_is); (case n_NoRing_NoTurns => k_is); (case n_NoRing_NotFlat => k_is); (case n_NoRing_NoPaper => k_is); (case n_NoRing_NoShare => k_is); (case n_NoRing_NoTie => k_is); (case n_NoRing_NoWeight => k_is); (case n_NoRing_NoDeed => k_is); (case n_NoRing_TooGreat => k_is); (case i_NoRing_CutError => k_is); (case y_NoRing_CutError => k_is); (case u_NoRing_CutError => k_is); (case v_NoRing => k_is); (case x_NoWishes => k_exc); (case k_NoWishes => k_is); (case b_NoWishes => k_is); (case t_NoWishes => k_is); (case s_NoWishes => first | rfl | k_is); (case e0_NoWishes => k_is); (case e1_NoWishes => k_is); (case e2_NoWishes => k_is); (case e3_NoWishes => k_is); (case e4_NoWishes => k_is); (case e5_NoWishes => k_is); (case e6_NoWishes => k_is); (case e7_NoWishes => k_is); (case n_NoWishes_NoWeb => k_is); (case n_NoWishes_NoSide => k_is); (case n_NoWishes_NoText => k_is); (case n_NoWishes_NoTurns => k_is); (case n_NoWishes_NotFlat => k_is); (case n_NoWishes_NoRing => k_is); (case n_NoWishes_NoPaper => k_is); (case n_NoWishes_NoShare => k_is); (case n_NoWishes_NoTie => k_is); (case n_NoWishes_NoWeight => k_is); (case n_NoWishes_NoDeed => k_is); (case n_NoWishes_TooGreat => k_is); (case i_NoWishes_CutError => k_is); (case y_NoWishes_CutError => k_is); (case u_NoWishes_CutError => k_is); (case v_NoWishes => k_is); (case m_MOST_WISHES => k_is); (case z0 => k_is); (case z1 => k_is); (case z2 => k_is); (case z3 => k_is); (case z4 => k_is); (case z5 => k_is); (case z6 => k_is); (case z7 => k_is); (case z8 => k_is); (case z9 => k_is); (case z10 => k_is); (case z11 => k_is); (case z12 => k_is); (case z13 => k_is); (case z14 => k_is); (case z15 => k_is)
#print axioms PySem.Challenge.cw_heavycut_k33_lightest_holds
