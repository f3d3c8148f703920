import PyProof.Rows.All
import Wide.All
import OpenK.AllK
import Wide.FinOn
import HandS.ForMost
import HandS.Wide
import HandS.Style
import HandS.IsInst
import HandS.Flow
import HandS.TryOnly
import HandS.TupMul
import HandS.ForExc
import HandS.ExcIs
import HandS.Zip
import HandS.SortInts
import HandS.SetFor
import HandS.Conv
import HandS.Walk
import KE.GoesEnum
import HandS.SortOrd
import HandS.Deep
import KE.SortData
import HandS.TupAny
import HandS.NoneIn
import KE.GoesMore
import KE.GoesZip
import HandS.Small
import KE.KMinBuiltin
import HandS.SortKw
import HandS.SetKeys
import KE.DataMinMax
import KE.KDictSum
import PyProof.Transfer
import HandS.Iter
import HandS.List
import HandS.Rev
import HandS.RevRange
import HandS.WordsDict
import PyProof.ReprRoads
import HandS.Strs
import HandS.RevTup
import HandS.ExcValue
import KE.KIndexOf
import HandS.FStr
import HandS.Text
import HandS.StrMore
import HandS.SuiteRaise
import HandS.RaiseFrom
import HandS.ExcValueFrom
import HandS.TupLe
import PyProof.StrOps2
import HandS.TupSets
import HandS.DictTup
import KE.DataFind
import PySem.Challenge.RW_heavycut_k51_flat_or_not
set_option Elab.async false
set_option linter.all false
set_option maxRecDepth 100000
set_option maxHeartbeats 4000000
namespace Hc
open PySem PySem.Spec PyProof.Rows L2

/-! ### data in the heap, apart from the things L that may change -/
def keyD : Key → PyData
  | .inl i => .int i
  | .inr x => .str x
mutual
inductive Rp (L : List Addr) (H : Hp) : V → PyData → Prop
  | non : Rp L H .non .none
  | bl (b : Bool) : Rp L H (.bl b) (.bool b)
  | int (i : Int) : Rp L H (.int i) (.int i)
  | str (x : Str) : Rp L H (.str x) (.str x)
  | lst {a : Addr} {xs : List V} {ds : List PyData} : a ∉ L → H a = some (.lst xs) → RpA L H xs ds → Rp L H (.ref a) (.list ds)
  | tup {a : Addr} {xs : List V} {ds : List PyData} : a ∉ L → H a = some (.tup xs) → RpA L H xs ds → Rp L H (.ref a) (.tuple ds)
  | dct {a : Addr} {kvs : List (Key × V)} {ds : List (PyData × PyData)} : a ∉ L → H a = some (.dK kvs) → RpK L H kvs ds → Rp L H (.ref a) (.dict ds)
inductive RpA (L : List Addr) (H : Hp) : List V → List PyData → Prop
  | nil : RpA L H [] []
  | cons {v : V} {vs : List V} {d : PyData} {ds : List PyData} : Rp L H v d → RpA L H vs ds → RpA L H (v :: vs) (d :: ds)
inductive RpK (L : List Addr) (H : Hp) : List (Key × V) → List (PyData × PyData) → Prop
  | nil : RpK L H [] []
  | cons {k : Key} {v : V} {kvs : List (Key × V)} {d : PyData} {ds : List (PyData × PyData)} : Rp L H v d → RpK L H kvs ds → RpK L H ((k, v) :: kvs) ((keyD k, d) :: ds)
end
/-- what is outside L stays, and stays outside L' -/
def To (L L' : List Addr) (H H' : Hp) : Prop := ∀ a o, a ∉ L → H a = some o → a ∉ L' ∧ H' a = some o
mutual
theorem Rp.toP {L L' : List Addr} {H H' : Hp} (w : To L L' H H') : ∀ {v : V} {d : PyData}, Rp L H v d → Rp L' H' v d
  | _, _, .non => .non
  | _, _, .bl b => .bl b
  | _, _, .int i => .int i
  | _, _, .str x => .str x
  | _, _, .lst n e r => .lst (w _ _ n e).1 (w _ _ n e).2 (RpA.toP w r)
  | _, _, .tup n e r => .tup (w _ _ n e).1 (w _ _ n e).2 (RpA.toP w r)
  | _, _, .dct n e r => .dct (w _ _ n e).1 (w _ _ n e).2 (RpK.toP w r)
theorem RpA.toP {L L' : List Addr} {H H' : Hp} (w : To L L' H H') : ∀ {vs : List V} {ds : List PyData}, RpA L H vs ds → RpA L' H' vs ds
  | _, _, .nil => .nil
  | _, _, .cons a b => .cons (Rp.toP w a) (RpA.toP w b)
theorem RpK.toP {L L' : List Addr} {H H' : Hp} (w : To L L' H H') : ∀ {vs : List (Key × V)} {ds : List (PyData × PyData)}, RpK L H vs ds → RpK L' H' vs ds
  | _, _, .nil => .nil
  | _, _, .cons a b => .cons (Rp.toP w a) (RpK.toP w b)
end
theorem Rp.to {L L' : List Addr} {H H' : Hp} (w : To L L' H H') (d : PyData) (v : V) (h : Rp L H v d) : Rp L' H' v d := h.toP w
theorem RpA.to {L L' : List Addr} {H H' : Hp} (w : To L L' H H') (ds : List PyData) (vs : List V) (h : RpA L H vs ds) : RpA L' H' vs ds := h.toP w
/-- a dict with rows as keys: the keys are the same, the values lie in the heap -/
inductive Rt (L : List Addr) (H : Hp) : List (List Key × V) → List (List Key × PyData) → Prop
  | nil : Rt L H [] []
  | cons {k : List Key} {v : V} {d : PyData} {kvs : List (List Key × V)} {m : List (List Key × PyData)} : Rp L H v d → Rt L H kvs m → Rt L H ((k, v) :: kvs) ((k, d) :: m)
theorem Rt.toP {L L' : List Addr} {H H' : Hp} (w : To L L' H H') : ∀ {kvs : List (List Key × V)} {m : List (List Key × PyData)}, Rt L H kvs m → Rt L' H' kvs m
  | _, _, .nil => .nil
  | _, _, .cons a b => .cons (Rp.toP w a) (Rt.toP w b)
def kindO : HO → Nat
  | .lst _ => 0
  | .tup _ => 1
  | .dK _ => 2
  | .dT _ => 3
  | .frz _ (.dK _) => 2
  | .frz _ (.dT _) => 3
  | _ => 4
/-- what is outside L stays; what is in L stays of its kind -/
structure Wk (L : List Addr) (H H' : Hp) : Prop where
  st : ∀ a o, a ∉ L → H a = some o → H' a = some o
  kd : ∀ a o, H a = some o → ∃ o', H' a = some o' ∧ kindO o' = kindO o
instance {L : List Addr} {H H' : Hp} : CoeFun (Wk L H H') fun _ => ∀ a o, a ∉ L → H a = some o → H' a = some o := ⟨Wk.st⟩
theorem Wk.refl (L : List Addr) (H : Hp) : Wk L H H := ⟨fun _ _ _ h => h, fun _ o h => ⟨o, h, rfl⟩⟩
theorem Wk.trans {L : List Addr} {H H1 H2 : Hp} (a : Wk L H H1) (b : Wk L H1 H2) : Wk L H H2 := ⟨fun x o n h => b x o n (a x o n h), fun x o h => by
  obtain ⟨o1, e1, k1⟩ := a.kd x o h
  obtain ⟨o2, e2, k2⟩ := b.kd x o1 e1
  exact ⟨o2, e2, k2.trans k1⟩⟩
theorem Wk.over {L : List Addr} {H H1 : Hp} {D : Addr} {o : HO} (w : Wk L H H1) (h : H D = none) : Wk L H (upd H1 D o) := ⟨fun a u n e => by
  rw [upd_ne (ne_of_none e h)]; exact w a u n e, fun a u e => by
  obtain ⟨o', e', k⟩ := w.kd a u e
  exact ⟨o', by rw [upd_ne (ne_of_none e h)]; exact e', k⟩⟩
theorem Wk.of {L : List Addr} {H H' : Hp} (h : ∀ a o, H a = some o → H' a = some o) : Wk L H H' := ⟨fun a o _ e => h a o e, fun a o e => ⟨o, h a o e, rfl⟩⟩
theorem Wk.to {L : List Addr} {H H' : Hp} (w : Wk L H H') : To L L H H' := fun a o n h => ⟨n, w a o n h⟩
theorem Wk.new {L : List Addr} {H : Hp} {p : Addr} {o : HO} (h : H p = none) : Wk L H (upd H p o) := .of fun a u e => by
  rw [upd_ne (ne_of_none e h)]; exact e
theorem Wk.mut {L : List Addr} {H : Hp} {p : Addr} {o o0 : HO} (h : p ∈ L) (e0 : H p = some o0) (k : kindO o = kindO o0 := by rfl) : Wk L H (upd H p o) := ⟨fun a u n e => by
  rw [upd_ne (fun z : a = p => n (by rw [z]; exact h))]; exact e, fun a u e => by
  by_cases z : a = p
  · subst z
    rw [e0] at e
    cases e
    exact ⟨o, upd_same, k⟩
  · exact ⟨u, by rw [upd_ne z]; exact e, rfl⟩⟩
theorem Rp.mono {L : List Addr} {H H' : Hp} (w : Wk L H H') {d : PyData} {v : V} (h : Rp L H v d) : Rp L H' v d := Rp.to w.to d v h
theorem RpA.mono {L : List Addr} {H H' : Hp} (w : Wk L H H') {ds : List PyData} {vs : List V} (h : RpA L H vs ds) : RpA L H' vs ds := RpA.to w.to ds vs h
theorem RpA.append {L : List Addr} {H : Hp} : ∀ {xs ys : List V} {ds es : List PyData}, RpA L H xs ds → RpA L H ys es → RpA L H (xs ++ ys) (ds ++ es)
  | _, _, _, _, .nil, h => h
  | _, _, _, _, .cons a b, h => .cons a (RpA.append b h)
theorem RpA.length {L : List Addr} {H : Hp} : ∀ {xs : List V} {ds : List PyData}, RpA L H xs ds → xs.length = ds.length
  | _, _, .nil => rfl
  | _, _, .cons _ b => by simp [RpA.length b]
theorem RpA.get {L : List Addr} {H : Hp} : ∀ {xs : List V} {ds : List PyData} {i : Nat} {d : PyData}, RpA L H xs ds → ds[i]? = some d → ∃ v, xs[i]? = some v ∧ Rp L H v d
  | _, _, _, _, .nil, e => by simp at e
  | _, _, 0, _, .cons a _, e => by simp at e; subst e; exact ⟨_, rfl, a⟩
  | _, _, i + 1, d, .cons _ b, e => by
    obtain ⟨v, h1, h2⟩ := RpA.get (i := i) (d := d) b (by simpa using e)
    exact ⟨v, by simpa using h1, h2⟩
theorem RpA.get' {L : List Addr} {H : Hp} : ∀ {xs : List V} {ds : List PyData} {i : Nat} {v : V}, RpA L H xs ds → xs[i]? = some v → ∃ d, ds[i]? = some d ∧ Rp L H v d
  | _, _, _, _, .nil, e => by simp at e
  | _, _, 0, _, .cons a _, e => by simp at e; subst e; exact ⟨_, rfl, a⟩
  | _, _, i + 1, v, .cons _ b, e => by
    obtain ⟨d, h1, h2⟩ := RpA.get' (i := i) (v := v) b (by simpa using e)
    exact ⟨d, by simpa using h1, h2⟩
theorem RpA.take {L : List Addr} {H : Hp} : ∀ {xs : List V} {ds : List PyData} (n : Nat), RpA L H xs ds → RpA L H (xs.take n) (ds.take n)
  | _, _, 0, _ => by simp only [List.take_zero]; exact .nil
  | _, _, n + 1, .nil => .nil
  | _, _, n + 1, .cons a b => .cons a (RpA.take n b)
theorem RpA.drop {L : List Addr} {H : Hp} : ∀ {xs : List V} {ds : List PyData} (n : Nat), RpA L H xs ds → RpA L H (xs.drop n) (ds.drop n)
  | _, _, 0, h => h
  | _, _, n + 1, .nil => .nil
  | _, _, n + 1, .cons _ b => RpA.drop n b
theorem RpA.set {L : List Addr} {H : Hp} : ∀ {xs : List V} {ds : List PyData} {v : V} {d : PyData} (n : Nat), RpA L H xs ds → Rp L H v d → RpA L H (xs.set n v) (ds.set n d)
  | _, _, _, _, _, .nil, _ => .nil
  | _, _, _, _, 0, .cons _ b, h => .cons h b
  | _, _, _, _, n + 1, .cons a b, h => .cons a (RpA.set n b h)
theorem RpA.reverse {L : List Addr} {H : Hp} : ∀ {xs : List V} {ds : List PyData}, RpA L H xs ds → RpA L H xs.reverse ds.reverse
  | _, _, .nil => .nil
  | _, _, .cons a b => by
    rw [List.reverse_cons, List.reverse_cons]
    exact (RpA.reverse b).append (.cons a .nil)
theorem RpA.ints {L : List Addr} {H : Hp} : ∀ (ns : List Int), RpA L H (ns.map V.int) (ns.map PyData.int)
  | [] => .nil
  | n :: r => .cons (.int n) (RpA.ints r)
theorem RpA.ints_inv {L : List Addr} {H : Hp} : ∀ {ns : List Int} {xs : List V}, RpA L H xs (ns.map PyData.int) → xs = ns.map V.int
  | [], _, h => by cases h; rfl
  | n :: r, _, h => by
    cases h with
    | cons a b => cases a; rw [RpA.ints_inv b]; rfl
theorem RpA.bools_inv {L : List Addr} {H : Hp} : ∀ {ns : List Bool} {xs : List V}, RpA L H xs (ns.map PyData.bool) → xs = ns.map V.bl
  | [], _, h => by cases h; rfl
  | n :: r, _, h => by
    cases h with
    | cons a b => cases a; rw [RpA.bools_inv b]; rfl
mutual
theorem Rp.dp {K : PySem.W.Frag} {L : List Addr} {H : Hp} : ∀ (d : PyData) (v : V), d.canLay0 = true → Rp L H v d → Dp K H v d
  | .none, _, _, h => by cases h; exact .non
  | .bool b, _, _, h => by cases h; exact .bl b
  | .int i, _, _, h => by cases h; exact .int i
  | .str x, _, _, h => by cases h; exact .str x
  | .list ds, _, c, h => by
    cases h with
    | lst n e r => exact .lst (SqL.of e) (RpA.dp ds _ (by simpa [PyData.canLay0] using c) r)
  | .tuple ds, _, c, h => by
    cases h with
    | tup n e r => exact .tup (SqT.of e) (RpA.dp ds _ (by simpa [PyData.canLay0] using c) r)
  | .dict ds, _, c, h => by simp [PyData.canLay0] at c
theorem RpA.dp {K : PySem.W.Frag} {L : List Addr} {H : Hp} : ∀ (ds : List PyData) (vs : List V), PyData.canLayAll0 ds = true → RpA L H vs ds → DpAll K H vs ds
  | [], _, _, h => by cases h; exact .nil
  | d :: ds, _, c, h => by
    cases h with
    | cons a b =>
      have c' : d.canLay0 = true ∧ PyData.canLayAll0 ds = true := by simpa [PyData.canLayAll0, Bool.and_eq_true] using c
      exact .cons (Rp.dp d _ c'.1 a) (RpA.dp ds _ c'.2 b)
end
/-- the type of a datum -/
def tyN : PyData → String
  | .none => "NoneType" | .bool _ => "bool" | .int _ => "int" | .str _ => "str" | .list _ => "list" | .tuple _ => "tuple" | .dict _ => "dict"
theorem Rp.ty {K : PySem.W.Frag} {L : List Addr} {H : Hp} {v : V} {d : PyData} (h : Rp L H v d) : TyX K H v (.type (tyN d)) := by
  cases h with
  | non => exact .base .non
  | bl b => exact .base (.bl b)
  | int i => exact .base (.int i)
  | str x => exact .base (.str x)
  | lst n e r => exact .base (.lst e)
  | tup n e r => exact .base (.tup e)
  | dct n e r => exact .base (.dK e)


theorem Rp.keep {L M : List Addr} {H H' : Hp} (sub : ∀ p ∈ L, p ∈ M) (w : Wk L H H') {d : PyData} {v : V} (h : Rp M H v d) : Rp M H' v d := Rp.to (fun a o n e => ⟨n, w a o (fun z => n (sub a z)) e⟩) d v h
theorem RpA.keep {L M : List Addr} {H H' : Hp} (sub : ∀ p ∈ L, p ∈ M) (w : Wk L H H') {ds : List PyData} {vs : List V} (h : RpA M H vs ds) : RpA M H' vs ds := RpA.to (fun a o n e => ⟨n, w a o (fun z => n (sub a z)) e⟩) ds vs h

/-! ### slots, things that may change -/
inductive SD where
  | u | d (x : PyData) | m (k : Nat) | q (k : Nat) | g (ds : List (PyData × PyData)) | f (es : List PyData) | s (ns : List Int) | v (x : V) | h (φ : Addr → HO) | w (φ : List Addr → Hp → V → Prop) | o (k : Nat)
inductive MD where
  | l (es : List PyData)
  | r (ks : List Nat)
  | k (ds : List (PyData × PyData))
  | t (m : List (List Key × PyData))
  | z (o : Obj) (kvs : List (Key × V)) (ds : List (PyData × PyData))
  | x (ψ : List Addr → Hp → Addr → Prop)
/-- a fact on an object, that stays where what lies outside stays and the object stays -/
def StbO (ψ : List Addr → Hp → Addr → Prop) : Prop := ∀ (M M' : List Addr) (H H' : Hp) (p : Addr), To M M' H H' → H' p = H p → ψ M H p → ψ M' H' p
section
variable {K : PySem.W.Frag}
def MOk (L M : List Addr) (H : Hp) (j : Nat) (p : Addr) : MD → Prop
  | .l es => ∃ xs, H p = some (.lst xs) ∧ RpA M H xs es
  | .r ks => ∃ ps : List Addr, H p = some (.lst (ps.map V.ref)) ∧ ps.length = ks.length ∧ ∀ (i k : Nat) (q : Addr), ks[i]? = some k → ps[i]? = some q → L[k]? = some q ∧ k < j
  | .k ds => ∃ kvs, H p = some (.dK kvs) ∧ RpK M H kvs ds
  | .t m => ∃ kvs, H p = some (.dT kvs) ∧ Rt M H kvs m
  | .z o kvs ds => H p = some (.frz o (.dK kvs)) ∧ RpK M H kvs ds
  | .x ψ => ψ M H p ∧ StbO ψ
def NTup : HO → Prop
  | .tup _ => False
  | _ => True
/-- L: what may change, as ms tells it; M: all that is no part of data -/
structure At (L M : List Addr) (ms : List MD) (H : Hp) : Prop where
  nd : L.Nodup
  sub : ∀ p ∈ L, p ∈ M
  al : ∀ p ∈ M, ∃ o, H p = some o ∧ NTup o
  ln : L.length = ms.length
  ok : ∀ (k : Nat) (p : Addr) (m : MD), L[k]? = some p → ms[k]? = some m → MOk L M H k p m
section
variable {L M : List Addr} {ms : List MD} {H H' : Hp}
theorem MOk.toL {L L' M M' : List Addr} {p : Addr} {j : Nat} {m : MD} (t : To M M' H H') (hl : ∀ (k : Nat) (q : Addr), k < j → L[k]? = some q → L'[k]? = some q) (e : H' p = H p) (h : MOk L M H j p m) : MOk L' M' H' j p m := by
  cases m with
  | l es =>
    obtain ⟨xs, e1, r⟩ := h
    exact ⟨xs, by rw [e]; exact e1, RpA.to t _ _ r⟩
  | r ks =>
    obtain ⟨ps, e1, ln, r⟩ := h
    exact ⟨ps, by rw [e]; exact e1, ln, fun i k q h1 h2 => ⟨hl k q (r i k q h1 h2).2 (r i k q h1 h2).1, (r i k q h1 h2).2⟩⟩
  | k ds =>
    obtain ⟨kvs, e1, r⟩ := h
    exact ⟨kvs, by rw [e]; exact e1, r.toP t⟩
  | t ds =>
    obtain ⟨kvs, e1, r⟩ := h
    exact ⟨kvs, by rw [e]; exact e1, r.toP t⟩
  | z o kvs ds =>
    obtain ⟨e1, r⟩ := h
    exact ⟨by rw [e]; exact e1, r.toP t⟩
  | x ψ => exact ⟨h.2 _ _ _ _ _ t e h.1, h.2⟩
theorem MOk.to {L M M' : List Addr} {p : Addr} {j : Nat} {m : MD} (t : To M M' H H') (e : H' p = H p) (h : MOk L M H j p m) : MOk L M' H' j p m := h.toL t (fun _ _ _ q => q) e
theorem At.fresh (h : At L M ms H) {p : Addr} (e : H p = none) : p ∉ M := fun z => by
  obtain ⟨o, eo, _⟩ := h.al p z
  rw [e] at eo
  cases eo
theorem At.freshL (h : At L M ms H) {p : Addr} (e : H p = none) : p ∉ L := fun z => h.fresh e (h.sub p z)
theorem At.wk (h : At L M ms H) (w : Wk L H H') : To M M H H' := fun a o n e => ⟨n, w a o (fun z => n (h.sub a z)) e⟩
theorem At.new (h : At L M ms H) {p : Addr} {o : HO} (e : H p = none) : At L M ms (upd H p o) := by
  have ne : ∀ q, q ∈ M → q ≠ p := fun q hq z => h.fresh e (z ▸ hq)
  refine ⟨h.nd, h.sub, fun q hq => by rw [upd_ne (ne q hq)]; exact h.al q hq, h.ln, fun k q m e1 e2 => ?_⟩
  exact (h.ok k q m e1 e2).to (h.wk (Wk.new e)) (upd_ne (ne q (h.sub q (List.mem_of_getElem? e1))))
theorem At.put (h : At L M ms H) {k : Nat} {p : Addr} {xs xs0 : List V} {es : List PyData} (hk : L[k]? = some p) (e0 : H p = some (.lst xs0)) (r : RpA M H xs es) : At L M (ms.set k (.l es)) (upd H p (.lst xs)) := by
  have hp : p ∈ L := List.mem_of_getElem? hk
  have t : To M M H (upd H p (.lst xs)) := h.wk (Wk.mut hp e0)
  refine ⟨h.nd, h.sub, fun q hq => ?_, by rw [List.length_set]; exact h.ln, fun j q m e1 e2 => ?_⟩
  · by_cases e : q = p
    · subst e; rw [upd_same]; exact ⟨_, rfl, trivial⟩
    · rw [upd_ne e]; exact h.al q hq
  · by_cases hj : j = k
    · subst hj
      rw [e1] at hk
      cases hk
      have hl : j < ms.length := by rw [← h.ln]; exact (List.getElem?_eq_some_iff.mp e1).1
      rw [List.getElem?_set_self hl] at e2
      cases e2
      exact ⟨xs, upd_same, RpA.to t _ _ r⟩
    · rw [List.getElem?_set_ne (Ne.symm hj)] at e2
      have hq : q ≠ p := fun z => by
        subst z
        obtain ⟨l1, e1'⟩ := List.getElem?_eq_some_iff.mp e1
        obtain ⟨l2, e2'⟩ := List.getElem?_eq_some_iff.mp hk
        exact hj ((List.getElem_inj h.nd).mp (e1'.trans e2'.symm))
      exact (h.ok j q m e1 e2).to t (upd_ne hq)
theorem At.get (h : At L M ms H) {k : Nat} {p : Addr} {es : List PyData} (hk : L[k]? = some p) (e : ms[k]? = some (.l es)) : ∃ xs, H p = some (.lst xs) ∧ RpA M H xs es := h.ok k p _ hk e
/-- a new thing that may change -/
theorem to_new {p : Addr} (h : At L M ms H) (hp : H p = none) (w : Wk L H H') : To M (M ++ [p]) H H' := fun a o n e =>
  ⟨fun z => (List.mem_append.mp z).elim n fun z => ne_of_none e hp (by simpa using z), w a o (fun z => n (h.sub a z)) e⟩
theorem At.grow {p : Addr} {xs : List V} {es : List PyData} (h : At L M ms H) (hp : H p = none) (r : RpA M H xs es) : At (L ++ [p]) (M ++ [p]) (ms ++ [.l es]) (upd H p (.lst xs)) := by
  have n := h.freshL hp
  have t : To M (M ++ [p]) H (upd H p (.lst xs)) := to_new h hp (Wk.new hp)
  refine ⟨List.nodup_append.mpr ⟨h.nd, by simp, fun a ha b hb e => n (by simp at hb; subst hb e; exact ha)⟩, ?_, ?_, by simp [h.ln], fun k q m e1 e2 => ?_⟩
  · intro q hq
    rcases List.mem_append.mp hq with z | z
    · exact List.mem_append_left _ (h.sub q z)
    · exact List.mem_append_right _ z
  · intro q hq
    by_cases e : q = p
    · subst e; rw [upd_same]; exact ⟨_, rfl, trivial⟩
    · rw [upd_ne e]
      rcases List.mem_append.mp hq with z | z
      · exact h.al q z
      · exact absurd (by simpa using z) e
  · by_cases hk : k < L.length
    · rw [List.getElem?_append_left hk] at e1
      rw [List.getElem?_append_left (by rw [← h.ln]; exact hk)] at e2
      have hq : q ≠ p := fun z => n (z ▸ List.mem_of_getElem? e1)
      exact (h.ok k q m e1 e2).toL t (fun k' q' _ z => by rw [List.getElem?_append_left (List.getElem?_eq_some_iff.mp z).1]; exact z) (upd_ne hq)
    · have hk2 : k = L.length := by
        have := (List.getElem?_eq_some_iff.mp e1).1
        simp at this
        omega
      subst hk2
      simp at e1
      subst e1
      rw [h.ln] at e2
      simp at e2
      subst e2
      exact ⟨xs, upd_same, RpA.to t _ _ r⟩
theorem to_less {p : Addr} : To (M ++ [p]) M H H := fun a o n e => ⟨fun z => n (List.mem_append_left _ z), e⟩
theorem At.drop {p : Addr} {m : MD} (h : At (L ++ [p]) (M ++ [p]) (ms ++ [m]) H) (hl : ∀ q ∈ L, q ∈ M) : At L M ms H :=
  ⟨(List.nodup_append.mp h.nd).1, hl, fun q hq => h.al q (List.mem_append_left _ hq), by have := h.ln; simp at this; exact this, fun k q x e1 e2 => by
    have h1 : k < L.length := (List.getElem?_eq_some_iff.mp e1).1
    have h2 : k < ms.length := (List.getElem?_eq_some_iff.mp e2).1
    exact (h.ok k q x (by rw [List.getElem?_append_left h1]; exact e1) (by rw [List.getElem?_append_left h2]; exact e2)).toL to_less (fun k' q' hlt z => by rw [List.getElem?_append_left (by omega)] at z; exact z) rfl⟩
theorem At.last {p : Addr} {es : List PyData} (h : At (L ++ [p]) (M ++ [p]) (ms ++ [.l es]) H) : ∃ xs, H p = some (.lst xs) ∧ RpA (M ++ [p]) H xs es := by
  have hl : L.length = ms.length := by have := h.ln; simp at this; exact this
  exact h.ok L.length p (.l es) (by simp) (by rw [hl]; simp)
theorem At.putK (h : At L M ms H) {k : Nat} {p : Addr} {xs xs0 : List (Key × V)} {es : List (PyData × PyData)} (hk : L[k]? = some p) (e0 : H p = some (.dK xs0)) (r : RpK M H xs es) : At L M (ms.set k (.k es)) (upd H p (.dK xs)) := by
  have hp : p ∈ L := List.mem_of_getElem? hk
  have t : To M M H (upd H p (.dK xs)) := h.wk (Wk.mut hp e0)
  refine ⟨h.nd, h.sub, fun q hq => ?_, by rw [List.length_set]; exact h.ln, fun j q m e1 e2 => ?_⟩
  · by_cases e : q = p
    · subst e; rw [upd_same]; exact ⟨_, rfl, trivial⟩
    · rw [upd_ne e]; exact h.al q hq
  · by_cases hj : j = k
    · subst hj
      rw [e1] at hk
      cases hk
      have hl : j < ms.length := by rw [← h.ln]; exact (List.getElem?_eq_some_iff.mp e1).1
      rw [List.getElem?_set_self hl] at e2
      cases e2
      exact ⟨xs, upd_same, r.toP t⟩
    · rw [List.getElem?_set_ne (Ne.symm hj)] at e2
      have hq : q ≠ p := fun z => by
        subst z
        obtain ⟨l1, e1'⟩ := List.getElem?_eq_some_iff.mp e1
        obtain ⟨l2, e2'⟩ := List.getElem?_eq_some_iff.mp hk
        exact hj ((List.getElem_inj h.nd).mp (e1'.trans e2'.symm))
      exact (h.ok j q m e1 e2).to t (upd_ne hq)
theorem At.growK {p : Addr} {xs : List (Key × V)} {es : List (PyData × PyData)} (h : At L M ms H) (hp : H p = none) (r : RpK M H xs es) : At (L ++ [p]) (M ++ [p]) (ms ++ [.k es]) (upd H p (.dK xs)) := by
  have n := h.freshL hp
  have t : To M (M ++ [p]) H (upd H p (.dK xs)) := to_new h hp (Wk.new hp)
  refine ⟨List.nodup_append.mpr ⟨h.nd, by simp, fun a ha b hb e => n (by simp at hb; subst hb e; exact ha)⟩, ?_, ?_, by simp [h.ln], fun k q m e1 e2 => ?_⟩
  · intro q hq
    rcases List.mem_append.mp hq with z | z
    · exact List.mem_append_left _ (h.sub q z)
    · exact List.mem_append_right _ z
  · intro q hq
    by_cases e : q = p
    · subst e; rw [upd_same]; exact ⟨_, rfl, trivial⟩
    · rw [upd_ne e]
      rcases List.mem_append.mp hq with z | z
      · exact h.al q z
      · exact absurd (by simpa using z) e
  · by_cases hk : k < L.length
    · rw [List.getElem?_append_left hk] at e1
      rw [List.getElem?_append_left (by rw [← h.ln]; exact hk)] at e2
      have hq : q ≠ p := fun z => n (z ▸ List.mem_of_getElem? e1)
      exact (h.ok k q m e1 e2).toL t (fun k' q' _ z => by rw [List.getElem?_append_left (List.getElem?_eq_some_iff.mp z).1]; exact z) (upd_ne hq)
    · have hk2 : k = L.length := by
        have := (List.getElem?_eq_some_iff.mp e1).1
        simp at this
        omega
      subst hk2
      simp at e1
      subst e1
      rw [h.ln] at e2
      simp at e2
      subst e2
      exact ⟨xs, upd_same, r.toP t⟩
theorem At.lastK {p : Addr} {es : List (PyData × PyData)} (h : At (L ++ [p]) (M ++ [p]) (ms ++ [.k es]) H) : ∃ xs, H p = some (.dK xs) ∧ RpK (M ++ [p]) H xs es := by
  have hl : L.length = ms.length := by have := h.ln; simp at this; exact this
  exact h.ok L.length p (.k es) (by simp) (by rw [hl]; simp)
theorem At.getK (h : At L M ms H) {k : Nat} {p : Addr} {es : List (PyData × PyData)} (hk : L[k]? = some p) (e : ms[k]? = some (.k es)) : ∃ xs, H p = some (.dK xs) ∧ RpK M H xs es := h.ok k p _ hk e
end
/-- a dict, of either kind -/
def IsDc (H : Hp) (p : Addr) : Prop := ∃ o, H p = some o ∧ (kindO o = 2 ∨ kindO o = 3)
/-- an object of another kind: a set, an instance -/
def IsOb (H : Hp) (p : Addr) : Prop := ∃ o, H p = some o ∧ kindO o = 4
/-- a fact that stays where what lies outside stays -/
def Stb (φ : List Addr → Hp → V → Prop) : Prop := ∀ (M M' : List Addr) (H H' : Hp) (v : V), To M M' H H' → φ M H v → φ M' H' v
def SlOk (K : PySem.W.Frag) (L M : List Addr) (H : Hp) : SD → V → Prop
  | .d x, v => Rp M H v x
  | .m k, v => ∃ p, v = .ref p ∧ L[k]? = some p ∧ ∃ xs, H p = some (.lst xs)
  | .q k, v => ∃ p, v = .ref p ∧ L[k]? = some p ∧ IsDc H p
  | .s ns, v => ∃ a, v = .ref a ∧ ((a ∉ M ∧ Rd H a (.lst (ns.map V.int))) ∨ ∀ H' : Hp, SqL K H' a (ns.map V.int))
  | .v x, v => v = x
  | .h φ, v => ∃ a, v = .ref a ∧ a ∉ M ∧ H a = some (φ a)
  | .w φ, v => φ M H v ∧ Stb φ
  | .o k, v => ∃ p, v = .ref p ∧ L[k]? = some p ∧ IsOb H p
  | _, _ => False
section
variable {L M : List Addr} {ms : List MD} {H H' : Hp} {σ : L2.St} {ds : List SD}
theorem kind_lst {p : Addr} {xs : List V} (kd : ∀ a o, H a = some o → ∃ o', H' a = some o' ∧ kindO o' = kindO o) (e : H p = some (.lst xs)) : ∃ ys, H' p = some (.lst ys) := by
  obtain ⟨o, e', k⟩ := kd p _ e
  cases o <;> first | exact ⟨_, e'⟩ | cases k | (rename_i b; cases b <;> cases k)
theorem IsDc.kind {p : Addr} (kd : ∀ a o, H a = some o → ∃ o', H' a = some o' ∧ kindO o' = kindO o) (h : IsDc H p) : IsDc H' p := by
  obtain ⟨o, e, k⟩ := h
  obtain ⟨o', e', k'⟩ := kd p o e
  exact ⟨o', e', by rw [k']; exact k⟩
theorem IsDc.notL {p : Addr} {xs : List V} (h : IsDc H p) (e : H p = some (.lst xs)) : False := by
  obtain ⟨o, e1, k⟩ := h
  rw [e] at e1
  cases e1
  rcases k with k | k <;> cases k
theorem IsOb.kind {p : Addr} (kd : ∀ a o, H a = some o → ∃ o', H' a = some o' ∧ kindO o' = kindO o) (h : IsOb H p) : IsOb H' p := by
  obtain ⟨o, e, k⟩ := h
  obtain ⟨o', e', k'⟩ := kd p o e
  exact ⟨o', e', by rw [k']; exact k⟩
theorem IsOb.notL {p : Addr} {xs : List V} (h : IsOb H p) (e : H p = some (.lst xs)) : False := by
  obtain ⟨o, e1, k⟩ := h
  rw [e] at e1
  cases e1
  cases k
theorem IsOb.notK {p : Addr} {xs : List (Key × V)} (h : IsOb H p) (e : H p = some (.dK xs)) : False := by
  obtain ⟨o, e1, k⟩ := h
  rw [e] at e1
  cases e1
  cases k
theorem IsOb.notT {p : Addr} {xs : List (List Key × V)} (h : IsOb H p) (e : H p = some (.dT xs)) : False := by
  obtain ⟨o, e1, k⟩ := h
  rw [e] at e1
  cases e1
  cases k
theorem SlOk.to {L' M' : List Addr} (t : To M M' H H') (kd : ∀ a o, H a = some o → ∃ o', H' a = some o' ∧ kindO o' = kindO o) (hl : ∀ (k : Nat) (p : Addr), L[k]? = some p → L'[k]? = some p) : ∀ {s : SD} {v : V}, SlOk K L M H s v → SlOk K L' M' H' s v
  | .d x, v, h => Rp.to t _ _ h
  | .m k, v, ⟨p, e, q, xs, x⟩ => ⟨p, e, hl k p q, kind_lst kd x⟩
  | .q k, v, ⟨p, e, q, x⟩ => ⟨p, e, hl k p q, x.kind kd⟩
  | .s ns, v, ⟨a, e, .inl ⟨n, q⟩⟩ => ⟨a, e, .inl (by
      rcases q with q | ⟨o, q⟩
      · exact ⟨(t _ _ n q).1, .inl (t _ _ n q).2⟩
      · exact ⟨(t _ _ n q).1, .inr ⟨o, (t _ _ n q).2⟩⟩)⟩
  | .s ns, v, ⟨a, e, .inr q⟩ => ⟨a, e, .inr q⟩
  | .v x, v, h => h
  | .h φ, v, ⟨a, e, n, q⟩ => ⟨a, e, (t _ _ n q).1, (t _ _ n q).2⟩
  | .w φ, v, ⟨h, st⟩ => ⟨st _ _ _ _ _ t h, st⟩
  | .o k, v, ⟨p, e, q, x⟩ => ⟨p, e, hl k p q, x.kind kd⟩
  | .u, _, h => h.elim
  | .f _, _, h => h.elim
  | .g _, _, h => h.elim
theorem SlOk.mono (h : At L M ms H) (w : Wk L H H') {s : SD} {v : V} (r : SlOk K L M H s v) : SlOk K L M H' s v := r.to (h.wk w) w.kd fun _ _ e => e
def Sl (K : PySem.W.Frag) (L M : List Addr) (σ : L2.St) (H : Hp) (ds : List SD) : Prop := ∀ (i : Nat) (s : SD), ds[i]? = some s → match s with | .u => i < σ.length | s => ∃ v, σ[i]? = some (some v) ∧ SlOk K L M H s v
theorem Sl.lt (h : Sl K L M σ H ds) {i : Nat} (hi : i < ds.length) : i < σ.length := by
  have q := h i ds[i] (by simp [hi])
  split at q
  · exact q
  · obtain ⟨v, e, _⟩ := q
    exact (List.getElem?_eq_some_iff.mp e).1
theorem Sl.get (h : Sl K L M σ H ds) {i : Nat} {s : SD} (e : ds[i]? = some s) (n : s ≠ .u) : ∃ v, σ[i]? = some (some v) ∧ SlOk K L M H s v := by
  have q := h i s e
  split at q
  · exact absurd rfl n
  · exact q
theorem Sl.to {L' M' : List Addr} (t : To M M' H H') (kd : ∀ a o, H a = some o → ∃ o', H' a = some o' ∧ kindO o' = kindO o) (hl : ∀ (k : Nat) (p : Addr), L[k]? = some p → L'[k]? = some p) (h : Sl K L M σ H ds) : Sl K L' M' σ H' ds := fun i s e => by
  have q := h i s e
  split at q
  · exact q
  · obtain ⟨v, e1, e2⟩ := q
    exact ⟨v, e1, e2.to t kd hl⟩
theorem Sl.mono (a : At L M ms H) (w : Wk L H H') (h : Sl K L M σ H ds) : Sl K L M σ H' ds := h.to (a.wk w) w.kd fun _ _ e => e
theorem Sl.set (h : Sl K L M σ H ds) (i : Nat) {s : SD} {v : V} (r : SlOk K L M H s v) : Sl K L M (σ.set i (some v)) H (ds.set i s) := fun j t e => by
  by_cases hj : j = i
  · subst hj
    have hl : j < ds.length := by
      have := (List.getElem?_eq_some_iff.mp e).1
      rwa [List.length_set] at this
    rw [List.getElem?_set_self hl] at e
    cases e
    have hs := h.lt hl
    cases s with
    | u => exact r.elim
    | f _ => exact r.elim
    | g _ => exact r.elim
    | d x => exact ⟨v, List.getElem?_set_self hs, r⟩
    | m k => exact ⟨v, List.getElem?_set_self hs, r⟩
    | q k => exact ⟨v, List.getElem?_set_self hs, r⟩
    | s ns => exact ⟨v, List.getElem?_set_self hs, r⟩
    | v x => exact ⟨v, List.getElem?_set_self hs, r⟩
    | h φ => exact ⟨v, List.getElem?_set_self hs, r⟩
    | w φ => exact ⟨v, List.getElem?_set_self hs, r⟩
    | o k => exact ⟨v, List.getElem?_set_self hs, r⟩
  · rw [List.getElem?_set_ne (Ne.symm hj)] at e
    have q := h j t e
    split at q
    · show j < (σ.set i (some v)).length
      rw [List.length_set]; exact q
    · obtain ⟨w, e1, e2⟩ := q
      exact ⟨w, by rw [List.getElem?_set_ne (Ne.symm hj)]; exact e1, e2⟩
theorem Sl.forget (h : Sl K L M σ H ds) (i : Nat) (o : Option V) : Sl K L M (σ.set i o) H (ds.set i .u) := fun j t e => by
  by_cases hj : j = i
  · subst hj
    have hl : j < ds.length := by
      have := (List.getElem?_eq_some_iff.mp e).1
      rwa [List.length_set] at this
    rw [List.getElem?_set_self hl] at e
    cases e
    show j < (σ.set j o).length
    rw [List.length_set]; exact h.lt hl
  · rw [List.getElem?_set_ne (Ne.symm hj)] at e
    have q := h j t e
    split at q
    · show j < (σ.set i o).length
      rw [List.length_set]; exact q
    · obtain ⟨w, e1, e2⟩ := q
      exact ⟨w, by rw [List.getElem?_set_ne (Ne.symm hj)]; exact e1, e2⟩
end
def wipeD (ds : List SD) : List Nat → List SD
  | [] => ds
  | v :: vs => (wipeD ds vs).set v .u
theorem Sl.wipe {L M : List Addr} {σ : L2.St} {H : Hp} {ds : List SD} (h : Sl K L M σ H ds) : ∀ vs : List Nat, Sl K L M (L2.wipe σ vs) H (wipeD ds vs)
  | [] => h
  | v :: vs => (Sl.wipe h vs).forget v none
/-- what comes out of an evaluation that began at H -/
def Out (K : PySem.W.Frag) (L M : List Addr) (H H' : Hp) (ms : List MD) (v : V) : SD → Prop
  | .f es => ∃ p, v = .ref p ∧ H p = none ∧ p ∉ M ∧ At (L ++ [p]) (M ++ [p]) (ms ++ [.l es]) H' ∧ ∀ q ∈ L, q ∈ M
  | .g es => ∃ p, v = .ref p ∧ H p = none ∧ p ∉ M ∧ At (L ++ [p]) (M ++ [p]) (ms ++ [.k es]) H' ∧ ∀ q ∈ L, q ∈ M
  | s => At L M ms H' ∧ SlOk K L M H' s v
def dd : SD → SD
  | .f es => .d (.list es)
  | .g es => .d (.dict es)
  | s => s
section
variable {L M : List Addr} {ms : List MD} {H0 H H' : Hp} {v : V}
theorem Out.dd : ∀ {s : SD}, Out K L M H H' ms v s → Out K L M H H' ms v (dd s)
  | .f es, ⟨p, e, _, n, a, sb⟩ => by
    obtain ⟨xs, e1, r⟩ := a.last
    refine ⟨a.drop sb, ?_⟩
    subst e
    exact .lst n e1 (RpA.to to_less _ _ r)
  | .g es, ⟨p, e, _, n, a, sb⟩ => by
    obtain ⟨xs, e1, r⟩ := a.lastK
    refine ⟨a.drop sb, ?_⟩
    subst e
    exact .dct n e1 (r.toP to_less)
  | .d x, h => h
  | .m k, h => h
  | .q k, h => h
  | .s ns, h => h
  | .v x, h => h
  | .h x, h => h
  | .w x, h => h
  | .o x, h => h
  | .u, h => h
theorem none_back (a : At L M ms H) {p : Addr} (w : Wk L H0 H) (n : p ∉ M) (h : H p = none) : H0 p = none := by
  cases q : H0 p with
  | none => rfl
  | some o =>
    rw [w p o (fun z => n (a.sub p z)) q] at h
    cases h
theorem Out.back (a : At L M ms0 H) (w : Wk L H0 H) : ∀ {s : SD}, Out K L M H H' ms v s → Out K L M H0 H' ms v s
  | .f es, ⟨p, e, h, n, b, sb⟩ => ⟨p, e, none_back a w n h, n, b, sb⟩
  | .g es, ⟨p, e, h, n, b, sb⟩ => ⟨p, e, none_back a w n h, n, b, sb⟩
  | .d x, h => h
  | .m k, h => h
  | .q k, h => h
  | .s ns, h => h
  | .v x, h => h
  | .h x, h => h
  | .w x, h => h
  | .o x, h => h
  | .u, h => h
theorem Out.at : ∀ {s : SD}, Out K L M H H' ms v s → At L M ms H'
  | .f es, ⟨p, _, _, _, a, sb⟩ => a.drop sb
  | .g es, ⟨p, _, _, _, a, sb⟩ => a.drop sb
  | .d _, h => h.1
  | .m _, h => h.1
  | .q _, h => h.1
  | .s _, h => h.1
  | .v _, h => h.1
  | .h _, h => h.1
  | .w _, h => h.1
  | .o _, h => h.1
  | .u, h => h.1
theorem Out.of (a : At L M ms H') : ∀ {s : SD}, SlOk K L M H' s v → Out K L M H H' ms v s
  | .d x, h => ⟨a, h⟩
  | .m k, h => ⟨a, h⟩
  | .q k, h => ⟨a, h⟩
  | .s ns, h => ⟨a, h⟩
  | .v x, h => ⟨a, h⟩
  | .h x, h => ⟨a, h⟩
  | .w x, h => ⟨a, h⟩
  | .o x, h => ⟨a, h⟩
  | .u, h => h.elim
  | .f _, h => h.elim
  | .g _, h => h.elim
theorem Out.sl : ∀ {s : SD}, Out K L M H H' ms v s → SlOk K L M H' (Hc.dd s) v
  | .f es, h => (Out.dd h).2
  | .g es, h => (Out.dd h).2
  | .d _, h => h.2
  | .m _, h => h.2
  | .q _, h => h.2
  | .s _, h => h.2
  | .v _, h => h.2
  | .h _, h => h.2
  | .w _, h => h.2
  | .o _, h => h.2
  | .u, h => h.2
end

/-! ### evaluations, at the level of data -/
abbrev RS := SD → List MD → Prop
def E (K : PySem.W.Frag) (te : TE) (ds : List SD) (ms : List MD) (R : RS) : Prop :=
  ∀ (L M : List Addr) (σ : L2.St) (H : Hp), Sl K L M σ H ds → At L M ms H → ∀ Q : VK, (∀ s v H' ms', Wk L H H' → Out K L M H H' ms' v s → R s ms' → Q v H') → te σ H Q
def ET (K : PySem.W.Frag) (tt : TT) (ds : List SD) (ms : List MD) (R : Bool → List MD → Prop) : Prop :=
  ∀ (L M : List Addr) (σ : L2.St) (H : Hp), Sl K L M σ H ds → At L M ms H → ∀ Q : Bool → Hp → Prop, (∀ b H' ms', Wk L H H' → At L M ms' H' → R b ms' → Q b H') → tt σ H Q
def SlsOk (K : PySem.W.Frag) (L M : List Addr) (H : Hp) : List SD → List V → Prop
  | [], vs => vs = []
  | s :: r, vs => ∃ v t, vs = v :: t ∧ SlOk K L M H s v ∧ SlsOk K L M H r t
theorem SlsOk.mono {L M : List Addr} {ms : List MD} {H H' : Hp} (h : At L M ms H) (w : Wk L H H') : ∀ {as : List SD} {vs : List V}, SlsOk K L M H as vs → SlsOk K L M H' as vs
  | [], _, r => r
  | s :: r, _, ⟨v, t, e, a, b⟩ => ⟨v, t, e, a.mono h w, SlsOk.mono h w b⟩
def EA (K : PySem.W.Frag) (ta : TA) (ds : List SD) (ms : List MD) (R : List SD → List MD → Prop) : Prop :=
  ∀ (L M : List Addr) (σ : L2.St) (H : Hp), Sl K L M σ H ds → At L M ms H → ∀ Q : List V → Hp → Prop, (∀ as vs H' ms', Wk L H H' → At L M ms' H' → SlsOk K L M H' as vs → R as ms' → Q vs H') → ta σ H Q
/-- operations on values -/
def RR (K : PySem.W.Frag) (r : R2) (a b : SD) (ms : List MD) (R : RS) : Prop :=
  ∀ (L M : List Addr) (H : Hp) (x y : V), At L M ms H → SlOk K L M H a x → SlOk K L M H b y → ∀ Q : VK, (∀ s v H' ms', Wk L H H' → Out K L M H H' ms' v s → R s ms' → Q v H') → r x y H Q
def RU (K : PySem.W.Frag) (r : V → Hp → VK → Prop) (a : SD) (ms : List MD) (R : RS) : Prop :=
  ∀ (L M : List Addr) (H : Hp) (x : V), At L M ms H → SlOk K L M H a x → ∀ Q : VK, (∀ s v H' ms', Wk L H H' → Out K L M H H' ms' v s → R s ms' → Q v H') → r x H Q
def RC (K : PySem.W.Frag) (r : List V → Hp → VK → Prop) (as : List SD) (ms : List MD) (R : RS) : Prop :=
  ∀ (L M : List Addr) (H : Hp) (vs : List V), At L M ms H → SlsOk K L M H as vs → ∀ Q : VK, (∀ s v H' ms', Wk L H H' → Out K L M H H' ms' v s → R s ms' → Q v H') → r vs H Q

variable {te ta tb tc : TE} {tt tu : TT} {tA tB : TA} {ds : List SD} {ms : List MD} {R : RS}
theorem e_var {i : Nat} {x : PyData} (h : ds[i]? = some (.d x)) (r : R (.d x) ms) : E K (tVar i) ds ms R := fun L M σ H hS hA Q q => by
  obtain ⟨v, e, o⟩ := hS.get h (fun z => nomatch z)
  exact ⟨v, e, q _ v H ms (Wk.refl L H) (.of hA o) r⟩
theorem e_varm {i k : Nat} (h : ds[i]? = some (.m k)) (r : R (.m k) ms) : E K (tVar i) ds ms R := fun L M σ H hS hA Q q => by
  obtain ⟨v, e, o⟩ := hS.get h (fun z => nomatch z)
  exact ⟨v, e, q _ v H ms (Wk.refl L H) (.of hA o) r⟩
theorem e_vars {i : Nat} {ns : List Int} (h : ds[i]? = some (.s ns)) (r : R (.s ns) ms) : E K (tVar i) ds ms R := fun L M σ H hS hA Q q => by
  obtain ⟨v, e, o⟩ := hS.get h (fun z => nomatch z)
  exact ⟨v, e, q _ v H ms (Wk.refl L H) (.of hA o) r⟩
theorem e_int {i : Int} (r : R (.d (.int i)) ms) : E K (tC (.int i)) ds ms R := fun L M σ H hS hA Q q => q (.d (.int i)) _ H ms (Wk.refl L H) ⟨hA, .int i⟩ r
theorem e_bl {i : Bool} (r : R (.d (.bool i)) ms) : E K (tC (.bl i)) ds ms R := fun L M σ H hS hA Q q => q (.d (.bool i)) _ H ms (Wk.refl L H) ⟨hA, .bl i⟩ r
theorem e_non (r : R (.d .none) ms) : E K (tC .non) ds ms R := fun L M σ H hS hA Q q => q (.d .none) _ H ms (Wk.refl L H) ⟨hA, .non⟩ r
theorem e_str {x : Str} (r : R (.d (.str x)) ms) : E K (tC (.str x)) ds ms R := fun L M σ H hS hA Q q => q (.d (.str x)) _ H ms (Wk.refl L H) ⟨hA, .str x⟩ r
/-- two operands, then the operation -/
theorem e_op {r : R2} (h : E K ta ds ms fun a ms1 => E K tb ds ms1 fun b ms2 => RR K r (dd a) (dd b) ms2 R) : E K (tOp r ta tb) ds ms R := fun L M σ H hS hA Q q =>
  h L M σ H hS hA _ fun a x H1 ms1 w1 o1 h1 => h1 L M σ H1 (hS.mono hA w1) o1.at _ fun b y H2 ms2 w2 o2 h2 =>
    h2 L M H2 x y o2.at (o1.sl.mono o1.at w2) o2.sl Q fun s v H3 ms3 w3 o3 r3 => q s v H3 ms3 ((w1.trans w2).trans w3) (o3.back o2.at (w1.trans w2)) r3
theorem e_un {r : V → Hp → VK → Prop} (h : E K ta ds ms fun a ms1 => RU K r (dd a) ms1 R) : E K (tUn r ta) ds ms R := fun L M σ H hS hA Q q =>
  h L M σ H hS hA _ fun a x H1 ms1 w1 o1 h1 => h1 L M H1 x o1.at o1.sl Q fun s v H3 ms3 w3 o3 r3 => q s v H3 ms3 (w1.trans w3) (o3.back o1.at w1) r3
theorem ea_nil {R : List SD → List MD → Prop} (r : R [] ms) : EA K tNil ds ms R := fun L M σ H hS hA Q q => q [] [] H ms (Wk.refl L H) hA rfl r
theorem ea_cons {R : List SD → List MD → Prop} (h : E K ta ds ms fun a ms1 => EA K tA ds ms1 fun as ms2 => R (dd a :: as) ms2) : EA K (tCons ta tA) ds ms R := fun L M σ H hS hA Q q =>
  h L M σ H hS hA _ fun a x H1 ms1 w1 o1 h1 => h1 L M σ H1 (hS.mono hA w1) o1.at _ fun as vs H2 ms2 w2 a2 o2 r2 => q (dd a :: as) (x :: vs) H2 ms2 (w1.trans w2) a2 ⟨x, vs, rfl, o1.sl.mono o1.at w2, o2⟩ r2
theorem e_cb {r : List V → Hp → VK → Prop} (h : EA K tA ds ms fun as ms1 => RC K r as ms1 R) : E K (tCB r tA) ds ms R := fun L M σ H hS hA Q q =>
  h L M σ H hS hA _ fun as vs H1 ms1 w1 a1 o1 h1 => h1 L M H1 vs a1 o1 Q fun s v H3 ms3 w3 o3 r3 => q s v H3 ms3 (w1.trans w3) (o3.back a1 w1) r3
theorem SlsOk.data {L M : List Addr} {H : Hp} : ∀ {as : List PyData} {vs : List V}, SlsOk K L M H (as.map .d) vs → RpA M H vs as
  | [], _, h => by cases h; exact .nil
  | a :: r, _, ⟨v, t, e, x, y⟩ => by subst e; exact .cons x (SlsOk.data y)
/-- new tuples and lists -/
theorem e_tup (h : EA K tA ds ms fun as ms1 => ∃ xs, as = xs.map SD.d ∧ xs.length ≤ 10000 ∧ R (.d (.tuple xs)) ms1) : E K (tTup tA) ds ms R := fun L M σ H hS hA Q q =>
  h L M σ H hS hA _ fun as vs H1 ms1 w1 a1 o1 ⟨xs, e, hz, r⟩ => by
    subst e
    have hr := o1.data
    refine ⟨by rw [hr.length]; exact Nat.le_trans hz (by decide), fun p hp => ?_⟩
    refine q (.d (.tuple xs)) _ _ ms1 (w1.trans (Wk.new hp)) ⟨a1.new hp, ?_⟩ r
    exact .tup (a1.fresh hp) upd_same (RpA.to (a1.wk (Wk.new hp)) _ _ hr)
theorem out_new {L M : List Addr} {H H1 : Hp} {ms1 : List MD} {p : Addr} {xs : List V} {es : List PyData} (a1 : At L M ms1 H1) (w1 : Wk L H H1) (hp : H1 p = none) (hr : RpA M H1 xs es) : Out K L M H (upd H1 p (.lst xs)) ms1 (.ref p) (.f es) :=
  ⟨p, rfl, none_back a1 w1 (a1.fresh hp) hp, a1.fresh hp, a1.grow hp hr, a1.sub⟩
theorem out_newK {L M : List Addr} {H H1 : Hp} {ms1 : List MD} {p : Addr} {xs : List (Key × V)} {es : List (PyData × PyData)} (a1 : At L M ms1 H1) (w1 : Wk L H H1) (hp : H1 p = none) (hr : RpK M H1 xs es) : Out K L M H (upd H1 p (.dK xs)) ms1 (.ref p) (.g es) :=
  ⟨p, rfl, none_back a1 w1 (a1.fresh hp) hp, a1.fresh hp, a1.growK hp hr, a1.sub⟩
theorem e_lst (h : EA K tA ds ms fun as ms1 => ∃ xs, as = xs.map SD.d ∧ xs.length ≤ 10000 ∧ R (.f xs) ms1) : E K (tLst tA) ds ms R := fun L M σ H hS hA Q q =>
  h L M σ H hS hA _ fun as vs H1 ms1 w1 a1 o1 ⟨xs, e, hz, r⟩ => by
    subst e
    have hr := o1.data
    refine ⟨by rw [hr.length]; exact Nat.le_trans hz (by decide), fun p hp => ?_⟩
    exact q (.f xs) _ _ ms1 (w1.trans (Wk.new hp)) (out_new a1 w1 hp hr) r
/-! operations -/
theorem rr_I0 {g : Int → Int → Int} {a b : SD} (h : ∃ i j, a = .d (.int i) ∧ b = .d (.int j) ∧ R (.d (.int (g i j))) ms) : RR K (rI0 fun i j => .int (g i j)) a b ms R := fun L M H x y hA ha hb Q q => by
  obtain ⟨i, j, rfl, rfl, r⟩ := h
  cases ha; cases hb
  exact ⟨i, j, rfl, rfl, q (.d _) _ H ms (Wk.refl L H) ⟨hA, .int _⟩ r⟩
theorem rr_B0 {g : Int → Int → Bool} {a b : SD} (h : ∃ i j, a = .d (.int i) ∧ b = .d (.int j) ∧ R (.d (.bool (g i j))) ms) : RR K (rI0 fun i j => .bl (g i j)) a b ms R := fun L M H x y hA ha hb Q q => by
  obtain ⟨i, j, rfl, rfl, r⟩ := h
  cases ha; cases hb
  exact ⟨i, j, rfl, rfl, q (.d _) _ H ms (Wk.refl L H) ⟨hA, .bl _⟩ r⟩
theorem rr_I {C : Int → Int → Prop} {g : Int → Int → Int} {a b : SD} (h : ∃ i j, a = .d (.int i) ∧ b = .d (.int j) ∧ C i j ∧ R (.d (.int (g i j))) ms) : RR K (rI C fun i j => .int (g i j)) a b ms R := fun L M H x y hA ha hb Q q => by
  obtain ⟨i, j, rfl, rfl, c, r⟩ := h
  cases ha; cases hb
  exact ⟨i, j, rfl, rfl, c, q (.d _) _ H ms (Wk.refl L H) ⟨hA, .int _⟩ r⟩
theorem ru_I {g : Int → Int} {a : SD} (h : ∃ i, a = .d (.int i) ∧ R (.d (.int (g i))) ms) : RU K (rU fun i => .int (g i)) a ms R := fun L M H x hA ha Q q => by
  obtain ⟨i, rfl, r⟩ := h
  cases ha
  exact ⟨i, rfl, q (.d _) _ H ms (Wk.refl L H) ⟨hA, .int _⟩ r⟩
/-- a slot's datum, as it may be read -/
inductive Sv (ms : List MD) : SD → PyData → Prop
  | d (x : PyData) : Sv ms (.d x) x
  | m {k : Nat} {es : List PyData} : ms[k]? = some (.l es) → Sv ms (.m k) (.list es)
  | s (ns : List Int) : Sv ms (.s ns) (.list (ns.map .int))
section
variable {L M : List Addr} {H : Hp} {s : SD} {x : PyData} {v : V}
theorem Sv.lst {es : List PyData} (h : Sv ms s (.list es)) (hA : At L M ms H) (o : SlOk K L M H s v) : ∃ a xs, v = .ref a ∧ SqL K H a xs ∧ RpA M H xs es := by
  cases h with
  | d =>
    cases o with
    | lst n e r => exact ⟨_, _, rfl, SqL.of e, r⟩
  | m e =>
    obtain ⟨p, rfl, hp, hls⟩ := o
    obtain ⟨xs, e1, r⟩ := hA.get hp e
    exact ⟨p, xs, rfl, SqL.of e1, r⟩
  | s ns =>
    obtain ⟨a, rfl, ⟨_, q⟩ | q⟩ := o
    · exact ⟨a, _, rfl, .inl q, RpA.ints ns⟩
    · exact ⟨a, _, rfl, q H, RpA.ints ns⟩
theorem Sv.tup {es : List PyData} (h : Sv ms s (.tuple es)) (o : SlOk K L M H s v) : ∃ a xs, v = .ref a ∧ H a = some (.tup xs) ∧ RpA M H xs es := by
  cases h with
  | d =>
    cases o with
    | tup n e r => exact ⟨_, _, rfl, e, r⟩
theorem Sv.dp (h : Sv ms s x) (hA : At L M ms H) (o : SlOk K L M H s v) (c : x.canLay0 = true) : Dp K H v x := by
  cases h with
  | d => exact Rp.dp _ _ c o
  | m e =>
    obtain ⟨a, xs, rfl, q, r⟩ := Sv.lst (.m e) hA o
    exact .lst q (RpA.dp _ _ (by simpa [PyData.canLay0] using c) r)
  | s ns =>
    obtain ⟨a, xs, rfl, q, r⟩ := Sv.lst (.s ns) hA o
    exact .lst q (RpA.dp _ _ (by simpa [PyData.canLay0] using c) r)
theorem Sv.ty (h : Sv ms s x) (hA : At L M ms H) (o : SlOk K L M H s v) (hs : ∀ ns, s ≠ .s ns) : TyX K H v (.type (tyN x)) := by
  cases h with
  | d => exact Rp.ty o
  | m e =>
    obtain ⟨p, rfl, hp, hls⟩ := o
    obtain ⟨xs, e1, r⟩ := hA.get hp e
    exact .base (.lst e1)
  | s ns => exact absurd rfl (hs ns)
end
theorem rr_eq {a b : SD} (h : ∃ x y, Sv ms a x ∧ Sv ms b y ∧ SeqAt.shaped x = true ∧ SeqAt.shaped y = true ∧ R (.d (.bool (PyData.eqv x y))) ms) : RR K (rEqD K) a b ms R := fun L M H u v hA ha hb Q q => by
  obtain ⟨x, y, ea, eb, s1, s2, r⟩ := h
  exact ⟨x, y, ea.dp hA ha (SeqAt.canLay_of_shaped s1), eb.dp hA hb (SeqAt.canLay_of_shaped s2), s1, s2, q (.d _) _ H ms (Wk.refl L H) ⟨hA, .bl _⟩ r⟩
theorem rr_ne {a b : SD} (h : ∃ x y, Sv ms a x ∧ Sv ms b y ∧ SeqAt.shaped x = true ∧ SeqAt.shaped y = true ∧ R (.d (.bool (!PyData.eqv x y))) ms) : RR K (rNeD K) a b ms R := fun L M H u v hA ha hb Q q => by
  obtain ⟨x, y, ea, eb, s1, s2, r⟩ := h
  exact ⟨x, y, ea.dp hA ha (SeqAt.canLay_of_shaped s1), eb.dp hA hb (SeqAt.canLay_of_shaped s2), s1, s2, q (.d _) _ H ms (Wk.refl L H) ⟨hA, .bl _⟩ r⟩
end
end Hc

namespace Hc
open PySem PySem.Spec PyProof.Rows L2
section
variable {K : PySem.W.Frag} {te ta tb tc tl : TE} {tt tu : TT} {tA tB : TA} {ds : List SD} {ms : List MD} {R : RS}
/-! ### tests -/
theorem et_test {RB : Bool → List MD → Prop} (h : E K te ds ms fun s ms1 => ∃ b, s = .d (.bool b) ∧ RB b ms1) : ET K (tTest te) ds ms RB := fun L M σ H hS hA Q q =>
  h L M σ H hS hA _ fun s v H1 ms1 w o ⟨b, e, r⟩ => by
    subst e
    obtain ⟨a, z⟩ := o
    cases z
    exact ⟨b, rfl, q b H1 ms1 w a r⟩
theorem et_B {RB : Bool → List MD → Prop} (h : E K te ds ms fun s ms1 => ∃ b, s = .d (.bool b) ∧ RB b ms1) : ET K (L2.tB te) ds ms RB := fun L M σ H hS hA Q q =>
  h L M σ H hS hA _ fun s v H1 ms1 w o ⟨b, e, r⟩ => by
    subst e
    obtain ⟨a, z⟩ := o
    cases z
    exact ⟨b, rfl, q b H1 ms1 w a r⟩
theorem et_and {RB : Bool → List MD → Prop} (h : ET K tt ds ms fun b ms1 => (b = true → ET K tu ds ms1 RB) ∧ (b = false → RB false ms1)) : ET K (tAnd tt tu) ds ms RB := fun L M σ H hS hA Q q =>
  h L M σ H hS hA _ fun b H1 ms1 w a ⟨r1, r2⟩ => by
    cases b with
    | true =>
      show tu σ H1 Q
      exact r1 rfl L M σ H1 (hS.mono hA w) a Q fun c H2 ms2 w2 a2 r => q c H2 ms2 (w.trans w2) a2 r
    | false => exact q false H1 ms1 w a (r2 rfl)
theorem et_or {RB : Bool → List MD → Prop} (h : ET K tt ds ms fun b ms1 => (b = true → RB true ms1) ∧ (b = false → ET K tu ds ms1 RB)) : ET K (tOr tt tu) ds ms RB := fun L M σ H hS hA Q q =>
  h L M σ H hS hA _ fun b H1 ms1 w a ⟨r1, r2⟩ => by
    cases b with
    | false =>
      show tu σ H1 Q
      exact r2 rfl L M σ H1 (hS.mono hA w) a Q fun c H2 ms2 w2 a2 r => q c H2 ms2 (w.trans w2) a2 r
    | true => exact q true H1 ms1 w a (r1 rfl)
theorem et_not {RB : Bool → List MD → Prop} (h : ET K tt ds ms fun b ms1 => RB (!b) ms1) : ET K (tNot tt) ds ms RB := fun L M σ H hS hA Q q =>
  h L M σ H hS hA _ fun b H1 ms1 w a r => q (!b) H1 ms1 w a r
theorem et_yes {RB : Bool → List MD → Prop} (h : RB true ms) : ET K tYes ds ms RB := fun L M σ H hS hA Q q => q true H ms (Wk.refl L H) hA h
theorem e_and (h : E K ta ds ms fun s ms1 => ∃ b, s = .d (.bool b) ∧ (b = true → E K tb ds ms1 R) ∧ (b = false → R (.d (.bool false)) ms1)) : E K (tAndV ta tb) ds ms R := fun L M σ H hS hA Q q =>
  h L M σ H hS hA _ fun s v H1 ms1 w o ⟨b, e, r1, r2⟩ => by
    subst e
    obtain ⟨a, z⟩ := o
    cases z
    refine ⟨b, rfl, ?_⟩
    cases b with
    | true =>
      show tb σ H1 Q
      exact r1 rfl L M σ H1 (hS.mono hA w) a Q fun s v H2 ms2 w2 o2 r => q s v H2 ms2 (w.trans w2) (o2.back a w) r
    | false => exact q (.d (.bool false)) _ H1 ms1 w ⟨a, .bl false⟩ (r2 rfl)
theorem e_or (h : E K ta ds ms fun s ms1 => ∃ b, s = .d (.bool b) ∧ (b = true → R (.d (.bool true)) ms1) ∧ (b = false → E K tb ds ms1 R)) : E K (tOrV ta tb) ds ms R := fun L M σ H hS hA Q q =>
  h L M σ H hS hA _ fun s v H1 ms1 w o ⟨b, e, r1, r2⟩ => by
    subst e
    obtain ⟨a, z⟩ := o
    cases z
    refine ⟨b, rfl, ?_⟩
    cases b with
    | false =>
      show tb σ H1 Q
      exact r2 rfl L M σ H1 (hS.mono hA w) a Q fun s v H2 ms2 w2 o2 r => q s v H2 ms2 (w.trans w2) (o2.back a w) r
    | true => exact q (.d (.bool true)) _ H1 ms1 w ⟨a, .bl true⟩ (r1 rfl)
theorem e_not (h : E K ta ds ms fun s ms1 => ∃ b, s = .d (.bool b) ∧ R (.d (.bool (!b))) ms1) : E K (tNotV ta) ds ms R := fun L M σ H hS hA Q q =>
  h L M σ H hS hA _ fun s v H1 ms1 w o ⟨b, e, r⟩ => by
    subst e
    obtain ⟨a, z⟩ := o
    cases z
    exact ⟨b, rfl, q (.d (.bool (!b))) _ H1 ms1 w ⟨a, .bl (!b)⟩ r⟩
theorem e_if (h : ET K tt ds ms fun b ms1 => (b = true → E K ta ds ms1 R) ∧ (b = false → E K tb ds ms1 R)) : E K (tIf tt ta tb) ds ms R := fun L M σ H hS hA Q q =>
  h L M σ H hS hA _ fun b H1 ms1 w a ⟨r1, r2⟩ => by
    cases b with
    | true =>
      show ta σ H1 Q
      exact r1 rfl L M σ H1 (hS.mono hA w) a Q fun s v H2 ms2 w2 o2 r => q s v H2 ms2 (w.trans w2) (o2.back a w) r
    | false =>
      show tb σ H1 Q
      exact r2 rfl L M σ H1 (hS.mono hA w) a Q fun s v H2 ms2 w2 o2 r => q s v H2 ms2 (w.trans w2) (o2.back a w) r
theorem e_chain {r r' : R2} (h : E K ta ds ms fun a ms1 => E K tb ds ms1 fun b ms2 => RR K r (dd a) (dd b) ms2 fun s ms3 => ∃ k, s = .d (.bool k) ∧ (k = true → E K tc ds ms3 fun c ms4 => ∀ b', b' = dd b → RR K r' b' (dd c) ms4 R) ∧ (k = false → R (.d (.bool false)) ms3)) :
    E K (tChain r r' ta tb tc) ds ms R := fun L M σ H hS hA Q q =>
  h L M σ H hS hA _ fun a x H1 ms1 w1 o1 h1 => h1 L M σ H1 (hS.mono hA w1) o1.at _ fun b y H2 ms2 w2 o2 h2 =>
    h2 L M H2 x y o2.at (o1.sl.mono o1.at w2) o2.sl _ fun s z H3 ms3 w3 o3 ⟨k, e, k1, k2⟩ => by
      subst e
      obtain ⟨a3, zz⟩ := o3
      cases zz
      refine ⟨k, rfl, ?_⟩
      have w13 := (w1.trans w2).trans w3
      cases k with
      | true =>
        show tc σ H3 _
        exact k1 rfl L M σ H3 (hS.mono hA w13) a3 _ fun c u H4 ms4 w4 o4 h4 => h4 _ rfl L M H4 y u o4.at ((o2.sl.mono o2.at w3).mono a3 w4) o4.sl Q fun s v H5 ms5 w5 o5 r5 => q s v H5 ms5 ((w13.trans w4).trans w5) (o5.back o4.at (w13.trans w4)) r5
      | false => exact q (.d (.bool false)) _ H3 ms3 w13 ⟨a3, .bl false⟩ (k2 rfl)
/-! ### more operations -/
theorem atI_of {M : List Addr} {H : Hp} {xs : List V} {es : List PyData} {i : Int} {d : PyData} (r : RpA M H xs es) (h : atI es i = some d) : ∃ v, atI xs i = some v ∧ Rp M H v d := by
  unfold atI at h ⊢
  rw [r.length]
  cases e : ixN es.length i with
  | none => rw [e] at h; cases h
  | some j =>
    rw [e] at h
    obtain ⟨v, e1, e2⟩ := r.get (show es[j]? = some d from h)
    exact ⟨v, e1, e2⟩
theorem rr_ixL {a b : SD} (h : ∃ es i d, Sv ms a (.list es) ∧ b = .d (.int i) ∧ atI es i = some d ∧ R (.d d) ms) : RR K (rIxL K) a b ms R := fun L M H x y hA ha hb Q q => by
  obtain ⟨es, i, d, sa, rfl, e, r⟩ := h
  cases hb
  obtain ⟨p, xs, rfl, hq, hr⟩ := sa.lst hA ha
  obtain ⟨v, e1, e2⟩ := atI_of hr e
  exact ⟨p, xs, i, v, rfl, rfl, hq, e1, q (.d d) v H ms (Wk.refl L H) ⟨hA, e2⟩ r⟩
theorem rr_ixT {a b : SD} (h : ∃ es i d, Sv ms a (.tuple es) ∧ b = .d (.int i) ∧ atI es i = some d ∧ R (.d d) ms) : RR K (rIxT K) a b ms R := fun L M H x y hA ha hb Q q => by
  obtain ⟨es, i, d, sa, rfl, e, r⟩ := h
  cases hb
  obtain ⟨p, xs, rfl, hq, hr⟩ := sa.tup ha
  obtain ⟨v, e1, e2⟩ := atI_of hr e
  exact ⟨p, xs, i, v, rfl, rfl, SqT.of hq, e1, q (.d d) v H ms (Wk.refl L H) ⟨hA, e2⟩ r⟩
theorem rr_isB {a b : SD} (h : ∃ i j, a = .d (.bool i) ∧ b = .d (.bool j) ∧ R (.d (.bool (decide (i = j)))) ms) : RR K rIsB a b ms R := fun L M H x y hA ha hb Q q => by
  obtain ⟨i, j, rfl, rfl, r⟩ := h
  cases ha; cases hb
  exact ⟨i, j, rfl, rfl, q (.d _) _ H ms (Wk.refl L H) ⟨hA, .bl _⟩ r⟩
theorem rr_notB {a b : SD} (h : ∃ i j, a = .d (.bool i) ∧ b = .d (.bool j) ∧ R (.d (.bool (!decide (i = j)))) ms) : RR K rNotB a b ms R := fun L M H x y hA ha hb Q q => by
  obtain ⟨i, j, rfl, rfl, r⟩ := h
  cases ha; cases hb
  exact ⟨i, j, rfl, rfl, q (.d _) _ H ms (Wk.refl L H) ⟨hA, .bl _⟩ r⟩
theorem cat_lst {M : List Addr} {H : Hp} {x : V} {es : List PyData} (h : Rp M H x (.list es)) : ∃ p xs, x = .ref p ∧ H p = some (.lst xs) ∧ RpA M H xs es := by
  cases h with
  | lst n e r => exact ⟨_, _, rfl, e, r⟩
theorem rr_cat {a b : SD} (h : ∃ es fs, a = .d (.list es) ∧ b = .d (.list fs) ∧ es.length + fs.length ≤ 10000 ∧ R (.f (es ++ fs)) ms) : RR K rCat a b ms R := fun L M H x y hA ha hb Q q => by
  obtain ⟨es, fs, rfl, rfl, hz, r⟩ := h
  obtain ⟨p, xs, rfl, e1, r1⟩ := cat_lst ha
  obtain ⟨p2, ys, rfl, e2, r2⟩ := cat_lst hb
  refine ⟨p, p2, xs, ys, rfl, rfl, e1, e2, by rw [r1.length, r2.length]; exact Nat.le_trans hz (by decide), fun l hl => ?_⟩
  exact q (.f (es ++ fs)) _ _ ms (Wk.new hl) (out_new hA (Wk.refl L H) hl (r1.append r2)) r
/-! ### built-ins -/
theorem rc_abs {as : List SD} (h : ∃ i, as = [.d (.int i)] ∧ R (.d (.int (if i < 0 then -i else i))) ms) : RC K (fun xs H Q => ∃ i, xs = [.int i] ∧ Q (.int (if i < 0 then -i else i)) H) as ms R := fun L M H vs hA ha Q q => by
  obtain ⟨i, rfl, r⟩ := h
  obtain ⟨v, t, rfl, hv, rfl⟩ := ha
  cases hv
  exact ⟨i, rfl, q (.d _) _ H ms (Wk.refl L H) ⟨hA, .int _⟩ r⟩
theorem rc_max {as : List SD} (h : ∃ i j, as = [.d (.int i), .d (.int j)] ∧ R (.d (.int (if j > i then j else i))) ms) : RC K (fun xs H Q => ∃ i j, xs = [.int i, .int j] ∧ Q (.int (if j > i then j else i)) H) as ms R := fun L M H vs hA ha Q q => by
  obtain ⟨i, j, rfl, r⟩ := h
  obtain ⟨v, t, rfl, hv, v2, t2, rfl, hv2, rfl⟩ := ha
  cases hv; cases hv2
  exact ⟨i, j, rfl, q (.d _) _ H ms (Wk.refl L H) ⟨hA, .int _⟩ r⟩
theorem rc_min {as : List SD} (h : ∃ i j, as = [.d (.int i), .d (.int j)] ∧ R (.d (.int (if j < i then j else i))) ms) : RC K (fun xs H Q => ∃ i j, xs = [.int i, .int j] ∧ Q (.int (if j < i then j else i)) H) as ms R := fun L M H vs hA ha Q q => by
  obtain ⟨i, j, rfl, r⟩ := h
  obtain ⟨v, t, rfl, hv, v2, t2, rfl, hv2, rfl⟩ := ha
  cases hv; cases hv2
  exact ⟨i, j, rfl, q (.d _) _ H ms (Wk.refl L H) ⟨hA, .int _⟩ r⟩
theorem rc_len {as : List SD} (h : ∃ s es, as = [s] ∧ (Sv ms s (.list es) ∨ Sv ms s (.tuple es)) ∧ R (.d (.int es.length)) ms) : RC K (fun xs H Q => ∃ p ys, xs = [.ref p] ∧ (SqL K H p ys ∨ SqT K H p ys) ∧ Q (.int ys.length) H) as ms R := fun L M H vs hA ha Q q => by
  obtain ⟨s, es, rfl, sv, r⟩ := h
  obtain ⟨v, t, rfl, hv, rfl⟩ := ha
  rcases sv with sv | sv
  · obtain ⟨p, xs, rfl, hq, hr⟩ := sv.lst hA hv
    rw [← hr.length] at r
    exact ⟨p, xs, rfl, .inl hq, q (.d _) _ H ms (Wk.refl L H) ⟨hA, .int _⟩ r⟩
  · obtain ⟨p, xs, rfl, hq, hr⟩ := sv.tup hv
    rw [← hr.length] at r
    exact ⟨p, xs, rfl, .inr (SqT.of hq), q (.d _) _ H ms (Wk.refl L H) ⟨hA, .int _⟩ r⟩
theorem rc_tuple {as : List SD} (h : ∃ s es, as = [s] ∧ (Sv ms s (.list es) ∨ Sv ms s (.tuple es)) ∧ R (.d (.tuple es)) ms) :
    RC K (fun xs H Q => ∃ p ys, xs = [.ref p] ∧ ((SqL K H p ys ∧ ∀ l, H l = none → Q (.ref l) (upd H l (.tup ys))) ∨ (SqT K H p ys ∧ Q (.ref p) H))) as ms R := fun L M H vs hA ha Q q => by
  obtain ⟨s, es, rfl, sv, r⟩ := h
  obtain ⟨v, t, rfl, hv, rfl⟩ := ha
  rcases sv with sv | sv
  · obtain ⟨p, xs, rfl, hq, hr⟩ := sv.lst hA hv
    refine ⟨p, xs, rfl, .inl ⟨hq, fun l hl => ?_⟩⟩
    exact q (.d (.tuple es)) _ _ ms (Wk.new hl) ⟨hA.new hl, .tup (hA.fresh hl) upd_same (RpA.to (hA.wk (Wk.new hl)) _ _ hr)⟩ r
  · have hv2 : Rp M H v (.tuple es) := by cases sv; exact hv
    obtain ⟨p, xs, rfl, hq, hr⟩ := sv.tup hv
    exact ⟨p, xs, rfl, .inr ⟨SqT.of hq, q (.d (.tuple es)) _ H ms (Wk.refl L H) ⟨hA, hv2⟩ r⟩⟩
theorem rc_list {as : List SD} (h : ∃ s es, as = [s] ∧ (Sv ms s (.list es) ∨ Sv ms s (.tuple es)) ∧ R (.f es) ms) :
    RC K (fun xs H Q => ∃ p ys, xs = [.ref p] ∧ (SqL K H p ys ∨ SqT K H p ys) ∧ ∀ l, H l = none → Q (.ref l) (upd H l (.lst ys))) as ms R := fun L M H vs hA ha Q q => by
  obtain ⟨s, es, rfl, sv, r⟩ := h
  obtain ⟨v, t, rfl, hv, rfl⟩ := ha
  rcases sv with sv | sv
  · obtain ⟨p, xs, rfl, hq, hr⟩ := sv.lst hA hv
    exact ⟨p, xs, rfl, .inl hq, fun l hl => q (.f es) _ _ ms (Wk.new hl) (out_new hA (Wk.refl L H) hl hr) r⟩
  · obtain ⟨p, xs, rfl, hq, hr⟩ := sv.tup hv
    exact ⟨p, xs, rfl, .inr (SqT.of hq), fun l hl => q (.f es) _ _ ms (Wk.new hl) (out_new hA (Wk.refl L H) hl hr) r⟩
theorem rc_all {as : List SD} (h : ∃ (s : SD) (bs : List Bool), as = [s] ∧ Sv ms s (.list (bs.map .bool)) ∧ R (.d (.bool (bs.all id))) ms) : RC K (rAll K) as ms R := fun L M H vs hA ha Q q => by
  obtain ⟨s, bs, rfl, sv, r⟩ := h
  obtain ⟨v, t, rfl, hv, rfl⟩ := ha
  obtain ⟨p, xs, rfl, hq, hr⟩ := sv.lst hA hv
  rw [RpA.bools_inv hr] at hq
  exact ⟨p, bs, rfl, hq, q (.d _) _ H ms (Wk.refl L H) ⟨hA, .bl _⟩ r⟩
/-- isinstance -/
def inst (d : PyData) (T : String) : Bool := (kitB (tyN d) T).getD false
theorem e_isi {T : String} (hT : ∀ d, kitB (tyN d) T = some (inst d T)) (h : E K te ds ms fun s ms1 => ∃ x, Sv ms1 (dd s) x ∧ (∀ ns, dd s ≠ .s ns) ∧ R (.d (.bool (inst x T))) ms1) : E K (tCB (rIsi K) (tCons te (tCons (tC (.ty T)) tNil))) ds ms R := fun L M σ H hS hA Q q =>
  h L M σ H hS hA _ fun s v H1 ms1 w o ⟨x, sv, hs, r⟩ => ⟨v, .ty T, .type (tyN x), .type T, inst x T, rfl, .ty T, sv.ty o.at o.sl hs, kit_ty (hT x), q (.d _) _ H1 ms1 w ⟨o.at, .bl _⟩ r⟩
theorem e_isiT {T U : String} (hT : ∀ d, kitB (tyN d) T = some (inst d T)) (hU : ∀ d, kitB (tyN d) U = some (inst d U)) (h : E K te ds ms fun s ms1 => ∃ x, Sv ms1 (dd s) x ∧ (∀ ns, dd s ≠ .s ns) ∧ R (.d (.bool (inst x T || inst x U))) ms1) :
    E K (tCB (rIsiT K) (tCons te (tCons (tTup (tCons (tC (.ty T)) (tCons (tC (.ty U)) tNil))) tNil))) ds ms R := fun L M σ H hS hA Q q =>
  h L M σ H hS hA _ fun s v H1 ms1 w o ⟨x, sv, hs, r⟩ => ⟨by show 2 ≤ sizeLine; decide, fun p hp => by
    have a1 := o.at
    have k1 : PySem.W.kitAny K (.type (tyN x)) [.type T, .type U] = some (inst x T || inst x U) := by
      refine kitAny_cons (kit_ty (hT x)) (fun hb => ?_) (fun hb => by rw [hb]; rfl)
      rw [hb, Bool.false_or]
      refine kitAny_cons (kit_ty (hU x)) (fun hb => ?_) (fun hb => hb)
      rw [hb]; rfl
    have ty : TyX K (upd H1 p (.tup [.ty T, .ty U])) v (.type (tyN x)) := sv.ty (a1.new hp) (o.sl.mono a1 (Wk.new hp)) hs
    exact ⟨v, p, [.ty T, .ty U], .type (tyN x), [.type T, .type U], inst x T || inst x U, rfl, upd_same, .cons (.ty T) (.cons (.ty U) .nil), ty, k1, q (.d _) _ _ ms1 (w.trans (Wk.new hp)) ⟨a1.new hp, .bl _⟩ r⟩⟩
/-! ### methods of lists that may change -/
theorem e_pop (h : E K ta ds ms fun s ms1 => ∃ k es d, s = .m k ∧ ms1[k]? = some (.l (es ++ [d])) ∧ R (.d d) (ms1.set k (.l es))) : E K (tBM0 K "list" rPop ta) ds ms R := fun L M σ H hS hA Q q =>
  h L M σ H hS hA _ fun s v H1 ms1 w o ⟨k, es, d, e, em, r⟩ => by
    subst e
    obtain ⟨a1, p, rfl, hp, hls⟩ := o
    obtain ⟨xs, e1, r1⟩ := a1.get hp em
    have hpL : p ∈ L := List.mem_of_getElem? hp
    have hl : xs.length = es.length + 1 := by rw [r1.length]; simp
    obtain ⟨y, e2, r2⟩ := r1.get (i := es.length) (d := d) (by simp)
    refine ⟨.inl ⟨rfl, xs, SqL.of e1⟩, p, xs, y, rfl, rfl, e1, by rw [hl]; exact e2, ?_⟩
    have r3 : RpA M H1 xs.dropLast es := by
      have z := r1.take es.length
      rw [List.take_left] at z
      rw [List.dropLast_eq_take, hl]
      exact z
    exact q (.d d) y _ _ (w.trans (Wk.mut hpL e1)) ⟨a1.put hp e1 r3, Rp.to (a1.wk (Wk.mut hpL e1)) _ _ r2⟩ r
theorem e_popAt0 (h : E K ta ds ms fun s ms1 => ∃ k es d, s = .m k ∧ ms1[k]? = some (.l (d :: es)) ∧ R (.d d) (ms1.set k (.l es))) : E K (tBM K "list" rPopAt ta (tCons (tC (.int 0)) tNil)) ds ms R := fun L M σ H hS hA Q q =>
  h L M σ H hS hA _ fun s v H1 ms1 w o ⟨k, es, d, e, em, r⟩ => by
    subst e
    obtain ⟨a1, p, rfl, hp, hls⟩ := o
    obtain ⟨xs, e1, r1⟩ := a1.get hp em
    have hpL : p ∈ L := List.mem_of_getElem? hp
    cases r1 with
    | @cons y ys _ _ r2 r3 =>
      refine ⟨.inl ⟨rfl, _, SqL.of e1⟩, p, y :: ys, 0, 0, y, rfl, rfl, e1, by decide, by decide, ?_, rfl, ?_⟩
      · unfold seqIndex?
        simp
      · exact q (.d d) y _ _ (w.trans (Wk.mut hpL e1)) ⟨a1.put hp e1 r3, Rp.to (a1.wk (Wk.mut hpL e1)) _ _ r2⟩ r
theorem e_append (h : E K ta ds ms fun s ms1 => ∃ k, s = .m k ∧ E K te ds ms1 fun x ms2 => ∃ d es, dd x = .d d ∧ ms2[k]? = some (.l es) ∧ es.length < 10000 ∧ R (.d .none) (ms2.set k (.l (es ++ [d])))) : E K (tBM K "list" rAppend ta (tCons te tNil)) ds ms R := fun L M σ H hS hA Q q =>
  h L M σ H hS hA _ fun s v H1 ms1 w o ⟨k, e, h2⟩ => by
    subst e
    obtain ⟨a1, p, rfl, hp, hls⟩ := o
    have hpL : p ∈ L := List.mem_of_getElem? hp
    have hk : k < ms1.length := by rw [← a1.ln]; exact (List.getElem?_eq_some_iff.mp hp).1
    · obtain ⟨xs0, e0⟩ := hls
      refine ⟨.inl ⟨rfl, xs0, SqL.of e0⟩, ?_⟩
      refine h2 L M σ H1 (hS.mono hA w) a1 _ fun x y H2 ms2 w2 o2 ⟨d, es, ed, em, hz, r⟩ => ?_
      have a2 := o2.at
      have ry := o2.sl
      rw [ed] at ry
      obtain ⟨xs, e1, r1⟩ := a2.get hp em
      refine ⟨p, xs, y, rfl, rfl, e1, by rw [r1.length]; exact Nat.lt_trans hz (by decide), ?_⟩
      exact q (.d .none) .non _ _ ((w.trans w2).trans (Wk.mut hpL e1)) ⟨a2.put hp e1 (r1.append (.cons ry .nil)), .non⟩ r
/-! ### calls of the program's own defs -/
abbrev Ph := List SD → List MD → RS → Prop
def SpD (K : PySem.W.Frag) (Φ : Ph) : Sp := fun vs H Q _ => ∃ L M ms as R, At L M ms H ∧ SlsOk K L M H as vs ∧ Φ as ms R ∧ ∀ s v H' ms', Wk L H H' → Out K L M H H' ms' v s → R s ms' → Q v H'
theorem e_call {Φ : Ph} {E0 : XK} (h : EA K tA ds ms fun as ms1 => Φ as ms1 R) : E K (tCall (SpD K Φ) [] E0 tA) ds ms R := fun L M σ H hS hA Q q =>
  h L M σ H hS hA _ fun as vs H1 ms1 w1 a1 o1 h1 => by
    rw [List.append_nil]
    exact ⟨L, M, ms1, as, R, a1, o1, h1, fun s v H3 ms3 w3 o3 r3 => q s v H3 ms3 (w1.trans w3) (o3.back a1 w1) r3⟩
/-! ### statements -/
structure Po where
  nx : List SD → List MD → Prop
  rt : RS
  bk : List SD → List MD → Prop
  ct : List SD → List MD → Prop
def Nx (K : PySem.W.Frag) (L M : List Addr) (H : Hp) (N : List SD → List MD → Prop) (C : L2.St → Hp → Prop) : Prop := ∀ σ' H' ds' ms', Wk L H H' → Sl K L M σ' H' ds' → At L M ms' H' → N ds' ms' → C σ' H'
def Rx (K : PySem.W.Frag) (L M : List Addr) (H : Hp) (R : RS) (Q : VK) : Prop := ∀ s v H' ms', Wk L H H' → Out K L M H H' ms' v s → R s ms' → Q v H'
def S (K : PySem.W.Frag) (t : TS) (ds : List SD) (ms : List MD) (P : Po) : Prop :=
  ∀ (L M : List Addr) (σ : L2.St) (H : Hp), Sl K L M σ H ds → At L M ms H → ∀ D : Ends, Nx K L M H P.nx D.nx → Rx K L M H P.rt D.rt → Nx K L M H P.bk D.bk → Nx K L M H P.ct D.ct → t D σ H
section
variable {L M : List Addr} {H H1 : Hp} {N : List SD → List MD → Prop} {C : L2.St → Hp → Prop} {Q : VK} {ms1 : List MD}
theorem Nx.on (w : Wk L H H1) (h : Nx K L M H N C) : Nx K L M H1 N C := fun σ' H' ds' ms' w2 => h σ' H' ds' ms' (w.trans w2)
theorem Rx.on (a : At L M ms1 H1) (w : Wk L H H1) (h : Rx K L M H R Q) : Rx K L M H1 R Q := fun s v H' ms' w2 o r => h s v H' ms' (w.trans w2) (o.back a w) r
end
variable {t u : TS} {P : Po}
theorem s_next (h : P.nx ds ms) : S K tNext ds ms P := fun L M σ H hS hA D n _ _ _ => n σ H ds ms (Wk.refl L H) hS hA h
theorem s_seq (h : S K t ds ms { P with nx := fun ds1 ms1 => S K u ds1 ms1 P }) : S K (tSeq t u) ds ms P := fun L M σ H hS hA D n r b c =>
  h L M σ H hS hA { D with nx := u D } (fun σ1 H1 ds1 ms1 w s1 a1 h1 => h1 L M σ1 H1 s1 a1 D (n.on w) (r.on a1 w) (b.on w) (c.on w)) r b c
theorem s_asg {i : Nat} (h : E K te ds ms fun s ms1 => P.nx (ds.set i (dd s)) ms1) : S K (tAsg te (gName i)) ds ms P := fun L M σ H hS hA D n r b c =>
  h L M σ H hS hA _ fun s v H1 ms1 w o h1 => n _ H1 _ ms1 w ((hS.mono hA w).set i o.sl) o.at h1
theorem s_ret (h : E K te ds ms P.rt) : S K (tRet te) ds ms P := fun L M σ H hS hA D n r b c => h L M σ H hS hA _ fun s v H1 ms1 w o h1 => r s v H1 ms1 w o h1
theorem s_drop (h : E K te ds ms fun _ ms1 => P.nx ds ms1) : S K (tDrop te) ds ms P := fun L M σ H hS hA D n r b c =>
  h L M σ H hS hA _ fun s v H1 ms1 w o h1 => n σ H1 ds ms1 w (hS.mono hA w) o.at h1
theorem s_if (h : ET K tt ds ms fun b ms1 => (b = true → S K t ds ms1 P) ∧ (b = false → S K u ds ms1 P)) : S K (tIfS tt t u) ds ms P := fun L M σ H hS hA D n r b c =>
  h L M σ H hS hA _ fun k H1 ms1 w a ⟨h1, h2⟩ => by
    cases k with
    | true => exact h1 rfl L M σ H1 (hS.mono hA w) a D (n.on w) (r.on a w) (b.on w) (c.on w)
    | false => exact h2 rfl L M σ H1 (hS.mono hA w) a D (n.on w) (r.on a w) (b.on w) (c.on w)
theorem s_par {i j : Nat} (h : EA K tA ds ms fun as ms1 => ∃ x y, as = [x, y] ∧ P.nx ((ds.set i x).set j y) ms1) : S K (tPar i j tA) ds ms P := fun L M σ H hS hA D n r b c =>
  h L M σ H hS hA _ fun as vs H1 ms1 w a o ⟨x, y, e, h1⟩ => by
    subst e
    obtain ⟨v1, t1, rfl, o1, v2, t2, rfl, o2, rfl⟩ := o
    exact ⟨v1, v2, rfl, n _ H1 _ ms1 w (((hS.mono hA w).set i o1).set j o2) a h1⟩
/-- targets: js the slots that are stored -/
def EG (K : PySem.W.Frag) (g : TG) (js : List Nat) (x : SD) (ds : List SD) (ms : List MD) (N : List SD → List MD → Prop) : Prop :=
  ∀ (L M : List Addr) (σ : L2.St) (H : Hp) (v : V), Sl K L M σ H ds → At L M ms H → SlOk K L M H x v → ∀ C : L2.St → Hp → Prop, (∀ σ' ds', Sl K L M σ' H ds' → (∀ vs : List Nat, (∀ j ∈ js, j ∈ vs) → L2.wipe σ' vs = L2.wipe σ vs) → N ds' ms → C σ' H) → g v σ H C
def EGs (K : PySem.W.Frag) (g : TGs) (js : List Nat) (xs : List PyData) (ds : List SD) (ms : List MD) (N : List SD → List MD → Prop) : Prop :=
  ∀ (L M : List Addr) (σ : L2.St) (H : Hp) (vs : List V), Sl K L M σ H ds → At L M ms H → RpA M H vs xs → ∀ C : L2.St → Hp → Prop, (∀ σ' ds', Sl K L M σ' H ds' → (∀ vs : List Nat, (∀ j ∈ js, j ∈ vs) → L2.wipe σ' vs = L2.wipe σ vs) → N ds' ms → C σ' H) → g vs σ H C
theorem wipe_get (σ : L2.St) (i : Nat) : ∀ vs : List Nat, (L2.wipe σ vs)[i]? = if i ∈ vs then (if i < σ.length then some none else none) else σ[i]?
  | [] => by simp [L2.wipe]
  | v :: vs => by
    unfold L2.wipe
    by_cases e : v = i
    · subst e
      rw [List.getElem?_set, if_pos rfl, if_pos List.mem_cons_self, wipe_length]
    · rw [List.getElem?_set_ne e, wipe_get σ i vs]
      by_cases h : i ∈ vs
      · rw [if_pos h, if_pos (List.mem_cons_of_mem _ h)]
      · rw [if_neg h, if_neg (fun z => (List.mem_cons.mp z).elim (fun z => e z.symm) h)]
theorem wipe_set (σ : L2.St) (j : Nat) (o : Option V) (vs : List Nat) (h : j ∈ vs) : L2.wipe (σ.set j o) vs = L2.wipe σ vs := by
  apply List.ext_getElem?
  intro i
  rw [wipe_get, wipe_get, List.length_set]
  by_cases e : i ∈ vs
  · rw [if_pos e, if_pos e]
  · rw [if_neg e, if_neg e, List.getElem?_set_ne (fun z : j = i => e (by rw [← z]; exact h))]
variable {N : List SD → List MD → Prop}
theorem eg_name {i : Nat} {x : SD} (h : N (ds.set i x) ms) : EG K (gName i) [i] x ds ms N := fun L M σ H v hS hA ho C c =>
  c _ _ (hS.set i ho) (fun vs hv => wipe_set σ i (some v) vs (hv i (by simp))) h
theorem egs_nil (h : N ds ms) : EGs K gNil [] [] ds ms N := fun L M σ H vs hS hA hr C c => by
  cases hr
  exact ⟨rfl, c σ ds hS (fun _ _ => rfl) h⟩
theorem egs_cons {g : TG} {gs : TGs} {js js' : List Nat} {x : PyData} {xs : List PyData} (h : EG K g js (.d x) ds ms fun ds1 ms1 => EGs K gs js' xs ds1 ms1 N) : EGs K (gCons g gs) (js ++ js') (x :: xs) ds ms N := fun L M σ H vs hS hA hr C c => by
  cases hr with
  | @cons v r _ _ r1 r2 =>
    refine ⟨v, r, rfl, ?_⟩
    refine h L M σ H v hS hA r1 _ fun σ1 ds1 s1 w1 h1 => ?_
    refine h1 L M σ1 H r s1 hA r2 C fun σ2 ds2 s2 w2 h2 => ?_
    exact c σ2 ds2 s2 (fun vs hv => (w2 vs fun j hj => hv j (List.mem_append_right _ hj)).trans (w1 vs fun j hj => hv j (List.mem_append_left _ hj))) h2
theorem eg_tup {gs : TGs} {js : List Nat} {n : Nat} {xs : List PyData} (hn : xs.length = n) (h : EGs K gs js xs ds ms N) : EG K (gTup K n gs) js (.d (.tuple xs)) ds ms N := fun L M σ H v hS hA ho C c => by
  obtain ⟨a, ys, rfl, e, r⟩ := Sv.tup (ms := ms) (K := K) (L := L) (.d (.tuple xs)) ho
  exact ⟨a, ys, rfl, SqT.of e, by rw [r.length]; exact hn, h L M σ H ys hS hA r C c⟩
theorem s_asgG {g : TG} {js : List Nat} (h : E K te ds ms fun s ms1 => EG K g js (dd s) ds ms1 P.nx) : S K (tAsg te g) ds ms P := fun L M σ H hS hA D n r b c =>
  h L M σ H hS hA _ fun s v H1 ms1 w o h1 => h1 L M σ H1 v (hS.mono hA w) o.at o.sl _ fun σ' ds' s' _ h2 => n σ' H1 ds' ms1 w s' o.at h2
/-- xs[i] = e, of a list that may change -/
theorem s_setL {to ti : TE} (h : E K te ds ms fun x ms1 => ∃ d, dd x = .d d ∧ E K to ds ms1 fun s ms2 => ∃ k, s = .m k ∧ E K ti ds ms2 fun y ms3 => ∃ (i : Int) (j : Nat) (es : List PyData), y = .d (.int i) ∧ ms3[k]? = some (.l es) ∧ ixN es.length i = some j ∧ P.nx ds (ms3.set k (.l (es.set j d)))) :
    S K (tAsg te (gSub to ti rSetL)) ds ms P := fun L M σ H hS hA D n r b c =>
  h L M σ H hS hA _ fun x v H1 ms1 w1 o1 ⟨d, ed, h1⟩ => h1 L M σ H1 (hS.mono hA w1) o1.at _ fun s v2 H2 ms2 w2 o2 ⟨k, ek, h2⟩ =>
    h2 L M σ H2 ((hS.mono hA w1).mono o1.at w2) o2.at _ fun y v3 H3 ms3 w3 o3 ⟨i, j, es, ey, em, hj, h3⟩ => by
      have rv := (o1.sl.mono o1.at w2).mono o2.at w3
      rw [ed] at rv
      have a3 := o3.at
      subst ey ek
      obtain ⟨_, p, rfl, hp, hls⟩ := o2
      obtain ⟨_, z⟩ := o3
      cases z
      have hpL : p ∈ L := List.mem_of_getElem? hp
      obtain ⟨xs, e1, r1⟩ := a3.get hp em
      refine ⟨p, xs, i, j, rfl, rfl, e1, by rw [r1.length]; exact hj, ?_⟩
      have w13 := ((w1.trans w2).trans w3).trans (Wk.mut (H := H3) (o := .lst (xs.set j v)) hpL e1)
      exact n σ _ ds _ w13 (hS.mono hA w13) (a3.put hp e1 (r1.set j rv)) h3
/-! ### loops -/
section
variable {L M : List Addr} {H H1 : Hp}
/-- a source that stands still -/
inductive Sw : SD → List PyData → Prop
  | d (es : List PyData) : Sw (.d (.list es)) es
  | s (ns : List Int) : Sw (.s ns) (ns.map .int)
theorem Sw.is {s : SD} {es : List PyData} {v : V} (h : Sw s es) (hA : At L M ms H) (o : SlOk K L M H s v) : ∃ a xs, v = .ref a ∧ RpA M H xs es ∧ ∀ H', Wk L H H' → SqL K H' a xs := by
  cases h with
  | d =>
    cases o with
    | @lst a xs _ n e r => exact ⟨a, xs, rfl, r, fun H' w => SqL.of (w a _ (fun z => n (hA.sub a z)) e)⟩
  | s ns =>
    obtain ⟨a, rfl, ⟨n, q⟩ | q⟩ := o
    · refine ⟨a, _, rfl, RpA.ints ns, fun H' w => ?_⟩
      have n' : a ∉ L := fun z => n (hA.sub a z)
      rcases q with q | ⟨o, q⟩
      · exact .inl (.inl (w _ _ n' q))
      · exact .inl (.inr ⟨o, w _ _ n' q⟩)
    · exact ⟨a, _, rfl, RpA.ints ns, fun H' _ => q H'⟩
end
theorem s_forL {g : TG} {js : List Nat} (h : E K tl ds ms fun s ms0 => ∃ es, Sw (dd s) es ∧ ∃ Pv : Nat → List SD → List MD → Prop, Pv 0 ds ms0 ∧
      (∀ i e ds1 ms1, es[i]? = some e → Pv i ds1 ms1 → EG K g js (.d e) ds1 ms1 fun ds2 ms2 => S K t ds2 ms2 { P with nx := Pv (i + 1), ct := Pv (i + 1), bk := P.nx }) ∧ ∀ ds1 ms1, Pv es.length ds1 ms1 → P.nx ds1 ms1) :
    S K (tFor (iList K tl) g t) ds ms P := fun L M σ H hS hA D n r b c =>
  h L M σ H hS hA _ fun s v H1 ms0 w o ⟨es, sw, Pv, h0, hs, hd⟩ => by
    have a1 := o.at
    obtain ⟨a, xs, rfl, rx, hx⟩ := sw.is a1 o.sl
    refine ⟨a, rfl, ⟨xs, hx H1 (Wk.refl L H1)⟩, for_list (xs := xs) (fun i σ' H' => ∃ ds' ms', Wk L H1 H' ∧ Sl K L M σ' H' ds' ∧ At L M ms' H' ∧ Pv i ds' ms') ⟨ds, ms0, Wk.refl L H1, hS.mono hA w, a1, h0⟩ (fun i σ' H' _ ⟨_, _, w', _⟩ => hx H' w') (fun i x σ' H' hi ⟨ds', ms', w', s', a', p'⟩ => ?_) (fun σ' H' ⟨ds', ms', w', s', a', p'⟩ => ?_)⟩
    · obtain ⟨e, e1, e2⟩ := rx.get' hi
      refine hs i e ds' ms' e1 p' L M σ' H' x s' a' (Rp.to (a1.wk w') _ _ e2) _ fun σ2 ds2 s2 _ h2 => ?_
      refine h2 L M σ2 H' s2 a' _ (fun σ3 H3 ds3 ms3 w3 s3 a3 p3 => ⟨ds3, ms3, w'.trans w3, s3, a3, p3⟩) (r.on a' (w.trans w')) (n.on (w.trans w')) (fun σ3 H3 ds3 ms3 w3 s3 a3 p3 => ⟨ds3, ms3, w'.trans w3, s3, a3, p3⟩)
    · rw [rx.length] at p'
      exact n σ' H' ds' ms' (w.trans w') s' a' (hd ds' ms' p')
theorem s_forT {g : TG} {js : List Nat} (h : E K tl ds ms fun s ms0 => ∃ es, s = .d (.tuple es) ∧ ∃ Pv : Nat → List SD → List MD → Prop, Pv 0 ds ms0 ∧
      (∀ i e ds1 ms1, es[i]? = some e → Pv i ds1 ms1 → EG K g js (.d e) ds1 ms1 fun ds2 ms2 => S K t ds2 ms2 { P with nx := Pv (i + 1), ct := Pv (i + 1), bk := P.nx }) ∧ ∀ ds1 ms1, Pv es.length ds1 ms1 → P.nx ds1 ms1) :
    S K (tFor (iTup K tl) g t) ds ms P := fun L M σ H hS hA D n r b c =>
  h L M σ H hS hA _ fun s v H1 ms0 w o ⟨es, es', Pv, h0, hs, hd⟩ => by
    subst es'
    obtain ⟨a1, z⟩ := o
    cases z with
    | @tup a xs _ na e rx =>
    have hx : ∀ H', Wk L H1 H' → SqT K H' a xs := fun H' w' => SqT.of (w' a _ (fun z => na (a1.sub a z)) e)
    refine ⟨a, rfl, ⟨xs, hx H1 (Wk.refl L H1)⟩, for_tup (xs := xs) (fun i σ' H' => ∃ ds' ms', Wk L H1 H' ∧ Sl K L M σ' H' ds' ∧ At L M ms' H' ∧ Pv i ds' ms') ⟨ds, ms0, Wk.refl L H1, hS.mono hA w, a1, h0⟩ (fun i σ' H' _ ⟨_, _, w', _⟩ => hx H' w') (fun i x σ' H' hi ⟨ds', ms', w', s', a', p'⟩ => ?_) (fun σ' H' ⟨ds', ms', w', s', a', p'⟩ => ?_)⟩
    · obtain ⟨e, e1, e2⟩ := rx.get' hi
      refine hs i e ds' ms' e1 p' L M σ' H' x s' a' (Rp.to (a1.wk w') _ _ e2) _ fun σ2 ds2 s2 _ h2 => ?_
      refine h2 L M σ2 H' s2 a' _ (fun σ3 H3 ds3 ms3 w3 s3 a3 p3 => ⟨ds3, ms3, w'.trans w3, s3, a3, p3⟩) (r.on a' (w.trans w')) (n.on (w.trans w')) (fun σ3 H3 ds3 ms3 w3 s3 a3 p3 => ⟨ds3, ms3, w'.trans w3, s3, a3, p3⟩)
    · rw [rx.length] at p'
      exact n σ' H' ds' ms' (w.trans w') s' a' (hd ds' ms' p')
theorem s_forR {g : TG} {js : List Nat} (h : EA K tA ds ms fun as ms0 => ∃ n : Int, as = [.d (.int n)] ∧ (-(2 ^ 62) ≤ n ∧ n < 2 ^ 62) ∧ ∃ Pv : Nat → List SD → List MD → Prop, Pv 0 ds ms0 ∧
      (∀ i ds1 ms1, i < n.toNat → Pv i ds1 ms1 → EG K g js (.d (.int i)) ds1 ms1 fun ds2 ms2 => S K t ds2 ms2 { P with nx := Pv (i + 1), ct := Pv (i + 1), bk := P.nx }) ∧ ∀ ds1 ms1, Pv n.toNat ds1 ms1 → P.nx ds1 ms1) :
    S K (tFor (iRng1 tA) g t) ds ms P := fun L M σ H hS hA D n r b c =>
  h L M σ H hS hA _ fun as vs H1 ms0 w a1 o ⟨m, ea, hm, Pv, h0, hs, hd⟩ => by
    subst ea
    obtain ⟨v, t1, rfl, hv, rfl⟩ := o
    cases hv
    refine ⟨m, rfl, hm.1, hm.2, for_range (fun i σ' H' => ∃ ds' ms', Wk L H1 H' ∧ Sl K L M σ' H' ds' ∧ At L M ms' H' ∧ Pv i ds' ms') ⟨ds, ms0, Wk.refl L H1, hS.mono hA w, a1, h0⟩ (fun i σ' H' hi ⟨ds', ms', w', s', a', p'⟩ => ?_) (fun σ' H' ⟨ds', ms', w', s', a', p'⟩ => ?_)⟩
    · refine hs i ds' ms' hi p' L M σ' H' _ s' a' (by show Rp M H' (.int (0 + (i : Int))) (.int i); rw [Int.zero_add]; exact .int _) _ fun σ2 ds2 s2 _ h2 => ?_
      refine h2 L M σ2 H' s2 a' _ (fun σ3 H3 ds3 ms3 w3 s3 a3 p3 => ⟨ds3, ms3, w'.trans w3, s3, a3, p3⟩) (r.on a' (w.trans w')) (n.on (w.trans w')) (fun σ3 H3 ds3 ms3 w3 s3 a3 p3 => ⟨ds3, ms3, w'.trans w3, s3, a3, p3⟩)
    · exact n σ' H' ds' ms' (w.trans w') s' a' (hd ds' ms' p')
theorem s_forR2 {g : TG} {js : List Nat} (h : EA K tA ds ms fun as ms0 => ∃ lo n : Int, as = [.d (.int lo), .d (.int n)] ∧ (-(2 ^ 62) ≤ lo ∧ lo < 2 ^ 62 ∧ -(2 ^ 62) ≤ n ∧ n < 2 ^ 62) ∧ ∃ Pv : Nat → List SD → List MD → Prop, Pv 0 ds ms0 ∧
      (∀ i ds1 ms1, i < (n - lo).toNat → Pv i ds1 ms1 → EG K g js (.d (.int (lo + i))) ds1 ms1 fun ds2 ms2 => S K t ds2 ms2 { P with nx := Pv (i + 1), ct := Pv (i + 1), bk := P.nx }) ∧ ∀ ds1 ms1, Pv (n - lo).toNat ds1 ms1 → P.nx ds1 ms1) :
    S K (tFor (iRng2 tA) g t) ds ms P := fun L M σ H hS hA D n r b c =>
  h L M σ H hS hA _ fun as vs H1 ms0 w a1 o ⟨lo, m, ea, hm, Pv, h0, hs, hd⟩ => by
    subst ea
    obtain ⟨v, t1, rfl, hv, v2, t2, rfl, hv2, rfl⟩ := o
    cases hv; cases hv2
    refine ⟨lo, m, rfl, hm, for_range (lo := lo) (fun i σ' H' => ∃ ds' ms', Wk L H1 H' ∧ Sl K L M σ' H' ds' ∧ At L M ms' H' ∧ Pv i ds' ms') ⟨ds, ms0, Wk.refl L H1, hS.mono hA w, a1, h0⟩ (fun i σ' H' hi ⟨ds', ms', w', s', a', p'⟩ => ?_) (fun σ' H' ⟨ds', ms', w', s', a', p'⟩ => ?_)⟩
    · refine hs i ds' ms' hi p' L M σ' H' _ s' a' (.int _) _ fun σ2 ds2 s2 _ h2 => ?_
      refine h2 L M σ2 H' s2 a' _ (fun σ3 H3 ds3 ms3 w3 s3 a3 p3 => ⟨ds3, ms3, w'.trans w3, s3, a3, p3⟩) (r.on a' (w.trans w')) (n.on (w.trans w')) (fun σ3 H3 ds3 ms3 w3 s3 a3 p3 => ⟨ds3, ms3, w'.trans w3, s3, a3, p3⟩)
    · exact n σ' H' ds' ms' (w.trans w') s' a' (hd ds' ms' p')
theorem s_while (W : Nat → List SD → List MD → Prop) (m0 : Nat) (h0 : W m0 ds ms) (hs : ∀ m ds1 ms1, W m ds1 ms1 → ET K tt ds1 ms1 fun b ms2 => (b = true → S K t ds1 ms2 { P with nx := fun ds3 ms3 => ∃ m', m' < m ∧ W m' ds3 ms3, ct := fun ds3 ms3 => ∃ m', m' < m ∧ W m' ds3 ms3, bk := P.nx }) ∧ (b = false → P.nx ds1 ms2)) :
    S K (tWhile tt t) ds ms P := fun L M σ H hS hA D n r b c => by
  refine ⟨fun m σ' H' => ∃ ds' ms', Wk L H H' ∧ Sl K L M σ' H' ds' ∧ At L M ms' H' ∧ W m ds' ms', ⟨m0, ds, ms, Wk.refl L H, hS, hA, h0⟩, ?_⟩
  rintro m σ' H' ⟨ds', ms', w', s', a', p'⟩
  refine hs m ds' ms' p' L M σ' H' s' a' _ fun k H2 ms2 w2 a2 ⟨k1, k2⟩ => ?_
  cases k with
  | true =>
    rw [if_pos rfl]
    refine ⟨fun σ3 H3 => ∃ m', m' < m ∧ ∃ ds3 ms3, Wk L H H3 ∧ Sl K L M σ3 H3 ds3 ∧ At L M ms3 H3 ∧ W m' ds3 ms3, fun σ3 H3 ⟨m', l, z⟩ => ⟨m', l, z⟩, ?_⟩
    refine k1 rfl L M σ' H2 (s'.mono a' w2) a2 _ (fun σ3 H3 ds3 ms3 w3 s3 a3 ⟨m', l, p3⟩ => ⟨m', l, ds3, ms3, (w'.trans w2).trans w3, s3, a3, p3⟩) (r.on a2 (w'.trans w2)) (n.on (w'.trans w2)) (fun σ3 H3 ds3 ms3 w3 s3 a3 ⟨m', l, p3⟩ => ⟨m', l, ds3, ms3, (w'.trans w2).trans w3, s3, a3, p3⟩)
  | false =>
    rw [if_neg Bool.false_ne_true]
    exact n σ' H2 ds' ms2 (w'.trans w2) (s'.mono a' w2) a2 (k2 rfl)
/-! ### comprehensions -/
def Lt (K : PySem.W.Frag) (g : TG) (js : List Nat) (tt : TT) (te : TE) (vs : List Nat) (ds : List SD) (x : SD) (ms : List MD) (acc : List PyData) (N : List PyData → List MD → Prop) : Prop :=
  EG K g js x (wipeD ds vs) ms fun ds2 ms2 => ET K tt ds2 ms2 fun b ms3 => (b = true → E K te ds2 ms3 fun s ms4 => ∃ d, dd s = .d d ∧ N (acc ++ [d]) ms4) ∧ (b = false → N acc ms3)
section
variable {L M : List Addr} {σ : L2.St} {H1 H' : Hp}
/-- how it stands within a comprehension whose list is at D -/
structure Cs (L M : List Addr) (H1 : Hp) (D : Addr) (i : Nat) (acc : List PyData) (ms : List MD) (H : Hp) : Prop where
  w : Wk L H1 H
  a : At L (M ++ [D]) ms H
  le : acc.length ≤ i
  d : ∃ xs, H D = some (.lst xs) ∧ RpA (M ++ [D]) H xs acc
theorem lock_new {D : Addr} {o : HO} (h : At L M ms H1) (hD : H1 D = none) (ho : NTup o := by trivial) : At L (M ++ [D]) ms (upd H1 D o) := by
  have a := h.new (o := o) hD
  have t : To M (M ++ [D]) H1 (upd H1 D o) := to_new h hD (Wk.new hD)
  refine ⟨a.nd, fun p hp => List.mem_append_left _ (h.sub p hp), fun p hp => ?_, a.ln, fun k p m e1 e2 => ?_⟩
  · rcases List.mem_append.mp hp with z | z
    · exact a.al p z
    · simp at z; subst z; rw [upd_same]; exact ⟨_, rfl, ho⟩
  · exact (h.ok k p m e1 e2).to t (upd_ne (fun z => h.freshL hD (z ▸ List.mem_of_getElem? e1)))
theorem Cs.start {D : Addr} (h : At L M ms H1) (hD : H1 D = none) : Cs L M H1 D 0 [] ms (upd H1 D (.lst [])) := ⟨Wk.new hD, lock_new h hD, Nat.le_refl _, [], upd_same, .nil⟩
theorem Cs.done {D : Addr} {i : Nat} {acc : List PyData} {ms1 : List MD} {H2 : Hp} (h : Cs L M H1 D i acc ms1 H2) (hs : ∀ p ∈ L, p ∈ M) (hD : D ∉ L) : At (L ++ [D]) (M ++ [D]) (ms1 ++ [.l acc]) H2 := by
  obtain ⟨w, a, _, xs, e, r⟩ := h
  refine ⟨List.nodup_append.mpr ⟨a.nd, by simp, fun x hx y hy z => hD (by simp at hy; subst hy z; exact hx)⟩, fun q hq => ?_, a.al, by simp [a.ln], fun k q m e1 e2 => ?_⟩
  · rcases List.mem_append.mp hq with z | z
    · exact a.sub q z
    · exact List.mem_append_right _ z
  · by_cases hk : k < L.length
    · rw [List.getElem?_append_left hk] at e1
      rw [List.getElem?_append_left (by rw [← a.ln]; exact hk)] at e2
      exact (a.ok k q m e1 e2).toL (fun _ _ n e => ⟨n, e⟩) (fun k' q' _ z => by rw [List.getElem?_append_left (List.getElem?_eq_some_iff.mp z).1]; exact z) rfl
    · have hk2 : k = L.length := by
        have := (List.getElem?_eq_some_iff.mp e1).1
        simp at this
        omega
      subst hk2
      simp at e1
      subst e1
      rw [a.ln] at e2
      simp at e2
      subst e2
      exact ⟨xs, e, r⟩
theorem lc_turn {g : TG} {js : List Nat} {vs : List Nat} {D : Addr} {i : Nat} {acc : List PyData} {ms0 ms1 : List MD} {H2 : Hp} {x : SD} {v : V} {Nn : Nat → List PyData → List MD → Prop} (hj : ∀ j ∈ js, j ∈ vs) (hi : i < 10000)
    (hS : Sl K L M σ H1 ds) (a0 : At L M ms0 H1) (hD : H1 D = none) (c : Cs L M H1 D i acc ms1 H2) (ho : SlOk K L M H1 x v) (h : Lt K g js tt te vs ds x ms1 acc (Nn (i + 1))) :
    g v (L2.wipe σ vs) H2 fun σ2 H3 => L2.wipe σ2 vs = L2.wipe σ vs ∧ tt σ2 H3 fun b H4 => if b = true then te σ2 H4 fun y H5 => ∃ ac, H5 D = some (.lst ac) ∧ ac.length < sizeLine ∧ (∃ acc' ms', Cs L M H1 D (i + 1) acc' ms' (upd H5 D (.lst (ac ++ [y]))) ∧ Nn (i + 1) acc' ms') else ∃ acc' ms', Cs L M H1 D (i + 1) acc' ms' H4 ∧ Nn (i + 1) acc' ms' := by
  have t : To M (M ++ [D]) H1 H2 := to_new a0 hD c.w
  have hDL : D ∉ L := a0.freshL hD
  have s2 : Sl K L (M ++ [D]) (L2.wipe σ vs) H2 (wipeD ds vs) := (hS.to t c.w.kd fun _ _ e => e).wipe vs
  refine h L (M ++ [D]) (L2.wipe σ vs) H2 v s2 c.a (ho.to t c.w.kd fun _ _ e => e) _ fun σ2 ds2 sl2 wp h2 => ?_
  have wv : L2.wipe σ2 vs = L2.wipe σ vs := by
    rw [wp vs hj]
    apply List.ext_getElem?
    intro i
    rw [wipe_get, wipe_get, wipe_length]
    by_cases e : i ∈ vs
    · rw [if_pos e, if_pos e]
    · simp only [if_neg e, wipe_get]
  refine ⟨wv, ?_⟩
  refine h2 L (M ++ [D]) σ2 H2 sl2 c.a _ fun b H4 ms4 w4 a4 ⟨k1, k2⟩ => ?_
  obtain ⟨xs, e, r⟩ := c.d
  have e4 : H4 D = some (.lst xs) := w4 D _ hDL e
  have r4 : RpA (M ++ [D]) H4 xs acc := RpA.to (c.a.wk w4) _ _ r
  cases b with
  | false =>
    rw [if_neg Bool.false_ne_true]
    exact ⟨acc, ms4, ⟨c.w.trans w4, a4, Nat.le_succ_of_le c.le, xs, e4, r4⟩, k2 rfl⟩
  | true =>
    rw [if_pos rfl]
    refine k1 rfl L (M ++ [D]) σ2 H4 (sl2.mono c.a w4) a4 _ fun s y H5 ms5 w5 o5 ⟨d, ed, hn⟩ => ?_
    have a5 := o5.at
    have ry := o5.sl
    rw [ed] at ry
    have e5 : H5 D = some (.lst xs) := w5 D _ hDL e4
    have r5 : RpA (M ++ [D]) H5 xs acc := RpA.to (a4.wk w5) _ _ r4
    have hDM : D ∈ M ++ [D] := by simp
    have tt5 : To (M ++ [D]) (M ++ [D]) H5 (upd H5 D (.lst (xs ++ [y]))) := fun a o n q => ⟨n, by rw [upd_ne (fun z : a = D => n (by rw [z]; exact hDM))]; exact q⟩
    refine ⟨xs, e5, by rw [r5.length]; exact Nat.lt_of_le_of_lt c.le (Nat.lt_trans hi (by decide)), acc ++ [d], ms5, ⟨((c.w.trans w4).trans w5).over hD, ⟨a5.nd, a5.sub, fun p hp => ?_, a5.ln, fun k p m e1 e2 => ?_⟩, ?_, xs ++ [y], upd_same, RpA.to tt5 _ _ (r5.append (.cons ry .nil))⟩, hn⟩
    · by_cases z : p = D
      · subst z; rw [upd_same]; exact ⟨_, rfl, trivial⟩
      · rw [upd_ne z]; exact a5.al p hp
    · exact (a5.ok k p m e1 e2).to tt5 (upd_ne (fun z => hDL (z ▸ List.mem_of_getElem? e1)))
    · rw [List.length_append]; have := c.le; simp; exact this
end
theorem e_lcR {g : TG} {js vs : List Nat} (hj : ∀ j ∈ js, j ∈ vs) (h : EA K tA ds ms fun as ms0 => ∃ n : Int, as = [.d (.int n)] ∧ (-(2 ^ 62) ≤ n ∧ n ≤ 10000) ∧ ∃ Pv : Nat → List PyData → List MD → Prop, Pv 0 [] ms0 ∧
      (∀ i acc ms1, i < n.toNat → Pv i acc ms1 → Lt K g js tt te vs ds (.d (.int i)) ms1 acc (Pv (i + 1))) ∧ ∀ acc ms1, Pv n.toNat acc ms1 → R (.f acc) ms1) :
    E K (tLc (iRng1 tA) g tt te vs) ds ms R := fun L M σ H hS hA Q q =>
  h L M σ H hS hA _ fun as us H1 ms0 w a1 o ⟨n, ea, hn, Pv, h0, hs, hd⟩ => by
    subst ea
    obtain ⟨v, t1, rfl, hv, rfl⟩ := o
    cases hv
    refine ⟨n, rfl, hn.1, by have := hn.2; omega, fun D hD => ?_⟩
    have hDL := a1.freshL hD
    refine lc_range (lo := 0) (n := n.toNat) (fun i H' => ∃ acc ms', Cs L M H1 D i acc ms' H' ∧ Pv i acc ms') ⟨[], ms0, .start a1 hD, h0⟩ (fun i H' hi ⟨acc, ms', c, p⟩ => ?_) (fun H' ⟨acc, ms', c, p⟩ => ?_)
    · have e0 : ((0 : Int) + (i : Int)) = (i : Int) := Int.zero_add _
      have := lc_turn (x := .d (.int i)) (v := .int ((0 : Int) + (i : Int))) (Nn := Pv) hj (by have := hn.2; omega) (hS.mono hA w) a1 hD c (by show Rp M H1 (.int (0 + (i : Int))) (.int i); rw [e0]; exact .int _) (hs i acc ms' hi p)
      exact this
    · exact q (.f acc) _ H' ms' (w.trans c.w) ⟨D, rfl, none_back a1 w (a1.fresh hD) hD, a1.fresh hD, c.done a1.sub hDL, a1.sub⟩ (hd acc ms' p)
theorem e_lcL {g : TG} {js vs : List Nat} (hj : ∀ j ∈ js, j ∈ vs) (h : E K tl ds ms fun s ms0 => ∃ es, Sw (dd s) es ∧ es.length ≤ 10000 ∧ ∃ Pv : Nat → List PyData → List MD → Prop, Pv 0 [] ms0 ∧
      (∀ i e acc ms1, es[i]? = some e → Pv i acc ms1 → Lt K g js tt te vs ds (.d e) ms1 acc (Pv (i + 1))) ∧ ∀ acc ms1, Pv es.length acc ms1 → R (.f acc) ms1) :
    E K (tLc (iList K tl) g tt te vs) ds ms R := fun L M σ H hS hA Q q =>
  h L M σ H hS hA _ fun s v H1 ms0 w o ⟨es, sw, hz, Pv, h0, hs, hd⟩ => by
    have a1 := o.at
    obtain ⟨a, xs, rfl, rx, hx⟩ := sw.is a1 o.sl
    refine ⟨a, rfl, ⟨xs, hx H1 (Wk.refl L H1)⟩, fun D hD => ?_⟩
    have hDL := a1.freshL hD
    refine lc_list (xs := xs) (fun i H' => ∃ acc ms', Cs L M H1 D i acc ms' H' ∧ Pv i acc ms') ⟨[], ms0, .start a1 hD, h0⟩ (fun i H' _ ⟨_, _, c, _⟩ => hx H' c.w) (fun i x H' hi ⟨acc, ms', c, p⟩ => ?_) (fun H' ⟨acc, ms', c, p⟩ => ?_)
    · obtain ⟨e, e1, e2⟩ := rx.get' hi
      have hl := (List.getElem?_eq_some_iff.mp e1).1
      exact lc_turn (x := .d e) (v := x) (Nn := Pv) hj (by omega) (hS.mono hA w) a1 hD c e2 (hs i e acc ms' e1 p)
    · rw [rx.length] at p
      exact q (.f acc) _ H' ms' (w.trans c.w) ⟨D, rfl, none_back a1 w (a1.fresh hD) hD, a1.fresh hD, c.done a1.sub hDL, a1.sub⟩ (hd acc ms' p)
theorem e_lcT {g : TG} {js vs : List Nat} (hj : ∀ j ∈ js, j ∈ vs) (h : E K tl ds ms fun s ms0 => ∃ es, s = .d (.tuple es) ∧ es.length ≤ 10000 ∧ ∃ Pv : Nat → List PyData → List MD → Prop, Pv 0 [] ms0 ∧
      (∀ i e acc ms1, es[i]? = some e → Pv i acc ms1 → Lt K g js tt te vs ds (.d e) ms1 acc (Pv (i + 1))) ∧ ∀ acc ms1, Pv es.length acc ms1 → R (.f acc) ms1) :
    E K (tLc (iTup K tl) g tt te vs) ds ms R := fun L M σ H hS hA Q q =>
  h L M σ H hS hA _ fun s v H1 ms0 w o ⟨es, es', hz, Pv, h0, hs, hd⟩ => by
    subst es'
    obtain ⟨a1, z⟩ := o
    cases z with
    | @tup a xs _ na e rx =>
    have hx : ∀ H', Wk L H1 H' → SqT K H' a xs := fun H' w' => SqT.of (w' a _ (fun z => na (a1.sub a z)) e)
    refine ⟨a, rfl, ⟨xs, hx H1 (Wk.refl L H1)⟩, fun D hD => ?_⟩
    have hDL := a1.freshL hD
    refine lc_tup (xs := xs) (fun i H' => ∃ acc ms', Cs L M H1 D i acc ms' H' ∧ Pv i acc ms') ⟨[], ms0, .start a1 hD, h0⟩ (fun i H' _ ⟨_, _, c, _⟩ => hx H' c.w) (fun i x H' hi ⟨acc, ms', c, p⟩ => ?_) (fun H' ⟨acc, ms', c, p⟩ => ?_)
    · obtain ⟨e, e1, e2⟩ := rx.get' hi
      have hl := (List.getElem?_eq_some_iff.mp e1).1
      exact lc_turn (x := .d e) (v := x) (Nn := Pv) hj (by omega) (hS.mono hA w) a1 hD c e2 (hs i e acc ms' e1 p)
    · rw [rx.length] at p
      exact q (.f acc) _ H' ms' (w.trans c.w) ⟨D, rfl, none_back a1 w (a1.fresh hD) hD, a1.fresh hD, c.done a1.sub hDL, a1.sub⟩ (hd acc ms' p)
end
end Hc

namespace Hc
open PySem PySem.Spec PyProof.Rows L2
section
variable {K : PySem.W.Frag} {te ta tb tc tl : TE} {tt : TT} {tA : TA} {ds : List SD} {ms : List MD} {R : RS} {t u : TS} {P : Po}
/-! ### a new thing that may change, until the block's end -/
def frzS (n : Nat) (es : List PyData) : SD → SD
  | .m k => if k = n then .d (.list es) else .m k
  | s => s
def frzR (n : Nat) (es : List PyData) : SD → SD
  | .m k => if k = n then .f es else .m k
  | s => s
def Po.frz (P : Po) (n : Nat) : Po where
  nx := fun ds' ms' => ∃ ms1 es, ms' = ms1 ++ [.l es] ∧ ms1.length = n ∧ P.nx (ds'.map (frzS n es)) ms1
  rt := fun s ms' => ∃ ms1 es, ms' = ms1 ++ [.l es] ∧ ms1.length = n ∧ P.rt (frzR n es s) ms1
  bk := fun ds' ms' => ∃ ms1 es, ms' = ms1 ++ [.l es] ∧ ms1.length = n ∧ P.bk (ds'.map (frzS n es)) ms1
  ct := fun ds' ms' => ∃ ms1 es, ms' = ms1 ++ [.l es] ∧ ms1.length = n ∧ P.ct (ds'.map (frzS n es)) ms1
section
variable {L M : List Addr} {p : Addr} {H H0 H1 : Hp} {ms1 : List MD} {es : List PyData} {N : List SD → List MD → Prop} {C : L2.St → Hp → Prop}
theorem SlOk.frz {s : SD} {v : V} (a : At (L ++ [p]) (M ++ [p]) (ms1 ++ [.l es]) H) (np : p ∉ M) (h : SlOk K (L ++ [p]) (M ++ [p]) H s v) : SlOk K L M H (frzS ms1.length es s) v := by
  have hl : L.length = ms1.length := by have := a.ln; simp at this; exact this
  cases s with
  | u => exact h
  | f _ => exact h
  | g _ => exact h
  | d x => exact Rp.to to_less _ _ h
  | v x => exact h
  | w φ => exact ⟨h.2 _ _ _ _ _ to_less h.1, h.2⟩
  | h φ =>
    obtain ⟨b, e, n, q⟩ := h
    exact ⟨b, e, fun z => n (List.mem_append_left _ z), q⟩
  | s ns =>
    obtain ⟨b, e, ⟨n, q⟩ | q⟩ := h
    · exact ⟨b, e, .inl ⟨fun z => n (List.mem_append_left _ z), q⟩⟩
    · exact ⟨b, e, .inr q⟩
  | q k =>
    obtain ⟨q, rfl, hq, hls⟩ := h
    have hk : k < L.length := by
      have h1 := (List.getElem?_eq_some_iff.mp hq).1
      rw [List.length_append] at h1
      have h2 : k ≠ L.length := fun z => by
        subst z
        simp at hq
        subst hq
        obtain ⟨xs, e1, _⟩ := a.last
        exact hls.notL e1
      have h3 : k < L.length + 1 := h1
      omega
    rw [List.getElem?_append_left hk] at hq
    exact ⟨q, rfl, hq, hls⟩
  | o k =>
    obtain ⟨q, rfl, hq, hls⟩ := h
    have hk : k < L.length := by
      have h1 := (List.getElem?_eq_some_iff.mp hq).1
      rw [List.length_append] at h1
      have h2 : k ≠ L.length := fun z => by
        subst z
        simp at hq
        subst hq
        obtain ⟨xs, e1, _⟩ := a.last
        exact hls.notL e1
      have h3 : k < L.length + 1 := h1
      omega
    rw [List.getElem?_append_left hk] at hq
    exact ⟨q, rfl, hq, hls⟩
  | m k =>
    obtain ⟨q, rfl, hq, hls⟩ := h
    show SlOk K L M H (if k = ms1.length then .d (.list es) else .m k) _
    by_cases hk : k = ms1.length
    · rw [if_pos hk]
      subst hk
      rw [← hl] at hq
      simp at hq
      subst hq
      obtain ⟨xs, e1, r⟩ := a.last
      exact .lst np e1 (RpA.to to_less _ _ r)
    · rw [if_neg hk]
      have : k < L.length := by
        have := (List.getElem?_eq_some_iff.mp hq).1
        simp at this
        omega
      rw [List.getElem?_append_left this] at hq
      exact ⟨q, rfl, hq, hls⟩
theorem Sl.frz {σ : L2.St} (a : At (L ++ [p]) (M ++ [p]) (ms1 ++ [.l es]) H) (np : p ∉ M) (h : Sl K (L ++ [p]) (M ++ [p]) σ H ds) : Sl K L M σ H (ds.map (frzS ms1.length es)) := fun i s e => by
  rw [List.getElem?_map] at e
  cases q : ds[i]? with
  | none => rw [q] at e; cases e
  | some s0 =>
    rw [q] at e
    have e' : frzS ms1.length es s0 = s := Option.some.inj e
    by_cases hu : s0 = .u
    · subst hu
      subst e'
      exact h i .u q
    · obtain ⟨v, e1, e2⟩ := h.get q hu
      have z := e2.frz a np
      rw [e'] at z
      cases s with
      | u => exact z.elim
      | f _ => exact z.elim
      | g _ => exact z.elim
      | d x => exact ⟨v, e1, z⟩
      | m k => exact ⟨v, e1, z⟩
      | q k => exact ⟨v, e1, z⟩
      | s ns => exact ⟨v, e1, z⟩
      | v x => exact ⟨v, e1, z⟩
      | h φ => exact ⟨v, e1, z⟩
      | w φ => exact ⟨v, e1, z⟩
      | o k => exact ⟨v, e1, z⟩
def plainM : MD → Bool
  | .r _ => false
  | _ => true
theorem MOk.plain {L L' M M' : List Addr} {H : Hp} {j j' : Nat} {p : Addr} {m : MD} (hm : plainM m = true) (t : To M M' H H) (h : MOk L M H j p m) : MOk L' M' H j' p m := by
  cases m with
  | l es =>
    obtain ⟨xs, e1, r⟩ := h
    exact ⟨xs, e1, RpA.to t _ _ r⟩
  | r ks => cases hm
  | k ds =>
    obtain ⟨kvs, e1, r⟩ := h
    exact ⟨kvs, e1, r.toP t⟩
  | t ds =>
    obtain ⟨kvs, e1, r⟩ := h
    exact ⟨kvs, e1, r.toP t⟩
  | z o kvs ds =>
    obtain ⟨e1, r⟩ := h
    exact ⟨e1, r.toP t⟩
  | x ψ => exact ⟨h.2 _ _ _ _ _ t rfl h.1, h.2⟩
theorem At.dropMid {q : Addr} {m1 m2 : MD} (hm : plainM m2 = true) (a : At (L ++ [p] ++ [q]) (M ++ [p] ++ [q]) (ms1 ++ [m1] ++ [m2]) H) (sb : ∀ x ∈ L, x ∈ M) : At (L ++ [q]) (M ++ [q]) (ms1 ++ [m2]) H := by
  have hl : L.length = ms1.length := by have := a.ln; simp at this; exact this
  have t : To (M ++ [p] ++ [q]) (M ++ [q]) H H := fun b o n e => ⟨fun z => n (by
    rcases List.mem_append.mp z with z | z
    · exact List.mem_append_left _ (List.mem_append_left _ z)
    · exact List.mem_append_right _ z), e⟩
  have nd := a.nd
  refine ⟨?_, ?_, ?_, by simp [hl], fun k x m e1 e2 => ?_⟩
  · rw [List.append_assoc] at nd
    obtain ⟨n1, n2, n3⟩ := List.nodup_append.mp nd
    exact List.nodup_append.mpr ⟨n1, by simp, fun x hx y hy => n3 x hx y (by simp at hy ⊢; exact Or.inr hy)⟩
  · intro x hx
    rcases List.mem_append.mp hx with z | z
    · exact List.mem_append_left _ (sb x z)
    · exact List.mem_append_right _ z
  · intro x hx
    refine a.al x ?_
    rcases List.mem_append.mp hx with z | z
    · exact List.mem_append_left _ (List.mem_append_left _ z)
    · exact List.mem_append_right _ z
  · by_cases hk : k < L.length
    · rw [List.getElem?_append_left hk] at e1
      rw [List.getElem?_append_left (by rw [← hl]; exact hk)] at e2
      refine (a.ok k x m ?_ ?_).toL t (fun k' q' hlt z => by rw [List.append_assoc, List.getElem?_append_left (by omega)] at z; rw [List.getElem?_append_left (by omega)]; exact z) rfl
      · rw [List.append_assoc, List.getElem?_append_left hk]; exact e1
      · rw [List.append_assoc, List.getElem?_append_left (by rw [← hl]; exact hk)]; exact e2
    · have hk2 : k = L.length := by
        have := (List.getElem?_eq_some_iff.mp e1).1
        simp at this
        omega
      subst hk2
      have ex : q = x := by simpa using e1
      subst ex
      rw [hl] at e2
      have em : m2 = m := by simpa using e2
      subst em
      refine MOk.plain hm t (a.ok (L.length + 1) q m2 ?_ ?_)
      · rw [List.getElem?_append_right (by simp)]; simp
      · rw [List.getElem?_append_right (by simp [hl])]; simp [hl]
theorem Out.frz {v : V} {s : SD} (hp0 : H0 p = none) (a : At (L ++ [p]) (M ++ [p]) (ms1 ++ [.l es]) H) (w0 : ∀ q, q ∉ M → q ≠ p → H1 q = none → H0 q = none) (np : p ∉ M) (sb : ∀ x ∈ L, x ∈ M) (h : Out K (L ++ [p]) (M ++ [p]) H1 H (ms1 ++ [.l es]) v s) : Out K L M H0 H ms1 v (frzR ms1.length es s) := by
  have ad := a.drop sb
  cases s with
  | u => exact h.2.elim
  | d x => exact ⟨ad, Rp.to to_less _ _ h.2⟩
  | s ns => exact ⟨ad, SlOk.frz (s := .s ns) a np h.2⟩
  | v x => exact ⟨ad, h.2⟩
  | h φ => exact ⟨ad, SlOk.frz (s := .h φ) a np h.2⟩
  | w φ => exact ⟨ad, SlOk.frz (s := .w φ) a np h.2⟩
  | f fs =>
    obtain ⟨q, rfl, hq, nq, aq, _⟩ := h
    have nqM : q ∉ M := fun z => nq (List.mem_append_left _ z)
    have nqp : q ≠ p := fun z => nq (List.mem_append_right _ (by simp [z]))
    exact ⟨q, rfl, w0 q nqM nqp hq, nqM, At.dropMid rfl aq sb, sb⟩
  | g fs =>
    obtain ⟨q, rfl, hq, nq, aq, _⟩ := h
    have nqM : q ∉ M := fun z => nq (List.mem_append_left _ z)
    have nqp : q ≠ p := fun z => nq (List.mem_append_right _ (by simp [z]))
    exact ⟨q, rfl, w0 q nqM nqp hq, nqM, At.dropMid rfl aq sb, sb⟩
  | q k => exact ⟨ad, SlOk.frz (s := .q k) a np h.2⟩
  | o k => exact ⟨ad, SlOk.frz (s := .o k) a np h.2⟩
  | m k =>
    have hl : L.length = ms1.length := by have := a.ln; simp at this; exact this
    obtain ⟨_, q, rfl, hq, hls⟩ := h
    show Out K L M H0 H ms1 _ (if k = ms1.length then .f es else .m k)
    by_cases hk : k = ms1.length
    · rw [if_pos hk]
      subst hk
      rw [← hl] at hq
      simp at hq
      subst hq
      exact ⟨p, rfl, hp0, np, a, sb⟩
    · rw [if_neg hk]
      have : k < L.length := by
        have := (List.getElem?_eq_some_iff.mp hq).1
        simp at this
        omega
      rw [List.getElem?_append_left this] at hq
      exact ⟨ad, q, rfl, hq, hls⟩
end
theorem s_new {i : Nat} (h : E K te ds ms fun s ms1 => ∃ es, s = .f es ∧ S K u (ds.set i (.m ms1.length)) (ms1 ++ [.l es]) (P.frz ms1.length)) : S K (tSeq (tAsg te (gName i)) u) ds ms P := fun L M σ H hS hA D n r b c =>
  h L M σ H hS hA _ fun s v H1 ms1 w o ⟨es, e, h1⟩ => by
    subst e
    obtain ⟨p, rfl, hp, np, a1, sb⟩ := o
    have hl : L.length = ms1.length := by have := a1.ln; simp at this; exact this
    have npL : p ∉ L := fun z => np (hA.sub p z)
    have t : To M (M ++ [p]) H H1 := to_new hA hp w
    have hS1 : Sl K (L ++ [p]) (M ++ [p]) (σ.set i (some (.ref p))) H1 (ds.set i (.m ms1.length)) := by
      refine (hS.to t w.kd fun k q e => ?_).set i ⟨p, rfl, by rw [← hl]; simp, let ⟨xs, e, _⟩ := a1.last; ⟨xs, e⟩⟩
      rw [List.getElem?_append_left (List.getElem?_eq_some_iff.mp e).1]
      exact e
    have wk : ∀ {H2 : Hp}, Wk (L ++ [p]) H1 H2 → Wk L H H2 := fun {H2} w2 => ⟨fun x y nx ex => w2 x y (fun z => (List.mem_append.mp z).elim nx fun z => ne_of_none ex hp (by simpa using z)) (w x y nx ex), fun x y ex => by
      obtain ⟨o1, f1, k1⟩ := w.kd x y ex
      obtain ⟨o2, f2, k2⟩ := w2.kd x o1 f1
      exact ⟨o2, f2, k2.trans k1⟩⟩
    have go : ∀ {N : List SD → List MD → Prop} {C : L2.St → Hp → Prop}, Nx K L M H N C → Nx K (L ++ [p]) (M ++ [p]) H1 (fun ds' ms' => ∃ ms1' es, ms' = ms1' ++ [.l es] ∧ ms1'.length = ms1.length ∧ N (ds'.map (frzS ms1.length es)) ms1') C := by
      intro N C nn σ2 H2 ds2 ms2 w2 s2 a2 ⟨ms3, es3, e3, l3, n3⟩
      subst e3
      rw [← l3] at n3
      exact nn σ2 H2 _ ms3 (wk w2) (s2.frz a2 np) (a2.drop sb) n3
    refine h1 (L ++ [p]) (M ++ [p]) _ H1 hS1 a1 D (go n) ?_ (go b) (go c)
    intro s2 v2 H2 ms2 w2 o2 ⟨ms3, es3, e3, l3, n3⟩
    subst e3
    rw [← l3] at n3
    refine r _ v2 H2 ms3 (wk w2) ?_ n3
    refine Out.frz hp o2.at (fun q hq hqp hq1 => ?_) np sb o2
    cases e : H q with
    | none => rfl
    | some oo => rw [w q oo (fun z => hq (hA.sub q z)) e] at hq1; cases hq1
/-! ### a whole def -/
theorem SlsOk.len {L M : List Addr} {H : Hp} : ∀ {as : List SD} {vs : List V}, SlsOk K L M H as vs → as.length = vs.length
  | [], _, h => by cases h; rfl
  | s :: r, _, ⟨v, t, e, a, b⟩ => by subst e; simp [SlsOk.len b]
theorem SlsOk.get {L M : List Addr} {H : Hp} : ∀ {as : List SD} {vs : List V} {i : Nat} {s : SD}, SlsOk K L M H as vs → as[i]? = some s → ∃ v, vs[i]? = some v ∧ SlOk K L M H s v
  | [], _, _, _, h, e => by simp at e
  | s :: r, _, 0, _, ⟨v, t, e, a, b⟩, e2 => by subst e; simp at e2; subst e2; exact ⟨v, rfl, a⟩
  | s :: r, _, i + 1, x, ⟨v, t, e, a, b⟩, e2 => by
    subst e
    obtain ⟨v2, e3, e4⟩ := SlsOk.get (i := i) (s := x) b (by simpa using e2)
    exact ⟨v2, by simpa using e3, e4⟩
theorem Sl.start {L M : List Addr} {H : Hp} {N : List Str} {as : List SD} {vs : List V} (h : SlsOk K L M H as vs) (hn : as.length ≤ N.length) : Sl K L M (start N vs) H (as ++ List.replicate (N.length - as.length) .u) := fun i s e => by
  have hl := h.len
  by_cases hi : i < as.length
  · rw [List.getElem?_append_left hi] at e
    obtain ⟨v, e1, e2⟩ := h.get e
    have e3 : (L2.start N vs)[i]? = some (some v) := by
      unfold L2.start
      rw [List.getElem?_append_left (by simp [← hl]; exact hi), List.getElem?_map, e1]
      rfl
    cases s with
    | u => exact e2.elim
    | f _ => exact e2.elim
    | g _ => exact e2.elim
    | d x => exact ⟨v, e3, e2⟩
    | m k => exact ⟨v, e3, e2⟩
    | q k => exact ⟨v, e3, e2⟩
    | s ns => exact ⟨v, e3, e2⟩
    | v x => exact ⟨v, e3, e2⟩
    | h φ => exact ⟨v, e3, e2⟩
    | w φ => exact ⟨v, e3, e2⟩
    | o k => exact ⟨v, e3, e2⟩
  · rw [List.getElem?_append_right (by omega)] at e
    have hs : s = .u := by
      have := List.mem_of_getElem? e
      exact (List.mem_replicate.mp this).2
    subst hs
    show i < (L2.start N vs).length
    have := (List.getElem?_eq_some_iff.mp e).1
    unfold L2.start
    simp at this ⊢
    omega
def fin (R : RS) : Po where
  nx := fun _ ms' => R (.d .none) ms'
  rt := R
  bk := fun _ _ => False
  ct := fun _ _ => False
theorem read_of {N : List Str} {Φ : Ph} {vs : List V} {H : Hp} {Q : VK} {X : XK} (hn : ∀ as ms R, Φ as ms R → as.length ≤ N.length) (h : ∀ as ms R, Φ as ms R → S K t (as ++ List.replicate (N.length - as.length) .u) ms (fin R)) (hs : SpD K Φ vs H Q X) :
    t { nx := fun _ H' => Q .non H', rt := Q } (start N vs) H := by
  obtain ⟨L, M, ms, as, R, hA, ho, hp, q⟩ := hs
  exact h as ms R hp L M _ H (Sl.start ho (hn _ _ _ hp)) hA _ (fun σ' H' ds' ms' w s a r => q (.d .none) .non H' ms' w ⟨a, .non⟩ r) (fun s v H' ms' w o r => q s v H' ms' w o r) (fun _ _ _ _ _ _ _ z => z.elim) (fun _ _ _ _ _ _ _ z => z.elim)
end
section
variable {Pg : Program} {w : World} {K : PySem.W.Frag} {mg : Str → Option Value} {base : Heap}
/-- a def that keeps Φ -/
theorem ok_of {x qual : Str} {st : Stmt} {f : Addr} {fd : FuncData} {N ps : List Str} {k : Nat} {Φ : Ph} (F : Fun K x qual st f fd) (Sc : FnScope N ps (defScope st)) (hl : ∀ as ms R, Φ as ms R → as.length = ps.length) (hpn : ps.length ≤ N.length)
    (hbody : ∀ (cdv : Value) (A : Around) (outer : List Env) (s : Shared) (H : Hp) (E : XK), Room k (A.deeper (envOfC qual (defScope st) s.heap.objs.size f cdv)) →
      ∃ t, PSs (cxOf CX0 Pg w K mg base N qual (defScope st) f cdv A outer s H E).nox (defBody st) t ∧ ∀ as ms R, Φ as ms R → S K t (as ++ List.replicate (N.length - as.length) .u) ms (fin R)) : FnOk Pg w K mg base CX0 (k + 1) f fd ps (SpD K Φ) := by
  refine F.ok Sc (fun vs H Q E h => ?_) (fun cdv A outer s H vs Q E hr h => ?_)
  · obtain ⟨L, M, ms, as, R, hA, ho, hp, q⟩ := h
    rw [← ho.len]
    exact hl as ms R hp
  · obtain ⟨t, h1, h2⟩ := hbody cdv A outer s H E hr
    exact ⟨t, h1, read_of (fun as ms R z => by rw [hl as ms R z]; exact hpn) h2 h⟩
end
end Hc

namespace Hc
open PySem PySem.Spec PyProof.Rows L2
abbrev rAddI : R2 := rI0 fun i j => .int (i + j)
abbrev rSubI : R2 := rI0 fun i j => .int (i - j)
abbrev rMulI : R2 := rI CMul fun i j => .int (i * j)
abbrev rModN : R2 := rI (fun _ j => j ≠ 0) fun i j => .int (i.fmod j)
abbrev rPowI : R2 := rI CPow fun i j => .int (i ^ j.toNat)
abbrev rXorI : R2 := rI0 fun i j => .int (Builtin.bitXor i j)
abbrev rLtI : R2 := rI0 fun i j => .bl (decide (i < j))
abbrev rLeI : R2 := rI0 fun i j => .bl (decide (i ≤ j))
abbrev rGtI : R2 := rI0 fun i j => .bl (decide (j < i))
abbrev rGeI : R2 := rI0 fun i j => .bl (decide (j ≤ i))
abbrev rNegI : V → Hp → VK → Prop := rU fun i => .int (-i)
abbrev rAbs : List V → Hp → VK → Prop := fun xs H Q => ∃ i, xs = [.int i] ∧ Q (.int (if i < 0 then -i else i)) H
abbrev rMinI : List V → Hp → VK → Prop := fun xs H Q => ∃ i j, xs = [.int i, .int j] ∧ Q (.int (if j < i then j else i)) H
abbrev rLenQ (K : PySem.W.Frag) : List V → Hp → VK → Prop := fun xs H Q => ∃ p ys, xs = [.ref p] ∧ (SqL K H p ys ∨ SqT K H p ys) ∧ Q (.int ys.length) H
abbrev rTupQ (K : PySem.W.Frag) : List V → Hp → VK → Prop := fun xs H Q => ∃ p ys, xs = [.ref p] ∧ ((SqL K H p ys ∧ ∀ l, H l = none → Q (.ref l) (upd H l (.tup ys))) ∨ (SqT K H p ys ∧ Q (.ref p) H))
abbrev rListQ (K : PySem.W.Frag) : List V → Hp → VK → Prop := fun xs H Q => ∃ p ys, xs = [.ref p] ∧ (SqL K H p ys ∨ SqT K H p ys) ∧ ∀ l, H l = none → Q (.ref l) (upd H l (.lst ys))
/-- sizes -/
@[irreducible] def Bd (n : Nat) (i : Int) : Prop := i.natAbs < 2 ^ n
def CMulX (i j : Int) : Prop := Bd 100000 i ∧ Bd 100000 j
def CDivX (_ j : Int) : Prop := j ≠ 0 ∧ Bd 8000 j
abbrev rMulX : R2 := rI CMulX fun i j => .int (i * j)
abbrev rDivX : R2 := rI CDivX fun i j => .int (i.fdiv j)
theorem Bd.iff {n : Nat} {i : Int} : Bd n i ↔ i.natAbs < 2 ^ n := by unfold Bd; exact Iff.rfl
theorem Bd.mono {m n : Nat} {i : Int} (h : Bd m i) (l : m ≤ n) : Bd n i := Bd.iff.mpr (Nat.lt_of_lt_of_le (Bd.iff.mp h) (Nat.pow_le_pow_right (by decide) l))
theorem Bd.mul {m n : Nat} {i j : Int} (a : Bd m i) (b : Bd n j) : Bd (m + n) (i * j) := Bd.iff.mpr (wide_lt (Bd.iff.mp a) (Bd.iff.mp b))
theorem Bd.add {m : Nat} {i j : Int} (a : Bd m i) (b : Bd m j) : Bd (m + 1) (i + j) := by
  have ha := Bd.iff.mp a
  have hb := Bd.iff.mp b
  refine Bd.iff.mpr ?_
  rw [Nat.pow_succ]
  have := Int.natAbs_add_le i j
  omega
theorem Bd.neg {m : Nat} {i : Int} (a : Bd m i) : Bd m (-i) := Bd.iff.mpr (by rw [Int.natAbs_neg]; exact Bd.iff.mp a)
theorem Bd.sub {m : Nat} {i j : Int} (a : Bd m i) (b : Bd m j) : Bd (m + 1) (i - j) := by
  rw [Int.sub_eq_add_neg]
  exact a.add b.neg
theorem Bd.le {m : Nat} {i j : Int} (a : Bd m j) (h : i.natAbs ≤ j.natAbs) : Bd m i := Bd.iff.mpr (Nat.lt_of_le_of_lt h (Bd.iff.mp a))
theorem Bd.of {n : Nat} {i : Int} (h : i.natAbs < 2 ^ n) : Bd n i := Bd.iff.mpr h
section
variable {X : Cx}
theorem op_mulX : OpR X (binaryOp .Mult) rMulX := opI fun _ _ _ _ _ _ _ hc q => mul_int q (CMulW.ok (wide_mul (Bd.iff.mp hc.1) (Bd.iff.mp hc.2) (by decide) (by decide) (by decide)))
theorem op_fdivX : OpR X (binaryOp .FloorDiv) rDivX := opI fun i j _ _ _ _ _ hc q => floordiv_int hc.1 q (.inl (PyProof.noPylong_of_log2 (Nat.lt_trans (PySem.Flt.log2_lt_of (by decide) (Bd.iff.mp hc.2)) (by decide))))
end
section
variable {K : PySem.W.Frag} {te ta tb tc tl : TE} {tt : TT} {tA : TA} {ds : List SD} {ms : List MD} {R : RS} {t u : TS} {P : Po}
theorem rr_ix {a b : SD} (h : ∃ es i d, (Sv ms a (.list es) ∨ Sv ms a (.tuple es)) ∧ b = .d (.int i) ∧ atI es i = some d ∧ R (.d d) ms) : RR K (rIx K) a b ms R := fun L M H x y hA ha hb Q q => by
  obtain ⟨es, i, d, sa | sa, e1, e2, r⟩ := h
  · exact .inl (rr_ixL ⟨es, i, d, sa, e1, e2, r⟩ L M H x y hA ha hb Q q)
  · exact .inr (.inl (rr_ixT ⟨es, i, d, sa, e1, e2, r⟩ L M H x y hA ha hb Q q))
end
/-! ### defs by name -/
structure Kn (Pg : Program) (w : World) (K : PySem.W.Frag) (mg : Str → Option Value) (base : Heap) (x : Str) (lv : Nat) (ps : List Str) (Φ : Ph) : Prop where
  ex : ∃ f fd, FnOk Pg w K mg base CX0 lv f fd ps (SpD K Φ) ∧ mg x = some (.ref f) ∧ PySem.W.keepIn K (.ref f) = true ∧ Binds K fd ps []
theorem pe_callD {X : Cx} {x : Str} {lv : Nat} {ps : List Str} {Φ : Ph} {e : Expr} {es : List Expr} {t : TA} {p pos : Pos} (h : Kn X.prog X.w X.K X.mg X.base x lv ps Φ) (hr : Room lv X.A) (hg : Gl X x) (ha : PA X (e :: es) t)
    (hdb : (x == ("__debug__" : Str)) = false := by decide) (he : starEach (e :: es) X.env = (false, eval e X.env) :: starEach es X.env := by rfl) (hpl : (backTo pos (starEach es X.env)).any (·.1) = false := by rfl) :
    PE X (.Call (.Name x p) (e :: es) [] pos) (tCall (SpD X.K Φ) [] E0 t) := by
  obtain ⟨f, fd, G, m, k, b⟩ := h.ex
  exact pe_call G hr hg m k b .nil pass0 ha hdb he hpl
def ph1 (f : SD → List MD → RS → Prop) : Ph := fun as ms R => ∃ a, as = [a] ∧ f a ms R
def ph2 (f : SD → SD → List MD → RS → Prop) : Ph := fun as ms R => ∃ a b, as = [a, b] ∧ f a b ms R
def ph3 (f : SD → SD → SD → List MD → RS → Prop) : Ph := fun as ms R => ∃ a b c, as = [a, b, c] ∧ f a b c ms R
theorem ph1_len {f : SD → List MD → RS → Prop} : ∀ as ms R, ph1 f as ms R → as.length = 1 := fun _ _ _ ⟨_, e, _⟩ => by rw [e]; rfl
theorem ph2_len {f : SD → SD → List MD → RS → Prop} : ∀ as ms R, ph2 f as ms R → as.length = 2 := fun _ _ _ ⟨_, _, e, _⟩ => by rw [e]; rfl
theorem ph3_len {f : SD → SD → SD → List MD → RS → Prop} : ∀ as ms R, ph3 f as ms R → as.length = 3 := fun _ _ _ ⟨_, _, _, e, _⟩ => by rw [e]; rfl
/-- the script at the law's door -/
theorem at_door {K : PySem.W.Frag} {H : Hp} {a : Addr} {ns : List Int} (hO : Only H) (hS : SqL K H a (ns.map V.int)) : SlOk K [] [] H (.s ns) (.ref a) := by
  refine ⟨a, rfl, ?_⟩
  rcases hS with h | h
  · exact .inl ⟨by simp, h⟩
  · exact .inr fun H' => .inr h
theorem at_nil {H : Hp} : At [] [] [] H := ⟨List.nodup_nil, fun _ h => by simp at h, fun _ h => by simp at h, rfl, fun _ _ _ h => by simp at h⟩
end Hc

namespace Hc
open PySem PySem.Spec PyProof.Rows L2
theorem instInt (d : PyData) : kitB (tyN d) "int" = some (inst d "int") := by
  have h : ∀ n : String, n ∈ ["NoneType", "bool", "int", "str", "list", "tuple", "dict"] → kitB n "int" = some ((kitB n "int").getD false) := by decide +kernel
  cases d <;> exact h _ (by simp [tyN])
theorem instBool (d : PyData) : kitB (tyN d) "bool" = some (inst d "bool") := by
  have h : ∀ n : String, n ∈ ["NoneType", "bool", "int", "str", "list", "tuple", "dict"] → kitB n "bool" = some ((kitB n "bool").getD false) := by decide +kernel
  cases d <;> exact h _ (by simp [tyN])
theorem instTuple (d : PyData) : kitB (tyN d) "tuple" = some (inst d "tuple") := by
  have h : ∀ n : String, n ∈ ["NoneType", "bool", "int", "str", "list", "tuple", "dict"] → kitB n "tuple" = some ((kitB n "tuple").getD false) := by decide +kernel
  cases d <;> exact h _ (by simp [tyN])
theorem instList (d : PyData) : kitB (tyN d) "list" = some (inst d "list") := by
  have h : ∀ n : String, n ∈ ["NoneType", "bool", "int", "str", "list", "tuple", "dict"] → kitB n "list" = some ((kitB n "list").getD false) := by decide +kernel
  cases d <;> exact h _ (by simp [tyN])
def isWhole : PyData → Bool
  | .int _ => true
  | _ => false
def isTup : PyData → Bool
  | .tuple _ => true
  | _ => false
theorem inst_tup (x : PyData) : inst x "tuple" = isTup x := by
  cases x with
  | none => exact (by decide +kernel : inst .none "tuple" = false)
  | bool b => exact (by decide +kernel : inst (.bool true) "tuple" = false)
  | int i => exact (by decide +kernel : inst (.int 0) "tuple" = false)
  | str s => exact (by decide +kernel : inst (.str "") "tuple" = false)
  | list s => exact (by decide +kernel : inst (.list []) "tuple" = false)
  | tuple s => exact (by decide +kernel : inst (.tuple []) "tuple" = true)
  | dict s => exact (by decide +kernel : inst (.dict []) "tuple" = false)
theorem whole_and (x : PyData) : (inst x "int" && !inst x "bool") = isWhole x := by
  cases x with
  | none => exact (by decide +kernel : (inst .none "int" && !inst .none "bool") = false)
  | bool b => exact (by decide +kernel : (inst (.bool true) "int" && !inst (.bool true) "bool") = false)
  | int i => exact (by decide +kernel : (inst (.int 0) "int" && !inst (.int 0) "bool") = true)
  | str s => exact (by decide +kernel : (inst (.str "") "int" && !inst (.str "") "bool") = false)
  | list s => exact (by decide +kernel : (inst (.list []) "int" && !inst (.list []) "bool") = false)
  | tuple s => exact (by decide +kernel : (inst (.tuple []) "int" && !inst (.tuple []) "bool") = false)
  | dict s => exact (by decide +kernel : (inst (.dict []) "int" && !inst (.dict []) "bool") = false)
theorem whole_inv {x : PyData} (h : isWhole x = true) : ∃ i, x = .int i := by
  cases x with
  | int i => exact ⟨i, rfl⟩
  | _ => cases h
theorem tup_inv {x : PyData} (h : isTup x = true) : ∃ i, x = .tuple i := by
  cases x with
  | tuple i => exact ⟨i, rfl⟩
  | _ => cases h
/-! ### numbers -/
theorem abs_nat (i : Int) : (if i < 0 then -i else i) = (i.natAbs : Int) := by split <;> omega
theorem fmod_nat (x y : Nat) : Int.fmod (x : Int) (y : Int) = ((x % y : Nat) : Int) := by
  rw [Int.fmod_eq_emod_of_nonneg _ (by omega)]
  rfl
theorem gcd_step (x y : Nat) : Nat.gcd y (x % y) = Nat.gcd x y := by
  rw [Nat.gcd_comm y (x % y), ← Nat.gcd_rec, Nat.gcd_comm]
abbrev pr (p : Int × Int) : PyData := .tuple [.int p.1, .int p.2]
/-- the fraction of two ints -/
def fr (i j : Int) : Int × Int := if j < 0 then (i.fdiv (-(Int.gcd i j : Int)), j.fdiv (-(Int.gcd i j : Int))) else (i.fdiv (Int.gcd i j), j.fdiv (Int.gcd i j))
theorem fr_is {i j : Int} (hj : j ≠ 0) : ∃ c : Int, c ≠ 0 ∧ (0 < c ↔ 0 < j) ∧ c.natAbs = Int.gcd i j ∧ i = (fr i j).1 * c ∧ j = (fr i j).2 * c := by
  have hg : 0 < Int.gcd i j := Int.gcd_pos_of_ne_zero_right i hj
  have d1 : (Int.gcd i j : Int) ∣ i := Int.gcd_dvd_left ..
  have d2 : (Int.gcd i j : Int) ∣ j := Int.gcd_dvd_right ..
  unfold fr
  by_cases h : j < 0
  · rw [if_pos h]
    refine ⟨-(Int.gcd i j : Int), by omega, by omega, by omega, ?_, ?_⟩
    · exact (Int.fdiv_mul_cancel (Int.neg_dvd.mpr d1)).symm
    · exact (Int.fdiv_mul_cancel (Int.neg_dvd.mpr d2)).symm
  · rw [if_neg h]
    refine ⟨(Int.gcd i j : Int), by omega, by omega, by omega, ?_, ?_⟩
    · exact (Int.fdiv_mul_cancel d1).symm
    · exact (Int.fdiv_mul_cancel d2).symm
theorem fr_pos {i j : Int} (hj : j ≠ 0) : 0 < (fr i j).2 := by
  obtain ⟨c, c0, cs, _, _, e⟩ := fr_is (i := i) hj
  by_cases h : 0 < j
  · have hc := cs.mpr h
    rw [e] at h
    exact Int.pos_of_mul_pos_left h hc
  · have hc : c < 0 := by
      have : ¬ 0 < c := fun z => h (cs.mp z)
      omega
    have hn : (fr i j).2 * c < 0 := by rw [← e]; omega
    exact Int.pos_of_mul_neg_left hn hc
theorem fr_low {i j : Int} (hj : j ≠ 0) : Int.gcd (fr i j).1 (fr i j).2 = 1 := by
  obtain ⟨c, c0, cs, cg, e1, e2⟩ := fr_is (i := i) hj
  have h : Int.gcd i j = Int.gcd (fr i j).1 (fr i j).2 * c.natAbs := by
    have := Int.gcd_mul_right (fr i j).1 c (fr i j).2
    rw [← e1, ← e2] at this
    exact this
  have hg : 0 < Int.gcd i j := Int.gcd_pos_of_ne_zero_right i hj
  rw [cg] at h
  have h1 : 1 * Int.gcd i j = Int.gcd (fr i j).1 (fr i j).2 * Int.gcd i j := by rw [Nat.one_mul]; exact h
  exact (Nat.eq_of_mul_eq_mul_right hg h1).symm
theorem fr_le {i j : Int} (hj : j ≠ 0) : (fr i j).1.natAbs ≤ i.natAbs ∧ (fr i j).2.natAbs ≤ j.natAbs := by
  obtain ⟨c, c0, cs, cg, e1, e2⟩ := fr_is (i := i) hj
  have hc : 1 ≤ c.natAbs := by omega
  generalize (fr i j).1 = x at *
  generalize (fr i j).2 = y at *
  subst e1 e2
  rw [Int.natAbs_mul, Int.natAbs_mul]
  exact ⟨Nat.le_mul_of_pos_right _ hc, Nat.le_mul_of_pos_right _ hc⟩
theorem co_dvd {a b d : Int} (g : Int.gcd a b = 1) (h : b ∣ a * d) : b ∣ d := by
  have h1 : b.natAbs ∣ a.natAbs * d.natAbs := by
    rw [← Int.natAbs_mul]
    exact Int.natAbs_dvd_natAbs.mpr h
  have h2 : Nat.Coprime b.natAbs a.natAbs := by
    rw [Nat.coprime_comm]
    exact g
  exact Int.natAbs_dvd_natAbs.mp (Nat.Coprime.dvd_of_dvd_mul_left h2 h1)
/-- lowest terms are told once -/
theorem low_uniq {a b c d : Int} (hb : 0 < b) (hd : 0 < d) (g1 : Int.gcd a b = 1) (g2 : Int.gcd c d = 1) (h : a * d = c * b) : a = c ∧ b = d := by
  have d1 : b ∣ d := by
    have : b ∣ a * d := ⟨c, by rw [h, Int.mul_comm]⟩
    exact co_dvd g1 this
  have d2 : d ∣ b := by
    have : d ∣ c * b := ⟨a, by rw [← h, Int.mul_comm]⟩
    exact co_dvd g2 this
  have e : b = d := Int.dvd_antisymm (by omega) (by omega) d1 d2
  subst e
  exact ⟨Int.eq_of_mul_eq_mul_right (by omega) h, rfl⟩
theorem eqv_int (i j : Int) : PyData.eqv (.int i) (.int j) = decide (i = j) := by
  rw [PyData.eqv]
  by_cases h : i = j
  · subst h; simp
  · simp [h]
theorem shaped_int (i : Int) : SeqAt.shaped (.int i) = true := by simp [SeqAt.shaped, PyData.canLay0, PyData.depth]
end Hc

namespace Hc
open PySem PySem.Spec PyProof.Rows L2
/-! ### a tuple times one is itself -/
theorem tuple_mul1 (l : Addr) (items : Array Value) (n : Nat) (dd : Option Addr) (sl : Array (Option Value)) (u : Tok) :
    Meets (Builtin.«tuple.__mul__» ⟨[.ref l, .int 1 u], []⟩) (fun _ R s => s.heap.get? l = some { cls := .type "tuple", dict := dd, data := .seq items n, slots := sl } ∧ R (.ok (.ret (.ref l))) s) :=
  .of_wp fun prog w A R s h => by
    obtain ⟨hp, g, d, tk, os⟩ := s
    obtain ⟨hl, h⟩ := h
    have f1 := AutoSeq1.idx_int
    have c1 : (items.isEmpty || (1 : Int) == 1) = true := by simp
    wp_walk using wpAny_loadPart' hl
    repeat (first
      | (refine wpAny_ite_false (by decide) ?_; wp_walk using wpAny_loadPart' hl)
      | (refine wpAny_ite_true (decide_eq_true c1) ?_; wp_walk using wpAny_loadPart' hl))
    all_goals first | exact ⟨_, rfl, h⟩ | skip
def rRepQ (K : PySem.W.Frag) : R2 := fun x y H Q => (∃ l xs, x = .ref l ∧ y = .int 1 ∧ SqT K H l xs ∧ Q (.ref l) H) ∨ rRepT K x y H Q
theorem op_repQ {X : Cx} : OpR X (binaryOp .Mult) (rRepQ X.K) := by
  intro pins s σ H x y v u Q I rx ry h
  rcases h with ⟨l, xs, rfl, rfl, hT, q⟩ | h
  · cases rx
    obtain ⟨t, rfl⟩ := ry
    obtain ⟨its, r, ⟨⟨cls, dd, data, sl⟩, ho, hc, n, hd⟩, hs⟩ := I.tuple hT
    simp only at hc hd
    subst hc hd
    exact wpAny_binaryOp_repeat_ref (T := "tuple") (U := "int") (by decide) ⟨_, ho, rfl⟩
      (fun s' => typeIs_int s' 1 t) noFill_tuple_mul F.fills_int_mul F.slot_int_rmul repeat_tuple
      F.slot_int_index.lookup
      (call_meets F.slot_int_rmul (typeIs_int s 1 t) F.entry_int_rmul (F.args_int_rmul_2 _ _)
        (int_rmul_tuple 1 t l its.toArray n dd sl) ⟨ho, rfl, ⟨_, ho, rfl⟩,
          call_meets F.slot_tuple_mul ⟨_, ho, rfl⟩ F.entry_tuple_mul (F.args_tuple_mul_2 _ _)
            (tuple_mul1 l its.toArray n dd sl t) ⟨ho, ⟨.ref l, H, I, rfl, q⟩⟩⟩)
  · exact op_repT pins s σ H x y v u Q I rx ry h
section
variable {K : PySem.W.Frag} {te ta tb tc tl : TE} {tt : TT} {tA : TA} {ds : List SD} {ms : List MD} {R : RS} {t u : TS} {P : Po}
theorem rr_rep1 {a b : SD} (h : ∃ (e : PyData) (k : Int), a = .d (.tuple [e]) ∧ b = .d (.int k) ∧ 1 ≤ k ∧ k ≤ 1000 ∧ R (.d (.tuple (List.replicate k.toNat e))) ms) : RR K (rRepQ K) a b ms R := fun L M H x y hA ha hb Q q => by
  obtain ⟨e, k, rfl, rfl, h1, h2, r⟩ := h
  cases hb
  have ha2 : Rp M H x (.tuple [e]) := ha
  cases ha2 with
  | @tup p xs _ np ep rp =>
    obtain ⟨v, rfl⟩ : ∃ v, xs = [v] := by
      cases rp with
      | cons z y => cases y; exact ⟨_, rfl⟩
    by_cases hk : k = 1
    · subst hk
      exact .inl ⟨p, [v], rfl, rfl, SqT.of ep, q (.d (.tuple [e])) _ H ms (Wk.refl L H) ⟨hA, ha⟩ r⟩
    · refine .inr ⟨p, k, [v], rfl, rfl, SqT.of ep, by simp, by omega, h2, by simp, fun l hl => ?_⟩
      have rr : ∀ m : Nat, RpA M H (List.replicate m [v]).flatten (List.replicate m e) := fun m => by
        induction m with
        | zero => exact .nil
        | succ m ih =>
          rw [List.replicate_succ, List.replicate_succ, List.flatten_cons]
          cases rp with
          | cons z y => exact .cons z ih
      exact q (.d (.tuple (List.replicate k.toNat e))) _ _ ms (Wk.new hl) ⟨hA.new hl, .tup (hA.fresh hl) upd_same (RpA.to (hA.wk (Wk.new hl)) _ _ (rr k.toNat))⟩ r
/-! ### slices -/
def EO (K : PySem.W.Frag) (to : TO) (ds : List SD) (ms : List MD) (R : Option Int → List MD → Prop) : Prop :=
  ∀ (L M : List Addr) (σ : L2.St) (H : Hp), Sl K L M σ H ds → At L M ms H → ∀ Q : Option Int → Hp → Prop, (∀ o H' ms', Wk L H H' → At L M ms' H' → R o ms' → Q o H') → to σ H Q
theorem eo_none {RO : Option Int → List MD → Prop} (r : RO none ms) : EO K tNoPart ds ms RO := fun L M σ H hS hA Q q => q none H ms (Wk.refl L H) hA r
theorem eo_some {RO : Option Int → List MD → Prop} (h : E K te ds ms fun s ms1 => ∃ i, s = .d (.int i) ∧ RO (some i) ms1) : EO K (tPart te) ds ms RO := fun L M σ H hS hA Q q =>
  h L M σ H hS hA _ fun s v H1 ms1 w o ⟨i, e, r⟩ => by
    subst e
    obtain ⟨a, z⟩ := o
    cases z
    exact ⟨i, rfl, q (some i) H1 ms1 w a r⟩
def cutD (es : List PyData) (lo hi : Option Int) : List PyData := (es.drop (HT.sIx es.length 0 lo)).take (HT.sIx es.length es.length hi - HT.sIx es.length 0 lo)
theorem cut_of {M : List Addr} {H : Hp} {xs : List V} {es : List PyData} (r : RpA M H xs es) (lo hi : Option Int) : RpA M H (cutV xs lo hi) (cutD es lo hi) := by
  unfold cutV cutD
  rw [r.length]
  exact (r.drop _).take _
theorem e_slL {to th : TO} (h : E K te ds ms fun s ms1 => EO K to ds ms1 fun lo ms2 => EO K th ds ms2 fun hi ms3 => ∃ es, Sv ms3 (dd s) (.list es) ∧ R (.f (cutD es lo hi)) ms3) : E K (tSl (rSlL K) te to th) ds ms R := fun L M σ H hS hA Q q =>
  h L M σ H hS hA _ fun s v H1 ms1 w1 o1 h1 => h1 L M σ H1 (hS.mono hA w1) o1.at _ fun lo H2 ms2 w2 a2 h2 => h2 L M σ H2 ((hS.mono hA w1).mono o1.at w2) a2 _ fun hi H3 ms3 w3 a3 ⟨es, sv, r⟩ => by
    obtain ⟨p, xs, rfl, hq, hr⟩ := sv.lst a3 ((o1.sl.mono o1.at w2).mono a2 w3)
    have w := (w1.trans w2).trans w3
    exact ⟨p, xs, rfl, hq, fun l hl => q (.f (cutD es lo hi)) _ _ ms3 (w.trans (Wk.new hl)) (out_new a3 w hl (cut_of hr lo hi)) r⟩
/-- a part of a tuple that is not the whole -/
theorem e_slT {to th : TO} (h : E K te ds ms fun s ms1 => EO K to ds ms1 fun lo ms2 => EO K th ds ms2 fun hi ms3 => ∃ es, s = .d (.tuple es) ∧ ¬ (HT.sIx es.length 0 lo = 0 ∧ HT.sIx es.length es.length hi = es.length) ∧ R (.d (.tuple (cutD es lo hi))) ms3) : E K (tSl (rSlT K) te to th) ds ms R := fun L M σ H hS hA Q q =>
  h L M σ H hS hA _ fun s v H1 ms1 w1 o1 h1 => h1 L M σ H1 (hS.mono hA w1) o1.at _ fun lo H2 ms2 w2 a2 h2 => h2 L M σ H2 ((hS.mono hA w1).mono o1.at w2) a2 _ fun hi H3 ms3 w3 a3 ⟨es, e, hn, r⟩ => by
    subst e
    have z := (o1.sl.mono o1.at w2).mono a2 w3
    obtain ⟨p, xs, rfl, e1, hr⟩ := Sv.tup (ms := ms3) (.d _) z
    have w := (w1.trans w2).trans w3
    refine ⟨p, xs, rfl, SqT.of e1, by rw [hr.length]; exact hn, fun l hl => ?_⟩
    exact q (.d (.tuple (cutD es lo hi))) _ _ ms3 (w.trans (Wk.new hl)) ⟨a3.new hl, .tup (a3.fresh hl) upd_same (RpA.to (a3.wk (Wk.new hl)) _ _ (cut_of hr lo hi))⟩ r
end
/-! ### data that == takes -/
def Shp (n : Nat) (d : PyData) : Prop := d.canLay0 = true ∧ d.depth ≤ n
theorem Shp.ok {n : Nat} {d : PyData} (h : Shp n d) (hn : n ≤ 64) : SeqAt.shaped d = true := by
  unfold SeqAt.shaped
  rw [h.1, decide_eq_true (Nat.le_trans h.2 hn)]
  rfl
theorem Shp.all {n : Nat} : ∀ {es : List PyData}, (∀ e ∈ es, Shp n e) → PyData.canLayAll0 es = true ∧ PyData.depthAll es ≤ n
  | [], _ => ⟨rfl, by simp [PyData.depthAll]⟩
  | e :: r, h => by
    have h1 := h e (by simp)
    have h2 := Shp.all (es := r) fun x hx => h x (by simp [hx])
    exact ⟨by simp [PyData.canLayAll0, h1.1, h2.1], by simp only [PyData.depthAll]; exact Nat.max_le.mpr ⟨h1.2, h2.2⟩⟩
theorem Shp.tup {n : Nat} {es : List PyData} (h : ∀ e ∈ es, Shp n e) : Shp (n + 1) (.tuple es) := by
  have := Shp.all h
  exact ⟨by simp [PyData.canLay0, this.1], by simp only [PyData.depth]; have := this.2; omega⟩
theorem Shp.lst {n : Nat} {es : List PyData} (h : ∀ e ∈ es, Shp n e) : Shp (n + 1) (.list es) := by
  have := Shp.all h
  exact ⟨by simp [PyData.canLay0, this.1], by simp only [PyData.depth]; have := this.2; omega⟩
theorem Shp.int (i : Int) : Shp 0 (.int i) := ⟨rfl, Nat.le_refl _⟩
theorem Shp.bl (i : Bool) : Shp 0 (.bool i) := ⟨rfl, Nat.le_refl _⟩
theorem Shp.mono {m n : Nat} {d : PyData} (h : Shp m d) (l : m ≤ n) : Shp n d := ⟨h.1, Nat.le_trans h.2 l⟩
theorem Shp.ints (ns : List Int) : ∀ e ∈ ns.map PyData.int, Shp 0 e := fun e he => by
  obtain ⟨i, _, rfl⟩ := List.mem_map.mp he
  exact .int i
theorem Shp.pr (p : Int × Int) : Shp 1 (pr p) := Shp.tup fun e he => by
  simp at he
  rcases he with rfl | rfl <;> exact .int _
theorem eqv_self {n : Nat} {d : PyData} (h : Shp n d) : PyData.eqv d d = true := SeqAt.eqv_refl d h.1
/-! ### fractions as numbers -/
def val (p : Int × Int) : Rat := (p.1 : Rat) / (p.2 : Rat)
theorem cast_ne {b : Int} (h : b ≠ 0) : (b : Rat) ≠ 0 := by exact_mod_cast h
structure Lo (p : Int × Int) : Prop where
  pos : 0 < p.2
  low : Int.gcd p.1 p.2 = 1
theorem Lo.fr {i j : Int} (h : j ≠ 0) : Lo (fr i j) := ⟨fr_pos h, fr_low h⟩
theorem Lo.eq {p q : Int × Int} (a : Lo p) (b : Lo q) (h : val p = val q) : p = q := by
  unfold val at h
  have h1 : (p.2 : Rat) ≠ 0 := cast_ne (by have := a.pos; omega)
  have h2 : (q.2 : Rat) ≠ 0 := cast_ne (by have := b.pos; omega)
  have h3 : (p.1 : Rat) * (q.2 : Rat) = (q.1 : Rat) * (p.2 : Rat) := by grind
  rw [← Rat.intCast_mul, ← Rat.intCast_mul] at h3
  have h4 : p.1 * q.2 = q.1 * p.2 := by exact_mod_cast h3
  obtain ⟨e1, e2⟩ := low_uniq a.pos b.pos a.low b.low h4
  exact Prod.ext e1 e2
def pl (t f : Int × Int) : Int × Int := fr (t.1 * f.2 + f.1 * t.2) (t.2 * f.2)
theorem pl_lo {t f : Int × Int} (a : t.2 ≠ 0) (b : f.2 ≠ 0) : Lo (pl t f) := Lo.fr (Int.mul_ne_zero a b)
structure Wt (p : Int × Int) : Prop where
  lo : Lo p
  b1 : Bd 32 p.1
  b2 : Bd 10 p.2
theorem fold_ne : ∀ (fs : List (Int × Int)) (t : Int × Int), t.2 ≠ 0 → (∀ f ∈ fs, f.2 ≠ 0) → (fs.foldl pl t).2 ≠ 0 := by
  intro fs
  induction fs with
  | nil => intro t h _; exact h
  | cons f r ih =>
    intro t h0 h
    have hf := h f (by simp)
    exact ih (pl t f) (by have := (pl_lo h0 hf).pos; omega) fun x hx => h x (by simp [hx])
theorem take_snoc {α : Type} {l : List α} {i : Nat} {x : α} (h : l[i]? = some x) : l.take (i + 1) = l.take i ++ [x] := by
  rw [List.take_add_one, h]
  rfl
/-! ### webs -/
abbrev Tie := Nat × Nat × (Int × Int)
abbrev encT (t : Tie) : PyData := .tuple [.int t.1, .int t.2.1, pr t.2.2]
abbrev encW (m : Nat) (ts : List Tie) : PyData := .tuple [.int m, .tuple (ts.map encT)]
structure TieOk (m : Nat) (t : Tie) : Prop where
  lt : t.1 < t.2.1
  lm : t.2.1 < m
  w : Wt t.2.2
structure WebOk (m : Nat) (ts : List Tie) : Prop where
  all : ∀ t ∈ ts, TieOk m t
  len : ts.length ≤ 170
  m1 : 1 ≤ m
  m60 : m ≤ 60
theorem get1 (ms : List MD) (A : MD) : (ms ++ [A])[ms.length]? = some A := by simp
theorem set1 (ms : List MD) (A X : MD) : (ms ++ [A]).set ms.length X = ms ++ [X] := by
  rw [List.set_append_right _ _ (Nat.le_refl _), Nat.sub_self]
  rfl
theorem get2a (ms : List MD) (A B : MD) : (ms ++ [A] ++ [B])[ms.length]? = some A := by
  rw [List.getElem?_append_left (by simp)]
  exact get1 ms A
theorem get2b (ms : List MD) (A B : MD) : (ms ++ [A] ++ [B])[ms.length + 1]? = some B := by
  have := get1 (ms ++ [A]) B
  rw [List.length_append] at this
  exact this
theorem set2a (ms : List MD) (A B X : MD) : (ms ++ [A] ++ [B]).set ms.length X = ms ++ [X] ++ [B] := by
  rw [List.set_append_left _ _ (by simp), set1]
theorem set2b (ms : List MD) (A B X : MD) : (ms ++ [A] ++ [B]).set (ms.length + 1) X = ms ++ [A] ++ [X] := by
  have := set1 (ms ++ [A]) B X
  rw [List.length_append] at this
  exact this
section
variable {K : PySem.W.Frag} {te ta tb tc tl : TE} {tt : TT} {tA : TA} {ds : List SD} {ms : List MD} {R : RS} {t u : TS} {P : Po}
/-- a statement, then what holds behind it, then the rest -/
theorem s_mid (Mid : List SD → List MD → Prop) (h1 : S K t ds ms { P with nx := Mid }) (h2 : ∀ ds1 ms1, Mid ds1 ms1 → S K u ds1 ms1 P) : S K (tSeq t u) ds ms P := fun L M σ H hS hA D n r b c =>
  h1 L M σ H hS hA { D with nx := u D } (fun σ1 H1 ds1 ms1 w s1 a1 h => h2 ds1 ms1 h L M σ1 H1 s1 a1 D (n.on w) (r.on a1 w) (b.on w) (c.on w)) r b c
end
end Hc

namespace Hc
open PySem PySem.Spec PyProof.Rows L2
/-! ### errors -/
abbrev PhX := List SD → List MD → RS → (List MD → Prop) → Prop
/-- a def that hands back, or raises the class at C -/
def SpX (K : PySem.W.Frag) (C : Addr) (Φ : PhX) : Sp := fun vs H Q X => ∃ L M ms as R Y, At L M ms H ∧ SlsOk K L M H as vs ∧ Φ as ms R Y ∧ (∀ s v H' ms', Wk L H H' → Out K L M H H' ms' v s → R s ms' → Q v H') ∧ ∀ H' ms', Wk L H H' → At L M ms' H' → Y ms' → X (.ref C) none H'
def Ex (L M : List Addr) (H : Hp) (C : Addr) (Y : List MD → Prop) (X : XK) : Prop := ∀ H' ms', Wk L H H' → At L M ms' H' → Y ms' → X (.ref C) none H'
def SX (K : PySem.W.Frag) (C : Addr) (t : XK → TS) (ds : List SD) (ms : List MD) (P : Po) (Y : List MD → Prop) : Prop :=
  ∀ (L M : List Addr) (σ : L2.St) (H : Hp), Sl K L M σ H ds → At L M ms H → ∀ (D : Ends) (X : XK), Nx K L M H P.nx D.nx → Rx K L M H P.rt D.rt → Nx K L M H P.bk D.bk → Nx K L M H P.ct D.ct → Ex L M H C Y X → t X D σ H
section
variable {K : PySem.W.Frag} {C : Addr} {te ta tb tc tl : TE} {tt : TT} {tA : TA} {ds : List SD} {ms : List MD} {R : RS} {P : Po} {Y : List MD → Prop}
theorem Ex.on {L M : List Addr} {H H1 : Hp} {X : XK} (w : Wk L H H1) (h : Ex L M H C Y X) : Ex L M H1 C Y X := fun H' ms' w2 => h H' ms' (w.trans w2)
theorem sx_of {t : TS} (h : S K t ds ms P) : SX K C (fun _ => t) ds ms P Y := fun L M σ H hS hA D X n r b c _ => h L M σ H hS hA D n r b c
theorem sx_seq {t u : XK → TS} (h : SX K C t ds ms { P with nx := fun ds1 ms1 => SX K C u ds1 ms1 P Y } Y) : SX K C (fun X => tSeq (t X) (u X)) ds ms P Y := fun L M σ H hS hA D X n r b c x =>
  h L M σ H hS hA { D with nx := u X D } X (fun σ1 H1 ds1 ms1 w s1 a1 h1 => h1 L M σ1 H1 s1 a1 D X (n.on w) (r.on a1 w) (b.on w) (c.on w) (x.on w)) r b c x
theorem sx_if {t u : XK → TS} (h : ET K tt ds ms fun b ms1 => (b = true → SX K C t ds ms1 P Y) ∧ (b = false → SX K C u ds ms1 P Y)) : SX K C (fun X => tIfS tt (t X) (u X)) ds ms P Y := fun L M σ H hS hA D X n r b c x =>
  h L M σ H hS hA _ fun k H1 ms1 w a ⟨h1, h2⟩ => by
    cases k with
    | true => exact h1 rfl L M σ H1 (hS.mono hA w) a D X (n.on w) (r.on a w) (b.on w) (c.on w) (x.on w)
    | false => exact h2 rfl L M σ H1 (hS.mono hA w) a D X (n.on w) (r.on a w) (b.on w) (c.on w) (x.on w)
/-- raise -/
def tRs (C : Addr) (X : XK) : TS := fun _ σ H => (fun (cls : Value) (d : Option Addr) (H' : Hp) => (fun (c : Value) (d : Option Addr) (_ : L2.St) (H : Hp) => X c d H) cls d σ H') (.ref C) none H
theorem sx_raise (h : Y ms) : SX K C (tRs C) ds ms P Y := fun L M σ H hS hA D X n r b c x => x H ms (Wk.refl L H) hA h
theorem kit_up {D : Addr} (hc : (PySem.W.clsIn K D).isSome = true) (ht : PySem.W.typeIn K (.ref D) = some (.type "type")) (hs : PySem.W.subIn K (.ref C) (.ref D) = some true) : PySem.W.kitOne K (.ref C) (.ref D) = some true := by
  unfold PySem.W.kitOne
  by_cases e : ((Value.ref C == Value.ref D) = true)
  · rw [if_pos e]
  · rw [if_neg e]
    show (if _ then _ else _) = _
    rw [hc, ht, hs]
    rfl
theorem kit_upT {T : String} (hm : PySem.W.kitMeta T = true) (hs : PySem.W.subIn K (.ref C) (.type T) = some true) : PySem.W.kitOne K (.ref C) (.type T) = some true := by
  unfold PySem.W.kitOne
  rw [if_neg (by simp)]
  show (if _ then _ else _) = _
  rw [if_pos hm, hs]
/-- a class of one's own over ValueError -/
structure Er (K : PySem.W.Frag) (mg : Str → Option Value) (x : Str) (C : Addr) : Prop where
  g : mg x = some (.ref C)
  x : PySem.W.excIn K C [.type "ValueError", .type "Exception", .type "BaseException", .type "object"] "ValueError.__new__" = true
  k : PySem.W.keepIn K (.ref C) = true
  b : PySem.W.subIn K (.ref C) (.type "BaseException") = some true
  t : PySem.W.typeIn K (.ref C) = some (.type "type")
  s : PySem.W.subIn K (.ref C) (.ref C) = some true
  e : ExcC K C
theorem ps_raiseD {X : Cx} {x m : Str} {j : Nat} {p p2 pos pos' : Pos} {E₁ : Value → Shared → Prop} {Y : XK} (e : Er X.K X.mg x C) (hc : X.calm = true) (hs : X.stack = X.env :: X.outer) (hf : X.env.frame = some X.env.locals) (hex : X.ex = [])
    (hx : X.xe = fun e s' => wpAny (model X.prog X.w) X.A (leaving X.env e) (fun _ s'' => L2.CX X.prog X.w X.outer X.H_0 X.s_0 Y e s'') E₁ s') (hg : Gl X x) (hdb : (x == ("__debug__" : Str)) = false := by decide) :
    PS X (.Raise (some (.Call (.Name x p) [.Constant (.str m) j p2] [] pos)) none pos') (tRs C Y) :=
  ps_raise hc (takes_of hs hf hex hx) (pmk_own PySem.F.excBase_ValueError e.x e.g e.k (raises_own e.b e.t) hg hdb)
/-- a def that may raise, by name -/
structure KnX (Pg : Program) (w : World) (K : PySem.W.Frag) (mg : Str → Option Value) (base : Heap) (x : Str) (lv : Nat) (ps : List Str) (C : Addr) (Φ : PhX) : Prop where
  ex : ∃ f fd, FnOk Pg w K mg base (L2.CX Pg w) lv f fd ps (SpX K C Φ) ∧ mg x = some (.ref f) ∧ PySem.W.keepIn K (.ref f) = true ∧ Binds K fd ps []
theorem pe_callX {X : Cx} {x : Str} {lv : Nat} {ps : List Str} {Φ : PhX} {W : WX} {e : Expr} {es : List Expr} {t : TA} {p pos : Pos} (h : KnX X.prog X.w X.K X.mg X.base x lv ps C Φ) (hr : Room lv X.A) (hg : Gl X x) (tk : Takes X W) (ha : PA X (e :: es) t)
    (hdb : (x == ("__debug__" : Str)) = false := by decide) (he : starEach (e :: es) X.env = (false, eval e X.env) :: starEach es X.env := by rfl) (hpl : (backTo pos (starEach es X.env)).any (·.1) = false := by rfl) :
    PE X (.Call (.Name x p) (e :: es) [] pos) (tCallS (SpX X.K C Φ) (WE W) t) := by
  obtain ⟨f, fd, G, m, k, b⟩ := h.ex
  exact pe_callS G hr hg m k b (fun σ => passAt tk σ) ha hdb he hpl
theorem e_callX0 {Φ : PhX} (h : EA K tA ds ms fun as ms1 => Φ as ms1 R fun _ => False) : E K (tCall (SpX K C Φ) [] E0 tA) ds ms R := fun L M σ H hS hA Q q =>
  h L M σ H hS hA _ fun as vs H1 ms1 w1 a1 o1 h1 => by
    rw [List.append_nil]
    exact ⟨L, M, ms1, as, R, fun _ => False, a1, o1, h1, fun s v H3 ms3 w3 o3 r3 => q s v H3 ms3 (w1.trans w3) (o3.back a1 w1) r3, fun _ _ _ _ z => z.elim⟩
theorem okX_of {Pg : Program} {w : World} {mg : Str → Option Value} {base : Heap} {x qual : Str} {st : Stmt} {f : Addr} {fd : FuncData} {N ps : List Str} {k : Nat} {Φ : PhX} (F : Fun K x qual st f fd) (Sc : FnScope N ps (defScope st)) (hl : ∀ as ms R Y, Φ as ms R Y → as.length = ps.length) (hpn : ps.length ≤ N.length)
    (t : XK → TS) (hbody : ∀ (cdv : Value) (A : Around) (outer : List Env) (s : Shared) (H : Hp) (E : XK), Room k (A.deeper (envOfC qual (defScope st) s.heap.objs.size f cdv)) → PSs (cxOf (L2.CX Pg w) Pg w K mg base N qual (defScope st) f cdv A outer s H E) (defBody st) (t E))
    (h2 : ∀ as ms R Y, Φ as ms R Y → SX K C t (as ++ List.replicate (N.length - as.length) .u) ms (fin R) Y) : FnOk Pg w K mg base (L2.CX Pg w) (k + 1) f fd ps (SpX K C Φ) := by
  refine F.okX Sc (fun vs H Q E h => ?_) (fun cdv A outer s H vs Q E hr h => ⟨t E, hbody cdv A outer s H E hr, ?_⟩)
  · obtain ⟨L, M, ms, as, R, Y, hA, ho, hp, q⟩ := h
    rw [← ho.len]
    exact hl as ms R Y hp
  · obtain ⟨L, M, ms, as, R, Y, hA, ho, hp, q, x⟩ := h
    exact h2 as ms R Y hp L M _ H (Sl.start ho (by rw [hl as ms R Y hp]; exact hpn)) hA _ E (fun σ' H' ds' ms' w s a r => q (.d .none) .non H' ms' w ⟨a, .non⟩ r) (fun s v H' ms' w o r => q s v H' ms' w o r) (fun _ _ _ _ _ _ _ z => z.elim) (fun _ _ _ _ _ _ _ z => z.elim) x
/-! ### try .. except X as n -/
/-- a suite that is for the class at C alone -/
def tSu (C : Addr) (cls : Value) (d : Option Addr) (t : TS) : TS := fun D σ H => (cls = .ref C ∧ d = none) ∧ t D σ H
theorem pss_su {X : Cx} {cls : Value} {d : Option Addr} {st : List Stmt} {t : TS} (h : cls = .ref C → d = none → PSs X st t) : PSs X st (tSu C cls d t) := ⟨fun pins s σ H D I q => by
  obtain ⟨⟨e1, e2⟩, q⟩ := q
  exact (h e1 e2).run pins s σ H D I q⟩
theorem e_isE {i : Nat} {a : Addr} {c : V} {cv : Value} {k : Bool} (hi : ds[i]? = some (.v (.ref a))) (hc : ∀ u, RelV c u → u = cv) (hk : PySem.W.kitOne K (.ref C) cv = some k) (r : R (.d (.bool k)) ms) : E K (tCB (rIsE K C a) (tCons (tVar i) (tCons (tC c) tNil))) ds ms R := fun L M σ H hS hA Q q => by
  obtain ⟨v, e, o⟩ := hS.get hi (fun z => nomatch z)
  cases o
  exact ⟨.ref a, e, c, cv, k, rfl, hc, hk, q (.d (.bool k)) _ H ms (Wk.refl L H) ⟨hA, .bl k⟩ r⟩
end
def phx2 (f : SD → SD → List MD → RS → (List MD → Prop) → Prop) : PhX := fun as ms R Y => ∃ a b, as = [a, b] ∧ f a b ms R Y
theorem phx2_len {f : SD → SD → List MD → RS → (List MD → Prop) → Prop} : ∀ as ms R Y, phx2 f as ms R Y → as.length = 2 := fun _ _ _ _ ⟨_, _, e, _⟩ => by rw [e]; rfl
end Hc

namespace Hc
open PySem PySem.Spec PyProof.Rows L2
/-! ### what is a list or a tuple, in a slot, walked -/
section
variable {K : PySem.W.Frag} {te ta tb tc tl : TE} {tt : TT} {tA : TA} {ds : List SD} {ms : List MD} {R : RS} {P : Po}
end
end Hc

namespace Hc
open PySem PySem.Spec PyProof.Rows L2
/-! ### o[i] op= e -/
section
variable {K : PySem.W.Frag} {te ta tb tc tl : TE} {tt : TT} {tA : TA} {ds : List SD} {ms : List MD} {R : RS} {P : Po}
theorem rr_rep {a b : SD} (h : ∃ (e : PyData) (k : Int), a = .d (.list [e]) ∧ b = .d (.int k) ∧ 0 ≤ k ∧ k ≤ 1000 ∧ R (.f (List.replicate k.toNat e)) ms) : RR K rRep a b ms R := fun L M H x y hA ha hb Q q => by
  obtain ⟨e, k, rfl, rfl, h1, h2, r⟩ := h
  cases hb
  obtain ⟨p, xs, rfl, ep, rp⟩ := cat_lst ha
  obtain ⟨v, rfl⟩ : ∃ v, xs = [v] := by
    cases rp with
    | cons z y => cases y; exact ⟨_, rfl⟩
  refine ⟨p, k, [v], rfl, rfl, ep, by omega, by omega, by show 1 * k.toNat ≤ sizeLine; rw [Nat.one_mul]; exact Nat.le_trans (show k.toNat ≤ 1000 by omega) (by decide), ?_⟩
  have rr : ∀ m : Nat, RpA M H (List.replicate m [v]).flatten (List.replicate m e) := fun m => by
    induction m with
    | zero => exact .nil
    | succ m ih =>
      rw [List.replicate_succ, List.replicate_succ, List.flatten_cons]
      cases rp with
      | cons z y => exact .cons z ih
  intro l hl
  exact q (.f (List.replicate k.toNat e)) _ _ ms (Wk.new hl) (out_new hA (Wk.refl L H) hl (rr k.toNat)) r
theorem erase_map : ∀ (ns : List Int) (i : Nat), (ns.map V.int).eraseIdx i = (ns.eraseIdx i).map V.int
  | [], _ => rfl
  | _ :: _, 0 => rfl
  | a :: r, i + 1 => by
    show V.int a :: (r.map V.int).eraseIdx i = V.int a :: (r.eraseIdx i).map V.int
    rw [erase_map r i]
theorem inV_ints (x : Int) (ns : List Int) : inV (.int x) (ns.map V.int) = decide (x ∈ ns) := by
  unfold inV
  induction ns with
  | nil => rfl
  | cons a r ih =>
    rw [List.map_cons, List.any_cons, ih]
    show ((a == x) || _) = _
    by_cases e : a = x
    · subst e; simp
    · have e' : (a == x) = false := by simp [e]
      rw [e']
      have : ¬ x = a := fun z => e z.symm
      simp [this]
theorem flat_ints (ns : List Int) : (ns.map V.int).all flatV = true := by
  rw [List.all_eq_true]
  intro v hv
  obtain ⟨i, _, rfl⟩ := List.mem_map.mp hv
  rfl
theorem rr_in {a b : SD} {neg : Bool} (h : ∃ (x : Int) (ns : List Int), a = .d (.int x) ∧ (Sv ms b (.list (ns.map .int)) ∨ Sv ms b (.tuple (ns.map .int))) ∧ R (.d (.bool (if neg then !decide (x ∈ ns) else decide (x ∈ ns)))) ms) : RR K (rIn K neg) a b ms R := fun L M H u v hA ha hb Q q => by
  obtain ⟨x, ns, rfl, sv, r⟩ := h
  cases ha
  rw [← inV_ints] at r
  rcases sv with sv | sv
  · obtain ⟨p, xs, rfl, hq, hr⟩ := sv.lst hA hb
    rw [RpA.ints_inv hr] at hq
    exact ⟨p, _, rfl, .inl hq, rfl, flat_ints ns, q (.d (.bool _)) _ H ms (Wk.refl L H) ⟨hA, .bl _⟩ r⟩
  · obtain ⟨p, xs, rfl, hq, hr⟩ := sv.tup hb
    rw [RpA.ints_inv hr] at hq
    exact ⟨p, _, rfl, .inr (SqT.of hq), rfl, flat_ints ns, q (.d (.bool _)) _ H ms (Wk.refl L H) ⟨hA, .bl _⟩ r⟩
theorem rc_sorted {as : List SD} (h : ∃ (s : SD) (ns : List Int), as = [s] ∧ Sv ms s (.list (ns.map .int)) ∧ ∀ ns' : List Int, ns'.Perm ns → ns'.Pairwise (· ≤ ·) → R (.f (ns'.map .int)) ms) : RC K (rSortedI K) as ms R := fun L M H vs hA ha Q q => by
  obtain ⟨s, ns, rfl, sv, r⟩ := h
  obtain ⟨v, t, rfl, hv, rfl⟩ := ha
  obtain ⟨p, xs, rfl, hq, hr⟩ := sv.lst hA hv
  rw [RpA.ints_inv hr] at hq
  refine ⟨p, ns, rfl, hq, ?_⟩
  intro ns' l hp hs hl
  exact q (.f (ns'.map .int)) _ _ ms (Wk.new hl) (out_new hA (Wk.refl L H) hl (RpA.ints ns')) (r ns' hp hs)
/-- list(range(n)) -/
theorem e_lrg (h : E K ta ds ms fun s ms1 => ∃ n : Nat, s = .d (.int n) ∧ n ≤ 10000 ∧ R (.f ((List.range n).map fun k : Nat => PyData.int k)) ms1) : E K (tLstRg (tRg1 ta)) ds ms R := fun L M σ H hS hA Q q =>
  h L M σ H hS hA _ fun s v H1 ms1 w o ⟨n, e, hn, r⟩ => by
    subst e
    obtain ⟨a1, z⟩ := o
    cases z
    refine ⟨n, rfl, .of_le (by omega) (by omega) (by omega) (by omega), fun l hl => ?_⟩
    have rr : RpA M H1 (rgV 0 (n : Int)) ((List.range n).map fun k : Nat => PyData.int k) := by
      unfold rgV
      have e0 : ((n : Int) - 0).toNat = n := by omega
      rw [e0]
      have : ∀ l : List Nat, RpA M H1 (l.map fun i : Nat => V.int (0 + (i : Int))) (l.map fun k : Nat => PyData.int k) := fun l => by
        induction l with
        | nil => exact .nil
        | cons a r ih =>
          refine .cons ?_ ih
          show Rp M H1 (.int (0 + (a : Int))) (.int a)
          rw [Int.zero_add]
          exact .int _
      exact this _
    exact q (.f _) _ _ ms1 (w.trans (Wk.new hl)) (out_new a1 w hl rr) r
/-- xs.pop(i) of a list of ints that may change -/
theorem e_popAt (h : E K ta ds ms fun s ms1 => ∃ k, s = .m k ∧ E K te ds ms1 fun x ms2 => ∃ (ns : List Int) (i : Nat) (y : Int), x = .d (.int i) ∧ ms2[k]? = some (.l (ns.map .int)) ∧ ns[i]? = some y ∧ ns.length ≤ 10000 ∧ R (.d (.int y)) (ms2.set k (.l ((ns.eraseIdx i).map .int)))) : E K (tBM K "list" rPopAt ta (tCons te tNil)) ds ms R := fun L M σ H hS hA Q q =>
  h L M σ H hS hA _ fun s v H1 ms1 w o ⟨k, e, h2⟩ => by
    subst e
    obtain ⟨a1, p, rfl, hp, hls⟩ := o
    have hpL : p ∈ L := List.mem_of_getElem? hp
    have hk : k < ms1.length := by rw [← a1.ln]; exact (List.getElem?_eq_some_iff.mp hp).1
    · obtain ⟨xs0, e0⟩ := hls
      refine ⟨.inl ⟨rfl, xs0, SqL.of e0⟩, ?_⟩
      refine h2 L M σ H1 (hS.mono hA w) a1 _ fun x y H2 ms2 w2 o2 ⟨ns, i, z, ex, em, hz, hl, r⟩ => ?_
      subst ex
      obtain ⟨a2, o⟩ := o2
      cases o
      obtain ⟨xs, e1, r1⟩ := a2.get hp em
      have hxs := RpA.ints_inv r1
      subst hxs
      have hi := (List.getElem?_eq_some_iff.mp hz).1
      refine ⟨p, _, i, i, .int z, rfl, rfl, e1, by omega, by omega, ?_, by rw [List.getElem?_map, hz]; rfl, ?_⟩
      · unfold seqIndex?
        simp only [List.length_map]
        rw [if_neg (show ¬ (i : Int) < 0 by omega)]
        simp [hi]
      · have : (ns.map V.int).eraseIdx i = (ns.eraseIdx i).map V.int := erase_map ns i
        rw [this]
        exact q (.d (.int z)) _ _ _ ((w.trans w2).trans (Wk.mut hpL e1)) ⟨a2.put hp e1 (RpA.ints _), .int z⟩ r
theorem e_count (h : E K ta ds ms fun s ms1 => ∃ ns : List Int, Sv ms1 (dd s) (.list (ns.map .int)) ∧ E K te ds ms1 fun x ms2 => ∃ k : Int, x = .d (.int k) ∧ ms2 = ms1 ∧ R (.d (.int (ns.count k : Nat))) ms2) : E K (tBM K "list" (rCntI K) ta (tCons te tNil)) ds ms R := fun L M σ H hS hA Q q =>
  h L M σ H hS hA _ fun s v H1 ms1 w o ⟨ns, sv, h2⟩ => by
    have a1 := o.at
    have os := o.sl
    obtain ⟨p, xs, rfl, hq, hr⟩ := sv.lst a1 os
    refine ⟨.inl ⟨rfl, xs, hq⟩, ?_⟩
    refine h2 L M σ H1 (hS.mono hA w) a1 _ fun x y H2 ms2 w2 o2 ⟨k, ex, em, r⟩ => ?_
    subst ex em
    obtain ⟨a2, z⟩ := o2
    cases z
    obtain ⟨p2, xs2, ep, hq2, hr2⟩ := sv.lst a2 (os.mono a1 w2)
    cases ep
    rw [RpA.ints_inv hr2] at hq2
    exact ⟨p, ns, k, rfl, rfl, hq2, q (.d (.int _)) _ H2 _ (w.trans w2) ⟨a2, .int _⟩ r⟩
section
variable {L M : List Addr} {σ : L2.St} {H1 H' : Hp}
theorem lc_turn2 {g : TG} {js : List Nat} {vs : List Nat} {D : Addr} {i : Nat} {acc : List PyData} {ms0 ms1 : List MD} {H2 : Hp} {x : SD} {v : V} {Nn : Nat → List PyData → List MD → Prop} (hj : ∀ j ∈ js, j ∈ vs) (hi : i < 10000)
    (hS : Sl K L M σ H1 ds) (a0 : At L M ms0 H1) (hD : H1 D = none) (c : Cs L M H1 D i acc ms1 H2) (ho : SlOk K L (M ++ [D]) H2 x v) (h : Lt K g js tt te vs ds x ms1 acc (Nn (i + 1))) :
    g v (L2.wipe σ vs) H2 fun σ2 H3 => L2.wipe σ2 vs = L2.wipe σ vs ∧ tt σ2 H3 fun b H4 => if b = true then te σ2 H4 fun y H5 => ∃ ac, H5 D = some (.lst ac) ∧ ac.length < sizeLine ∧ (∃ acc' ms', Cs L M H1 D (i + 1) acc' ms' (upd H5 D (.lst (ac ++ [y]))) ∧ Nn (i + 1) acc' ms') else ∃ acc' ms', Cs L M H1 D (i + 1) acc' ms' H4 ∧ Nn (i + 1) acc' ms' := by
  have t : To M (M ++ [D]) H1 H2 := to_new a0 hD c.w
  have hDL : D ∉ L := a0.freshL hD
  have s2 : Sl K L (M ++ [D]) (L2.wipe σ vs) H2 (wipeD ds vs) := (hS.to t c.w.kd fun _ _ e => e).wipe vs
  refine h L (M ++ [D]) (L2.wipe σ vs) H2 v s2 c.a ho _ fun σ2 ds2 sl2 wp h2 => ?_
  have wv : L2.wipe σ2 vs = L2.wipe σ vs := by
    rw [wp vs hj]
    apply List.ext_getElem?
    intro i
    rw [wipe_get, wipe_get, wipe_length]
    by_cases e : i ∈ vs
    · rw [if_pos e, if_pos e]
    · simp only [if_neg e, wipe_get]
  refine ⟨wv, ?_⟩
  refine h2 L (M ++ [D]) σ2 H2 sl2 c.a _ fun b H4 ms4 w4 a4 ⟨k1, k2⟩ => ?_
  obtain ⟨xs, e, r⟩ := c.d
  have e4 : H4 D = some (.lst xs) := w4 D _ hDL e
  have r4 : RpA (M ++ [D]) H4 xs acc := RpA.to (c.a.wk w4) _ _ r
  cases b with
  | false =>
    rw [if_neg Bool.false_ne_true]
    exact ⟨acc, ms4, ⟨c.w.trans w4, a4, Nat.le_succ_of_le c.le, xs, e4, r4⟩, k2 rfl⟩
  | true =>
    rw [if_pos rfl]
    refine k1 rfl L (M ++ [D]) σ2 H4 (sl2.mono c.a w4) a4 _ fun s y H5 ms5 w5 o5 ⟨d, ed, hn⟩ => ?_
    have a5 := o5.at
    have ry := o5.sl
    rw [ed] at ry
    have e5 : H5 D = some (.lst xs) := w5 D _ hDL e4
    have r5 : RpA (M ++ [D]) H5 xs acc := RpA.to (a4.wk w5) _ _ r4
    have hDM : D ∈ M ++ [D] := by simp
    have tt5 : To (M ++ [D]) (M ++ [D]) H5 (upd H5 D (.lst (xs ++ [y]))) := fun a o n q => ⟨n, by rw [upd_ne (fun z : a = D => n (by rw [z]; exact hDM))]; exact q⟩
    refine ⟨xs, e5, by rw [r5.length]; exact Nat.lt_of_le_of_lt c.le (Nat.lt_trans hi (by decide)), acc ++ [d], ms5, ⟨((c.w.trans w4).trans w5).over hD, ⟨a5.nd, a5.sub, fun p hp => ?_, a5.ln, fun k p m e1 e2 => ?_⟩, ?_, xs ++ [y], upd_same, RpA.to tt5 _ _ (r5.append (.cons ry .nil))⟩, hn⟩
    · by_cases z : p = D
      · subst z; rw [upd_same]; exact ⟨_, rfl, trivial⟩
      · rw [upd_ne z]; exact a5.al p hp
    · exact (a5.ok k p m e1 e2).to tt5 (upd_ne (fun z => hDL (z ▸ List.mem_of_getElem? e1)))
    · rw [List.length_append]; have := c.le; simp; exact this
theorem Cs.new {D T : Addr} {i : Nat} {acc : List PyData} {ms1 : List MD} {H2 : Hp} {o : HO} (c : Cs L M H1 D i acc ms1 H2) (hT : H2 T = none) : Cs L M H1 D i acc ms1 (upd H2 T o) := by
  obtain ⟨xs, e, r⟩ := c.d
  exact ⟨c.w.trans (Wk.new hT), c.a.new hT, c.le, xs, by rw [upd_ne (ne_of_none e hT)]; exact e, RpA.to (c.a.wk (Wk.new hT)) _ _ r⟩
end
end
end Hc

namespace Hc
open PySem PySem.Spec PyProof.Rows L2
/-! ### enumerate(t) of a tuple -/
abbrev enO (i : Addr) : Obj := { cls := .type "enumerate", data := .fields #[.none, .bool false, .ref i, rawInt 0, .none, .none] }
theorem en_new {v : Value} {ob : Obj} {G : Heap → Prop} (B : Begins v ob G) :
    Meets (Builtin.«enumerate.__new__» ⟨[.type "enumerate", v], []⟩) (fun _ R st => G st.heap ∧
      R (.ok (.ret (.ref (st.heap.push ob).objs.size))) { st with heap := (st.heap.push ob).push (enO st.heap.objs.size) }) :=
  .of_wp fun pr wd Ar R st hh => by
    obtain ⟨hp, gn, dr, tk, os⟩ := st
    obtain ⟨g1, g2⟩ := hh
    have sb := sub_enumerate
    have go : ∀ {A2 : Around} {E2 : Value → Shared → Prop} {Q2 : Value → Shared → Prop}, Q2 (.ref hp.objs.size) ⟨hp.push ob, gn, dr, tk, os⟩ →
        wpAny (model pr wd) A2 (pyIter v) Q2 E2 ⟨hp, gn, dr, tk, os⟩ := fun z => B.iter pr wd _ _ ⟨hp, gn, dr, tk, os⟩ _ g1 z
    wp_walk using go
    refine wpAny_stack_any fun sk => wpAny_pure ?_
    split
    · rename_i cl _ _ _ _ _
      cases (cl == Value.type "enumerate") <;> (wp_walk using go; exact ⟨_, rfl, g2⟩)
    · wp_walk using go
      exact ⟨_, rfl, g2⟩
section
variable {pr : Program} {wd : World} {Ar : Around} {Ex : Value → Shared → Prop} {st : Shared}
theorem en_call {v : Value} {ob : Obj} {G : Heap → Prop} {Q : Value → Shared → Prop} (B : Begins v ob G) (g : G st.heap)
    (k : ∀ hp, IsEnum hp (st.heap.objs.size + 1) st.heap.objs.size 0 .none → hp.get? st.heap.objs.size = some ob → (∀ b u, st.heap.get? b = some u → hp.get? b = some u) → Q (.ref (st.heap.objs.size + 1)) { st with heap := hp }) :
    wpAny (model pr wd) Ar (call (.type "enumerate") [v]) Q Ex st := by
  refine callType_new F.called_enumerate (by decide) (F.typeCall_enumerate_1 _) (F.newCall_enumerate_1 _) (fun z => F.args_object_init_2 z _)
    F.entry_enumerate_new (en_new B) ⟨g, ?_⟩
  have sz : (st.heap.push ob).objs.size = st.heap.objs.size + 1 := Heap.size_push ..
  have en : IsEnum ((st.heap.push ob).push (enO st.heap.objs.size)) (st.heap.objs.size + 1) st.heap.objs.size 0 .none := by
    rw [← sz]
    exact Heap.get?_push_size (st.heap.push ob) rfl
  show _ ∧ _
  rw [sz]
  exact ⟨⟨_, en, rfl⟩, k _ en (Heap.get?_push_of_some _ (Heap.get?_push_size _ B.free)) fun b u z => Heap.get?_push_of_some _ (Heap.get?_push_of_some _ z)⟩
end
/-- the tuple at a, in new pairs with the numbers -/
def ItE (K : PySem.W.Frag) (a : Addr) : It where
  go := fun i H => ∃ (xs : List V) (x : V), SqT K H a xs ∧ xs[i]? = some x
  yld := fun i H v H2 => ∃ (N : Addr) (x : V), v = .ref N ∧ H N = none ∧ H2 = upd H N (.tup [.int ((i : Nat) : Int), x]) ∧ ∀ xs : List V, SqT K H a xs → xs[i]? = some x
  stop := fun i H => ∃ xs : List V, SqT K H a xs ∧ i = xs.length
theorem two_ne {h : Heap} {a b : Addr} {o u : Obj} (ha : h.get? a = some o) (hb : h.get? b = some u) (hc : o.cls ≠ u.cls) : a ≠ b := fun z => by
  subst z
  rw [ha] at hb
  exact hc (congrArg Obj.cls (Option.some.inj hb))
theorem turn_enT {P : Program} {w : World} {K : PySem.W.Frag} {es : List Expr} {n : Nat} {q : Pos} (a e i1 : Addr) :
    Turn P w K (.Tuple es n q) (ItE K a) [e, i1] e (fun i h => (∃ z, IsEnum h e i1 ((i : Nat) : Int) z) ∧ h.IsTupleIter i1 a i ∧ e ≠ i1) where
  mem := List.mem_cons_self ..
  obj := fun i h tn b hb => by
    obtain ⟨⟨z, he⟩, ⟨o, ho, _, hd⟩, _⟩ := tn
    rcases List.mem_cons.mp hb with rfl | hb
    · exact ⟨_, he, nofun⟩
    · rw [List.mem_singleton.mp hb]
      exact ⟨o, ho, fun v y => by rw [hd] at y; cases y⟩
  keep := fun i h h2 tn k => by
    obtain ⟨⟨z, he⟩, hi, ne⟩ := tn
    exact ⟨⟨z, k e (by simp) _ he⟩, hi.at fun o y => k i1 (by simp) o y, ne⟩
  item := by
    intro X e1 e2 e3 cm i pins s σ H Ex I fp tn gg
    subst e1 e2 e3
    obtain ⟨⟨z, he⟩, hi, ne⟩ := tn
    obtain ⟨xs, x, sq, hx⟩ := gg
    obtain ⟨its, rv, tp, _⟩ := I.tuple sq
    obtain ⟨u, hu, ru⟩ := rv.get hx
    have tp' : s.heap.IsTuple a its.toArray := tp
    obtain ⟨o1, ho1, hc1, _⟩ := id tp'
    obtain ⟨o2, ho2, hc2, _⟩ := id hi
    have ai : a ≠ i1 := two_ne ho1 ho2 (by rw [hc1, hc2]; exact (by simp))
    have ea : e ≠ a := two_ne he ho1 (by rw [hc1]; exact (by simp))
    have el := Heap.lt_size he
    have il := Heap.lt_size ho2
    have lt : i < its.toArray.size := by
      have := (List.getElem?_eq_some_iff.mp hu).1
      simpa using this
    have D : Draws X.prog X.w X.A.in1 i1 [i1, a] its.toArray.size (fun j v => its.toArray[j]? = some v) (fun j hp => hp.IsTupleIter i1 a j ∧ hp.IsTuple a its.toArray) := Draws.tuple (A := X.A.in1) (show X.A.in1.handled = none from I.ok.hd cm) i1 a ai its.toArray
    refine wpAny_pyNext_enum_itemD D he ⟨hi, tp'⟩ lt ne (by simp; exact ⟨ne, ea⟩) fun u2 h2 tk hu2 out hs2 hT _ kp => ?_
    have : u2 = u := by
      have y : its.toArray[i]? = some u2 := hu2
      rw [List.getElem?_toArray, hu] at y
      exact (Option.some.inj y).symm
    subst this
    refine ⟨_, rfl, wpAny_letOwnedTupleGo_enum (s := { s with heap := h2, toks := tk + 1 }) out fun h3 he3 sb => ?_⟩
    have hT3 : h3.get? s.heap.objs.size = some { cls := .type "tuple", data := .seq #[.int i tk, u2] } := (sb.2 _ (Nat.ne_of_gt el)).trans hT
    have ok : ObjOk X.prog X.w (upd H s.heap.objs.size (.tup [.int ((i : Nat) : Int), x])) h3 s.heap.objs.size (.tup [.int ((i : Nat) : Int), x]) :=
      ⟨Nat.le_of_ble_eq_true rfl, [.int i tk, u2], .cons ⟨_, rfl⟩ (.cons ru .nil), ⟨_, hT3, rfl, _, rfl⟩⟩
    have I3 : L2.Inv X pins σ (upd H s.heap.objs.size (.tup [.int ((i : Nat) : Int), x])) { s with heap := h3, toks := tk + 1 } :=
      I.turnedNew (ch := [e, i1]) (fun b o nb y => by
        have b1 : b ≠ e := fun y => nb (by simp [y])
        have b2 : b ≠ i1 := fun y => nb (by simp [y])
        exact (sb.2 b b1).trans (kp b o b1 b2 y)) fp (Nat.le_refl _) ok
    refine ⟨.ref s.heap.objs.size, _, I3, rfl, ⟨_, x, rfl, I.hok.fresh (Nat.le_refl _), rfl, fun ys sy => by rw [I.tuple_inj sy sq]; exact hx⟩, ⟨⟨u2, ?_⟩, hs2.1.at fun o y => (sb.2 i1 (Ne.symm ne)).trans y, ne⟩, fun b hb => ?_⟩
    · have c : (((i + 1 : Nat)) : Int) = (i : Int) + 1 := Int.natCast_succ i
      rw [c]
      exact he3
    · have lb : b < s.heap.objs.size := by
        rcases List.mem_cons.mp hb with rfl | hb
        · exact el
        · rw [List.mem_singleton.mp hb]; exact il
      rw [upd_ne (Nat.ne_of_lt lb)]
      exact (fp b hb).1
  done := by
    intro X e1 e2 e3 cm i pins s σ H Ex I fp tn gg
    subst e1 e2 e3
    obtain ⟨⟨z, he⟩, hi, ne⟩ := tn
    obtain ⟨xs, sq, hx⟩ := gg
    obtain ⟨its, rv, tp, _⟩ := I.tuple sq
    have tp' : s.heap.IsTuple a its.toArray := tp
    obtain ⟨o1, ho1, hc1, _⟩ := id tp'
    obtain ⟨o2, ho2, hc2, _⟩ := id hi
    have ai : a ≠ i1 := two_ne ho1 ho2 (by rw [hc1, hc2]; exact (by simp))
    have D : Draws X.prog X.w X.A.in1 i1 [i1, a] its.toArray.size (fun j v => its.toArray[j]? = some v) (fun j hp => hp.IsTupleIter i1 a j ∧ hp.IsTuple a its.toArray) := Draws.tuple (A := X.A.in1) (show X.A.in1.handled = none from I.ok.hd cm) i1 a ai its.toArray
    have ln := rv.length
    have is : its.toArray.size = i := by simp; omega
    obtain ⟨f0, f1, _, f3, f4, f5⟩ := fp i1 (by simp)
    exact wpAny_pyNext_enum_endD D he (by rw [is]; exact ⟨hi, tp'⟩) fun h2 eb => ⟨rfl, I.turned (t' := s.toks) (fun b o nb y => eb b o nb y) f0 f1 f3 f4 f5⟩
  self := fun A i s Q Ex tn k => by
    obtain ⟨⟨z, he⟩, _⟩ := tn
    exact wpAny_pyIter_enum he k
def iEnT (K : PySem.W.Frag) (ta : TA) : TI := fun σ H R => ta σ H fun vs H1 => ∃ (a : Addr) (xs : List V), vs = [.ref a] ∧ SqT K H1 a xs ∧ R (ItE K a) H1
theorem pi_enT {X : Cx} {ex : Expr} {ta : TA} {p1 p2 p3 : Pos} {es : List Expr} {n : Nat} (hg : Gl X "enumerate") (hm : X.mg "enumerate" = none) (ha : PA X [ex] ta) (hs : starEach [ex] X.env = [(false, eval ex X.env)] := by rfl) :
    PI X (.Tuple es n p3) (.Call (.Name "enumerate" p1) [ex] [] p2) (iEnT X.K ta) := by
  constructor
  intro pins s σ H R I h
  refine Call_ (ld_blt I hg hm boot_enumerate (PyProof.Rows.callWith_type1 (thn (ha.run p2 pins s σ H _ I h) ?_) hs rfl))
  rintro us s1 ⟨vs, H1, I1, r1, a, xs, rfl, sq, q⟩
  cases r1 with
  | cons r rr =>
    cases rr
    cases r
    obtain ⟨its, rv, tp, _⟩ := I1.tuple sq
    refine en_call (begins_tuple a its.toArray) tp fun hp he hi kp => wpAny_pyIter_enum he ?_
    have fr : ∀ b ∈ [s1.heap.objs.size + 1, s1.heap.objs.size], FpOk X pins H1 b := fun b hb => by
      have le : s1.heap.objs.size ≤ b := by
        rcases List.mem_cons.mp hb with rfl | hb
        · exact Nat.le_succ _
        · rw [List.mem_singleton.mp hb]
          exact Nat.le_refl _
      exact I1.fpOk le (I1.hok.fresh le)
    exact ⟨_, [s1.heap.objs.size + 1, s1.heap.objs.size], _, _, H1, rfl, I1.kept (t' := s1.toks) kp, turn_enT a _ _, ⟨⟨.none, he⟩, ⟨_, hi, rfl, rfl⟩, Nat.succ_ne_self _⟩, fr, q⟩
theorem walk_enT {K : PySem.W.Frag} {a : Addr} {xs : List V} : Walk (ItE K a) xs.length (fun H => SqT K H a xs) (YPair (fun i => some (V.int ((i : Nat) : Int))) (fun i => xs[i]?)) where
  goes := fun i H hi sq => ⟨xs, xs[i], sq, List.getElem?_eq_getElem hi⟩
  stops := fun H sq => ⟨xs, sq, rfl⟩
  yields := fun i H v H2 hi sq ⟨N, x, e, f, u, k⟩ => ⟨N, _, x, e, f, u, rfl, k xs sq⟩
section
variable {K : PySem.W.Frag} {te ta tb tc tl : TE} {tt : TT} {tA : TA} {ds : List SD} {ms : List MD} {R : RS} {t u : TS} {P : Po}
theorem s_forET {g : TG} {js : List Nat} (h : EA K tA ds ms fun as ms0 => ∃ es : List PyData, as = [.d (.tuple es)] ∧ ∃ Pv : Nat → List SD → List MD → Prop, Pv 0 ds ms0 ∧
      (∀ i e ds1 ms1, es[i]? = some e → Pv i ds1 ms1 → EG K g js (.d (.tuple [.int (i : Nat), e])) ds1 ms1 fun ds2 ms2 => S K t ds2 ms2 { P with nx := Pv (i + 1), ct := Pv (i + 1), bk := P.nx }) ∧ ∀ ds1 ms1, Pv es.length ds1 ms1 → P.nx ds1 ms1) :
    S K (tFor (iEnT K tA) g t) ds ms P := fun L M σ H hS hA D n r b c =>
  h L M σ H hS hA _ fun as vs H1 ms0 w a1 o ⟨es, ea, Pv, h0, hs, hd⟩ => by
    subst ea
    obtain ⟨v, t1, rfl, hv, rfl⟩ := o
    have hv' : Rp M H1 v (.tuple es) := hv
    cases hv' with
    | @tup a xs _ na ea rx =>
    refine ⟨a, xs, rfl, SqT.of ea, for_it walk_enT (fun i σ' H' => ∃ ds' ms', Wk L H1 H' ∧ Sl K L M σ' H' ds' ∧ At L M ms' H' ∧ Pv i ds' ms') ⟨ds, ms0, Wk.refl L H1, hS.mono hA w, a1, h0⟩ (fun i σ' H' _ ⟨_, _, w', _⟩ => SqT.of (w' a _ (fun z => na (a1.sub a z)) ea)) (fun i x σ' H' H2 hi ⟨ds', ms', w', s', a', p'⟩ y => ?_) (fun σ' H' ⟨ds', ms', w', s', a', p'⟩ => ?_)⟩
    · obtain ⟨N, c1, y1, rfl, hN, rfl, q1, q2⟩ := y
      cases q1
      obtain ⟨e, e1, e2⟩ := rx.get' q2
      have w2 : Wk L H' (upd H' N (.tup [.int (i : Nat), y1])) := Wk.new hN
      have a2 := a'.new (o := .tup [.int (i : Nat), y1]) hN
      have w3 := w'.trans w2
      refine hs i e ds' ms' e1 p' L M σ' _ (.ref N) (s'.mono a' w2) a2 (Rp.tup (a'.fresh hN) upd_same (.cons (.int _) (.cons (Rp.to (a1.wk w3) _ _ e2) .nil))) _ fun σ2 ds2 s2 _ h2 => ?_
      exact h2 L M σ2 _ s2 a2 _ (fun σ3 H3 ds3 ms3 w4 s3 a3 p3 => ⟨ds3, ms3, w3.trans w4, s3, a3, p3⟩) (r.on a2 (w.trans w3)) (n.on (w.trans w3)) (fun σ3 H3 ds3 ms3 w4 s3 a3 p3 => ⟨ds3, ms3, w3.trans w4, s3, a3, p3⟩)
    · rw [rx.length] at p'
      exact n σ' H' ds' ms' (w.trans w') s' a' (hd ds' ms' p')
theorem s_forEL {g : TG} {js : List Nat} (h : EA K tA ds ms fun as ms0 => ∃ (s : SD) (es : List PyData), as = [s] ∧ Sw s es ∧ ∃ Pv : Nat → List SD → List MD → Prop, Pv 0 ds ms0 ∧
      (∀ i e ds1 ms1, es[i]? = some e → Pv i ds1 ms1 → EG K g js (.d (.tuple [.int (i : Nat), e])) ds1 ms1 fun ds2 ms2 => S K t ds2 ms2 { P with nx := Pv (i + 1), ct := Pv (i + 1), bk := P.nx }) ∧ ∀ ds1 ms1, Pv es.length ds1 ms1 → P.nx ds1 ms1) :
    S K (tFor (iEnum K tA) g t) ds ms P := fun L M σ H hS hA D n r b c =>
  h L M σ H hS hA _ fun as vs H1 ms0 w a1 o ⟨s, es, ea, sw, Pv, h0, hs, hd⟩ => by
    subst ea
    obtain ⟨v, t1, rfl, hv, rfl⟩ := o
    obtain ⟨a, xs, rfl, rx, hx⟩ := sw.is a1 hv
    refine ⟨a, xs, rfl, hx H1 (Wk.refl L H1), for_it walk_enum (fun i σ' H' => ∃ ds' ms', Wk L H1 H' ∧ Sl K L M σ' H' ds' ∧ At L M ms' H' ∧ Pv i ds' ms') ⟨ds, ms0, Wk.refl L H1, hS.mono hA w, a1, h0⟩ (fun i σ' H' _ ⟨_, _, w', _⟩ => hx H' w') (fun i x σ' H' H2 hi ⟨ds', ms', w', s', a', p'⟩ y => ?_) (fun σ' H' ⟨ds', ms', w', s', a', p'⟩ => ?_)⟩
    · obtain ⟨N, c1, y1, rfl, hN, rfl, q1, q2⟩ := y
      cases q1
      obtain ⟨e, e1, e2⟩ := rx.get' q2
      have w2 : Wk L H' (upd H' N (.tup [.int (i : Nat), y1])) := Wk.new hN
      have a2 := a'.new (o := .tup [.int (i : Nat), y1]) hN
      have w3 := w'.trans w2
      refine hs i e ds' ms' e1 p' L M σ' _ (.ref N) (s'.mono a' w2) a2 (Rp.tup (a'.fresh hN) upd_same (.cons (.int _) (.cons (Rp.to (a1.wk w3) _ _ e2) .nil))) _ fun σ2 ds2 s2 _ h2 => ?_
      exact h2 L M σ2 _ s2 a2 _ (fun σ3 H3 ds3 ms3 w4 s3 a3 p3 => ⟨ds3, ms3, w3.trans w4, s3, a3, p3⟩) (r.on a2 (w.trans w3)) (n.on (w.trans w3)) (fun σ3 H3 ds3 ms3 w4 s3 a3 p3 => ⟨ds3, ms3, w3.trans w4, s3, a3, p3⟩)
    · rw [rx.length] at p'
      exact n σ' H' ds' ms' (w.trans w') s' a' (hd ds' ms' p')
end
end Hc

namespace Hc
open PySem PySem.Spec PyProof.Rows L2
/-! ### sorted(xs) of data -/
theorem vals_each : ∀ {bs : List (V × PyData)} {us : List Value}, Vals (bs.map Prod.fst) us → PySem.W.EachIs (fun (u : Value) (b : V × PyData) => RelV b.1 u) us bs
  | [], us, h => by cases h; exact .nil
  | b :: r, us, h => by
    cases h with
    | cons z y => exact .cons z (vals_each y)
theorem each_vals : ∀ {bs : List (V × PyData)} {us : List Value}, PySem.W.EachIs (fun (u : Value) (b : V × PyData) => RelV b.1 u) us bs → Vals (bs.map Prod.fst) us
  | [], us, h => by cases h; exact .nil
  | b :: r, us, h => by
    cases h with
    | cons z y => exact .cons z (each_vals y)
def rSortV (K : PySem.W.Frag) : List V → Hp → VK → Prop := fun vs H Q => ∃ (a : Addr) (bs : List (V × PyData)), vs = [.ref a] ∧ SqL K H a (bs.map Prod.fst) ∧ (∀ b ∈ bs, Dp K H b.1 b.2) ∧ PySem.W.AllAlike (bs.map Prod.snd) ∧ PySem.W.Sortable (bs.map Prod.snd) ∧
  (∀ b ∈ bs, b.2.depth ≤ 60) ∧ ∀ p, H p = none → Q (.ref p) (upd H p (.lst ((bs.mergeSort (PySem.W.dataLe false Prod.snd)).map Prod.fst)))
theorem cr_sortV {X : Cx} (hu : X.A.units + 64 < cLine) : CallR X (.builtin "sorted") (rSortV X.K) := by
  intro pins s σ H vs us Q I r h
  obtain ⟨a, bs, rfl, sq, hd, al, so, dp, q⟩ := h
  obtain ⟨its, rv, hl, hz⟩ := I.list sq
  rw [Vals.ref1 r]
  have e := vals_each rv
  have er : PySem.W.EachIs (fun (u : Value) (b : V × PyData) => ∃ as, Reads s.heap u b.2 as) its bs :=
    (PySem.W.each_mem e).mono fun u b ⟨z, m⟩ => Dp.reads I b.2 b.1 u (hd b m) z
  rw [List.length_map] at hz
  refine PySem.W.sorted_data hl.isList e er al so hz (fun b m => by have := dp b m; omega) fun out ln eo => ?_
  obtain ⟨ep, he⟩ := PyProof.Rows.sortedAll_at s.heap its out.toArray
  have lm : ((bs.mergeSort (PySem.W.dataLe false Prod.snd)).map Prod.fst).length ≤ sizeLine := by
    rw [List.length_map, List.length_mergeSort]
    exact hz
  exact ⟨.ref _, upd H (s.heap.objs.size + 1) (.lst ((bs.mergeSort (PySem.W.dataLe false Prod.snd)).map Prod.fst)), I.laid (t' := s.toks) (fun _ _ => PyProof.Rows.sortedAll_old) (Nat.le_succ _) ⟨lm, out, ep, each_vals eo, he⟩, rfl, q _ (I.hok.fresh (Nat.le_succ _))⟩
section
variable {K : PySem.W.Frag} {ds : List SD} {ms : List MD} {R : RS}
theorem zip_fst : ∀ {xs : List V} {es : List PyData}, xs.length = es.length → (List.zip xs es).map Prod.fst = xs
  | [], _, _ => rfl
  | _ :: _, [], h => by cases h
  | x :: xs, e :: es, h => by
    show x :: (List.zip xs es).map Prod.fst = _
    rw [zip_fst (by simpa using h)]
theorem zip_snd : ∀ {xs : List V} {es : List PyData}, xs.length = es.length → (List.zip xs es).map Prod.snd = es
  | [], [], _ => rfl
  | [], _ :: _, h => by cases h
  | _ :: _, [], h => by cases h
  | x :: xs, e :: es, h => by
    show e :: (List.zip xs es).map Prod.snd = _
    rw [zip_snd (by simpa using h)]
theorem rpa_zip {M : List Addr} {H : Hp} : ∀ {xs : List V} {es : List PyData}, RpA M H xs es → ∀ b ∈ List.zip xs es, Rp M H b.1 b.2
  | [], _, _, b, hb => by cases hb
  | x :: xs, es, h, b, hb => by
    cases h with
    | cons z y =>
      rcases List.mem_cons.mp hb with rfl | hb
      · exact z
      · exact rpa_zip y b hb
theorem rpa_of {M : List Addr} {H : Hp} : ∀ {bs : List (V × PyData)}, (∀ b ∈ bs, Rp M H b.1 b.2) → RpA M H (bs.map Prod.fst) (bs.map Prod.snd)
  | [], _ => .nil
  | b :: r, h => .cons (h b (by simp)) (rpa_of fun c hc => h c (by simp [hc]))
abbrev sortD (es : List PyData) : List PyData := es.mergeSort (PySem.W.dataLe false id)
theorem rc_sortD {as : List SD} (h : ∃ (s : SD) (es : List PyData), as = [s] ∧ Sv ms s (.list es) ∧ (∀ e ∈ es, Shp 60 e) ∧ PySem.W.AllAlike es ∧ PySem.W.Sortable es ∧ R (.f (sortD es)) ms) : RC K (rSortV K) as ms R := fun L M H vs hA ha Q q => by
  obtain ⟨s, es, rfl, sv, sh, al, so, r⟩ := h
  obtain ⟨v, t, rfl, hv, rfl⟩ := ha
  obtain ⟨p, xs, rfl, hq, hr⟩ := sv.lst hA hv
  have ln := hr.length
  have zr := rpa_zip hr
  have e2 : ((List.zip xs es).mergeSort (PySem.W.dataLe false Prod.snd)).map Prod.snd = sortD es := by
    have := PySem.W.sort_maps (r := PySem.W.dataLe false Prod.snd) (s := PySem.W.dataLe false id) (Prod.snd : V × PyData → PyData) (l := List.zip xs es) (fun a _ b _ => rfl)
    rw [this, zip_snd ln]
  refine ⟨p, List.zip xs es, rfl, by rw [zip_fst ln]; exact hq, fun b hb => ?_, by rw [zip_snd ln]; exact al, by rw [zip_snd ln]; exact so, fun b hb => ?_, fun l hl => ?_⟩
  · have m2 : b.2 ∈ es := by
      have : b.2 ∈ (List.zip xs es).map Prod.snd := List.mem_map.mpr ⟨b, hb, rfl⟩
      rwa [zip_snd ln] at this
    exact Rp.dp b.2 b.1 (sh _ m2).1 (zr b hb)
  · have m2 : b.2 ∈ es := by
      have : b.2 ∈ (List.zip xs es).map Prod.snd := List.mem_map.mpr ⟨b, hb, rfl⟩
      rwa [zip_snd ln] at this
    exact (sh _ m2).2
  · have rr : RpA M H (((List.zip xs es).mergeSort (PySem.W.dataLe false Prod.snd)).map Prod.fst) (sortD es) := by
      rw [← e2]
      exact rpa_of fun b hb => zr b (List.mem_mergeSort.mp hb)
    exact q (.f (sortD es)) _ _ ms (Wk.new hl) (out_new hA (Wk.refl L H) hl rr) r
end
end Hc

namespace Hc
open PySem PySem.Spec PyProof.Rows L2
section
variable {K : PySem.W.Frag} {te ta tb tc tl : TE} {tt : TT} {tA : TA} {ds : List SD} {ms : List MD} {R : RS} {t u : TS} {P : Po}
/-! ### in, over data -/
theorem rr_inD {a b : SD} (h : ∃ (x : PyData) (es : List PyData), Sv ms a x ∧ Sv ms b (.list es) ∧ SeqAt.shaped x = true ∧ SeqAt.shaped (.list es) = true ∧ R (.d (.bool (es.any fun z => PyData.eqv z x))) ms) : RR K (rInD K) a b ms R := fun L M H u v hA ha hb Q q => by
  obtain ⟨x, es, ea, eb, s1, s2, r⟩ := h
  exact ⟨x, es, ea.dp hA ha (SeqAt.canLay_of_shaped s1), eb.dp hA hb (SeqAt.canLay_of_shaped s2), s1, s2, q (.d _) _ H ms (Wk.refl L H) ⟨hA, .bl _⟩ r⟩
theorem rr_notInD {a b : SD} (h : ∃ (x : PyData) (es : List PyData), Sv ms a x ∧ Sv ms b (.list es) ∧ SeqAt.shaped x = true ∧ SeqAt.shaped (.list es) = true ∧ R (.d (.bool (!es.any fun z => PyData.eqv z x))) ms) : RR K (rNotInD K) a b ms R := fun L M H u v hA ha hb Q q => by
  obtain ⟨x, es, ea, eb, s1, s2, r⟩ := h
  exact ⟨x, es, ea.dp hA ha (SeqAt.canLay_of_shaped s1), eb.dp hA hb (SeqAt.canLay_of_shaped s2), s1, s2, q (.d _) _ H ms (Wk.refl L H) ⟨hA, .bl _⟩ r⟩
/-! ### for a, b in zip(xs, ys), two lists -/
/-! ### xs.insert(i, e) -/
/-! ### a part of a list, or of a tuple that may be the whole -/
theorem units65 {k : Nat} {A : Around} (h : Room k A) : A.units + 65 < cLine := by
  have := h.un
  omega
/-! ### a, b = t of a list or a tuple -/
end
end Hc

namespace Hc
open PySem PySem.Spec PyProof.Rows L2
/-! ### xs[::2], xs[1::2] -/
section
variable {K : PySem.W.Frag} {te ta tb tc tl : TE} {tt : TT} {tA : TA} {ds : List SD} {ms : List MD} {R : RS} {t u : TS} {P : Po}
/-! ### a list or a tuple as a test -/
def tTru (K : PySem.W.Frag) (te : TE) : TT := fun σ H Q => te σ H fun x H' => ∃ k, TruV K x H' k ∧ Q k H'
theorem pt_tru {X : Cx} {a : Expr} (ha : PE X a ta) (he : ∀ whole, isTrue a X.env whole = (do let v ← whole; standAt a.pos; holding [v] (truthy v)) := by intro _; rfl) : PT X a (tTru X.K ta) := pt_truth ha he
theorem et_tru {RB : Bool → List MD → Prop} (h : E K te ds ms fun s ms1 => ∃ es : List PyData, (Sv ms1 (dd s) (.list es) ∨ Sv ms1 (dd s) (.tuple es)) ∧ RB (!es.isEmpty) ms1) : ET K (tTru K te) ds ms RB := fun L M σ H hS hA Q q =>
  h L M σ H hS hA _ fun s v H1 ms1 w o ⟨es, sv, r⟩ => by
    have a1 := o.at
    have em : ∀ {xs : List V}, RpA M H1 xs es → xs.isEmpty = es.isEmpty := fun {xs} h => by
      cases h <;> rfl
    rcases sv with sv | sv
    · obtain ⟨p, xs, rfl, hq, hr⟩ := sv.lst a1 o.sl
      exact ⟨_, .inl ⟨xs, hq, rfl⟩, by rw [em hr]; exact q _ H1 ms1 w a1 r⟩
    · obtain ⟨p, xs, rfl, hq, hr⟩ := sv.tup o.sl
      exact ⟨_, .inr (.inl ⟨xs, SqT.of hq, rfl⟩), by rw [em hr]; exact q _ H1 ms1 w a1 r⟩
end
end Hc

namespace Hc
open PySem PySem.Spec PyProof.Rows L2
section
variable {K : PySem.W.Frag} {te ta tb tc tl : TE} {tt : TT} {tA tB : TA} {ds : List SD} {ms : List MD} {R : RS} {t u : TS} {P : Po}
/-- the first two together -/
theorem s_assoc {v : TS} (h : S K (tSeq (tSeq t u) v) ds ms P) : S K (tSeq t (tSeq u v)) ds ms P := h
end
/-! ### sorted rows -/
theorem totalD : PySem.W.TotalLe (PySem.W.dataLe false (id : PyData → PyData)) := PySem.W.sortLe_total _ _ _
theorem sort_strict {m l : List PyData} (hm : m.Pairwise fun a b => PySem.W.dataLe false id a b = true ∧ PySem.W.dataLe false id b a = false) (hp : l.Perm m) : sortD l = m := by
  refine (PySem.W.sort_unique totalD (hm.imp fun h => h.1) fun c => ?_).symm
  have p2 := hp.filter (PySem.W.sameRank (PySem.W.dataLe false id) c)
  have pw : (m.filter (PySem.W.sameRank (PySem.W.dataLe false id) c)).Pairwise fun a b => PySem.W.dataLe false id a b = true ∧ PySem.W.dataLe false id b a = false := hm.filter _
  have al : ∀ x ∈ m.filter (PySem.W.sameRank (PySem.W.dataLe false id) c), PySem.W.sameRank (PySem.W.dataLe false id) c x = true := fun x hx => (List.mem_filter.mp hx).2
  generalize m.filter (PySem.W.sameRank (PySem.W.dataLe false id) c) = f at *
  match f, pw, al with
  | [], _, _ => exact (List.Perm.eq_nil p2).symm
  | [x], _, _ => exact (List.perm_singleton.mp p2).symm
  | x :: y :: r, pw, al =>
    have h1 := (List.pairwise_cons.mp pw).1 y (by simp)
    have hx := al x (by simp)
    have hy := al y (by simp)
    unfold PySem.W.sameRank at hx hy
    rw [Bool.and_eq_true] at hx hy
    have : PySem.W.dataLe false id y x = true := by
      first
        | exact totalD.trans y c x hy.2 hx.1
        | exact totalD.trans y c x hy.1 hx.2
    rw [this] at h1
    cases h1.2
end Hc

namespace Hc
open PySem PySem.Spec PyProof.Rows L2
/-! ### lists of lists that may change -/
section
variable {K : PySem.W.Frag} {L M qs : List Addr} {ms1 xs : List MD} {H H' : Hp}
theorem to_lessAll : To (M ++ qs) M H H := fun a o n e => ⟨fun z => n (List.mem_append_left _ z), e⟩
theorem At.dropAll (h : At (L ++ qs) (M ++ qs) (ms1 ++ xs) H) (hx : qs.length = xs.length) (hl : ∀ q ∈ L, q ∈ M) : At L M ms1 H := by
  have hn : L.length = ms1.length := by
    have := h.ln
    simp at this
    omega
  refine ⟨(List.nodup_append.mp h.nd).1, hl, fun q hq => h.al q (List.mem_append_left _ hq), hn, fun k q x e1 e2 => ?_⟩
  have h1 : k < L.length := (List.getElem?_eq_some_iff.mp e1).1
  have h2 : k < ms1.length := (List.getElem?_eq_some_iff.mp e2).1
  exact (h.ok k q x (by rw [List.getElem?_append_left h1]; exact e1) (by rw [List.getElem?_append_left h2]; exact e2)).toL to_lessAll (fun k' q' hlt z => by rw [List.getElem?_append_left (by omega)] at z; exact z) rfl
/-- the rows' own mutables, and the list of them -/
def rowsM (n : Nat) (ess : List (List PyData)) : List MD := ess.map MD.l ++ [.r (List.range' n ess.length)]
def frzLS (n : Nat) (ess : List (List PyData)) : SD → SD
  | .m k => if k < n then .m k else if k = n + ess.length then .d (.list (ess.map .list)) else .d (.list (ess.getD (k - n) []))
  | s => s
theorem rows_len (n : Nat) (ess : List (List PyData)) : (rowsM n ess).length = ess.length + 1 := by simp [rowsM]
theorem RpA.ofGet : ∀ {xs : List V} {ds : List PyData}, xs.length = ds.length → (∀ (i : Nat) (v : V) (d : PyData), xs[i]? = some v → ds[i]? = some d → Rp M H v d) → RpA M H xs ds
  | [], [], _, _ => .nil
  | [], _ :: _, h, _ => by cases h
  | _ :: _, [], h, _ => by cases h
  | x :: xs, d :: ds, h, f => .cons (f 0 x d rfl rfl) (RpA.ofGet (by simpa using h) fun i v e h1 h2 => f (i + 1) v e (by simpa using h1) (by simpa using h2))
theorem rows_at (n : Nat) (ms1 : List MD) (ess : List (List PyData)) {i : Nat} {es : List PyData} (h : ess[i]? = some es) : (ms1 ++ rowsM n ess)[ms1.length + i]? = some (.l es) := by
  have hi := (List.getElem?_eq_some_iff.mp h).1
  rw [List.getElem?_append_right (by omega)]
  unfold rowsM
  rw [List.getElem?_append_left (by simp; omega), List.getElem?_map]
  have : ms1.length + i - ms1.length = i := by omega
  rw [this, h]
  rfl
theorem rows_top (n : Nat) (ms1 : List MD) (ess : List (List PyData)) : (ms1 ++ rowsM n ess)[ms1.length + ess.length]? = some (.r (List.range' n ess.length)) := by
  rw [List.getElem?_append_right (by omega)]
  unfold rowsM
  have : ms1.length + ess.length - ms1.length = (ess.map MD.l).length := by simp
  rw [this, List.getElem?_append_right (Nat.le_refl _), Nat.sub_self]
  rfl
theorem row_rp {ess : List (List PyData)} (a : At (L ++ qs) (M ++ qs) (ms1 ++ rowsM ms1.length ess) H) (hx : qs.length = ess.length + 1) (nm : ∀ q ∈ qs, q ∉ M) {i : Nat} {es : List PyData} {q : Addr} (he : ess[i]? = some es) (hq : (L ++ qs)[ms1.length + i]? = some q) : Rp M H (.ref q) (.list es) := by
  have hn : L.length = ms1.length := by
    have := a.ln
    simp [rows_len] at this
    omega
  obtain ⟨xs, e, r⟩ := a.ok _ q _ hq (rows_at _ _ _ he)
  have hm : q ∈ qs := by
    rw [List.getElem?_append_right (by omega)] at hq
    exact List.mem_of_getElem? hq
  exact .lst (nm q hm) e (RpA.to to_lessAll _ _ r)
theorem SlOk.frzLL {ess : List (List PyData)} {s : SD} {v : V} (a : At (L ++ qs) (M ++ qs) (ms1 ++ rowsM ms1.length ess) H) (hx : qs.length = ess.length + 1) (nm : ∀ q ∈ qs, q ∉ M) (h : SlOk K (L ++ qs) (M ++ qs) H s v) : SlOk K L M H (frzLS ms1.length ess s) v := by
  have hn : L.length = ms1.length := by
    have := a.ln
    simp [rows_len] at this
    omega
  cases s with
  | u => exact h
  | f _ => exact h
  | g _ => exact h
  | d x => exact Rp.to to_lessAll _ _ h
  | v x => exact h
  | w φ => exact ⟨h.2 _ _ _ _ _ to_lessAll h.1, h.2⟩
  | h φ =>
    obtain ⟨b, e, n, q⟩ := h
    exact ⟨b, e, fun z => n (List.mem_append_left _ z), q⟩
  | s ns =>
    obtain ⟨b, e, ⟨n, q⟩ | q⟩ := h
    · exact ⟨b, e, .inl ⟨fun z => n (List.mem_append_left _ z), q⟩⟩
    · exact ⟨b, e, .inr q⟩
  | q k =>
    obtain ⟨p, rfl, hp, hls⟩ := h
    have hk := (List.getElem?_eq_some_iff.mp hp).1
    rw [List.length_append, hn, hx] at hk
    have nol : ∀ xs, H p ≠ some (.lst xs) := fun xs e => hls.notL e
    have h1 : k < ms1.length := by
      rcases Nat.lt_or_ge k ms1.length with z | z
      · exact z
      · exfalso
        by_cases h2 : k = ms1.length + ess.length
        · subst h2
          obtain ⟨ps, e, _⟩ := a.ok _ p _ hp (rows_top _ _ _)
          exact nol _ e
        · have hi : k - ms1.length < ess.length := by omega
          have e2 : ess[k - ms1.length]? = some (ess.getD (k - ms1.length) []) := by simp [List.getD, hi]
          have e3 := rows_at ms1.length ms1 ess e2
          rw [show ms1.length + (k - ms1.length) = k by omega] at e3
          obtain ⟨xs, e, _⟩ := a.ok _ p _ hp e3
          exact nol _ e
    rw [List.getElem?_append_left (by omega)] at hp
    exact ⟨p, rfl, hp, hls⟩
  | o k =>
    obtain ⟨p, rfl, hp, hls⟩ := h
    have hk := (List.getElem?_eq_some_iff.mp hp).1
    rw [List.length_append, hn, hx] at hk
    have nol : ∀ xs, H p ≠ some (.lst xs) := fun xs e => hls.notL e
    have h1 : k < ms1.length := by
      rcases Nat.lt_or_ge k ms1.length with z | z
      · exact z
      · exfalso
        by_cases h2 : k = ms1.length + ess.length
        · subst h2
          obtain ⟨ps, e, _⟩ := a.ok _ p _ hp (rows_top _ _ _)
          exact nol _ e
        · have hi : k - ms1.length < ess.length := by omega
          have e2 : ess[k - ms1.length]? = some (ess.getD (k - ms1.length) []) := by simp [List.getD, hi]
          have e3 := rows_at ms1.length ms1 ess e2
          rw [show ms1.length + (k - ms1.length) = k by omega] at e3
          obtain ⟨xs, e, _⟩ := a.ok _ p _ hp e3
          exact nol _ e
    rw [List.getElem?_append_left (by omega)] at hp
    exact ⟨p, rfl, hp, hls⟩
  | m k =>
    obtain ⟨p, rfl, hp, hls⟩ := h
    have hk := (List.getElem?_eq_some_iff.mp hp).1
    rw [List.length_append, hn, hx] at hk
    show SlOk K L M H (if k < ms1.length then .m k else if k = ms1.length + ess.length then .d (.list (ess.map .list)) else .d (.list (ess.getD (k - ms1.length) []))) (.ref p)
    by_cases h1 : k < ms1.length
    · rw [if_pos h1]
      rw [List.getElem?_append_left (by omega)] at hp
      exact ⟨p, rfl, hp, hls⟩
    · rw [if_neg h1]
      by_cases h2 : k = ms1.length + ess.length
      · rw [if_pos h2]
        subst h2
        obtain ⟨ps, e, ln, f⟩ := a.ok _ p _ hp (rows_top _ _ _)
        rw [List.length_range'] at ln
        have hm : p ∈ qs := by
          rw [List.getElem?_append_right (by omega)] at hp
          exact List.mem_of_getElem? hp
        refine Rp.lst (nm p hm) e (RpA.ofGet (by simp [ln]) fun i v d e1 e2 => ?_)
        rw [List.getElem?_map] at e1 e2
        cases q1 : ps[i]? with
        | none => rw [q1] at e1; cases e1
        | some q =>
          cases q2 : ess[i]? with
          | none => rw [q2] at e2; cases e2
          | some es =>
            rw [q1] at e1
            rw [q2] at e2
            cases e1
            cases e2
            have hi := (List.getElem?_eq_some_iff.mp q2).1
            have := (f i (ms1.length + i) q (by rw [List.getElem?_range' hi]; simp) q1).1
            exact row_rp a hx nm q2 this
      · rw [if_neg h2]
        have hi : k - ms1.length < ess.length := by omega
        have e2 : ess[k - ms1.length]? = some (ess.getD (k - ms1.length) []) := by simp [List.getD, hi]
        refine row_rp a hx nm e2 ?_
        have : ms1.length + (k - ms1.length) = k := by omega
        rw [this]
        exact hp
theorem Sl.frzLL {σ : L2.St} {ds : List SD} {ess : List (List PyData)} (a : At (L ++ qs) (M ++ qs) (ms1 ++ rowsM ms1.length ess) H) (hx : qs.length = ess.length + 1) (nm : ∀ q ∈ qs, q ∉ M) (h : Sl K (L ++ qs) (M ++ qs) σ H ds) : Sl K L M σ H (ds.map (frzLS ms1.length ess)) := fun i s e => by
  rw [List.getElem?_map] at e
  cases q : ds[i]? with
  | none => rw [q] at e; cases e
  | some s0 =>
    rw [q] at e
    have e' : frzLS ms1.length ess s0 = s := Option.some.inj e
    by_cases hu : s0 = .u
    · subst hu
      subst e'
      exact h i .u q
    · obtain ⟨v, e1, e2⟩ := h.get q hu
      have z := e2.frzLL a hx nm
      rw [e'] at z
      cases s with
      | u => exact z.elim
      | f _ => exact z.elim
      | g _ => exact z.elim
      | d x => exact ⟨v, e1, z⟩
      | m k => exact ⟨v, e1, z⟩
      | q k => exact ⟨v, e1, z⟩
      | s ns => exact ⟨v, e1, z⟩
      | v x => exact ⟨v, e1, z⟩
      | h φ => exact ⟨v, e1, z⟩
      | w φ => exact ⟨v, e1, z⟩
      | o k => exact ⟨v, e1, z⟩
end
def Po.frzLL (P : Po) (n c : Nat) : Po where
  nx := fun ds' ms' => ∃ ms1 ess, ms' = ms1 ++ rowsM n ess ∧ ms1.length = n ∧ ess.length = c ∧ P.nx (ds'.map (frzLS n ess)) ms1
  rt := fun s ms' => ∃ ms1 ess, ms' = ms1 ++ rowsM n ess ∧ ms1.length = n ∧ ess.length = c ∧ P.rt (frzLS n ess (dd s)) ms1
  bk := fun ds' ms' => ∃ ms1 ess, ms' = ms1 ++ rowsM n ess ∧ ms1.length = n ∧ ess.length = c ∧ P.bk (ds'.map (frzLS n ess)) ms1
  ct := fun ds' ms' => ∃ ms1 ess, ms' = ms1 ++ rowsM n ess ∧ ms1.length = n ∧ ess.length = c ∧ P.ct (ds'.map (frzLS n ess)) ms1
section
variable {K : PySem.W.Frag} {L M qs : List Addr} {ms ms1 : List MD} {H H1 H' : Hp} {ds : List SD} {P : Po} {tA : TA} {u : TS} {R : RS}
/-- how it stands within [[] for .. in range(..)] -/
structure Ls (H1 : Hp) (D : Addr) (i : Nat) (qs : List Addr) (H : Hp) : Prop where
  w : ∀ a o, H1 a = some o → H a = some o
  len : qs.length = i
  d : H D = some (.lst (qs.map V.ref))
  q : ∀ q ∈ qs, H q = some (.lst []) ∧ H1 q = none ∧ q ≠ D
  nd : qs.Nodup
theorem Ls.at {D : Addr} {i : Nat} {qs : List Addr} (a : At L M ms H1) (hD : H1 D = none) (c : Ls H1 D i qs H) : At (L ++ (qs ++ [D])) (M ++ (qs ++ [D])) (ms ++ rowsM ms.length (List.replicate i [])) H := by
  have fr : ∀ p ∈ qs ++ [D], H1 p = none := fun p hp => by
    rcases List.mem_append.mp hp with z | z
    · exact (c.q p z).2.1
    · rw [List.mem_singleton.mp z]; exact hD
  have nL : ∀ p ∈ qs ++ [D], p ∉ L := fun p hp => a.freshL (fr p hp)
  have t : To M (M ++ (qs ++ [D])) H1 H := fun b o n e => ⟨(fun z => (List.mem_append.mp z).elim n fun z => by
    have := fr b z
    rw [this] at e
    cases e), c.w b o e⟩
  have hl := a.ln
  refine ⟨?_, ?_, ?_, ?_, fun k p m e1 e2 => ?_⟩
  · refine List.nodup_append.mpr ⟨a.nd, List.nodup_append.mpr ⟨c.nd, by simp, fun x hx y hy z => ?_⟩, fun x hx y hy z => ?_⟩
    · rw [List.mem_singleton.mp hy] at z
      exact (c.q x hx).2.2 z
    · subst z
      exact nL x hy hx
  · intro p hp
    rcases List.mem_append.mp hp with z | z
    · exact List.mem_append_left _ (a.sub p z)
    · exact List.mem_append_right _ z
  · intro p hp
    rcases List.mem_append.mp hp with z | z
    · obtain ⟨o, e, no⟩ := a.al p z
      exact ⟨o, c.w p o e, no⟩
    · rcases List.mem_append.mp z with z | z
      · rw [(c.q p z).1]; exact ⟨_, rfl, trivial⟩
      · rw [List.mem_singleton.mp z, c.d]; exact ⟨_, rfl, trivial⟩
  · simp [rows_len, hl, c.len]
  · by_cases h1 : k < L.length
    · rw [List.getElem?_append_left h1] at e1
      rw [List.getElem?_append_left (by omega)] at e2
      refine (a.ok k p m e1 e2).toL t (fun k' q' _ z => by rw [List.getElem?_append_left (List.getElem?_eq_some_iff.mp z).1]; exact z) ?_
      obtain ⟨o, e, _⟩ := a.al p (a.sub p (List.mem_of_getElem? e1))
      rw [e]
      exact c.w p o e
    · have hk := (List.getElem?_eq_some_iff.mp e1).1
      simp at hk
      have hcl := c.len
      rw [List.getElem?_append_right (by omega)] at e1
      by_cases h2 : k - L.length < qs.length
      · rw [List.getElem?_append_left h2] at e1
        have := rows_at ms.length ms (List.replicate i []) (i := k - L.length) (es := []) (by rw [List.getElem?_replicate, if_pos (by omega)])
        rw [show ms.length + (k - L.length) = k by omega, e2] at this
        cases this
        exact ⟨[], (c.q p (List.mem_of_getElem? e1)).1, .nil⟩
      · have hk2 : k = ms.length + (List.replicate i ([] : List PyData)).length := by
          rw [List.length_replicate]
          omega
        have e3 := rows_top ms.length ms (List.replicate i [])
        rw [← hk2, e2] at e3
        cases e3
        rw [List.getElem?_append_right (by omega)] at e1
        have : k - L.length - qs.length = 0 := by rw [List.length_replicate] at hk2; omega
        rw [this] at e1
        cases e1
        refine ⟨qs, c.d, by rw [List.length_range', List.length_replicate]; exact hcl, fun j k' q h1 h2 => ?_⟩
        have hj := (List.getElem?_eq_some_iff.mp h2).1
        rw [List.length_replicate, List.getElem?_range' (by omega)] at h1
        have hk' : ms.length + j = k' := by simpa using h1
        subst hk'
        rw [List.length_replicate] at hk2
        refine ⟨?_, by omega⟩
        rw [List.getElem?_append_right (by omega), List.getElem?_append_left (by omega)]
        have : ms.length + j - L.length = j := by omega
        rw [this]
        exact h2
theorem s_newLL {i j : Nat} (h : EA K tA ds ms fun as ms1 => ∃ n : Nat, as = [.d (.int n)] ∧ n ≤ 10000 ∧ S K u (ds.set i (.m (ms1.length + n))) (ms1 ++ rowsM ms1.length (List.replicate n [])) (P.frzLL ms1.length n)) :
    S K (tSeq (tAsg (tLc (iRng1 tA) (gName j) tYes (tLst tNil) [j]) (gName i)) u) ds ms P := fun L M σ H hS hA D n r b c_ =>
  h L M σ H hS hA _ fun as vs H1 ms1 w a1 o ⟨m, ea, hm, h1⟩ => by
    subst ea
    obtain ⟨v, t1, rfl, hv, rfl⟩ := o
    cases hv
    refine ⟨m, rfl, by omega, by omega, fun E hE => ?_⟩
    have hst : Ls H1 E 0 [] (upd H1 E (.lst [])) := ⟨fun a o e => by rw [upd_ne (ne_of_none e hE)]; exact e, rfl, upd_same, (fun q hq => by cases hq), List.Pairwise.nil⟩
    refine lc_range (lo := 0) (n := m) (fun i H' => ∃ qs, Ls H1 E i qs H') ⟨[], hst⟩ (fun i H' hi ⟨qs, c⟩ => ?_) (fun H' ⟨qs, c⟩ => ?_)
    · show L2.wipe ((L2.wipe σ [j]).set j _) [j] = L2.wipe σ [j] ∧ tYes _ H' _
      refine ⟨?_, ?_⟩
      · rw [wipe_set _ _ _ _ (by simp)]
        apply List.ext_getElem?
        intro k
        rw [wipe_get, wipe_get, wipe_length]
        by_cases e : k ∈ [j]
        · rw [if_pos e, if_pos e]
        · rw [if_neg e, if_neg e]
      · unfold tYes
        simp only [if_true]
        refine ⟨Nat.zero_le _, fun q hq => ?_⟩
        have ne : E ≠ q := fun z => by
          subst z
          rw [c.d] at hq
          cases hq
        have h1q : H1 q = none := by
          cases e : H1 q with
          | none => rfl
          | some o => rw [c.w q o e] at hq; cases hq
        have ob : ∀ x o, H' x = some o → x ≠ q := fun x o e z => by
          subst z
          rw [e] at hq
          cases hq
        refine ⟨qs.map V.ref, by rw [upd_ne ne]; exact c.d, by rw [List.length_map, c.len]; exact Nat.lt_of_lt_of_le (show i < 10001 by omega) (by decide), qs ++ [q], ⟨fun a o e => ?_, by rw [List.length_append, c.len]; rfl, by rw [upd_same, List.map_append]; rfl, fun x hx => ?_, ?_⟩⟩
        · rw [upd_ne (ne_of_none e hE), upd_ne (ob a o (c.w a o e))]
          exact c.w a o e
        · rcases List.mem_append.mp hx with z | z
          · obtain ⟨q1, q2, q3⟩ := c.q x z
            exact ⟨by rw [upd_ne q3, upd_ne (ob x _ q1)]; exact q1, q2, q3⟩
          · rw [List.mem_singleton.mp z]
            exact ⟨by rw [upd_ne (Ne.symm ne), upd_same], h1q, Ne.symm ne⟩
        · refine List.nodup_append.mpr ⟨c.nd, by simp, fun x hx y hy z => ?_⟩
          rw [List.mem_singleton.mp hy] at z
          exact ob x _ (c.q x hx).1 z
    · have a2 := c.at a1 hE
      have hcl := c.len
      have fr : ∀ p ∈ qs ++ [E], H1 p = none := fun p hp => by
        rcases List.mem_append.mp hp with z | z
        · exact (c.q p z).2.1
        · rw [List.mem_singleton.mp z]; exact hE
      have nm : ∀ p ∈ qs ++ [E], p ∉ M := fun p hp => a1.fresh (fr p hp)
      have fr0 : ∀ p ∈ qs ++ [E], H p = none := fun p hp => none_back a1 w (nm p hp) (fr p hp)
      have t : To M (M ++ (qs ++ [E])) H H' := fun x o nx e => ⟨(fun z => (List.mem_append.mp z).elim nx fun z => by
        have := fr0 x z
        rw [this] at e
        cases e), c.w x o (w x o (fun z => nx (hA.sub x z)) e)⟩
      have hl1 := a1.ln
      have hS1 : Sl K (L ++ (qs ++ [E])) (M ++ (qs ++ [E])) (σ.set i (some (.ref E))) H' (ds.set i (.m (ms1.length + m))) := by
        refine (hS.to t (fun x y ex => by
          obtain ⟨o1, f1, k1⟩ := w.kd x y ex
          exact ⟨o1, c.w x o1 f1, k1⟩) fun k q e => ?_).set i ⟨E, rfl, ?_, _, c.d⟩
        · rw [List.getElem?_append_left (List.getElem?_eq_some_iff.mp e).1]
          exact e
        · rw [List.getElem?_append_right (by omega), List.getElem?_append_right (by omega)]
          have : ms1.length + m - L.length - qs.length = 0 := by omega
          rw [this]
          rfl
      have wk : ∀ {H2 : Hp}, Wk (L ++ (qs ++ [E])) H' H2 → Wk L H H2 := fun {H2} w2 => ⟨fun x y nx ex => w2 x y (fun z => (List.mem_append.mp z).elim nx fun z => by
        have := fr0 x z
        rw [this] at ex
        cases ex) (c.w x y (w x y nx ex)), fun x y ex => by
        obtain ⟨o1, f1, k1⟩ := w.kd x y ex
        obtain ⟨o2, f2, k2⟩ := w2.kd x o1 (c.w x o1 f1)
        exact ⟨o2, f2, k2.trans k1⟩⟩
      have lq : ∀ ess : List (List PyData), ess.length = m → (qs ++ [E]).length = ess.length + 1 := fun ess e => by simp; omega
      have go : ∀ {N : List SD → List MD → Prop} {C : L2.St → Hp → Prop}, Nx K L M H N C → Nx K (L ++ (qs ++ [E])) (M ++ (qs ++ [E])) H' (fun ds' ms' => ∃ ms2 ess, ms' = ms2 ++ rowsM ms1.length ess ∧ ms2.length = ms1.length ∧ ess.length = m ∧ N (ds'.map (frzLS ms1.length ess)) ms2) C := by
        intro N C nn σ2 H2 ds2 ms2 w2 s2 a2 ⟨ms3, ess, e3, l3, le, n3⟩
        subst e3
        rw [← l3] at n3 a2
        exact nn σ2 H2 _ ms3 (wk w2) (s2.frzLL a2 (lq ess le) nm) (a2.dropAll (by rw [lq ess le, rows_len]) hA.sub) n3
      refine h1 _ _ _ H' hS1 a2 D (go n) ?_ (go b) (go c_)
      intro s2 v2 H2 ms2 w2 o2 ⟨ms3, ess, e3, l3, le, n3⟩
      subst e3
      have o3 := o2.sl
      have a3 := o2.at
      rw [← l3] at n3 a3
      refine r _ v2 H2 ms3 (wk w2) ?_ n3
      have sl := o3.frzLL a3 (lq ess le) nm
      exact Out.of (a3.dropAll (by rw [lq ess le, rows_len]) hA.sub) sl
/-- a row of them -/
theorem rr_ixR {a b : SD} (h : ∃ k i j ks, a = .m k ∧ b = .d (.int (i : Nat)) ∧ ms[k]? = some (.r ks) ∧ ks[i]? = some j ∧ (∃ es, ms[j]? = some (.l es)) ∧ R (.m j) ms) : RR K (rIx K) a b ms R := fun L M H x y hA ha hb Q q => by
  obtain ⟨k, i, j, ks, rfl, rfl, hk, hj, ⟨es, he⟩, r⟩ := h
  obtain ⟨p, rfl, hp, hls⟩ := ha
  cases hb
  obtain ⟨ps, e, ln, f⟩ := hA.ok k p _ hp hk
  have hi := (List.getElem?_eq_some_iff.mp hj).1
  have hi2 : i < ps.length := by omega
  have hq := List.getElem?_eq_getElem hi2
  refine .inl ⟨p, _, i, .ref ps[i], rfl, rfl, SqL.of e, atI_nat (by rw [List.getElem?_map, hq]; rfl), ?_⟩
  exact q (.m j) _ H ms (Wk.refl L H) ⟨hA, _, rfl, (f i j _ hj hq).1, let ⟨xs, e, _⟩ := hA.get (f i j _ hj hq).1 he; ⟨xs, e⟩⟩ r
end
end Hc

namespace Hc
open PySem PySem.Spec PyProof.Rows L2
/-! ### zip(t, xs) of a tuple and a list -/
structure Apt (z t o c d a b : Addr) : Prop where
  nd : [z, t, o, c, d].Nodup
  na : a ∉ [z, t, o, c, d]
  nb : b ∉ [z, t, o, c, d]
theorem Apt.sep {z t o c d a b : Addr} (h : Apt z t o c d a b) : PySem.ZipSep2 z t o c d [c, a] [d, b] := by
  obtain ⟨nd, na, nb⟩ := h
  simp only [List.nodup_cons, List.mem_cons, List.not_mem_nil, or_false, not_or] at nd na nb
  obtain ⟨⟨zt, zo, zc, zd⟩, ⟨t_o, tc, td⟩, ⟨oc, od⟩, cd, _⟩ := nd
  obtain ⟨az, at', ao, ac, ad⟩ := na
  obtain ⟨bz, bt, bo, bc, bd⟩ := nb
  constructor <;> first | (simp; done) | (simp only [List.mem_cons, List.not_mem_nil, or_false, not_or]; exact ⟨by first | assumption | exact Ne.symm (by assumption), by first | assumption | exact Ne.symm (by assumption)⟩) | assumption | exact Ne.symm (by assumption)
section
variable {K : PySem.W.Frag} {te ta tb tc tl : TE} {tt : TT} {tA : TA} {ds : List SD} {ms : List MD} {R : RS} {t u : TS} {P : Po}
/-! ### sum(xs) of ints -/
end
end Hc

namespace Hc
open PySem PySem.Spec PyProof.Rows L2
/-! ### calls that change nothing, of things that may change elsewhere -/
mutual
def noL : PyData → Bool
  | .tuple ds => noLA ds
  | .list _ => false
  | .dict _ => false
  | _ => true
def noLA : List PyData → Bool
  | [] => true
  | d :: r => noL d && noLA r
end
section
variable {K : PySem.W.Frag} {L M : List Addr} {ms : List MD} {H H' : Hp}
mutual
theorem rp_back (a : At L M ms H) : ∀ (d : PyData) (v : V), noL d = true → Rp [] H v d → Rp M H v d
  | .none, _, _, h => by cases h; exact .non
  | .bool b, _, _, h => by cases h; exact .bl b
  | .int i, _, _, h => by cases h; exact .int i
  | .str x, _, _, h => by cases h; exact .str x
  | .list ds, _, n, _ => by simp [noL] at n
  | .dict ds, _, n, _ => by simp [noL] at n
  | .tuple ds, _, n, h => by
    cases h with
    | tup na e r =>
      refine .tup (fun z => ?_) e (rpa_back a ds _ (by simpa [noL] using n) r)
      obtain ⟨o, eo, no⟩ := a.al _ z
      rw [e] at eo
      cases eo
      exact no
theorem rpa_back (a : At L M ms H) : ∀ (ds : List PyData) (vs : List V), noLA ds = true → RpA [] H vs ds → RpA M H vs ds
  | [], _, _, h => by cases h; exact .nil
  | d :: ds, _, n, h => by
    cases h with
    | cons x y =>
      have n' : noL d = true ∧ noLA ds = true := by simpa [noLA, Bool.and_eq_true] using n
      exact .cons (rp_back a d _ n'.1 x) (rpa_back a ds _ n'.2 y)
end
theorem to_nil : To M [] H H := fun a o n e => ⟨by simp, e⟩
theorem At.all (a : At L M ms H) (w : Wk [] H H') : At L M ms H' :=
  ⟨a.nd, a.sub, fun p hp => by
    obtain ⟨o, e, no⟩ := a.al p hp
    exact ⟨o, w p o (by simp) e, no⟩, a.ln, fun k p m e1 e2 => (a.ok k p m e1 e2).to (fun b o n e => ⟨n, w b o (by simp) e⟩) (by
    obtain ⟨o, e, _⟩ := a.al p (a.sub p (List.mem_of_getElem? e1))
    rw [e]
    exact w p o (by simp) e)⟩
inductive Svs (ms : List MD) : List SD → List PyData → Prop
  | nil : Svs ms [] []
  | d {x : PyData} {as : List SD} {xs : List PyData} : Svs ms as xs → Svs ms (.d x :: as) (x :: xs)
  | m {k : Nat} {es : List PyData} {as : List SD} {xs : List PyData} : ms[k]? = some (.l es) → Svs ms as xs → Svs ms (.m k :: as) (.list es :: xs)
theorem Svs.go (a : At L M ms H) : ∀ {as : List SD} {xs : List PyData} {vs : List V}, Svs ms as xs → SlsOk K L M H as vs → SlsOk K [] [] H (xs.map .d) vs
  | _, _, _, .nil, h => h
  | _, _, _, .d s, ⟨v, t, e, x, y⟩ => ⟨v, t, e, Rp.to to_nil _ _ x, Svs.go a s y⟩
  | _, _, _, .m hk s, ⟨v, t, e, x, y⟩ => by
    obtain ⟨p, rfl, hp, hls⟩ := x
    obtain ⟨zs, e1, r⟩ := a.get hp hk
    exact ⟨_, t, e, .lst (by simp) e1 (RpA.to to_nil _ _ r), Svs.go a s y⟩
variable {te ta tb tc tl : TE} {tt : TT} {tA : TA} {ds : List SD} {R : RS} {P : Po}
/-! ### more built-ins -/
theorem e_index (h : E K ta ds ms fun s ms1 => ∃ ns : List Int, Sv ms1 (dd s) (.list (ns.map .int)) ∧ E K te ds ms1 fun x ms2 => ∃ (k : Int) (j : Nat), x = .d (.int k) ∧ ms2 = ms1 ∧ ns[j]? = some k ∧ (∀ (i : Nat) (z : Int), i < j → ns[i]? = some z → z ≠ k) ∧ R (.d (.int (j : Nat))) ms2) : E K (tBM K "list" (rIndex K) ta (tCons te tNil)) ds ms R := fun L M σ H hS hA Q q =>
  h L M σ H hS hA _ fun s v H1 ms1 w o ⟨ns, sv, h2⟩ => by
    have a1 := o.at
    have os := o.sl
    obtain ⟨p, xs, rfl, hq, hr⟩ := sv.lst a1 os
    refine ⟨.inl ⟨rfl, xs, hq⟩, ?_⟩
    refine h2 L M σ H1 (hS.mono hA w) a1 _ fun x y H2 ms2 w2 o2 ⟨k, j, ex, em, hj, hb, r⟩ => ?_
    subst ex em
    obtain ⟨a2, z⟩ := o2
    cases z
    obtain ⟨p2, xs2, ep, hq2, hr2⟩ := sv.lst a2 (os.mono a1 w2)
    cases ep
    rw [RpA.ints_inv hr2] at hq2
    refine ⟨p, _, .int k, j, .int k, rfl, rfl, hq2, rfl, flat_ints ns, by rw [List.getElem?_map, hj]; rfl, ?_, fun i z hi hz => ?_, q (.d (.int _)) _ H2 _ (w.trans w2) ⟨a2, .int _⟩ r⟩
    · show (k == k) = true
      simp
    · rw [List.getElem?_map] at hz
      cases e : ns[i]? with
      | none => rw [e] at hz; cases hz
      | some u =>
        rw [e] at hz
        cases hz
        show (u == k) = false
        have := hb i u hi e
        simp [this]
abbrev rInt1 : List V → Hp → VK → Prop := fun xs H Q => (∃ i, xs = [.int i] ∧ Q (.int i) H) ∨ ∃ k, xs = [.bl k] ∧ Q (.int (if k then 1 else 0)) H
theorem rc_intB {as : List SD} (h : ∃ b : Bool, as = [.d (.bool b)] ∧ R (.d (.int (if b then 1 else 0))) ms) : RC K rInt1 as ms R := fun L M H vs hA ha Q q => by
  obtain ⟨b, rfl, r⟩ := h
  obtain ⟨v, t, rfl, hv, rfl⟩ := ha
  cases hv
  exact .inr ⟨b, rfl, q (.d (.int _)) _ H ms (Wk.refl L H) ⟨hA, .int _⟩ r⟩
end
end Hc

namespace Hc
open PySem PySem.Spec PyProof.Rows L2
/-! ### dicts that may change, with ints and texts as keys -/
def kD (m : List (Key × PyData)) : List (PyData × PyData) := m.map fun p => (keyD p.1, p.2)
def valD (m : List (Key × PyData)) (k : Key) : Option PyData := (m.find? fun kv => decide (kv.1 = k)).map (·.2)
def putD (m : List (Key × PyData)) (k : Key) (d : PyData) : List (Key × PyData) :=
  if (m.any fun kv => decide (kv.1 = k)) = true then m.map (fun kv => if kv.1 = k then (kv.1, d) else kv) else m ++ [(k, d)]
theorem keyD_inj {a b : Key} (h : keyD a = keyD b) : a = b := by
  cases a <;> cases b <;> cases h <;> rfl
section
variable {K : PySem.W.Frag} {L M : List Addr} {ms : List MD} {H H' : Hp}
/-- the keys are the same, the values lie in the heap -/
inductive Rk (M : List Addr) (H : Hp) : List (Key × V) → List (Key × PyData) → Prop
  | nil : Rk M H [] []
  | cons {k : Key} {v : V} {d : PyData} {kvs : List (Key × V)} {m : List (Key × PyData)} : Rp M H v d → Rk M H kvs m → Rk M H ((k, v) :: kvs) ((k, d) :: m)
theorem rk_of : ∀ {m : List (Key × PyData)} {kvs : List (Key × V)}, RpK M H kvs (kD m) → Rk M H kvs m
  | [], _, h => by cases h; exact .nil
  | (k, d) :: m, _, h => by
    have h' : RpK M H _ ((keyD k, d) :: kD m) := h
    generalize e : (keyD k, d) = x at h'
    cases h' with
    | @cons k2 v2 kvs2 d2 ds2 a b =>
      injection e with e1 e2
      have := keyD_inj e1
      subst this e2
      exact .cons a (rk_of b)
theorem Rk.to : ∀ {m : List (Key × PyData)} {kvs : List (Key × V)}, Rk M H kvs m → RpK M H kvs (kD m)
  | _, _, .nil => .nil
  | _, _, .cons a b => .cons a (Rk.to b)
theorem Rk.length : ∀ {m : List (Key × PyData)} {kvs : List (Key × V)}, Rk M H kvs m → kvs.length = m.length
  | _, _, .nil => rfl
  | _, _, .cons a b => by simp [Rk.length b]
theorem Rk.get' : ∀ {m : List (Key × PyData)} {kvs : List (Key × V)} {i : Nat} {k : Key} {v : V}, Rk M H kvs m → kvs[i]? = some (k, v) → ∃ d, m[i]? = some (k, d) ∧ Rp M H v d
  | _, _, _, _, _, .nil, e => by simp at e
  | _, _, 0, _, _, .cons a _, e => by simp at e; obtain ⟨rfl, rfl⟩ := e; exact ⟨_, rfl, a⟩
  | _, _, i + 1, k, v, .cons _ b, e => by
    obtain ⟨d, h1, h2⟩ := Rk.get' (i := i) (k := k) (v := v) b (by simpa using e)
    exact ⟨d, by simpa using h1, h2⟩
theorem Rk.val (k : Key) : ∀ {m : List (Key × PyData)} {kvs : List (Key × V)}, Rk M H kvs m → (valD m k = none → valV kvs k = none) ∧ ∀ d, valD m k = some d → ∃ v, valV kvs k = some v ∧ Rp M H v d
  | _, _, .nil => ⟨fun _ => rfl, fun d e => by cases e⟩
  | (k1, d1) :: m, (_, v1) :: kvs, .cons a b => by
    by_cases e : k1 = k
    · refine ⟨fun h => ?_, fun d h => ?_⟩
      · simp [valD, e] at h
      · simp [valD, e] at h
        subst h
        exact ⟨v1, valV_pos e, a⟩
    · obtain ⟨h1, h2⟩ := Rk.val k b
      have e1 : valD ((k1, d1) :: m) k = valD m k := by simp [valD, List.find?_cons, e]
      rw [e1, valV_neg e]
      exact ⟨h1, h2⟩
theorem Rk.any (k : Key) : ∀ {m : List (Key × PyData)} {kvs : List (Key × V)}, Rk M H kvs m → (kvs.any fun kv => decide (kv.1 = k)) = (m.any fun kv => decide (kv.1 = k))
  | _, _, .nil => rfl
  | _, _, .cons _ b => by simp [Rk.any k b]
theorem Rk.mapP (k : Key) {v : V} {d : PyData} (r : Rp M H v d) : ∀ {m : List (Key × PyData)} {kvs : List (Key × V)}, Rk M H kvs m → Rk M H (kvs.map (fun kv => if kv.1 = k then (kv.1, v) else kv)) (m.map (fun kv => if kv.1 = k then (kv.1, d) else kv))
  | _, _, .nil => .nil
  | (k1, d1) :: m, (_, v1) :: kvs, .cons a b => by
    rw [List.map_cons, List.map_cons]
    by_cases e : k1 = k
    · simp only [if_pos e]
      exact .cons r (Rk.mapP k r b)
    · simp only [if_neg e]
      exact .cons a (Rk.mapP k r b)
theorem Rk.snoc (k : Key) {v : V} {d : PyData} (r : Rp M H v d) : ∀ {m : List (Key × PyData)} {kvs : List (Key × V)}, Rk M H kvs m → Rk M H (kvs ++ [(k, v)]) (m ++ [(k, d)])
  | _, _, .nil => .cons r .nil
  | _, _, .cons a b => .cons a (Rk.snoc k r b)
theorem Rk.put (k : Key) {v : V} {d : PyData} {m : List (Key × PyData)} {kvs : List (Key × V)} (h : Rk M H kvs m) (r : Rp M H v d) : Rk M H (putK kvs k v) (putD m k d) := by
  unfold putK putD
  rw [h.any k]
  split
  · exact Rk.mapP k r h
  · exact Rk.snoc k r h
theorem Rp.key {v : V} {k : Key} (h : Rp M H v (keyD k)) : v = kV k := by
  cases k <;> cases h <;> rfl
theorem rp_key (k : Key) : Rp M H (kV k) (keyD k) := by
  cases k
  · exact .int _
  · exact .str _
/-- a slot's dict, as it may be read -/
inductive Dv (ms : List MD) : SD → List (Key × PyData) → Prop
  | d (m : List (Key × PyData)) : Dv ms (.d (.dict (kD m))) m
  | q {k : Nat} {m : List (Key × PyData)} : ms[k]? = some (.k (kD m)) → Dv ms (.q k) m
theorem Dv.go {s : SD} {m : List (Key × PyData)} {v : V} (h : Dv ms s m) (hA : At L M ms H) (o : SlOk K L M H s v) : ∃ a kvs, v = .ref a ∧ H a = some (.dK kvs) ∧ Rk M H kvs m := by
  cases h with
  | d =>
    have o' : Rp M H v (.dict (kD m)) := o
    cases o' with
    | dct n e r => exact ⟨_, _, rfl, e, rk_of r⟩
  | q e =>
    obtain ⟨p, rfl, hp, _⟩ := o
    obtain ⟨kvs, e1, r⟩ := hA.getK hp e
    exact ⟨p, kvs, rfl, e1, rk_of r⟩
variable {te ta tb tc tl td ty : TE} {tt : TT} {tA : TA} {ds : List SD} {R : RS} {t u : TS} {P : Po}
theorem e_varq {i k : Nat} (h : ds[i]? = some (.q k)) (r : R (.q k) ms) : E K (tVar i) ds ms R := fun L M σ H hS hA Q q => by
  obtain ⟨v, e, o⟩ := hS.get h (fun z => nomatch z)
  exact ⟨v, e, q _ v H ms (Wk.refl L H) (.of hA o) r⟩
theorem e_dget (h : E K td ds ms fun s ms1 => E K ty ds ms1 fun y ms2 => ∃ m k d, Dv ms2 (dd s) m ∧ dd y = .d (keyD k) ∧ valD m k = some d ∧ R (.d d) ms2) : E K (tDGet td ty) ds ms R := fun L M σ H hS hA Q q =>
  h L M σ H hS hA _ fun s x H1 ms1 w1 o1 h1 => h1 L M σ H1 (hS.mono hA w1) o1.at _ fun y z H2 ms2 w2 o2 ⟨m, k, d, dv, ey, hv, r⟩ => by
    obtain ⟨a, kvs, rfl, e, rk⟩ := dv.go o2.at (o1.sl.mono o1.at w2)
    have oz := o2.sl
    rw [ey] at oz
    obtain ⟨v, e1, e2⟩ := (rk.val k).2 d hv
    refine ⟨a, v, rfl, .inl ⟨kvs, k, .inl e, Rp.key oz, e1.symm⟩, q (.d d) v H2 ms2 (w1.trans w2) ⟨o2.at, e2⟩ r⟩
theorem dget_o {s : SD} {m : List (Key × PyData)} {a : Addr} {k : Key} {kvs : List (Key × V)} (e : H a = some (.dK kvs)) (rk : Rk M H kvs m) : ∃ o, DGet H a (kV k) o ∧ o.isSome = (valD m k).isSome := by
  refine ⟨valV kvs k, .inl ⟨kvs, k, .inl e, rfl, rfl⟩, ?_⟩
  cases q : valD m k with
  | none => rw [(rk.val k).1 q]; rfl
  | some d =>
    obtain ⟨v, e1, _⟩ := (rk.val k).2 d q
    rw [e1]; rfl
theorem e_dnotin (h : E K ty ds ms fun y ms1 => E K td ds ms1 fun s ms2 => ∃ m k, Dv ms2 (dd s) m ∧ dd y = .d (keyD k) ∧ R (.d (.bool (!(valD m k).isSome))) ms2) : E K (tDNotIn ty td) ds ms R := fun L M σ H hS hA Q q =>
  h L M σ H hS hA _ fun y z H1 ms1 w1 o1 h1 => h1 L M σ H1 (hS.mono hA w1) o1.at _ fun s x H2 ms2 w2 o2 ⟨m, k, dv, ey, r⟩ => by
    obtain ⟨a, kvs, rfl, e, rk⟩ := dv.go o2.at o2.sl
    have oz := o1.sl.mono o1.at w2
    rw [ey] at oz
    obtain ⟨o, g, eo⟩ := dget_o (s := s) (k := k) e rk
    have ez : z = kV k := Rp.key oz
    subst ez
    refine ⟨a, o, rfl, g, ?_⟩
    rw [eo]
    exact q (.d (.bool _)) _ H2 ms2 (w1.trans w2) ⟨o2.at, .bl _⟩ r
/-! ### targets that are places in dicts -/
def EGh (K : PySem.W.Frag) (g : TG) (x : SD) (ds : List SD) (ms : List MD) (N : List MD → Prop) : Prop :=
  ∀ (L M : List Addr) (σ : L2.St) (H : Hp) (v : V), Sl K L M σ H ds → At L M ms H → SlOk K L M H x v → ∀ C : L2.St → Hp → Prop, (∀ H' ms', Wk L H H' → At L M ms' H' → N ms' → C σ H') → g v σ H C
def EGhs (K : PySem.W.Frag) (g : TGs) (xs : List PyData) (ds : List SD) (ms : List MD) (N : List MD → Prop) : Prop :=
  ∀ (L M : List Addr) (σ : L2.St) (H : Hp) (vs : List V), Sl K L M σ H ds → At L M ms H → RpA M H vs xs → ∀ C : L2.St → Hp → Prop, (∀ H' ms', Wk L H H' → At L M ms' H' → N ms' → C σ H') → g vs σ H C
theorem egh_set {to ti : TE} {d : PyData} {N : List MD → Prop} (h : E K to ds ms fun s ms1 => ∃ k, s = .q k ∧ E K ti ds ms1 fun y ms2 => ∃ (key : Key) (m : List (Key × PyData)), dd y = .d (keyD key) ∧ ms2[k]? = some (.k (kD m)) ∧ m.length < 10000 ∧ N (ms2.set k (.k (kD (putD m key d))))) :
    EGh K (gSub to ti rSetD) (.d d) ds ms N := fun L M σ H v hS hA ho C c =>
  h L M σ H hS hA _ fun s x H1 ms1 w1 o1 ⟨k, ek, h1⟩ => h1 L M σ H1 (hS.mono hA w1) o1.at _ fun y z H2 ms2 w2 o2 ⟨key, m, ey, em, hl, hn⟩ => by
    subst ek
    obtain ⟨a1, p, rfl, hp, _⟩ := o1
    have a2 := o2.at
    have oz := o2.sl
    rw [ey] at oz
    obtain ⟨kvs, e1, r1⟩ := a2.getK hp em
    have rk := rk_of r1
    have hpL : p ∈ L := List.mem_of_getElem? hp
    have rv : Rp M H2 v d := Rp.to (hA.wk (w1.trans w2)) _ _ ho
    refine ⟨p, _, rfl, .inl ⟨kvs, key, e1, Rp.key oz, by rw [rk.length]; exact Nat.lt_trans hl (by decide), rfl⟩, ?_⟩
    exact c _ _ ((w1.trans w2).trans (Wk.mut hpL e1)) (a2.putK hp e1 (rk.put key rv).to) hn
theorem eghs_nil {N : List MD → Prop} (h : N ms) : EGhs K gNil [] ds ms N := fun L M σ H vs hS hA hr C c => by
  cases hr
  exact ⟨rfl, c H ms (Wk.refl L H) hA h⟩
theorem eghs_cons {g : TG} {gs : TGs} {x : PyData} {xs : List PyData} {N : List MD → Prop} (h : EGh K g (.d x) ds ms fun ms1 => EGhs K gs xs ds ms1 N) : EGhs K (gCons g gs) (x :: xs) ds ms N := fun L M σ H vs hS hA hr C c => by
  cases hr with
  | @cons v r _ _ r1 r2 =>
    refine ⟨v, r, rfl, ?_⟩
    refine h L M σ H v hS hA r1 _ fun H1 ms1 w1 a1 h1 => ?_
    exact h1 L M σ H1 r (hS.mono hA w1) a1 (RpA.to (hA.wk w1) _ _ r2) C fun H2 ms2 w2 a2 h2 => c H2 ms2 (w1.trans w2) a2 h2
theorem egh_tup {gs : TGs} {n : Nat} {xs : List PyData} {N : List MD → Prop} (hn : xs.length = n) (h : EGhs K gs xs ds ms N) : EGh K (gTup K n gs) (.d (.tuple xs)) ds ms N := fun L M σ H v hS hA ho C c => by
  obtain ⟨a, ys, rfl, e, r⟩ := Sv.tup (ms := ms) (K := K) (L := L) (.d (.tuple xs)) ho
  exact ⟨a, ys, rfl, SqT.of e, by rw [r.length]; exact hn, h L M σ H ys hS hA r C c⟩
theorem s_asgH {g : TG} (h : E K te ds ms fun s ms1 => EGh K g (dd s) ds ms1 fun ms2 => P.nx ds ms2) : S K (tAsg te g) ds ms P := fun L M σ H hS hA D n r b c =>
  h L M σ H hS hA _ fun s v H1 ms1 w o h1 => h1 L M σ H1 v (hS.mono hA w) o.at o.sl _ fun H2 ms2 w2 a2 h2 => n σ H2 ds ms2 (w.trans w2) (hS.mono hA (w.trans w2)) a2 h2
/-! ### new dicts -/
theorem e_dnewG (r : R (.g []) ms) : E K tDNewK ds ms R := fun L M σ H hS hA Q q p hp => q (.g []) _ _ ms (Wk.new hp) (out_newK hA (Wk.refl L H) hp .nil) r
theorem At.hide {p : Addr} {o : HO} (h : At L M ms H) (e : H p = none) (no : NTup o) : At L (M ++ [p]) ms (upd H p o) := by
  have t : To M (M ++ [p]) H (upd H p o) := to_new h e (Wk.new e)
  refine ⟨h.nd, fun q hq => List.mem_append_left _ (h.sub q hq), fun q hq => ?_, h.ln, fun k q m e1 e2 => ?_⟩
  · by_cases z : q = p
    · subst z; rw [upd_same]; exact ⟨_, rfl, no⟩
    · rw [upd_ne z]
      rcases List.mem_append.mp hq with y | y
      · exact h.al q y
      · exact absurd (by simpa using y) z
  · exact (h.ok k q m e1 e2).to t (upd_ne fun z => h.freshL e (z ▸ List.mem_of_getElem? e1))
theorem At.show {p : Addr} (h : At L (M ++ [p]) ms H) (sb : ∀ q ∈ L, q ∈ M) : At L M ms H :=
  ⟨h.nd, sb, fun q hq => h.al q (List.mem_append_left _ hq), h.ln, fun k q m e1 e2 => (h.ok k q m e1 e2).to to_less rfl⟩
theorem mut_hid {p : Addr} {o o0 : HO} {h : At L (M ++ [p]) ms H} (np : p ∉ L) (e0 : H p = some o0) (no : NTup o) : At L (M ++ [p]) ms (upd H p o) := by
  have t : To (M ++ [p]) (M ++ [p]) H (upd H p o) := fun a u n e => ⟨n, by rw [upd_ne (fun z : a = p => n (by rw [z]; simp))]; exact e⟩
  refine ⟨h.nd, h.sub, fun q hq => ?_, h.ln, fun k q m e1 e2 => (h.ok k q m e1 e2).to t (upd_ne fun z => np (z ▸ List.mem_of_getElem? e1))⟩
  by_cases z : q = p
  · subst z; rw [upd_same]; exact ⟨_, rfl, no⟩
  · rw [upd_ne z]; exact h.al q hq
/-- {k: v} -/
theorem e_disp1 (h : E K ta ds ms fun x ms1 => ∃ k, x = .d (keyD k) ∧ E K tb ds ms1 fun y ms2 => ∃ d, dd y = .d d ∧ R (.g [(keyD k, d)]) ms2) : E K (tDisp [(ta, tb)]) ds ms R := fun L M σ H hS hA Q q p hp => by
  have np := hA.freshL hp
  have a0 := hA.hide (o := .dK []) hp trivial
  have w0 : Wk L H (upd H p (.dK [])) := Wk.new hp
  have s0 : Sl K L (M ++ [p]) σ (upd H p (.dK [])) ds := hS.to (to_new hA hp w0) w0.kd fun _ _ e => e
  refine h L (M ++ [p]) σ _ s0 a0 _ fun x v1 H1 ms1 w1 o1 ⟨k, ex, h1⟩ => ?_
  subst ex
  have a1 := o1.at
  refine h1 L (M ++ [p]) σ H1 (s0.mono a0 w1) a1 _ fun y v2 H2 ms2 w2 o2 ⟨d, ey, r⟩ => ?_
  have a2 := o2.at
  have r2 := o2.sl
  rw [ey] at r2
  have r1 : Rp (M ++ [p]) H1 v1 (keyD k) := o1.2
  have e1 := Rp.key r1
  subst e1
  have ep : H2 p = some (.dK []) := w2 p _ np (w1 p _ np upd_same)
  refine ⟨ep, [(k, v2)], rfl, Nat.le_of_ble_eq_true rfl, ?_⟩
  have em : mergeK [] [(k, v2)] = [(k, v2)] := rfl
  rw [em]
  have sb := hA.sub
  have a3 : At L (M ++ [p]) ms2 (upd H2 p (.dK [(k, v2)])) := mut_hid (h := a2) np ep trivial
  have w3 : Wk L H (upd H2 p (.dK [(k, v2)])) := Wk.over ((w0.trans w1).trans w2) hp
  have t3 : To (M ++ [p]) (M ++ [p]) H2 (upd H2 p (.dK [(k, v2)])) := fun a u n e => ⟨n, by rw [upd_ne (fun z : a = p => n (by rw [z]; simp))]; exact e⟩
  refine q (.g [(keyD k, d)]) _ _ ms2 w3 ⟨p, rfl, hp, hA.fresh hp, ?_, sb⟩ r
  refine ⟨List.nodup_append.mpr ⟨hA.nd, by simp, fun a ha b hb e => np (by simp at hb; subst hb e; exact ha)⟩, ?_, a3.al, by simp [a3.ln], fun j c m e1 e2 => ?_⟩
  · intro z hz
    rcases List.mem_append.mp hz with y | y
    · exact List.mem_append_left _ (sb z y)
    · exact List.mem_append_right _ y
  · by_cases hj : j < L.length
    · rw [List.getElem?_append_left hj] at e1
      rw [List.getElem?_append_left (by rw [← a3.ln]; exact hj)] at e2
      exact (a3.ok j c m e1 e2).toL (fun a o n e => ⟨n, e⟩) (fun k' q' _ z => by rw [List.getElem?_append_left (List.getElem?_eq_some_iff.mp z).1]; exact z) rfl
    · have hk2 : j = L.length := by
        have := (List.getElem?_eq_some_iff.mp e1).1
        simp at this
        omega
      subst hk2
      simp at e1
      subst e1
      rw [a3.ln] at e2
      simp at e2
      subst e2
      exact ⟨_, upd_same, .cons (Rp.to t3 _ _ r2) .nil⟩
/-! ### a new dict that may change, until the block's end -/
def frzSK (n : Nat) (es : List (PyData × PyData)) : SD → SD
  | .q k => if k = n then .d (.dict es) else .q k
  | s => s
def frzRK (n : Nat) (es : List (PyData × PyData)) : SD → SD
  | .q k => if k = n then .g es else .q k
  | s => s
def Po.frzK (P : Po) (n : Nat) : Po where
  nx := fun ds' ms' => ∃ ms1 es, ms' = ms1 ++ [.k es] ∧ ms1.length = n ∧ P.nx (ds'.map (frzSK n es)) ms1
  rt := fun s ms' => ∃ ms1 es, ms' = ms1 ++ [.k es] ∧ ms1.length = n ∧ P.rt (frzRK n es s) ms1
  bk := fun ds' ms' => ∃ ms1 es, ms' = ms1 ++ [.k es] ∧ ms1.length = n ∧ P.bk (ds'.map (frzSK n es)) ms1
  ct := fun ds' ms' => ∃ ms1 es, ms' = ms1 ++ [.k es] ∧ ms1.length = n ∧ P.ct (ds'.map (frzSK n es)) ms1
section
variable {p : Addr} {H0 H1 : Hp} {ms1 : List MD} {es : List (PyData × PyData)}
theorem SlOk.frzK {s : SD} {v : V} (a : At (L ++ [p]) (M ++ [p]) (ms1 ++ [.k es]) H) (np : p ∉ M) (h : SlOk K (L ++ [p]) (M ++ [p]) H s v) : SlOk K L M H (frzSK ms1.length es s) v := by
  have hl : L.length = ms1.length := by have := a.ln; simp at this; exact this
  cases s with
  | u => exact h
  | f _ => exact h
  | g _ => exact h
  | d x => exact Rp.to to_less _ _ h
  | v x => exact h
  | w φ => exact ⟨h.2 _ _ _ _ _ to_less h.1, h.2⟩
  | h φ =>
    obtain ⟨b, e, n, q⟩ := h
    exact ⟨b, e, fun z => n (List.mem_append_left _ z), q⟩
  | s ns =>
    obtain ⟨b, e, ⟨n, q⟩ | q⟩ := h
    · exact ⟨b, e, .inl ⟨fun z => n (List.mem_append_left _ z), q⟩⟩
    · exact ⟨b, e, .inr q⟩
  | m k =>
    obtain ⟨q, rfl, hq, kvs, hls⟩ := h
    have hk : k < L.length := by
      have h1 := (List.getElem?_eq_some_iff.mp hq).1
      rw [List.length_append] at h1
      have h2 : k ≠ L.length := fun z => by
        subst z
        simp at hq
        subst hq
        obtain ⟨xs, e1, _⟩ := a.lastK
        rw [hls] at e1
        cases e1
      have h3 : k < L.length + 1 := h1
      omega
    rw [List.getElem?_append_left hk] at hq
    exact ⟨q, rfl, hq, kvs, hls⟩
  | o k =>
    obtain ⟨q, rfl, hq, hls⟩ := h
    have hk : k < L.length := by
      have h1 := (List.getElem?_eq_some_iff.mp hq).1
      rw [List.length_append] at h1
      have h2 : k ≠ L.length := fun z => by
        subst z
        simp at hq
        subst hq
        obtain ⟨xs, e1, _⟩ := a.lastK
        exact hls.notK e1
      have h3 : k < L.length + 1 := h1
      omega
    rw [List.getElem?_append_left hk] at hq
    exact ⟨q, rfl, hq, hls⟩
  | q k =>
    obtain ⟨q, rfl, hq, hls⟩ := h
    show SlOk K L M H (if k = ms1.length then .d (.dict es) else .q k) _
    by_cases hk : k = ms1.length
    · rw [if_pos hk]
      subst hk
      rw [← hl] at hq
      simp at hq
      subst hq
      obtain ⟨xs, e1, r⟩ := a.lastK
      exact .dct np e1 (r.toP to_less)
    · rw [if_neg hk]
      have : k < L.length := by
        have := (List.getElem?_eq_some_iff.mp hq).1
        simp at this
        omega
      rw [List.getElem?_append_left this] at hq
      exact ⟨q, rfl, hq, hls⟩
theorem Sl.frzK {σ : L2.St} (a : At (L ++ [p]) (M ++ [p]) (ms1 ++ [.k es]) H) (np : p ∉ M) (h : Sl K (L ++ [p]) (M ++ [p]) σ H ds) : Sl K L M σ H (ds.map (frzSK ms1.length es)) := fun i s e => by
  rw [List.getElem?_map] at e
  cases q : ds[i]? with
  | none => rw [q] at e; cases e
  | some s0 =>
    rw [q] at e
    have e' : frzSK ms1.length es s0 = s := Option.some.inj e
    by_cases hu : s0 = .u
    · subst hu
      subst e'
      exact h i .u q
    · obtain ⟨v, e1, e2⟩ := h.get q hu
      have z := e2.frzK a np
      rw [e'] at z
      cases s with
      | u => exact z.elim
      | f _ => exact z.elim
      | g _ => exact z.elim
      | d x => exact ⟨v, e1, z⟩
      | m k => exact ⟨v, e1, z⟩
      | q k => exact ⟨v, e1, z⟩
      | s ns => exact ⟨v, e1, z⟩
      | v x => exact ⟨v, e1, z⟩
      | h φ => exact ⟨v, e1, z⟩
      | w φ => exact ⟨v, e1, z⟩
      | o k => exact ⟨v, e1, z⟩
theorem Out.frzK {v : V} {s : SD} (hp0 : H0 p = none) (a : At (L ++ [p]) (M ++ [p]) (ms1 ++ [.k es]) H) (w0 : ∀ q, q ∉ M → q ≠ p → H1 q = none → H0 q = none) (np : p ∉ M) (sb : ∀ x ∈ L, x ∈ M) (h : Out K (L ++ [p]) (M ++ [p]) H1 H (ms1 ++ [.k es]) v s) : Out K L M H0 H ms1 v (frzRK ms1.length es s) := by
  have ad := a.drop sb
  cases s with
  | u => exact h.2.elim
  | d x => exact ⟨ad, Rp.to to_less _ _ h.2⟩
  | s ns => exact ⟨ad, SlOk.frzK (s := .s ns) a np h.2⟩
  | v x => exact ⟨ad, h.2⟩
  | h φ => exact ⟨ad, SlOk.frzK (s := .h φ) a np h.2⟩
  | w φ => exact ⟨ad, SlOk.frzK (s := .w φ) a np h.2⟩
  | f fs =>
    obtain ⟨q, rfl, hq, nq, aq, _⟩ := h
    have nqM : q ∉ M := fun z => nq (List.mem_append_left _ z)
    have nqp : q ≠ p := fun z => nq (List.mem_append_right _ (by simp [z]))
    exact ⟨q, rfl, w0 q nqM nqp hq, nqM, At.dropMid rfl aq sb, sb⟩
  | g fs =>
    obtain ⟨q, rfl, hq, nq, aq, _⟩ := h
    have nqM : q ∉ M := fun z => nq (List.mem_append_left _ z)
    have nqp : q ≠ p := fun z => nq (List.mem_append_right _ (by simp [z]))
    exact ⟨q, rfl, w0 q nqM nqp hq, nqM, At.dropMid rfl aq sb, sb⟩
  | m k => exact ⟨ad, SlOk.frzK (s := .m k) a np h.2⟩
  | o k => exact ⟨ad, SlOk.frzK (s := .o k) a np h.2⟩
  | q k =>
    have hl : L.length = ms1.length := by have := a.ln; simp at this; exact this
    obtain ⟨_, q, rfl, hq, hls⟩ := h
    show Out K L M H0 H ms1 _ (if k = ms1.length then .g es else .q k)
    by_cases hk : k = ms1.length
    · rw [if_pos hk]
      subst hk
      rw [← hl] at hq
      simp at hq
      subst hq
      exact ⟨p, rfl, hp0, np, a, sb⟩
    · rw [if_neg hk]
      have : k < L.length := by
        have := (List.getElem?_eq_some_iff.mp hq).1
        simp at this
        omega
      rw [List.getElem?_append_left this] at hq
      exact ⟨ad, q, rfl, hq, hls⟩
end
theorem s_newD {i : Nat} (h : E K te ds ms fun s ms1 => ∃ es, s = .g es ∧ S K u (ds.set i (.q ms1.length)) (ms1 ++ [.k es]) (P.frzK ms1.length)) : S K (tSeq (tAsg te (gName i)) u) ds ms P := fun L M σ H hS hA D n r b c =>
  h L M σ H hS hA _ fun s v H1 ms1 w o ⟨es, e, h1⟩ => by
    subst e
    obtain ⟨p, rfl, hp, np, a1, sb⟩ := o
    have hl : L.length = ms1.length := by have := a1.ln; simp at this; exact this
    have npL : p ∉ L := fun z => np (hA.sub p z)
    have t : To M (M ++ [p]) H H1 := to_new hA hp w
    have hS1 : Sl K (L ++ [p]) (M ++ [p]) (σ.set i (some (.ref p))) H1 (ds.set i (.q ms1.length)) := by
      refine (hS.to t w.kd fun k q e => ?_).set i ⟨p, rfl, by rw [← hl]; simp, let ⟨xs, e, _⟩ := a1.lastK; ⟨_, e, .inl rfl⟩⟩
      rw [List.getElem?_append_left (List.getElem?_eq_some_iff.mp e).1]
      exact e
    have wk : ∀ {H2 : Hp}, Wk (L ++ [p]) H1 H2 → Wk L H H2 := fun {H2} w2 => ⟨fun x y nx ex => w2 x y (fun z => (List.mem_append.mp z).elim nx fun z => ne_of_none ex hp (by simpa using z)) (w x y nx ex), fun x y ex => by
      obtain ⟨o1, f1, k1⟩ := w.kd x y ex
      obtain ⟨o2, f2, k2⟩ := w2.kd x o1 f1
      exact ⟨o2, f2, k2.trans k1⟩⟩
    have go : ∀ {N : List SD → List MD → Prop} {C : L2.St → Hp → Prop}, Nx K L M H N C → Nx K (L ++ [p]) (M ++ [p]) H1 (fun ds' ms' => ∃ ms1' es, ms' = ms1' ++ [.k es] ∧ ms1'.length = ms1.length ∧ N (ds'.map (frzSK ms1.length es)) ms1') C := by
      intro N C nn σ2 H2 ds2 ms2 w2 s2 a2 ⟨ms3, es3, e3, l3, n3⟩
      subst e3
      rw [← l3] at n3
      exact nn σ2 H2 _ ms3 (wk w2) (s2.frzK a2 np) (a2.drop sb) n3
    refine h1 (L ++ [p]) (M ++ [p]) _ H1 hS1 a1 D (go n) ?_ (go b) (go c)
    intro s2 v2 H2 ms2 w2 o2 ⟨ms3, es3, e3, l3, n3⟩
    subst e3
    rw [← l3] at n3
    refine r _ v2 H2 ms3 (wk w2) ?_ n3
    refine Out.frzK hp o2.at (fun q hq hqp hq1 => ?_) np sb o2
    cases e : H q with
    | none => rfl
    | some oo => rw [w q oo (fun z => hq (hA.sub q z)) e] at hq1; cases hq1
/-- a, b, c = {}, {}, {} -/
theorem s_par3D {i j l : Nat} (h : S K (tSeq (tAsg tDNewK (gName i)) (tSeq (tAsg tDNewK (gName j)) (tSeq (tAsg tDNewK (gName l)) u))) ds ms P) : S K (tSeq (tPar3 i j l (tCons tDNewK (tCons tDNewK (tCons tDNewK tNil)))) u) ds ms P := fun L M σ H hS hA D n r b c p1 h1 p2 h2 p3 h3 =>
  ⟨_, _, _, rfl, h L M σ H hS hA D n r b c p1 h1 p2 h2 p3 h3⟩
/-! ### for k, v in (a new dict).items() -/
/-- a new dict, locked as soon as it is there -/
def tLkN (td : TE) : TE := fun σ H Q => td σ H fun x H1 => ∃ d kvs, x = .ref d ∧ H1 d = some (.dK kvs) ∧ ∀ o, Q x (upd H1 d (.frz o (.dK kvs)))
theorem pe_lkN {X : Cx} {e : Expr} (he : PE X e td) : PE X e (tLkN td) := ⟨fun pins s σ H Q I h => thn (he.run pins s σ H _ I h) fun u s1 hu => by
  obtain ⟨x, H1, I1, rx, d, kvs, ex, hd, q⟩ := hu
  obtain ⟨o, I0⟩ := I1.lock hd True.intro
  exact ⟨x, _, I0, rx, q o⟩⟩
theorem s_forD {g : TG} {js : List Nat} (h : E K tl ds ms fun s ms0 => ∃ m : List (Key × PyData), s = .g (kD m) ∧ ∃ Pv : Nat → List SD → List MD → Prop, Pv 0 ds ms0 ∧
      (∀ i k e ds1 ms1, m[i]? = some (k, e) → Pv i ds1 ms1 → EG K g js (.d (.tuple [keyD k, e])) ds1 ms1 fun ds2 ms2 => S K t ds2 ms2 ⟨Pv (i + 1), fun _ _ => False, P.nx, Pv (i + 1)⟩) ∧ ∀ ds1 ms1, Pv m.length ds1 ms1 → P.nx ds1 ms1) :
    S K (tFor (iItems (tLkN tl)) g t) ds ms P := fun L M σ H hS hA D n r b c =>
  h L M σ H hS hA _ fun s v H1 ms0 w o ⟨m, es, Pv, h0, hs, hd⟩ => by
    subst es
    obtain ⟨p, rfl, hp, np, a1, sb⟩ := o
    obtain ⟨kvs, e1, r1⟩ := a1.lastK
    have npL : p ∉ L := fun z => np (hA.sub p z)
    have rk := rk_of r1
    refine ⟨p, kvs, rfl, e1, fun o => ⟨p, o, kvs, rfl, upd_same, ?_⟩⟩
    have tH : To (M ++ [p]) (M ++ [p]) H1 (upd H1 p (.frz o (.dK kvs))) := fun a u n e => ⟨n, by rw [upd_ne (fun z : a = p => n (by rw [z]; simp))]; exact e⟩
    have ln0 : L.length = ms0.length := by have := a1.ln; simp at this; exact this
    have a2 : At L (M ++ [p]) ms0 (upd H1 p (.frz o (.dK kvs))) := by
      refine ⟨(List.nodup_append.mp a1.nd).1, fun q hq => List.mem_append_left _ (sb q hq), fun q hq => ?_, ln0, fun k q x f1 f2 => ?_⟩
      · by_cases z : q = p
        · subst z; rw [upd_same]; exact ⟨_, rfl, trivial⟩
        · rw [upd_ne z]; exact a1.al q hq
      · have hk : k < L.length := (List.getElem?_eq_some_iff.mp f1).1
        have hq : q ≠ p := fun z => npL (z ▸ List.mem_of_getElem? f1)
        exact (a1.ok k q x (by rw [List.getElem?_append_left hk]; exact f1) (by rw [List.getElem?_append_left (by omega)]; exact f2)).toL tH (fun k' q' hlt z => by rw [List.getElem?_append_left (by omega)] at z; exact z) (upd_ne hq)
    have w2 : Wk L H (upd H1 p (.frz o (.dK kvs))) := w.over hp
    have s2 : Sl K L (M ++ [p]) σ (upd H1 p (.frz o (.dK kvs))) ds := hS.to (to_new hA hp w2) w2.kd fun _ _ e => e
    have lk : ∀ {H' : Hp}, Wk L (upd H1 p (.frz o (.dK kvs))) H' → H' p = some (.frz o (.dK kvs)) := fun w' => w' p _ npL upd_same
    have out : ∀ {N : List SD → List MD → Prop} {C : L2.St → Hp → Prop}, Nx K L M H N C → ∀ {H' : Hp}, Wk L (upd H1 p (.frz o (.dK kvs))) H' → Nx K L (M ++ [p]) H' N C := fun nn H' w' σ3 H3 ds3 ms3 w3 s3 a3 p3 =>
      nn σ3 H3 ds3 ms3 ((w2.trans w').trans w3) (s3.to to_less (fun a o e => ⟨o, e, rfl⟩) fun _ _ e => e) (a3.show sb) p3
    refine for_it walk_items (fun i σ' H' => ∃ ds' ms', Wk L (upd H1 p (.frz o (.dK kvs))) H' ∧ Sl K L (M ++ [p]) σ' H' ds' ∧ At L (M ++ [p]) ms' H' ∧ Pv i ds' ms') ⟨ds, ms0, Wk.refl L _, s2, a2, h0⟩ (fun i σ' H' _ ⟨_, _, w', _⟩ => lk w') (fun i x σ' H' H2 hi ⟨ds', ms', w', s', a', p'⟩ y => ?_) (fun σ' H' ⟨ds', ms', w', s', a', p'⟩ => ?_)
    · obtain ⟨N, c1, y1, rfl, hN, rfl, q1, q2⟩ := y
      simp only [] at q1 q2
      cases qk : kvs[i]? with
      | none => rw [qk] at q1; cases q1
      | some kv =>
        obtain ⟨k, v⟩ := kv
        rw [qk] at q1 q2
        cases q1
        cases q2
        obtain ⟨e, f1, f2⟩ := rk.get' qk
        have w4 : Wk L H' (upd H' N (.tup [kV k, v])) := Wk.new hN
        have a4 := a'.new (o := .tup [kV k, v]) hN
        have w3 := w'.trans w4
        refine hs i k e ds' ms' f1 p' L (M ++ [p]) σ' _ (.ref N) (s'.mono a' w4) a4 (Rp.tup (a'.fresh hN) upd_same (.cons (rp_key k) (.cons (Rp.to (fun a o n e => ?_) _ _ f2) .nil))) _ fun σ2 ds2 s2 _ h2 => ?_
        · exact ⟨n, w3 a o (fun z => n (List.mem_append_left _ (sb a z))) (tH a o n e).2⟩
        · exact h2 L (M ++ [p]) σ2 _ s2 a4 _ (fun σ3 H3 ds3 ms3 w5 s3 a3 p3 => ⟨ds3, ms3, w3.trans w5, s3, a3, p3⟩) (fun _ _ _ _ _ _ z => z.elim) (out n w3) (fun σ3 H3 ds3 ms3 w5 s3 a3 p3 => ⟨ds3, ms3, w3.trans w5, s3, a3, p3⟩)
    · rw [rk.length] at p'
      exact out n w' σ' H' ds' ms' (Wk.refl L H') s' a' (hd ds' ms' p')
end
end Hc

namespace Hc
open PySem PySem.Spec PyProof.Rows L2
/-! ### min(xs, key=len), of a list of tuples -/
abbrev lenV : Value := .builtin "len"
section
variable {prog : Program} {w : World} {A : Around} {E : Value → Shared → Prop} {s : Shared} {l I S : Addr} {vs : List Value} {R : Result → Shared → Prop} {Q : Value → Shared → Prop}
/-- the lengths of the tuples in vs -/
def Lens (h0 : Heap) (vs : List Value) (kf : Nat → Int) : Prop := ∀ (i : Nat) (v : Value), vs[i]? = some v → ∃ b its, v = .ref b ∧ IsTup h0 b its ∧ (its.size : Int) < 2 ^ 63 ∧ kf i = its.size
end
/-- min(e, key=len) -/
def tMinL (K : PySem.W.Frag) (ta : TA) : TE := fun σ H Q => ta σ H fun vs H1 => ∃ (a : Addr) (xs : List V), vs = [.ref a] ∧ SqL K H1 a xs ∧ 0 < xs.length ∧ (∀ v ∈ xs, ∃ b ys, v = .ref b ∧ SqT K H1 b ys) ∧ ∀ v ∈ xs, Q v H1
theorem lens_of {X : Cx} {pins : List (Addr × Obj)} {σ : L2.St} {H : Hp} {s : Shared} {xs : List V} {its : List Value} (I : Inv X pins σ H s) (rv : Vals xs its) (tu : ∀ v ∈ xs, ∃ b ys, v = .ref b ∧ SqT X.K H b ys) : ∃ kf, Lens s.heap its kf := by
  have : ∀ i : Nat, ∃ k : Int, ∀ v, its[i]? = some v → ∃ b tt, v = .ref b ∧ IsTup s.heap b tt ∧ (tt.size : Int) < 2 ^ 63 ∧ k = tt.size := fun i => by
    cases e : its[i]? with
    | none => exact ⟨0, fun v z => by cases z⟩
    | some u =>
      have hl := rv.length
      have hi := (List.getElem?_eq_some_iff.mp e).1
      obtain ⟨u2, h1, h2⟩ := rv.get (List.getElem?_eq_getElem (l := xs) (i := i) (by omega))
      rw [e] at h1
      cases h1
      obtain ⟨b, ys, eb, sq⟩ := tu _ (List.getElem_mem (l := xs) (n := i) (by omega))
      rw [eb] at h2
      cases h2
      obtain ⟨tt, r2, tp, z2⟩ := I.tuple sq
      refine ⟨(tt.toArray.size : Int), fun v z => ⟨b, tt.toArray, (Option.some.inj z).symm, tp, ?_, rfl⟩⟩
      have hn := line63
      have := r2.length
      simp only [List.size_toArray]
      omega
  obtain ⟨kf, hk⟩ := Classical.axiomOfChoice this
  exact ⟨kf, fun i v z => hk i v z⟩
/-- all that lies in a heap, apart from the ground and one namespace -/
def others (g : Heap) (L : Addr) (h : Heap) : List (Addr × Obj) := (List.range h.objs.size).filterMap fun b => if b = L ∨ (g.get? b).isSome = true then none else (h.get? b).map (Prod.mk b)
theorem others_mem {g h : Heap} {L b : Addr} {o : Obj} : (b, o) ∈ others g L h ↔ b ≠ L ∧ g.get? b = none ∧ h.get? b = some o := by
  unfold others
  rw [List.mem_filterMap]
  constructor
  · rintro ⟨c, _, e⟩
    by_cases z : c = L ∨ (g.get? c).isSome = true
    · rw [if_pos z] at e; cases e
    · rw [if_neg z] at e
      obtain ⟨o', e1, e2⟩ := Option.map_eq_some_iff.mp e
      cases e2
      exact ⟨fun y => z (.inl y), by simpa using fun y => z (.inr y), e1⟩
  · rintro ⟨n1, n2, e⟩
    refine ⟨b, List.mem_range.mpr (Heap.lt_size e), ?_⟩
    rw [if_neg (fun y => y.elim n1 fun y => by rw [n2] at y; cases y), e]
    rfl
theorem min_len {X : Cx} {pins : List (Addr × Obj)} {σ : L2.St} {H : Hp} {s : Shared} {l : Addr} {vs : List Value} {kf : Nat → Int} {Q E : Value → Shared → Prop} (I : Inv X pins σ H s) (hc : X.A.handled = none) (hl : s.heap.IsList l vs.toArray) (hne : 0 < vs.length) (hL : Lens s.heap vs kf)
    (hQ : ∀ (i : Nat) (v : Value) (h' : Heap) (tk' : Nat), vs[i]? = some v → Inv X pins σ H { s with heap := h', toks := tk' } → Q v { s with heap := h', toks := tk' }) :
    wpAny (model X.prog X.w) X.A (call (.builtin "min") [.ref l] [(Str.ofString "key", lenV)]) Q E s := by
  obtain ⟨m, F⟩ := I.fr
  have fL := F.ns
  obtain ⟨oL, esL, epL, gL, dL, skL, fdL⟩ := id fL
  have all : ∀ (h : Heap) (own : List (Addr × Obj)), Fr X.base X.env.locals h m → News X.base X.env.locals h (others X.base X.env.locals s.heap ++ own) → ∀ b o, b ≠ X.env.locals → s.heap.get? b = some o → h.get? b = some o := fun h own f n b o nb e => by
    cases q : X.base.get? b with
    | none => exact (n (b, o) (List.mem_append_left _ (others_mem.mpr ⟨nb, q, e⟩))).1
    | some o' =>
      have e2 := I.bk b o' q
      rw [e] at e2
      cases e2
      exact f.keep b o q
  have notL : ∀ b o, s.heap.get? b = some o → (∃ xs n, o.data = .seq xs n) → b ≠ X.env.locals := fun b o e ⟨xs, n, d⟩ z => by
    subst z
    rw [gL] at e
    cases e
    rw [dL] at d
    cases d
  refine kmb_min (L := X.env.locals) (news := others X.base X.env.locals s.heap) kf hc F (fun p hp => ?_) (fun h f n => ?_) hne (fun i v hv h tk own f n => ?_) (fun i v h' tk' hv _ f n => hQ i v h' tk' hv ?_)
  · obtain ⟨z1, z2, z3⟩ := others_mem.mp (show (p.1, p.2) ∈ _ from hp)
    exact ⟨z3, z1, z2⟩
  · obtain ⟨o, e, c, d⟩ := hl
    exact ⟨o, all h [] f (by rw [List.append_nil]; exact n) l o (notL l o e ⟨_, d⟩) e, c, d⟩
  · obtain ⟨b, its, rfl, ⟨o, e, c, d⟩, hz, ek⟩ := hL i v hv
    refine PyProof.Rows.len_tuple (s := { s with heap := h, toks := tk }) (t := b) (items := its) ⟨o, all h own f n b o (notL b o e ⟨_, d⟩) e, c, d⟩ hz ?_
    rw [← ek]
    exact ⟨h, _, _, rfl, rfl, f, n⟩
  · have al := all h' [] f (by rw [List.append_nil]; exact n)
    have nL : ∀ b u, H b = some u → b ≠ X.env.locals := fun b u e z => by
      rw [z, I.free] at e
      cases e
    have there : ∀ b o, s.heap.get? b = some o → ∃ o', h'.get? b = some o' := fun b o e => by
      by_cases z : b = X.env.locals
      · obtain ⟨o', _, _, e', _⟩ := f.ns
        exact ⟨o', by rw [z]; exact e'⟩
      · exact ⟨o, al b o z e⟩
    refine I.step (ch := []) (g' := s.gens) (d' := s.drawn) (fun _ z => by cases z) (fun b o nb _ _ e _ => al b o nb e) (fun b o nb _ _ e _ => ⟨o.slots, al b o nb e⟩) (fun _ _ _ _ z => z) (fun b o _ e => there b o e) (fun _ _ z => z) (fun _ _ _ z => z) (fun b ps e => ⟨#[], by simpa using e⟩) (fun m' hm => ?_) (fun b u e => ?_) I.bare
    · have em : m' = m := funext fun x => by
        obtain ⟨o1, es1, ep1, g1, d1, _, f1⟩ := hm
        rw [gL] at g1
        cases g1
        rw [dL] at d1
        cases d1
        rw [← f1, fdL]
      rw [em]
      exact f.ns
    · refine (I.hok b u e).stay (fun c v hcv q => al c v ?_ q) (fun _ z => z) (fun _ _ z => z)
      rcases hcv with z | z
      · rw [z]; exact nL b u e
      · exact nL c _ z
theorem pe_minL {X : Cx} {ex : Expr} {ta : TA} {p pos kpos np : Pos} (hc : X.calm = true) (hg : Gl X "min") (hm : X.mg "min" = none) (hg2 : Gl X "len") (hm2 : X.mg "len" = none) (ha : PA X [ex] ta)
    (he : backTo pos (starEach [ex] X.env) = (false, eval ex X.env) :: backTo pos (starEach [] X.env) := by rfl) (hpl : (backTo pos (starEach [ex] X.env)).any (·.1) = false := by rfl) :
    PE X (.Call (.Name "min" p) [ex] [⟨some "key", .Name "len" np, kpos⟩] pos) (tMinL X.K ta) := by
  refine ⟨fun pins s σ H Q I h => ?_⟩
  refine wpAny_Call_Name_kw (ld_blt I hg hm (u := .builtin "min") (by decide +kernel) ?_)
  refine PyProof.Rows.callWith_kw (thn (ha.run pos pins s σ H _ I h) fun us s1 ⟨vs, H1, I1, r1, a, xs, ev, sq, hne, tu, q⟩ => ?_) he hpl
  subst ev
  obtain rfl := Vals.ref1 r1
  show wpAny _ _ (evalAll ((do let v ← eval (.Name "len" np) X.env; standAt pos; pure v) :: [])) _ _ s1
  refine wpAny_evalAll_cons (wpAny_bind (ld_blt I1 hg2 hm2 (u := .builtin "len") (by decide +kernel) (wpAny_bind (wpAny_standAt (wpAny_pure ?_)))))
  refine wpAny_evalAll_nil ?_
  show wpAny _ _ (call (.builtin "min") [.ref a] [(Str.ofString "key", lenV)]) _ _ s1
  obtain ⟨its, rv, pl, hz⟩ := I1.list sq
  obtain ⟨kf, hL⟩ := lens_of I1 rv tu
  have hl := rv.length
  refine min_len I1 (I1.ok.hd hc) pl.isList (by omega) hL fun i v h' tk' hv I2 => ?_
  have hi := (List.getElem?_eq_some_iff.mp hv).1
  have hx : xs[i]? = some (xs[i]'(by omega)) := List.getElem?_eq_getElem (by omega)
  obtain ⟨v2, e2, r2⟩ := rv.get hx
  rw [hv] at e2
  cases e2
  exact ⟨_, H1, I2, r2, q _ (List.getElem_mem (by omega))⟩
section
variable {K : PySem.W.Frag} {ms : List MD} {tA : TA} {ds : List SD} {R : RS}
theorem e_minL (h : EA K tA ds ms fun as ms1 => ∃ es : List PyData, (∃ s, as = [s] ∧ Sv ms1 s (.list es)) ∧ 0 < es.length ∧ (∀ e ∈ es, ∃ ys, e = .tuple ys) ∧ ∀ e ∈ es, R (.d e) ms1) : E K (tMinL K tA) ds ms R := fun L M σ H hS hA Q q =>
  h L M σ H hS hA _ fun as vs H1 ms1 w a1 o ⟨es, ⟨s, ea, sv⟩, hne, tu, r⟩ => by
    subst ea
    obtain ⟨v, t, rfl, hv, rfl⟩ := o
    obtain ⟨p, xs, rfl, hq, hr⟩ := sv.lst a1 hv
    have hl := hr.length
    refine ⟨p, xs, rfl, hq, by omega, fun v hv => ?_, fun v hv => ?_⟩
    · obtain ⟨i, hi, e⟩ := List.getElem_of_mem hv
      obtain ⟨d, h1, h2⟩ := hr.get' (List.getElem?_eq_getElem hi)
      rw [e] at h2
      obtain ⟨ys, rfl⟩ := tu d (List.mem_of_getElem? h1)
      cases h2 with
      | tup n e1 r => exact ⟨_, _, rfl, SqT.of e1⟩
    · obtain ⟨i, hi, e⟩ := List.getElem_of_mem hv
      obtain ⟨d, h1, h2⟩ := hr.get' (List.getElem?_eq_getElem hi)
      rw [e] at h2
      exact q (.d d) v H1 ms1 w ⟨a1, h2⟩ (r d (List.mem_of_getElem? h1))
end
section
variable {K : PySem.W.Frag} {ms : List MD} {te : TE} {ds : List SD} {P : Po}
theorem u1 {k : Nat} {A : Around} (h : Room k A) : A.units + 1 < cLine := by
  have := h.un
  omega
/-- x += e, of ints -/
theorem s_augI {i : Nat} {f : Int → Int → Int} {a : Int} (hi : ds[i]? = some (.d (.int a))) (h : E K te ds ms fun s ms1 => ∃ b, s = .d (.int b) ∧ P.nx (ds.set i (.d (.int (f a b)))) ms1) : S K (tAug i te (ipI f)) ds ms P := fun L M σ H hS hA D n r b c => by
  obtain ⟨v, e, o⟩ := hS.get hi (fun z => nomatch z)
  have o' : Rp M H v (.int a) := o
  cases o'
  refine ⟨_, e, h L M σ H hS hA _ fun s v H1 ms1 w o1 ⟨bb, es, h1⟩ => ?_⟩
  subst es
  obtain ⟨a1, z⟩ := o1
  cases z
  exact ⟨a, bb, rfl, rfl, n _ H1 _ ms1 w ((hS.mono hA w).set i (s := .d (.int (f a bb))) (Rp.int _)) a1 h1⟩
/-- t + u of tuples, either may be empty -/
theorem rr_catA {R : RS} {a b : SD} (h : ∃ es fs, a = .d (.tuple es) ∧ b = .d (.tuple fs) ∧ es.length + fs.length ≤ 10000 ∧ R (.d (.tuple (es ++ fs))) ms) : RR K (rCatA K) a b ms R := fun L M H x y hA ha hb Q q => by
  obtain ⟨es, fs, rfl, rfl, hz, r⟩ := h
  have ha2 : Rp M H x (.tuple es) := ha
  have hb2 : Rp M H y (.tuple fs) := hb
  cases ha2 with
  | @tup p xs _ np ep rp =>
    cases hb2 with
    | @tup p2 ys _ np2 ep2 rp2 =>
      refine ⟨p, p2, xs, ys, rfl, rfl, SqT.of ep, SqT.of ep2, by rw [rp.length, rp2.length]; exact Nat.le_trans hz (by decide), fun z => ?_, fun _ z => ?_, fun _ z l hl => ?_⟩
      · subst z
        cases rp
        exact q (.d (.tuple fs)) _ H ms (Wk.refl L H) ⟨hA, hb⟩ r
      · subst z
        cases rp2
        rw [List.append_nil] at r
        exact q (.d (.tuple es)) _ H ms (Wk.refl L H) ⟨hA, ha⟩ r
      · exact q (.d (.tuple (es ++ fs))) _ _ ms (Wk.new hl) ⟨hA.new hl, .tup (hA.fresh hl) upd_same (RpA.to (hA.wk (Wk.new hl)) _ _ (rp.append rp2))⟩ r
end
end Hc

namespace Hc
open PySem PySem.Spec PyProof.Rows L2
/-! ### zip(t, u, v) of three tuples -/
structure Apt3 (z t o c d f a b e : Addr) : Prop where
  sep : PySem.ZipSep3 z t o c d f [c, a] [d, b] [f, e]
  ac : a ≠ c
  bd : b ≠ d
  ef : e ≠ f
section
variable {K : PySem.W.Frag} {tA : TA} {ds : List SD} {ms : List MD} {R : RS} {t u : TS} {P : Po}
end
end Hc

namespace Hc
open PySem PySem.Spec PyProof.Rows L2
/-! ### t[::-1] of a tuple -/
section
variable {prog : Program} {w : World} {s : Shared} {A : Around} {E : Value → Shared → Prop}
/-! ### sorted(t) of a tuple of ints -/
theorem collect_tup {t : Addr} {vs : List Value} {Q : List Value → Shared → Prop} (ht : IsTup s.heap t vs.toArray) (hz : vs.length ≤ sizeLine)
    (h : ∀ h' : Heap, (∀ b o, s.heap.get? b = some o → h'.get? b = some o) → s.heap.objs.size ≤ h'.objs.size → Q vs { s with heap := h' }) : wpAny (model prog w) A (collect (.ref t)) Q E s := by
  obtain ⟨o, ho, hc, n, hd⟩ := ht
  have k1 : ∀ b u, s.heap.get? b = some u → (s.heap.push (seqObj "list" #[] 0)).get? b = some u := fun b u z => Heap.get?_push_of_some _ z
  have new : (s.heap.push (seqObj "list" #[] 0)).get? s.heap.objs.size = some (seqObj "list" #[] 0) := Heap.get?_push_size _ rfl
  unfold collect
  refine wpAny_bind (wpAny_runValue (codeAny_builtin PyProof.Rows.entry_proto_collect' ?_))
  show wpAny _ _ (newList [] >>= fun l => again (.builtin "list.__iadd__" ⟨[l, .ref t], []⟩)) _ _ s
  refine wpAny_bind (wpAny_newList (wpAny_pure ⟨Code.quiet_builtin _ (by decide +kernel), codeAny_builtin PyProof.Rows.entry_list_iadd' ?_⟩))
  show wpAny _ _ (Builtin.List.listExtendWith (.ref s.heap.objs.size) (.ref t) (.ref s.heap.objs.size)) _ _ { s with heap := s.heap.push (seqObj "list" #[] 0) }
  unfold Builtin.List.listExtendWith
  refine wpAny_bind (wpAny_typeOf (T := "tuple") ⟨o, k1 _ _ ho, hc⟩ ?_)
  rw [if_pos (by rw [show (Value.type "tuple" == Value.type "tuple") = true from rfl, Bool.or_true])]
  refine wpAny_bind (PyProof.Rows.listItems_at (k1 _ _ ho) hd (wpAny_bind (PyProof.Rows.listItems_at new rfl ?_)))
  rw [if_neg (by simp)]
  refine wpAny_bind (PyProof.Rows.listUpdate_at new rfl (wpAny_pure ?_) (Nat.zero_le _) (by simp; omega))
  refine wpAny_bind (wpAny_load (get?_update_seq new _) ?_)
  change wpAny _ _ (pure (#[] ++ vs.toArray).toList) _ _ _
  rw [Array.empty_append]
  refine wpAny_pure (h _ (fun b u z => ?_) ?_)
  · rw [Heap.get?_update_ne _ _ _ _ (Nat.ne_of_lt (Heap.lt_size z))]
    exact k1 b u z
  · rw [Heap.size_update, size_push']
    exact Nat.le_succ _
theorem sorted_of {x : Value} {vs : List Value} {ltv : Value → Value → Bool} {Q : Value → Shared → Prop} (O : SrtO.Swo ltv) (hz : vs.length ≤ sizeLine)
    (hcol : ∀ (E' : Value → Shared → Prop) (Q' : List Value → Shared → Prop), (∀ h' : Heap, (∀ b o, s.heap.get? b = some o → h'.get? b = some o) → s.heap.objs.size ≤ h'.objs.size → Q' vs { s with heap := h' }) → wpAny (model prog w) A.in1 (collect x) Q' E' s)
    (hS : 2 ≤ vs.length → ∀ (h₁ : Heap) (a : Addr), SrtO.SortableO prog w A.in1.in1 { s with heap := h₁ } a vs ltv)
    (h : ∀ (out : List Value) (h' : Heap) (p ep : Nat), SrtO.Srtd ltv out → SrtO.Stb ltv out vs → s.heap.objs.size ≤ p → (∀ b o, s.heap.get? b = some o → h'.get? b = some o) → h'.get? p = some (seqObj "list" out.toArray ep) → Q (.ref p) { s with heap := h' }) :
    wpAny (model prog w) A (call (.builtin "sorted") [x]) Q E s := by
  refine Calls.call_function_entry kind_sorted plain_sorted entry_sorted (args_sorted1 _) (show wpAny _ _ (Builtin.«sorted» _) _ _ _ from ?_)
  rw [Builtin.«sorted»]
  refine wpAny_bind (m := checkCount "sorted" 1 1 _) (wpAny_pure (wpAny_bind (hcol _ _ fun h1 k1 z1 => wpAny_bind (wpAny_newList ?_ hz))))
  have at1 : (h1.push (seqObj "list" vs.toArray 0)).get? h1.objs.size = some (seqObj "list" vs.toArray 0) := Heap.get?_push_size _ rfl
  refine wpAny_bind (wpAny_holding (wpAny_call_entry slot_list_sort ⟨_, at1, rfl⟩ entry_list_sort (SrtO.list_sort_ord O at1 hz (fun h2 => hS h2 _ _) fun out h2 h3 => ⟨_, rfl, wpAny_pure ⟨_, rfl, ?_⟩⟩) (args_list_sort _)))
  obtain ⟨ep, e2⟩ := PyProof.Rows.sortedHeap_at (vs := vs) (out := out.toArray) at1
  refine h out _ _ ep h2 h3 z1 (fun b u z => ?_) e2
  have lb := Heap.lt_size (k1 b u z)
  rw [PyProof.Rows.sortedHeap_old (Nat.ne_of_lt lb) (by rw [size_push']; exact Nat.lt_succ_of_lt lb)]
  exact Heap.get?_push_of_some _ (k1 b u z)
end
def rSortTI (K : PySem.W.Frag) : List V → Hp → VK → Prop := fun vs H Q => ∃ (a : Addr) (ns : List Int), vs = [V.ref a] ∧ SqT K H a (ns.map V.int) ∧ ∀ (ns' : List Int) (p : Addr), ns'.Perm ns → ns'.Pairwise (· ≤ ·) → H p = none → Q (.ref p) (upd H p (.lst (ns'.map V.int)))
theorem cr_sortTI {X : Cx} : CallR X (.builtin "sorted") (rSortTI X.K) := by
  rintro pins s σ H vs us Q I r ⟨a, ns, rfl, sq, q⟩
  obtain ⟨its, rv, tp, zl⟩ := I.tuple sq
  rw [Vals.ref1 r]
  have zl' : its.length ≤ sizeLine := by rw [← rv.length]; exact zl
  refine sorted_of SrtO.swo_int zl' (fun E' Q' k => collect_tup tp zl' k) (fun h2 h₁ a' => SrtO.ints_sortable rv.ints h2) fun out h' p ep o1 o2 hp kp e => ?_
  obtain ⟨k1, k2, k3⟩ := SrtO.ints_out rv.ints o1 o2
  have ln : ((out.map SrtO.iv).map V.int).length ≤ sizeLine := by
    have := k2.length_eq
    simp only [List.length_map] at this zl ⊢
    omega
  exact ⟨.ref p, _, I.laid (t' := s.toks) kp hp (show ObjOk X.prog X.w _ _ _ (.lst ((out.map SrtO.iv).map V.int)) from ⟨ln, out, ep, vals_of_ints k1, e⟩), rfl, q _ _ k2 k3 (I.hok.fresh hp)⟩
section
variable {K : PySem.W.Frag} {te ta tb : TE} {ds : List SD} {ms : List MD} {R : RS}
theorem rc_sortT {as : List SD} (h : ∃ (ns : List Int), as = [.d (.tuple (ns.map .int))] ∧ ∀ ns' : List Int, ns'.Perm ns → ns'.Pairwise (· ≤ ·) → R (.f (ns'.map .int)) ms) : RC K (rSortTI K) as ms R := fun L M H vs hA ha Q q => by
  obtain ⟨ns, rfl, r⟩ := h
  obtain ⟨v, t, rfl, hv, rfl⟩ := ha
  obtain ⟨p, xs, rfl, e1, hr⟩ := Sv.tup (ms := ms) (K := K) (L := L) (.d (.tuple (ns.map .int))) hv
  rw [RpA.ints_inv hr] at e1
  refine ⟨p, ns, rfl, SqT.of e1, fun ns' l hp hs hl => ?_⟩
  exact q (.f (ns'.map .int)) _ _ ms (Wk.new hl) (out_new hA (Wk.refl L H) hl (RpA.ints ns')) (r ns' hp hs)
/-- a part of a tuple, perhaps the whole -/
theorem e_slA {to th : TO} (h : E K te ds ms fun s ms1 => EO K to ds ms1 fun lo ms2 => EO K th ds ms2 fun hi ms3 => ∃ es, s = .d (.tuple es) ∧ R (.d (.tuple (cutD es lo hi))) ms3) : E K (tSl (rSlA K) te to th) ds ms R := fun L M σ H hS hA Q q =>
  h L M σ H hS hA _ fun s v H1 ms1 w1 o1 h1 => h1 L M σ H1 (hS.mono hA w1) o1.at _ fun lo H2 ms2 w2 a2 h2 => h2 L M σ H2 ((hS.mono hA w1).mono o1.at w2) a2 _ fun hi H3 ms3 w3 a3 ⟨es, e, r⟩ => by
    subst e
    have z := (o1.sl.mono o1.at w2).mono a2 w3
    obtain ⟨p, xs, rfl, e1, hr⟩ := Sv.tup (ms := ms3) (.d _) z
    have w := (w1.trans w2).trans w3
    have ln := hr.length
    refine ⟨p, xs, rfl, SqT.of e1, fun y => ?_, fun _ l hl => ?_⟩
    · have e2 : cutD es lo hi = es := by
        unfold cutD
        rw [← ln, y.1, y.2]
        simp [ln]
      rw [e2] at r
      exact q (.d (.tuple es)) _ H3 ms3 w ⟨a3, z⟩ r
    · exact q (.d (.tuple (cutD es lo hi))) _ _ ms3 (w.trans (Wk.new hl)) ⟨a3.new hl, .tup (a3.fresh hl) upd_same (RpA.to (a3.wk (Wk.new hl)) _ _ (cut_of hr lo hi))⟩ r
end
/-- a comprehension within one -/
theorem blkOk_in {X : Cx} {N : List Str} {sc scope : Scope} {own : List (Str × Nat)} (hN : X.N = N) (hs : X.env.scope = sc) (h : blkC N sc scope own = true) : BlkOk X.N X.env.scope scope own := by
  subst hN hs
  exact blkOk_by h
end Hc

namespace Hc
open PySem PySem.Spec PyProof.Rows L2
/-! ### [e for x in xs for y in t] -/
structure Stays (M : List Addr) (H H' : Hp) : Prop where
  t : To M M H H'
  kd : ∀ a o, H a = some o → ∃ o', H' a = some o' ∧ kindO o' = kindO o
theorem Stays.refl (M : List Addr) (H : Hp) : Stays M H H := ⟨fun _ _ n e => ⟨n, e⟩, fun _ o e => ⟨o, e, rfl⟩⟩
theorem Stays.trans {M : List Addr} {H H1 H2 : Hp} (a : Stays M H H1) (b : Stays M H1 H2) : Stays M H H2 := ⟨fun x o n e => b.t x o n (a.t x o n e).2, fun x o e => by
  obtain ⟨o1, e1, k1⟩ := a.kd x o e
  obtain ⟨o2, e2, k2⟩ := b.kd x o1 e1
  exact ⟨o2, e2, k2.trans k1⟩⟩
theorem Stays.wk {L M : List Addr} {ms : List MD} {H H' : Hp} (a : At L M ms H) (w : Wk L H H') : Stays M H H' := ⟨a.wk w, w.kd⟩
theorem Stays.upd {M : List Addr} {H : Hp} {D : Addr} {xs ys : List V} (h : D ∈ M) (e : H D = some (.lst xs)) : Stays M H (upd H D (.lst ys)) := ⟨fun a o n q => ⟨n, by rw [upd_ne (fun z : a = D => n (by rw [z]; exact h))]; exact q⟩, (Wk.mut (L := M) h e).kd⟩
section
variable {K : PySem.W.Frag} {te ti tl : TE} {tt tt1 : TT} {ds : List SD} {ms : List MD} {R : RS}
end
/-! ### max(t) of a tuple of ints -/
section
variable {K : PySem.W.Frag} {ms : List MD} {R : RS}
end
end Hc

namespace Hc
open PySem PySem.Spec PyProof.Rows L2
/-! ### dicts that may change, with rows as keys -/
def valT (m : List (List Key × PyData)) (k : List Key) : Option PyData := (m.find? fun kv => decide (kv.1 = k)).map (·.2)
def putT (m : List (List Key × PyData)) (k : List Key) (d : PyData) : List (List Key × PyData) :=
  if (m.any fun kv => decide (kv.1 = k)) = true then m.map (fun kv => if kv.1 = k then (kv.1, d) else kv) else m ++ [(k, d)]
/-- a row of keys, as it is handed in -/
abbrev rowK (k : List Key) : PyData := .tuple (k.map keyD)
section
variable {K : PySem.W.Frag} {L M : List Addr} {ms : List MD} {H H' : Hp}
theorem Rt.length : ∀ {m : List (List Key × PyData)} {kvs : List (List Key × V)}, Rt M H kvs m → kvs.length = m.length
  | _, _, .nil => rfl
  | _, _, .cons _ b => congrArg (· + 1) (Rt.length b)
theorem Rt.keys : ∀ {m : List (List Key × PyData)} {kvs : List (List Key × V)}, Rt M H kvs m → kvs.map (·.1) = m.map (·.1)
  | _, _, .nil => rfl
  | _, _, .cons _ b => by rw [List.map_cons, List.map_cons, Rt.keys b]
theorem Rt.val (k : List Key) {d : PyData} : ∀ {m : List (List Key × PyData)} {kvs : List (List Key × V)}, Rt M H kvs m → valT m k = some d → ∃ v, valV kvs k = some v ∧ Rp M H v d
  | _, _, .nil, e => by cases e
  | (k1, d1) :: m, (_, v1) :: kvs, .cons a b, e => by
    by_cases q : k1 = k
    · have : d1 = d := by simpa [valT, q] using e
      subst this
      exact ⟨v1, valV_pos q, a⟩
    · have e1 : valT ((k1, d1) :: m) k = valT m k := by simp [valT, List.find?_cons, q]
      rw [e1] at e
      rw [valV_neg q]
      exact Rt.val k b e
theorem Rt.put (k : List Key) {v : V} {d : PyData} {m : List (List Key × PyData)} {kvs : List (List Key × V)} (h : Rt M H kvs m) (r : Rp M H v d) : Rt M H (putK kvs k v) (putT m k d) := by
  have any : (kvs.any fun kv => decide (kv.1 = k)) = (m.any fun kv => decide (kv.1 = k)) := by
    induction h with
    | nil => rfl
    | cons _ _ ih => simp [ih]
  unfold putK putT
  rw [any]
  split
  · rename_i hsp
    clear any hsp
    induction h with
    | nil => exact .nil
    | @cons k1 v1 d1 kvs1 m1 a b ih =>
      rw [List.map_cons, List.map_cons]
      by_cases e : k1 = k
      · rw [if_pos e, if_pos e]
        exact .cons r ih
      · rw [if_neg e, if_neg e]
        exact .cons a ih
  · rename_i hsp
    clear any hsp
    induction h with
    | nil => exact .cons r .nil
    | cons a _ ih => exact .cons a ih
theorem rpa_keys : ∀ (k : List Key), RpA M H (k.map kV) (k.map keyD)
  | [] => .nil
  | a :: r => .cons (rp_key a) (rpa_keys r)
theorem keys_inv : ∀ {k : List Key} {xs : List V}, RpA M H xs (k.map keyD) → xs = k.map kV
  | [], _, h => by cases h; rfl
  | a :: r, _, h => by
    have h' : RpA M H _ (keyD a :: r.map keyD) := h
    cases h' with
    | cons z y => rw [Rp.key z, keys_inv y]; rfl
theorem row_key {v : V} {k : List Key} (h : Rp M H v (rowK k)) : ∃ b, v = .ref b ∧ H b = some (.tup (k.map kV)) := by
  cases h with
  | tup n e r => exact ⟨_, rfl, by rw [e, keys_inv r]⟩
theorem At.getT (h : At L M ms H) {k : Nat} {p : Addr} {m : List (List Key × PyData)} (hk : L[k]? = some p) (e : ms[k]? = some (.t m)) : ∃ kvs, H p = some (.dT kvs) ∧ Rt M H kvs m := h.ok k p _ hk e
/-- one thing changed -/
theorem At.putO (h : At L M ms H) {k : Nat} {p : Addr} {o o0 : HO} {x : MD} (hk : L[k]? = some p) (e0 : H p = some o0) (kd : kindO o = kindO o0) (no : NTup o) (r : To M M H (upd H p o) → MOk L M (upd H p o) k p x) : At L M (ms.set k x) (upd H p o) := by
  have hp : p ∈ L := List.mem_of_getElem? hk
  have t : To M M H (upd H p o) := h.wk (Wk.mut hp e0 kd)
  have one : ∀ (j : Nat) (q : Addr), L[j]? = some q → j ≠ k → q ≠ p := fun j q ej hj z => by
    obtain ⟨_, e1⟩ := List.getElem?_eq_some_iff.mp ej
    obtain ⟨_, e2⟩ := List.getElem?_eq_some_iff.mp hk
    exact hj ((List.getElem_inj h.nd).mp (e1.trans (z.trans e2.symm)))
  constructor
  · exact h.nd
  · exact h.sub
  · intro q hq
    by_cases e : q = p
    · exact ⟨o, by rw [e]; exact upd_same, no⟩
    · obtain ⟨o', e1, e2⟩ := h.al q hq
      exact ⟨o', by rw [upd_ne e]; exact e1, e2⟩
  · rw [List.length_set]
    exact h.ln
  · intro j q y e1 e2
    by_cases hj : j = k
    · subst hj
      have hjl : j < ms.length := by rw [← h.ln]; exact (List.getElem?_eq_some_iff.mp e1).1
      rw [List.getElem?_set_self hjl] at e2
      rw [hk] at e1
      cases e1
      cases e2
      exact r t
    · rw [List.getElem?_set_ne (fun z => hj z.symm)] at e2
      exact (h.ok j q y e1 e2).to t (upd_ne (one j q e1 hj))
theorem At.growO {p : Addr} {o : HO} {x : MD} (h : At L M ms H) (hp : H p = none) (no : NTup o) (r : To M (M ++ [p]) H (upd H p o) → MOk (L ++ [p]) (M ++ [p]) (upd H p o) L.length p x) : At (L ++ [p]) (M ++ [p]) (ms ++ [x]) (upd H p o) := by
  have a := h.hide hp no
  have nl := h.freshL hp
  have t : To M (M ++ [p]) H (upd H p o) := to_new h hp (Wk.new hp)
  constructor
  · exact List.nodup_append.mpr ⟨h.nd, by simp, fun b hb c hc z => nl (by rw [List.mem_singleton.mp hc] at z; exact z ▸ hb)⟩
  · intro q hq
    rcases List.mem_append.mp hq with z | z
    · exact a.sub q z
    · exact List.mem_append_right _ z
  · exact a.al
  · rw [List.length_append, List.length_append, h.ln]
    rfl
  · intro j q y e1 e2
    rcases Nat.lt_or_ge j L.length with hj | hj
    · rw [List.getElem?_append_left hj] at e1
      rw [List.getElem?_append_left (by rw [← h.ln]; exact hj)] at e2
      exact (a.ok j q y e1 e2).toL (fun _ _ n e => ⟨n, e⟩) (fun k' q' _ z => by rw [List.getElem?_append_left (List.getElem?_eq_some_iff.mp z).1]; exact z) rfl
    · have hjl := (List.getElem?_eq_some_iff.mp e1).1
      have ej : j = L.length := by
        rw [List.length_append] at hjl
        have : j < L.length + 1 := hjl
        omega
      subst ej
      have ep : p = q := by simpa using e1
      rw [h.ln] at e2
      have ex : x = y := by simpa using e2
      subst ep ex
      exact r t
theorem At.lastT {p : Addr} {m : List (List Key × PyData)} (h : At (L ++ [p]) (M ++ [p]) (ms ++ [.t m]) H) : ∃ kvs, H p = some (.dT kvs) := by
  have hl : L.length = ms.length := by have := h.ln; simp at this; exact this
  obtain ⟨kvs, e, _⟩ := h.ok L.length p (.t m) (by simp) (by rw [hl]; simp)
  exact ⟨kvs, e⟩
variable {te ta tb td ty : TE} {tA : TA} {ds : List SD} {R : RS} {t u : TS} {P : Po}
theorem egh_setT {to ti : TE} {d : PyData} {N : List MD → Prop} (h : E K to ds ms fun s ms1 => ∃ k, s = .q k ∧ E K ti ds ms1 fun y ms2 => ∃ (key : List Key) (m : List (List Key × PyData)), dd y = .d (rowK key) ∧ ms2[k]? = some (.t m) ∧ m.length < 10000 ∧ N (ms2.set k (.t (putT m key d)))) :
    EGh K (gSub to ti rSetD) (.d d) ds ms N := fun L M σ H v hS hA ho C c =>
  h L M σ H hS hA _ fun s x H1 ms1 w1 o1 ⟨k, ek, h1⟩ => h1 L M σ H1 (hS.mono hA w1) o1.at _ fun y z H2 ms2 w2 o2 ⟨key, m, ey, em, hl, hn⟩ => by
    subst ek
    obtain ⟨_, p, rfl, hp, _⟩ := o1
    have a2 := o2.at
    have oz := o2.sl
    rw [ey] at oz
    obtain ⟨b, rfl, eb⟩ := row_key oz
    obtain ⟨kvs, e1, r1⟩ := a2.getT hp em
    have rv : Rp M H2 v d := Rp.to (hA.wk (w1.trans w2)) _ _ ho
    refine ⟨p, _, rfl, .inr ⟨kvs, key, b, e1, rfl, eb, by rw [r1.length]; exact Nat.lt_trans hl (by decide), rfl⟩, ?_⟩
    exact c _ _ ((w1.trans w2).trans (Wk.mut (List.mem_of_getElem? hp) e1)) (a2.putO (x := .t (putT m key d)) hp e1 rfl trivial fun t => ⟨_, upd_same, (r1.put key rv).toP t⟩) hn
/-! a new one, until the block's end -/
def frzST (n : Nat) : SD → SD
  | .q k => if k = n then .u else .q k
  | s => s
def Po.frzT (P : Po) (n : Nat) : Po where
  nx := fun ds' ms' => ∃ ms1 m, ms' = ms1 ++ [.t m] ∧ ms1.length = n ∧ P.nx (ds'.map (frzST n)) ms1
  rt := fun s ms' => ∃ ms1 m, ms' = ms1 ++ [.t m] ∧ ms1.length = n ∧ (∃ x, s = .d x ∨ ∃ fs, s = .f fs) ∧ P.rt s ms1
  bk := fun ds' ms' => ∃ ms1 m, ms' = ms1 ++ [.t m] ∧ ms1.length = n ∧ P.bk (ds'.map (frzST n)) ms1
  ct := fun ds' ms' => ∃ ms1 m, ms' = ms1 ++ [.t m] ∧ ms1.length = n ∧ P.ct (ds'.map (frzST n)) ms1
theorem Sl.frzT {σ : L2.St} {p : Addr} {m : List (List Key × PyData)} {ms1 : List MD} (a : At (L ++ [p]) (M ++ [p]) (ms1 ++ [.t m]) H) (h : Sl K (L ++ [p]) (M ++ [p]) σ H ds) : Sl K L M σ H (ds.map (frzST ms1.length)) := fun i s e => by
  have hl : L.length = ms1.length := by have := a.ln; simp at this; exact this
  obtain ⟨kvs, ep⟩ := a.lastT
  have low : ∀ {k : Nat} {q : Addr}, (L ++ [p])[k]? = some q → q ≠ p → L[k]? = some q := fun {k q} e1 n => by
    have h1 := (List.getElem?_eq_some_iff.mp e1).1
    rcases Nat.lt_or_ge k L.length with z | z
    · rwa [List.getElem?_append_left z] at e1
    · rw [List.getElem?_append_right z] at e1
      have := List.mem_of_getElem? e1
      exact absurd (List.mem_singleton.mp this) n
  rw [List.getElem?_map] at e
  cases q : ds[i]? with
  | none => rw [q] at e; cases e
  | some s0 =>
    rw [q] at e
    have e' : frzST ms1.length s0 = s := Option.some.inj e
    subst e'
    have lt : i < σ.length := h.lt (List.getElem?_eq_some_iff.mp q).1
    cases s0 with
    | u => exact lt
    | f es => exact h i _ q |>.elim fun _ z => z.2.elim
    | g es => exact h i _ q |>.elim fun _ z => z.2.elim
    | d x =>
      obtain ⟨v, e1, e2⟩ := h i _ q
      exact ⟨v, e1, Rp.to to_less _ _ e2⟩
    | v x =>
      obtain ⟨v, e1, e2⟩ := h i _ q
      exact ⟨v, e1, e2⟩
    | w φ =>
      obtain ⟨v, e1, e2, st⟩ := h i _ q
      exact ⟨v, e1, st _ _ _ _ _ to_less e2, st⟩
    | h φ =>
      obtain ⟨v, e1, b, e2, n, e3⟩ := h i _ q
      exact ⟨v, e1, b, e2, fun z => n (List.mem_append_left _ z), e3⟩
    | s ns =>
      obtain ⟨v, e1, b, e2, e3⟩ := h i _ q
      refine ⟨v, e1, b, e2, ?_⟩
      rcases e3 with ⟨n, y⟩ | y
      · exact .inl ⟨fun z => n (List.mem_append_left _ z), y⟩
      · exact .inr y
    | m k =>
      obtain ⟨v, e1, b, e2, e3, xs, e4⟩ := h i _ q
      refine ⟨v, e1, b, e2, low e3 fun z => ?_, xs, e4⟩
      rw [z, ep] at e4
      cases e4
    | o k =>
      obtain ⟨v, e1, b, e2, e3, e4⟩ := h i _ q
      refine ⟨v, e1, b, e2, low e3 fun z => ?_, e4⟩
      rw [z] at e4
      exact e4.notT ep
    | q k =>
      obtain ⟨v, e1, b, e2, e3, e4⟩ := h i _ q
      by_cases hk : k = ms1.length
      · have : frzST ms1.length (.q k) = .u := if_pos hk
        rw [this]
        exact lt
      · have : frzST ms1.length (.q k) = .q k := if_neg hk
        rw [this]
        refine ⟨v, e1, b, e2, ?_, e4⟩
        have h1 := (List.getElem?_eq_some_iff.mp e3).1
        rw [List.length_append] at h1
        have h2 : k < L.length + 1 := h1
        rwa [List.getElem?_append_left (by omega)] at e3
end
end Hc

namespace Hc
open PySem PySem.Spec PyProof.Rows L2
section
variable {prog : Program} {w : World} {A : Around} {E : Value → Shared → Prop} {s : Shared}
/-! ### sorted(d) of a dict with rows as keys -/
theorem collect_src {T : String} {r d : Addr} {n : Nat} {P : Nat → Value → Prop} {OK : Heap → Prop} {Q : List Value → Shared → Prop} (S : PySem.W.KdlSrc prog w T r d n P OK) (hh : A.handled = none) (ok : OK s.heap) (hn : n ≤ sizeLine)
    (h : ∀ (h' : Heap) (tk : Nat) (acc : Array Value), (∀ b o, s.heap.get? b = some o → h'.get? b = some o) → s.heap.objs.size ≤ h'.objs.size → ItemsOf P acc n → Q acc.toList { s with heap := h', toks := tk }) : wpAny (model prog w) A (collect (.ref r)) Q E s := by
  have new : (s.heap.push (seqObj "list" #[] 0)).get? s.heap.objs.size = some (seqObj "list" #[] 0) := Heap.get?_push_size _ rfl
  have old : ∀ b u, s.heap.get? b = some u → (s.heap.push (seqObj "list" #[] 0)).get? b = some u := fun b u z => Heap.get?_push_of_some _ z
  obtain ⟨lr, ld⟩ := S.there _ ok
  unfold collect
  refine wpAny_bind (wpAny_runValue (codeAny_builtin PyProof.Rows.entry_proto_collect' ?_))
  show wpAny _ _ (newList [] >>= fun l => again (.builtin "list.__iadd__" ⟨[l, .ref r], []⟩)) _ _ s
  refine wpAny_bind (wpAny_newList (wpAny_pure ⟨Code.quiet_builtin _ (by decide +kernel), codeAny_builtin PyProof.Rows.entry_list_iadd' ?_⟩))
  have run := PySem.W.kdl_extend (A := A) (s := { s with heap := s.heap.push (seqObj "list" #[] 0) }) (R := fun (y : Result) (s2 : Shared) => y = .ok (.ret (.ref s.heap.objs.size)) ∧ ∃ (h2 : Heap) (tk : Nat) (acc : Array Value) (c : Nat), s2 = { s with heap := h2, toks := tk } ∧
      (∀ b o, b ≠ s.heap.objs.size → (s.heap.push (seqObj "list" #[] 0)).get? b = some o → h2.get? b = some o) ∧ h2.get? s.heap.objs.size = some { cls := .type "list", dict := none, data := .seq acc c, slots := #[] } ∧ ItemsOf P acc n)
    S hh (S.keep _ _ ok fun b _ o z => old b o z) s.heap.objs.size (Nat.ne_of_gt lr) (Nat.ne_of_gt ld) (.ref s.heap.objs.size) 0 new (fun h2 tk acc c k1 k2 k3 => ⟨rfl, h2, tk, acc, c, rfl, k1, k2, k3⟩) hn
  have last : ∀ {s2 : Shared} {y : Result}, (y = .ok (.ret (.ref s.heap.objs.size)) ∧ ∃ (h2 : Heap) (tk : Nat) (acc : Array Value) (c : Nat), s2 = { s with heap := h2, toks := tk } ∧
      (∀ b o, b ≠ s.heap.objs.size → (s.heap.push (seqObj "list" #[] 0)).get? b = some o → h2.get? b = some o) ∧ h2.get? s.heap.objs.size = some { cls := .type "list", dict := none, data := .seq acc c, slots := #[] } ∧ ItemsOf P acc n) →
      ∃ (h2 : Heap) (tk : Nat) (acc : Array Value) (c : Nat), y = .ok (.ret (.ref s.heap.objs.size)) ∧ s2 = { s with heap := h2, toks := tk } ∧ h2.get? s.heap.objs.size = some { cls := .type "list", dict := none, data := .seq acc c, slots := #[] } ∧ Q acc.toList s2 := by
    rintro s2 y ⟨ey, h2, tk, acc, c, es, k1, k2, k3⟩
    refine ⟨h2, tk, acc, c, ey, es, k2, ?_⟩
    subst es
    exact h h2 tk acc (fun b o z => k1 b o (Nat.ne_of_lt (Heap.lt_size z)) (old b o z)) (Nat.le_of_lt (Heap.lt_size k2)) k3
  rw [Around.under_plainId (by decide +kernel) _]
  refine wpAny_mono run ?_ fun e2 s2 z => (by cases z.1)
  rintro (f | c2) s2 z
  · obtain ⟨h2, tk, acc, c, ey, es, k2, k3⟩ := last z
    cases ey
    subst es
    exact wpAny_bind (wpAny_load k2 (wpAny_pure k3))
  · refine ⟨z.1, codeAny_mono z.2 fun y s3 z3 => ?_⟩
    obtain ⟨h2, tk, acc, c, ey, es, k2, k3⟩ := last z3
    subst ey es
    exact wpAny_bind (wpAny_load k2 (wpAny_pure k3))
theorem sorted_any {β : Type} {x : Value} {vs : List Value} {bs : List β} {R : Value → β → Prop} {enc : β → PyData} {Q : Value → Shared → Prop}
    (hcol : ∀ (E' : Value → Shared → Prop) (Q' : List Value → Shared → Prop), (∀ (h' : Heap) (tk : Nat), (∀ b o, s.heap.get? b = some o → h'.get? b = some o) → s.heap.objs.size ≤ h'.objs.size → Q' vs { s with heap := h', toks := tk }) → wpAny (model prog w) A.in1 (collect x) Q' E' s)
    (e : PySem.W.EachIs R vs bs) (er : PySem.W.EachIs (fun v b => ∃ as, Reads s.heap v (enc b) as) vs bs) (al : PySem.W.AllAlike (bs.map enc)) (so : PySem.W.Sortable (bs.map enc)) (hz : bs.length ≤ sizeLine)
    (hu : ∀ b, b ∈ bs → A.units + 2 + (enc b).depth < cLine)
    (h : ∀ (out : List Value) (h' : Heap) (tk p ep : Nat), PySem.W.EachIs R out (bs.mergeSort (PySem.W.dataLe false enc)) → s.heap.objs.size ≤ p → (∀ b o, s.heap.get? b = some o → h'.get? b = some o) → h'.get? p = some (seqObj "list" out.toArray ep) → Q (.ref p) { s with heap := h', toks := tk }) :
    wpAny (model prog w) A (call (.builtin "sorted") [x]) Q E s := by
  refine Calls.call_function_entry kind_sorted plain_sorted entry_sorted (args_sorted1 _) (show wpAny _ _ (Builtin.«sorted» _) _ _ _ from ?_)
  rw [Builtin.«sorted»]
  refine wpAny_bind (m := checkCount "sorted" 1 1 _) (wpAny_pure (wpAny_bind (hcol _ _ fun h1 tk k1 z1 => wpAny_bind (wpAny_newList ?_ (by rw [e.length]; exact hz)))))
  have at1 : (h1.push (seqObj "list" vs.toArray 0)).get? h1.objs.size = some (seqObj "list" vs.toArray 0) := Heap.get?_push_size _ rfl
  have er1 : PySem.W.EachIs (fun v b => ∃ as, Reads (h1.push (seqObj "list" vs.toArray 0)) v (enc b) as ∧ h1.objs.size ∉ as) vs bs := er.mono fun v b ⟨as, r⟩ => ⟨as, PyProof.Rows.Reads.keeps (fun b o z => Heap.get?_push_of_some _ (k1 b o z)) r, fun m => by
    obtain ⟨o, eo⟩ := PyProof.On.reads_mem_get r _ m
    exact absurd (Heap.lt_size (k1 _ _ eo)) (Nat.lt_irrefl _)⟩
  refine wpAny_bind (wpAny_holding (PySem.W.list_sort_data at1 e er1 al so hz (fun b hb => ?_) fun out _ eo => wpAny_pure ⟨_, rfl, ?_⟩))
  · have := hu b hb
    show A.in1.units + 1 + _ < _
    have : A.in1.units = A.units + 1 := rfl
    omega
  obtain ⟨ep, e2⟩ := PyProof.Rows.sortedHeap_at (vs := vs) (out := out.toArray) at1
  refine h out _ tk _ ep eo z1 (fun b u z => ?_) e2
  have lb := Heap.lt_size (k1 b u z)
  rw [PyProof.Rows.sortedHeap_old (Nat.ne_of_lt lb) (by rw [size_push']; exact Nat.lt_succ_of_lt lb)]
  exact Heap.get?_push_of_some _ (k1 b u z)
end
/-- the keys' rows, as they lie in the heap -/
def KeyAt (H : Hp) (bs : List (Addr × List Key)) (kvs : List (List Key × V)) : Prop := bs.map (·.2) = kvs.map (·.1) ∧ ∀ b ∈ bs, H b.1 = some (.tup (b.2.map kV))
def rSortK : List V → Hp → VK → Prop := fun vs H Q => ∃ (a : Addr) (kvs : List (List Key × V)), vs = [.ref a] ∧ H a = some (.dT kvs) ∧ PySem.W.AllAlike (kvs.map fun p => rowK p.1) ∧ PySem.W.Sortable (kvs.map fun p => rowK p.1) ∧
  ∀ (bs : List (Addr × List Key)) (p : Addr), KeyAt H bs kvs → H p = none → Q (.ref p) (upd H p (.lst ((bs.mergeSort (PySem.W.dataLe false fun b => rowK b.2)).map fun b => V.ref b.1)))
theorem key_depth (k : Key) : (keyD k).depth = 0 := by cases k <;> rfl
theorem row_depth (k : List Key) : (rowK k).depth ≤ 1 := by
  have h : ∀ k : List Key, PyData.depthAll (k.map keyD) = 0 := fun k => by
    induction k with
    | nil => rfl
    | cons a r ih => simp [PyData.depthAll, key_depth, ih]
  show PyData.depthAll (k.map keyD) + 1 ≤ 1
  rw [h]
  exact Nat.le_refl _
theorem dp_keys {K : PySem.W.Frag} {H : Hp} : ∀ k : List Key, DpAll K H (k.map kV) (k.map keyD)
  | [] => .nil
  | a :: r => .cons (by cases a; exact .int _; exact .str _) (dp_keys r)
theorem each_ref : ∀ {bs : List (Addr × List Key)}, PySem.W.EachIs (fun (u : Value) (b : Addr × List Key) => u = .ref b.1) (bs.map fun b => Value.ref b.1) bs
  | [] => .nil
  | _ :: _ => .cons rfl each_ref
theorem vals_ref : ∀ {bs : List (Addr × List Key)} {us : List Value}, PySem.W.EachIs (fun (u : Value) (b : Addr × List Key) => u = .ref b.1) us bs → Vals (bs.map fun b => V.ref b.1) us
  | [], _, h => by cases h; exact .nil
  | b :: r, _, h => by
    cases h with
    | cons z y => subst z; exact .cons rfl (vals_ref y)
theorem key_at {H : Hp} {kvs : List (List Key × V)} {ks : List (List Key × Addr × Value)} (pr : KT H kvs ks) : KeyAt H (ks.map fun x => (x.2.1, x.1)) kvs := by
  induction pr with
  | nil => exact ⟨rfl, fun _ h => by cases h⟩
  | @cons p x ps xs h0 _ ih =>
    refine ⟨?_, fun b hb => ?_⟩
    · rw [List.map_cons, List.map_cons, List.map_cons, ih.1, h0.1]
    · rcases List.mem_cons.mp hb with rfl | hb
      · show H x.2.1 = some (.tup (x.1.map kV))
        rw [← h0.1]
        exact h0.2.1
      · exact ih.2 b hb
theorem cr_sortK {X : Cx} (hc : X.calm = true) (hu : X.A.units + 64 < cLine) : CallR X (.builtin "sorted") rSortK := by
  rintro pins s σ H vs us Q I r ⟨a, kvs, rfl, hd, al, so, q⟩
  obtain ⟨z, hs, ks, pr, o, es, ep, ho, hx, hdt, he, hn⟩ := (show ObjOk X.prog X.w H s.heap a (.dT kvs) from I.hok a _ hd)
  rw [Vals.ref1 r]
  have ka := key_at pr
  have lb : (ks.map fun x => ((x.2.1, x.1) : Addr × List Key)).length ≤ sizeLine := by
    have := congrArg List.length ka.1
    simp only [List.length_map] at this ⊢
    rw [this]
    exact z
  have le : es.size ≤ sizeLine := by
    rw [size_of_entries he]
    rw [List.length_map] at lb
    exact lb
  have ev : (es.toList.map fun en => en.key) = (ks.map fun x => ((x.2.1, x.1) : Addr × List Key)).map fun b => Value.ref b.1 := by
    rw [he, List.map_map, List.map_map]
    rfl
  generalize ks.map (fun x => ((x.2.1, x.1) : Addr × List Key)) = bs at ka lb ev
  have km : bs.map (fun b => rowK b.2) = kvs.map fun p => rowK p.1 := by
    have := congrArg (List.map rowK) ka.1
    rw [List.map_map, List.map_map] at this
    exact this
  refine sorted_any (bs := bs) (vs := bs.map fun b => Value.ref b.1) (R := fun u b => u = .ref b.1) (enc := fun b => rowK b.2) (fun E' Q' k => ?_) each_ref ?_ (by rw [km]; exact al) (by rw [km]; exact so) lb (fun b hb => ?_) fun out h' tk p ep' eo hp kp e2 => ?_
  · refine collect_src (kdl_raw hs hx hdt) (I.ok.hd hc) ho le fun h' tk acc k1 k2 k3 => ?_
    have ea : acc = es.map fun en => en.key := by
      apply Array.ext
      · rw [Array.size_map]
        exact k3.1
      · intro i hi _
        obtain ⟨en, e1, e2⟩ := k3.2 i acc[i] (Array.getElem?_eq_getElem hi)
        rw [e2, Array.getElem_map]
        have h3 : i < es.size := by rw [← k3.1]; exact hi
        rw [Array.getElem?_eq_getElem h3] at e1
        rw [Option.some.inj e1]
    have : acc.toList = bs.map fun b => Value.ref b.1 := by
      rw [ea, Array.toList_map, ev]
    rw [this]
    exact k h' tk k1 k2
  · refine (PySem.W.each_mem each_ref).mono fun u b ⟨e1, m⟩ => ?_
    exact Dp.reads I (rowK b.2) (.ref b.1) u (.tup (SqT.of (ka.2 b m)) (dp_keys _)) e1
  · have := row_depth b.2
    omega
  · have lm : ((bs.mergeSort (PySem.W.dataLe false fun b => rowK b.2)).map fun b => V.ref b.1).length ≤ sizeLine := by
      rw [List.length_map, List.length_mergeSort]
      exact lb
    exact ⟨.ref p, _, I.laid (t' := tk) kp hp (show ObjOk X.prog X.w _ _ _ (.lst _) from ⟨lm, out, ep', vals_ref eo, e2⟩), rfl, q bs p ka (I.hok.fresh hp)⟩
section
variable {K : PySem.W.Frag} {ms : List MD} {R : RS}
end
end Hc

namespace Hc
open PySem PySem.Spec PyProof.Rows L2
/-! ### a dict of lists that grow: d.setdefault(k, []).append(x) -/
def addL (k : Key) (d : PyData) : List (Key × List PyData) → List (Key × List PyData)
  | [] => [(k, [d])]
  | e :: r => if e.1 = k then (e.1, e.2 ++ [d]) :: r else e :: addL k d r
/-- the lists are new against H0, and no two are one -/
inductive Lv (H0 : Hp) (M : List Addr) (p : Addr) (H : Hp) : List (Key × V) → List (Key × List PyData) → Prop
  | nil : Lv H0 M p H [] []
  | cons {k : Key} {q : Addr} {xs : List V} {es : List PyData} {kvs : List (Key × V)} {m : List (Key × List PyData)} : H0 q = none → q ≠ p → H q = some (.lst xs) → RpA M H0 xs es → (∀ x ∈ kvs, x.2 ≠ .ref q) → Lv H0 M p H kvs m → Lv H0 M p H ((k, .ref q) :: kvs) ((k, es) :: m)
section
variable {H0 H H' : Hp} {M : List Addr} {p : Addr}
theorem Lv.else {q : Addr} (w : ∀ a, a ≠ q → H' a = H a) : ∀ {kvs : List (Key × V)} {m : List (Key × List PyData)}, Lv H0 M p H kvs m → (∀ x ∈ kvs, x.2 ≠ .ref q) → Lv H0 M p H' kvs m
  | _, _, .nil, _ => .nil
  | _, _, .cons (q := q1) a b c d e f, n => by
    have hq : q1 ≠ q := fun z => n _ (List.mem_cons_self ..) (by rw [z])
    exact .cons a b (by rw [w q1 hq]; exact c) d e (Lv.else w f fun x hx => n x (List.mem_cons_of_mem _ hx))
theorem Lv.length : ∀ {kvs : List (Key × V)} {m : List (Key × List PyData)}, Lv H0 M p H kvs m → kvs.length = m.length
  | _, _, .nil => rfl
  | _, _, .cons _ _ _ _ _ f => congrArg (· + 1) (Lv.length f)
theorem Lv.apart {q : Addr} (hq : H q = none) : ∀ {kvs : List (Key × V)} {m : List (Key × List PyData)}, Lv H0 M p H kvs m → ∀ x ∈ kvs, x.2 ≠ .ref q
  | _, _, .nil, x, hx => by cases hx
  | _, _, .cons a b c d e f, x, hx => by
    rcases List.mem_cons.mp hx with rfl | hx
    · intro z
      injection z with z
      rw [z, hq] at c
      cases c
    · exact Lv.apart hq f x hx
/-- one more at a key that is there -/
theorem Lv.more {k : Key} {y : V} {d : PyData} (ry : Rp M H0 y d) {v : V} : ∀ {kvs : List (Key × V)} {m : List (Key × List PyData)}, Lv H0 M p H kvs m → valV kvs k = some v →
    ∃ q xs, v = .ref q ∧ q ≠ p ∧ H q = some (.lst xs) ∧ H0 q = none ∧ (∃ x ∈ kvs, x.2 = .ref q) ∧ (∃ es, (k, es) ∈ m ∧ xs.length = es.length) ∧ Lv H0 M p (upd H q (.lst (xs ++ [y]))) kvs (addL k d m)
  | _, _, .nil, e => by cases e
  | _, _, .cons (k := k1) (q := q1) (xs := xs1) (es := es1) (kvs := kvs1) (m := m1) a b c d1 e f, hv => by
    by_cases hk : k1 = k
    · rw [valV_pos hk] at hv
      cases hv
      refine ⟨q1, xs1, rfl, b, c, a, ⟨_, List.mem_cons_self .., rfl⟩, ⟨es1, by rw [hk]; exact List.mem_cons_self .., d1.length⟩, ?_⟩
      have ea : addL k d ((k1, es1) :: m1) = (k1, es1 ++ [d]) :: m1 := if_pos hk
      rw [ea]
      exact .cons a b upd_same (d1.append (.cons ry .nil)) e (f.else (q := q1) (fun x hx => upd_ne hx) e)
    · rw [valV_neg hk] at hv
      obtain ⟨q, xs, h1, h2, h3, h4, ⟨x, hx, ex⟩, ⟨es2, hm, hl⟩, h6⟩ := Lv.more ry f hv
      have ea : addL k d ((k1, es1) :: m1) = (k1, es1) :: addL k d m1 := if_neg hk
      have ne : q1 ≠ q := fun z => e x hx (by rw [ex, z])
      refine ⟨q, xs, h1, h2, h3, h4, ⟨x, List.mem_cons_of_mem _ hx, ex⟩, ⟨es2, List.mem_cons_of_mem _ hm, hl⟩, ?_⟩
      rw [ea]
      exact .cons a b (by rw [upd_ne ne]; exact c) d1 e h6
/-- a key that is new -/
theorem Lv.newk {k : Key} {y : V} {d : PyData} {q : Addr} (ry : Rp M H0 y d) (hq : H0 q = none) (qp : q ≠ p) : ∀ {kvs : List (Key × V)} {m : List (Key × List PyData)}, Lv H0 M p H kvs m → valV kvs k = none → (∀ x ∈ kvs, x.2 ≠ .ref q) →
    Lv H0 M p (upd H q (.lst [y])) (kvs ++ [(k, .ref q)]) (addL k d m)
  | _, _, .nil, _, _ => .cons hq qp upd_same (.cons ry .nil) (fun _ h => by cases h) .nil
  | _, _, .cons (k := k1) (q := q1) (es := es1) (kvs := kvs1) (m := m1) a b c d1 e f, hv, n => by
    have hk : ¬ k1 = k := fun z => by rw [valV_pos z] at hv; cases hv
    rw [valV_neg hk] at hv
    have ea : addL k d ((k1, es1) :: m1) = (k1, es1) :: addL k d m1 := if_neg hk
    have ne : q1 ≠ q := fun z => n _ (List.mem_cons_self ..) (by rw [z])
    rw [ea]
    refine .cons a b (by rw [upd_ne ne]; exact c) d1 (fun x hx => ?_) (Lv.newk ry hq qp f hv fun x hx => n x (List.mem_cons_of_mem _ hx))
    rcases List.mem_append.mp hx with z | z
    · exact e x z
    · rw [List.mem_singleton.mp z]
      intro z2
      injection z2 with z2
      exact ne z2.symm
/-- how the dict stands -/
structure Ld (H0 : Hp) (M : List Addr) (p : Addr) (m : List (Key × List PyData)) (H : Hp) : Prop where
  keep : ∀ a o, H0 a = some o → H a = some o
  new : H0 p = none
  dict : ∃ kvs, H p = some (.dK kvs) ∧ Lv H0 M p H kvs m
theorem Ld.back {m : List (Key × List PyData)} (h : Ld H0 M p m H) {q : Addr} (e : H q = none) : H0 q = none := by
  cases z : H0 q with
  | none => rfl
  | some o => rw [h.keep q o z] at e; cases e
theorem Lv.notp : ∀ {kvs : List (Key × V)} {m : List (Key × List PyData)}, Lv H0 M p H kvs m → ∀ x ∈ kvs, x.2 ≠ .ref p
  | _, _, .nil, x, hx => by cases hx
  | _, _, .cons a b c d e f, x, hx => by
    rcases List.mem_cons.mp hx with rfl | hx
    · intro z
      injection z with z
      exact b z
    · exact Lv.notp f x hx
theorem put_end {kvs : List (Key × V)} {k : Key} {z : V} (h : valV kvs k = none) : putK kvs k z = kvs ++ [(k, z)] := by
  unfold putK
  rw [valV_any, h]
  rfl
theorem Ld.step {K : PySem.W.Frag} {m : List (Key × List PyData)} {i j s : Nat} {σ : L2.St} {k : Key} {y : V} {d : PyData} {Q : VK} (h : Ld H0 M p m H) (hi : σ[i]? = some (some (.ref p))) (hj : σ[j]? = some (some (kV k))) (hs : σ[s]? = some (some y)) (ry : Rp M H0 y d)
    (hl : m.length < 10000) (he : ∀ e ∈ m, e.2.length < 10000) (q : ∀ H', Ld H0 M p (addL k d m) H' → Q .non H') : tBM K "list" rAppend (tDSetd (tVar i) (tVar j) (tLst tNil)) (tCons (tVar s) tNil) σ H Q := by
  obtain ⟨kvs, e1, lv⟩ := h.dict
  refine ⟨_, hi, p, rfl, .inl ⟨kvs, .inl e1⟩, _, hj, Nat.zero_le _, fun b hb => ?_⟩
  have bp : b ≠ p := fun z => by rw [z, e1] at hb; cases hb
  have b0 := h.back hb
  have ap := lv.apart hb
  refine ⟨kvs, k, by rw [upd_ne (Ne.symm bp)]; exact e1, rfl, by rw [lv.length]; exact Nat.lt_trans hl (by decide), fun v hv => ?_, fun hn => ?_⟩
  · obtain ⟨q1, xs, rfl, qp, e2, hq0, _, ⟨es, hm, hle⟩, lv'⟩ := lv.more ry hv
    have nq : q1 ≠ b := fun z => by rw [z, hb] at e2; cases e2
    have e3 : upd H b (.lst []) q1 = some (.lst xs) := by rw [upd_ne nq]; exact e2
    refine ⟨.inl ⟨rfl, xs, SqL.of e3⟩, _, hs, q1, xs, y, rfl, rfl, e3, by rw [hle]; exact Nat.lt_trans (he _ hm) (by decide), q _ ⟨fun a o ea => ?_, h.new, kvs, ?_, ?_⟩⟩
    · have a1 : a ≠ q1 := fun z => by rw [z, hq0] at ea; cases ea
      have a2 : a ≠ b := fun z => by rw [z, b0] at ea; cases ea
      rw [upd_ne a1, upd_ne a2]
      exact h.keep a o ea
    · rw [upd_ne (Ne.symm qp), upd_ne (Ne.symm bp)]
      exact e1
    · refine lv'.else (q := b) (fun a ha => ?_) ap
      by_cases z : a = q1
      · rw [z, upd_same, upd_same]
      · rw [upd_ne z, upd_ne ha, upd_ne z]
  · rw [put_end hn]
    have e3 : upd (upd H b (.lst [])) p (.dK (kvs ++ [(k, .ref b)])) b = some (.lst []) := by rw [upd_ne bp, upd_same]
    refine ⟨.inl ⟨rfl, [], SqL.of e3⟩, _, hs, b, [], y, rfl, rfl, e3, by decide, q _ ⟨fun a o ea => ?_, h.new, kvs ++ [(k, .ref b)], ?_, ?_⟩⟩
    · have a1 : a ≠ p := fun z => by rw [z, h.new] at ea; cases ea
      have a2 : a ≠ b := fun z => by rw [z, b0] at ea; cases ea
      rw [upd_ne a2, upd_ne a1, upd_ne a2]
      exact h.keep a o ea
    · rw [upd_ne (Ne.symm bp), upd_same]
    · have lv' := lv.newk (k := k) ry b0 bp hn ap
      refine lv'.else (q := p) (fun a ha => ?_) lv'.notp
      by_cases z : a = b
      · rw [z, upd_same, upd_same]
        rfl
      · rw [upd_ne z, upd_ne ha, upd_ne z, upd_ne z]
end
section
variable {K : PySem.W.Frag} {ds : List SD} {ms : List MD} {L M : List Addr} {H H' : Hp} {P : Po} {u : TS}
theorem At.stay (h : At L M ms H) (k : ∀ a o, H a = some o → H' a = some o) : At L M ms H' := by
  refine ⟨h.nd, h.sub, fun q hq => ?_, h.ln, fun j q m e1 e2 => ?_⟩
  · obtain ⟨o, e, n⟩ := h.al q hq
    exact ⟨o, k q o e, n⟩
  · obtain ⟨o, e, _⟩ := h.al q (h.sub q (List.mem_of_getElem? e1))
    exact (h.ok j q m e1 e2).to (h.wk (.of k)) (by rw [e, k q o e])
theorem Lv.data {p : Addr} {M' : List Addr} (fr : ∀ q, H q = none → q ≠ p → q ∉ M') (t : To M M' H H') : ∀ {kvs : List (Key × V)} {m : List (Key × List PyData)}, Lv H M p H' kvs m → RpK M' H' kvs (kD (m.map fun e => (e.1, .list e.2)))
  | _, _, .nil => .nil
  | _, _, .cons a b c d e f => .cons (.lst (fr _ a b) c (RpA.to t _ _ d)) (Lv.data fr t f)
/-- behind it only what is told goes on -/
def Po.only (P : Po) (n : Nat) : Po where
  nx := fun _ _ => False
  rt := fun s ms' => ∃ ms1 x, ms' = ms1 ++ [x] ∧ ms1.length = n ∧ (∃ y, s = .d y ∨ ∃ fs, s = .f fs) ∧ P.rt s ms1
  bk := fun _ _ => False
  ct := fun _ _ => False
end
end Hc

namespace Hc
open PySem PySem.Spec PyProof.Rows L2
/-! ### a comprehension over a dict's keys: the dict is locked from there on -/
section
variable {K : PySem.W.Frag} {tt : TT} {te : TE} {ds : List SD} {ms : List MD} {R : RS}
end
end Hc

namespace Hc
open PySem PySem.Spec PyProof.Rows L2
/-! ### a def that is never called -/
/-! ### list(reversed(xs)), xs a list -/
section
variable {prog : Program} {w : World} {A : Around} {E : Value → Shared → Prop} {s : Shared}
abbrev newL (c : Nat) (a : Array Value) : Obj := { cls := .type "list", data := .seq a c }
/-- what the iterator hands out, put behind one another in S -/
theorem ext_back {S it l : Addr} {vs : Array Value} {c : Nat} {res : Value} {R : Result → Shared → Prop} (calm : A.handled = none) (at_it : s.heap.IsRevIter it l ((vs.size : Int) - 1)) (at_l : s.heap.IsList l vs)
    (ne : l ≠ it) (n1 : S ≠ it) (n2 : S ≠ l) (fits : vs.size ≤ sizeLine) (at_S : s.heap.get? S = some (newL c #[]))
    (go : ∀ (h : Heap) (tk : Nat) (out : Array Value) (c' : Nat), (∀ b o, b ≠ it → b ≠ S → s.heap.get? b = some o → h.get? b = some o) → h.get? S = some (newL c' out) → ItemsOf (fun i v => vs[vs.size - 1 - i]? = some v) out vs.size → R (.ok (.ret res)) { s with heap := h, toks := tk }) :
    wpAny (model prog w) A.in1 (Builtin.List.listExtendWith (.ref S) (.ref it) res) (fun f s' => match f with | .done x => R (.ok x) s' | .again k => k.quiet = true ∧ codeAny (model prog w) A k R s') (fun e s' => R (.error e) s') s := by
  have ty : s.TypeIs (.ref it) "list_reverseiterator" := at_it.typeIs
  have apart : S ∉ [it, l] := fun z => by
    rcases List.mem_cons.mp z with z | z
    · exact n1 z
    · exact n2 (List.mem_singleton.mp z)
  have alike : Builtin.List.listSameRef (.ref S) (.ref it) = false := by simp [Builtin.List.listSameRef, n1]
  unfold Builtin.List.listExtendWith Builtin.List.listLengthHint
  refine wpAny_bind (wpAny_typeOf ty ?_)
  rw [if_neg (by rw [alike]; decide)]
  refine wpAny_bind (wpAny_pyIter_revIter at_it ?_)
  refine wpAny_bind (wpAny_holding (wpAny_bind (wpAny_specialOf ty RT.nolen_lri ?_)))
  refine wpAny_bind (wpAny_specialOf (name := Str.ofString "__length_hint__") ty RT.hint_lri ?_)
  generalize eq : ("list_reverseiterator.__length_hint__" : String) = z
  have sp : splitId z = some ("list_reverseiterator", "__length_hint__") := by subst eq; decide +kernel
  dsimp only
  rw [sp]
  subst eq
  refine wpAny_bind (wpAny_isInstance (b := true) ty (by rw [isSubtype_type]; kernel_rfl) (wpAny_pure ?_))
  rw [if_neg (by decide)]
  have go2 := (Walks.listRev (prog := prog) (w := w) (A := A.in1) calm it l ne vs).toS
  have z0 : ((vs.size : Nat) : Int) - 1 - ((0 : Nat) : Int) = (vs.size : Int) - 1 := by omega
  refine wpAny_pure ⟨plainId_quiet F.plain_extend_loop _, codeAny_extend_loopS go2 fits S apart res vs.size 0 _ _ c rfl (Nat.zero_le _) ⟨Nat.zero_le _, by rw [z0]; exact at_it, at_l⟩ at_S (ItemsOf.nil _) ?_⟩
  intro s' out c' mv at_S' items
  rw [Moved.eq_with mv]
  refine go s'.heap s'.toks out c' (fun b o nb nS e => mv.heap b o ?_ e) at_S' items
  intro z
  rcases List.mem_cons.mp z with z | z
  · exact nS z
  · exact nb (List.mem_singleton.mp z)
theorem lst_back {it l : Addr} {vs : Array Value} {Q : Value → Shared → Prop} (calm : A.handled = none) (at_it : s.heap.IsRevIter it l ((vs.size : Int) - 1)) (at_l : s.heap.IsList l vs) (ne : l ≠ it) (fits : vs.size ≤ sizeLine)
    (go : ∀ (h : Heap) (tk : Nat) (out : Array Value) (c' : Nat), (∀ b o, b ≠ it → s.heap.get? b = some o → h.get? b = some o) → h.get? s.heap.objs.size = some (newL c' out) → ItemsOf (fun i v => vs[vs.size - 1 - i]? = some v) out vs.size → Q (.ref s.heap.objs.size) { s with heap := h, toks := tk }) :
    wpAny (model prog w) A (call (.type "list") [.ref it]) Q E s := by
  obtain ⟨oi, hoi, _⟩ := id at_it
  obtain ⟨ol, hol, _⟩ := id at_l
  have big : ∀ {b : Addr} {o : Obj}, s.heap.get? b = some o → s.heap.objs.size ≠ b := fun e => Nat.ne_of_gt (Heap.lt_size e)
  refine callType_codes (Q₁ := fun x s₁ => x = .ref s.heap.objs.size ∧ s₁ = { s with heap := s.heap.push (newL 0 #[]) }) F.called_list (F.typeCall_list_1 _) F.entry_list_init (code_list_new _ ⟨rfl, rfl⟩) ?_
  rintro x s₁ ⟨rfl, rfl⟩
  have e0 : (s.heap.push (newL 0 #[])).get? s.heap.objs.size = some (newL 0 #[]) := Heap.get?_push_size _ rfl
  refine ⟨⟨_, e0, rfl⟩, F.args_list_init_2 _ _, ?_⟩
  unfold Builtin.«list.__init__»
  refine wpAny_bind (m := Builtin.List.listItems (.ref s.heap.objs.size)) ?_
  unfold Builtin.List.listItems
  refine wpAny_bind (wpAny_seqItems e0 rfl (wpAny_pure ?_))
  refine wpAny_bind (m := updateSeq s.heap.objs.size fun _ => #[]) (wpAny_updateSeq e0 rfl (wpAny_bind (wpAny_letGo ?_)))
  have up : ∀ b o, s.heap.get? b = some o → ((s.heap.push (newL 0 #[])).update s.heap.objs.size (Obj.mapSeq fun _ => #[])).get? b = some o := fun b o e =>
    (Heap.get?_update_other _ _ (big e)).trans (Heap.get?_push_of_some _ e)
  refine ext_back (A := A.in1) (vs := vs) (l := l) calm (at_it.at fun o e => up _ o e) (at_l.at fun o e => up _ o e) ne (big hoi) (big hol) fits (Heap.get?_update_self (Obj.mapSeq fun _ => #[]) e0 rfl) ?_
  intro h tk out c' kp eS items
  exact ⟨rfl, go h tk out c' (fun b o nb e => kp b o nb (big e).symm (up b o e)) eS items⟩
end
/-- list(reversed(e)), e a list -/
def tLstRev (K : PySem.W.Frag) (te : TE) : TE := fun σ H Q => te σ H fun v H1 => ∃ (a : Addr) (xs : List V), v = .ref a ∧ SqL K H1 a xs ∧ ∀ q, H1 q = none → Q (.ref q) (upd H1 q (.lst xs.reverse))
theorem pe_lstRev {X : Cx} {e : Expr} {te : TE} {p p2 pos pos2 : Pos} (hc : X.calm = true) (hg : Gl X "list") (hm : X.mg "list" = none) (hg2 : Gl X "reversed") (hm2 : X.mg "reversed" = none) (he : PE X e te)
    (hs : starEach [e] X.env = (false, eval e X.env) :: starEach [] X.env := by rfl) (hs2 : starEach [.Call (.Name "reversed" p2) [e] [] pos2] X.env = (false, eval (.Call (.Name "reversed" p2) [e] [] pos2) X.env) :: starEach [] X.env := by rfl) :
    PE X (.Call (.Name "list" p) [.Call (.Name "reversed" p2) [e] [] pos2] [] pos) (tLstRev X.K te) := by
  constructor
  intro pins s σ H Q I h
  have inner : ∀ Q' : Value → Shared → Prop, (∀ (a : Addr) (xs : List V) (its : List Value) (H1 : Hp) (s1 : Shared), Inv X pins σ H1 s1 → Vals xs its → s1.heap.IsList a its.toArray → xs.length ≤ sizeLine → (∀ q, H1 q = none → Q (.ref q) (upd H1 q (.lst xs.reverse))) →
      Q' (.ref s1.heap.objs.size) { s1 with heap := s1.heap.push (revObj a ((its.toArray.size : Int) - 1)) }) → wpAny (model X.prog X.w) X.A (eval (.Call (.Name "reversed" p2) [e] [] pos2) X.env) Q' X.xe s := fun Q' k =>
    Call_ (ld_blt I hg2 hm2 boot_reversed (PyProof.Rows.callWith_type1 (args_cons (thn (he.run pins s σ H _ I h) (fun u s1 hu => args_nil (by
      obtain ⟨v, H1, I1, r1, a, xs, rfl, hq, q⟩ := hu
      obtain rfl : u = Value.ref a := r1
      obtain ⟨its, rv, p', hz⟩ := I1.list hq
      exact call_reversed_list p'.isList (k a xs its H1 s1 I1 rv p'.isList hz q)))) hs) hs rfl))
  refine Call_ (ld_blt I hg hm boot_list (PyProof.Rows.callWith_type1 (args_cons (inner _ fun a xs its H1 s1 I1 rv hl hz q => args_nil ?_) hs2) hs2 rfl))
  have sz : its.toArray.size = xs.length := by rw [List.size_toArray]; exact rv.length.symm
  have keep : ∀ b o, s1.heap.get? b = some o → (s1.heap.push (revObj a ((its.toArray.size : Int) - 1))).get? b = some o := fun b o e => Heap.get?_push_of_some _ e
  obtain ⟨ol, hol, _⟩ := id hl
  refine lst_back (vs := its.toArray) (l := a) (I1.ok.hd hc) ⟨_, Heap.get?_push_size _ rfl, rfl, rfl⟩ (hl.push _) (Nat.ne_of_lt (Heap.lt_size hol)) (by rw [sz]; exact hz) ?_
  intro h2 tk out c kp eS items
  have vr : Vals xs.reverse out.toList := RT.vals_rev rv items
  have more : s1.heap.objs.size ≤ (s1.heap.push (revObj a ((its.toArray.size : Int) - 1))).objs.size := by
    have : s1.heap.objs.size < (s1.heap.push (revObj a ((its.toArray.size : Int) - 1))).objs.size := Heap.lt_size (Heap.get?_push_size _ rfl)
    omega
  have all : ∀ b o, s1.heap.get? b = some o → h2.get? b = some o := fun b o e => kp b o (Nat.ne_of_lt (Heap.lt_size e)) (keep b o e)
  refine ⟨.ref _, _, I1.laid (t' := tk) all more (show ObjOk X.prog X.w _ _ _ (.lst xs.reverse) from ⟨by rw [List.length_reverse]; exact hz, out.toList, c, vr, by rw [Array.toArray_toList]; exact eS⟩), rfl, q _ (I1.hok.fresh more)⟩
theorem e_lstRev {K : PySem.W.Frag} {ta : TE} {ds : List SD} {ms : List MD} {R : RS} (h : E K ta ds ms fun s ms1 => ∃ es, Sv ms1 (dd s) (.list es) ∧ R (.f es.reverse) ms1) : E K (tLstRev K ta) ds ms R := fun L M σ H hS hA Q q =>
  h L M σ H hS hA _ fun s v H1 ms1 w1 o1 ⟨es, sv, r⟩ => by
    obtain ⟨a, xs, rfl, sq, rp⟩ := sv.lst o1.at o1.sl
    exact ⟨a, xs, rfl, sq, fun p hp => q (.f es.reverse) _ _ ms1 (w1.trans (Wk.new hp)) (out_new o1.at w1 hp rp.reverse) r⟩
/-! ### len of a dict that may change -/
end Hc

namespace Hc
open PySem PySem.Spec PyProof.Rows L2
section
variable {K : PySem.W.Frag} {te ta : TE} {ds : List SD} {ms : List MD} {R : RS}
/-! ### xs.extend(e), e a new list; xs.remove(e) of ints -/
end
end Hc

namespace Hc
open PySem PySem.Spec PyProof.Rows L2
section
variable {X : Cx} {a b c d : Expr} {ta tb tc td : TE} {pos : Pos}
/-! ### a chain of three comparisons, as a test -/
end
section
variable {K : PySem.W.Frag} {ta tb tc td : TE} {ds : List SD} {ms : List MD} {R : RS}
variable {t : TS} {P : Po}
/-! ### for i in reversed(range(n)) -/
end
/-! ### t * k of a tuple that may be empty -/
section
variable {K : PySem.W.Frag} {ms : List MD} {R : RS}
end
end Hc

namespace Hc
open PySem PySem.Spec PyProof.Rows L2
/-! ### bool(i) of an int -/
section
variable {K : PySem.W.Frag} {ms : List MD} {R : RS}
end
end Hc

namespace Hc
open PySem PySem.Spec PyProof.Rows L2
/-! ### the law itself, called at the top: there the guards are known -/
section
variable {Pg : Program} {w : World} {K : PySem.W.Frag} {mg : Str → Option Value} {base : Heap}
end
/-! ### repr of rows of data, the guards known -/
section
variable {K : PySem.W.Frag} {ds : List SD} {ms : List MD} {R : RS}
end
/-! ### how long such a text is -/
mutual
def noText : PyData → Bool
  | .list xs | .tuple xs => noTexts xs
  | .str _ | .dict _ => false
  | _ => true
def noTexts : List PyData → Bool
  | [] => true
  | x :: r => noText x && noTexts r
end
mutual
def nodes : PyData → Nat
  | .list xs | .tuple xs => 2 + nodesAll xs
  | _ => 1
def nodesAll : List PyData → Nat
  | [] => 0
  | x :: r => nodes x + nodesAll r
end
theorem textFrom_le : ∀ (ts : List Str) (k : Nat) (acc : Str), (textFrom k acc ts).length ≤ acc.length + (ts.map fun t => t.length + 2).sum
  | [], _, acc => Nat.le_add_right _ _
  | t :: r, k, acc => by
    have ih := textFrom_le r (k + 1) (acc ++ (if k > 0 then ", " else "" : String) ++ t)
    have e : (acc ++ (if k > 0 then ", " else "" : String) ++ t).length ≤ acc.length + 2 + t.length := by
      rw [strLen_append, strLen_append]
      have : (((if k > 0 then ", " else "" : String) : Str)).length ≤ 2 := by split <;> decide
      omega
    rw [List.map_cons, List.sum_cons]
    show (textFrom (k + 1) _ r).length ≤ _
    omega
theorem join_le : ∀ ts : List Str, (Str.join ", " ts).length ≤ (ts.map fun t => t.length + 2).sum
  | [] => Nat.zero_le _
  | t :: r => by
    have e := join_length_add (t :: r) (by simp)
    have p : ∀ l : List Str, piled l = (l.map fun t => t.length + 2).sum := fun l => by
      induction l with
      | nil => rfl
      | cons a b ih => rw [piled_cons, List.map_cons, List.sum_cons, ih]
    rw [p] at e
    omega
mutual
theorem shown_le : ∀ d : PyData, d.showable = true → noText d = true → d.shown.length + 2 ≤ 1923 * nodes d
  | .none, _, _ => by decide
  | .bool b, _, _ => by cases b <;> decide
  | .int i, h, _ => by
    have h : i.natAbs.log2 < 1920 := by simpa [PyData.showable] using h
    have := int_text_len_1921 h
    show (PySem.Str.ofString (toString i)).length + 2 ≤ 1923 * 1
    omega
  | .str _, _, h => by cases h
  | .list xs, h, n => by
    have := showns_le xs (by simpa [PyData.showable] using h) n
    have e := textFrom_le (PyData.shownAll xs) 0 "["
    have e2 : (PyData.list xs).shown = textFrom 0 "[" (PyData.shownAll xs) ++ "]" := by simp [PyData.shown, listText]
    have e3 : nodes (.list xs) = 2 + nodesAll xs := rfl
    rw [e2, e3, strLen_append]
    have : (("[" : String) : Str).length = 1 := rfl
    have : (("]" : String) : Str).length = 1 := rfl
    omega
  | .tuple xs, h, n => by
    have := showns_le xs (by simpa [PyData.showable] using h) n
    have e := join_le (PyData.shownAll xs)
    have e2 : (PyData.tuple xs).shown = ("(" : Str) ++ Str.join ", " (PyData.shownAll xs) ++ (if (PyData.shownAll xs).length == 1 then ",)" else ")" : String) := by simp [PyData.shown, tupleText]
    have e3 : nodes (.tuple xs) = 2 + nodesAll xs := rfl
    rw [e2, e3, strLen_append, strLen_append]
    have : (("(" : String) : Str).length = 1 := rfl
    have : (((if (PyData.shownAll xs).length == 1 then ",)" else ")" : String) : Str)).length ≤ 2 := by split <;> decide
    omega
  | .dict _, _, h => by cases h
theorem showns_le : ∀ ds : List PyData, PyData.showableAll ds = true → noTexts ds = true → ((PyData.shownAll ds).map fun t => t.length + 2).sum ≤ 1923 * nodesAll ds
  | [], _, _ => Nat.le_refl _
  | d :: r, h, n => by
    have h : d.showable = true ∧ PyData.showableAll r = true := by simpa [PyData.showableAll] using h
    have n : noText d = true ∧ noTexts r = true := by simpa [noTexts] using n
    have a := shown_le d h.1 n.1
    have b := showns_le r h.2 n.2
    have e : ((PyData.shownAll (d :: r)).map fun t => t.length + 2).sum = (d.shown.length + 2) + ((PyData.shownAll r).map fun t => t.length + 2).sum := by
      rw [show PyData.shownAll (d :: r) = d.shown :: PyData.shownAll r from rfl, List.map_cons, List.sum_cons]
    have e2 : nodesAll (d :: r) = nodes d + nodesAll r := rfl
    rw [e, e2]
    omega
end
end Hc

namespace Hc
open PySem PySem.Spec PyProof.Rows L2
section
variable {K : PySem.W.Frag} {te ta tb tc tl : TE} {tt : TT} {tA : TA} {ds : List SD} {ms : List MD} {R : RS}
end
end Hc

namespace Hc
open PySem PySem.Spec PyProof.Rows L2
/-! ### try, where the first clause takes whatever the body raises: what stands behind it is not reached -/
section
variable {X : Cx} {x n : Str} {c : Value} {i : Nat} {body suite : List Stmt} {b1 : Stmt} {np pos pos2 : Pos} {rest : List ExceptHandler} {tb : WX → TS} {ts : Addr → Value → Option Addr → TS}
/-- what the clause is asked, once the body has raised -/
def toClause (X : Cx) (pins : List (Addr × Obj)) (D : Ends) (cl : List ExceptHandler) : Value → Shared → Prop := fun e s1 =>
  wpAny (model X.prog X.w) X.A (noteFrame e X.env) (fun _ s2 => wpAny (model X.prog X.w) X.A (setFlight e none)
    (fun _ s3 => wpAny (model X.prog X.w) X.A (handleBy e X.env cl) (SP X pins D) X.xe s3) X.xe s2) X.xe s1
/-- no frame's own object is an error -/
theorem not_frame {h B : Heap} {fs : List Env} {a : Addr} {o : Obj} {vs : Array Value} (ff : h.FunFrames B fs) (e : h.get? a = some o) (d : o.data = .fields vs) : a ∉ frs fs := fun m => by
  obtain ⟨_, u, eu, no⟩ := ff.mem m
  cases e.symm.trans eu
  exact no vs d
end
end Hc

namespace Hc
open PySem PySem.Spec PyProof.Rows L2
/-! ### sorted(set(xs)), xs a list of ints -/
/-- a set without members, as set() lays it -/
abbrev bareSet (w : World) : Obj := { cls := .type "set", dict := none, data := .set #[] 0 (.fresh 0 0 (!w.params.followText "set-order")) }
section
variable {P : Program} {w : World} {A : Around} {E : Value → Shared → Prop} {s : Shared} {l : Addr} {its : Array Value} {ns : List Int}
theorem ints_at (hi : IntsAre its.toList ns) {i : Nat} {v : Value} (e : its[i]? = some v) : ∃ k t, ns[i]? = some k ∧ v = .int k t := by
  have ln : its.size = ns.length := by
    have := IntsAre.length hi
    rwa [Array.length_toList] at this
  have li : i < ns.length := ln ▸ (Array.getElem?_eq_some_iff.mp e).1
  obtain ⟨t, q⟩ := PyProof.Rows.IntsAre.int_at hi i v (by rw [Array.getElem?_toList]; exact e)
  exact ⟨ns[i], t, List.getElem?_eq_getElem li, by rw [q, List.getD_eq_getElem?_getD, List.getElem?_eq_getElem li]; rfl⟩
/-- what set.__init__ leaves of a bare set at p -/
def Filled (w : World) (s : Shared) (ns : List Int) (p : Addr) (t : Shared) : Prop := ∃ (h : Heap) (tk c : Nat), t = { s with heap := h, toks := tk } ∧ SetR w h p (fun j => decide (j ∈ ns)) c ∧ c ≤ ns.length ∧ ∀ b o, s.heap.get? b = some o → h.get? b = some o
theorem set_init (hh : A.handled = none) (hl : s.heap.IsList l its) (hi : IntsAre its.toList ns) (hb : ns.length + 1 < scanBound) :
    codeAny (model P w) A (.call (.builtin "set.__init__") ⟨[.ref s.heap.objs.size, .ref l], []⟩) (wants (fun r t => r = .none ∧ Filled w s ns s.heap.objs.size t) E) { s with heap := s.heap.push (bareSet w) } := by
  obtain ⟨ob, at_l, cls, ep, dat⟩ := hl
  obtain ⟨c1, c2, c3, c4⟩ := ob
  cases cls
  cases dat
  have born : (s.heap.push (bareSet w)).get? s.heap.objs.size = some (bareSet w) := Heap.get?_push_size _ rfl
  have ty : Shared.TypeIs { s with heap := s.heap.push (bareSet w) } (.ref s.heap.objs.size) "set" := ⟨_, born, rfl⟩
  refine codeAny_call_builtin F.called_set.init.plain F.entry_set_init (check_set_init_1 ty ?_)
  have low : l < s.heap.objs.size := Heap.lt_size at_l
  have at_l2 : (s.heap.push (bareSet w)).get? l = _ := Heap.get?_push_of_some _ at_l
  have lst : (s.heap.push (bareSet w)).IsList l its := ⟨_, at_l2, rfl, ep, rfl⟩
  have n1 := F.sub_list_set
  have n2 := F.sub_list_frozenset
  have n3 : (Value.type "list" == Value.type "dict") = false := by decide
  have ln : its.size = ns.length := by
    have := IntsAre.length hi
    rwa [Array.length_toList] at this
  have sz : (s.heap.push (bareSet w)).objs.size = s.heap.objs.size + 1 := Heap.size_push ..
  unfold Builtin.«set.__init__» noKeywords Builtin.Frozenset.updateFrom
  generalize later : pyIter = walk
  wp_walk
  subst later
  refine wpAny_pyIter_list lst (wpAny_bind (wpAny_runValue ?_))
  have walks := (Walks.list (prog := P) (w := w) (show A.in1.in1.handled = none by simp [hh]) (s.heap.push (bareSet w)).objs.size l (fun z => Nat.ne_of_lt (Nat.lt_succ_of_lt low) (z.trans sz)) its).toS
  have apart : s.heap.objs.size ∉ [(s.heap.push (bareSet w)).objs.size, l] := fun m => by
    rcases List.mem_cons.mp m with z | z
    · exact Nat.ne_of_lt (Nat.lt_succ_self _) (z.trans sz)
    · exact Nat.ne_of_gt low (List.mem_singleton.mp z)
  refine set_update_ints walks s.heap.objs.size apart ns ln hb (fun i v e => ints_at hi e) (its.size - 0) 0 _ (by omega) (Nat.zero_le _)
    ?_ ?_ ?_
  · exact ⟨⟨_, Heap.get?_push_size _ rfl, rfl, rfl⟩, lst.push _⟩
  · exact ⟨0, Nat.le_refl 0, setR_new_at (Heap.get?_push_of_some _ born)⟩
  rintro ⟨h2, g2, d2, k2, o2⟩ c moved few filled
  cases show g2 = s.gens from moved.gens
  cases show d2 = s.drawn from moved.drawn
  cases show o2 = s.os from moved.os
  show wpAny _ _ _ _ _ _
  apply wpAny_pure
  show wpAny _ _ (ret Value.none) _ _ _
  refine wpAny_pure ⟨rfl, h2, k2, c, rfl, filled, ln ▸ few, fun b o e => ?_⟩
  have lb := Heap.lt_size e
  refine moved.heap b o (fun m => ?_) (Heap.get?_push_of_some _ (Heap.get?_push_of_some _ e))
  rcases List.mem_cons.mp m with z | z
  · exact Nat.ne_of_lt lb z
  · exact Nat.ne_of_lt (Nat.lt_succ_of_lt lb) ((List.mem_singleton.mp z).trans sz)
theorem set_list {Q : Value → Shared → Prop} (hh : A.handled = none) (hl : s.heap.IsList l its) (hi : IntsAre its.toList ns) (hb : ns.length + 1 < scanBound)
    (go : ∀ t, Filled w s ns s.heap.objs.size t → Q (.ref s.heap.objs.size) t) : wpAny (model P w) A (call (.type "set") [.ref l]) Q E s := by
  have C := F.called_set
  obtain ⟨_, _, mro⟩ := C.mro
  have a1 := C.made
  have a2 := C.sub
  have a3 := C.notType
  have a4 := C.canCreate
  have a5 := F.typeCall_set_1 (.ref l)
  apply wpAny_call
  apply codeAny_of_tree
  show wpAny _ _ (callAny (.type "set") _) _ _ _
  refine wpAny_pure ⟨Code.quiet_builtin _ (by decide +kernel), codeAny_builtin F.entry_type_call ?_⟩
  rw [Around.under_plain (weight_type_call_type "set" [.ref l] []) rfl]
  repeat (any_goals (first | assumption | wp_step))
  refine codeAny_mono (code_set_led1 (E := E) (.ref l) (Q₁ := fun p t => p = .ref s.heap.objs.size ∧ t = { s with heap := s.heap.push (bareSet w) }) ⟨rfl, rfl⟩) fun r t z => ?_
  match r, z with
  | .error _, z => exact z
  | .ok .next, z => exact z.elim
  | .ok .brk, z => exact z.elim
  | .ok .cont, z => exact z.elim
  | .ok (.ret p), ⟨ep, et⟩ =>
    subst ep et
    have ty : Shared.TypeIs { s with heap := s.heap.push (bareSet w) } (.ref s.heap.objs.size) "set" := ⟨_, Heap.get?_push_size _ rfl, rfl⟩
    have b1 := C.init.lookup
    have b2 := C.init.bind (.ref s.heap.objs.size)
    repeat (any_goals (first | assumption | wp_step))
    refine codeAny_mono (set_init (E := E) hh hl hi hb) fun r2 t2 z2 => ?_
    match r2, z2 with
    | .error _, z2 => exact z2
    | .ok .next, z2 => exact z2.elim
    | .ok .brk, z2 => exact z2.elim
    | .ok .cont, z2 => exact z2.elim
    | .ok (.ret v), ⟨ev, fl⟩ =>
      subst ev
      have := go t2 fl
      repeat (any_goals (first | assumption | wp_step))
end
/-- the same, for less -/
def tMono (te : TE) : TE := fun σ H Q => ∃ Q0 : VK, te σ H Q0 ∧ ∀ x H1, Q0 x H1 → Q x H1
theorem pe_mono {X : Cx} {e : Expr} {te : TE} (h : PE X e te) : PE X e (tMono te) := by
  constructor
  rintro pins s σ H Q I ⟨Q0, h0, le⟩
  exact wpAny_mono (h.run pins s σ H Q0 I h0) (fun u t ⟨v, H1, J, r, q⟩ => ⟨v, H1, J, r, le v H1 q⟩) fun _ _ z => z
def rSetQ (w : World) (K : PySem.W.Frag) : List V → Hp → VK → Prop := fun xs H Q => ∃ (p : Addr) (ns : List Int), xs = [.ref p] ∧ (SqL K H p (ns.map V.int) ∨ SqT K H p (ns.map V.int)) ∧ ns.length ≤ 1000 ∧
  ∀ (q : Addr) (c : Nat), H q = none → c ≤ ns.length → Q (.ref q) (upd H q (SetO w q (fun j => decide (j ∈ ns)) c))
theorem cr_setQ {X : Cx} (hc : X.calm = true) : CallR X (.type "set") (rSetQ X.w X.K) := by
  rintro pins s σ H xs us Q I r ⟨p, ns, rfl, sq, few, q⟩
  rw [Vals.ref1 r]
  have small : ns.length + 1 < scanBound := by unfold scanBound; omega
  have fin : ∀ (h : Heap) (tk c : Nat), SetR X.w h s.heap.objs.size (fun j => decide (j ∈ ns)) c → c ≤ ns.length → (∀ b o, s.heap.get? b = some o → h.get? b = some o) → EP X pins σ Q (.ref s.heap.objs.size) { s with heap := h, toks := tk } := fun h tk c R le k =>
    ⟨.ref _, _, I.laid (o := SetO X.w s.heap.objs.size (fun j => decide (j ∈ ns)) c) k (Nat.le_refl _) (setO_new R), rfl, q _ c (I.hok.fresh (Nat.le_refl _)) le⟩
  rcases sq with sq | sq
  · obtain ⟨its, rv, pl, _⟩ := I.list sq
    exact set_list (I.ok.hd hc) pl.isList (ints_of_vals rv) small fun t ⟨h, tk, c, e, R, le, k⟩ => by
      subst e
      exact fin h tk c R le k
  · obtain ⟨its, rv, tp, _⟩ := I.tuple sq
    exact call_set_tupI ns (I.ok.hd hc) (show s.heap.IsTuple p its.toArray from tp) (ints_of_vals rv) small fin
/-- sorted(set(xs)) -/
def tSortSet (K : PySem.W.Frag) (te : TE) : TE := fun σ H Q => te σ H fun v H1 => ∃ (p : Addr) (ns : List Int), v = .ref p ∧ (SqL K H1 p (ns.map V.int) ∨ SqT K H1 p (ns.map V.int)) ∧ ns.length < 64 ∧
  ∀ out : List Int, out.Pairwise (· < ·) → (∀ k, k ∈ out ↔ k ∈ ns) → ∀ (a b : Addr) (φ : Heap → Prop), H1 a = none → b ≠ a → H1 b = none → Q (.ref b) (upd (upd H1 a (.ext φ)) b (.lst (out.map V.int)))
theorem pe_sortSet {X : Cx} {e : Expr} {te : TE} {p1 p2 p3 p4 : Pos} (hc : X.calm = true) (g1 : Gl X "sorted") (m1 : X.mg "sorted" = none) (g2 : Gl X "set") (m2 : X.mg "set" = none) (he : PE X e te)
    (s1 : starEach [.Call (.Name "set" p2) [e] [] p3] X.env = [(false, eval (.Call (.Name "set" p2) [e] [] p3) X.env)] := by rfl) (s2 : starEach [e] X.env = [(false, eval e X.env)] := by rfl) :
    PE X (.Call (.Name "sorted" p1) [.Call (.Name "set" p2) [e] [] p3] [] p4) (tSortSet X.K te) := by
  have inner := pe_callTy (p := p2) (pos := p3) (cr_setQ hc) g2 m2 PyProof.Rows.boot_set (pa_cons (pe_mono he) pa_nil (hs := s2)) (he := s2)
  have whole := pe_callB (p := p1) (pos := p4) (cr_sortedSet hc) g1 m1 (by decide +kernel) (pa_cons inner pa_nil (hs := s1)) (he := s1)
  constructor
  intro pins s σ H Q I h
  refine whole.run pins s σ H Q I ⟨_, h, ?_⟩
  rintro x H1 ⟨p, ns, rfl, sq, few, q⟩
  refine ⟨p, ns, rfl, sq, by omega, fun a c ha le => ⟨a, _, c, rfl, upd_same, by omega, fun out b pw mem ln hb => ?_⟩⟩
  have ne : b ≠ a := fun z => by rw [z, upd_same] at hb; cases hb
  exact q out pw (fun k => by rw [mem k, decide_eq_true_eq]) a b _ ha ne (by rw [upd_ne ne] at hb; exact hb)
section
variable {K : PySem.W.Frag} {te ta tb tc tl : TE} {tt : TT} {tA : TA} {ds : List SD} {ms : List MD} {R : RS}
theorem e_sortSet (h : E K te ds ms fun s ms1 => ∃ ns : List Int, (Sv ms1 (dd s) (.list (ns.map .int)) ∨ Sv ms1 (dd s) (.tuple (ns.map .int))) ∧ ns.length < 64 ∧ ∀ out : List Int, out.Pairwise (· < ·) → (∀ k, k ∈ out ↔ k ∈ ns) → R (.f (out.map .int)) ms1) : E K (tSortSet K te) ds ms R := fun L M σ H hS hA Q q =>
  h L M σ H hS hA _ fun s v H1 ms1 w1 o1 ⟨ns, sv, few, r⟩ => by
    have sq : ∃ p, v = .ref p ∧ (SqL K H1 p (ns.map V.int) ∨ SqT K H1 p (ns.map V.int)) := by
      rcases sv with sv | sv
      · obtain ⟨p, xs, rfl, z, rp⟩ := sv.lst o1.at o1.sl
        rw [RpA.ints_inv rp] at z
        exact ⟨p, rfl, .inl z⟩
      · obtain ⟨p, xs, rfl, z, rp⟩ := sv.tup o1.sl
        rw [RpA.ints_inv rp] at z
        exact ⟨p, rfl, .inr (SqT.of z)⟩
    obtain ⟨p, rfl, sq⟩ := sq
    refine ⟨p, ns, rfl, sq, few, fun out pw mem a b φ ha ne hb => ?_⟩
    have wa : Wk L H1 (upd H1 a (.ext φ)) := Wk.new ha
    have hb2 : upd H1 a (.ext φ) b = none := by rw [upd_ne ne]; exact hb
    exact q (.f (out.map .int)) _ _ ms1 ((w1.trans wa).trans (Wk.new hb2)) (out_new (o1.at.new ha) (w1.trans wa) hb2 (RpA.ints out)) (r out pw mem)
end
end Hc

namespace Hc
open PySem PySem.Spec PyProof.Rows L2
/-! ### tuple(reversed(t)), t a tuple -/
section
variable {prog : Program} {w : World} {A : Around} {E : Value → Shared → Prop} {s : Shared}
end
end Hc

namespace Hc
open PySem PySem.Spec PyProof.Rows L2
/-! ### try: x = f(..), the first clause `except X as n` takes all -/
section
variable {K : PySem.W.Frag} {C : Addr} {tA : TA} {ds : List SD} {ms : List MD} {P : Po}
/-- how a suite ends: its name is unset behind it -/
abbrev Po.unset (P : Po) (i : Nat) : Po := { nx := fun ds' ms' => P.nx (ds'.set i .u) ms', rt := P.rt, bk := fun ds' ms' => P.bk (ds'.set i .u) ms', ct := fun ds' ms' => P.ct (ds'.set i .u) ms' }
end
end Hc

namespace Hc
open PySem PySem.Spec PyProof.Rows L2
/-! ### data read off the heap, dicts too -/
section
variable {X : Cx} {pins : List (Addr × Obj)} {σ : L2.St} {H : Hp} {s : Shared} {M : List Addr}
theorem key_off {h : Heap} {k : Key} {e : Value} (z : keyIs k e = true) : Reads h e (keyD k) [] := by
  rcases keyIs_shape z with ⟨i, t, rfl, rfl⟩ | ⟨x, t, rfl, rfl⟩
  · exact .int i t
  · exact .str x t
mutual
theorem Rp.off (I : Inv X pins σ H s) (out : H sysModules = none) : ∀ {v : V} {d : PyData}, Rp M H v d → ∀ u, RelV v u → ∃ as, Reads s.heap u d as ∧ sysModules ∉ as
  | _, _, .non, u, r => by
    cases r
    exact ⟨[], .none, nofun⟩
  | _, _, .bl b, u, r => by
    cases r
    exact ⟨[], .bool b, nofun⟩
  | _, _, .int i, u, r => by
    obtain ⟨t, rfl⟩ := r
    exact ⟨[], .int i t, nofun⟩
  | _, _, .str x, u, r => by
    obtain ⟨t, rfl⟩ := r
    exact ⟨[], .str x t, nofun⟩
  | _, _, .lst (a := a) na e rs, u, r => by
    cases r
    obtain ⟨z, its, n, rv, g⟩ := I.hok a _ e
    obtain ⟨as, q, no⟩ := RpA.off I out rs its rv
    refine ⟨a :: as, .list (vs := its.toArray) g rfl rfl (by rw [List.toList_toArray]; exact q), fun m => ?_⟩
    rcases List.mem_cons.mp m with w | w
    · rw [w, e] at out
      cases out
    · exact no w
  | _, _, .tup (a := a) na e rs, u, r => by
    cases r
    obtain ⟨z, its, rv, o, g, c, n, d⟩ := I.hok a _ e
    obtain ⟨as, q, no⟩ := RpA.off I out rs its rv
    exact ⟨as, .tuple (vs := its.toArray) g c d (by rw [List.toList_toArray]; exact q), no⟩
  | _, _, .dct (a := a) na e rs, u, r => by
    cases r
    obtain ⟨z, ns, vs, kv, o, es, ep, g, ex, dd, ko, ps, nd⟩ := I.hok a _ e
    obtain ⟨bs, q1, q2, no⟩ := RpK.off I out rs vs kv es.toList ps
    refine ⟨a :: [] ++ bs, .dict g ex.1 dd q1 q2, fun m => ?_⟩
    rcases List.mem_cons.mp m with w | w
    · rw [w] at ns
      simp at ns
    · exact no w
theorem RpA.off (I : Inv X pins σ H s) (out : H sysModules = none) : ∀ {vs : List V} {ds : List PyData}, RpA M H vs ds → ∀ us, Vals vs us → ∃ as, ReadsAll s.heap us ds as ∧ sysModules ∉ as
  | _, _, .nil, us, r => by
    cases r
    exact ⟨[], .nil, nofun⟩
  | _, _, .cons h t, us, r => by
    cases r with
    | cons r1 r2 =>
      obtain ⟨as, q1, n1⟩ := Rp.off I out h _ r1
      obtain ⟨bs, q2, n2⟩ := RpA.off I out t _ r2
      exact ⟨as ++ bs, .cons q1 q2, fun m => (List.mem_append.mp m).elim n1 n2⟩
theorem RpK.off (I : Inv X pins σ H s) (out : H sysModules = none) : ∀ {kvs : List (Key × V)} {ds : List (PyData × PyData)}, RpK M H kvs ds → ∀ vs, KV kvs vs → ∀ es, Pairs (mixKind X.prog X.w) es vs →
    ∃ bs, ReadsAll s.heap (es.map (·.key)) (ds.map (·.1)) [] ∧ ReadsAll s.heap (es.map (·.val)) (ds.map (·.2)) bs ∧ sysModules ∉ bs
  | _, _, .nil, vs, kv, es, ps => by
    cases kv
    cases ps
    exact ⟨[], .nil, .nil, nofun⟩
  | _, _, .cons h t, vs, kv, es, ps => by
    cases kv with
    | cons r1 r2 =>
      cases ps with
      | cons p1 p2 p3 =>
        obtain ⟨e1, rv⟩ := r1
        obtain ⟨as, q1, n1⟩ := Rp.off I out h _ rv
        obtain ⟨bs, k2, q2, n2⟩ := RpK.off I out t _ r2 _ p3
        refine ⟨as ++ bs, ?_, .cons (by dsimp only; rw [p2]; exact q1) q2, fun m => (List.mem_append.mp m).elim n1 n2⟩
        refine ReadsAll.cons (as := []) (bs := []) ?_ k2
        rw [← e1] at p1
        exact key_off p1
end
end
/-! ### repr of any datum, where the guards are known and the table of modules stands in the base -/
end Hc

namespace Hc
open PySem PySem.Spec PyProof.Rows L2
section
variable {K : PySem.W.Frag} {ds : List SD} {ms : List MD} {R : RS} {P : Po}
end
/-! ### min(t) of a row of ints, a list or a tuple -/
end Hc

namespace Hc
open PySem PySem.Spec PyProof.Rows L2
/-! ### an error that is kept beyond its suite -/
section
variable {X : Cx} {pins : List (Addr × Obj)} {σ : L2.St} {H : Hp} {s : Shared}
end
section
variable {X : Cx} {x n : Str} {c : Value} {i : Nat} {C : Addr} {body suite : List Stmt} {b1 : Stmt} {np pos pos2 : Pos} {tb : WX → TS} {ts : Addr → TS}
end
section
variable {K : PySem.W.Frag} {C D : Addr} {tA : TA} {ds : List SD} {ms : List MD} {P : Po} {R : RS}
end
end Hc

namespace Hc
open PySem PySem.Spec PyProof.Rows L2
/-! ### errors of several classes -/
abbrev PhY := List SD → List MD → RS → (Addr → List MD → Prop) → Prop
/-- a def that hands back, or raises one of some classes -/
def SpY (K : PySem.W.Frag) (Φ : PhY) : Sp := fun vs H Q X => ∃ L M ms as R Y, At L M ms H ∧ SlsOk K L M H as vs ∧ Φ as ms R Y ∧ (∀ s v H' ms', Wk L H H' → Out K L M H H' ms' v s → R s ms' → Q v H') ∧ ∀ C H' ms', Wk L H H' → At L M ms' H' → Y C ms' → X (.ref C) none H'
def EyX (L M : List Addr) (H : Hp) (Y : Addr → List MD → Prop) (X : XK) : Prop := ∀ C H' ms', Wk L H H' → At L M ms' H' → Y C ms' → X (.ref C) none H'
def SY (K : PySem.W.Frag) (t : XK → TS) (ds : List SD) (ms : List MD) (P : Po) (Y : Addr → List MD → Prop) : Prop :=
  ∀ (L M : List Addr) (σ : L2.St) (H : Hp), Sl K L M σ H ds → At L M ms H → ∀ (D : Ends) (X : XK), Nx K L M H P.nx D.nx → Rx K L M H P.rt D.rt → Nx K L M H P.bk D.bk → Nx K L M H P.ct D.ct → EyX L M H Y X → t X D σ H
section
variable {K : PySem.W.Frag} {C : Addr} {te ta tb tc tl : TE} {tt : TT} {tA : TA} {ds : List SD} {ms : List MD} {R : RS} {P : Po} {Y : Addr → List MD → Prop}
theorem EyX.on {L M : List Addr} {H H1 : Hp} {X : XK} (w : Wk L H H1) (h : EyX L M H Y X) : EyX L M H1 Y X := fun C H' ms' w2 => h C H' ms' (w.trans w2)
theorem sy_of {t : TS} (h : S K t ds ms P) : SY K (fun _ => t) ds ms P Y := fun L M σ H hS hA D X n r b c _ => h L M σ H hS hA D n r b c
theorem sy_sx {t : XK → TS} (h : SX K C t ds ms P (Y C)) : SY K t ds ms P Y := fun L M σ H hS hA D X n r b c x => h L M σ H hS hA D X n r b c (x C)
theorem sy_seq {t u : XK → TS} (h : SY K t ds ms { P with nx := fun ds1 ms1 => SY K u ds1 ms1 P Y } Y) : SY K (fun X => tSeq (t X) (u X)) ds ms P Y := fun L M σ H hS hA D X n r b c x =>
  h L M σ H hS hA { D with nx := u X D } X (fun σ1 H1 ds1 ms1 w s1 a1 h1 => h1 L M σ1 H1 s1 a1 D X (n.on w) (r.on a1 w) (b.on w) (c.on w) (x.on w)) r b c x
theorem sy_raise (h : Y C ms) : SY K (tRs C) ds ms P Y := sy_sx (sx_raise h)
/-- such a def by name -/
structure KnY (Pg : Program) (w : World) (K : PySem.W.Frag) (mg : Str → Option Value) (base : Heap) (x : Str) (lv : Nat) (ps : List Str) (Φ : PhY) : Prop where
  ex : ∃ f fd, FnOk Pg w K mg base (L2.CX Pg w) lv f fd ps (SpY K Φ) ∧ mg x = some (.ref f) ∧ PySem.W.keepIn K (.ref f) = true ∧ Binds K fd ps []
theorem pe_callY {X : Cx} {x : Str} {lv : Nat} {ps : List Str} {Φ : PhY} {W : WX} {e : Expr} {es : List Expr} {t : TA} {p pos : Pos} (h : KnY X.prog X.w X.K X.mg X.base x lv ps Φ) (hr : Room lv X.A) (hg : Gl X x) (tk : Takes X W) (ha : PA X (e :: es) t)
    (hdb : (x == ("__debug__" : Str)) = false := by decide) (he : starEach (e :: es) X.env = (false, eval e X.env) :: starEach es X.env := by rfl) (hpl : (backTo pos (starEach es X.env)).any (·.1) = false := by rfl) :
    PE X (.Call (.Name x p) (e :: es) [] pos) (tCallS (SpY X.K Φ) (WE W) t) := by
  obtain ⟨f, fd, G, m, k, b⟩ := h.ex
  exact pe_callS G hr hg m k b (fun σ => passAt tk σ) ha hdb he hpl
theorem okY_of {Pg : Program} {w : World} {mg : Str → Option Value} {base : Heap} {x qual : Str} {st : Stmt} {f : Addr} {fd : FuncData} {N ps : List Str} {k : Nat} {Φ : PhY} (F : Fun K x qual st f fd) (Sc : FnScope N ps (defScope st)) (hl : ∀ as ms R Y, Φ as ms R Y → as.length = ps.length) (hpn : ps.length ≤ N.length)
    (t : XK → TS) (hbody : ∀ (cdv : Value) (A : Around) (outer : List Env) (s : Shared) (H : Hp) (E : XK), Room k (A.deeper (envOfC qual (defScope st) s.heap.objs.size f cdv)) → PSs (cxOf (L2.CX Pg w) Pg w K mg base N qual (defScope st) f cdv A outer s H E) (defBody st) (t E))
    (h2 : ∀ as ms R Y, Φ as ms R Y → SY K t (as ++ List.replicate (N.length - as.length) .u) ms (fin R) Y) : FnOk Pg w K mg base (L2.CX Pg w) (k + 1) f fd ps (SpY K Φ) := by
  refine F.okX Sc (fun vs H Q E h => ?_) (fun cdv A outer s H vs Q E hr h => ⟨t E, hbody cdv A outer s H E hr, ?_⟩)
  · obtain ⟨L, M, ms, as, R, Y, hA, ho, hp, q⟩ := h
    rw [← ho.len]
    exact hl as ms R Y hp
  · obtain ⟨L, M, ms, as, R, Y, hA, ho, hp, q, x⟩ := h
    exact h2 as ms R Y hp L M _ H (Sl.start ho (by rw [hl as ms R Y hp]; exact hpn)) hA _ E (fun σ' H' ds' ms' w s a r => q (.d .none) .non H' ms' w ⟨a, .non⟩ r) (fun s v H' ms' w o r => q s v H' ms' w o r) (fun _ _ _ _ _ _ _ z => z.elim) (fun _ _ _ _ _ _ _ z => z.elim) x
end
def phy2 (f : SD → SD → List MD → RS → (Addr → List MD → Prop) → Prop) : PhY := fun as ms R Y => ∃ a b, as = [a, b] ∧ f a b ms R Y
theorem phy2_len {f : SD → SD → List MD → RS → (Addr → List MD → Prop) → Prop} : ∀ as ms R Y, phy2 f as ms R Y → as.length = 2 := fun _ _ _ _ ⟨_, _, e, _⟩ => by rw [e]; rfl
/-! ### an error of whichever class that is kept, or handed back -/
section
variable {X : Cx} {x n : Str} {c : Value} {i : Nat} {body suite : List Stmt} {b1 : Stmt} {np pos pos2 : Pos} {tb : WX → TS} {ts : Addr → TS}
end
section
variable {K : PySem.W.Frag} {D : Addr} {tA : TA} {ds : List SD} {ms : List MD} {P : Po} {R : RS}
end
/-! ### what classes are, and are not, of each other -/
theorem kit_no {K : PySem.W.Frag} {C D : Addr} (hc : PySem.W.isClsIn K D = true) (ht : PySem.W.typeIn K (.ref D) = some (.type "type")) (hs : PySem.W.subIn K (.ref C) (.ref D) = some false) (hr : PySem.W.subIn K (.ref C) (.ref C) = some true) : PySem.W.kitOne K (.ref C) (.ref D) = some false := by
  have hc : (PySem.W.clsIn K D).isSome = true := hc
  unfold PySem.W.kitOne
  by_cases e : ((Value.ref C == Value.ref D) = true)
  · have : C = D := by simpa using e
    subst this
    rw [hr] at hs
    cases hs
  · rw [if_neg e]
    show (if _ then _ else _) = _
    rw [hc, ht, hs]
    rfl
theorem exm_up {K : PySem.W.Frag} {C D : Addr} {b : Bool} (h1 : PySem.W.subIn K (.ref D) (.type "BaseException") = some true) (hc : PySem.W.isClsIn K D = true) (ht : PySem.W.typeIn K (.ref D) = some (.type "type")) (hs : PySem.W.subIn K (.ref C) (.ref D) = some b) : PySem.W.exmOne K (.ref C) (.ref D) = some b := by
  have hc : (PySem.W.clsIn K D).isSome = true := hc
  unfold PySem.W.exmOne
  rw [if_pos (by rw [h1]; rfl)]
  show (if _ then _ else _) = _
  rw [hc, ht, hs]
  rfl
end Hc

namespace Hc
open PySem PySem.Spec PyProof.Rows L2
/-! ### tuples that are known to be bare: they have methods -/
/-- tuple(xs) of a list, and what is known of the new object -/
def rTupF (K : PySem.W.Frag) : List V → Hp → VK → Prop := fun xs H Q => ∃ p ys, xs = [.ref p] ∧ SqL K H p ys ∧ ∀ (l : Addr) (o : Obj), H l = none → o.cls = .type "tuple" → o.dict = none → Q (.ref l) (upd H l (.frz o (.tup ys)))
theorem cr_tupF {X : Cx} : CallR X (.type "tuple") (rTupF X.K) := by
  rintro pins s σ H xs us Q I r ⟨p, ys, rfl, hq, q⟩
  obtain ⟨u, rfl, ru⟩ := Vals.one r
  cases ru
  obtain ⟨vs, rv, plain, fits⟩ := I.list hq
  refine call_tuple_list plain.isList (fun h1 kept => ?_) (by rw [List.size_toArray, ← rv.length]; exact fits)
  have J : Inv X pins σ H { s with heap := h1 } := I.kept (t' := s.toks) kept
  have there := Heap.get?_push_size (o := ({ cls := .type "tuple", data := .seq vs.toArray } : Obj)) h1 rfl
  have nw : ObjOk X.prog X.w (upd H h1.objs.size (.frz { cls := .type "tuple", data := .seq vs.toArray } (.tup ys))) (h1.push { cls := .type "tuple", data := .seq vs.toArray }) h1.objs.size (.frz { cls := .type "tuple", data := .seq vs.toArray } (.tup ys)) := ⟨there, fits, vs, rv, IsTup.new _ _⟩
  exact ⟨.ref h1.objs.size, _, J.laid (t' := s.toks) (fun b o z => Heap.get?_push_of_some _ z) (Nat.le_refl _) nw, rfl, q _ _ (J.hok.fresh (Nat.le_refl _)) rfl rfl⟩
section
variable {K : PySem.W.Frag} {te ta tb tc tl : TE} {tt : TT} {tA : TA} {ds : List SD} {ms : List MD} {R : RS} {P : Po}
/-- such a tuple of ints -/
def TupI (ns : List Int) (M : List Addr) (H : Hp) (v : V) : Prop := ∃ (b : Addr) (o : Obj), v = .ref b ∧ b ∉ M ∧ H b = some (.frz o (.tup (ns.map V.int))) ∧ o.cls = .type "tuple" ∧ o.dict = none
theorem TupI.stb (ns : List Int) : Stb (TupI ns) := fun M M' H H' v t ⟨b, o, e, n, q, c, d⟩ => ⟨b, o, e, (t _ _ n q).1, (t _ _ n q).2, c, d⟩
abbrev tiS (ns : List Int) : SD := .w (TupI ns)
theorem TupI.sq {ns : List Int} {M : List Addr} {H : Hp} {v : V} (h : TupI ns M H v) : ∃ a, v = .ref a ∧ SqT K H a (ns.map V.int) := by
  obtain ⟨b, o, e, n, q, c, d⟩ := h
  exact ⟨b, e, .inl (.inr ⟨o, q⟩)⟩
theorem e_varw {i : Nat} {φ : List Addr → Hp → V → Prop} (h : ds[i]? = some (.w φ)) (r : R (.w φ) ms) : E K (tVar i) ds ms R := fun L M σ H hS hA Q q => by
  obtain ⟨v, e, o⟩ := hS.get h (fun z => nomatch z)
  exact ⟨v, e, q _ v H ms (Wk.refl L H) (.of hA o) r⟩
theorem rc_tupF {as : List SD} (h : ∃ s ns, as = [s] ∧ Sv ms s (.list (ns.map .int)) ∧ R (tiS ns) ms) : RC K (rTupF K) as ms R := fun L M H vs hA ha Q q => by
  obtain ⟨s, ns, rfl, sv, r⟩ := h
  obtain ⟨v, t, rfl, hv, rfl⟩ := ha
  obtain ⟨p, xs, rfl, hq, hr⟩ := sv.lst hA hv
  refine ⟨p, xs, rfl, hq, fun l o hl hc hd => ?_⟩
  have ex := RpA.ints_inv hr
  subst ex
  exact q (tiS ns) _ _ ms (Wk.new hl) ⟨hA.new hl, ⟨l, o, rfl, hA.fresh hl, upd_same, hc, hd⟩, TupI.stb ns⟩ r
/-- ("groups", such a tuple, a datum) -/
def Told3 (z : Str) (ns : List Int) (x : PyData) (M : List Addr) (H : Hp) (v : V) : Prop := ∃ (a : Addr) (u w : V), v = .ref a ∧ a ∉ M ∧ H a = some (.tup [.str z, u, w]) ∧ TupI ns M H u ∧ Rp M H w x
theorem Told3.stb (z : Str) (ns : List Int) (x : PyData) : Stb (Told3 z ns x) := fun M M' H H' v t ⟨a, u, w, e, n, q, hu, hw⟩ => ⟨a, u, w, e, (t _ _ n q).1, (t _ _ n q).2, TupI.stb ns _ _ _ _ _ t hu, hw.toP t⟩
abbrev t3S (z : Str) (ns : List Int) (x : PyData) : SD := .w (Told3 z ns x)
theorem e_tup3 {z : Str} (h : E K ta ds ms fun s ms1 => ∃ ns, s = tiS ns ∧ E K tb ds ms1 fun s2 ms2 => ∃ x, dd s2 = .d x ∧ R (t3S z ns x) ms2) : E K (tTup (tCons (tC (.str z)) (tCons ta (tCons tb tNil)))) ds ms R := fun L M σ H hS hA Q q =>
  h L M σ H hS hA _ fun s u H1 ms1 w1 o1 ⟨ns, e, h1⟩ => by
    subst e
    have a1 := o1.at
    refine h1 L M σ H1 (hS.mono hA w1) a1 _ fun s2 w H2 ms2 w2 o2 ⟨x, e2, r⟩ => ?_
    have a2 := o2.at
    have hw := o2.sl
    rw [e2] at hw
    have hu : TupI ns M H2 u := TupI.stb ns _ _ _ _ _ (a1.wk w2) o1.2.1
    refine ⟨by show 3 ≤ sizeLine; decide, fun p hp => ?_⟩
    have wn : Wk L H2 (upd H2 p (.tup [.str z, u, w])) := Wk.new hp
    have t := a2.wk wn
    exact q (t3S z ns x) _ _ ms2 ((w1.trans w2).trans wn) ⟨a2.new hp, ⟨p, u, w, rfl, a2.fresh hp, upd_same, TupI.stb ns _ _ _ _ _ t hu, Rp.to t _ _ hw⟩, Told3.stb z ns x⟩ r
/-- of such slots: their type, their length -/
def TupW (φ : List Addr → Hp → V → Prop) (n : Nat) : Prop := ∀ M H v, φ M H v → ∃ (a : Addr) (xs : List V), v = .ref a ∧ xs.length = n ∧ (H a = some (.tup xs) ∨ ∃ o, H a = some (.frz o (.tup xs)))
theorem TupI.tup (ns : List Int) : TupW (TupI ns) ns.length := fun M H v ⟨b, o, e, n, q, c, d⟩ => ⟨b, _, e, by simp, .inr ⟨o, q⟩⟩
theorem Told3.tup (z : Str) (ns : List Int) (x : PyData) : TupW (Told3 z ns x) 3 := fun M H v ⟨a, u, w, e, n, q, hu, hw⟩ => ⟨a, _, e, rfl, .inl q⟩
/-- items -/
theorem rr_ixI {a b : SD} (h : ∃ ns i k, a = tiS ns ∧ b = .d (.int i) ∧ atI (ns.map PyData.int) i = some (.int k) ∧ R (.d (.int k)) ms) : RR K (rIx K) a b ms R := fun L M H x y hA ha hb Q q => by
  obtain ⟨ns, i, k, rfl, rfl, e, r⟩ := h
  cases hb
  obtain ⟨p, rfl, sq⟩ := ha.1.sq (K := K)
  obtain ⟨v, e1, e2⟩ := atI_of (M := M) (H := H) (RpA.ints ns) e
  cases e2
  exact .inr (.inl ⟨p, _, i, _, rfl, rfl, sq, e1, q (.d (.int k)) _ H ms (Wk.refl L H) ⟨hA, .int k⟩ r⟩)
end
end Hc

namespace Hc
open PySem PySem.Spec PyProof.Rows L2
/-! ### texts -/
section
variable {K : PySem.W.Frag} {te ta tb tc tl : TE} {tt : TT} {tA : TA} {ds : List SD} {ms : List MD} {R : RS} {P : Po} {ts : List TE} {acc : Str}
end
end Hc

namespace Hc
open PySem PySem.Spec PyProof.Rows L2
/-! ### expressions that may raise: errors that pass through a def -/
abbrev WO (X : XK) : WX := fun cls d _ H => X cls d H
section
variable {K : PySem.W.Frag} {C : Addr} {te : TE} {ue ua ub : XK → TE} {tA : TA} {uA : XK → TA} {ds : List SD} {ms : List MD} {R : RS} {P : Po} {Y : Addr → List MD → Prop}
def EX (K : PySem.W.Frag) (ue : XK → TE) (ds : List SD) (ms : List MD) (R : RS) (Y : Addr → List MD → Prop) : Prop :=
  ∀ (L M : List Addr) (σ : L2.St) (H : Hp), Sl K L M σ H ds → At L M ms H → ∀ X : XK, EyX L M H Y X → ∀ Q : VK, (∀ s v H' ms', Wk L H H' → Out K L M H H' ms' v s → R s ms' → Q v H') → ue X σ H Q
def EAX (K : PySem.W.Frag) (uA : XK → TA) (ds : List SD) (ms : List MD) (R : List SD → List MD → Prop) (Y : Addr → List MD → Prop) : Prop :=
  ∀ (L M : List Addr) (σ : L2.St) (H : Hp), Sl K L M σ H ds → At L M ms H → ∀ X : XK, EyX L M H Y X → ∀ Q : List V → Hp → Prop, (∀ as vs H' ms', Wk L H H' → At L M ms' H' → SlsOk K L M H' as vs → R as ms' → Q vs H') → uA X σ H Q
theorem ex_of (h : E K te ds ms R) : EX K (fun _ => te) ds ms R Y := fun L M σ H hS hA X x Q q => h L M σ H hS hA Q q
theorem eax_of {R : List SD → List MD → Prop} (h : EA K tA ds ms R) : EAX K (fun _ => tA) ds ms R Y := fun L M σ H hS hA X x Q q => h L M σ H hS hA Q q
theorem eax_nil {R : List SD → List MD → Prop} (r : R [] ms) : EAX K (fun _ => tNil) ds ms R Y := eax_of (ea_nil r)
theorem eax_cons {R : List SD → List MD → Prop} (h : EX K ua ds ms (fun a ms1 => EAX K uA ds ms1 (fun as ms2 => R (dd a :: as) ms2) Y) Y) : EAX K (fun X => tCons (ua X) (uA X)) ds ms R Y := fun L M σ H hS hA X x Q q =>
  h L M σ H hS hA X x _ fun a v H1 ms1 w1 o1 h1 => h1 L M σ H1 (hS.mono hA w1) o1.at X (x.on w1) _ fun as vs H2 ms2 w2 a2 o2 r2 => q (dd a :: as) (v :: vs) H2 ms2 (w1.trans w2) a2 ⟨v, vs, rfl, o1.sl.mono o1.at w2, o2⟩ r2
/-- a def that may raise -/
theorem ex_callX {Φ : PhX} (h : EAX K uA ds ms (fun as ms1 => Φ as ms1 R (Y C)) Y) : EX K (fun X => tCallS (SpX K C Φ) (WE (WO X)) (uA X)) ds ms R Y := fun L M σ H hS hA X x Q q =>
  h L M σ H hS hA X x _ fun as vs H1 ms1 w1 a1 o1 h1 =>
    ⟨L, M, ms1, as, R, Y C, a1, o1, h1, fun s v H3 ms3 w3 o3 r3 => q s v H3 ms3 (w1.trans w3) (o3.back a1 w1) r3, fun H3 ms3 w3 a3 y => x C H3 ms3 (w1.trans w3) a3 y⟩
/-- one that raises nothing, its arguments may -/
theorem ex_call {Φ : Ph} (h : EAX K uA ds ms (fun as ms1 => Φ as ms1 R) Y) : EX K (fun X => tCall (SpD K Φ) [] E0 (uA X)) ds ms R Y := fun L M σ H hS hA X x Q q =>
  h L M σ H hS hA X x _ fun as vs H1 ms1 w1 a1 o1 h1 => by
    rw [List.append_nil]
    exact ⟨L, M, ms1, as, R, a1, o1, h1, fun s v H3 ms3 w3 o3 r3 => q s v H3 ms3 (w1.trans w3) (o3.back a1 w1) r3⟩
section
variable {K : PySem.W.Frag} {uA : XK → TA} {ds : List SD} {ms : List MD} {P : Po} {Y : Addr → List MD → Prop}
end
/-! ### d.get(key, other) of a dict whose keys are rows -/
theorem Rt.not (k : List Key) {M : List Addr} {H : Hp} : ∀ {m : List (List Key × PyData)} {kvs : List (List Key × V)}, Rt M H kvs m → valT m k = none → valV kvs k = none
  | _, _, .nil, _ => rfl
  | (k1, d1) :: m, (_, v1) :: kvs, .cons a b, e => by
    by_cases q : k1 = k
    · simp [valT, q] at e
    · have e1 : valT ((k1, d1) :: m) k = valT m k := by simp [valT, List.find?_cons, q]
      rw [e1] at e
      have := Rt.not k b e
      unfold valV at this ⊢
      rw [List.find?_cons, show (decide (k1 = k)) = false from decide_eq_false q]
      exact this
end
end Hc

namespace Hc
open PySem PySem.Spec PyProof.Rows L2
/-! ### try with one clause that names nothing, whose suite raises nothing -/
section
variable {K : PySem.W.Frag} {C D : Addr} {tA : TA} {ds : List SD} {ms : List MD} {P : Po} {t : TS}
end
end Hc

namespace Hc
open PySem PySem.Spec PyProof.Rows L2
/-! ### except D: raise C('..') from None. What the body calls tells its errors by L2N -/
section
variable {K : PySem.W.Frag} {C D B : Addr} {tA : TA} {ds : List SD} {ms : List MD} {P : Po} {Y : List MD → Prop}
/-- a def whose errors have no context -/
structure KnN (Pg : Program) (w : World) (K : PySem.W.Frag) (mg : Str → Option Value) (base : Heap) (x : Str) (lv : Nat) (ps : List Str) (C : Addr) (Φ : PhX) : Prop where
  ex : ∃ f fd, FnOk Pg w K mg base (L2N.CX Pg w) lv f fd ps (SpX K C Φ) ∧ mg x = some (.ref f) ∧ PySem.W.keepIn K (.ref f) = true ∧ Binds K fd ps []
end
/-! ### parts of a text -/
section
variable {K : PySem.W.Frag} {te : TE} {to th : TO} {ds : List SD} {ms : List MD} {R : RS}
end
end Hc

namespace Hc
open PySem PySem.Spec PyProof.Rows L2
section
variable {K : PySem.W.Frag} {ds : List SD} {ms : List MD} {R : RS}
/-! ### an error that is kept is not None -/
end
end Hc

namespace Hc
open PySem PySem.Spec PyProof.Rows L2
/-! ### is a tuple among the members of a set of tuples -/
section
variable {P : Program} {w : World} {A : Around} {E : Value → Shared → Prop} {s : Shared} {a : Addr} {L : List (Addr × List Int)} {es : Array (Int × Value)} {ep : Nat} {t : SetTable}
abbrev hAt (es : Array (Int × Value)) : Nat → Int := fun i => (es[i]?.map (·.1)).getD 0
/-- where a walk stands behind c steps -/
abbrev stp (t : SetTable) (h : Int) (c : Nat) : SetTable.Probe := nth t.mask (runAt t.mask (SetTable.bits h % (t.mask + 1)) (SetTable.bits h)) c
theorem stp_plain (t : SetTable) (h : Int) (c : Nat) : (stp t h c).dummy = none := by
  have key : ∀ (n : Nat) (p : SetTable.Probe), p.dummy = none → (nth t.mask p n).dummy = none := fun n => by
    induction n with
    | zero => exact fun p e => e
    | succ n ih => exact fun p e => ih _ (by unfold adv; split <;> exact e)
  exact key c _ rfl
theorem stp_add (t : SetTable) (h : Int) (c q : Nat) : nth t.mask (stp t h c) q = stp t h (c + q) := (nth_add t.mask c _ q).symm
/-- the walk meets nothing more: an empty slot -/
theorem look_end (R : SetTR P w s.heap a L es ep t) {x : Value} {h : Int} {f j : Nat} {st : Option SetTable.Probe} {Q : SetFound → Shared → Prop}
    (he : t.probe (hAt es) h (st.getD (t.probeStart h)) = some (.empty j none)) (q : Q (.free j false) s) : wpAny (model P w) A (setSearchFrom a x h false (f + 1) st) Q E s := by
  obtain ⟨o, ho, _, hd⟩ := R.ob
  rw [setSearchFrom_succ]
  refine wpAny_bind (wpAny_setState_of ho hd R.fits ?_)
  refine wp_if_neg R.gw ?_
  rw [he]
  exact wpAny_pure q
/-- the walk meets a member of the same hash: it is the one, or the walk goes on -/
theorem look_row (R : SetTR P w s.heap a L es ep t) {x : Addr} {k : List Int} (hx : IsT P w s.heap k x) (hu : A.units < cLine) {f j i : Nat} {st : Option SetTable.Probe} {nx : SetTable.Probe} {p : Addr × List Int} {Q : SetFound → Shared → Prop}
    (hp : L[i]? = some p) (hj : t.place.toList[i]? = some j) (he : t.probe (hAt es) (thash P w k) (st.getD (t.probeStart (thash P w k))) = some (.candidate j i nx))
    (yes : p.2 = k → Q (.there (some i)) s) (no : p.2 ≠ k → wpAny (model P w) A (setSearchFrom a (.ref x) (thash P w k) false f (some nx)) Q E s) :
    wpAny (model P w) A (setSearchFrom a (.ref x) (thash P w k) false (f + 1) st) Q E s := by
  obtain ⟨o, ho, _, hd⟩ := R.ob
  have live : t.slot j = .live i := slot_live R.tab.ris hj
  have last : wpAny (model P w) A (searchRest a (.ref x) (thash P w k) false f es t j i nx) Q E s := by
    unfold searchRest
    rw [R.entry hp]
    refine wpAny_bind (wpAny_holding (wpAny_eqBool_tuple hu (R.tup p (List.mem_of_getElem? hp)) hx ?_))
    refine wpAny_bind (wpAny_setState_of ho hd R.fits ?_)
    refine wp_if_neg (by simp) ?_
    rw [sameMem]
    simp only [if_true, live, R.entry hp]
    refine wpAny_bind (wpAny_isSame_ref_self (wpAny_bind (wpAny_pure ?_)))
    by_cases e : p.2 = k
    · simp only [if_true, e, decide_true]
      exact wpAny_pure (yes e)
    · simp only [if_true, e, decide_false, if_false, Bool.false_eq_true]
      exact no e
  rw [setSearchFrom_succ]
  refine wpAny_bind (wpAny_setState_of ho hd R.fits ?_)
  refine wp_if_neg R.gw ?_
  rw [he]
  by_cases led : t.led = true
  · exact wp_if_neg (by simp [led]) last
  · refine wp_if_pos (by simp [led]) (wpAny_bind (seen_tup hx (fun y hy => ?_) (wp_if_neg (by decide) last)))
    obtain ⟨e, he1, rfl⟩ := List.mem_map.mp hy
    have he2 : e ∈ es.toList := by
      have : e ∈ es ∧ e.1 = thash P w k := by simpa using he1
      simpa using this.1
    rw [R.rows] at he2
    obtain ⟨q, hq, rfl⟩ := List.mem_map.mp he2
    exact ⟨q.2, q.1, rfl, R.tup q hq⟩
/-- what a walk tells of its end -/
def ToldS (k : List Int) (L : List (Addr × List Int)) : SetFound → Prop
  | .there o => o.isSome = true ∧ k ∈ L.map (·.2)
  | .free _ _ => k ∉ L.map (·.2)
/-- all members that are k lie between c steps and the first empty slot -/
def Ahead (P : Program) (w : World) (t : SetTable) (L : List (Addr × List Int)) (k : List Int) (c K : Nat) : Prop := ∀ (i : Nat) (p : Addr × List Int), L[i]? = some p → p.2 = k → ∃ d, c ≤ d ∧ d < K ∧ t.place.toList[i]? = some (way t.mask (thash P w k) d)
theorem look_walk (R : SetTR P w s.heap a L es ep t) {x : Addr} {k : List Int} (hx : IsT P w s.heap k x) (hu : A.units < cLine) {K : Nat} (hKf : K < 10 * SetTable.turns t.mask)
    (hK : way t.mask (thash P w k) K ∉ t.place.toList) (hKb : ∀ c, c < K → way t.mask (thash P w k) c ∈ t.place.toList) {Q : SetFound → Shared → Prop} (q : ∀ r, ToldS k L r → Q r s) :
    ∀ (n c f : Nat) (st : Option SetTable.Probe), K - c < n → c ≤ K → n ≤ f → st.getD (t.probeStart (thash P w k)) = stp t (thash P w k) c → Ahead P w t L k c K →
      wpAny (model P w) A (setSearchFrom a (.ref x) (thash P w k) false f st) Q E s := by
  intro n
  induction n with
  | zero => exact fun c f st h => absurd h (Nat.not_lt_zero _)
  | succ n ih =>
    intro c f st hn hc hf hst ah
    obtain ⟨f, rfl⟩ : ∃ g, f = g + 1 := ⟨f - 1, by omega⟩
    have wy : ∀ d, (nth t.mask (stp t (thash P w k) c) d).j = way t.mask (thash P w k) (c + d) := fun d => congrArg SetTable.Probe.j (stp_add t _ c d)
    have go := go_spec t R.tab.ris R.tab.dm (hAt es) (thash P w k) (10 * SetTable.turns t.mask) (K - c) (stp t (thash P w k) c) (stp_plain t _ c) (by omega)
      (fun d hd => by rw [wy]; exact hKb _ (by omega)) (by rw [wy, Nat.add_sub_cancel' hc]; exact hK)
    have hash : ∀ (i : Nat) (p : Addr × List Int), L[i]? = some p → p.2 = k → hAt es i = thash P w k := fun i p hp e => by
      show (es[i]?.map (·.1)).getD 0 = _
      rw [R.entry hp, ← e]
      rfl
    rcases go with ⟨d, i, hd, hi, _, nob, pr⟩ | ⟨nob, pr⟩
    · rw [wy] at hi pr
      rw [stp_add] at pr
      have il : i < L.length := by
        have h1 := (List.getElem?_eq_some_iff.mp hi).1
        have h2 := R.tab.sz
        rw [List.length_map] at h2
        rw [Array.length_toList] at h1
        omega
      refine look_row R hx hu (List.getElem?_eq_getElem il) hi (by rw [hst]; exact pr) (fun e => q _ ⟨rfl, List.mem_map.mpr ⟨_, List.getElem_mem il, e⟩⟩) fun ne => ?_
      refine ih (c + (d + 1)) f _ (by omega) (by omega) (by omega) rfl fun i2 p2 h2 e2 => ?_
      obtain ⟨g, g1, g2, g3⟩ := ah i2 p2 h2 e2
      refine ⟨g, ?_, g2, g3⟩
      by_cases z : g < c + d
      · exact absurd (hash i2 p2 h2 e2) (nob (g - c) i2 (by omega) (by rw [wy, Nat.add_sub_cancel' g1]; exact g3))
      · by_cases y : g = c + d
        · exfalso
          rw [y] at g3
          have s1 := slot_live R.tab.ris hi
          rw [slot_live R.tab.ris g3] at s1
          injection s1 with s1
          subst s1
          rw [List.getElem?_eq_getElem il] at h2
          exact ne (Option.some.inj h2 ▸ e2)
        · omega
    · rw [wy, Nat.add_sub_cancel' hc] at pr
      refine look_end R (by rw [hst]; exact pr) (q _ fun hm => ?_)
      obtain ⟨p, hp, e⟩ := List.mem_map.mp hm
      obtain ⟨i, il, ei⟩ := List.getElem_of_mem hp
      have hi : L[i]? = some p := by rw [List.getElem?_eq_getElem il, ei]
      obtain ⟨g, g1, g2, g3⟩ := ah i p hi e
      exact nob (g - c) i (by omega) (by rw [wy, Nat.add_sub_cancel' g1]; exact g3) (hash i p hi e)
/-- x in S -/
theorem find_tup (R : SetTR P w s.heap a L es ep t) {x : Addr} {k : List Int} (hx : IsT P w s.heap k x) (hu : A.units < cLine) {Q : Option Nat → Shared → Prop}
    (q : ∀ o : Option Nat, o.isSome = decide (k ∈ L.map (·.2)) → Q o s) : wpAny (model P w) A (setFind a (.ref x) (thash P w k)) Q E s := by
  obtain ⟨o, ho, _, hd⟩ := R.ob
  have room := R.room
  obtain ⟨K, hKf, hK, hKb⟩ := R.tab.first (by rw [List.length_map]; omega) (thash P w k)
  have few : 10 * SetTable.turns t.mask ≤ 1420 := by
    unfold SetTable.turns
    rcases R.tab.mok with e | e | e <;> omega
  unfold setFind setFindIn
  refine wpAny_bind (wpAny_setState_of ho hd R.fits ?_)
  refine wp_if_neg (by simp [byScan, Value.scannable]) ?_
  unfold setSearch
  refine wpAny_bind (look_walk R hx hu hKf hK hKb (Q := fun r s' => wpAny (model P w) A (match r with | .there i => pure i | .free _ _ => pure none) Q E s') (fun r hr => ?_) 2000 0 100000 none (by omega) (Nat.zero_le _) (by decide) rfl fun i p hp e => ?_)
  · cases r with
    | there i => exact wpAny_pure (q i (by rw [hr.1, decide_eq_true hr.2]))
    | free j d => exact wpAny_pure (q none (by rw [decide_eq_false hr]; rfl))
  · have hi : (L.map fun p => thash P w p.2)[i]? = some (thash P w k) := by rw [List.getElem?_map, hp, ← e]; rfl
    have il : i < t.place.toList.length := by
      have h1 := (List.getElem?_eq_some_iff.mp hp).1
      have h2 := R.tab.sz
      rw [List.length_map] at h2
      rw [Array.length_toList]
      omega
    have hj := List.getElem?_eq_getElem il
    obtain ⟨c, hc, ec⟩ := R.tab.before hK hi hj
    exact ⟨c, Nat.zero_le _, hc, by rw [hj, ec]⟩
theorem setTyp (R : SetTR P w s.heap a L es ep t) : s.TypeIs (.ref a) "set" := by
  obtain ⟨o, ho, c, _⟩ := R.ob
  exact ⟨o, ho, c.1⟩
theorem has_tup (R : SetTR P w s.heap a L es ep t) {x : Addr} {k : List Int} (hx : IsT P w s.heap k x) (hu : A.units + 64 < cLine) {Q : Bool → Shared → Prop}
    (q : Q (decide (k ∈ L.map (·.2))) { s with toks := s.toks + (k.length + 1) }) : wpAny (model P w) A (contains (.ref a) (.ref x)) Q E s := by
  have ty := setTyp R
  unfold contains
  try with_reducible refine wpAny_holding ?_
  refine wpAny_bind (wpAny_specialOf ty F.slot_set_contains.lookup ?_)
  show wpAny _ _ (if (some (Value.builtin "set.__contains__") == some Value.none) = true then _ else _) _ E s
  rw [if_neg (by rw [beq_builtin_none]; exact Bool.false_ne_true)]
  refine wpAny_bind (wpAny_callSpecialUnlessNone?_slot (name := Str.ofString "__contains__") ty F.slot_set_contains (wpAny_call_entry F.slot_set_contains ty entry_set_contains ?_ (F.args_set_contains_2 _ _)))
  unfold Builtin.«frozenset.__contains__» Builtin.Frozenset.oneOther
  simp only [List.isEmpty_nil, bind_assoc]
  unfold Builtin.Frozenset.addrOf Builtin.Frozenset.withSetAsKey setContains
  refine wpAny_bind (wpAny_pure (wpAny_bind (wpAny_pure ?_)))
  refine wpAny_bind (wpAny_tryCatch (wpAny_holding (wpAny_bind ?_)))
  refine wpAny_pyHash_tuple (by show A.units + 1 < cLine; omega) hx ?_
  refine wpAny_bind (find_tup (s := { s with toks := s.toks + (k.length + 1) }) R hx (by show A.units + 1 < cLine; omega) fun o ho => ?_)
  refine wpAny_pure ?_
  show wpAny _ _ (ret (Value.bool o.isSome)) _ _ _
  rw [ho]
  exact wpAny_pure ⟨_, rfl, wpAny_truthy_bool q⟩
theorem notin_tup (R : SetTR P w s.heap a L es ep t) {x : Addr} {k : List Int} (hx : IsT P w s.heap k x) (hu : A.units + 64 < cLine) {Q : Value → Shared → Prop}
    (q : Q (.bool (!decide (k ∈ L.map (·.2)))) { s with toks := s.toks + (k.length + 1) }) : wpAny (model P w) A (compareOp .NotIn (.ref x) (.ref a)) Q E s :=
  wpAny_bind (has_tup R hx hu (wpAny_pure q))
theorem put_tup (R : SetTR P w s.heap a L es ep t) {x : Addr} {k : List Int} (hx : IsT P w s.heap k x) (hu : A.units + 64 < cLine) (few : L.length + 1 < 64) {Q : Value → Shared → Prop}
    (q : ∀ h' L' es' ep' t', Heap.SameBut a s.heap h' → SetTR P w h' a L' es' ep' t' → (k ∈ L.map (·.2) → L' = L) → (k ∉ L.map (·.2) → L'.Perm ((x, k) :: L)) → Q .none { s with heap := h', toks := s.toks + (k.length + 1) }) :
    wpAny (model P w) A (call (.builtin "set.add") [.ref a, .ref x]) Q E s := by
  have ty := setTyp R
  refine wpAny_call_entry F.slot_set_add ty F.entry_set_add ?_ (F.args_set_add_2 _ _)
  unfold Builtin.«set.add» Builtin.Frozenset.oneOther Builtin.Frozenset.addrOf setAdd
  refine wpAny_bind (wpAny_pure (wpAny_bind (wpAny_holding (wpAny_bind ?_))))
  refine wpAny_pyHash_tuple (by show A.units + 1 < cLine; omega) hx ?_
  refine add_at (s := { s with toks := s.toks + (k.length + 1) }) R hx (by show A.units + 1 < cLine; omega) few fun b h' L' es' ep' t' sb R' e1 e2 => ?_
  exact wpAny_pure ⟨_, rfl, q h' L' es' ep' t' sb R' e1 e2⟩
end
section
variable {X : Cx} {pins : List (Addr × Obj)} {σ : L2.St} {H : Hp} {s : Shared}
/-- the set at a, with its members where they lie -/
def HoldT (K : PySem.W.Frag) (P : Program) (w : World) (H : Hp) (a : Addr) (Ls : List (Addr × List Int)) : Prop := H a = some (SetTO P w a Ls) ∧ ∀ m ∈ Ls, SqT K H m.1 (m.2.map V.int)
theorem HoldT.full {a : Addr} {Ls : List (Addr × List Int)} (I : Inv X pins σ H s) (h : HoldT X.K X.prog X.w H a Ls) : ∃ es ep t, SetTR X.prog X.w s.heap a Ls es ep t :=
  SetT0.full (I.hok a _ h.1).1 fun m hm => I.isT (h.2 m hm)
def rSet0T (P : Program) (w : World) : List V → Hp → VK → Prop := fun xs H Q => xs = [] ∧ ∀ a, H a = none → Q (.ref a) (upd H a (SetTO P w a []))
theorem cr_set0T : CallR X (.type "set") (rSet0T X.prog X.w) := fun pins s σ H xs us Q I r h => by
  obtain ⟨e, q⟩ := h
  subst e
  cases r
  exact setR_new fun _ => ⟨.ref _, _, I.laid (t' := s.toks) (fun b u e => Heap.get?_push_of_some _ e) (Nat.le_refl _) (setTO_new (setTR_fresh (Heap.get?_push_size _ rfl)).t0), rfl, q _ (I.hok.fresh (Nat.le_refl _))⟩
def rInT (K : PySem.W.Frag) (P : Program) (w : World) (neg : Bool) : R2 := fun x y H Q => ∃ (b a : Addr) (k : List Int) (Ls : List (Addr × List Int)), x = .ref b ∧ y = .ref a ∧ SqT K H b (k.map V.int) ∧ HoldT K P w H a Ls ∧
  Q (.bl (if neg then !decide (k ∈ Ls.map (·.2)) else decide (k ∈ Ls.map (·.2)))) H
theorem op_notinT (hu : X.A.units + 64 < cLine) : OpR X (compareOp .NotIn) (rInT X.K X.prog X.w true) := fun pins s σ H x y v u Q I rx ry h => by
  obtain ⟨b, a, k, Ls, rfl, rfl, hb, ha, q⟩ := h
  cases rx; cases ry
  obtain ⟨es, ep, t, R⟩ := ha.full I
  exact notin_tup R (I.isT hb) hu ⟨.bl _, H, I.tok _, rfl, q⟩
def rAddT (K : PySem.W.Frag) (P : Program) (w : World) : V → List V → Hp → VK → Prop := fun x xs H Q => ∃ (a b : Addr) (k : List Int) (Ls : List (Addr × List Int)), x = .ref a ∧ xs = [.ref b] ∧ SqT K H b (k.map V.int) ∧ HoldT K P w H a Ls ∧ Ls.length + 1 < 64 ∧
  ∀ Ls', (k ∈ Ls.map (·.2) → Ls' = Ls) → (k ∉ Ls.map (·.2) → Ls'.Perm ((b, k) :: Ls)) → Q .non (upd H a (SetTO P w a Ls'))
theorem mt_addT (hu : X.A.units + 64 < cLine) : MtR X "set.add" (rAddT X.K X.prog X.w) := fun pins s σ H x xs v us Q I rx rs h => by
  obtain ⟨a, b, k, Ls, rfl, rfl, hb, ha, few, q⟩ := h
  cases rx
  cases rs with
  | cons r1 r2 =>
    cases r2
    cases r1
    obtain ⟨es, ep, t, R⟩ := ha.full I
    refine put_tup R (I.isT hb) hu few fun h' Ls' es' ep' t' sb R' e1 e2 => ?_
    obtain ⟨ob, ho, _⟩ := R'.ob
    exact ⟨.non, _, I.write (e := a) (by rw [ha.1]; trivial) (.inl rfl) (fun c u hc hu => (sb.2 c hc).trans hu) ⟨ob, ho⟩ (setTO_new R'.t0), rfl, q Ls' e1 e2⟩
end
section
variable {K : PySem.W.Frag} {P : Program} {w : World} {ds : List SD} {ms : List MD} {R : RS} {L M : List Addr} {H : Hp}
/-! ### a set of rows of numbers, as it stands in the store -/
abbrev rowI (k : List Int) : PyData := .tuple (k.map .int)
def isS (P : Program) (w : World) (ks : List (List Int)) : List Addr → Hp → Addr → Prop := fun M H p => ∃ Ls : List (Addr × List Int), H p = some (SetTO P w p Ls) ∧ (∀ m ∈ Ls, Rp M H (.ref m.1) (rowI m.2)) ∧ (Ls.map (·.2)).Perm ks
theorem isS_stb {ks : List (List Int)} : StbO (isS P w ks) := fun M M' H H' p t e ⟨Ls, h1, h2, h3⟩ => ⟨Ls, e.trans h1, fun m hm => Rp.to t _ _ (h2 m hm), h3⟩
theorem row_sq {b : Addr} {k : List Int} (h : Rp M H (.ref b) (rowI k)) : SqT K H b (k.map V.int) := by
  cases h with
  | tup n e r =>
    rw [← RpA.ints_inv r]
    exact SqT.of e
theorem row_ref {x : V} {k : List Int} (h : Rp M H x (rowI k)) : ∃ b, x = .ref b := by
  cases h
  exact ⟨_, rfl⟩
theorem rr_inT {a b : SD} {neg : Bool} (h : ∃ (k : List Int) (j : Nat) (ks : List (List Int)), a = .d (rowI k) ∧ b = .o j ∧ ms[j]? = some (.x (isS P w ks)) ∧ R (.d (.bool (if neg then !decide (k ∈ ks) else decide (k ∈ ks)))) ms) : RR K (rInT K P w neg) a b ms R := fun L M H x y hA ha hb Q q => by
  obtain ⟨k, j, ks, rfl, rfl, hm, r⟩ := h
  obtain ⟨p, rfl, hp, _⟩ := hb
  obtain ⟨⟨Ls, e1, e2, e3⟩, _⟩ := hA.ok j p _ hp hm
  have ha : Rp M H x (rowI k) := ha
  obtain ⟨b, rfl⟩ := row_ref ha
  have mem : decide (k ∈ Ls.map (·.2)) = decide (k ∈ ks) := decide_eq_decide.mpr e3.mem_iff
  refine ⟨b, p, k, Ls, rfl, rfl, row_sq ha, ⟨e1, fun m hm => row_sq (e2 m hm)⟩, ?_⟩
  rw [mem]
  exact q (.d (.bool _)) _ H ms (Wk.refl L H) ⟨hA, .bl _⟩ r
/-- S.add(x) -/
def tAddT (K : PySem.W.Frag) (P : Program) (w : World) (to : TE) (t : TA) : TE := fun σ H Q => to σ H fun x H1 => (∃ a Ls, x = .ref a ∧ H1 a = some (SetTO P w a Ls)) ∧ t σ H1 fun xs H2 => rAddT K P w x xs H2 Q
theorem e_addT {to te : TE} (h : E K to ds ms fun s ms1 => ∃ j ks0, s = .o j ∧ ms1[j]? = some (.x (isS P w ks0)) ∧ E K te ds ms1 fun x ms2 => ∃ k ks, dd x = .d (rowI k) ∧ ms2[j]? = some (.x (isS P w ks)) ∧ ks.length < 63 ∧ R (.d .none) (ms2.set j (.x (isS P w (if k ∈ ks then ks else k :: ks))))) :
    E K (tAddT K P w to (tCons te tNil)) ds ms R := fun L M σ H hS hA Q q =>
  h L M σ H hS hA _ fun s v H1 ms1 w1 o ⟨j, ks0, e, m0, h2⟩ => by
    subst e
    obtain ⟨a1, p, rfl, hp, _⟩ := o
    have hpL : p ∈ L := List.mem_of_getElem? hp
    obtain ⟨⟨L0, f1, _, _⟩, _⟩ := a1.ok j p _ hp m0
    refine ⟨⟨p, L0, rfl, f1⟩, ?_⟩
    refine h2 L M σ H1 (hS.mono hA w1) a1 _ fun x y H2 ms2 w2 o2 ⟨k, ks, ed, em, few, r⟩ => ?_
    have a2 := o2.at
    have ry := o2.sl
    rw [ed] at ry
    have ry : Rp M H2 y (rowI k) := ry
    obtain ⟨b, rfl⟩ := row_ref ry
    obtain ⟨⟨Ls, g1, g2, g3⟩, _⟩ := a2.ok j p _ hp em
    have ln : Ls.length = ks.length := by have := g3.length_eq; rwa [List.length_map] at this
    refine ⟨p, b, k, Ls, rfl, rfl, row_sq ry, ⟨g1, fun m hm => row_sq (g2 m hm)⟩, by omega, fun Ls' i1 i2 => ?_⟩
    refine q (.d .none) .non _ _ ((w1.trans w2).trans (Wk.mut hpL g1 rfl)) ⟨a2.putO (x := .x (isS P w (if k ∈ ks then ks else k :: ks))) hp g1 rfl trivial fun t => ⟨⟨Ls', upd_same, fun m hm => Rp.to t _ _ ?_, ?_⟩, isS_stb⟩, .non⟩ r
    · by_cases z : k ∈ Ls.map (·.2)
      · rw [i1 z] at hm
        exact g2 m hm
      · rcases List.mem_cons.mp ((i2 z).mem_iff.mp hm) with rfl | y
        · exact ry
        · exact g2 m y
    · by_cases z : k ∈ Ls.map (·.2)
      · rw [i1 z, if_pos (g3.mem_iff.mp z)]
        exact g3
      · rw [if_neg fun y => z (g3.mem_iff.mpr y)]
        exact ((i2 z).map _).trans (g3.cons k)
/-! ### a new one, until the block's end -/
abbrev tNewO (P : Program) (w : World) : TE := tCB (rSet0T P w) tNil
def frzSO (n : Nat) : SD → SD
  | .o k => if k = n then .u else .o k
  | s => s
def Po.frzO (Z : Po) (P : Program) (w : World) (n : Nat) : Po where
  nx := fun ds' ms' => ∃ ms1 ks, ms' = ms1 ++ [.x (isS P w ks)] ∧ ms1.length = n ∧ Z.nx (ds'.map (frzSO n)) ms1
  rt := fun s ms' => ∃ ms1 ks, ms' = ms1 ++ [.x (isS P w ks)] ∧ ms1.length = n ∧ (∃ x, s = .d x ∨ ∃ fs, s = .f fs) ∧ Z.rt s ms1
  bk := fun ds' ms' => ∃ ms1 ks, ms' = ms1 ++ [.x (isS P w ks)] ∧ ms1.length = n ∧ Z.bk (ds'.map (frzSO n)) ms1
  ct := fun ds' ms' => ∃ ms1 ks, ms' = ms1 ++ [.x (isS P w ks)] ∧ ms1.length = n ∧ Z.ct (ds'.map (frzSO n)) ms1
theorem Sl.frzO {σ : L2.St} {p : Addr} {ks : List (List Int)} {ms1 : List MD} (a : At (L ++ [p]) (M ++ [p]) (ms1 ++ [.x (isS P w ks)]) H) (h : Sl K (L ++ [p]) (M ++ [p]) σ H ds) : Sl K L M σ H (ds.map (frzSO ms1.length)) := fun i s e => by
  have hl : L.length = ms1.length := by have := a.ln; simp at this; exact this
  obtain ⟨⟨Ls, ep, _, _⟩, _⟩ := a.ok L.length p (.x (isS P w ks)) (by simp) (by rw [hl]; simp)
  have ob : IsOb H p := ⟨_, ep, rfl⟩
  have low : ∀ {k : Nat} {q : Addr}, (L ++ [p])[k]? = some q → q ≠ p → L[k]? = some q := fun {k q} e1 n => by
    by_cases z : k < L.length
    · rwa [List.getElem?_append_left z] at e1
    · rw [List.getElem?_append_right (by omega)] at e1
      exact absurd (List.mem_singleton.mp (List.mem_of_getElem? e1)) n
  rw [List.getElem?_map] at e
  cases q : ds[i]? with
  | none => rw [q] at e; cases e
  | some s0 =>
    rw [q] at e
    have e' : frzSO ms1.length s0 = s := Option.some.inj e
    subst e'
    have lt : i < σ.length := h.lt (List.getElem?_eq_some_iff.mp q).1
    have at_ := h i _ q
    cases s0 with
    | u => exact lt
    | f es => exact at_.elim fun _ z => z.2.elim
    | g es => exact at_.elim fun _ z => z.2.elim
    | d x => exact at_.elim fun v z => ⟨v, z.1, Rp.to to_less _ _ z.2⟩
    | v x => exact at_.elim fun v z => ⟨v, z.1, z.2⟩
    | w φ => exact at_.elim fun v z => ⟨v, z.1, z.2.2 _ _ _ _ _ to_less z.2.1, z.2.2⟩
    | h φ =>
      obtain ⟨v, e1, b, e2, n, e3⟩ := at_
      exact ⟨v, e1, b, e2, fun z => n (List.mem_append_left _ z), e3⟩
    | s ns =>
      obtain ⟨v, e1, b, e2, e3⟩ := at_
      exact ⟨v, e1, b, e2, e3.imp (fun z => ⟨fun y => z.1 (List.mem_append_left _ y), z.2⟩) id⟩
    | m k =>
      obtain ⟨v, e1, b, e2, e3, xs, e4⟩ := at_
      exact ⟨v, e1, b, e2, low e3 fun z => ob.notL (z ▸ e4), xs, e4⟩
    | q k =>
      obtain ⟨v, e1, b, e2, e3, e4⟩ := at_
      refine ⟨v, e1, b, e2, low e3 fun z => ?_, e4⟩
      obtain ⟨o1, f1, f2⟩ := e4
      rw [z, ep] at f1
      cases f1
      rcases f2 with f2 | f2 <;> cases f2
    | o k =>
      by_cases hk : k = ms1.length
      · rw [show frzSO ms1.length (.o k) = .u from if_pos hk]
        exact lt
      · rw [show frzSO ms1.length (.o k) = .o k from if_neg hk]
        obtain ⟨v, e1, b, e2, e3, e4⟩ := at_
        refine ⟨v, e1, b, e2, ?_, e4⟩
        have h1 := (List.getElem?_eq_some_iff.mp e3).1
        rw [List.length_append] at h1
        have h2 : k < L.length + 1 := h1
        rwa [List.getElem?_append_left (by omega)] at e3
theorem s_newO {i : Nat} {u : TS} {Z : Po} (h : S K u (ds.set i (.o ms.length)) (ms ++ [.x (isS P w [])]) (Z.frzO P w ms.length)) : S K (tSeq (tAsg (tNewO P w) (gName i)) u) ds ms Z := fun L M σ H hS hA D n r b c => by
  refine ⟨rfl, fun p hp => ?_⟩
  have np := hA.fresh hp
  have a1 : At (L ++ [p]) (M ++ [p]) (ms ++ [.x (isS P w [])]) (upd H p (SetTO P w p [])) := hA.growO hp trivial fun _ => ⟨⟨[], upd_same, nofun, .nil⟩, isS_stb⟩
  have w0 : Wk L H (upd H p (SetTO P w p [])) := Wk.new hp
  have t : To M (M ++ [p]) H (upd H p (SetTO P w p [])) := to_new hA hp w0
  have hS1 : Sl K (L ++ [p]) (M ++ [p]) (σ.set i (some (.ref p))) (upd H p (SetTO P w p [])) (ds.set i (.o ms.length)) := by
    refine (hS.to t w0.kd fun k q e => ?_).set i ⟨p, rfl, by rw [← hA.ln]; simp, ⟨_, upd_same, rfl⟩⟩
    rw [List.getElem?_append_left (List.getElem?_eq_some_iff.mp e).1]
    exact e
  have wk : ∀ {H2 : Hp}, Wk (L ++ [p]) (upd H p (SetTO P w p [])) H2 → Wk L H H2 := fun {H2} w2 => by
    constructor
    · intro x y nx ex
      have hx : x ≠ p := ne_of_none ex hp
      exact w2 x y (fun z => (List.mem_append.mp z).elim nx fun z => hx (List.mem_singleton.mp z)) (by rw [upd_ne hx]; exact ex)
    · intro x y ex
      exact w2.kd x y (by rw [upd_ne (ne_of_none ex hp)]; exact ex)
  have go : ∀ {N : List SD → List MD → Prop} {C : L2.St → Hp → Prop}, Nx K L M H N C → Nx K (L ++ [p]) (M ++ [p]) (upd H p (SetTO P w p [])) (fun ds' ms' => ∃ ms1 ks, ms' = ms1 ++ [.x (isS P w ks)] ∧ ms1.length = ms.length ∧ N (ds'.map (frzSO ms.length)) ms1) C := by
    intro N C nn σ2 H2 ds2 ms2 w2 s2 a2 ⟨ms3, m3, e3, l3, n3⟩
    subst e3
    rw [← l3] at n3
    exact nn σ2 H2 _ ms3 (wk w2) (s2.frzO a2) (a2.drop hA.sub) n3
  refine h (L ++ [p]) (M ++ [p]) _ _ hS1 a1 D (go n) ?_ (go b) (go c)
  rintro s2 v2 H2 ms2 w2 o2 ⟨ms3, m3, rfl, l3, ⟨x, hx⟩, n3⟩
  refine r s2 v2 H2 ms3 (wk w2) ?_ n3
  rcases hx with rfl | ⟨fs, rfl⟩
  · exact ⟨o2.1.drop hA.sub, Rp.to to_less _ _ o2.2⟩
  · obtain ⟨q, rfl, hq, nq, aq, _⟩ := o2
    have nqM : q ∉ M := fun z => nq (List.mem_append_left _ z)
    have nqp : q ≠ p := fun z => nq (List.mem_append_right _ (by simp [z]))
    rw [upd_ne nqp] at hq
    exact ⟨q, rfl, hq, nqM, At.dropMid rfl aq hA.sub, hA.sub⟩
end
section
variable {X : Cx} {ob x : Expr} {to te : TE} {q1 q2 : Pos}
theorem pe_addT (hu : X.A.units + 64 < cLine) (ho : PE X ob to) (hx : PE X x te) (at_ : attributeBase ob "add" X.env (eval ob X.env) = eval ob X.env := by rfl) (row : (q1.endLine == q2.line) = true := by rfl)
    (few : ((backTo q2 (starEach [x] X.env)).all (fun y => !y.1) && (backToKw q2 (keywordEach [] X.env)).all (fun y => y.1.isSome) && decide (1 + 0 + 0 < 30)) = true := by rfl) (one : starEach [x] X.env = [(false, eval x X.env)] := by rfl) :
    PE X (.Call (.Attribute ob "add" q1) [x] [] q2) (tAddT X.K X.prog X.w to (tCons te tNil)) := ⟨fun pins s σ H Q I h => by
  refine wpAny_Call_method_late at_ few row rfl (thn (ho.run pins s σ H _ I h) fun v s1 ⟨y, H1, I1, r1, ⟨a, Ls, ey, ha⟩, z⟩ => ?_)
  subst ey
  cases r1
  obtain ⟨es, ep, t, ⟨o, g1, g2, _⟩, _⟩ := SetT0.ex (I1.hok a _ ha).1
  refine ⟨"set", "set.add", F.plainAttrs_set, F.slot_set_add, F.type_set_add, ⟨o, g1, g2.1⟩, fun b e => by cases e; exact ⟨o, g1, g2.2.1⟩, ?_⟩
  have args := (pa_cons hx pa_nil one).run q2 pins s1 σ H1 _ I1 z
  rw [one] at args ⊢
  exact Calls.callWith_builtin rfl (Calls.evalArgs_plain (thn args fun us s2 ⟨vs, H2, I2, r2, k2⟩ => mt_addT hu pins s2 σ H2 (.ref a) vs (.ref a) us Q I2 rfl r2 k2))⟩
end
end Hc

namespace Hc
open PySem PySem.Spec PyProof.Rows L2
/-! ### a dict of rows that is handed on and stays as it is -/
section
variable {K : PySem.W.Frag} {ds : List SD} {ms : List MD} {R : RS} {L M : List Addr} {H : Hp}
def isT (m : List (List Key × PyData)) : List Addr → Hp → V → Prop := fun M H v => ∃ (a : Addr) (kvs : List (List Key × V)), v = .ref a ∧ a ∉ M ∧ H a = some (.dT kvs) ∧ Rt M H kvs m
theorem isT_stb {m : List (List Key × PyData)} : Stb (isT m) := fun M M' H H' v t ⟨a, kvs, e, n, h1, h2⟩ => ⟨a, kvs, e, (t _ _ n h1).1, (t _ _ n h1).2, h2.toP t⟩
theorem e_dgetW {td ty : TE} (h : E K td ds ms fun s ms1 => ∃ m, s = .w (isT m) ∧ E K ty ds ms1 fun y ms2 => ∃ key d, dd y = .d (rowK key) ∧ valT m key = some d ∧ R (.d d) ms2) : E K (tDGet td ty) ds ms R := fun L M σ H hS hA Q q =>
  h L M σ H hS hA _ fun s x H1 ms1 w1 o1 ⟨m, es, h1⟩ => by
    subst es
    have a1 := o1.1
    obtain ⟨⟨a, kvs, rfl, n, e1, r1⟩, _⟩ := o1.2
    refine h1 L M σ H1 (hS.mono hA w1) a1 _ fun y z H2 ms2 w2 o2 ⟨key, d, ey, hv, r⟩ => ?_
    have a2 := o2.at
    have oz := o2.sl
    rw [ey] at oz
    obtain ⟨b, rfl, eb⟩ := row_key oz
    have t := a1.wk w2
    obtain ⟨v, e2, e3⟩ := (r1.toP t).val key hv
    exact ⟨a, v, rfl, .inr ⟨kvs, key, b, .inl (t _ _ n e1).2, rfl, eb, e2.symm⟩, q (.d d) v H2 ms2 (w1.trans w2) ⟨a2, e3⟩ r⟩
/-! `x = {}` whose block may give the dict back -/
def Po.frzW (P : Po) (n : Nat) : Po where
  nx := fun ds' ms' => ∃ ms1 m, ms' = ms1 ++ [.t m] ∧ ms1.length = n ∧ P.nx (ds'.map (frzST n)) ms1
  rt := fun s ms' => ∃ ms1 m, ms' = ms1 ++ [.t m] ∧ ms1.length = n ∧ ((∃ x, (s = .d x ∨ ∃ fs, s = .f fs) ∧ P.rt s ms1) ∨ (s = .q n ∧ P.rt (.w (isT m)) ms1))
  bk := fun ds' ms' => ∃ ms1 m, ms' = ms1 ++ [.t m] ∧ ms1.length = n ∧ P.bk (ds'.map (frzST n)) ms1
  ct := fun ds' ms' => ∃ ms1 m, ms' = ms1 ++ [.t m] ∧ ms1.length = n ∧ P.ct (ds'.map (frzST n)) ms1
theorem s_newW {i : Nat} {u : TS} {P : Po} (h : S K u (ds.set i (.q ms.length)) (ms ++ [.t []]) (P.frzW ms.length)) : S K (tSeq (tAsg tDNewT (gName i)) u) ds ms P := fun L M σ H hS hA D n r b c p hp => by
  have np := hA.fresh hp
  have w : Wk L H (upd H p (.dT [])) := Wk.new hp
  have hS1 : Sl K (L ++ [p]) (M ++ [p]) (σ.set i (some (.ref p))) (upd H p (.dT [])) (ds.set i (.q ms.length)) := by
    refine (hS.to (to_new hA hp w) w.kd fun k q e => ?_).set i ⟨p, rfl, by rw [← hA.ln]; simp, ⟨_, upd_same, .inr rfl⟩⟩
    rw [List.getElem?_append_left (List.getElem?_eq_some_iff.mp e).1]
    exact e
  have wk : ∀ {H2 : Hp}, Wk (L ++ [p]) (upd H p (.dT [])) H2 → Wk L H H2 := fun {H2} w2 => by
    constructor
    · intro x y nx ex
      have hx : x ≠ p := ne_of_none ex hp
      exact w2 x y (fun z => (List.mem_append.mp z).elim nx fun z => hx (List.mem_singleton.mp z)) (by rw [upd_ne hx]; exact ex)
    · intro x y ex
      exact w2.kd x y (by rw [upd_ne (ne_of_none ex hp)]; exact ex)
  have go : ∀ {N : List SD → List MD → Prop} {C : L2.St → Hp → Prop}, Nx K L M H N C → Nx K (L ++ [p]) (M ++ [p]) (upd H p (.dT [])) (fun ds' ms' => ∃ ms1 m, ms' = ms1 ++ [.t m] ∧ ms1.length = ms.length ∧ N (ds'.map (frzST ms.length)) ms1) C := by
    intro N C nn σ2 H2 ds2 ms2 w2 s2 a2 ⟨ms3, m3, e3, l3, n3⟩
    subst e3
    rw [← l3] at n3
    exact nn σ2 H2 _ ms3 (wk w2) (s2.frzT a2) (a2.drop hA.sub) n3
  refine h (L ++ [p]) (M ++ [p]) _ _ hS1 (hA.growO hp trivial fun _ => ⟨[], upd_same, .nil⟩) D (go n) ?_ (go b) (go c)
  rintro s2 v2 H2 ms2 w2 o2 ⟨ms3, m3, rfl, l3, n3⟩
  rcases n3 with ⟨x, rfl | ⟨fs, rfl⟩, n3⟩ | ⟨rfl, n3⟩
  · exact r (.d x) v2 H2 ms3 (wk w2) ⟨o2.1.drop hA.sub, Rp.to to_less _ _ o2.2⟩ n3
  · refine r _ v2 H2 ms3 (wk w2) ?_ n3
    obtain ⟨q, rfl, hq, nq, aq, _⟩ := o2
    have nqM : q ∉ M := fun z => nq (List.mem_append_left _ z)
    have nqp : q ≠ p := fun z => nq (List.mem_append_right _ (by simp [z]))
    rw [upd_ne nqp] at hq
    exact ⟨q, rfl, hq, nqM, At.dropMid rfl aq hA.sub, hA.sub⟩
  · obtain ⟨a2, p2, rfl, hp2, _⟩ := o2
    have ll : L.length = ms3.length := by rw [hA.ln, l3]
    have e2 : p2 = p := by
      rw [← l3, ← ll] at hp2
      simpa using hp2.symm
    subst e2
    obtain ⟨kvs, f1, f2⟩ := a2.getT hp2 (m := m3) (by rw [← l3]; simp)
    exact r (.w (isT m3)) _ H2 ms3 (wk w2) ⟨a2.drop hA.sub, ⟨_, kvs, rfl, np, f1, f2.toP to_less⟩, isT_stb⟩ n3
end
end Hc

namespace Hc
open PySem PySem.Spec PyProof.Rows L2
/-! ### zip(xs, t) of a list and a tuple -/
def ItN (K : PySem.W.Frag) (a b : Addr) : It where
  go := fun i H => ∃ (xs : List V) (ys : List V) (x : V) (y : V), (SqL K H a xs ∧ xs[i]? = some x) ∧ SqT K H b ys ∧ ys[i]? = some y
  yld := fun i H v H2 => ∃ (N : Addr) (x : V) (y : V), v = .ref N ∧ H N = none ∧ H2 = upd H N (.tup [x, y]) ∧ (∀ xs : List V, SqL K H a xs → xs[i]? = some x) ∧ ∀ ys : List V, SqT K H b ys → ys[i]? = some y
  stop := fun i H => ∃ (xs : List V) (ys : List V), SqL K H a xs ∧ SqT K H b ys ∧ i = min xs.length ys.length
theorem turn_zipN {P : Program} {w : World} {K : PySem.W.Frag} {es : List Expr} {n : Nat} {q : Pos} {a b z t o c d : Addr} (hap : Apt z t o c d a b) :
    Turn P w K (.Tuple es n q) (ItN K a b) [z, t, o, c, d] z (fun i h => (IsZip h z t o .none ∧ IsTupOf2 h t (.ref c) (.ref d)) ∧ (∃ u v, IsTupOf2 h o u v) ∧ h.IsListIter c a i ∧ h.IsTupleIter d b i) where
  mem := List.mem_cons_self ..
  obj := fun i h tn p hp => by
    obtain ⟨⟨h1, h2⟩, ⟨u, v, h3⟩, ⟨o4, g4, _, d4⟩, o5, g5, _, d5⟩ := tn
    simp only [List.mem_cons, List.not_mem_nil, or_false] at hp
    rcases hp with rfl | rfl | rfl | rfl | rfl
    · exact ⟨_, h1, nofun⟩
    · exact ⟨_, h2, nofun⟩
    · exact ⟨_, h3, nofun⟩
    · exact ⟨o4, g4, fun v y => by rw [d4] at y; cases y⟩
    · exact ⟨o5, g5, fun v y => by rw [d5] at y; cases y⟩
  keep := fun i h h2 tn k => by
    obtain ⟨⟨h1, h2⟩, ⟨u, v, h3⟩, h4, h5⟩ := tn
    exact ⟨⟨k z (by simp) _ h1, k t (by simp) _ h2⟩, ⟨u, v, k o (by simp) _ h3⟩, h4.at fun p y => k c (by simp) p y, h5.at fun p y => k d (by simp) p y⟩
  item := by
    intro X e1 e2 e3 cm i pins s σ H Ex I fp tn gg
    subst e1 e2 e3
    obtain ⟨⟨h1, h2⟩, ⟨u0, v0, h3⟩, h4, h5⟩ := tn
    obtain ⟨xs, ys, x, y, ⟨sq, hx⟩, sl, hy⟩ := gg
    obtain ⟨its, rv, tp, _⟩ := I.list sq
    obtain ⟨jts, rw', lp, _⟩ := I.tuple sl
    obtain ⟨u, hu, ru⟩ := rv.get hx
    obtain ⟨v, hv, rv2⟩ := rw'.get hy
    have sep := hap.sep
    have zl := Heap.lt_size h1
    have lt1 : i < its.toArray.size := by
      have := (List.getElem?_eq_some_iff.mp hu).1
      simpa using this
    have lt2 : i < jts.toArray.size := by
      have := (List.getElem?_eq_some_iff.mp hv).1
      simpa using this
    have hnd : X.A.in1.handled = none := I.ok.hd cm
    have ac : a ≠ c := fun z' => hap.na (by simp [z'])
    have bd : b ≠ d := fun z' => hap.nb (by simp [z'])
    refine wpAny_pyNext_zipD2_item sep (Draws.list hnd c a ac its.toArray) (Draws.tuple hnd d b bd jts.toArray) h1 h2 h3 ⟨h4, tp.isList⟩ ⟨h5, lp⟩ lt1 lt2 fun x1 x2 g tk p1 p2 k1 k3 k4 k5 hT _ kp => ?_
    have q1 : x1 = u := by
      have y1 : its.toArray[i]? = some x1 := p1
      rw [List.getElem?_toArray, hu] at y1
      exact (Option.some.inj y1).symm
    have q2 : x2 = v := by
      have y1 : jts.toArray[i]? = some x2 := p2
      rw [List.getElem?_toArray, hv] at y1
      exact (Option.some.inj y1).symm
    subst q1 q2
    refine ⟨_, rfl, wpAny_letOwnedTupleGo_zip (s := { s with heap := g, toks := tk }) k1 fun g3 z3 sb => ?_⟩
    have hT3 : g3.get? s.heap.objs.size = some { cls := .type "tuple", data := .seq #[x1, x2] } := (sb.2 _ (Nat.ne_of_gt zl)).trans hT
    have ok : ObjOk X.prog X.w (upd H s.heap.objs.size (.tup [x, y])) g3 s.heap.objs.size (.tup [x, y]) :=
      ⟨Nat.le_of_ble_eq_true rfl, [x1, x2], .cons ru (.cons rv2 .nil), ⟨_, hT3, rfl, _, rfl⟩⟩
    have ne4 : ∀ p, p ∉ [z, t, o, c, d] → p ≠ z ∧ p ≠ o ∧ p ≠ c ∧ p ≠ d := fun p np => by
      simp only [List.mem_cons, List.not_mem_nil, or_false, not_or] at np
      exact ⟨np.1, np.2.2.1, np.2.2.2.1, np.2.2.2.2⟩
    have I3 : L2.Inv X pins σ (upd H s.heap.objs.size (.tup [x, y])) { s with heap := g3, toks := tk } :=
      I.turnedNew (ch := [z, t, o, c, d]) (fun p ob np y => by
        obtain ⟨n1, n2, n3, n4⟩ := ne4 p np
        exact (sb.2 p n1).trans (kp p ob n1 n2 n3 n4 y)) fp (Nat.le_refl _) ok
    refine ⟨.ref s.heap.objs.size, _, I3, rfl, ⟨_, x, y, rfl, I.hok.fresh (Nat.le_refl _), rfl, fun l hl => by rw [I.list_inj hl sq]; exact hx, fun l hl => by rw [I.tuple_inj hl sl]; exact hy⟩, ⟨⟨z3, ?_⟩, ⟨x1, x2, ?_⟩, ?_, ?_⟩, fun p hp => ?_⟩
    · exact (sb.2 _ sep.TIz).trans (kp _ _ sep.TIz sep.TITO sep.TIi1 sep.TIi2 h2)
    · exact (sb.2 _ sep.TOz).trans k3
    · exact k4.1.at fun ob y => (sb.2 _ (Ne.symm sep.zi1)).trans y
    · exact k5.1.at fun ob y => (sb.2 _ (Ne.symm sep.zi2)).trans y
    · have lb : p < s.heap.objs.size := by
        simp only [List.mem_cons, List.not_mem_nil, or_false] at hp
        rcases hp with rfl | rfl | rfl | rfl | rfl
        · exact zl
        · exact Heap.lt_size h2
        · exact Heap.lt_size h3
        · obtain ⟨_, g4, _⟩ := h4
          exact Heap.lt_size g4
        · obtain ⟨_, g5, _⟩ := h5
          exact Heap.lt_size g5
      rw [upd_ne (Nat.ne_of_lt lb)]
      exact (fp p hp).1
  done := by
    intro X e1 e2 e3 cm i pins s σ H Ex I fp tn gg
    subst e1 e2 e3
    obtain ⟨⟨h1, h2⟩, ⟨u0, v0, h3⟩, h4, h5⟩ := tn
    obtain ⟨xs, ys, sq, sl, hi⟩ := gg
    obtain ⟨its, rv, tp, _⟩ := I.list sq
    obtain ⟨jts, rw', lp, _⟩ := I.tuple sl
    have l1 := rv.length
    have l2 := rw'.length
    have sep := hap.sep
    have hnd : X.A.in1.handled = none := I.ok.hd cm
    have ac : a ≠ c := fun z' => hap.na (by simp [z'])
    have bd : b ≠ d := fun z' => hap.nb (by simp [z'])
    refine wpAny_pyNext_zipD2_end sep (Draws.list hnd c a ac its.toArray) (Draws.tuple hnd d b bd jts.toArray) h1 h2 h3 ⟨h4, tp.isList⟩ ⟨h5, lp⟩ (by simp; omega) (by simp; omega) (by simp; omega) fun g tk kp => ⟨rfl, I.turnedL (ch := [z, t, o, c, d]) (fun p ob np y => ?_) fp⟩
    simp only [List.mem_cons, List.not_mem_nil, or_false, not_or] at np
    exact kp p ob np.1 np.2.2.1 np.2.2.2.1 np.2.2.2.2 y
  self := fun A i s Q Ex tn k => wpAny_pyIter_zip tn.1.1 k
def iZipN (K : PySem.W.Frag) (ta : TA) : TI := fun σ H R => ta σ H fun vs H1 => ∃ (a b : Addr) (xs ys : List V), (vs = [.ref a, .ref b] ∧ SqL K H1 a xs) ∧ SqT K H1 b ys ∧ R (ItN K a b) H1
theorem pi_zipN {X : Cx} {ex ey : Expr} {ta : TA} {p1 p2 p3 : Pos} {es : List Expr} {n : Nat} (hg : Gl X "zip") (hm : X.mg "zip" = none) (ha : PA X [ex, ey] ta)
    (h1 : starEach [ex, ey] X.env = (false, eval ex X.env) :: starEach [ey] X.env := by rfl) (h2 : (backTo p2 (starEach [ey] X.env)).any (·.1) = false := by rfl) :
    PI X (.Tuple es n p3) (.Call (.Name "zip" p1) [ex, ey] [] p2) (iZipN X.K ta) := by
  constructor
  intro pins s σ H R I h
  refine Call_ (ld_blt I hg hm boot_zip (PyProof.Rows.callWith_type1 (thn (ha.run p2 pins s σ H _ I h) ?_) h1 h2))
  rintro us s1 ⟨vs, H1, I1, r1, a, b, xs, ys, ⟨rfl, sq⟩, sl, q⟩
  cases r1 with
  | cons r rr =>
    cases rr with
    | cons r' rr =>
      cases rr
      cases r
      cases r'
      obtain ⟨its, rv, tp, _⟩ := I1.list sq
      obtain ⟨jts, rw', lp, _⟩ := I1.tuple sl
      have la : a < s1.heap.objs.size := by
        obtain ⟨_, g, _⟩ := tp.isList
        exact Heap.lt_size g
      have lb : b < s1.heap.objs.size := by
        obtain ⟨_, g, _⟩ := id (show s1.heap.IsTuple b jts.toArray from lp)
        exact Heap.lt_size g
      refine zip_begins2 (begins_list a its.toArray) (begins_tuple b jts.toArray) tp.isList lp fun hp z1 z2 z3 z4 z5 _ kp => wpAny_pyIter_zip z1 ?_
      have fr : ∀ p ∈ [s1.heap.objs.size + 4, s1.heap.objs.size + 2, s1.heap.objs.size + 3, s1.heap.objs.size, s1.heap.objs.size + 1], FpOk X pins H1 p := fun p hp => by
        have le : s1.heap.objs.size ≤ p := by
          simp only [List.mem_cons, List.not_mem_nil, or_false] at hp
          omega
        exact I1.fpOk le (I1.hok.fresh le)
      have ap : Apt (s1.heap.objs.size + 4) (s1.heap.objs.size + 2) (s1.heap.objs.size + 3) s1.heap.objs.size (s1.heap.objs.size + 1) a b := by
        refine ⟨by simp, ?_, ?_⟩
        · simp only [List.mem_cons, List.not_mem_nil, or_false]
          rintro (z | z | z | z | z) <;> (rw [z] at la; exact absurd la (Nat.not_lt_of_le (by first | exact Nat.le_add_right _ _ | exact Nat.le_refl _)))
        · simp only [List.mem_cons, List.not_mem_nil, or_false]
          rintro (z | z | z | z | z) <;> (rw [z] at lb; exact absurd lb (Nat.not_lt_of_le (by first | exact Nat.le_add_right _ _ | exact Nat.le_refl _)))
      exact ⟨_, [s1.heap.objs.size + 4, s1.heap.objs.size + 2, s1.heap.objs.size + 3, s1.heap.objs.size, s1.heap.objs.size + 1], _, _, H1, rfl, I1.kept (t' := s1.toks) kp, turn_zipN ap, ⟨⟨z1, z2⟩, ⟨_, _, z3⟩, ⟨_, z4, rfl, rfl⟩, ⟨_, z5, rfl, rfl⟩⟩, fr, q⟩
section
variable {K : PySem.W.Frag} {te : TE} {tt : TT} {tA : TA} {ds : List SD} {ms : List MD} {R : RS}
theorem e_lcZN {g : TG} {js vs : List Nat} (hj : ∀ j ∈ js, j ∈ vs) (h : EA K tA ds ms fun as ms0 => ∃ (s1 : SD) (es fs : List PyData), as = [s1, .d (.tuple fs)] ∧ Sw s1 es ∧ es.length ≤ 10000 ∧ ∃ Pv : Nat → List PyData → List MD → Prop, Pv 0 [] ms0 ∧
      (∀ i e f acc ms1, es[i]? = some e → fs[i]? = some f → Pv i acc ms1 → Lt K g js tt te vs ds (.d (.tuple [e, f])) ms1 acc (Pv (i + 1))) ∧ ∀ acc ms1, Pv (min es.length fs.length) acc ms1 → R (.f acc) ms1) :
    E K (tLc (iZipN K tA) g tt te vs) ds ms R := fun L M σ H hS hA Q q =>
  h L M σ H hS hA _ fun as us H1 ms0 w a1 o ⟨s1, es, fs, ea, sw1, hz, Pv, h0, hs, hd⟩ => by
    subst ea
    obtain ⟨v1, t1, rfl, o1, v2, t2, rfl, o2, rfl⟩ := o
    obtain ⟨a, xs, rfl, rx, hx⟩ := sw1.is a1 o1
    have o2' : Rp M H1 v2 (.tuple fs) := o2
    cases o2' with
    | @tup b ys _ nb eb ry =>
    have hy : ∀ H', Wk L H1 H' → SqT K H' b ys := fun H' w' => SqT.of (w' b _ (fun z => nb (a1.sub b z)) eb)
    refine ⟨a, b, xs, ys, ⟨rfl, hx H1 (Wk.refl L H1)⟩, hy H1 (Wk.refl L H1), fun D hD => ?_⟩
    have hDL := a1.freshL hD
    refine ⟨fun i m H' => m = min es.length fs.length - i ∧ i ≤ min es.length fs.length ∧ ∃ acc ms', Cs L M H1 D i acc ms' H' ∧ Pv i acc ms', ⟨_, rfl, Nat.zero_le _, [], ms0, .start a1 hD, h0⟩, ?_⟩
    rintro i m H' ⟨rfl, hi, acc, ms', c, p⟩
    have qx := hx H' c.w
    have qy := hy H' c.w
    by_cases hlt : i < min es.length fs.length
    · have l1 : i < xs.length := by rw [rx.length]; omega
      have l2 : i < ys.length := by rw [ry.length]; omega
      refine .inr ⟨⟨xs, ys, xs[i], ys[i], ⟨qx, by simp [l1]⟩, qy, by simp [l2]⟩, fun H2 => ∃ acc' ms2, Cs L M H1 D (i + 1) acc' ms2 H2 ∧ Pv (i + 1) acc' ms2, fun H2 ⟨acc', ms2, c2, p2⟩ => ⟨min es.length fs.length - (i + 1), by omega, rfl, hlt, acc', ms2, c2, p2⟩, fun v H2 y => ?_⟩
      obtain ⟨T, x, y, rfl, hT, rfl, fx, fy⟩ := y
      obtain ⟨e, e1, e2⟩ := rx.get' (fx xs qx)
      obtain ⟨f, f1, f2⟩ := ry.get' (fy ys qy)
      have c2 := c.new (o := .tup [x, y]) hT
      have tt2 : To M (M ++ [D]) H1 (upd H' T (.tup [x, y])) := to_new a1 hD c2.w
      have ho : SlOk K L (M ++ [D]) (upd H' T (.tup [x, y])) (.d (.tuple [e, f])) (.ref T) := Rp.tup (c.a.fresh hT) upd_same (.cons (Rp.to tt2 _ _ e2) (.cons (Rp.to tt2 _ _ f2) .nil))
      exact lc_turn2 (x := .d (.tuple [e, f])) (v := .ref T) (Nn := Pv) hj (by omega) (hS.mono hA w) a1 hD c2 ho (hs i e f acc ms' e1 f1 p)
    · have e : i = min es.length fs.length := by omega
      subst e
      refine .inl ⟨⟨xs, ys, qx, qy, by rw [rx.length, ry.length]⟩, ?_⟩
      exact q (.f acc) _ H' ms' (w.trans c.w) ⟨D, rfl, none_back a1 w (a1.fresh hD) hD, a1.fresh hD, c.done a1.sub hDL, a1.sub⟩ (hd acc ms' p)
/-! ### the rest for dicts and sets that stay -/
theorem e_varo {i k : Nat} (h : ds[i]? = some (.o k)) (r : R (.o k) ms) : E K (tVar i) ds ms R := fun L M σ H hS hA Q q => by
  obtain ⟨v, e, o⟩ := hS.get h (fun z => nomatch z)
  exact ⟨v, e, q _ v H ms (Wk.refl L H) (.of hA o) r⟩
/-- sorted(d) of a dict that stays -/
theorem rc_sortW {as : List SD} (h : ∃ (m : List (List Key × PyData)), as = [.w (isT m)] ∧ PySem.W.AllAlike (m.map fun p => rowK p.1) ∧ PySem.W.Sortable (m.map fun p => rowK p.1) ∧ R (.f (sortD (m.map fun p => rowK p.1))) ms) : RC K rSortK as ms R := fun L M H vs hA ha Q q => by
  obtain ⟨m, rfl, al, so, r⟩ := h
  obtain ⟨v, t, rfl, ⟨⟨p, kvs, rfl, _, e1, rt⟩, _⟩, rfl⟩ := ha
  have km : kvs.map (fun p => rowK p.1) = m.map fun p => rowK p.1 := by
    have := congrArg (List.map rowK) rt.keys
    rw [List.map_map, List.map_map] at this
    exact this
  refine ⟨p, kvs, rfl, e1, by rw [km]; exact al, by rw [km]; exact so, fun bs l kb hl => ?_⟩
  have bm : bs.map (fun b => rowK b.2) = m.map fun p => rowK p.1 := by
    have := congrArg (List.map rowK) kb.1
    rw [List.map_map, List.map_map] at this
    rw [← km]
    exact this
  have e2 : (bs.mergeSort (PySem.W.dataLe false fun b => rowK b.2)).map (fun b => rowK b.2) = sortD (m.map fun p => rowK p.1) := by
    rw [← bm]
    exact PySem.W.sort_maps (r := PySem.W.dataLe false fun b : Addr × List Key => rowK b.2) (s := PySem.W.dataLe false id) (fun b : Addr × List Key => rowK b.2) (l := bs) fun a _ b _ => rfl
  have all : ∀ bs : List (Addr × List Key), (∀ b ∈ bs, H b.1 = some (.tup (b.2.map kV))) → RpA M H (bs.map fun b => V.ref b.1) (bs.map fun b => rowK b.2) := fun bs => by
    induction bs with
    | nil => exact fun _ => .nil
    | cons b r ih =>
      intro hb
      refine .cons (.tup (fun z => ?_) (hb b (by simp)) (rpa_keys _)) (ih fun c hc => hb c (by simp [hc]))
      obtain ⟨o, eo, no⟩ := hA.al _ z
      rw [hb b (by simp)] at eo
      cases eo
      exact no
  have rr := all (bs.mergeSort (PySem.W.dataLe false fun b => rowK b.2)) fun b hb => kb.2 b (List.mem_mergeSort.mp hb)
  rw [e2] at rr
  exact q (.f (sortD (m.map fun p => rowK p.1))) _ _ ms (Wk.new hl) (out_new hA (Wk.refl L H) hl rr) r
end
end Hc

namespace Hc
open PySem PySem.Spec PyProof.Rows L2
section
variable {K : PySem.W.Frag} {te : TE} {tt : TT} {tA : TA} {ds : List SD} {ms : List MD} {R : RS}
/-! ### a comprehension over enumerate(a list) -/
end
end Hc

namespace Hc
open PySem PySem.Spec PyProof.Rows L2
/-! ### == and != of anything with a text, of a row with an empty one -/
section
open PySem.SeqAt PySem.AutoSeq1 PySem.MeetsSeq
variable {l : Addr} {c : Obj} {es : Array DictEntry} {ep : Nat} (hc : c.cls = .type "dict") (hd : c.data = .dict es ep) (z : Str) (t : Tok)
include hc hd
variable {prog : Program} {w : World} {A : Around} {E : Value → Shared → Prop} {s : Shared} {Q : Value → Shared → Prop}
end
/-- a thing that holds things: a list, a tuple, a dict -/
def Holds (K : PySem.W.Frag) (H : Hp) (a : Addr) : Prop := (∃ xs, SqL K H a xs) ∨ (∃ xs, SqT K H a xs) ∨ ∃ kvs, H a = some (.dK kvs)
section
variable {X : Cx}
end
section
variable {K : PySem.W.Frag} {ms : List MD} {R : RS} {L M : List Addr} {H : Hp}
end
end Hc

namespace Hc
open PySem PySem.Spec PyProof.Rows L2
/-! ### the entries of a dict of rows, walked over while it is locked -/
section
variable {X : Cx} {pins : List (Addr × Obj)} {σ : L2.St} {H : Hp} {s : Shared} {d : Addr} {od : Obj} {kvs : List (List Key × V)}
structure RowsAt (H : Hp) (h : Heap) (d : Addr) (od : Obj) (kvs : List (List Key × V)) (es : Array DictEntry) (ep : Nat) : Prop where
  sys : (d == sysModules) = false
  raw : DT.Raw h d es ep
  dat : od.data = .dict es ep
  size : es.size = kvs.length
  ent : ∀ (i : Nat) (k : List Key) (v : V), kvs[i]? = some (k, v) → ∃ (hi : i < es.size) (q : Addr), es[i].key = .ref q ∧ H q = some (.tup (k.map kV)) ∧ RelV v es[i].val
theorem rowsZ_at (I : Inv X pins σ H s) (e : H d = some (.frz od (.dT kvs))) : ∃ es ep, RowsAt H s.heap d od kvs es ep := by
  obtain ⟨at_d, _, sys, xs, pr, od', es, ep, at_d', ex, dat, ents, _⟩ := I.hok d _ e
  rw [at_d] at at_d'
  cases at_d'
  have len : es.size = kvs.length := (size_of_entries ents).trans (Paired.length pr).symm
  refine ⟨es, ep, sys, ⟨od, at_d, ex, dat⟩, dat, len, fun i k v hk => ?_⟩
  have hi : i < es.size := by
    rw [len]
    exact (List.getElem?_eq_some_iff.mp hk).1
  obtain ⟨x, hx, _, hq, rv⟩ := paired_get pr hk
  have hen := entry_at ents i
  rw [hx, Array.getElem?_eq_getElem hi] at hen
  have hen := Option.some.inj hen
  exact ⟨hi, x.2.1, by rw [hen]; rfl, hq, by rw [hen]; exact rv⟩
/-- each entry in its turn: a new pair of the key's own tuple and the value -/
def ItR (d : Addr) (od : Obj) (kvs : List (List Key × V)) : It where
  go := fun i H => H d = some (.frz od (.dT kvs)) ∧ i < kvs.length
  yld := fun i H x H' => ∃ (N q : Addr) (k : List Key) (v : V), kvs[i]? = some (k, v) ∧ H q = some (.tup (k.map kV)) ∧ x = .ref N ∧ H N = none ∧ H' = upd H N (.tup [.ref q, v])
  stop := fun i H => H d = some (.frz od (.dT kvs)) ∧ kvs.length ≤ i
abbrev StR (it d : Addr) (n ep : Nat) : Nat → Heap → Prop := fun i h => ∃ a b, IsItemIter h it d i n ep a b
theorem turn_rows {P : Program} {w : World} {K : PySem.W.Frag} {elts : List Expr} {kk ep : Nat} {tpos : Pos} {es : Array DictEntry} (it : Addr) (dat : od.data = .dict es ep) : Turn P w K (.Tuple elts kk tpos) (ItR d od kvs) [it] it (StR it d kvs.length ep) := by
  have one : ∀ {b : Addr}, b ∈ [it] → b = it := fun h => List.mem_singleton.mp h
  constructor
  case mem => exact List.mem_singleton.mpr rfl
  case obj =>
    rintro i h ⟨a, b, e⟩ c hc
    cases one hc
    exact ⟨_, e, nofun⟩
  case keep =>
    rintro i h h' ⟨a, b, e⟩ kp
    exact ⟨a, b, kp it (List.mem_singleton.mpr rfl) _ e⟩
  case self =>
    rintro A i s Q E ⟨a, b, e⟩ q
    exact PySem.W.kcp_self e q
  case done =>
    rintro X rfl rfl rfl calm i pins s σ H E I free ⟨a, b, e⟩ ⟨hd, le⟩
    obtain ⟨es', ep', R⟩ := rowsZ_at I hd
    obtain ⟨rfl, rfl⟩ := dict_ep dat R.dat
    rw [← R.size] at e le
    obtain ⟨g0, g1, g2, g3, g4, g5⟩ := free it (List.mem_singleton.mpr rfl)
    exact DT.endI (I.ok.hd calm) e R.raw le fun h' eb => ⟨rfl, I.turned (t' := s.toks) (fun b ob hb hob => eb b ob hb hob) g0 g1 g3 g4 g5⟩
  case item =>
    rintro X rfl rfl rfl calm i pins s σ H E I free ⟨a, b, e⟩ ⟨hd, lt⟩
    obtain ⟨es', ep', R⟩ := rowsZ_at I hd
    obtain ⟨rfl, rfl⟩ := dict_ep dat R.dat
    obtain ⟨kv, hkv⟩ : ∃ kv, kvs[i]? = some kv := ⟨_, List.getElem?_eq_getElem lt⟩
    obtain ⟨k, v⟩ := kv
    obtain ⟨hi, q, hkey, hq, rv⟩ := R.ent i k v hkv
    rw [← R.size] at e
    have low : it < s.heap.objs.size := Heap.lt_size e
    refine DT.nextI e R.raw hi fun h1 out tup big kp => ⟨_, rfl, ?_⟩
    refine wpAny_letOwnedTupleGo_items (s := { s with heap := h1 }) out fun h2 e2 sb => ?_
    have hN : H s.heap.objs.size = none := I.hok.fresh (Nat.le_refl _)
    have tup2 : h2.get? s.heap.objs.size = some { cls := .type "tuple", data := .seq #[es'[i].key, es'[i].val] } := (sb.2 _ (Nat.ne_of_gt low)).trans tup
    have laid : ObjOk X.prog X.w (upd H s.heap.objs.size (.tup [.ref q, v])) h2 s.heap.objs.size (.tup [.ref q, v]) :=
      ⟨Nat.le_of_ble_eq_true rfl, [es'[i].key, es'[i].val], .cons hkey (.cons rv .nil), ⟨_, tup2, rfl, _, rfl⟩⟩
    have I2 := I.turnedNew (t' := s.toks) (ch := [it]) (h' := h2) (fun b ob hb hob => (sb.2 b fun z => hb (List.mem_singleton.mpr z)).trans (kp b ob (fun z => hb (List.mem_singleton.mpr z)) hob)) free (Nat.le_refl _) laid
    refine ⟨.ref s.heap.objs.size, _, I2, rfl, ⟨_, q, k, v, hkv, hq, rfl, hN, rfl⟩, ⟨_, _, by rw [← R.size]; exact e2⟩, fun b hb => ?_⟩
    cases one hb
    rw [upd_ne (Nat.ne_of_lt low)]
    exact (free it (List.mem_singleton.mpr rfl)).1
end
end Hc

namespace Hc
open PySem PySem.Spec PyProof.Rows L2
/-! ### a dict of rows that is locked for good -/
section
variable {K : PySem.W.Frag} {te tl td ty : TE} {tt : TT} {ds : List SD} {ms : List MD} {R : RS} {L M : List Addr} {H : Hp}
theorem Rt.at {m : List (List Key × PyData)} {kvs : List (List Key × V)} (r : Rt M H kvs m) : ∀ {i : Nat} {k : List Key} {v : V}, kvs[i]? = some (k, v) → ∃ d, m[i]? = some (k, d) ∧ Rp M H v d := by
  induction r with
  | nil => intro i k v e; cases e
  | @cons k0 v0 d0 kvs m a b ih =>
    intro i k v e
    cases i with
    | zero =>
      have e := Option.some.inj e
      cases e
      exact ⟨d0, rfl, a⟩
    | succ i => exact ih e
end
/-! ### d.setdefault(k, x), k a row -/
section
variable {X : Cx} {pins : List (Addr × Obj)} {σ : L2.St} {H : Hp} {s : Shared} {a b : Addr} {kvs : List (List Key × V)} {k : List Key} {z : V} {A : Around} {E : Value → Shared → Prop} {Q : Value → Shared → Prop}
end
end Hc

namespace Hc
open PySem PySem.Spec PyProof.Rows L2
/-! ### statements with a hidden state: things that are no data, and that the store does not tell -/
/-- x is what is known of it, X the addresses it lies at -/
abbrev HT (τ : Type) := τ → List Addr → List Addr → Hp → Prop
/-- it stays where its own objects stay and the data stays -/
def HSt {τ : Type} (Θ : HT τ) : Prop := ∀ (x : τ) (X M M' : List Addr) (H H' : Hp), To M M' H H' → (∀ a ∈ X, H' a = H a) → Θ x X M H → Θ x X M' H'
/-- how the heap goes on where the hidden things at X may change, too, and may become more -/
structure Gh (L X M : List Addr) (H : Hp) (X' M' : List Addr) (H' : Hp) : Prop where
  st : ∀ a o, a ∉ L → a ∉ X → H a = some o → H' a = some o
  kd : ∀ a o, H a = some o → ∃ o', H' a = some o' ∧ kindO o' = kindO o
  sub : ∀ a ∈ M, a ∈ M'
  new : ∀ a ∈ M', a ∈ M ∨ H a = none
  keep : ∀ a ∈ X, a ∈ X'
  xnew : ∀ a ∈ X', a ∈ X ∨ H a = none
structure HX (L X M : List Addr) : Prop where
  inM : ∀ a ∈ X, a ∈ M
  apart : ∀ a ∈ X, a ∉ L
section
variable {L X M X1 M1 X2 M2 : List Addr} {ms : List MD} {H H1 H2 : Hp}
theorem kd_none (kd : ∀ a o, H a = some o → ∃ o', H1 a = some o' ∧ kindO o' = kindO o) {a : Addr} (e : H1 a = none) : H a = none := by
  cases q : H a with
  | none => rfl
  | some o =>
    obtain ⟨o', e', _⟩ := kd a o q
    rw [e] at e'
    cases e'
theorem Gh.of (w : Wk L H H1) : Gh L X M H X M H1 := ⟨fun a o n _ e => w a o n e, w.kd, fun _ h => h, fun _ h => .inl h, fun _ h => h, fun _ h => .inl h⟩
theorem Gh.trans (g : Gh L X M H X1 M1 H1) (k : Gh L X1 M1 H1 X2 M2 H2) : Gh L X M H X2 M2 H2 where
  st := fun a o nl nx e => k.st a o nl (fun z => (g.xnew a z).elim nx fun q => by rw [e] at q; cases q) (g.st a o nl nx e)
  kd := fun a o e => by
    obtain ⟨o1, e1, k1⟩ := g.kd a o e
    obtain ⟨o2, e2, k2⟩ := k.kd a o1 e1
    exact ⟨o2, e2, k2.trans k1⟩
  sub := fun a h => k.sub a (g.sub a h)
  new := fun a h => (k.new a h).elim (g.new a) fun q => .inr (kd_none g.kd q)
  keep := fun a h => k.keep a (g.keep a h)
  xnew := fun a h => (k.xnew a h).elim (g.xnew a) fun q => .inr (kd_none g.kd q)
theorem Gh.to (g : Gh L X M H X1 M1 H1) (sub : ∀ a ∈ L, a ∈ M) (hx : HX L X M) : To M M1 H H1 := fun a o n e =>
  ⟨fun z => (g.new a z).elim n (fun q => by rw [e] at q; cases q), g.st a o (fun z => n (sub a z)) (fun z => n (hx.inM a z)) e⟩
theorem hid_same (hA : At L M ms H) (hx : HX L X M) (w : Wk L H H1) : ∀ a ∈ X, H1 a = H a := fun a h => by
  obtain ⟨o, e, _⟩ := hA.al a (hx.inM a h)
  rw [e, w a o (hx.apart a h) e]
/-- hidden things are hidden no more -/
theorem At.less (hA : At L M1 ms H) (sub : ∀ a ∈ M, a ∈ M1) (sl : ∀ a ∈ L, a ∈ M) : At L M ms H :=
  ⟨hA.nd, sl, fun a ha => hA.al a (sub a ha), hA.ln, fun k a m e1 e2 => (hA.ok k a m e1 e2).to (fun b o n e => ⟨fun z => n (sub b z), e⟩) rfl⟩
end
def SH {τ : Type} (K : PySem.W.Frag) (Θ : HT τ) (t : TS) (ds : List SD) (ms : List MD) (x : τ) (N : List SD → List MD → τ → Prop) : Prop :=
  ∀ (L M X : List Addr) (σ : L2.St) (H : Hp), Sl K L M σ H ds → At L M ms H → HX L X M → Θ x X M H → ∀ D : Ends,
    (∀ σ' H' ds' ms' x' X' M', Gh L X M H X' M' H' → Sl K L M' σ' H' ds' → At L M' ms' H' → HX L X' M' → Θ x' X' M' H' → N ds' ms' x' → D.nx σ' H') → t D σ H
section
variable {τ : Type} {Θ : HT τ} {K : PySem.W.Frag} {t u : TS} {tt : TT} {tl te tk : TE} {tA : TA} {ds : List SD} {ms : List MD} {x : τ} {N : List SD → List MD → τ → Prop}
end
/-! ### a dict of rows with lists that grow -/
def addT (k : List Key) (d : PyData) : List (List Key × List PyData) → List (List Key × List PyData)
  | [] => [(k, [d])]
  | e :: r => if e.1 = k then (e.1, e.2 ++ [d]) :: r else e :: addT k d r
inductive Lh (X M : List Addr) (H : Hp) (p : Addr) : List (List Key × V) → List (List Key × List PyData) → Prop
  | nil : Lh X M H p [] []
  | cons {k : List Key} {q : Addr} {xs : List V} {es : List PyData} {kvs : List (List Key × V)} {m : List (List Key × List PyData)} : q ∈ X → q ≠ p → H q = some (.lst xs) → RpA M H xs es → (∀ y ∈ kvs, y.2 ≠ .ref q) → Lh X M H p kvs m → Lh X M H p ((k, .ref q) :: kvs) ((k, es) :: m)
section
variable {X M X' M' : List Addr} {H H' : Hp} {p : Addr} {kvs : List (List Key × V)} {m : List (List Key × List PyData)}
theorem Lh.to (t : To M M' H H') (same : ∀ a ∈ X, a ≠ p → H' a = H a) (sub : ∀ a ∈ X, a ∈ X') (h : Lh X M H p kvs m) : Lh X' M' H' p kvs m := by
  induction h with
  | nil => exact .nil
  | cons a b c d e _ ih => exact .cons (sub _ a) b (by rw [same _ a b]; exact c) (RpA.to t _ _ d) e ih
theorem Lh.length (h : Lh X M H p kvs m) : kvs.length = m.length := by
  induction h with
  | nil => rfl
  | cons _ _ _ _ _ _ ih => exact congrArg (· + 1) ih
/-- one more at a key that is there -/
theorem Lh.more (h : Lh X M H p kvs m) {k : List Key} {v : V} (hv : valV kvs k = some v) : ∃ q xs es, v = .ref q ∧ q ∈ X ∧ q ≠ p ∧ H q = some (.lst xs) ∧ (k, es) ∈ m ∧ xs.length = es.length ∧ RpA M H xs es ∧ (∃ y ∈ kvs, y.2 = .ref q) ∧
    ∀ (H' : Hp) (M' : List Addr) (y : V) (d : PyData), To M M' H H' → (∀ a ∈ X, a ≠ q → a ≠ p → H' a = H a) → H' q = some (.lst (xs ++ [y])) → Rp M' H' y d → Lh X M' H' p kvs (addT k d m) := by
  induction h with
  | nil => cases hv
  | @cons k1 q1 xs1 es1 kvs1 m1 a b c d1 e f ih =>
    by_cases hk : k1 = k
    · rw [valV_pos hk] at hv
      cases hv
      refine ⟨q1, xs1, es1, rfl, a, b, c, by rw [hk]; exact List.mem_cons_self .., d1.length, d1, ⟨_, List.mem_cons_self .., rfl⟩, fun H' M' y d t same eq ry => ?_⟩
      have ea : addT k d ((k1, es1) :: m1) = (k1, es1 ++ [d]) :: m1 := if_pos hk
      rw [ea]
      have rest : ∀ {kvs2 : List (List Key × V)} {m2 : List (List Key × List PyData)}, (∀ y ∈ kvs2, y.2 ≠ .ref q1) → Lh X M H p kvs2 m2 → Lh X M' H' p kvs2 m2 := fun n l => by
        induction l with
        | nil => exact .nil
        | @cons k2 q2 xs2 es2 kvs3 m3 a2 b2 c2 d2 e2 _ ih2 =>
          have nq : q2 ≠ q1 := fun z => n _ (List.mem_cons_self ..) (by rw [z])
          exact .cons a2 b2 (by rw [same q2 a2 nq b2]; exact c2) (RpA.to t _ _ d2) e2 (ih2 fun y hy => n y (List.mem_cons_of_mem _ hy))
      exact .cons a b eq ((RpA.to t _ _ d1).append (.cons ry .nil)) e (rest e f)
    · rw [valV_neg hk] at hv
      obtain ⟨q, xs, es, h1, h2, h3, h4, h5, h6, h7, ⟨y0, hy0, ey0⟩, h8⟩ := ih hv
      refine ⟨q, xs, es, h1, h2, h3, h4, List.mem_cons_of_mem _ h5, h6, h7, ⟨y0, List.mem_cons_of_mem _ hy0, ey0⟩, fun H' M' y d t same eq ry => ?_⟩
      have ea : addT k d ((k1, es1) :: m1) = (k1, es1) :: addT k d m1 := if_neg hk
      have nq : q1 ≠ q := fun z => e y0 hy0 (by rw [ey0, z])
      rw [ea]
      exact .cons a b (by rw [same q1 a nq b]; exact c) (RpA.to t _ _ d1) e (h8 H' M' y d t same eq ry)
/-- a key that is new -/
theorem Lh.newk (h : Lh X M H p kvs m) {k : List Key} {y : V} {d : PyData} {b : Addr} (hv : valV kvs k = none) (t : To M M' H H') (same : ∀ a ∈ X, a ≠ p → H' a = H a) (sub : ∀ a ∈ X, a ∈ X') (nb : b ∉ X) (bX : b ∈ X') (bp : b ≠ p)
    (eb : H' b = some (.lst [y])) (ry : Rp M' H' y d) : Lh X' M' H' p (kvs ++ [(k, .ref b)]) (addT k d m) := by
  induction h with
  | nil => exact .cons bX bp eb (.cons ry .nil) nofun .nil
  | @cons k1 q1 xs1 es1 kvs1 m1 a b1 c d1 e f ih =>
    have hk : ¬ k1 = k := fun z => by rw [valV_pos z] at hv; cases hv
    rw [valV_neg hk] at hv
    have ea : addT k d ((k1, es1) :: m1) = (k1, es1) :: addT k d m1 := if_neg hk
    rw [ea]
    refine .cons (sub _ a) b1 (by rw [same _ a b1]; exact c) (RpA.to t _ _ d1) (fun z hz => ?_) (ih hv)
    rcases List.mem_append.mp hz with w | w
    · exact e z w
    · rw [List.mem_singleton.mp w]
      intro eq
      have eq := V.ref.inj eq
      exact nb (eq ▸ a)
end
section
variable {K : PySem.W.Frag} {t u : TS} {te tk : TE} {ds : List SD} {ms : List MD} {p : Addr} {m : List (List Key × List PyData)} {N : List SD → List MD → Addr × List (List Key × List PyData) → Prop} {P : Po}
end
end Hc

namespace Hc
open PySem PySem.Spec PyProof.Rows L2
/-! ### try with several clauses: one that names three classes and is passed over, one `except X as n` behind it -/
section
variable {X : Cx} {x n : Str} {c : Value} {i : Nat} {body suite : List Stmt} {b1 : Stmt} {np pos pos2 : Pos} {rest : List ExceptHandler} {tb : WX → TS} {ts : Addr → Value → Option Addr → TS}
/-- an error has come down to this frame, and its clauses are looked at -/
structure Landed (X : Cx) (pins : List (Addr × Obj)) (a : Addr) (cls : Value) (dd : Option Addr) (σ : L2.St) (H : Hp) (s : Shared) : Prop where
  ex : ∃ (B : Heap) (t0 : Shared), Inv X pins σ H t0 ∧ (∀ b o, t0.heap.get? b = some o → b ∉ frs X.stack → B.get? b = some o) ∧ HandSPX.FlyingZ B (X.env :: X.outer) a (Zc cls dd) s.heap ∧ t0.heap.UpToSlots s.heap ∧ s.os = t0.os ∧ AllBare s.gens
  un : H a = none
theorem Landed.push {pins : List (Addr × Obj)} {a : Addr} {cls : Value} {dd : Option Addr} {σ : L2.St} {H : Hp} {s : Shared} (l : Landed X pins a cls dd σ H s) (o : Obj) : Landed X pins a cls dd σ H { s with heap := s.heap.push o } := by
  obtain ⟨⟨B, t0, J, nb, f, up, os, ag⟩, un⟩ := l
  have k : ∀ b u, s.heap.get? b = some u → (s.heap.push o).get? b = some u := fun b u e => Heap.get?_push_of_some o e
  obtain ⟨f1, f2, f3, oe, vs, T, oT, t2, e1, e2, e3, e4, e5, e6, e7, e8, e9⟩ := f
  refine ⟨⟨B, t0, J, nb, ⟨fun b u e => k b u (f1 b u e), f2, f3.of_keeps fun b u e _ => ⟨u, k b u e, rfl⟩, oe, vs, T, oT, t2, k _ _ e1, e2, e3, e4, e5, e6, k _ _ e7, e8, e9⟩, fun b u e h => ?_, os, ag⟩, un⟩
  obtain ⟨sl, q⟩ := up b u e h
  exact ⟨sl, k _ _ q⟩
/-- what these clauses wish of an error -/
def Hears (X : Cx) (hds : List ExceptHandler) (w : Ends → WX) : Prop :=
  ∀ (pins : List (Addr × Obj)) (D : Ends) (a : Addr) (cls : Value) (dd : Option Addr) (σ : L2.St) (H : Hp) (s : Shared), X.Ok → Landed X pins a cls dd σ H s → w D cls dd σ H → wpAny (model X.prog X.w) X.A (handleBy (.ref a) X.env hds) (SP X pins D) X.xe s
theorem hears_none {hds : List ExceptHandler} : Hears X hds (fun _ _ _ _ _ => False) := fun _ _ _ _ _ _ _ _ _ _ z => z.elim
/-- the facts that each clause's test wants -/
theorem Landed.test (own : X.stack = X.env :: X.outer) (fr : X.env.frame = some X.env.locals) {pins : List (Addr × Obj)} {a : Addr} {cls : Value} {dd : Option Addr} {σ : L2.St} {H : Hp} {s : Shared} (l : Landed X pins a cls dd σ H s) :
    ∃ o1, (∃ vs, o1.data = .fields vs) ∧ Zc cls dd o1 ∧ s.heap.get? a = some o1 ∧ a ≠ X.env.locals ∧ a ∉ X.fs ∧ Inv X pins σ H s := by
  obtain ⟨⟨B, t0, J, nb, f, up, os, ag⟩, un⟩ := l
  have J1 : Inv X pins σ H s := J.landed nb f.1 up os ag
  obtain ⟨o1, v1, g1, z1, d1⟩ := f.there
  have out := not_frame f.2.2.1 g1 d1
  refine ⟨o1, ⟨v1, d1⟩, z1, g1, fun z => out (List.mem_filterMap.mpr ⟨X.env, by simp, fr.trans (by rw [z])⟩), fun m => ?_, J1⟩
  obtain ⟨y, hy, q⟩ := List.mem_filterMap.mp m
  exact out (List.mem_filterMap.mpr ⟨y, by simp [hy], q⟩)
theorem hears_as {w : Ends → WX} (own : X.stack = X.env :: X.outer) (fr : X.env.frame = some X.env.locals) (nd : X.N.Nodup) (hi : X.N[i]? = some n) (lc : X.env.kindOf n = some .local) (hc : Names X x c)
    (hsu : ∀ (a : Addr) (err : Obj) (k : Value) (d : Option Addr) (ps : List (Addr × Obj)), Zc k d err → (∃ vs, err.data = .fields vs) → PSs (X.suite a ((a, err) :: ps)) (b1 :: suite) (ts a k d)) (r : Hears X rest w) :
    Hears X (.ExceptHandler (some (.Name x np)) (some n) (b1 :: suite) pos2 :: rest) (fun D => wAs X.K c i ts (w D) D) := by
  intro pins D a cls dd σ H s ok l wish
  obtain ⟨k, match_, yes, no⟩ := wish
  obtain ⟨o1, ⟨v1, d1⟩, z1, g1, here, outer, J1⟩ := l.test own fr
  have T1 := J1.suite g1 d1 l.un here outer
  have cls_at : PySem.W.Looks (model X.prog X.w) s.heap (typeOf (.ref a)) cls := fun _ _ _ _ kp q => wpAny_typeOf_ref (kp _ _ g1) (z1.1.symm ▸ q)
  have asked := PySem.W.exm_one (M := model X.prog X.w) J1.kIn cls_at match_
  have name : ∀ {Q E : Value → Shared → Prop}, Q c s → wpAny (model X.prog X.w) (X.A.mark (some (.ref a))) (eval (.Name x np) X.env) Q E s := fun q => by
    rcases hc with ⟨g, db, m | ⟨m, bb, ne⟩⟩
    · exact ld_glob (X := X.suite a ((a, o1) :: (X.pn ++ pins))) T1 g m q db
    · exact ld_blt (X := X.suite a ((a, o1) :: (X.pn ++ pins))) T1 g m bb q ne db
  refine wpAny_handleBy_cons (codeAny_handlers_test (name (asked.here ?_))) nofun
  cases k with
  | false => exact r pins D a cls dd σ H s ok l (no rfl)
  | true =>
    obtain ⟨⟨B, t0, J, nb, f, up, os, ag⟩, un⟩ := l
    refine codeAny_handlers_suite_as (HandSPX.lands_againZ f fun h2 f2 u2 => ?_)
    have J2 : Inv X pins σ H { s with heap := h2 } := J.landed nb f2.1 (up.trans u2) os ag
    obtain ⟨o2, v2, g2, z2, d2⟩ := f2.there
    refine store_ok (X := X.suite a ((a, o2) :: (X.pn ++ pins))) (v := .ref a) (J2.suite g2 d2 un here outer) nd hi (.inl lc) rfl (fun s5 T5 => ?_) (.inr lc)
    have left : ∀ {s6 : Shared} {σ6 : L2.St} {H6 : Hp} {Q : Shared → Prop}, Inv (X.suite a ((a, o2) :: (X.pn ++ pins))) [] σ6 H6 s6 → (∀ s7, Inv X pins (σ6.set i none) H6 s7 → Q s7) →
        wpAny (model X.prog X.w) X.A (do bindName X.env n .none; unbindBehindTheSuite X.env n pos2) (fun _ s7 => Q s7) X.xe s6 := fun V q => gone_ok (V.unsuite ok) nd hi lc q
    refine wpAny_mono ((hsu a o2 cls dd (X.pn ++ pins) z2 ⟨_, d2⟩).run [] s5 _ H _ T5 (yes rfl a un)) (fun fl s6 z => ?_) nofun
    match fl, z with
    | .next, ⟨_, _, V, q⟩ => exact left V fun s7 W => ⟨_, _, W, q⟩
    | .brk, ⟨_, _, V, q⟩ => exact left V fun s7 W => ⟨_, _, W, q⟩
    | .cont, ⟨_, _, V, q⟩ => exact left V fun s7 W => ⟨_, _, W, q⟩
    | .ret _, ⟨_, _, _, V, r, q⟩ => exact left V fun s7 W => ⟨_, _, _, W, r, q⟩
/-- `except (A, B, C):` that is passed over -/
theorem hears_not3 {w : Ends → WX} {x1 x2 x3 : Str} {c1 c2 c3 : Value} {p1 p2 p3 tp : Pos} {kk : Nat} {su : List Stmt} (own : X.stack = X.env :: X.outer) (fr : X.env.frame = some X.env.locals) (h1 : Names X x1 c1) (h2 : Names X x2 c2) (h3 : Names X x3 c3) (r : Hears X rest w) :
    Hears X (.ExceptHandler (some (.Tuple [.Name x1 p1, .Name x2 p2, .Name x3 p3] kk tp)) none su pos2 :: rest) (fun D cls d σ H => PySem.W.exmAny X.K cls [c1, c2, c3] = some false ∧ w D cls d σ H) := by
  intro pins D a cls dd σ H s ok l wish
  obtain ⟨no, wish⟩ := wish
  obtain ⟨o1, ⟨v1, d1⟩, z1, g1, here, outer, J1⟩ := l.test own fr
  have T1 := J1.suite g1 d1 l.un here outer
  have name : ∀ {x : Str} {c : Value} {p : Pos} {Q E : Value → Shared → Prop}, Names X x c → Q c s → wpAny (model X.prog X.w) (X.A.mark (some (.ref a))) (eval (.Name x p) X.env) Q E s := fun hc q => by
    rcases hc with ⟨g, db, m | ⟨m, bb, ne⟩⟩
    · exact ld_glob (X := X.suite a ((a, o1) :: (X.pn ++ pins))) T1 g m q db
    · exact ld_blt (X := X.suite a ((a, o1) :: (X.pn ++ pins))) T1 g m bb q ne db
  refine wpAny_handleBy_cons (codeAny_handlers_test (wpAny_Tuple ?_)) nofun
  refine wpAny_items_cons (name h1 (wpAny_items_cons (name h2 (wpAny_items_cons (name h3 (wpAny_items_nil ⟨Nat.le_of_ble_eq_true rfl, ?_⟩))))))
  have l2 := l.push { cls := .type "tuple", data := .seq [c1, c2, c3].toArray }
  obtain ⟨o2, _, z2, g2, _, _, J2⟩ := l2.test own fr
  have cls_at : PySem.W.Looks (model X.prog X.w) (s.heap.push { cls := .type "tuple", data := .seq [c1, c2, c3].toArray }) (typeOf (.ref a)) cls := fun _ _ _ _ kp q => wpAny_typeOf_ref (kp _ _ g2) (z2.1.symm ▸ q)
  have asked := PySem.W.exm_tup3 (M := model X.prog X.w) J2.kIn cls_at (Heap.get?_push_size s.heap rfl) no
  exact asked.here (r pins D a cls dd σ H _ ok l2 wish)
theorem hears_takes {hds : List ExceptHandler} {w : Ends → WX} (own : X.stack = X.env :: X.outer) (fr : X.env.frame = some X.env.locals) (h : Hears X hds w) (ok : X.Ok) (pins : List (Addr × Obj)) (D : Ends) : Takes (X.tr (X.pn ++ pins) (toClause X pins D hds)) (w D) := by
  rintro u t ⟨a, B, t0, ps, σ2, H2, cls, dd, rfl, J, nb, up, sky, un, os, ag, wish⟩
  have frames : X.A.frames = some (X.env :: X.outer) := by rw [ok.frames, own]
  have J := J.ofTry ok
  show wpAny (model X.prog X.w) X.A (noteFrame (.ref a) X.env) _ _ _
  apply Sky.land Zc.steady frames fr (show Sky B (X.env :: X.outer) a (Zc cls dd) X.env.locals t.heap by rw [← own]; exact sky)
  intro h1 f1 u1
  exact h pins D a cls dd σ2 H2 _ ok ⟨⟨B, t0, J, nb, f1, up.trans u1, os, ag⟩, un⟩ wish
theorem ps_try_hears {h0 : ExceptHandler} {hds : List ExceptHandler} {w : Ends → WX} (own : X.stack = X.env :: X.outer) (fr : X.env.frame = some X.env.locals) (h : Hears X (h0 :: hds) w)
    (hb : ∀ (wish : WX) (ps : List (Addr × Obj)) (out : Value → Shared → Prop), Takes (X.tr ps out) wish → PassesOwn (model X.prog X.w) X.A X.env out → PSs (X.tr ps out) body (tb wish)) :
    PS X (.Try body (h0 :: hds) [] [] pos) (fun D σ H => tb (w D) D σ H) := by
  constructor
  intro pins s σ H D I q
  apply wpAny_Try_except
  have run := (hb _ _ _ (hears_takes own fr h I.ok pins D) PassesOwn.looking).run [] s σ H D (I.toTry _) q
  refine wpAny_mono run (fun fl s1 z => ?_) fun _ _ z => z
  match fl, z with
  | .next, ⟨_, _, V, q⟩ => exact wpAny_execs_nil ⟨_, _, V.ofTry I.ok, q⟩
  | .brk, ⟨_, _, V, q⟩ => exact ⟨_, _, V.ofTry I.ok, q⟩
  | .cont, ⟨_, _, V, q⟩ => exact ⟨_, _, V.ofTry I.ok, q⟩
  | .ret _, ⟨_, _, _, V, r, q⟩ => exact ⟨_, _, _, V.ofTry I.ok, r, q⟩
end
end Hc

namespace Hc
open PySem PySem.Spec PyProof.Rows L2
/-! ### defs as values: in a list, in a slot, called there -/
/-- f is a def of this promise -/
def HasS (Pg : Program) (w : World) (K : PySem.W.Frag) (mg : Str → Option Value) (base : Heap) (lv : Nat) (sp : Sp) (f : Addr) : Prop :=
  ∃ fd ps, FnOk Pg w K mg base (L2.CX Pg w) lv f fd ps sp ∧ PySem.W.keepIn K (.ref f) = true ∧ Binds K fd ps []
theorem HasS.imp {Pg : Program} {w : World} {K : PySem.W.Frag} {mg : Str → Option Value} {base : Heap} {lv lv' : Nat} {sp sp' : Sp} {f : Addr} (h : HasS Pg w K mg base lv sp f) (hl : lv ≤ lv') (i : ∀ vs H Q E, sp' vs H Q E → sp vs H Q E) : HasS Pg w K mg base lv' sp' f := by
  obtain ⟨fd, ps, F, k, b⟩ := h
  exact ⟨fd, ps, (F.mono hl).imp i, k, b⟩
section
variable {X : Cx} {x : Str} {lv : Nat} {ps : List Str} {C : Addr} {p pos : Pos} {i : Nat} {sp : Sp} {W : WX} {e : Expr} {es : List Expr} {t : TA}
end
section
variable {K : PySem.W.Frag} {C : Addr} {t : TS} {tA : TA} {ds : List SD} {ms : List MD} {P : Po}
end
end Hc

namespace Hc
open PySem PySem.Spec PyProof.Rows L2
/-! ### l.remove(x), the items data, x among them -/
theorem RpA.eraseIdx {L : List Addr} {H : Hp} : ∀ {xs : List V} {ds : List PyData} (j : Nat), RpA L H xs ds → RpA L H (xs.eraseIdx j) (ds.eraseIdx j)
  | _, _, _, .nil => .nil
  | _, _, 0, .cons _ b => b
  | _, _, j + 1, .cons a b => .cons a (RpA.eraseIdx j b)
def rRemD (K : PySem.W.Frag) : V → List V → Hp → VK → Prop := fun x us H Q => ∃ (p : Addr) (y : V) (ys : List V) (d : PyData) (ds : List PyData) (j : Nat), x = .ref p ∧ us = [y] ∧ H p = some (.lst ys) ∧ DpAll K H ys ds ∧ Dp K H y d ∧
  PyData.plainAll ds = true ∧ d.plain = true ∧ SeqAt.shaped d = true ∧ SeqAt.dataPlace ds d = some j ∧ Q .non (upd H p (.lst (ys.eraseIdx j)))
theorem mt_remD {X : Cx} (hu : X.A.units + 65 < cLine) : MtM X "list.remove" (rRemD X.K) := by
  rintro pins s σ H x us v ws Q I rx rus ⟨p, y, ys, d, ds, j, rfl, rfl, hp, da, dy, pa, pd, sd, pl, q⟩
  cases rx
  obtain ⟨z, its, n, r, ln, e⟩ := I.lstM hp
  obtain ⟨u, rfl, ru⟩ := rus.one
  obtain ⟨bs, r1⟩ := Dp.reads I d y u dy ru
  obtain ⟨as, r2⟩ := Dp.readsAll I ds ys its da r
  have big : its.toArray.size ≤ sizeLine := by rw [List.size_toArray]; omega
  refine SeqAt.remove_list_data (vs := its.toArray) ⟨_, e, rfl, n, rfl⟩ (by simpa using r2) r1 pa pd (room_in_shaped sd hu) pl big ?_
  refine ⟨.non, _, I.lset (its' := its.eraseIdx j) (t' := s.toks) hp e ?_ (r.eraseIdx j) ?_, rfl, q⟩
  · show its.toArray.eraseIdxIfInBounds j = (its.eraseIdx j).toArray
    rw [List.eraseIdxIfInBounds_toArray]
  · have := List.length_eraseIdx_le ys j
    omega
section
variable {K : PySem.W.Frag} {ta te : TE} {ds : List SD} {ms : List MD} {R : RS}
theorem e_remD (h : E K ta ds ms fun s ms1 => ∃ k, s = .m k ∧ E K te ds ms1 fun x ms2 => ∃ (es : List PyData) (d : PyData) (j : Nat), dd x = .d d ∧ ms2[k]? = some (.l es) ∧ PyData.canLayAll0 es = true ∧ SeqAt.shaped d = true ∧ SeqAt.dataPlace es d = some j ∧ R (.d .none) (ms2.set k (.l (es.eraseIdx j)))) : E K (tBM K "list" (rRemD K) ta (tCons te tNil)) ds ms R := fun L M σ H hS hA Q q =>
  h L M σ H hS hA _ fun s v H1 ms1 w o ⟨k, e, h2⟩ => by
    subst e
    obtain ⟨a1, p, rfl, hp, xs0, e0⟩ := o
    have hpL : p ∈ L := List.mem_of_getElem? hp
    refine ⟨.inl ⟨rfl, xs0, SqL.of e0⟩, h2 L M σ H1 (hS.mono hA w) a1 _ fun x y H2 ms2 w2 o2 ⟨es, d, j, ex, em, cl, sd, pl, r⟩ => ?_⟩
    have a2 := o2.at
    have oz := o2.sl
    rw [ex] at oz
    obtain ⟨xs, e1, r1⟩ := a2.get hp em
    refine ⟨p, y, xs, d, es, j, rfl, rfl, e1, RpA.dp _ _ cl r1, Rp.dp _ _ (SeqAt.canLay_of_shaped sd) oz, PyData.plainAll_of_canLay0 _ cl, PyData.plain_of_canLay0 _ (SeqAt.canLay_of_shaped sd), sd, pl, ?_⟩
    exact q (.d .none) .non _ _ ((w.trans w2).trans (Wk.mut hpL e1)) ⟨a2.put hp e1 (r1.eraseIdx j), .non⟩ r
end
end Hc

namespace Hc
open PySem PySem.Spec PyProof.Rows L2
/-! ### calls that hand errors on, where none is raised; a new dict that is not looked at -/
section
variable {K : PySem.W.Frag} {C : Addr} {tA : TA} {ds : List SD} {ms : List MD} {R : RS} {P : Po} {Y : Addr → List MD → Prop}
end
end Hc

namespace Hc
open PySem PySem.Spec PyProof.Rows L2
/-! ### a list that a name gets anew at each turn (`xs = xs + ..`), and that changes later -/
section
variable {K : PySem.W.Frag} {te : TE} {tA : TA} {ds : List SD} {ms : List MD} {t u : TS} {P : Po}
/-- what stands behind a new thing that may change -/
theorem new_go {L M : List Addr} {ms1 : List MD} {H H1 : Hp} {σ1 : L2.St} {ds1 : List SD} {p : Addr} {es : List PyData} {D : Ends} (hA : At L M ms H) (hp : H p = none) (w : Wk L H H1) (a1 : At (L ++ [p]) (M ++ [p]) (ms1 ++ [.l es]) H1)
    (s1 : Sl K (L ++ [p]) (M ++ [p]) σ1 H1 ds1) (h1 : S K u ds1 (ms1 ++ [.l es]) (P.frz ms1.length)) (n : Nx K L M H P.nx D.nx) (r : Rx K L M H P.rt D.rt) (b : Nx K L M H P.bk D.bk) (c : Nx K L M H P.ct D.ct) : u D σ1 H1 := by
  have np : p ∉ M := hA.fresh hp
  have sb : ∀ q ∈ L, q ∈ M := hA.sub
  have wk : ∀ {H2 : Hp}, Wk (L ++ [p]) H1 H2 → Wk L H H2 := fun {H2} w2 => by
    refine ⟨fun x y nx ex => w2 x y (fun z => ?_) (w x y nx ex), fun x y ex => ?_⟩
    · rcases List.mem_append.mp z with z | z
      · exact nx z
      · exact ne_of_none ex hp (List.mem_singleton.mp z)
    · obtain ⟨o1, f1, k1⟩ := w.kd x y ex
      obtain ⟨o2, f2, k2⟩ := w2.kd x o1 f1
      exact ⟨o2, f2, k2.trans k1⟩
  have go : ∀ {N : List SD → List MD → Prop} {C : L2.St → Hp → Prop}, Nx K L M H N C → Nx K (L ++ [p]) (M ++ [p]) H1 (fun ds' ms' => ∃ ms1' es, ms' = ms1' ++ [.l es] ∧ ms1'.length = ms1.length ∧ N (ds'.map (frzS ms1.length es)) ms1') C := by
    rintro N C nn σ2 H2 ds2 ms2 w2 s2 a2 ⟨ms3, es3, rfl, l3, n3⟩
    rw [← l3] at n3
    exact nn σ2 H2 _ ms3 (wk w2) (s2.frz a2 np) (a2.drop sb) n3
  refine h1 (L ++ [p]) (M ++ [p]) _ H1 s1 a1 D (go n) ?_ (go b) (go c)
  rintro s2 v2 H2 ms2 w2 o2 ⟨ms3, es3, rfl, l3, n3⟩
  rw [← l3] at n3
  refine r _ v2 H2 ms3 (wk w2) (Out.frz hp o2.at (fun q hq hqp hq1 => ?_) np sb o2) n3
  cases e : H q with
  | none => rfl
  | some oo => rw [w q oo (fun z => hq (hA.sub q z)) e] at hq1; cases hq1
/-- the list that the name holds now lies at x.1 -/
def ΘN : HT (Addr × List PyData) := fun x X M H => x.1 ∈ X ∧ ∃ xs, H x.1 = some (.lst xs) ∧ RpA M H xs x.2
theorem ΘN_st : HSt ΘN := fun x X M M' H H' w same ⟨h1, xs, h2, h3⟩ => ⟨h1, xs, by rw [same _ h1]; exact h2, RpA.to w _ _ h3⟩
theorem sh_forR {τ : Type} {Θ : HT τ} {x : τ} {N : List SD → List MD → τ → Prop} (st : HSt Θ) {g : TG} {js : List Nat} (h : EA K tA ds ms fun as ms0 => ∃ n : Int, as = [.d (.int n)] ∧ (-(2 ^ 62) ≤ n ∧ n < 2 ^ 62) ∧ ∃ Pv : Nat → List SD → List MD → τ → Prop, Pv 0 ds ms0 x ∧
      (∀ i ds1 ms1 x1, i < n.toNat → Pv i ds1 ms1 x1 → EG K g js (.d (.int i)) ds1 ms1 fun ds2 ms2 => SH K Θ t ds2 ms2 x1 (Pv (i + 1))) ∧ ∀ ds1 ms1 x1, Pv n.toNat ds1 ms1 x1 → N ds1 ms1 x1) :
    SH K Θ (tFor (iRng1 tA) g t) ds ms x N := fun L M X σ H hS hA hx hθ D n =>
  h L M σ H hS hA _ fun as us H1 ms0 w a1 o ⟨m, ea, hm, Pv, h0, hs, hd⟩ => by
    subst ea
    obtain ⟨v, t1, rfl, hv, rfl⟩ := o
    cases hv
    have hθ1 := st x X M M H H1 (hA.wk w) (hid_same hA hx w) hθ
    refine ⟨m, rfl, hm.1, hm.2, for_range (fun i σ' H' => ∃ ds' ms' x' X' M', Gh L X M H1 X' M' H' ∧ Sl K L M' σ' H' ds' ∧ At L M' ms' H' ∧ HX L X' M' ∧ Θ x' X' M' H' ∧ Pv i ds' ms' x')
      ⟨ds, ms0, x, X, M, .of (Wk.refl L H1), hS.mono hA w, a1, hx, hθ1, h0⟩ (fun i σ' H' hi ⟨ds', ms', x', X', M', g, s', a', hx', hθ', p'⟩ => ?_) (fun σ' H' ⟨ds', ms', x', X', M', g, s', a', hx', hθ', p'⟩ => ?_)⟩
    · have e0 : ((0 : Int) + (i : Int)) = (i : Int) := Int.zero_add _
      refine hs i ds' ms' x' hi p' L M' σ' H' _ s' a' (by show Rp M' H' (.int (0 + (i : Int))) (.int i); rw [e0]; exact .int _) _ fun σ2 ds2 s2 _ h2 => ?_
      exact h2 L M' X' σ2 H' s2 a' hx' hθ' _ fun σ3 H3 ds3 ms3 x3 X3 M3 g3 s3 a3 hx3 hθ3 p3 => ⟨ds3, ms3, x3, X3, M3, g.trans g3, s3, a3, hx3, hθ3, p3⟩
    · exact n σ' H' ds' ms' x' X' M' ((Gh.of w).trans g) s' a' hx' hθ' (hd ds' ms' x' p')
/-- `xs = xs + ..` -/
theorem sh_catN {i : Nat} {p : Addr} {es : List PyData} {N : List SD → List MD → Addr × List PyData → Prop} (hi : ds[i]? = some (.v (.ref p)))
    (h : E K te ds ms fun s ms1 => ∃ fs, s = .f fs ∧ es.length + fs.length ≤ 10000 ∧ ∀ q, N (ds.set i (.v (.ref q))) ms1 (q, es ++ fs)) : SH K ΘN (tAsg (tOp rCat (tVar i) te) (gName i)) ds ms (p, es) N := fun L M X σ H hS hA hx hθ D n => by
  obtain ⟨pX, xs, ep, rx⟩ := hθ
  have pX : p ∈ X := pX
  have ep : H p = some (.lst xs) := ep
  have rx : RpA M H xs es := rx
  obtain ⟨v, ev, ov⟩ := hS.get hi nofun
  cases ov
  refine ⟨.ref p, ev, h L M σ H hS hA _ ?_⟩
  rintro s y H1 ms1 w o ⟨fs, rfl, hl, hn⟩
  obtain ⟨q, rfl, hq, nq, a1, sb⟩ := o
  obtain ⟨ys, eq, ry⟩ := a1.last
  have a0 := a1.drop sb
  have ry : RpA M H1 ys fs := RpA.to to_less _ _ ry
  have same := hid_same hA hx w
  have rx1 : RpA M H1 xs es := RpA.to (hA.wk w) _ _ rx
  refine ⟨p, q, xs, ys, rfl, rfl, by rw [same p pX]; exact ep, eq, by rw [rx.length, ry.length]; exact Nat.le_trans hl (by decide), fun l hl1 => ?_⟩
  have lM := a0.fresh hl1
  have lX : l ∉ X := fun z => lM (hx.inM l z)
  have lL : l ∉ L := a0.freshL hl1
  have g : Gh L X M H (X ++ [l]) (M ++ [l]) (upd H1 l (.lst (xs ++ ys))) := by
    refine ⟨fun a o nl nx e => ?_, fun a o e => ?_, fun _ z => List.mem_append_left _ z, fun a z => ?_, fun _ z => List.mem_append_left _ z, fun a z => ?_⟩
    · have e1 := w a o nl e
      rw [upd_ne (ne_of_none e1 hl1)]
      exact e1
    · obtain ⟨o', e', k'⟩ := w.kd a o e
      exact ⟨o', by rw [upd_ne (ne_of_none e' hl1)]; exact e', k'⟩
    · rcases List.mem_append.mp z with z | z
      · exact .inl z
      · rw [List.mem_singleton.mp z]
        exact .inr (kd_none w.kd hl1)
    · rcases List.mem_append.mp z with z | z
      · exact .inl z
      · rw [List.mem_singleton.mp z]
        exact .inr (kd_none w.kd hl1)
  have a2 : At L (M ++ [l]) ms1 (upd H1 l (.lst (xs ++ ys))) := a0.hide (o := .lst (xs ++ ys)) hl1 trivial
  have t2 : To M (M ++ [l]) H1 (upd H1 l (.lst (xs ++ ys))) := to_new a0 hl1 (Wk.new hl1)
  have hx2 : HX L (X ++ [l]) (M ++ [l]) := ⟨fun a z => (List.mem_append.mp z).elim (fun z => List.mem_append_left _ (hx.inM a z)) fun z => by rw [List.mem_singleton.mp z]; simp, fun a z => (List.mem_append.mp z).elim (hx.apart a) fun z => by rw [List.mem_singleton.mp z]; exact lL⟩
  have s2 := (hS.to (g.to hA.sub hx) g.kd fun _ _ e => e).set i (s := .v (.ref l)) (v := .ref l) rfl
  exact n _ _ _ ms1 (l, es ++ fs) (X ++ [l]) (M ++ [l]) g s2 a2 hx2 ⟨by simp, _, upd_same, RpA.to t2 _ _ (rx1.append ry)⟩ (hn l)
/-- `xs = []`, a statement by which the name gets longer and longer lists, and then the last one may change -/
theorem s_hidN {i : Nat} (h : ∀ p, SH K ΘN t (ds.set i (.v (.ref p))) ms (p, []) fun ds' ms' x' => ds'[i]? = some (.v (.ref x'.1)) ∧ S K u (ds'.set i (.m ms'.length)) (ms' ++ [.l x'.2]) (P.frz ms'.length)) :
    S K (tSeq (tAsg (tLst tNil) (gName i)) (tSeq t u)) ds ms P := fun L M σ H hS hA D n r b c => ⟨Nat.zero_le _, fun p hp => by
  have np := hA.fresh hp
  have npL := hA.freshL hp
  have w : Wk L H (upd H p (.lst [])) := Wk.new hp
  have hS1 : Sl K L (M ++ [p]) (σ.set i (some (.ref p))) (upd H p (.lst [])) (ds.set i (.v (.ref p))) := (hS.to (to_new hA hp w) w.kd fun _ _ e => e).set i rfl
  have hx1 : HX L [p] (M ++ [p]) := ⟨fun a ha => List.mem_append_right _ ha, fun a ha => by rw [List.mem_singleton.mp ha]; exact npL⟩
  refine h p L (M ++ [p]) [p] _ _ hS1 (hA.hide (o := .lst []) hp trivial) hx1 ⟨by simp, [], upd_same, .nil⟩ _ ?_
  rintro σ' H' ds' ms' ⟨q, es⟩ X' M' g s' a' hx' ⟨qX, xs, eq, rx⟩ ⟨hi, h1⟩
  have qX : q ∈ X' := qX
  have eq : H' q = some (.lst xs) := eq
  have rx : RpA M' H' xs es := rx
  have qM' := hx'.inM q qX
  have hq : H q = none := by
    rcases g.xnew q qX with z | z
    · rw [List.mem_singleton.mp z]; exact hp
    · exact kd_none w.kd z
  have nq := hA.fresh hq
  have nqL := hA.freshL hq
  have sub : ∀ a ∈ M ++ [q], a ∈ M' := fun a ha => (List.mem_append.mp ha).elim (fun z => g.sub a (List.mem_append_left _ z)) fun z => by rw [List.mem_singleton.mp z]; exact qM'
  have t2 : To M' (M ++ [q]) H' H' := fun a o na e => ⟨fun z => na (sub a z), e⟩
  have a2 : At L (M ++ [q]) ms' H' := a'.less sub fun a ha => List.mem_append_left _ (hA.sub a ha)
  have lm : L.length = ms'.length := a2.ln
  have a3 : At (L ++ [q]) (M ++ [q]) (ms' ++ [.l es]) H' := by
    refine ⟨List.nodup_append.mpr ⟨a2.nd, by simp, fun x hx y hy z => nqL (by rw [List.mem_singleton.mp hy] at z; rw [← z]; exact hx)⟩, fun a ha => ?_, a2.al, by simp [lm], fun k a m e1 e2 => ?_⟩
    · rcases List.mem_append.mp ha with z | z
      · exact a2.sub a z
      · exact List.mem_append_right _ z
    · by_cases hk : k < L.length
      · rw [List.getElem?_append_left hk] at e1
        rw [List.getElem?_append_left (by rw [← lm]; exact hk)] at e2
        exact (a2.ok k a m e1 e2).toL (fun _ _ n e => ⟨n, e⟩) (fun k' q' _ z => by rw [List.getElem?_append_left (List.getElem?_eq_some_iff.mp z).1]; exact z) rfl
      · have hk2 : k = L.length := by
          have := (List.getElem?_eq_some_iff.mp e1).1
          simp at this
          omega
        subst hk2
        simp at e1
        subst e1
        rw [lm] at e2
        simp at e2
        subst e2
        exact ⟨xs, eq, RpA.to t2 _ _ rx⟩
  have w2 : Wk L H H' := by
    constructor
    · intro a o nl e
      have ap : a ≠ p := ne_of_none e hp
      exact g.st a o nl (fun z => ap (List.mem_singleton.mp z)) (by rw [upd_ne ap]; exact e)
    · intro a o e
      exact g.kd a o (by rw [upd_ne (ne_of_none e hp)]; exact e)
  obtain ⟨v, ev, ov⟩ := s'.get hi nofun
  cases ov
  have s3 : Sl K (L ++ [q]) (M ++ [q]) σ' H' ds' := s'.to t2 (fun a o e => ⟨o, e, rfl⟩) fun k a e => by rw [List.getElem?_append_left (List.getElem?_eq_some_iff.mp e).1]; exact e
  have s4 := s3.set i (v := .ref q) (s := .m ms'.length) ⟨q, rfl, by rw [← lm]; simp, xs, eq⟩
  have eσ : σ'.set i (some (.ref q)) = σ' := by
    apply List.ext_getElem?
    intro j
    by_cases hj : j = i
    · subst hj
      rw [List.getElem?_set_self (List.getElem?_eq_some_iff.mp ev).1, ev]
    · rw [List.getElem?_set_ne (Ne.symm hj)]
  rw [eσ] at s4
  show u D σ' H'
  exact new_go (u := u) (P := P) hA hq w2 a3 s4 h1 n r b c⟩
end
end Hc

namespace Hc
open PySem PySem.Spec PyProof.Rows L2
/-! ### x in a tuple, the items data -/
section
variable {K : PySem.W.Frag} {ms : List MD} {R : RS}
end
end Hc

namespace Hc
open PySem PySem.Spec PyProof.Rows L2
/-! ### try: x = f(..) / except (A, B, C): passed over / except D1 as n: .. / except D2 as n: .. -/
section
variable {K : PySem.W.Frag} {C1 C2 : Addr} {tA : TA} {ds : List SD} {ms : List MD} {P : Po}
def tTryN2 (K : PySem.W.Frag) (cs : List Value) (C1 C2 : Addr) (i j : Nat) (te : WX → TE) (t1 t2 : Addr → TS) : TS := fun D σ H =>
  tAsg (te (fun cls d σ H => PySem.W.exmAny K cls cs = some false ∧ wAs K (.ref C1) i (fun a cls d => tSu C1 cls d (t1 a)) (wAs K (.ref C2) i (fun a cls d => tSu C2 cls d (t2 a)) (fun _ _ _ _ => False) D) D cls d σ H)) (gName j) D σ H
theorem s_tryN2 {i j : Nat} {Φ : PhY} {t1 t2 : Addr → TS} {cs : List Value} (n1 : PySem.W.exmAny K (.ref C1) cs = some false) (n2 : PySem.W.exmAny K (.ref C2) cs = some false)
    (m1 : PySem.W.exmOne K (.ref C1) (.ref C1) = some true) (m21 : PySem.W.exmOne K (.ref C2) (.ref C1) = some false) (m2 : PySem.W.exmOne K (.ref C2) (.ref C2) = some true)
    (h : EA K tA ds ms fun as ms1 => Φ as ms1 (fun s ms2 => P.nx (ds.set j (dd s)) ms2) fun C ms2 => (C = C1 ∧ ∀ a, S K (t1 a) (ds.set i (.v (.ref a))) ms2 (P.unset i)) ∨ (C = C2 ∧ ∀ a, S K (t2 a) (ds.set i (.v (.ref a))) ms2 (P.unset i))) :
    S K (tTryN2 K cs C1 C2 i j (fun W => tCallS (SpY K Φ) (WE W) tA) t1 t2) ds ms P := fun L M σ H hS hA D n r b c =>
  h L M σ H hS hA _ fun as vs H1 ms1 w1 a1 o1 h1 => by
    have go : ∀ {t : Addr → TS} {H2 : Hp} {ms2 : List MD} {a : Addr}, Wk L H H2 → At L M ms2 H2 → (∀ a, S K (t a) (ds.set i (.v (.ref a))) ms2 (P.unset i)) → t a { nx := fun σ' H' => D.nx (σ'.set i none) H', rt := D.rt, bk := fun σ' H' => D.bk (σ'.set i none) H', ct := fun σ' H' => D.ct (σ'.set i none) H' } (σ.set i (some (.ref a))) H2 := fun {t H2 ms2 a} w a2 y => by
      have slot : SlOk K L M H2 (.v (.ref a)) (.ref a) := rfl
      refine y a L M _ H2 ((hS.mono hA w).set i slot) a2 _ (fun σ3 H3 ds3 ms3 w3 s3 a3 q => ?_) (r.on a2 w) (fun σ3 H3 ds3 ms3 w3 s3 a3 q => ?_) (fun σ3 H3 ds3 ms3 w3 s3 a3 q => ?_)
      · exact n _ H3 _ ms3 (w.trans w3) (s3.forget i none) a3 q
      · exact b _ H3 _ ms3 (w.trans w3) (s3.forget i none) a3 q
      · exact c _ H3 _ ms3 (w.trans w3) (s3.forget i none) a3 q
    refine ⟨L, M, ms1, as, _, _, a1, o1, h1, fun s v H2 ms2 w2 o2 r2 => ?_, fun C H2 ms2 w2 a2 y => ?_⟩
    · have w := w1.trans w2
      exact n _ H2 _ ms2 w ((hS.mono hA w).set j o2.sl) o2.at r2
    · rcases y with ⟨rfl, y⟩ | ⟨rfl, y⟩
      · exact ⟨n1, true, m1, fun _ a ha => ⟨⟨rfl, rfl⟩, go (w1.trans w2) a2 y⟩, nofun⟩
      · exact ⟨n2, false, m21, nofun, fun _ => ⟨true, m2, fun _ a ha => ⟨⟨rfl, rfl⟩, go (w1.trans w2) a2 y⟩, nofun⟩⟩
end
/-! ### t.count(i), t a tuple of ints that is known to be bare; the three of a told triple -/
def tTCnt (to : TE) (t : TA) : TE := fun σ H Q => to σ H fun v H1 => ∃ (a : Addr) (o : Obj) (ns : List Int), v = .ref a ∧ H1 a = some (.frz o (.tup (ns.map V.int))) ∧ o.cls = .type "tuple" ∧ o.dict = none ∧ t σ H1 fun vs H2 => ∃ i, vs = [.int i] ∧ H2 a = some (.frz o (.tup (ns.map V.int))) ∧ Q (.int (ns.count i : Nat)) H2
theorem pe_tcnt {X : Cx} {o e : Expr} {es : List Expr} {to : TE} {t : TA} {apos cpos : Pos} (hu : X.A.units + 65 < cLine) (ho : PE X o to) (ha : PA X (e :: es) t)
    (hbase : attributeBase o "count" X.env (eval o X.env) = eval o X.env := by rfl)
    (hfew : ((backTo cpos (starEach (e :: es) X.env)).all (fun x => !x.1) && (backToKw cpos (keywordEach [] X.env)).all (fun x => x.1.isSome) && decide ((e :: es).length + ([] : List Keyword).length + (if ([] : List Keyword).isEmpty then 0 else 1) < 30)) = true := by rfl)
    (hline : (apos.endLine == cpos.line) = true := by rfl) (hs : starEach (e :: es) X.env = (false, eval e X.env) :: starEach es X.env := by rfl) (bare : (backTo cpos (starEach es X.env)).any (·.1) = false := by rfl) :
    PE X (.Call (.Attribute o "count" apos) (e :: es) [] cpos) (tTCnt to t) := by
  constructor
  intro pins s σ H Q I h
  refine wpAny_Call_method_late hbase hfew hline rfl (thn (ho.run pins s σ H _ I h) fun v s1 ⟨x, H1, I1, r1, q1⟩ => ?_)
  obtain ⟨a, ob, ns, rfl, fz, hc, hd, q1⟩ := q1
  cases r1
  have g1 := (show ObjOk X.prog X.w H1 s1.heap a (.frz ob (.tup (ns.map V.int))) from I1.hok a _ fz).1
  refine ⟨"tuple", "tuple.count", PySem.F.plainAttrs_tuple, PySem.F.slot_tuple_count, PySem.F.type_tuple_count, ⟨ob, g1, hc⟩, fun b z => by cases z; exact ⟨ob, g1, hd⟩, ?_⟩
  have args := ha.run cpos pins s1 σ H1 _ I1 q1
  rw [hs] at args ⊢
  refine Calls.callWith_builtin (by show (false || (backTo cpos (starEach es X.env)).any (·.1)) = false; rw [bare]; rfl) (Calls.evalArgs_plain ?_)
  refine thn args fun us s2 ⟨vs, H2, I2, r2, i, e2, fz2, q2⟩ => ?_
  subst e2
  obtain ⟨u, rfl, ru⟩ := Vals.one r2
  obtain ⟨tk, rfl⟩ := ru
  obtain ⟨_, _, its, rv, tp⟩ := show ObjOk X.prog X.w H2 s2.heap a (.frz ob (.tup (ns.map V.int))) from I2.hok a _ fz2
  have sh := Shp.all (Shp.ints ns)
  obtain ⟨bs, r1⟩ := Dp.reads I2 (.int i) (.int i) (.int i tk) (.int i) ⟨tk, rfl⟩
  obtain ⟨as, r3⟩ := Dp.readsAll I2 (ns.map .int) (ns.map V.int) its (RpA.dp (L := []) _ _ sh.1 (RpA.ints ns)) rv
  refine SeqAt.count_tuple_data tp (by simpa using r3) r1 (PyData.plainAll_of_canLay0 _ sh.1) rfl (room_in_shaped (shaped_int i) hu) ?_
  have ec : ((ns.map PyData.int).countP fun y => PyData.eqv y (.int i)) = ns.count i := by
    rw [List.countP_map, List.count]
    refine List.countP_congr fun x _ => ?_
    show PyData.eqv (.int x) (.int i) = true ↔ _
    rw [eqv_int, decide_eq_true_iff, beq_iff_eq]
  rw [ec]
  exact ⟨.int (ns.count i : Nat), H2, I2.kept (t' := s2.toks + 1) fun _ _ z => z, ⟨_, rfl⟩, q2⟩
section
variable {K : PySem.W.Frag} {te ta tb tc tl : TE} {tt : TT} {tA : TA} {ds : List SD} {ms : List MD} {R : RS} {P : Po}
theorem e_tcnt (h : E K te ds ms fun s ms1 => ∃ ns, s = tiS ns ∧ E K ta ds ms1 fun s2 ms2 => ∃ i, s2 = .d (.int i) ∧ R (.d (.int (ns.count i : Nat))) ms2) : E K (tTCnt te (tCons ta tNil)) ds ms R := fun L M σ H hS hA Q q =>
  h L M σ H hS hA _ fun s v H1 ms1 w1 o1 ⟨ns, e, h1⟩ => by
    subst e
    have a1 := o1.1
    obtain ⟨p, ob, rfl, np, ep, hc, hd⟩ := o1.2.1
    refine ⟨p, ob, ns, rfl, ep, hc, hd, ?_⟩
    refine h1 L M σ H1 (hS.mono hA w1) a1 _ fun s2 k H2 ms2 w2 o2 ⟨i, e2, r⟩ => ?_
    subst e2
    obtain ⟨a2, hk⟩ := o2
    cases hk
    exact ⟨i, rfl, w2 p _ (fun z => np (a1.sub p z)) ep, q (.d _) _ H2 ms2 (w1.trans w2) ⟨a2, .int _⟩ r⟩
/-- a, b, c = the three -/
theorem s_get3 {z : Str} {i j k : Nat} (h : E K te ds ms fun s ms1 => ∃ ns x, s = t3S z ns x ∧ P.nx (((ds.set i (.d (.str z))).set j (tiS ns)).set k (.d x)) ms1) : S K (tAsg te (gTup K 3 (gCons (gName i) (gCons (gName j) (gCons (gName k) gNil))))) ds ms P := fun L M σ H hS hA D n r b c =>
  h L M σ H hS hA _ fun s v H1 ms1 w o ⟨ns, x, e, h1⟩ => by
    subst e
    have a1 := o.1
    obtain ⟨p, u, y, rfl, np, ep, hu, hy⟩ := o.2.1
    refine ⟨p, [.str z, u, y], rfl, SqT.of ep, rfl, .str z, [u, y], rfl, u, [y], rfl, y, [], rfl, rfl, ?_⟩
    have s0 := (hS.mono hA w).set i (s := .d (.str z)) (v := .str z) (.str z)
    have s1 := s0.set j (s := tiS ns) (v := u) ⟨hu, TupI.stb ns⟩
    have s2 := s1.set k (s := .d x) (v := y) hy
    exact n _ _ _ ms1 w s2 a1 h1
end
end Hc

namespace Hc
open PySem PySem.Spec PyProof.Rows L2
/-! ### try: .. / except D as n: a suite that may hand the error on: it is told as soon as it is caught -/
section
variable {X : Cx} {pins pn' ps : List (Addr × Obj)} {σ : L2.St} {H : Hp} {s : Shared} {a : Addr}
end
section
variable {X : Cx} {pins pn' : List (Addr × Obj)} {σ : L2.St} {H : Hp} {s : Shared} {a : Addr}
end
section
variable {X : Cx} {x n : Str} {c : Value} {i : Nat} {body suite : List Stmt} {b1 : Stmt} {np pos pos2 : Pos} {tb : WX → TS} {ts : TS}
end
section
variable {K : PySem.W.Frag} {D : Addr} {tA : TA} {ds : List SD} {ms : List MD} {P : Po}
end
end Hc

namespace Hc
open PySem PySem.Spec PyProof.Rows L2
/-! ### [f, g, ..][i](..): a def out of a list of defs -/
section
variable {X : Cx} {lv : Nat} {sp : Sp} {W : WX} {fe e : Expr} {es : List Expr} {tf : TE} {t : TA} {pos : Pos}
end
section
variable {K : PySem.W.Frag} {te : TE} {tA : TA} {ds : List SD} {ms : List MD} {Pn : Po} {Y : Addr → List MD → Prop} {Q : Addr → Prop}
end
end Hc

namespace Hc
open PySem PySem.Spec PyProof.Rows L2
/-! ### bits of numbers -/
section
variable {K : PySem.W.Frag} {te : TE} {tt : TT} {tA : TA} {ds : List SD} {ms : List MD} {R : RS}
end
end Hc

namespace K51
open PySem PySem.Spec PyProof.Rows L2 Hc
def topS (i : Nat) : Stmt := PySem.Challenge.pw_heavycut_k51_flat_or_not.main.body.getD i (.Pass ⟨0, 0, 0, 0⟩)
def blt : List Str := ["bool", "isinstance", "int", "range", "enumerate", "sorted", "tuple", "min", "len", "abs", "all", "zip", "set", "list", "reversed", "ValueError"]
structure Cls (K : PySem.W.Frag) (mg : Str → Option Value) (C_CutError C_NoWeb C_NoTurns C_NotFlat C_NoPaper C_TooGreat : Addr) : Prop where
  g_CutError : mg "CutError" = some (.ref C_CutError)
  g_NoWeb : mg "NoWeb" = some (.ref C_NoWeb)
  g_NoTurns : mg "NoTurns" = some (.ref C_NoTurns)
  g_NotFlat : mg "NotFlat" = some (.ref C_NotFlat)
  g_NoPaper : mg "NoPaper" = some (.ref C_NoPaper)
  g_TooGreat : mg "TooGreat" = some (.ref C_TooGreat)
  er_NoTurns : Er K mg "NoTurns" C_NoTurns
  k_NoTurns_CutError : PySem.W.kitOne K (.ref C_NoTurns) (.ref C_CutError) = some true
  n_NoTurns_NoWeb : PySem.W.kitOne K (.ref C_NoTurns) (.ref C_NoWeb) = some false
  n_NoTurns_NotFlat : PySem.W.kitOne K (.ref C_NoTurns) (.ref C_NotFlat) = some false
  n_NoTurns_NoPaper : PySem.W.kitOne K (.ref C_NoTurns) (.ref C_NoPaper) = some false
  n_NoTurns_TooGreat : PySem.W.kitOne K (.ref C_NoTurns) (.ref C_TooGreat) = some false
  m_NoTurns : PySem.W.exmOne K (.ref C_NoTurns) (.ref C_CutError) = some true
  q_NoTurns_NoPaper : PySem.W.exmOne K (.ref C_NoTurns) (.ref C_NoPaper) = some false
  q_NoTurns_NoWeb : PySem.W.exmOne K (.ref C_NoTurns) (.ref C_NoWeb) = some false
  q_NoTurns_TooGreat : PySem.W.exmOne K (.ref C_NoTurns) (.ref C_TooGreat) = some false
  k_NoTurns_ValueError : PySem.W.kitOne K (.ref C_NoTurns) (.type "ValueError") = some true
  er_NotFlat : Er K mg "NotFlat" C_NotFlat
  k_NotFlat_CutError : PySem.W.kitOne K (.ref C_NotFlat) (.ref C_CutError) = some true
  n_NotFlat_NoWeb : PySem.W.kitOne K (.ref C_NotFlat) (.ref C_NoWeb) = some false
  n_NotFlat_NoTurns : PySem.W.kitOne K (.ref C_NotFlat) (.ref C_NoTurns) = some false
  n_NotFlat_NoPaper : PySem.W.kitOne K (.ref C_NotFlat) (.ref C_NoPaper) = some false
  n_NotFlat_TooGreat : PySem.W.kitOne K (.ref C_NotFlat) (.ref C_TooGreat) = some false
  m_NotFlat : PySem.W.exmOne K (.ref C_NotFlat) (.ref C_CutError) = some true
  q_NotFlat_NoPaper : PySem.W.exmOne K (.ref C_NotFlat) (.ref C_NoPaper) = some false
  q_NotFlat_NoWeb : PySem.W.exmOne K (.ref C_NotFlat) (.ref C_NoWeb) = some false
  q_NotFlat_TooGreat : PySem.W.exmOne K (.ref C_NotFlat) (.ref C_TooGreat) = some false
  q_NotFlat_NoTurns : PySem.W.exmOne K (.ref C_NotFlat) (.ref C_NoTurns) = some false
  k_NotFlat_ValueError : PySem.W.kitOne K (.ref C_NotFlat) (.type "ValueError") = some true
abbrev s_is_whole : Stmt := topS 8
theorem sc_is_whole : FnScope ["thing"] ["thing"] (defScope s_is_whole) := ⟨rfl, rfl, rfl, by decide +kernel, rfl, by decide +kernel, by decide +kernel⟩
abbrev s_is_number_of : Stmt := topS 9
theorem sc_is_number_of : FnScope ["many", "thing"] ["many", "thing"] (defScope s_is_number_of) := ⟨rfl, rfl, rfl, by decide +kernel, rfl, by decide +kernel, by decide +kernel⟩
abbrev s_joins_at : Stmt := topS 11
theorem sc_joins_at : FnScope ["many", "joins", "near", "point", "number", "one", "other", "apart"] ["many", "joins"] (defScope s_joins_at) := ⟨rfl, rfl, rfl, by decide +kernel, rfl, by decide +kernel, by decide +kernel⟩
abbrev s_group_from : Stmt := topS 12
theorem sc_group_from : FnScope ["near", "first", "found", "waiting", "point", "mark", "way", "number", "other", "apart"] ["near", "first"] (defScope s_group_from) := ⟨rfl, rfl, rfl, by decide +kernel, rfl, by decide +kernel, by decide +kernel⟩
abbrev s_spread : Stmt := topS 13
theorem sc_spread : FnScope ["many", "joins", "near", "groups", "marks", "ways", "count", "first", "point", "mark", "way"] ["many", "joins"] (defScope s_spread) := ⟨rfl, rfl, rfl, by decide +kernel, rfl, by decide +kernel, by decide +kernel⟩
abbrev s_ring_closed : Stmt := topS 14
theorem sc_ring_closed : FnScope ["way", "other_way", "number", "alone", "step", "other_alone"] ["way", "other_way", "number"] (defScope s_ring_closed) := ⟨rfl, rfl, rfl, by decide +kernel, rfl, by decide +kernel, by decide +kernel⟩
abbrev s_odd_rings : Stmt := topS 15
theorem sc_odd_rings : FnScope ["joins", "marks", "ways", "rings", "number", "one", "other", "apart"] ["joins", "marks", "ways"] (defScope s_odd_rings) := ⟨rfl, rfl, rfl, by decide +kernel, rfl, by decide +kernel, by decide +kernel⟩
abbrev s_parted : Stmt := topS 16
theorem sc_parted : FnScope ["many", "joins", "groups", "marks", "ways", "rings", "point"] ["many", "joins"] (defScope s_parted) := ⟨rfl, rfl, rfl, by decide +kernel, rfl, by decide +kernel, by decide +kernel⟩
abbrev s_common_divisor : Stmt := topS 18
theorem sc_common_divisor : FnScope ["one", "other"] ["one", "other"] (defScope s_common_divisor) := ⟨rfl, rfl, rfl, by decide +kernel, rfl, by decide +kernel, by decide +kernel⟩
abbrev s_as_fraction : Stmt := topS 19
theorem sc_as_fraction : FnScope ["top", "bottom", "divisor"] ["top", "bottom"] (defScope s_as_fraction) := ⟨rfl, rfl, rfl, by decide +kernel, rfl, by decide +kernel, by decide +kernel⟩
abbrev s_neighbours : Stmt := topS 21
theorem sc_neighbours : FnScope ["web", "near", "point", "one", "other", "weight", "row"] ["web"] (defScope s_neighbours) := ⟨rfl, rfl, rfl, by decide +kernel, rfl, by decide +kernel, by decide +kernel⟩
abbrev s_is_round_of : Stmt := topS 22
theorem sc_is_round_of : FnScope ["many", "near", "thing", "point"] ["many", "near", "thing"] (defScope s_is_round_of) := ⟨rfl, rfl, rfl, by decide +kernel, rfl, by decide +kernel, by decide +kernel⟩
abbrev s_are_turns : Stmt := topS 23
theorem sc_are_turns : FnScope ["web", "thing", "near", "row"] ["web", "thing"] (defScope s_are_turns) := ⟨rfl, rfl, rfl, by decide +kernel, rfl, by decide +kernel, by decide +kernel⟩
abbrev s_darts_behind : Stmt := topS 24
theorem sc_darts_behind : FnScope ["turns", "behind", "point", "row", "place", "before"] ["turns"] (defScope s_darts_behind) := ⟨rfl, rfl, rfl, by decide +kernel, rfl, by decide +kernel, by decide +kernel⟩
abbrev s_face_from : Stmt := topS 25
theorem sc_face_from : FnScope ["behind", "first", "face"] ["behind", "first"] (defScope s_face_from) := ⟨rfl, rfl, rfl, by decide +kernel, rfl, by decide +kernel, by decide +kernel⟩
abbrev s_faces_of : Stmt := topS 26
theorem sc_faces_of : FnScope ["web", "turns", "behind", "faces", "taken", "first", "face", "dart"] ["web", "turns"] (defScope s_faces_of) := ⟨rfl, rfl, rfl, by decide +kernel, rfl, by decide +kernel, by decide +kernel⟩
abbrev s_part_of_points : Stmt := topS 28
theorem sc_part_of_points : FnScope ["web", "name", "parts", "marks", "one", "other", "weight"] ["web"] (defScope s_part_of_points) := ⟨rfl, rfl, rfl, by decide +kernel, rfl, by decide +kernel, by decide +kernel⟩
abbrev s_is_flat : Stmt := topS 29
theorem sc_is_flat : FnScope ["web", "faces", "parts", "tied", "one", "other", "weight", "faced", "face", "part"] ["web", "faces"] (defScope s_is_flat) := ⟨rfl, rfl, rfl, by decide +kernel, rfl, by decide +kernel, by decide +kernel⟩
abbrev s_flat_web : Stmt := topS 30
theorem sc_flat_web : FnScope ["web", "turns"] ["web", "turns"] (defScope s_flat_web) := ⟨rfl, rfl, rfl, by decide +kernel, rfl, by decide +kernel, by decide +kernel⟩
abbrev s__law_mixed : Stmt := topS 32
theorem sc__law_mixed : FnScope ["_law_cell", "_law_k", "_law_number"] ["_law_cell", "_law_k"] (defScope s__law_mixed) := ⟨rfl, rfl, rfl, by decide +kernel, rfl, by decide +kernel, by decide +kernel⟩
abbrev s__law_deck : Stmt := topS 33
theorem sc__law_deck : FnScope ["_law_script", "_law_many", "_law_own", "_law_rest", "_law_cell", "_law_deck_here", "_law_k", "_law_at"] ["_law_script", "_law_many"] (defScope s__law_deck) := ⟨rfl, rfl, rfl, by decide +kernel, rfl, by decide +kernel, by decide +kernel⟩
abbrev s__law_next : Stmt := topS 34
theorem sc__law_next : FnScope ["_law_deck_here"] ["_law_deck_here"] (defScope s__law_next) := ⟨rfl, rfl, rfl, by decide +kernel, rfl, by decide +kernel, by decide +kernel⟩
abbrev s__law_weight : Stmt := topS 35
theorem sc__law_weight : FnScope ["_law_deck_here", "_law_cell", "_law_tops"] ["_law_deck_here"] (defScope s__law_weight) := ⟨rfl, rfl, rfl, by decide +kernel, rfl, by decide +kernel, by decide +kernel⟩
abbrev s__law_order : Stmt := topS 36
theorem sc__law_order : FnScope ["_law_deck_here", "_law_many", "_law_rest", "_law_found", "_law_k"] ["_law_deck_here", "_law_many"] (defScope s__law_order) := ⟨rfl, rfl, rfl, by decide +kernel, rfl, by decide +kernel, by decide +kernel⟩
abbrev s__law_beside : Stmt := topS 37
theorem sc__law_beside : FnScope ["_law_web", "_law_found", "_law_k", "_law_one", "_law_other", "_law_weight_here", "_law_row"] ["_law_web"] (defScope s__law_beside) := ⟨rfl, rfl, rfl, by decide +kernel, rfl, by decide +kernel, by decide +kernel⟩
abbrev s__law_turns : Stmt := topS 38
theorem sc__law_turns : FnScope ["_law_deck_here", "_law_web", "_law_found", "_law_row", "_law_k"] ["_law_deck_here", "_law_web"] (defScope s__law_turns) := ⟨rfl, rfl, rfl, by decide +kernel, rfl, by decide +kernel, by decide +kernel⟩
abbrev s__law_any_web : Stmt := topS 39
theorem sc__law_any_web : FnScope ["_law_deck_here", "_law_most", "_law_many", "_law_ties", "_law_a", "_law_b"] ["_law_deck_here", "_law_most"] (defScope s__law_any_web) := ⟨rfl, rfl, rfl, by decide +kernel, rfl, by decide +kernel, by decide +kernel⟩
abbrev s__law_behind : Stmt := topS 40
theorem sc__law_behind : FnScope ["_law_turns_here", "_law_dart", "_law_row", "_law_k"] ["_law_turns_here", "_law_dart"] (defScope s__law_behind) := ⟨rfl, rfl, rfl, by decide +kernel, rfl, by decide +kernel, by decide +kernel⟩
abbrev s__law_faces : Stmt := topS 41
theorem sc__law_faces : FnScope ["_law_web", "_law_turns_here", "_law_left", "_law_tie", "_law_found", "_law_dart", "_law_face"] ["_law_web", "_law_turns_here"] (defScope s__law_faces) := ⟨rfl, rfl, rfl, by decide +kernel, rfl, by decide +kernel, by decide +kernel⟩
abbrev s__law_after : Stmt := topS 42
theorem sc__law_after : FnScope ["_law_row", "_law_one", "_law_new", "_law_at"] ["_law_row", "_law_one", "_law_new"] (defScope s__law_after) := ⟨rfl, rfl, rfl, by decide +kernel, rfl, by decide +kernel, by decide +kernel⟩
abbrev s__law_corners : Stmt := topS 43
theorem sc__law_corners : FnScope ["_law_rows", "_law_found", "_law_left", "_law_a", "_law_b", "_law_dart", "_law_face"] ["_law_rows"] (defScope s__law_corners) := ⟨rfl, rfl, rfl, by decide +kernel, rfl, by decide +kernel, by decide +kernel⟩
abbrev s__law_put_point : Stmt := topS 44
theorem sc__law_put_point : FnScope ["_law_deck_here", "_law_rows", "_law_faces_here", "_law_face", "_law_a", "_law_b"] ["_law_deck_here", "_law_rows"] (defScope s__law_put_point) := ⟨rfl, rfl, rfl, by decide +kernel, rfl, by decide +kernel, by decide +kernel⟩
abbrev s__law_put_tie : Stmt := topS 45
theorem sc__law_put_tie : FnScope ["_law_deck_here", "_law_rows", "_law_faces_here", "_law_face", "_law_a", "_law_b", "_law_c", "_law_d"] ["_law_deck_here", "_law_rows"] (defScope s__law_put_tie) := ⟨rfl, rfl, rfl, by decide +kernel, rfl, by decide +kernel, by decide +kernel⟩
abbrev s__law_grown : Stmt := topS 46
theorem sc__law_grown : FnScope ["_law_deck_here", "_law_points", "_law_ties", "_law_rows", "_law_k"] ["_law_deck_here", "_law_points", "_law_ties"] (defScope s__law_grown) := ⟨rfl, rfl, rfl, by decide +kernel, rfl, by decide +kernel, by decide +kernel⟩
abbrev s__law_two_parts : Stmt := topS 47
theorem sc__law_two_parts : FnScope ["_law_rows", "_law_others", "_law_many", "_law_row", "_law_point"] ["_law_rows", "_law_others"] (defScope s__law_two_parts) := ⟨rfl, rfl, rfl, by decide +kernel, rfl, by decide +kernel, by decide +kernel⟩
abbrev s__law_named : Stmt := topS 48
theorem sc__law_named : FnScope ["_law_deck_here", "_law_rows", "_law_names", "_law_turns_here", "_law_ties", "_law_a", "_law_b"] ["_law_deck_here", "_law_rows"] (defScope s__law_named) := ⟨rfl, rfl, rfl, by decide +kernel, rfl, by decide +kernel, by decide +kernel⟩
abbrev s__law_parts : Stmt := topS 49
theorem sc__law_parts : FnScope ["_law_web", "_law_parts_here", "_law_turn", "_law_one", "_law_other", "_law_weight_here", "_law_least"] ["_law_web"] (defScope s__law_parts) := ⟨rfl, rfl, rfl, by decide +kernel, rfl, by decide +kernel, by decide +kernel⟩
abbrev s__law_is_flat : Stmt := topS 50
theorem sc__law_is_flat : FnScope ["_law_web", "_law_turns_here", "_law_parts_here", "_law_faces_here", "_law_part", "_law_points", "_law_ties", "_law_tie", "_law_own", "_law_face"] ["_law_web", "_law_turns_here"] (defScope s__law_is_flat) := ⟨rfl, rfl, rfl, by decide +kernel, rfl, by decide +kernel, by decide +kernel⟩
abbrev s__law_told : Stmt := topS 51
theorem sc__law_told : FnScope ["_law_web", "_law_thing", "_law_found", "error"] ["_law_web", "_law_thing"] (defScope s__law_told) := ⟨rfl, rfl, rfl, by decide +kernel, rfl, by decide +kernel, by decide +kernel⟩
abbrev s__law_changed : Stmt := topS 52
theorem sc__law_changed : FnScope ["_law_deck_here", "_law_turns_here", "_law_at", "_law_row", "_law_k", "_law_other"] ["_law_deck_here", "_law_turns_here"] (defScope s__law_changed) := ⟨rfl, rfl, rfl, by decide +kernel, rfl, by decide +kernel, by decide +kernel⟩
abbrev s__law_webs : Stmt := topS 53
theorem sc__law_webs : FnScope ["_law_deck_here", "_law_web", "_law_found", "_law_one", "_law_other", "_law_lone", "_law_rows", "_law_turns_here"] ["_law_deck_here"] (defScope s__law_webs) := ⟨rfl, rfl, rfl, by decide +kernel, rfl, by decide +kernel, by decide +kernel⟩
abbrev s_law : Stmt := topS 54
theorem sc_law : FnScope ["_law_script", "_law_deck_here", "_law_web", "_law_turns_here", "_law_due", "_law_thing"] ["_law_script"] (defScope s_law) := ⟨rfl, rfl, rfl, by decide +kernel, rfl, by decide +kernel, by decide +kernel⟩
section
variable {Pg : Program} {w : World} {K : PySem.W.Frag} {mg : Str → Option Value} {base : Heap}
def t_is_whole (K : PySem.W.Frag) : TS := (tRet (tAndV (tCB (rIsi K) (tCons (tVar 0) (tCons (tC (.ty "int")) tNil))) (tNotV (tCB (rIsi K) (tCons (tVar 0) (tCons (tC (.ty "bool")) tNil))))))
theorem dv_is_whole {f : Addr} {cdv : Value} {A : Around} {outer : List Env} {s : Shared} {H : Hp} {E : XK} (hr : Room 0 (A.deeper (envOfC "is_whole" (defScope s_is_whole) s.heap.objs.size f cdv))) (B : ∀ x, x ∈ blt → mg x = none) :
    PSs (cxOf CX0 Pg w K mg base ["thing"] "is_whole" (defScope s_is_whole) f cdv A outer s H E).nox (defBody s_is_whole) (t_is_whole K) :=
  (pss_one (ps_ret (pe_and (pe_callB call_isi (by rfl) (B "isinstance" (by decide)) (by decide +kernel) (pa_cons (pv 0) (pa_cons (pe_bltn (by rfl) (B "int" (by decide)) (by decide +kernel) rfl) pa_nil))) (pe_one (pe_not (pe_callB call_isi (by rfl) (B "isinstance" (by decide)) (by decide +kernel) (pa_cons (pv 0) (pa_cons (pe_bltn (by rfl) (B "bool" (by decide)) (by decide +kernel) rfl) pa_nil))))))))
def t_is_number_of (K : PySem.W.Frag) (Φ_is_whole : Ph) : TS := (tRet (tAndV (tCall (SpD K Φ_is_whole) [] E0 (tCons (tVar 1) tNil)) (tChain rLeI rLtI (tC (.int 0)) (tVar 1) (tVar 0))))
theorem dv_is_number_of {f : Addr} {cdv : Value} {A : Around} {outer : List Env} {s : Shared} {H : Hp} {E : XK} (hr : Room 1 (A.deeper (envOfC "is_number_of" (defScope s_is_number_of) s.heap.objs.size f cdv))) (B : ∀ x, x ∈ blt → mg x = none) {Φ_is_whole : Ph} (g_is_whole : Kn Pg w K mg base "is_whole" 1 ["thing"] Φ_is_whole) :
    PSs (cxOf CX0 Pg w K mg base ["many", "thing"] "is_number_of" (defScope s_is_number_of) f cdv A outer s H E).nox (defBody s_is_number_of) (t_is_number_of K Φ_is_whole) :=
  (pss_one (ps_ret (pe_and (pe_callD g_is_whole (hr.mono (by decide)) (by rfl) (pa_cons (pv 1) pa_nil)) (pe_one (pe_chain op_le op_lt pe_int (pv 1) (pv 0))))))
def t_joins_at (K : PySem.W.Frag) : TS := (tSeq (tAsg (tLc (iRng1 (tCons (tVar 0) tNil)) (gName 3) tYes (tLst tNil) [3]) (gName 2))
    (tSeq (tFor (iEnum K (tCons (tVar 1) tNil)) (gTup K 2 (gCons (gName 4) (gCons (gTup K 3 (gCons (gName 5) (gCons (gName 6) (gCons (gName 7) gNil)))) gNil))) (tSeq (tDrop (tBM K "list" rAppend (tOp (rIx K) (tVar 2) (tVar 5)) (tCons (tTup (tCons (tVar 4) (tCons (tVar 6) (tCons (tVar 7) tNil)))) tNil)))
    (tDrop (tBM K "list" rAppend (tOp (rIx K) (tVar 2) (tVar 6)) (tCons (tTup (tCons (tVar 4) (tCons (tVar 5) (tCons (tVar 7) tNil)))) tNil)))))
    (tRet (tVar 2))))
theorem dv_joins_at {f : Addr} {cdv : Value} {A : Around} {outer : List Env} {s : Shared} {H : Hp} {E : XK} (hr : Room 0 (A.deeper (envOfC "joins_at" (defScope s_joins_at) s.heap.objs.size f cdv))) (B : ∀ x, x ∈ blt → mg x = none) :
    PSs (cxOf CX0 Pg w K mg base ["many", "joins", "near", "point", "number", "one", "other", "apart"] "joins_at" (defScope s_joins_at) f cdv A outer s H E).nox (defBody s_joins_at) (t_joins_at K) :=
  (pss_cons (ps_setLc (i := 2) (own := [("point", 3)]) (g := (gName 3)) (tt := tYes) rfl sc_joins_at.nd rfl rfl (sw_true rfl rfl rfl (by decide +kernel)) (pi_range1 (by rfl) (B "range" (by decide)) (pa_cons (pv 0) pa_nil)) (blkOk_by (own := [("point", 3)]) (N := ["many", "joins", "near", "point", "number", "one", "other", "apart"]) (sc := defScope s_joins_at) (by decide +kernel)) (fun _ _ _ _ _ => (pg_name (i := 3) sc_joins_at.nd rfl (by first | exact .inl rfl | exact .inr rfl))) (fun _ _ _ _ _ => pts_nil) (fun _ _ _ _ _ => (pe_lst pa_nil)))
      (pss_cons (ps_for PassesOwn.never rfl (pi_enum (by rfl) (B "enumerate" (by decide)) (pa_cons (pv 1) pa_nil)) (pg_tup rfl (pgs_cons (pg_name (i := 4) sc_joins_at.nd rfl (by first | exact .inl rfl | exact .inr rfl)) (pgs_cons (pg_tup rfl (pgs_cons (pg_name (i := 5) sc_joins_at.nd rfl (by first | exact .inl rfl | exact .inr rfl)) (pgs_cons (pg_name (i := 6) sc_joins_at.nd rfl (by first | exact .inl rfl | exact .inr rfl)) (pgs_cons (pg_name (i := 7) sc_joins_at.nd rfl (by first | exact .inl rfl | exact .inr rfl)) pgs_nil)))) pgs_nil))) (pss_cons (ps_expr (pe_bm PySem.F.plainAttrs_list PySem.F.slot_list_append PySem.F.type_list_append mt_append (pe_ix ix_seq (pv 2) (pv 5) (fun _ _ => rfl)) (pa_cons (pe_tup (pa_cons (pv 4) (pa_cons (pv 6) (pa_cons (pv 7) pa_nil)))) pa_nil)))
      (pss_one (ps_expr (pe_bm PySem.F.plainAttrs_list PySem.F.slot_list_append PySem.F.type_list_append mt_append (pe_ix ix_seq (pv 2) (pv 6) (fun _ _ => rfl)) (pa_cons (pe_tup (pa_cons (pv 4) (pa_cons (pv 5) (pa_cons (pv 7) pa_nil)))) pa_nil))))))
      (pss_one (ps_ret (pv 2)))))
def t_group_from (K : PySem.W.Frag) : TS := (tSeq (tAsg (tDisp (((tVar 1), (tTup (tCons (tC (.int 0)) (tCons (tTup tNil) tNil)))) :: [])) (gName 2))
    (tSeq (tAsg (tLst (tCons (tVar 1) tNil)) (gName 3))
    (tSeq (tWhile (tTru K (tVar 3)) (tSeq (tAsg (tBM K "list" rPopAt (tVar 3) (tCons (tC (.int 0)) tNil)) (gName 4))
    (tSeq (tAsg (tDGet (tVar 2) (tVar 4)) (gTup K 2 (gCons (gName 5) (gCons (gName 6) gNil))))
    (tFor (iList K (tOp (rIx K) (tVar 0) (tVar 4))) (gTup K 3 (gCons (gName 7) (gCons (gName 8) (gCons (gName 9) gNil)))) (tIfS (L2.tB (tDNotIn (tVar 8) (tVar 2))) (tSeq (tAsg (tTup (tCons (tOp rXorI (tVar 5) (tVar 9)) (tCons (tOp (rCatA K) (tVar 6) (tTup (tCons (tVar 7) tNil))) tNil))) (gSub (tVar 2) (tVar 8) rSetD))
    (tDrop (tBM K "list" rAppend (tVar 3) (tCons (tVar 8) tNil)))) tNext)))))
    (tRet (tVar 2)))))
theorem dv_group_from {f : Addr} {cdv : Value} {A : Around} {outer : List Env} {s : Shared} {H : Hp} {E : XK} (hr : Room 0 (A.deeper (envOfC "group_from" (defScope s_group_from) s.heap.objs.size f cdv))) (B : ∀ x, x ∈ blt → mg x = none) :
    PSs (cxOf CX0 Pg w K mg base ["near", "first", "found", "waiting", "point", "mark", "way", "number", "other", "apart"] "group_from" (defScope s_group_from) f cdv A outer s H E).nox (defBody s_group_from) (t_group_from K) :=
  (pss_cons (ps_set (i := 2) sc_group_from.nd rfl (by first | exact .inl rfl | exact .inr rfl) (pe_disp (pps_cons (pv 1) (pe_tup (pa_cons pe_int (pa_cons (pe_tup pa_nil) pa_nil))) pps_nil) (by rfl) (by rfl) (fun z => by cases z) (by decide)))
      (pss_cons (ps_set (i := 3) sc_group_from.nd rfl (by first | exact .inl rfl | exact .inr rfl) (pe_lst (pa_cons (pv 1) pa_nil)))
      (pss_cons (ps_while PassesOwn.never (pt_tru (pv 3)) (pss_cons (ps_set (i := 4) sc_group_from.nd rfl (by first | exact .inl rfl | exact .inr rfl) (pe_bm PySem.F.plainAttrs_list PySem.F.slot_list_pop PySem.F.type_list_pop mt_popAt (pv 3) (pa_cons pe_int pa_nil)))
      (pss_cons (ps_asg (pe_dget (u1 hr) (pv 2) (pv 4) (fun _ _ => rfl)) (pg_tup rfl (pgs_cons (pg_name (i := 5) sc_group_from.nd rfl (by first | exact .inl rfl | exact .inr rfl)) (pgs_cons (pg_name (i := 6) sc_group_from.nd rfl (by first | exact .inl rfl | exact .inr rfl)) pgs_nil))))
      (pss_one (ps_for PassesOwn.never rfl (pi_list (pe_ix ix_seq (pv 0) (pv 4) (fun _ _ => rfl))) (pg_tup rfl (pgs_cons (pg_name (i := 7) sc_group_from.nd rfl (by first | exact .inl rfl | exact .inr rfl)) (pgs_cons (pg_name (i := 8) sc_group_from.nd rfl (by first | exact .inl rfl | exact .inr rfl)) (pgs_cons (pg_name (i := 9) sc_group_from.nd rfl (by first | exact .inl rfl | exact .inr rfl)) pgs_nil)))) (pss_one (ps_if (pt_cmp (pc_dnotin (u1 hr) (pv 8) (pv 2))) (pss_cons (ps_asg (pe_tup (pa_cons (pe_op op_xor (pv 5) (pv 9)) (pa_cons (pe_op op_catA (pv 6) (pe_tup (pa_cons (pv 7) pa_nil))) pa_nil))) (pg_sub (pv 2) (pv 8) (set_dict (u1 hr))))
      (pss_one (ps_expr (pe_bm PySem.F.plainAttrs_list PySem.F.slot_list_append PySem.F.type_list_append mt_append (pv 3) (pa_cons (pv 8) pa_nil))))) pss_nil)))))))
      (pss_one (ps_ret (pv 2))))))
def t_spread (K : PySem.W.Frag) (Φ_joins_at : Ph) (Φ_group_from : Ph) : TS := (tSeq (tAsg (tCall (SpD K Φ_joins_at) [] E0 (tCons (tVar 0) (tCons (tVar 1) tNil))) (gName 2))
    (tSeq (tPar3 3 4 5 (tCons tDNewK (tCons tDNewK (tCons tDNewK tNil))))
    (tSeq (tAsg (tC (.int 0)) (gName 6))
    (tSeq (tFor (iRng1 (tCons (tVar 0) tNil)) (gName 7) (tIfS (L2.tB (tDNotIn (tVar 7) (tVar 3))) (tSeq (tFor (iItems (tLkN (tCall (SpD K Φ_group_from) [] E0 (tCons (tVar 2) (tCons (tVar 7) tNil))))) (gTup K 2 (gCons (gName 8) (gCons (gTup K 2 (gCons (gName 9) (gCons (gName 10) gNil))) gNil))) (tAsg (tTup (tCons (tVar 6) (tCons (tVar 9) (tCons (tVar 10) tNil)))) (gTup K 3 (gCons (gSub (tVar 3) (tVar 8) rSetD) (gCons (gSub (tVar 4) (tVar 8) rSetD) (gCons (gSub (tVar 5) (tVar 8) rSetD) gNil))))))
    (tAug 6 (tC (.int 1)) (ipI fun i j => i + j))) tNext))
    (tRet (tTup (tCons (tVar 3) (tCons (tVar 4) (tCons (tVar 5) tNil)))))))))
theorem dv_spread {f : Addr} {cdv : Value} {A : Around} {outer : List Env} {s : Shared} {H : Hp} {E : XK} (hr : Room 1 (A.deeper (envOfC "spread" (defScope s_spread) s.heap.objs.size f cdv))) (B : ∀ x, x ∈ blt → mg x = none) {Φ_joins_at : Ph} {Φ_group_from : Ph} (g_joins_at : Kn Pg w K mg base "joins_at" 1 ["many", "joins"] Φ_joins_at) (g_group_from : Kn Pg w K mg base "group_from" 1 ["near", "first"] Φ_group_from) :
    PSs (cxOf CX0 Pg w K mg base ["many", "joins", "near", "groups", "marks", "ways", "count", "first", "point", "mark", "way"] "spread" (defScope s_spread) f cdv A outer s H E).nox (defBody s_spread) (t_spread K Φ_joins_at Φ_group_from) :=
  (pss_cons (ps_set (i := 2) sc_spread.nd rfl (by first | exact .inl rfl | exact .inr rfl) (pe_callD g_joins_at (hr.mono (by decide)) (by rfl) (pa_cons (pv 0) (pa_cons (pv 1) pa_nil))))
      (pss_cons (ps_par3 (by rfl) sc_spread.nd (i := 3) (j := 4) (l := 5) rfl rfl rfl (by decide) (by decide) (by decide) rfl rfl rfl (pa_cons pe_dnewK (pa_cons pe_dnewK (pa_cons pe_dnewK pa_nil))) (by rfl))
      (pss_cons (ps_set (i := 6) sc_spread.nd rfl (by first | exact .inl rfl | exact .inr rfl) pe_int)
      (pss_cons (ps_for PassesOwn.never rfl (pi_range1 (by rfl) (B "range" (by decide)) (pa_cons (pv 0) pa_nil)) (pg_name (i := 7) sc_spread.nd rfl (by first | exact .inl rfl | exact .inr rfl)) (pss_one (ps_if (pt_cmp (pc_dnotin (u1 hr) (pv 7) (pv 3))) (pss_cons (ps_for PassesOwn.never rfl (pi_items (pe_lkN (pe_callD g_group_from (hr.mono (by decide)) (by rfl) (pa_cons (pv 2) (pa_cons (pv 7) pa_nil))))) (pg_tup rfl (pgs_cons (pg_name (i := 8) sc_spread.nd rfl (by first | exact .inl rfl | exact .inr rfl)) (pgs_cons (pg_tup rfl (pgs_cons (pg_name (i := 9) sc_spread.nd rfl (by first | exact .inl rfl | exact .inr rfl)) (pgs_cons (pg_name (i := 10) sc_spread.nd rfl (by first | exact .inl rfl | exact .inr rfl)) pgs_nil))) pgs_nil))) (pss_one (ps_asg (pe_tup (pa_cons (pv 6) (pa_cons (pv 9) (pa_cons (pv 10) pa_nil)))) (pg_tup rfl (pgs_cons (pg_sub (pv 3) (pv 8) (set_dict (u1 hr))) (pgs_cons (pg_sub (pv 4) (pv 8) (set_dict (u1 hr))) (pgs_cons (pg_sub (pv 5) (pv 8) (set_dict (u1 hr))) pgs_nil)))))))
      (pss_one (ps_aug (i := 6) sc_spread.nd rfl (by first | exact .inl rfl | exact .inr rfl) pe_int ip_add))) pss_nil)))
      (pss_one (ps_ret (pe_tup (pa_cons (pv 3) (pa_cons (pv 4) (pa_cons (pv 5) pa_nil))))))))))
def t_ring_closed (K : PySem.W.Frag) : TS := (tSeq (tAsg (tLc (iTup K (tVar 0)) (gName 4) (tTest (tOp (rIn K true) (tVar 4) (tVar 1))) (tVar 4) [4]) (gName 3))
    (tSeq (tAsg (tLc (iTup K (tVar 1)) (gName 4) (tTest (tOp (rIn K true) (tVar 4) (tVar 0))) (tVar 4) [4]) (gName 5))
    (tRet (tCB (rTupQ K) (tCons (tCB (rSortedI K) (tCons (tOp rCat (tOp rCat (tVar 3) (tVar 5)) (tLst (tCons (tVar 2) tNil))) tNil)) tNil)))))
theorem dv_ring_closed {f : Addr} {cdv : Value} {A : Around} {outer : List Env} {s : Shared} {H : Hp} {E : XK} (hr : Room 0 (A.deeper (envOfC "ring_closed" (defScope s_ring_closed) s.heap.objs.size f cdv))) (B : ∀ x, x ∈ blt → mg x = none) :
    PSs (cxOf CX0 Pg w K mg base ["way", "other_way", "number", "alone", "step", "other_alone"] "ring_closed" (defScope s_ring_closed) f cdv A outer s H E).nox (defBody s_ring_closed) (t_ring_closed K) :=
  (pss_cons (ps_setLc (i := 3) (own := [("step", 4)]) (g := (gName 4)) (tt := (tTest (tOp (rIn K true) (tVar 4) (tVar 1)))) rfl sc_ring_closed.nd rfl rfl (sw_true rfl rfl rfl (by decide +kernel)) (pi_tup (pv 0)) (blkOk_by (own := [("step", 4)]) (N := ["way", "other_way", "number", "alone", "step", "other_alone"]) (sc := defScope s_ring_closed) (by decide +kernel)) (fun _ _ _ _ _ => (pg_name (i := 4) sc_ring_closed.nd rfl (by first | exact .inl rfl | exact .inr rfl))) (fun _ _ _ _ _ => (pts_one (pt_cmpR op_notIn_seq (pv 4) (pv 1) (by rfl)))) (fun _ _ _ _ _ => (pv 4)))
      (pss_cons (ps_setLc (i := 5) (own := [("step", 4)]) (g := (gName 4)) (tt := (tTest (tOp (rIn K true) (tVar 4) (tVar 0)))) rfl sc_ring_closed.nd rfl rfl (sw_true rfl rfl rfl (by decide +kernel)) (pi_tup (pv 1)) (blkOk_by (own := [("step", 4)]) (N := ["way", "other_way", "number", "alone", "step", "other_alone"]) (sc := defScope s_ring_closed) (by decide +kernel)) (fun _ _ _ _ _ => (pg_name (i := 4) sc_ring_closed.nd rfl (by first | exact .inl rfl | exact .inr rfl))) (fun _ _ _ _ _ => (pts_one (pt_cmpR op_notIn_seq (pv 4) (pv 0) (by rfl)))) (fun _ _ _ _ _ => (pv 4)))
      (pss_one (ps_ret (pe_callTy call_tuple_of (by rfl) (B "tuple" (by decide)) (by decide +kernel) (pa_cons (pe_callB cr_sortedI (by rfl) (B "sorted" (by decide)) (by decide +kernel) (pa_cons (pe_op op_cat (pe_op op_cat (pv 3) (pv 5)) (pe_lst (pa_cons (pv 2) pa_nil))) pa_nil)) pa_nil))))))
def t_odd_rings (K : PySem.W.Frag) (Φ_ring_closed : Ph) : TS := (tSeq (tAsg (tLst tNil) (gName 3))
    (tSeq (tFor (iEnum K (tCons (tVar 0) tNil)) (gTup K 2 (gCons (gName 4) (gCons (gTup K 3 (gCons (gName 5) (gCons (gName 6) (gCons (gName 7) gNil)))) gNil))) (tIfS (tTest (tOp (rNeD K) (tOp rXorI (tDGet (tVar 1) (tVar 5)) (tDGet (tVar 1) (tVar 6))) (tVar 7))) (tDrop (tBM K "list" rAppend (tVar 3) (tCons (tCall (SpD K Φ_ring_closed) [] E0 (tCons (tDGet (tVar 2) (tVar 5)) (tCons (tDGet (tVar 2) (tVar 6)) (tCons (tVar 4) tNil)))) tNil))) tNext))
    (tRet (tVar 3))))
theorem dv_odd_rings {f : Addr} {cdv : Value} {A : Around} {outer : List Env} {s : Shared} {H : Hp} {E : XK} (hr : Room 1 (A.deeper (envOfC "odd_rings" (defScope s_odd_rings) s.heap.objs.size f cdv))) (B : ∀ x, x ∈ blt → mg x = none) {Φ_ring_closed : Ph} (g_ring_closed : Kn Pg w K mg base "ring_closed" 1 ["way", "other_way", "number"] Φ_ring_closed) :
    PSs (cxOf CX0 Pg w K mg base ["joins", "marks", "ways", "rings", "number", "one", "other", "apart"] "odd_rings" (defScope s_odd_rings) f cdv A outer s H E).nox (defBody s_odd_rings) (t_odd_rings K Φ_ring_closed) :=
  (pss_cons (ps_set (i := 3) sc_odd_rings.nd rfl (by first | exact .inl rfl | exact .inr rfl) (pe_lst pa_nil))
      (pss_cons (ps_for PassesOwn.never rfl (pi_enum (by rfl) (B "enumerate" (by decide)) (pa_cons (pv 0) pa_nil)) (pg_tup rfl (pgs_cons (pg_name (i := 4) sc_odd_rings.nd rfl (by first | exact .inl rfl | exact .inr rfl)) (pgs_cons (pg_tup rfl (pgs_cons (pg_name (i := 5) sc_odd_rings.nd rfl (by first | exact .inl rfl | exact .inr rfl)) (pgs_cons (pg_name (i := 6) sc_odd_rings.nd rfl (by first | exact .inl rfl | exact .inr rfl)) (pgs_cons (pg_name (i := 7) sc_odd_rings.nd rfl (by first | exact .inl rfl | exact .inr rfl)) pgs_nil)))) pgs_nil))) (pss_one (ps_if (pt_cmpR (op_neD hr.units) (pe_op op_xor (pe_dget (u1 hr) (pv 1) (pv 5) (fun _ _ => rfl)) (pe_dget (u1 hr) (pv 1) (pv 6) (fun _ _ => rfl))) (pv 7) (nomark _)) (pss_one (ps_expr (pe_bm PySem.F.plainAttrs_list PySem.F.slot_list_append PySem.F.type_list_append mt_append (pv 3) (pa_cons (pe_callD g_ring_closed (hr.mono (by decide)) (by rfl) (pa_cons (pe_dget (u1 hr) (pv 2) (pv 5) (fun _ _ => rfl)) (pa_cons (pe_dget (u1 hr) (pv 2) (pv 6) (fun _ _ => rfl)) (pa_cons (pv 4) pa_nil)))) pa_nil)))) pss_nil)))
      (pss_one (ps_ret (pv 3)))))
def t_parted (K : PySem.W.Frag) (Φ_spread : Ph) (Φ_odd_rings : Ph) : TS := (tSeq (tAsg (tCall (SpD K Φ_spread) [] E0 (tCons (tVar 0) (tCons (tVar 1) tNil))) (gTup K 3 (gCons (gName 2) (gCons (gName 3) (gCons (gName 4) gNil)))))
    (tSeq (tAsg (tCall (SpD K Φ_odd_rings) [] E0 (tCons (tVar 1) (tCons (tVar 3) (tCons (tVar 4) tNil)))) (gName 5))
    (tSeq (tIfS (tTru K (tVar 5)) (tRet (tTup (tCons (tC (.str "ring")) (tCons (tMinL K (tCons (tVar 5) tNil)) tNil)))) tNext)
    (tRet (tTup (tCons (tC (.str "groups")) (tCons (tCB (rTupF K) (tCons (tLc (iRng1 (tCons (tVar 0) tNil)) (gName 6) tYes (tDGet (tVar 2) (tVar 6)) [6]) tNil)) (tCons (tCB (rTupQ K) (tCons (tLc (iRng1 (tCons (tVar 0) tNil)) (gName 6) tYes (tDGet (tVar 3) (tVar 6)) [6]) tNil)) tNil))))))))
theorem dv_parted {f : Addr} {cdv : Value} {A : Around} {outer : List Env} {s : Shared} {H : Hp} {E : XK} (hr : Room 2 (A.deeper (envOfC "parted" (defScope s_parted) s.heap.objs.size f cdv))) (B : ∀ x, x ∈ blt → mg x = none) {Φ_spread : Ph} {Φ_odd_rings : Ph} (g_spread : Kn Pg w K mg base "spread" 2 ["many", "joins"] Φ_spread) (g_odd_rings : Kn Pg w K mg base "odd_rings" 2 ["joins", "marks", "ways"] Φ_odd_rings) :
    PSs (cxOf CX0 Pg w K mg base ["many", "joins", "groups", "marks", "ways", "rings", "point"] "parted" (defScope s_parted) f cdv A outer s H E).nox (defBody s_parted) (t_parted K Φ_spread Φ_odd_rings) :=
  (pss_cons (ps_asg (pe_callD g_spread (hr.mono (by decide)) (by rfl) (pa_cons (pv 0) (pa_cons (pv 1) pa_nil))) (pg_tup rfl (pgs_cons (pg_name (i := 2) sc_parted.nd rfl (by first | exact .inl rfl | exact .inr rfl)) (pgs_cons (pg_name (i := 3) sc_parted.nd rfl (by first | exact .inl rfl | exact .inr rfl)) (pgs_cons (pg_name (i := 4) sc_parted.nd rfl (by first | exact .inl rfl | exact .inr rfl)) pgs_nil)))))
      (pss_cons (ps_set (i := 5) sc_parted.nd rfl (by first | exact .inl rfl | exact .inr rfl) (pe_callD g_odd_rings (hr.mono (by decide)) (by rfl) (pa_cons (pv 1) (pa_cons (pv 3) (pa_cons (pv 4) pa_nil)))))
      (pss_cons (ps_if (pt_tru (pv 5)) (pss_one (ps_ret (pe_tup (pa_cons pe_str (pa_cons (pe_minL (by rfl) (by rfl) (B "min" (by decide)) (by rfl) (B "len" (by decide)) (pa_cons (pv 5) pa_nil)) pa_nil))))) pss_nil)
      (pss_one (ps_ret (pe_tup (pa_cons pe_str (pa_cons (pe_callTy cr_tupF (by rfl) (B "tuple" (by decide)) (by decide +kernel) (pa_cons (pe_lc (own := [("point", 6)]) (g := (gName 6)) (tt := tYes) rfl sc_parted.nd (pi_range1 (by rfl) (B "range" (by decide)) (pa_cons (pv 0) pa_nil)) (blkOk_by (own := [("point", 6)]) (N := ["many", "joins", "groups", "marks", "ways", "rings", "point"]) (sc := defScope s_parted) (by decide +kernel)) (fun _ _ _ _ _ => (pg_name (i := 6) sc_parted.nd rfl (by first | exact .inl rfl | exact .inr rfl))) (fun _ _ _ _ _ => pts_nil) (fun _ _ _ _ _ => (pe_dget (u1 hr) (pv 2) (pv 6) (fun _ _ => rfl)))) pa_nil)) (pa_cons (pe_callTy call_tuple_of (by rfl) (B "tuple" (by decide)) (by decide +kernel) (pa_cons (pe_lc (own := [("point", 6)]) (g := (gName 6)) (tt := tYes) rfl sc_parted.nd (pi_range1 (by rfl) (B "range" (by decide)) (pa_cons (pv 0) pa_nil)) (blkOk_by (own := [("point", 6)]) (N := ["many", "joins", "groups", "marks", "ways", "rings", "point"]) (sc := defScope s_parted) (by decide +kernel)) (fun _ _ _ _ _ => (pg_name (i := 6) sc_parted.nd rfl (by first | exact .inl rfl | exact .inr rfl))) (fun _ _ _ _ _ => pts_nil) (fun _ _ _ _ _ => (pe_dget (u1 hr) (pv 3) (pv 6) (fun _ _ => rfl)))) pa_nil)) pa_nil)))))))))
def t_common_divisor (K : PySem.W.Frag) : TS := (tSeq (tPar 0 1 (tCons (tCB rAbs (tCons (tVar 0) tNil)) (tCons (tCB rAbs (tCons (tVar 1) tNil)) tNil)))
    (tSeq (tWhile (tTest (tOp (rNeD K) (tVar 1) (tC (.int 0)))) (tPar 0 1 (tCons (tVar 1) (tCons (tOp rModN (tVar 0) (tVar 1)) tNil))))
    (tRet (tVar 0))))
theorem dv_common_divisor {f : Addr} {cdv : Value} {A : Around} {outer : List Env} {s : Shared} {H : Hp} {E : XK} (hr : Room 0 (A.deeper (envOfC "common_divisor" (defScope s_common_divisor) s.heap.objs.size f cdv))) (B : ∀ x, x ∈ blt → mg x = none) :
    PSs (cxOf CX0 Pg w K mg base ["one", "other"] "common_divisor" (defScope s_common_divisor) f cdv A outer s H E).nox (defBody s_common_divisor) (t_common_divisor K) :=
  (pss_cons (ps_par (by rfl) sc_common_divisor.nd (i := 0) (j := 1) rfl rfl (by decide) rfl rfl (pa_cons (pe_callB call_abs (by rfl) (B "abs" (by decide)) (by decide +kernel) (pa_cons (pv 0) pa_nil)) (pa_cons (pe_callB call_abs (by rfl) (B "abs" (by decide)) (by decide +kernel) (pa_cons (pv 1) pa_nil)) pa_nil)) (by rfl))
      (pss_cons (ps_while PassesOwn.never (pt_cmpR (op_neD hr.units) (pv 1) pe_int (nomark _)) (pss_one (ps_par (by rfl) sc_common_divisor.nd (i := 0) (j := 1) rfl rfl (by decide) rfl rfl (pa_cons (pv 1) (pa_cons (pe_op op_modN (pv 0) (pv 1)) pa_nil)) (by rfl))))
      (pss_one (ps_ret (pv 0)))))
def t_as_fraction (K : PySem.W.Frag) (Φ_common_divisor : Ph) : TS := (tSeq (tAsg (tCall (SpD K Φ_common_divisor) [] E0 (tCons (tVar 0) (tCons (tVar 1) tNil))) (gName 2))
    (tSeq (tIfS (tTest (tOp rLtI (tVar 1) (tC (.int 0)))) (tAsg (tUn rNegI (tVar 2)) (gName 2)) tNext)
    (tRet (tTup (tCons (tOp rDivX (tVar 0) (tVar 2)) (tCons (tOp rDivX (tVar 1) (tVar 2)) tNil))))))
theorem dv_as_fraction {f : Addr} {cdv : Value} {A : Around} {outer : List Env} {s : Shared} {H : Hp} {E : XK} (hr : Room 1 (A.deeper (envOfC "as_fraction" (defScope s_as_fraction) s.heap.objs.size f cdv))) (B : ∀ x, x ∈ blt → mg x = none) {Φ_common_divisor : Ph} (g_common_divisor : Kn Pg w K mg base "common_divisor" 1 ["one", "other"] Φ_common_divisor) :
    PSs (cxOf CX0 Pg w K mg base ["top", "bottom", "divisor"] "as_fraction" (defScope s_as_fraction) f cdv A outer s H E).nox (defBody s_as_fraction) (t_as_fraction K Φ_common_divisor) :=
  (pss_cons (ps_set (i := 2) sc_as_fraction.nd rfl (by first | exact .inl rfl | exact .inr rfl) (pe_callD g_common_divisor (hr.mono (by decide)) (by rfl) (pa_cons (pv 0) (pa_cons (pv 1) pa_nil))))
      (pss_cons (ps_if (pt_cmpR op_lt (pv 1) pe_int (nomark _)) (pss_one (ps_set (i := 2) sc_as_fraction.nd rfl (by first | exact .inl rfl | exact .inr rfl) (pe_un un_neg (pv 2)))) pss_nil)
      (pss_one (ps_ret (pe_tup (pa_cons (pe_op op_fdivX (pv 0) (pv 2)) (pa_cons (pe_op op_fdivX (pv 1) (pv 2)) pa_nil)))))))
def t_neighbours (K : PySem.W.Frag) : TS := (tSeq (tAsg (tLc (iRng1 (tCons (tOp (rIx K) (tVar 0) (tC (.int 0))) tNil)) (gName 2) tYes (tLst tNil) [2]) (gName 1))
    (tSeq (tFor (iTup K (tOp (rIx K) (tVar 0) (tC (.int 1)))) (gTup K 3 (gCons (gName 3) (gCons (gName 4) (gCons (gName 5) gNil)))) (tSeq (tDrop (tBM K "list" rAppend (tOp (rIx K) (tVar 1) (tVar 3)) (tCons (tVar 4) tNil)))
    (tDrop (tBM K "list" rAppend (tOp (rIx K) (tVar 1) (tVar 4)) (tCons (tVar 3) tNil)))))
    (tRet (tLc (iList K (tVar 1)) (gName 6) tYes (tCB (rSortedI K) (tCons (tVar 6) tNil)) [6]))))
theorem dv_neighbours {f : Addr} {cdv : Value} {A : Around} {outer : List Env} {s : Shared} {H : Hp} {E : XK} (hr : Room 0 (A.deeper (envOfC "neighbours" (defScope s_neighbours) s.heap.objs.size f cdv))) (B : ∀ x, x ∈ blt → mg x = none) :
    PSs (cxOf CX0 Pg w K mg base ["web", "near", "point", "one", "other", "weight", "row"] "neighbours" (defScope s_neighbours) f cdv A outer s H E).nox (defBody s_neighbours) (t_neighbours K) :=
  (pss_cons (ps_setLc (i := 1) (own := [("point", 2)]) (g := (gName 2)) (tt := tYes) rfl sc_neighbours.nd rfl rfl (sw_true rfl rfl rfl (by decide +kernel)) (pi_range1 (by rfl) (B "range" (by decide)) (pa_cons (pe_ix ix_seq (pv 0) pe_int (fun _ _ => rfl)) pa_nil)) (blkOk_by (own := [("point", 2)]) (N := ["web", "near", "point", "one", "other", "weight", "row"]) (sc := defScope s_neighbours) (by decide +kernel)) (fun _ _ _ _ _ => (pg_name (i := 2) sc_neighbours.nd rfl (by first | exact .inl rfl | exact .inr rfl))) (fun _ _ _ _ _ => pts_nil) (fun _ _ _ _ _ => (pe_lst pa_nil)))
      (pss_cons (ps_for PassesOwn.never rfl (pi_tup (pe_ix ix_seq (pv 0) pe_int (fun _ _ => rfl))) (pg_tup rfl (pgs_cons (pg_name (i := 3) sc_neighbours.nd rfl (by first | exact .inl rfl | exact .inr rfl)) (pgs_cons (pg_name (i := 4) sc_neighbours.nd rfl (by first | exact .inl rfl | exact .inr rfl)) (pgs_cons (pg_name (i := 5) sc_neighbours.nd rfl (by first | exact .inl rfl | exact .inr rfl)) pgs_nil)))) (pss_cons (ps_expr (pe_bm PySem.F.plainAttrs_list PySem.F.slot_list_append PySem.F.type_list_append mt_append (pe_ix ix_seq (pv 1) (pv 3) (fun _ _ => rfl)) (pa_cons (pv 4) pa_nil)))
      (pss_one (ps_expr (pe_bm PySem.F.plainAttrs_list PySem.F.slot_list_append PySem.F.type_list_append mt_append (pe_ix ix_seq (pv 1) (pv 4) (fun _ _ => rfl)) (pa_cons (pv 3) pa_nil))))))
      (pss_one (ps_ret (pe_lc (own := [("row", 6)]) (g := (gName 6)) (tt := tYes) rfl sc_neighbours.nd (pi_list (pv 1)) (blkOk_by (own := [("row", 6)]) (N := ["web", "near", "point", "one", "other", "weight", "row"]) (sc := defScope s_neighbours) (by decide +kernel)) (fun _ _ _ _ _ => (pg_name (i := 6) sc_neighbours.nd rfl (by first | exact .inl rfl | exact .inr rfl))) (fun _ _ _ _ _ => pts_nil) (fun _ _ _ _ _ => (pe_callB cr_sortedI (by rfl) (B "sorted" (by decide)) (by decide +kernel) (pa_cons (pv 6) pa_nil))))))))
def t_is_round_of (K : PySem.W.Frag) (Φ_is_number_of : Ph) : TS := (tSeq (tIfS (tOr (tNot (L2.tB (tCB (rIsi K) (tCons (tVar 2) (tCons (tC (.ty "tuple")) tNil))))) (tNot (L2.tB (tCB (rAll K) (tCons (tLc (iTup K (tVar 2)) (gName 3) tYes (tCall (SpD K Φ_is_number_of) [] E0 (tCons (tVar 0) (tCons (tVar 3) tNil))) [3]) tNil))))) (tRet (tC (.bl false))) tNext)
    (tRet (tOp (rEqD K) (tCB (rSortTI K) (tCons (tVar 2) tNil)) (tVar 1))))
theorem dv_is_round_of {f : Addr} {cdv : Value} {A : Around} {outer : List Env} {s : Shared} {H : Hp} {E : XK} (hr : Room 2 (A.deeper (envOfC "is_round_of" (defScope s_is_round_of) s.heap.objs.size f cdv))) (B : ∀ x, x ∈ blt → mg x = none) {Φ_is_number_of : Ph} (g_is_number_of : Kn Pg w K mg base "is_number_of" 2 ["many", "thing"] Φ_is_number_of) :
    PSs (cxOf CX0 Pg w K mg base ["many", "near", "thing", "point"] "is_round_of" (defScope s_is_round_of) f cdv A outer s H E).nox (defBody s_is_round_of) (t_is_round_of K Φ_is_number_of) :=
  (pss_cons (ps_if (PW.pt (pw_or (pt_not (pt_val (pe_callB call_isi (by rfl) (B "isinstance" (by decide)) (by decide +kernel) (pa_cons (pv 2) (pa_cons (pe_bltn (by rfl) (B "tuple" (by decide)) (by decide +kernel) rfl) pa_nil))))) (pw_or1 (pt_not (pt_val (pe_callB (cr_all rfl) (by rfl) (B "all" (by decide)) (by decide +kernel) (pa_cons (pe_lc (own := [("point", 3)]) (g := (gName 3)) (tt := tYes) rfl sc_is_round_of.nd (pi_tup (pv 2)) (blkOk_by (own := [("point", 3)]) (N := ["many", "near", "thing", "point"]) (sc := defScope s_is_round_of) (by decide +kernel)) (fun _ _ _ _ _ => (pg_name (i := 3) sc_is_round_of.nd rfl (by first | exact .inl rfl | exact .inr rfl))) (fun _ _ _ _ _ => pts_nil) (fun _ _ _ _ _ => (pe_callD g_is_number_of (hr.mono (by decide)) (by rfl) (pa_cons (pv 0) (pa_cons (pv 3) pa_nil))))) pa_nil))))))) (pss_one (ps_ret pe_bl)) pss_nil)
      (pss_one (ps_ret (pe_cmpR (op_eqD hr.units) (pe_callB cr_sortTI (by rfl) (B "sorted" (by decide)) (by decide +kernel) (pa_cons (pv 2) pa_nil)) (pv 1) (nomark _)))))
def t_are_turns (K : PySem.W.Frag) (Φ_neighbours : Ph) (Φ_is_round_of : Ph) : TS := (tSeq (tIfS (tOr (tNot (L2.tB (tCB (rIsi K) (tCons (tVar 1) (tCons (tC (.ty "tuple")) tNil))))) (tTest (tOp (rNeD K) (tCB (rLenQ K) (tCons (tVar 1) tNil)) (tOp (rIx K) (tVar 0) (tC (.int 0)))))) (tRet (tC (.bl false))) tNext)
    (tRet (tCB (rAll K) (tCons (tLc (iZipN K (tCons (tCall (SpD K Φ_neighbours) [] E0 (tCons (tVar 0) tNil)) (tCons (tVar 1) tNil))) (gTup K 2 (gCons (gName 2) (gCons (gName 3) gNil))) tYes (tCall (SpD K Φ_is_round_of) [] E0 (tCons (tOp (rIx K) (tVar 0) (tC (.int 0))) (tCons (tVar 2) (tCons (tVar 3) tNil)))) [2, 3]) tNil))))
theorem dv_are_turns {f : Addr} {cdv : Value} {A : Around} {outer : List Env} {s : Shared} {H : Hp} {E : XK} (hr : Room 3 (A.deeper (envOfC "are_turns" (defScope s_are_turns) s.heap.objs.size f cdv))) (B : ∀ x, x ∈ blt → mg x = none) {Φ_neighbours : Ph} {Φ_is_round_of : Ph} (g_neighbours : Kn Pg w K mg base "neighbours" 1 ["web"] Φ_neighbours) (g_is_round_of : Kn Pg w K mg base "is_round_of" 3 ["many", "near", "thing"] Φ_is_round_of) :
    PSs (cxOf CX0 Pg w K mg base ["web", "thing", "near", "row"] "are_turns" (defScope s_are_turns) f cdv A outer s H E).nox (defBody s_are_turns) (t_are_turns K Φ_neighbours Φ_is_round_of) :=
  (pss_cons (ps_if (PW.pt (pw_or (pt_not (pt_val (pe_callB call_isi (by rfl) (B "isinstance" (by decide)) (by decide +kernel) (pa_cons (pv 1) (pa_cons (pe_bltn (by rfl) (B "tuple" (by decide)) (by decide +kernel) rfl) pa_nil))))) (pw_or1 (pt_cmpR (op_neD hr.units) (pe_callB call_len_seq (by rfl) (B "len" (by decide)) (by decide +kernel) (pa_cons (pv 1) pa_nil)) (pe_ix ix_seq (pv 0) pe_int (fun _ _ => rfl)) (nomark _))))) (pss_one (ps_ret pe_bl)) pss_nil)
      (pss_one (ps_ret (pe_callB (cr_all rfl) (by rfl) (B "all" (by decide)) (by decide +kernel) (pa_cons (pe_lc (own := [("near", 2), ("row", 3)]) (g := (gTup K 2 (gCons (gName 2) (gCons (gName 3) gNil)))) (tt := tYes) rfl sc_are_turns.nd (pi_zipN (by rfl) (B "zip" (by decide)) (pa_cons (pe_callD g_neighbours (hr.mono (by decide)) (by rfl) (pa_cons (pv 0) pa_nil)) (pa_cons (pv 1) pa_nil))) (blkOk_by (own := [("near", 2), ("row", 3)]) (N := ["web", "thing", "near", "row"]) (sc := defScope s_are_turns) (by decide +kernel)) (fun _ _ _ _ _ => (pg_tup rfl (pgs_cons (pg_name (i := 2) sc_are_turns.nd rfl (by first | exact .inl rfl | exact .inr rfl)) (pgs_cons (pg_name (i := 3) sc_are_turns.nd rfl (by first | exact .inl rfl | exact .inr rfl)) pgs_nil)))) (fun _ _ _ _ _ => pts_nil) (fun _ _ _ _ _ => (pe_callD g_is_round_of (hr.mono (by decide)) (by rfl) (pa_cons (pe_ix ix_seq (pv 0) pe_int (fun _ _ => rfl)) (pa_cons (pv 2) (pa_cons (pv 3) pa_nil)))))) pa_nil)))))
def t_darts_behind (K : PySem.W.Frag) : TS := (tSeq (tAsg tDNewT (gName 1))
    (tSeq (tFor (iEnT K (tCons (tVar 0) tNil)) (gTup K 2 (gCons (gName 2) (gCons (gName 3) gNil))) (tFor (iEnT K (tCons (tVar 3) tNil)) (gTup K 2 (gCons (gName 4) (gCons (gName 5) gNil))) (tAsg (tTup (tCons (tVar 2) (tCons (tOp (rIx K) (tVar 3) (tOp rModN (tOp rAddI (tVar 4) (tC (.int 1))) (tCB (rLenQ K) (tCons (tVar 3) tNil)))) tNil))) (gSub (tVar 1) (tTup (tCons (tVar 5) (tCons (tVar 2) tNil))) rSetD))))
    (tRet (tVar 1))))
theorem dv_darts_behind {f : Addr} {cdv : Value} {A : Around} {outer : List Env} {s : Shared} {H : Hp} {E : XK} (hr : Room 0 (A.deeper (envOfC "darts_behind" (defScope s_darts_behind) s.heap.objs.size f cdv))) (B : ∀ x, x ∈ blt → mg x = none) :
    PSs (cxOf CX0 Pg w K mg base ["turns", "behind", "point", "row", "place", "before"] "darts_behind" (defScope s_darts_behind) f cdv A outer s H E).nox (defBody s_darts_behind) (t_darts_behind K) :=
  (pss_cons (ps_set (i := 1) sc_darts_behind.nd rfl (by first | exact .inl rfl | exact .inr rfl) pe_dnewT)
      (pss_cons (ps_for PassesOwn.never rfl (pi_enT (by rfl) (B "enumerate" (by decide)) (pa_cons (pv 0) pa_nil)) (pg_tup rfl (pgs_cons (pg_name (i := 2) sc_darts_behind.nd rfl (by first | exact .inl rfl | exact .inr rfl)) (pgs_cons (pg_name (i := 3) sc_darts_behind.nd rfl (by first | exact .inl rfl | exact .inr rfl)) pgs_nil))) (pss_one (ps_for PassesOwn.never rfl (pi_enT (by rfl) (B "enumerate" (by decide)) (pa_cons (pv 3) pa_nil)) (pg_tup rfl (pgs_cons (pg_name (i := 4) sc_darts_behind.nd rfl (by first | exact .inl rfl | exact .inr rfl)) (pgs_cons (pg_name (i := 5) sc_darts_behind.nd rfl (by first | exact .inl rfl | exact .inr rfl)) pgs_nil))) (pss_one (ps_asg (pe_tup (pa_cons (pv 2) (pa_cons (pe_ix ix_seq (pv 3) (pe_op op_modN (pe_op op_add (pv 4) pe_int) (pe_callB call_len_seq (by rfl) (B "len" (by decide)) (by decide +kernel) (pa_cons (pv 3) pa_nil))) (fun _ _ => rfl)) pa_nil))) (pg_sub (pv 1) (pe_tup (pa_cons (pv 5) (pa_cons (pv 2) pa_nil))) (set_dict (u1 hr))))))))
      (pss_one (ps_ret (pv 1)))))
def t_face_from (K : PySem.W.Frag) : TS := (tSeq (tAsg (tLst (tCons (tVar 1) tNil)) (gName 2))
    (tSeq (tWhile (tTest (tOp (rNeD K) (tDGet (tVar 0) (tOp (rIx K) (tVar 2) (tUn rNegI (tC (.int 1))))) (tVar 1))) (tDrop (tBM K "list" rAppend (tVar 2) (tCons (tDGet (tVar 0) (tOp (rIx K) (tVar 2) (tUn rNegI (tC (.int 1))))) tNil))))
    (tRet (tCB (rTupQ K) (tCons (tVar 2) tNil)))))
theorem dv_face_from {f : Addr} {cdv : Value} {A : Around} {outer : List Env} {s : Shared} {H : Hp} {E : XK} (hr : Room 0 (A.deeper (envOfC "face_from" (defScope s_face_from) s.heap.objs.size f cdv))) (B : ∀ x, x ∈ blt → mg x = none) :
    PSs (cxOf CX0 Pg w K mg base ["behind", "first", "face"] "face_from" (defScope s_face_from) f cdv A outer s H E).nox (defBody s_face_from) (t_face_from K) :=
  (pss_cons (ps_set (i := 2) sc_face_from.nd rfl (by first | exact .inl rfl | exact .inr rfl) (pe_lst (pa_cons (pv 1) pa_nil)))
      (pss_cons (ps_while PassesOwn.never (pt_cmpR (op_neD hr.units) (pe_dget (u1 hr) (pv 0) (pe_ix ix_seq (pv 2) (pe_un un_neg pe_int) (fun _ _ => rfl)) (fun _ _ => rfl)) (pv 1) (nomark _)) (pss_one (ps_expr (pe_bm PySem.F.plainAttrs_list PySem.F.slot_list_append PySem.F.type_list_append mt_append (pv 2) (pa_cons (pe_dget (u1 hr) (pv 0) (pe_ix ix_seq (pv 2) (pe_un un_neg pe_int) (fun _ _ => rfl)) (fun _ _ => rfl)) pa_nil)))))
      (pss_one (ps_ret (pe_callTy call_tuple_of (by rfl) (B "tuple" (by decide)) (by decide +kernel) (pa_cons (pv 2) pa_nil))))))
def t_faces_of (K : PySem.W.Frag) (Pg : Program) (w : World) (C_CutError C_NoWeb C_NoTurns C_NotFlat C_NoPaper C_TooGreat : Addr) (Φ_are_turns : Ph) (Φ_darts_behind : Ph) (Φ_face_from : Ph) : XK → TS := fun E => (tSeq (tIfS (tNot (L2.tB (tCall (SpD K Φ_are_turns) [] E0 (tCons (tVar 0) (tCons (tVar 1) tNil))))) (tRs C_NoTurns E) tNext)
    (tSeq (tAsg (tCall (SpD K Φ_darts_behind) [] E0 (tCons (tVar 1) tNil)) (gName 2))
    (tSeq (tAsg (tLst tNil) (gName 3))
    (tSeq (tAsg (tNewO Pg w) (gName 4))
    (tSeq (tFor (iList K (tCB rSortK (tCons (tVar 2) tNil))) (gName 5) (tIfS (tTest (tOp (rInT K Pg w true) (tVar 5) (tVar 4))) (tSeq (tAsg (tCall (SpD K Φ_face_from) [] E0 (tCons (tVar 2) (tCons (tVar 5) tNil))) (gName 6))
    (tSeq (tDrop (tBM K "list" rAppend (tVar 3) (tCons (tVar 6) tNil)))
    (tFor (iTup K (tVar 6)) (gName 7) (tDrop (tAddT K Pg w (tVar 4) (tCons (tVar 7) tNil)))))) tNext))
    (tRet (tCB (rTupQ K) (tCons (tVar 3) tNil))))))))
theorem dv_faces_of {f : Addr} {cdv : Value} {A : Around} {outer : List Env} {s : Shared} {H : Hp} {E : XK} (hr : Room 4 (A.deeper (envOfC "faces_of" (defScope s_faces_of) s.heap.objs.size f cdv))) (B : ∀ x, x ∈ blt → mg x = none) {C_CutError C_NoWeb C_NoTurns C_NotFlat C_NoPaper C_TooGreat : Addr} (cl : Cls K mg C_CutError C_NoWeb C_NoTurns C_NotFlat C_NoPaper C_TooGreat) {Φ_are_turns : Ph} {Φ_darts_behind : Ph} {Φ_face_from : Ph} (g_are_turns : Kn Pg w K mg base "are_turns" 4 ["web", "thing"] Φ_are_turns) (g_darts_behind : Kn Pg w K mg base "darts_behind" 1 ["turns"] Φ_darts_behind) (g_face_from : Kn Pg w K mg base "face_from" 1 ["behind", "first"] Φ_face_from) :
    PSs (cxOf (L2.CX Pg w) Pg w K mg base ["web", "turns", "behind", "faces", "taken", "first", "face", "dart"] "faces_of" (defScope s_faces_of) f cdv A outer s H E) (defBody s_faces_of) (t_faces_of K Pg w C_CutError C_NoWeb C_NoTurns C_NotFlat C_NoPaper C_TooGreat Φ_are_turns Φ_darts_behind Φ_face_from E) :=
  (pss_cons (ps_if (pt_not (pt_val (pe_callD g_are_turns (hr.mono (by decide)) (by rfl) (pa_cons (pv 0) (pa_cons (pv 1) pa_nil))))) (pss_one (ps_raiseD cl.er_NoTurns rfl rfl rfl rfl rfl (by rfl))) pss_nil)
      (pss_cons (ps_set (i := 2) sc_faces_of.nd rfl (by first | exact .inl rfl | exact .inr rfl) (pe_callD g_darts_behind (hr.mono (by decide)) (by rfl) (pa_cons (pv 1) pa_nil)))
      (pss_cons (ps_set (i := 3) sc_faces_of.nd rfl (by first | exact .inl rfl | exact .inr rfl) (pe_lst pa_nil))
      (pss_cons (ps_set (i := 4) sc_faces_of.nd rfl (by first | exact .inl rfl | exact .inr rfl) (pe_callTy0 cr_set0T (by rfl) (B "set" (by decide)) (by decide +kernel)))
      (pss_cons (ps_for (passes_of rfl) rfl (pi_list (pe_callB (cr_sortK rfl hr.units) (by rfl) (B "sorted" (by decide)) (by decide +kernel) (pa_cons (pv 2) pa_nil))) (pg_name (i := 5) sc_faces_of.nd rfl (by first | exact .inl rfl | exact .inr rfl)) (pss_one (ps_if (pt_cmpR (op_notinT hr.units) (pv 5) (pv 4) (by rfl)) (pss_cons (ps_set (i := 6) sc_faces_of.nd rfl (by first | exact .inl rfl | exact .inr rfl) (pe_callD g_face_from (hr.mono (by decide)) (by rfl) (pa_cons (pv 2) (pa_cons (pv 5) pa_nil))))
      (pss_cons (ps_expr (pe_bm PySem.F.plainAttrs_list PySem.F.slot_list_append PySem.F.type_list_append mt_append (pv 3) (pa_cons (pv 6) pa_nil)))
      (pss_one (ps_for (passes_of rfl) rfl (pi_tup (pv 6)) (pg_name (i := 7) sc_faces_of.nd rfl (by first | exact .inl rfl | exact .inr rfl)) (pss_one (ps_expr (pe_addT hr.units (pv 4) (pv 7)))))))) pss_nil)))
      (pss_one (ps_ret (pe_callTy call_tuple_of (by rfl) (B "tuple" (by decide)) (by decide +kernel) (pa_cons (pv 3) pa_nil)))))))))
def t_part_of_points (K : PySem.W.Frag) (Φ_parted : Ph) : TS := (tSeq (tAsg (tCall (SpD K Φ_parted) [] E0 (tCons (tOp (rIx K) (tVar 0) (tC (.int 0))) (tCons (tLc (iTup K (tOp (rIx K) (tVar 0) (tC (.int 1)))) (gTup K 3 (gCons (gName 4) (gCons (gName 5) (gCons (gName 6) gNil)))) tYes (tTup (tCons (tVar 4) (tCons (tVar 5) (tCons (tC (.int 0)) tNil)))) [4, 5, 6]) tNil))) (gTup K 3 (gCons (gName 1) (gCons (gName 2) (gCons (gName 3) gNil)))))
    (tRet (tVar 2)))
theorem dv_part_of_points {f : Addr} {cdv : Value} {A : Around} {outer : List Env} {s : Shared} {H : Hp} {E : XK} (hr : Room 3 (A.deeper (envOfC "part_of_points" (defScope s_part_of_points) s.heap.objs.size f cdv))) (B : ∀ x, x ∈ blt → mg x = none) {Φ_parted : Ph} (g_parted : Kn Pg w K mg base "parted" 3 ["many", "joins"] Φ_parted) :
    PSs (cxOf CX0 Pg w K mg base ["web", "name", "parts", "marks", "one", "other", "weight"] "part_of_points" (defScope s_part_of_points) f cdv A outer s H E).nox (defBody s_part_of_points) (t_part_of_points K Φ_parted) :=
  (pss_cons (ps_asg (pe_callD g_parted (hr.mono (by decide)) (by rfl) (pa_cons (pe_ix ix_seq (pv 0) pe_int (fun _ _ => rfl)) (pa_cons (pe_lc (own := [("one", 4), ("other", 5), ("weight", 6)]) (g := (gTup K 3 (gCons (gName 4) (gCons (gName 5) (gCons (gName 6) gNil))))) (tt := tYes) rfl sc_part_of_points.nd (pi_tup (pe_ix ix_seq (pv 0) pe_int (fun _ _ => rfl))) (blkOk_by (own := [("one", 4), ("other", 5), ("weight", 6)]) (N := ["web", "name", "parts", "marks", "one", "other", "weight"]) (sc := defScope s_part_of_points) (by decide +kernel)) (fun _ _ _ _ _ => (pg_tup rfl (pgs_cons (pg_name (i := 4) sc_part_of_points.nd rfl (by first | exact .inl rfl | exact .inr rfl)) (pgs_cons (pg_name (i := 5) sc_part_of_points.nd rfl (by first | exact .inl rfl | exact .inr rfl)) (pgs_cons (pg_name (i := 6) sc_part_of_points.nd rfl (by first | exact .inl rfl | exact .inr rfl)) pgs_nil))))) (fun _ _ _ _ _ => pts_nil) (fun _ _ _ _ _ => (pe_tup (pa_cons (pv 4) (pa_cons (pv 5) (pa_cons pe_int pa_nil)))))) pa_nil))) (pg_tup rfl (pgs_cons (pg_name (i := 1) sc_part_of_points.nd rfl (by first | exact .inl rfl | exact .inr rfl)) (pgs_cons (pg_name (i := 2) sc_part_of_points.nd rfl (by first | exact .inl rfl | exact .inr rfl)) (pgs_cons (pg_name (i := 3) sc_part_of_points.nd rfl (by first | exact .inl rfl | exact .inr rfl)) pgs_nil)))))
      (pss_one (ps_ret (pv 2))))
def t_is_flat (K : PySem.W.Frag) (Φ_part_of_points : Ph) : TS := (tSeq (tAsg (tCall (SpD K Φ_part_of_points) [] E0 (tCons (tVar 0) tNil)) (gName 2))
    (tSeq (tAsg (tLc (iTup K (tOp (rIx K) (tVar 0) (tC (.int 1)))) (gTup K 3 (gCons (gName 4) (gCons (gName 5) (gCons (gName 6) gNil)))) tYes (tOp (rIx K) (tVar 2) (tVar 4)) [4, 5, 6]) (gName 3))
    (tSeq (tAsg (tLc (iTup K (tVar 1)) (gName 8) tYes (tOp (rIx K) (tVar 2) (tOp (rIx K) (tOp (rIx K) (tVar 8) (tC (.int 0))) (tC (.int 0)))) [8]) (gName 7))
    (tSeq (tFor (iList K (tVar 3)) (gName 9) (tIfS (tTest (tOp (rNeD K) (tOp rAddI (tTCnt (tVar 2) (tCons (tVar 9) tNil)) (tBM K "list" (rCntI K) (tVar 7) (tCons (tVar 9) tNil))) (tOp rAddI (tBM K "list" (rCntI K) (tVar 3) (tCons (tVar 9) tNil)) (tC (.int 2))))) (tRet (tC (.bl false))) tNext))
    (tRet (tC (.bl true)))))))
theorem dv_is_flat {f : Addr} {cdv : Value} {A : Around} {outer : List Env} {s : Shared} {H : Hp} {E : XK} (hr : Room 4 (A.deeper (envOfC "is_flat" (defScope s_is_flat) s.heap.objs.size f cdv))) (B : ∀ x, x ∈ blt → mg x = none) {Φ_part_of_points : Ph} (g_part_of_points : Kn Pg w K mg base "part_of_points" 4 ["web"] Φ_part_of_points) :
    PSs (cxOf CX0 Pg w K mg base ["web", "faces", "parts", "tied", "one", "other", "weight", "faced", "face", "part"] "is_flat" (defScope s_is_flat) f cdv A outer s H E).nox (defBody s_is_flat) (t_is_flat K Φ_part_of_points) :=
  (pss_cons (ps_set (i := 2) sc_is_flat.nd rfl (by first | exact .inl rfl | exact .inr rfl) (pe_callD g_part_of_points (hr.mono (by decide)) (by rfl) (pa_cons (pv 0) pa_nil)))
      (pss_cons (ps_setLc (i := 3) (own := [("one", 4), ("other", 5), ("weight", 6)]) (g := (gTup K 3 (gCons (gName 4) (gCons (gName 5) (gCons (gName 6) gNil))))) (tt := tYes) rfl sc_is_flat.nd rfl rfl (sw_true rfl rfl rfl (by decide +kernel)) (pi_tup (pe_ix ix_seq (pv 0) pe_int (fun _ _ => rfl))) (blkOk_by (own := [("one", 4), ("other", 5), ("weight", 6)]) (N := ["web", "faces", "parts", "tied", "one", "other", "weight", "faced", "face", "part"]) (sc := defScope s_is_flat) (by decide +kernel)) (fun _ _ _ _ _ => (pg_tup rfl (pgs_cons (pg_name (i := 4) sc_is_flat.nd rfl (by first | exact .inl rfl | exact .inr rfl)) (pgs_cons (pg_name (i := 5) sc_is_flat.nd rfl (by first | exact .inl rfl | exact .inr rfl)) (pgs_cons (pg_name (i := 6) sc_is_flat.nd rfl (by first | exact .inl rfl | exact .inr rfl)) pgs_nil))))) (fun _ _ _ _ _ => pts_nil) (fun _ _ _ _ _ => (pe_ix ix_seq (pv 2) (pv 4) (fun _ _ => rfl))))
      (pss_cons (ps_setLc (i := 7) (own := [("face", 8)]) (g := (gName 8)) (tt := tYes) rfl sc_is_flat.nd rfl rfl (sw_true rfl rfl rfl (by decide +kernel)) (pi_tup (pv 1)) (blkOk_by (own := [("face", 8)]) (N := ["web", "faces", "parts", "tied", "one", "other", "weight", "faced", "face", "part"]) (sc := defScope s_is_flat) (by decide +kernel)) (fun _ _ _ _ _ => (pg_name (i := 8) sc_is_flat.nd rfl (by first | exact .inl rfl | exact .inr rfl))) (fun _ _ _ _ _ => pts_nil) (fun _ _ _ _ _ => (pe_ix ix_seq (pv 2) (pe_ix ix_seq (pe_ix ix_seq (pv 8) pe_int (fun _ _ => rfl)) pe_int (fun _ _ => rfl)) (fun _ _ => rfl))))
      (pss_cons (ps_for PassesOwn.never rfl (pi_list (pv 3)) (pg_name (i := 9) sc_is_flat.nd rfl (by first | exact .inl rfl | exact .inr rfl)) (pss_one (ps_if (pt_cmpR (op_neD hr.units) (pe_op op_add (pe_tcnt (units65 hr) (pv 2) (pa_cons (pv 9) pa_nil)) (pe_bm PySem.F.plainAttrs_list PySem.F.slot_list_count PySem.F.type_list_count mt_lcount (pv 7) (pa_cons (pv 9) pa_nil))) (pe_op op_add (pe_bm PySem.F.plainAttrs_list PySem.F.slot_list_count PySem.F.type_list_count mt_lcount (pv 3) (pa_cons (pv 9) pa_nil)) pe_int) (nomark _)) (pss_one (ps_ret pe_bl)) pss_nil)))
      (pss_one (ps_ret pe_bl))))))
def t_flat_web (K : PySem.W.Frag) (C_CutError C_NoWeb C_NoTurns C_NotFlat C_NoPaper C_TooGreat : Addr) (Φ_is_flat : Ph) (Φ_faces_of : PhX) : XK → TS := fun E => (tSeq (tIfS (tNot (L2.tB (tCall (SpD K Φ_is_flat) [] E0 (tCons (tVar 0) (tCons (tCallS (SpX K C_NoTurns Φ_faces_of) (WE (WO E)) (tCons (tVar 0) (tCons (tVar 1) tNil))) tNil))))) (tRs C_NotFlat E) tNext)
    (tRet (tTup (tCons (tVar 0) (tCons (tVar 1) tNil)))))
theorem dv_flat_web {f : Addr} {cdv : Value} {A : Around} {outer : List Env} {s : Shared} {H : Hp} {E : XK} (hr : Room 5 (A.deeper (envOfC "flat_web" (defScope s_flat_web) s.heap.objs.size f cdv))) (B : ∀ x, x ∈ blt → mg x = none) {C_CutError C_NoWeb C_NoTurns C_NotFlat C_NoPaper C_TooGreat : Addr} (cl : Cls K mg C_CutError C_NoWeb C_NoTurns C_NotFlat C_NoPaper C_TooGreat) {Φ_is_flat : Ph} {Φ_faces_of : PhX} (g_is_flat : Kn Pg w K mg base "is_flat" 5 ["web", "faces"] Φ_is_flat) (g_faces_of : KnX Pg w K mg base "faces_of" 5 ["web", "turns"] C_NoTurns Φ_faces_of) :
    PSs (cxOf (L2.CX Pg w) Pg w K mg base ["web", "turns"] "flat_web" (defScope s_flat_web) f cdv A outer s H E) (defBody s_flat_web) (t_flat_web K C_CutError C_NoWeb C_NoTurns C_NotFlat C_NoPaper C_TooGreat Φ_is_flat Φ_faces_of E) :=
  (pss_cons (ps_if (pt_not (pt_val (pe_callD g_is_flat (hr.mono (by decide)) (by rfl) (pa_cons (pv 0) (pa_cons (pe_callX g_faces_of (hr.mono (by decide)) (by rfl) (takes_of rfl rfl rfl rfl) (pa_cons (pv 0) (pa_cons (pv 1) pa_nil))) pa_nil))))) (pss_one (ps_raiseD cl.er_NotFlat rfl rfl rfl rfl rfl (by rfl))) pss_nil)
      (pss_one (ps_ret (pe_tup (pa_cons (pv 0) (pa_cons (pv 1) pa_nil))))))
def t__law_mixed (K : PySem.W.Frag) : TS := (tSeq (tAsg (tOp rModN (tOp rAddI (tOp rAddI (tVar 0) (tOp rMulI (tOp rMulX (tVar 1) (tVar 1)) (tC (.int 60493)))) (tC (.int 777))) (tC (.int 2305843009213693951))) (gName 2))
    (tSeq (tAsg (tOp rModN (tOp rMulX (tVar 2) (tVar 2)) (tC (.int 2305843009213693951))) (gName 2))
    (tSeq (tAsg (tOp rModN (tOp rAddI (tOp rAddI (tOp rMulI (tOp rAddI (tOp rAddI (tVar 2) (tOp rMulI (tVar 1) (tC (.int 104729)))) (tC (.int 3))) (tC (.int 69621))) (tOp rMulI (tVar 1) (tC (.int 7919)))) (tC (.int 10007))) (tC (.int 2305843009213693951))) (gName 2))
    (tRet (tOp rDivX (tOp rModN (tOp rMulX (tVar 2) (tVar 2)) (tC (.int 2305843009213693951))) (tC (.int 4096)))))))
theorem dv__law_mixed {f : Addr} {cdv : Value} {A : Around} {outer : List Env} {s : Shared} {H : Hp} {E : XK} (hr : Room 0 (A.deeper (envOfC "_law_mixed" (defScope s__law_mixed) s.heap.objs.size f cdv))) (B : ∀ x, x ∈ blt → mg x = none) :
    PSs (cxOf CX0 Pg w K mg base ["_law_cell", "_law_k", "_law_number"] "_law_mixed" (defScope s__law_mixed) f cdv A outer s H E).nox (defBody s__law_mixed) (t__law_mixed K) :=
  (pss_cons (ps_set (i := 2) sc__law_mixed.nd rfl (by first | exact .inl rfl | exact .inr rfl) (pe_op op_modN (pe_op op_add (pe_op op_add (pv 0) (pe_op op_mul (pe_op op_mulX (pv 1) (pv 1)) pe_int)) pe_int) pe_int))
      (pss_cons (ps_set (i := 2) sc__law_mixed.nd rfl (by first | exact .inl rfl | exact .inr rfl) (pe_op op_modN (pe_op op_mulX (pv 2) (pv 2)) pe_int))
      (pss_cons (ps_set (i := 2) sc__law_mixed.nd rfl (by first | exact .inl rfl | exact .inr rfl) (pe_op op_modN (pe_op op_add (pe_op op_add (pe_op op_mul (pe_op op_add (pe_op op_add (pv 2) (pe_op op_mul (pv 1) pe_int)) pe_int) pe_int) (pe_op op_mul (pv 1) pe_int)) pe_int) pe_int))
      (pss_one (ps_ret (pe_op op_fdivX (pe_op op_modN (pe_op op_mulX (pv 2) (pv 2)) pe_int) pe_int))))))
def t__law_deck (K : PySem.W.Frag) (Φ__law_mixed : Ph) : TS := (tSeq (tAsg (tOp rCat (tCB (rListQ K) (tCons (tSl (rSlL K) (tVar 0) tNoPart (tPart (tC (.int 60)))) tNil)) (tOp rRep (tLst (tCons (tC (.int 0)) tNil)) (tCB rInt1 (tCons (tOp (rEqD K) (tCB (rLenQ K) (tCons (tVar 0) tNil)) (tC (.int 0))) tNil)))) (gName 2))
    (tSeq (tAsg (tLc (iList K (tVar 2)) (gName 4) tYes (tOp rMulI (tVar 4) (tCB rInt1 (tCons (tOp rGeI (tVar 4) (tOp rPowI (tC (.int 10)) (tC (.int 18)))) tNil))) [4]) (gName 3))
    (tSeq (tAsg (tLst tNil) (gName 5))
    (tSeq (tFor (iRng1 (tCons (tVar 1) tNil)) (gName 6) (tSeq (tAsg (tOp rModN (tVar 6) (tCB (rLenQ K) (tCons (tVar 2) tNil))) (gName 7))
    (tIfS (tTest (tOp rGtI (tOp (rIx K) (tVar 3) (tVar 7)) (tC (.int 0)))) (tSeq (tDrop (tBM K "list" rAppend (tVar 5) (tCons (tOp rModN (tOp (rIx K) (tVar 3) (tVar 7)) (tC (.int 1000))) tNil)))
    (tAsg (tOp rDivX (tOp (rIx K) (tVar 3) (tVar 7)) (tC (.int 1000))) (gSub (tVar 3) (tVar 7) rSetL))) (tDrop (tBM K "list" rAppend (tVar 5) (tCons (tOp rModN (tCall (SpD K Φ__law_mixed) [] E0 (tCons (tOp (rIx K) (tVar 2) (tVar 7)) (tCons (tOp rAddI (tVar 6) (tC (.int 1))) tNil))) (tC (.int 1000))) tNil))))))
    (tRet (tLstRev K (tVar 5)))))))
theorem dv__law_deck {f : Addr} {cdv : Value} {A : Around} {outer : List Env} {s : Shared} {H : Hp} {E : XK} (hr : Room 1 (A.deeper (envOfC "_law_deck" (defScope s__law_deck) s.heap.objs.size f cdv))) (B : ∀ x, x ∈ blt → mg x = none) {Φ__law_mixed : Ph} (g__law_mixed : Kn Pg w K mg base "_law_mixed" 1 ["_law_cell", "_law_k"] Φ__law_mixed) :
    PSs (cxOf CX0 Pg w K mg base ["_law_script", "_law_many", "_law_own", "_law_rest", "_law_cell", "_law_deck_here", "_law_k", "_law_at"] "_law_deck" (defScope s__law_deck) f cdv A outer s H E).nox (defBody s__law_deck) (t__law_deck K Φ__law_mixed) :=
  (pss_cons (ps_set (i := 2) sc__law_deck.nd rfl (by first | exact .inl rfl | exact .inr rfl) (pe_op op_cat (pe_callTy call_list_of (by rfl) (B "list" (by decide)) (by decide +kernel) (pa_cons (pe_slice sl_list (pv 0) po_none (po_some pe_int)) pa_nil)) (pe_op op_rep (pe_lst (pa_cons pe_int pa_nil)) (pe_callTy call_int1 (by rfl) (B "int" (by decide)) (by decide +kernel) (pa_cons (pe_cmpR (op_eqD hr.units) (pe_callB call_len_seq (by rfl) (B "len" (by decide)) (by decide +kernel) (pa_cons (pv 0) pa_nil)) pe_int (nomark _)) pa_nil)))))
      (pss_cons (ps_setLc (i := 3) (own := [("_law_cell", 4)]) (g := (gName 4)) (tt := tYes) rfl sc__law_deck.nd rfl rfl (sw_true rfl rfl rfl (by decide +kernel)) (pi_list (pv 2)) (blkOk_by (own := [("_law_cell", 4)]) (N := ["_law_script", "_law_many", "_law_own", "_law_rest", "_law_cell", "_law_deck_here", "_law_k", "_law_at"]) (sc := defScope s__law_deck) (by decide +kernel)) (fun _ _ _ _ _ => (pg_name (i := 4) sc__law_deck.nd rfl (by first | exact .inl rfl | exact .inr rfl))) (fun _ _ _ _ _ => pts_nil) (fun _ _ _ _ _ => (pe_op op_mul (pv 4) (pe_callTy call_int1 (by rfl) (B "int" (by decide)) (by decide +kernel) (pa_cons (pe_cmpR op_ge (pv 4) (pe_op op_pow pe_int pe_int) (nomark _)) pa_nil)))))
      (pss_cons (ps_set (i := 5) sc__law_deck.nd rfl (by first | exact .inl rfl | exact .inr rfl) (pe_lst pa_nil))
      (pss_cons (ps_for PassesOwn.never rfl (pi_range1 (by rfl) (B "range" (by decide)) (pa_cons (pv 1) pa_nil)) (pg_name (i := 6) sc__law_deck.nd rfl (by first | exact .inl rfl | exact .inr rfl)) (pss_cons (ps_set (i := 7) sc__law_deck.nd rfl (by first | exact .inl rfl | exact .inr rfl) (pe_op op_modN (pv 6) (pe_callB call_len_seq (by rfl) (B "len" (by decide)) (by decide +kernel) (pa_cons (pv 2) pa_nil))))
      (pss_one (ps_if (pt_cmpR op_gt (pe_ix ix_seq (pv 3) (pv 7) (fun _ _ => rfl)) pe_int (nomark _)) (pss_cons (ps_expr (pe_bm PySem.F.plainAttrs_list PySem.F.slot_list_append PySem.F.type_list_append mt_append (pv 5) (pa_cons (pe_op op_modN (pe_ix ix_seq (pv 3) (pv 7) (fun _ _ => rfl)) pe_int) pa_nil)))
      (pss_one (ps_asg (pe_op op_fdivX (pe_ix ix_seq (pv 3) (pv 7) (fun _ _ => rfl)) pe_int) (pg_sub (pv 3) (pv 7) set_list)))) (pss_one (ps_expr (pe_bm PySem.F.plainAttrs_list PySem.F.slot_list_append PySem.F.type_list_append mt_append (pv 5) (pa_cons (pe_op op_modN (pe_callD g__law_mixed (hr.mono (by decide)) (by rfl) (pa_cons (pe_ix ix_seq (pv 2) (pv 7) (fun _ _ => rfl)) (pa_cons (pe_op op_add (pv 6) pe_int) pa_nil))) pe_int) pa_nil))))))))
      (pss_one (ps_ret (pe_lstRev rfl (by rfl) (B "list" (by decide)) (by rfl) (B "reversed" (by decide)) (pv 5))))))))
def t__law_next (K : PySem.W.Frag) : TS := (tSeq (tIfS (tTest (tOp rGtI (tCB (rLenQ K) (tCons (tVar 0) tNil)) (tC (.int 0)))) (tRet (tBM0 K "list" rPop (tVar 0))) tNext)
    (tRet (tC (.int 0))))
theorem dv__law_next {f : Addr} {cdv : Value} {A : Around} {outer : List Env} {s : Shared} {H : Hp} {E : XK} (hr : Room 0 (A.deeper (envOfC "_law_next" (defScope s__law_next) s.heap.objs.size f cdv))) (B : ∀ x, x ∈ blt → mg x = none) :
    PSs (cxOf CX0 Pg w K mg base ["_law_deck_here"] "_law_next" (defScope s__law_next) f cdv A outer s H E).nox (defBody s__law_next) (t__law_next K) :=
  (pss_cons (ps_if (pt_cmpR op_gt (pe_callB call_len_seq (by rfl) (B "len" (by decide)) (by decide +kernel) (pa_cons (pv 0) pa_nil)) pe_int (nomark _)) (pss_one (ps_ret (pe_bm0 PySem.F.plainAttrs_list PySem.F.slot_list_pop PySem.F.type_list_pop mt_pop (pv 0)))) pss_nil)
      (pss_one (ps_ret pe_int)))
def t__law_weight (K : PySem.W.Frag) (Φ__law_next : Ph) (Φ_as_fraction : Ph) : TS := (tSeq (tAsg (tCall (SpD K Φ__law_next) [] E0 (tCons (tVar 0) tNil)) (gName 1))
    (tSeq (tAsg (tLst (tCons (tC (.int 1)) (tCons (tC (.int 2)) (tCons (tC (.int 3)) (tCons (tC (.int 0)) (tCons (tUn rNegI (tC (.int 1))) (tCons (tUn rNegI (tC (.int 2))) (tCons (tUn rNegI (tC (.int 3))) (tCons (tC (.int 5)) (tCons (tC (.int 1)) (tCons (tUn rNegI (tC (.int 1))) (tCons (tC (.int 1)) (tCons (tC (.int 999999937)) tNil))))))))))))) (gName 2))
    (tRet (tCall (SpD K Φ_as_fraction) [] E0 (tCons (tOp (rIx K) (tVar 2) (tOp rModN (tVar 1) (tC (.int 12)))) (tCons (tOp (rIx K) (tLst (tCons (tC (.int 1)) (tCons (tC (.int 1)) (tCons (tC (.int 2)) (tCons (tC (.int 3)) (tCons (tC (.int 1)) (tCons (tC (.int 7)) tNil))))))) (tOp rModN (tOp rDivX (tVar 1) (tC (.int 12))) (tC (.int 6)))) tNil))))))
theorem dv__law_weight {f : Addr} {cdv : Value} {A : Around} {outer : List Env} {s : Shared} {H : Hp} {E : XK} (hr : Room 2 (A.deeper (envOfC "_law_weight" (defScope s__law_weight) s.heap.objs.size f cdv))) (B : ∀ x, x ∈ blt → mg x = none) {Φ__law_next : Ph} {Φ_as_fraction : Ph} (g__law_next : Kn Pg w K mg base "_law_next" 1 ["_law_deck_here"] Φ__law_next) (g_as_fraction : Kn Pg w K mg base "as_fraction" 2 ["top", "bottom"] Φ_as_fraction) :
    PSs (cxOf CX0 Pg w K mg base ["_law_deck_here", "_law_cell", "_law_tops"] "_law_weight" (defScope s__law_weight) f cdv A outer s H E).nox (defBody s__law_weight) (t__law_weight K Φ__law_next Φ_as_fraction) :=
  (pss_cons (ps_set (i := 1) sc__law_weight.nd rfl (by first | exact .inl rfl | exact .inr rfl) (pe_callD g__law_next (hr.mono (by decide)) (by rfl) (pa_cons (pv 0) pa_nil)))
      (pss_cons (ps_set (i := 2) sc__law_weight.nd rfl (by first | exact .inl rfl | exact .inr rfl) (pe_lst (pa_cons pe_int (pa_cons pe_int (pa_cons pe_int (pa_cons pe_int (pa_cons (pe_un un_neg pe_int) (pa_cons (pe_un un_neg pe_int) (pa_cons (pe_un un_neg pe_int) (pa_cons pe_int (pa_cons pe_int (pa_cons (pe_un un_neg pe_int) (pa_cons pe_int (pa_cons pe_int pa_nil))))))))))))))
      (pss_one (ps_ret (pe_callD g_as_fraction (hr.mono (by decide)) (by rfl) (pa_cons (pe_ix ix_seq (pv 2) (pe_op op_modN (pv 1) pe_int) (fun _ _ => rfl)) (pa_cons (pe_ix ix_seq (pe_lst (pa_cons pe_int (pa_cons pe_int (pa_cons pe_int (pa_cons pe_int (pa_cons pe_int (pa_cons pe_int pa_nil))))))) (pe_op op_modN (pe_op op_fdivX (pv 1) pe_int) pe_int) (fun _ _ => rfl)) pa_nil)))))))
def t__law_order (K : PySem.W.Frag) (Φ__law_next : Ph) : TS := (tSeq (tAsg (tLstRg (tRg1 (tVar 1))) (gName 2))
    (tSeq (tAsg (tLst tNil) (gName 3))
    (tSeq (tFor (iRng1 (tCons (tVar 1) tNil)) (gName 4) (tDrop (tBM K "list" rAppend (tVar 3) (tCons (tBM K "list" rPopAt (tVar 2) (tCons (tOp rModN (tCall (SpD K Φ__law_next) [] E0 (tCons (tVar 0) tNil)) (tCB (rLenQ K) (tCons (tVar 2) tNil))) tNil)) tNil))))
    (tRet (tVar 3)))))
theorem dv__law_order {f : Addr} {cdv : Value} {A : Around} {outer : List Env} {s : Shared} {H : Hp} {E : XK} (hr : Room 1 (A.deeper (envOfC "_law_order" (defScope s__law_order) s.heap.objs.size f cdv))) (B : ∀ x, x ∈ blt → mg x = none) {Φ__law_next : Ph} (g__law_next : Kn Pg w K mg base "_law_next" 1 ["_law_deck_here"] Φ__law_next) :
    PSs (cxOf CX0 Pg w K mg base ["_law_deck_here", "_law_many", "_law_rest", "_law_found", "_law_k"] "_law_order" (defScope s__law_order) f cdv A outer s H E).nox (defBody s__law_order) (t__law_order K Φ__law_next) :=
  (pss_cons (ps_set (i := 2) sc__law_order.nd rfl (by first | exact .inl rfl | exact .inr rfl) (pe_listRg rfl (by rfl) (B "list" (by decide)) (prg_1 (by rfl) (B "range" (by decide)) (pv 1))))
      (pss_cons (ps_set (i := 3) sc__law_order.nd rfl (by first | exact .inl rfl | exact .inr rfl) (pe_lst pa_nil))
      (pss_cons (ps_for PassesOwn.never rfl (pi_range1 (by rfl) (B "range" (by decide)) (pa_cons (pv 1) pa_nil)) (pg_name (i := 4) sc__law_order.nd rfl (by first | exact .inl rfl | exact .inr rfl)) (pss_one (ps_expr (pe_bm PySem.F.plainAttrs_list PySem.F.slot_list_append PySem.F.type_list_append mt_append (pv 3) (pa_cons (pe_bm PySem.F.plainAttrs_list PySem.F.slot_list_pop PySem.F.type_list_pop mt_popAt (pv 2) (pa_cons (pe_op op_modN (pe_callD g__law_next (hr.mono (by decide)) (by rfl) (pa_cons (pv 0) pa_nil)) (pe_callB call_len_seq (by rfl) (B "len" (by decide)) (by decide +kernel) (pa_cons (pv 2) pa_nil))) pa_nil)) pa_nil)))))
      (pss_one (ps_ret (pv 3))))))
def t__law_beside (K : PySem.W.Frag) : TS := (tSeq (tAsg (tLc (iRng1 (tCons (tOp (rIx K) (tVar 0) (tC (.int 0))) tNil)) (gName 2) tYes (tLst tNil) [2]) (gName 1))
    (tSeq (tFor (iTup K (tOp (rIx K) (tVar 0) (tC (.int 1)))) (gTup K 3 (gCons (gName 3) (gCons (gName 4) (gCons (gName 5) gNil)))) (tSeq (tDrop (tBM K "list" rAppend (tOp (rIx K) (tVar 1) (tVar 3)) (tCons (tVar 4) tNil)))
    (tDrop (tBM K "list" rAppend (tOp (rIx K) (tVar 1) (tVar 4)) (tCons (tVar 3) tNil)))))
    (tRet (tLc (iList K (tVar 1)) (gName 6) tYes (tCB (rSortedI K) (tCons (tVar 6) tNil)) [6]))))
theorem dv__law_beside {f : Addr} {cdv : Value} {A : Around} {outer : List Env} {s : Shared} {H : Hp} {E : XK} (hr : Room 0 (A.deeper (envOfC "_law_beside" (defScope s__law_beside) s.heap.objs.size f cdv))) (B : ∀ x, x ∈ blt → mg x = none) :
    PSs (cxOf CX0 Pg w K mg base ["_law_web", "_law_found", "_law_k", "_law_one", "_law_other", "_law_weight_here", "_law_row"] "_law_beside" (defScope s__law_beside) f cdv A outer s H E).nox (defBody s__law_beside) (t__law_beside K) :=
  (pss_cons (ps_setLc (i := 1) (own := [("_law_k", 2)]) (g := (gName 2)) (tt := tYes) rfl sc__law_beside.nd rfl rfl (sw_true rfl rfl rfl (by decide +kernel)) (pi_range1 (by rfl) (B "range" (by decide)) (pa_cons (pe_ix ix_seq (pv 0) pe_int (fun _ _ => rfl)) pa_nil)) (blkOk_by (own := [("_law_k", 2)]) (N := ["_law_web", "_law_found", "_law_k", "_law_one", "_law_other", "_law_weight_here", "_law_row"]) (sc := defScope s__law_beside) (by decide +kernel)) (fun _ _ _ _ _ => (pg_name (i := 2) sc__law_beside.nd rfl (by first | exact .inl rfl | exact .inr rfl))) (fun _ _ _ _ _ => pts_nil) (fun _ _ _ _ _ => (pe_lst pa_nil)))
      (pss_cons (ps_for PassesOwn.never rfl (pi_tup (pe_ix ix_seq (pv 0) pe_int (fun _ _ => rfl))) (pg_tup rfl (pgs_cons (pg_name (i := 3) sc__law_beside.nd rfl (by first | exact .inl rfl | exact .inr rfl)) (pgs_cons (pg_name (i := 4) sc__law_beside.nd rfl (by first | exact .inl rfl | exact .inr rfl)) (pgs_cons (pg_name (i := 5) sc__law_beside.nd rfl (by first | exact .inl rfl | exact .inr rfl)) pgs_nil)))) (pss_cons (ps_expr (pe_bm PySem.F.plainAttrs_list PySem.F.slot_list_append PySem.F.type_list_append mt_append (pe_ix ix_seq (pv 1) (pv 3) (fun _ _ => rfl)) (pa_cons (pv 4) pa_nil)))
      (pss_one (ps_expr (pe_bm PySem.F.plainAttrs_list PySem.F.slot_list_append PySem.F.type_list_append mt_append (pe_ix ix_seq (pv 1) (pv 4) (fun _ _ => rfl)) (pa_cons (pv 3) pa_nil))))))
      (pss_one (ps_ret (pe_lc (own := [("_law_row", 6)]) (g := (gName 6)) (tt := tYes) rfl sc__law_beside.nd (pi_list (pv 1)) (blkOk_by (own := [("_law_row", 6)]) (N := ["_law_web", "_law_found", "_law_k", "_law_one", "_law_other", "_law_weight_here", "_law_row"]) (sc := defScope s__law_beside) (by decide +kernel)) (fun _ _ _ _ _ => (pg_name (i := 6) sc__law_beside.nd rfl (by first | exact .inl rfl | exact .inr rfl))) (fun _ _ _ _ _ => pts_nil) (fun _ _ _ _ _ => (pe_callB cr_sortedI (by rfl) (B "sorted" (by decide)) (by decide +kernel) (pa_cons (pv 6) pa_nil))))))))
def t__law_turns (K : PySem.W.Frag) (Φ__law_beside : Ph) (Φ__law_order : Ph) : TS := (tSeq (tAsg (tLst tNil) (gName 2))
    (tSeq (tFor (iList K (tCall (SpD K Φ__law_beside) [] E0 (tCons (tVar 1) tNil))) (gName 3) (tDrop (tBM K "list" rAppend (tVar 2) (tCons (tCB (rTupQ K) (tCons (tLc (iList K (tCall (SpD K Φ__law_order) [] E0 (tCons (tVar 0) (tCons (tCB (rLenQ K) (tCons (tVar 3) tNil)) tNil)))) (gName 4) tYes (tOp (rIx K) (tVar 3) (tVar 4)) [4]) tNil)) tNil))))
    (tRet (tCB (rTupQ K) (tCons (tVar 2) tNil)))))
theorem dv__law_turns {f : Addr} {cdv : Value} {A : Around} {outer : List Env} {s : Shared} {H : Hp} {E : XK} (hr : Room 2 (A.deeper (envOfC "_law_turns" (defScope s__law_turns) s.heap.objs.size f cdv))) (B : ∀ x, x ∈ blt → mg x = none) {Φ__law_beside : Ph} {Φ__law_order : Ph} (g__law_beside : Kn Pg w K mg base "_law_beside" 1 ["_law_web"] Φ__law_beside) (g__law_order : Kn Pg w K mg base "_law_order" 2 ["_law_deck_here", "_law_many"] Φ__law_order) :
    PSs (cxOf CX0 Pg w K mg base ["_law_deck_here", "_law_web", "_law_found", "_law_row", "_law_k"] "_law_turns" (defScope s__law_turns) f cdv A outer s H E).nox (defBody s__law_turns) (t__law_turns K Φ__law_beside Φ__law_order) :=
  (pss_cons (ps_set (i := 2) sc__law_turns.nd rfl (by first | exact .inl rfl | exact .inr rfl) (pe_lst pa_nil))
      (pss_cons (ps_for PassesOwn.never rfl (pi_list (pe_callD g__law_beside (hr.mono (by decide)) (by rfl) (pa_cons (pv 1) pa_nil))) (pg_name (i := 3) sc__law_turns.nd rfl (by first | exact .inl rfl | exact .inr rfl)) (pss_one (ps_expr (pe_bm PySem.F.plainAttrs_list PySem.F.slot_list_append PySem.F.type_list_append mt_append (pv 2) (pa_cons (pe_callTy call_tuple_of (by rfl) (B "tuple" (by decide)) (by decide +kernel) (pa_cons (pe_lc (own := [("_law_k", 4)]) (g := (gName 4)) (tt := tYes) rfl sc__law_turns.nd (pi_list (pe_callD g__law_order (hr.mono (by decide)) (by rfl) (pa_cons (pv 0) (pa_cons (pe_callB call_len_seq (by rfl) (B "len" (by decide)) (by decide +kernel) (pa_cons (pv 3) pa_nil)) pa_nil)))) (blkOk_by (own := [("_law_k", 4)]) (N := ["_law_deck_here", "_law_web", "_law_found", "_law_row", "_law_k"]) (sc := defScope s__law_turns) (by decide +kernel)) (fun _ _ _ _ _ => (pg_name (i := 4) sc__law_turns.nd rfl (by first | exact .inl rfl | exact .inr rfl))) (fun _ _ _ _ _ => pts_nil) (fun _ _ _ _ _ => (pe_ix ix_seq (pv 3) (pv 4) (fun _ _ => rfl)))) pa_nil)) pa_nil)))))
      (pss_one (ps_ret (pe_callTy call_tuple_of (by rfl) (B "tuple" (by decide)) (by decide +kernel) (pa_cons (pv 2) pa_nil))))))
def t__law_any_web (K : PySem.W.Frag) (Φ__law_next : Ph) (Φ__law_weight : Ph) : TS := (tSeq (tAsg (tOp rAddI (tC (.int 1)) (tOp rModN (tCall (SpD K Φ__law_next) [] E0 (tCons (tVar 0) tNil)) (tVar 1))) (gName 2))
    (tSeq (tAsg (tLst tNil) (gName 3))
    (tSeq (tFor (iRng1 (tCons (tVar 2) tNil)) (gName 4) (tFor (iRng2 (tCons (tOp rAddI (tVar 4) (tC (.int 1))) (tCons (tVar 2) tNil))) (gName 5) (tIfS (tTest (tOp rLtI (tOp rModN (tCall (SpD K Φ__law_next) [] E0 (tCons (tVar 0) tNil)) (tC (.int 5))) (tC (.int 3)))) (tDrop (tBM K "list" rAppend (tVar 3) (tCons (tTup (tCons (tVar 4) (tCons (tVar 5) (tCons (tCall (SpD K Φ__law_weight) [] E0 (tCons (tVar 0) tNil)) tNil)))) tNil))) tNext)))
    (tRet (tTup (tCons (tVar 2) (tCons (tCB (rTupQ K) (tCons (tVar 3) tNil)) tNil)))))))
theorem dv__law_any_web {f : Addr} {cdv : Value} {A : Around} {outer : List Env} {s : Shared} {H : Hp} {E : XK} (hr : Room 3 (A.deeper (envOfC "_law_any_web" (defScope s__law_any_web) s.heap.objs.size f cdv))) (B : ∀ x, x ∈ blt → mg x = none) {Φ__law_next : Ph} {Φ__law_weight : Ph} (g__law_next : Kn Pg w K mg base "_law_next" 1 ["_law_deck_here"] Φ__law_next) (g__law_weight : Kn Pg w K mg base "_law_weight" 3 ["_law_deck_here"] Φ__law_weight) :
    PSs (cxOf CX0 Pg w K mg base ["_law_deck_here", "_law_most", "_law_many", "_law_ties", "_law_a", "_law_b"] "_law_any_web" (defScope s__law_any_web) f cdv A outer s H E).nox (defBody s__law_any_web) (t__law_any_web K Φ__law_next Φ__law_weight) :=
  (pss_cons (ps_set (i := 2) sc__law_any_web.nd rfl (by first | exact .inl rfl | exact .inr rfl) (pe_op op_add pe_int (pe_op op_modN (pe_callD g__law_next (hr.mono (by decide)) (by rfl) (pa_cons (pv 0) pa_nil)) (pv 1))))
      (pss_cons (ps_set (i := 3) sc__law_any_web.nd rfl (by first | exact .inl rfl | exact .inr rfl) (pe_lst pa_nil))
      (pss_cons (ps_for PassesOwn.never rfl (pi_range1 (by rfl) (B "range" (by decide)) (pa_cons (pv 2) pa_nil)) (pg_name (i := 4) sc__law_any_web.nd rfl (by first | exact .inl rfl | exact .inr rfl)) (pss_one (ps_for PassesOwn.never rfl (pi_range2 (by rfl) (B "range" (by decide)) (pa_cons (pe_op op_add (pv 4) pe_int) (pa_cons (pv 2) pa_nil))) (pg_name (i := 5) sc__law_any_web.nd rfl (by first | exact .inl rfl | exact .inr rfl)) (pss_one (ps_if (pt_cmpR op_lt (pe_op op_modN (pe_callD g__law_next (hr.mono (by decide)) (by rfl) (pa_cons (pv 0) pa_nil)) pe_int) pe_int (nomark _)) (pss_one (ps_expr (pe_bm PySem.F.plainAttrs_list PySem.F.slot_list_append PySem.F.type_list_append mt_append (pv 3) (pa_cons (pe_tup (pa_cons (pv 4) (pa_cons (pv 5) (pa_cons (pe_callD g__law_weight (hr.mono (by decide)) (by rfl) (pa_cons (pv 0) pa_nil)) pa_nil)))) pa_nil)))) pss_nil)))))
      (pss_one (ps_ret (pe_tup (pa_cons (pv 2) (pa_cons (pe_callTy call_tuple_of (by rfl) (B "tuple" (by decide)) (by decide +kernel) (pa_cons (pv 3) pa_nil)) pa_nil))))))))
def t__law_behind (K : PySem.W.Frag) : TS := (tSeq (tAsg (tOp (rIx K) (tVar 0) (tOp (rIx K) (tVar 1) (tC (.int 1)))) (gName 2))
    (tSeq (tFor (iRng1 (tCons (tCB (rLenQ K) (tCons (tVar 2) tNil)) tNil)) (gName 3) (tIfS (tTest (tOp (rEqD K) (tOp (rIx K) (tVar 2) (tOp rSubI (tVar 3) (tC (.int 1)))) (tOp (rIx K) (tVar 1) (tC (.int 0))))) (tRet (tTup (tCons (tOp (rIx K) (tVar 1) (tC (.int 1))) (tCons (tOp (rIx K) (tVar 2) (tVar 3)) tNil)))) tNext))
    (tRet (tVar 1))))
theorem dv__law_behind {f : Addr} {cdv : Value} {A : Around} {outer : List Env} {s : Shared} {H : Hp} {E : XK} (hr : Room 0 (A.deeper (envOfC "_law_behind" (defScope s__law_behind) s.heap.objs.size f cdv))) (B : ∀ x, x ∈ blt → mg x = none) :
    PSs (cxOf CX0 Pg w K mg base ["_law_turns_here", "_law_dart", "_law_row", "_law_k"] "_law_behind" (defScope s__law_behind) f cdv A outer s H E).nox (defBody s__law_behind) (t__law_behind K) :=
  (pss_cons (ps_set (i := 2) sc__law_behind.nd rfl (by first | exact .inl rfl | exact .inr rfl) (pe_ix ix_seq (pv 0) (pe_ix ix_seq (pv 1) pe_int (fun _ _ => rfl)) (fun _ _ => rfl)))
      (pss_cons (ps_for PassesOwn.never rfl (pi_range1 (by rfl) (B "range" (by decide)) (pa_cons (pe_callB call_len_seq (by rfl) (B "len" (by decide)) (by decide +kernel) (pa_cons (pv 2) pa_nil)) pa_nil)) (pg_name (i := 3) sc__law_behind.nd rfl (by first | exact .inl rfl | exact .inr rfl)) (pss_one (ps_if (pt_cmpR (op_eqD hr.units) (pe_ix ix_seq (pv 2) (pe_op op_sub (pv 3) pe_int) (fun _ _ => rfl)) (pe_ix ix_seq (pv 1) pe_int (fun _ _ => rfl)) (nomark _)) (pss_one (ps_ret (pe_tup (pa_cons (pe_ix ix_seq (pv 1) pe_int (fun _ _ => rfl)) (pa_cons (pe_ix ix_seq (pv 2) (pv 3) (fun _ _ => rfl)) pa_nil))))) pss_nil)))
      (pss_one (ps_ret (pv 1)))))
def t__law_faces (K : PySem.W.Frag) (Φ__law_behind : Ph) : TS := (tSeq (tAsg (tCB (rSortV K) (tCons (tOp rCat (tLc (iTup K (tOp (rIx K) (tVar 0) (tC (.int 1)))) (gName 3) tYes (tSl (rSlT K) (tVar 3) tNoPart (tPart (tC (.int 2)))) [3]) (tLc (iTup K (tOp (rIx K) (tVar 0) (tC (.int 1)))) (gName 3) tYes (tTup (tCons (tOp (rIx K) (tVar 3) (tC (.int 1))) (tCons (tOp (rIx K) (tVar 3) (tC (.int 0))) tNil))) [3])) tNil)) (gName 2))
    (tSeq (tAsg (tLst tNil) (gName 4))
    (tSeq (tWhile (tTest (tOp (rNeD K) (tVar 2) (tLst tNil))) (tSeq (tAsg (tOp (rIx K) (tVar 2) (tC (.int 0))) (gName 5))
    (tSeq (tAsg (tLst tNil) (gName 6))
    (tSeq (tWhile (tTest (tOp (rInD K) (tVar 5) (tVar 2))) (tSeq (tDrop (tBM K "list" (rRemD K) (tVar 2) (tCons (tVar 5) tNil)))
    (tSeq (tDrop (tBM K "list" rAppend (tVar 6) (tCons (tVar 5) tNil)))
    (tAsg (tCall (SpD K Φ__law_behind) [] E0 (tCons (tVar 1) (tCons (tVar 5) tNil))) (gName 5)))))
    (tDrop (tBM K "list" rAppend (tVar 4) (tCons (tCB (rTupQ K) (tCons (tVar 6) tNil)) tNil)))))))
    (tRet (tCB (rTupQ K) (tCons (tVar 4) tNil))))))
theorem dv__law_faces {f : Addr} {cdv : Value} {A : Around} {outer : List Env} {s : Shared} {H : Hp} {E : XK} (hr : Room 1 (A.deeper (envOfC "_law_faces" (defScope s__law_faces) s.heap.objs.size f cdv))) (B : ∀ x, x ∈ blt → mg x = none) {Φ__law_behind : Ph} (g__law_behind : Kn Pg w K mg base "_law_behind" 1 ["_law_turns_here", "_law_dart"] Φ__law_behind) :
    PSs (cxOf CX0 Pg w K mg base ["_law_web", "_law_turns_here", "_law_left", "_law_tie", "_law_found", "_law_dart", "_law_face"] "_law_faces" (defScope s__law_faces) f cdv A outer s H E).nox (defBody s__law_faces) (t__law_faces K Φ__law_behind) :=
  (pss_cons (ps_set (i := 2) sc__law_faces.nd rfl (by first | exact .inl rfl | exact .inr rfl) (pe_callB (cr_sortV hr.units) (by rfl) (B "sorted" (by decide)) (by decide +kernel) (pa_cons (pe_op op_cat (pe_lc (own := [("_law_tie", 3)]) (g := (gName 3)) (tt := tYes) rfl sc__law_faces.nd (pi_tup (pe_ix ix_seq (pv 0) pe_int (fun _ _ => rfl))) (blkOk_by (own := [("_law_tie", 3)]) (N := ["_law_web", "_law_turns_here", "_law_left", "_law_tie", "_law_found", "_law_dart", "_law_face"]) (sc := defScope s__law_faces) (by decide +kernel)) (fun _ _ _ _ _ => (pg_name (i := 3) sc__law_faces.nd rfl (by first | exact .inl rfl | exact .inr rfl))) (fun _ _ _ _ _ => pts_nil) (fun _ _ _ _ _ => (pe_slice sl_tup (pv 3) po_none (po_some pe_int)))) (pe_lc (own := [("_law_tie", 3)]) (g := (gName 3)) (tt := tYes) rfl sc__law_faces.nd (pi_tup (pe_ix ix_seq (pv 0) pe_int (fun _ _ => rfl))) (blkOk_by (own := [("_law_tie", 3)]) (N := ["_law_web", "_law_turns_here", "_law_left", "_law_tie", "_law_found", "_law_dart", "_law_face"]) (sc := defScope s__law_faces) (by decide +kernel)) (fun _ _ _ _ _ => (pg_name (i := 3) sc__law_faces.nd rfl (by first | exact .inl rfl | exact .inr rfl))) (fun _ _ _ _ _ => pts_nil) (fun _ _ _ _ _ => (pe_tup (pa_cons (pe_ix ix_seq (pv 3) pe_int (fun _ _ => rfl)) (pa_cons (pe_ix ix_seq (pv 3) pe_int (fun _ _ => rfl)) pa_nil)))))) pa_nil)))
      (pss_cons (ps_set (i := 4) sc__law_faces.nd rfl (by first | exact .inl rfl | exact .inr rfl) (pe_lst pa_nil))
      (pss_cons (ps_while PassesOwn.never (pt_cmpR (op_neD hr.units) (pv 2) (pe_lst pa_nil) (nomark _)) (pss_cons (ps_set (i := 5) sc__law_faces.nd rfl (by first | exact .inl rfl | exact .inr rfl) (pe_ix ix_seq (pv 2) pe_int (fun _ _ => rfl)))
      (pss_cons (ps_set (i := 6) sc__law_faces.nd rfl (by first | exact .inl rfl | exact .inr rfl) (pe_lst pa_nil))
      (pss_cons (ps_while PassesOwn.never (pt_cmpR (op_inD (units65 hr)) (pv 5) (pv 2) (by rfl)) (pss_cons (ps_expr (pe_bm PySem.F.plainAttrs_list PySem.F.slot_list_remove PySem.F.type_list_remove (mt_remD (units65 hr)) (pv 2) (pa_cons (pv 5) pa_nil)))
      (pss_cons (ps_expr (pe_bm PySem.F.plainAttrs_list PySem.F.slot_list_append PySem.F.type_list_append mt_append (pv 6) (pa_cons (pv 5) pa_nil)))
      (pss_one (ps_set (i := 5) sc__law_faces.nd rfl (by first | exact .inl rfl | exact .inr rfl) (pe_callD g__law_behind (hr.mono (by decide)) (by rfl) (pa_cons (pv 1) (pa_cons (pv 5) pa_nil))))))))
      (pss_one (ps_expr (pe_bm PySem.F.plainAttrs_list PySem.F.slot_list_append PySem.F.type_list_append mt_append (pv 4) (pa_cons (pe_callTy call_tuple_of (by rfl) (B "tuple" (by decide)) (by decide +kernel) (pa_cons (pv 6) pa_nil)) pa_nil))))))))
      (pss_one (ps_ret (pe_callTy call_tuple_of (by rfl) (B "tuple" (by decide)) (by decide +kernel) (pa_cons (pv 4) pa_nil)))))))
def t__law_after (K : PySem.W.Frag) : TS := (tSeq (tAsg (tOp rAddI (tBM K "list" (rIndex K) (tVar 0) (tCons (tVar 1) tNil)) (tC (.int 1))) (gName 3))
    (tRet (tOp rCat (tOp rCat (tSl (rSlL K) (tVar 0) tNoPart (tPart (tVar 3))) (tLst (tCons (tVar 2) tNil))) (tSl (rSlL K) (tVar 0) (tPart (tVar 3)) tNoPart))))
theorem dv__law_after {f : Addr} {cdv : Value} {A : Around} {outer : List Env} {s : Shared} {H : Hp} {E : XK} (hr : Room 0 (A.deeper (envOfC "_law_after" (defScope s__law_after) s.heap.objs.size f cdv))) (B : ∀ x, x ∈ blt → mg x = none) :
    PSs (cxOf CX0 Pg w K mg base ["_law_row", "_law_one", "_law_new", "_law_at"] "_law_after" (defScope s__law_after) f cdv A outer s H E).nox (defBody s__law_after) (t__law_after K) :=
  (pss_cons (ps_set (i := 3) sc__law_after.nd rfl (by first | exact .inl rfl | exact .inr rfl) (pe_op op_add (pe_bm PySem.F.plainAttrs_list PySem.F.slot_list_index PySem.F.type_list_index mt_index (pv 0) (pa_cons (pv 1) pa_nil)) pe_int))
      (pss_one (ps_ret (pe_op op_cat (pe_op op_cat (pe_slice sl_list (pv 0) po_none (po_some (pv 3))) (pe_lst (pa_cons (pv 2) pa_nil))) (pe_slice sl_list (pv 0) (po_some (pv 3)) po_none)))))
def t__law_corners (K : PySem.W.Frag) (Φ__law_behind : Ph) : TS := (tSeq (tAsg (tLst tNil) (gName 1))
    (tSeq (tAsg (tLst tNil) (gName 2))
    (tSeq (tFor (iRng1 (tCons (tCB (rLenQ K) (tCons (tVar 0) tNil)) tNil)) (gName 3) (tAsg (tOp rCat (tVar 2) (tLc (iList K (tOp (rIx K) (tVar 0) (tVar 3))) (gName 4) tYes (tTup (tCons (tVar 3) (tCons (tVar 4) tNil))) [4])) (gName 2)))
    (tSeq (tWhile (tTest (tOp (rNeD K) (tVar 2) (tLst tNil))) (tSeq (tAsg (tOp (rIx K) (tVar 2) (tC (.int 0))) (gName 5))
    (tSeq (tAsg (tLst tNil) (gName 6))
    (tSeq (tWhile (tTest (tOp (rInD K) (tVar 5) (tVar 2))) (tSeq (tDrop (tBM K "list" (rRemD K) (tVar 2) (tCons (tVar 5) tNil)))
    (tSeq (tDrop (tBM K "list" rAppend (tVar 6) (tCons (tVar 5) tNil)))
    (tAsg (tCall (SpD K Φ__law_behind) [] E0 (tCons (tVar 0) (tCons (tVar 5) tNil))) (gName 5)))))
    (tDrop (tBM K "list" rAppend (tVar 1) (tCons (tVar 6) tNil)))))))
    (tRet (tVar 1))))))
theorem dv__law_corners {f : Addr} {cdv : Value} {A : Around} {outer : List Env} {s : Shared} {H : Hp} {E : XK} (hr : Room 1 (A.deeper (envOfC "_law_corners" (defScope s__law_corners) s.heap.objs.size f cdv))) (B : ∀ x, x ∈ blt → mg x = none) {Φ__law_behind : Ph} (g__law_behind : Kn Pg w K mg base "_law_behind" 1 ["_law_turns_here", "_law_dart"] Φ__law_behind) :
    PSs (cxOf CX0 Pg w K mg base ["_law_rows", "_law_found", "_law_left", "_law_a", "_law_b", "_law_dart", "_law_face"] "_law_corners" (defScope s__law_corners) f cdv A outer s H E).nox (defBody s__law_corners) (t__law_corners K Φ__law_behind) :=
  (pss_cons (ps_set (i := 1) sc__law_corners.nd rfl (by first | exact .inl rfl | exact .inr rfl) (pe_lst pa_nil))
      (pss_cons (ps_set (i := 2) sc__law_corners.nd rfl (by first | exact .inl rfl | exact .inr rfl) (pe_lst pa_nil))
      (pss_cons (ps_for PassesOwn.never rfl (pi_range1 (by rfl) (B "range" (by decide)) (pa_cons (pe_callB call_len_seq (by rfl) (B "len" (by decide)) (by decide +kernel) (pa_cons (pv 0) pa_nil)) pa_nil)) (pg_name (i := 3) sc__law_corners.nd rfl (by first | exact .inl rfl | exact .inr rfl)) (pss_one (ps_set (i := 2) sc__law_corners.nd rfl (by first | exact .inl rfl | exact .inr rfl) (pe_op op_cat (pv 2) (pe_lc (own := [("_law_b", 4)]) (g := (gName 4)) (tt := tYes) rfl sc__law_corners.nd (pi_list (pe_ix ix_seq (pv 0) (pv 3) (fun _ _ => rfl))) (blkOk_by (own := [("_law_b", 4)]) (N := ["_law_rows", "_law_found", "_law_left", "_law_a", "_law_b", "_law_dart", "_law_face"]) (sc := defScope s__law_corners) (by decide +kernel)) (fun _ _ _ _ _ => (pg_name (i := 4) sc__law_corners.nd rfl (by first | exact .inl rfl | exact .inr rfl))) (fun _ _ _ _ _ => pts_nil) (fun _ _ _ _ _ => (pe_tup (pa_cons (pv 3) (pa_cons (pv 4) pa_nil)))))))))
      (pss_cons (ps_while PassesOwn.never (pt_cmpR (op_neD hr.units) (pv 2) (pe_lst pa_nil) (nomark _)) (pss_cons (ps_set (i := 5) sc__law_corners.nd rfl (by first | exact .inl rfl | exact .inr rfl) (pe_ix ix_seq (pv 2) pe_int (fun _ _ => rfl)))
      (pss_cons (ps_set (i := 6) sc__law_corners.nd rfl (by first | exact .inl rfl | exact .inr rfl) (pe_lst pa_nil))
      (pss_cons (ps_while PassesOwn.never (pt_cmpR (op_inD (units65 hr)) (pv 5) (pv 2) (by rfl)) (pss_cons (ps_expr (pe_bm PySem.F.plainAttrs_list PySem.F.slot_list_remove PySem.F.type_list_remove (mt_remD (units65 hr)) (pv 2) (pa_cons (pv 5) pa_nil)))
      (pss_cons (ps_expr (pe_bm PySem.F.plainAttrs_list PySem.F.slot_list_append PySem.F.type_list_append mt_append (pv 6) (pa_cons (pv 5) pa_nil)))
      (pss_one (ps_set (i := 5) sc__law_corners.nd rfl (by first | exact .inl rfl | exact .inr rfl) (pe_callD g__law_behind (hr.mono (by decide)) (by rfl) (pa_cons (pv 0) (pa_cons (pv 5) pa_nil))))))))
      (pss_one (ps_expr (pe_bm PySem.F.plainAttrs_list PySem.F.slot_list_append PySem.F.type_list_append mt_append (pv 1) (pa_cons (pv 6) pa_nil))))))))
      (pss_one (ps_ret (pv 1)))))))
def t__law_put_point (K : PySem.W.Frag) (Φ__law_corners : Ph) (Φ__law_next : Ph) (Φ__law_after : Ph) : TS := (tSeq (tAsg (tCall (SpD K Φ__law_corners) [] E0 (tCons (tVar 1) tNil)) (gName 2))
    (tSeq (tAsg (tOp (rIx K) (tVar 2) (tOp rModN (tCall (SpD K Φ__law_next) [] E0 (tCons (tVar 0) tNil)) (tCB (rLenQ K) (tCons (tVar 2) tNil)))) (gName 3))
    (tSeq (tAsg (tOp (rIx K) (tVar 3) (tOp rModN (tCall (SpD K Φ__law_next) [] E0 (tCons (tVar 0) tNil)) (tCB (rLenQ K) (tCons (tVar 3) tNil)))) (gTup K 2 (gCons (gName 4) (gCons (gName 5) gNil))))
    (tSeq (tAsg (tCall (SpD K Φ__law_after) [] E0 (tCons (tOp (rIx K) (tVar 1) (tVar 5)) (tCons (tVar 4) (tCons (tCB (rLenQ K) (tCons (tVar 1) tNil)) tNil)))) (gSub (tVar 1) (tVar 5) rSetL))
    (tDrop (tBM K "list" rAppend (tVar 1) (tCons (tLst (tCons (tVar 5) tNil)) tNil)))))))
theorem dv__law_put_point {f : Addr} {cdv : Value} {A : Around} {outer : List Env} {s : Shared} {H : Hp} {E : XK} (hr : Room 2 (A.deeper (envOfC "_law_put_point" (defScope s__law_put_point) s.heap.objs.size f cdv))) (B : ∀ x, x ∈ blt → mg x = none) {Φ__law_corners : Ph} {Φ__law_next : Ph} {Φ__law_after : Ph} (g__law_corners : Kn Pg w K mg base "_law_corners" 2 ["_law_rows"] Φ__law_corners) (g__law_next : Kn Pg w K mg base "_law_next" 1 ["_law_deck_here"] Φ__law_next) (g__law_after : Kn Pg w K mg base "_law_after" 1 ["_law_row", "_law_one", "_law_new"] Φ__law_after) :
    PSs (cxOf CX0 Pg w K mg base ["_law_deck_here", "_law_rows", "_law_faces_here", "_law_face", "_law_a", "_law_b"] "_law_put_point" (defScope s__law_put_point) f cdv A outer s H E).nox (defBody s__law_put_point) (t__law_put_point K Φ__law_corners Φ__law_next Φ__law_after) :=
  (pss_cons (ps_set (i := 2) sc__law_put_point.nd rfl (by first | exact .inl rfl | exact .inr rfl) (pe_callD g__law_corners (hr.mono (by decide)) (by rfl) (pa_cons (pv 1) pa_nil)))
      (pss_cons (ps_set (i := 3) sc__law_put_point.nd rfl (by first | exact .inl rfl | exact .inr rfl) (pe_ix ix_seq (pv 2) (pe_op op_modN (pe_callD g__law_next (hr.mono (by decide)) (by rfl) (pa_cons (pv 0) pa_nil)) (pe_callB call_len_seq (by rfl) (B "len" (by decide)) (by decide +kernel) (pa_cons (pv 2) pa_nil))) (fun _ _ => rfl)))
      (pss_cons (ps_asg (pe_ix ix_seq (pv 3) (pe_op op_modN (pe_callD g__law_next (hr.mono (by decide)) (by rfl) (pa_cons (pv 0) pa_nil)) (pe_callB call_len_seq (by rfl) (B "len" (by decide)) (by decide +kernel) (pa_cons (pv 3) pa_nil))) (fun _ _ => rfl)) (pg_tup rfl (pgs_cons (pg_name (i := 4) sc__law_put_point.nd rfl (by first | exact .inl rfl | exact .inr rfl)) (pgs_cons (pg_name (i := 5) sc__law_put_point.nd rfl (by first | exact .inl rfl | exact .inr rfl)) pgs_nil))))
      (pss_cons (ps_asg (pe_callD g__law_after (hr.mono (by decide)) (by rfl) (pa_cons (pe_ix ix_seq (pv 1) (pv 5) (fun _ _ => rfl)) (pa_cons (pv 4) (pa_cons (pe_callB call_len_seq (by rfl) (B "len" (by decide)) (by decide +kernel) (pa_cons (pv 1) pa_nil)) pa_nil)))) (pg_sub (pv 1) (pv 5) set_list))
      (pss_one (ps_expr (pe_bm PySem.F.plainAttrs_list PySem.F.slot_list_append PySem.F.type_list_append mt_append (pv 1) (pa_cons (pe_lst (pa_cons (pv 5) pa_nil)) pa_nil))))))))
def t__law_put_tie (K : PySem.W.Frag) (Φ__law_corners : Ph) (Φ__law_next : Ph) (Φ__law_after : Ph) : TS := (tSeq (tAsg (tCall (SpD K Φ__law_corners) [] E0 (tCons (tVar 1) tNil)) (gName 2))
    (tSeq (tAsg (tOp (rIx K) (tVar 2) (tOp rModN (tCall (SpD K Φ__law_next) [] E0 (tCons (tVar 0) tNil)) (tCB (rLenQ K) (tCons (tVar 2) tNil)))) (gName 3))
    (tSeq (tAsg (tOp (rIx K) (tVar 3) (tOp rModN (tCall (SpD K Φ__law_next) [] E0 (tCons (tVar 0) tNil)) (tCB (rLenQ K) (tCons (tVar 3) tNil)))) (gTup K 2 (gCons (gName 4) (gCons (gName 5) gNil))))
    (tSeq (tAsg (tOp (rIx K) (tVar 3) (tOp rModN (tCall (SpD K Φ__law_next) [] E0 (tCons (tVar 0) tNil)) (tCB (rLenQ K) (tCons (tVar 3) tNil)))) (gTup K 2 (gCons (gName 6) (gCons (gName 7) gNil))))
    (tIfS (tAnd (tTest (tOp (rNeD K) (tVar 5) (tVar 7))) (tTest (tOp (rNotInD K) (tVar 7) (tOp (rIx K) (tVar 1) (tVar 5))))) (tSeq (tAsg (tCall (SpD K Φ__law_after) [] E0 (tCons (tOp (rIx K) (tVar 1) (tVar 5)) (tCons (tVar 4) (tCons (tVar 7) tNil)))) (gSub (tVar 1) (tVar 5) rSetL))
    (tAsg (tCall (SpD K Φ__law_after) [] E0 (tCons (tOp (rIx K) (tVar 1) (tVar 7)) (tCons (tVar 6) (tCons (tVar 5) tNil)))) (gSub (tVar 1) (tVar 7) rSetL))) tNext)))))
theorem dv__law_put_tie {f : Addr} {cdv : Value} {A : Around} {outer : List Env} {s : Shared} {H : Hp} {E : XK} (hr : Room 2 (A.deeper (envOfC "_law_put_tie" (defScope s__law_put_tie) s.heap.objs.size f cdv))) (B : ∀ x, x ∈ blt → mg x = none) {Φ__law_corners : Ph} {Φ__law_next : Ph} {Φ__law_after : Ph} (g__law_corners : Kn Pg w K mg base "_law_corners" 2 ["_law_rows"] Φ__law_corners) (g__law_next : Kn Pg w K mg base "_law_next" 1 ["_law_deck_here"] Φ__law_next) (g__law_after : Kn Pg w K mg base "_law_after" 1 ["_law_row", "_law_one", "_law_new"] Φ__law_after) :
    PSs (cxOf CX0 Pg w K mg base ["_law_deck_here", "_law_rows", "_law_faces_here", "_law_face", "_law_a", "_law_b", "_law_c", "_law_d"] "_law_put_tie" (defScope s__law_put_tie) f cdv A outer s H E).nox (defBody s__law_put_tie) (t__law_put_tie K Φ__law_corners Φ__law_next Φ__law_after) :=
  (pss_cons (ps_set (i := 2) sc__law_put_tie.nd rfl (by first | exact .inl rfl | exact .inr rfl) (pe_callD g__law_corners (hr.mono (by decide)) (by rfl) (pa_cons (pv 1) pa_nil)))
      (pss_cons (ps_set (i := 3) sc__law_put_tie.nd rfl (by first | exact .inl rfl | exact .inr rfl) (pe_ix ix_seq (pv 2) (pe_op op_modN (pe_callD g__law_next (hr.mono (by decide)) (by rfl) (pa_cons (pv 0) pa_nil)) (pe_callB call_len_seq (by rfl) (B "len" (by decide)) (by decide +kernel) (pa_cons (pv 2) pa_nil))) (fun _ _ => rfl)))
      (pss_cons (ps_asg (pe_ix ix_seq (pv 3) (pe_op op_modN (pe_callD g__law_next (hr.mono (by decide)) (by rfl) (pa_cons (pv 0) pa_nil)) (pe_callB call_len_seq (by rfl) (B "len" (by decide)) (by decide +kernel) (pa_cons (pv 3) pa_nil))) (fun _ _ => rfl)) (pg_tup rfl (pgs_cons (pg_name (i := 4) sc__law_put_tie.nd rfl (by first | exact .inl rfl | exact .inr rfl)) (pgs_cons (pg_name (i := 5) sc__law_put_tie.nd rfl (by first | exact .inl rfl | exact .inr rfl)) pgs_nil))))
      (pss_cons (ps_asg (pe_ix ix_seq (pv 3) (pe_op op_modN (pe_callD g__law_next (hr.mono (by decide)) (by rfl) (pa_cons (pv 0) pa_nil)) (pe_callB call_len_seq (by rfl) (B "len" (by decide)) (by decide +kernel) (pa_cons (pv 3) pa_nil))) (fun _ _ => rfl)) (pg_tup rfl (pgs_cons (pg_name (i := 6) sc__law_put_tie.nd rfl (by first | exact .inl rfl | exact .inr rfl)) (pgs_cons (pg_name (i := 7) sc__law_put_tie.nd rfl (by first | exact .inl rfl | exact .inr rfl)) pgs_nil))))
      (pss_one (ps_if (PW.pt (pw_and (pt_cmpR (op_neD hr.units) (pv 5) (pv 7) (nomark _)) (pw_and1 (pt_cmpR (op_notInD (units65 hr)) (pv 7) (pe_ix ix_seq (pv 1) (pv 5) (fun _ _ => rfl)) (by rfl))))) (pss_cons (ps_asg (pe_callD g__law_after (hr.mono (by decide)) (by rfl) (pa_cons (pe_ix ix_seq (pv 1) (pv 5) (fun _ _ => rfl)) (pa_cons (pv 4) (pa_cons (pv 7) pa_nil)))) (pg_sub (pv 1) (pv 5) set_list))
      (pss_one (ps_asg (pe_callD g__law_after (hr.mono (by decide)) (by rfl) (pa_cons (pe_ix ix_seq (pv 1) (pv 7) (fun _ _ => rfl)) (pa_cons (pv 6) (pa_cons (pv 5) pa_nil)))) (pg_sub (pv 1) (pv 7) set_list)))) pss_nil))))))
def t__law_grown (K : PySem.W.Frag) (Φ__law_put_point : Ph) (Φ__law_put_tie : Ph) : TS := (tSeq (tAsg (tLst (tCons (tLst (tCons (tC (.int 1)) tNil)) (tCons (tLst (tCons (tC (.int 0)) tNil)) tNil))) (gName 3))
    (tSeq (tWhile (tTest (tOp rLtI (tCB (rLenQ K) (tCons (tVar 3) tNil)) (tVar 1))) (tSeq (tDrop (tCall (SpD K Φ__law_put_point) [] E0 (tCons (tVar 0) (tCons (tVar 3) tNil))))
    (tDrop (tCall (SpD K Φ__law_put_tie) [] E0 (tCons (tVar 0) (tCons (tVar 3) tNil))))))
    (tSeq (tFor (iRng1 (tCons (tVar 2) tNil)) (gName 4) (tDrop (tCall (SpD K Φ__law_put_tie) [] E0 (tCons (tVar 0) (tCons (tVar 3) tNil)))))
    (tRet (tVar 3)))))
theorem dv__law_grown {f : Addr} {cdv : Value} {A : Around} {outer : List Env} {s : Shared} {H : Hp} {E : XK} (hr : Room 3 (A.deeper (envOfC "_law_grown" (defScope s__law_grown) s.heap.objs.size f cdv))) (B : ∀ x, x ∈ blt → mg x = none) {Φ__law_put_point : Ph} {Φ__law_put_tie : Ph} (g__law_put_point : Kn Pg w K mg base "_law_put_point" 3 ["_law_deck_here", "_law_rows"] Φ__law_put_point) (g__law_put_tie : Kn Pg w K mg base "_law_put_tie" 3 ["_law_deck_here", "_law_rows"] Φ__law_put_tie) :
    PSs (cxOf CX0 Pg w K mg base ["_law_deck_here", "_law_points", "_law_ties", "_law_rows", "_law_k"] "_law_grown" (defScope s__law_grown) f cdv A outer s H E).nox (defBody s__law_grown) (t__law_grown K Φ__law_put_point Φ__law_put_tie) :=
  (pss_cons (ps_set (i := 3) sc__law_grown.nd rfl (by first | exact .inl rfl | exact .inr rfl) (pe_lst (pa_cons (pe_lst (pa_cons pe_int pa_nil)) (pa_cons (pe_lst (pa_cons pe_int pa_nil)) pa_nil))))
      (pss_cons (ps_while PassesOwn.never (pt_cmpR op_lt (pe_callB call_len_seq (by rfl) (B "len" (by decide)) (by decide +kernel) (pa_cons (pv 3) pa_nil)) (pv 1) (nomark _)) (pss_cons (ps_expr (pe_callD g__law_put_point (hr.mono (by decide)) (by rfl) (pa_cons (pv 0) (pa_cons (pv 3) pa_nil))))
      (pss_one (ps_expr (pe_callD g__law_put_tie (hr.mono (by decide)) (by rfl) (pa_cons (pv 0) (pa_cons (pv 3) pa_nil)))))))
      (pss_cons (ps_for PassesOwn.never rfl (pi_range1 (by rfl) (B "range" (by decide)) (pa_cons (pv 2) pa_nil)) (pg_name (i := 4) sc__law_grown.nd rfl (by first | exact .inl rfl | exact .inr rfl)) (pss_one (ps_expr (pe_callD g__law_put_tie (hr.mono (by decide)) (by rfl) (pa_cons (pv 0) (pa_cons (pv 3) pa_nil))))))
      (pss_one (ps_ret (pv 3))))))
def t__law_two_parts (K : PySem.W.Frag) : TS := (tSeq (tAsg (tCB (rLenQ K) (tCons (tVar 0) tNil)) (gName 2))
    (tRet (tOp rCat (tVar 0) (tLc (iList K (tVar 1)) (gName 3) tYes (tLc (iList K (tVar 3)) (gName 4) tYes (tOp rAddI (tVar 4) (tVar 2)) [4]) [3]))))
theorem dv__law_two_parts {f : Addr} {cdv : Value} {A : Around} {outer : List Env} {s : Shared} {H : Hp} {E : XK} (hr : Room 0 (A.deeper (envOfC "_law_two_parts" (defScope s__law_two_parts) s.heap.objs.size f cdv))) (B : ∀ x, x ∈ blt → mg x = none) :
    PSs (cxOf CX0 Pg w K mg base ["_law_rows", "_law_others", "_law_many", "_law_row", "_law_point"] "_law_two_parts" (defScope s__law_two_parts) f cdv A outer s H E).nox (defBody s__law_two_parts) (t__law_two_parts K) :=
  (pss_cons (ps_set (i := 2) sc__law_two_parts.nd rfl (by first | exact .inl rfl | exact .inr rfl) (pe_callB call_len_seq (by rfl) (B "len" (by decide)) (by decide +kernel) (pa_cons (pv 0) pa_nil)))
      (pss_one (ps_ret (pe_op op_cat (pv 0) (pe_lc (own := [("_law_row", 3)]) (g := (gName 3)) (tt := tYes) rfl sc__law_two_parts.nd (pi_list (pv 1)) (blkOk_by (own := [("_law_row", 3)]) (N := ["_law_rows", "_law_others", "_law_many", "_law_row", "_law_point"]) (sc := defScope s__law_two_parts) (by decide +kernel)) (fun _ _ _ _ _ => (pg_name (i := 3) sc__law_two_parts.nd rfl (by first | exact .inl rfl | exact .inr rfl))) (fun _ _ _ _ _ => pts_nil) (fun _ _ _ _ _ => (pe_lc (own := [("_law_point", 4)]) (g := (gName 4)) (tt := tYes) rfl sc__law_two_parts.nd (pi_list (pv 3)) (blkOk_in (own := [("_law_point", 4)]) (N := ["_law_rows", "_law_others", "_law_many", "_law_row", "_law_point"]) (sc := { kind := .function, names := [(".0", .local), ("_law_row", .local), ("_law_many", .cell)], isGenerator := false, isCoroutine := false }) rfl (by kernel_rfl) (by decide +kernel)) (fun _ _ _ _ _ => (pg_name (i := 4) sc__law_two_parts.nd rfl (by first | exact .inl rfl | exact .inr rfl))) (fun _ _ _ _ _ => pts_nil) (fun _ _ _ _ _ => (pe_op op_add (pv 4) (pv 2))))))))))
def t__law_named (K : PySem.W.Frag) (Φ__law_order : Ph) (Φ__law_weight : Ph) : TS := (tSeq (tAsg (tCall (SpD K Φ__law_order) [] E0 (tCons (tVar 0) (tCons (tCB (rLenQ K) (tCons (tVar 1) tNil)) tNil))) (gName 2))
    (tSeq (tAsg (tOp rRep (tLst (tCons (tTup tNil) tNil)) (tCB (rLenQ K) (tCons (tVar 1) tNil))) (gName 3))
    (tSeq (tAsg (tLst tNil) (gName 4))
    (tSeq (tFor (iRng1 (tCons (tCB (rLenQ K) (tCons (tVar 1) tNil)) tNil)) (gName 5) (tSeq (tAsg (tCB (rTupQ K) (tCons (tLc (iList K (tOp (rIx K) (tVar 1) (tVar 5))) (gName 6) tYes (tOp (rIx K) (tVar 2) (tVar 6)) [6]) tNil)) (gSub (tVar 3) (tOp (rIx K) (tVar 2) (tVar 5)) rSetL))
    (tFor (iList K (tOp (rIx K) (tVar 1) (tVar 5))) (gName 6) (tIfS (tTest (tOp rLtI (tOp (rIx K) (tVar 2) (tVar 5)) (tOp (rIx K) (tVar 2) (tVar 6)))) (tDrop (tBM K "list" rAppend (tVar 4) (tCons (tTup (tCons (tOp (rIx K) (tVar 2) (tVar 5)) (tCons (tOp (rIx K) (tVar 2) (tVar 6)) (tCons (tCall (SpD K Φ__law_weight) [] E0 (tCons (tVar 0) tNil)) tNil)))) tNil))) tNext))))
    (tRet (tTup (tCons (tTup (tCons (tCB (rLenQ K) (tCons (tVar 1) tNil)) (tCons (tCB (rTupQ K) (tCons (tCB (rSortV K) (tCons (tVar 4) tNil)) tNil)) tNil))) (tCons (tCB (rTupQ K) (tCons (tVar 3) tNil)) tNil))))))))
theorem dv__law_named {f : Addr} {cdv : Value} {A : Around} {outer : List Env} {s : Shared} {H : Hp} {E : XK} (hr : Room 3 (A.deeper (envOfC "_law_named" (defScope s__law_named) s.heap.objs.size f cdv))) (B : ∀ x, x ∈ blt → mg x = none) {Φ__law_order : Ph} {Φ__law_weight : Ph} (g__law_order : Kn Pg w K mg base "_law_order" 2 ["_law_deck_here", "_law_many"] Φ__law_order) (g__law_weight : Kn Pg w K mg base "_law_weight" 3 ["_law_deck_here"] Φ__law_weight) :
    PSs (cxOf CX0 Pg w K mg base ["_law_deck_here", "_law_rows", "_law_names", "_law_turns_here", "_law_ties", "_law_a", "_law_b"] "_law_named" (defScope s__law_named) f cdv A outer s H E).nox (defBody s__law_named) (t__law_named K Φ__law_order Φ__law_weight) :=
  (pss_cons (ps_set (i := 2) sc__law_named.nd rfl (by first | exact .inl rfl | exact .inr rfl) (pe_callD g__law_order (hr.mono (by decide)) (by rfl) (pa_cons (pv 0) (pa_cons (pe_callB call_len_seq (by rfl) (B "len" (by decide)) (by decide +kernel) (pa_cons (pv 1) pa_nil)) pa_nil))))
      (pss_cons (ps_set (i := 3) sc__law_named.nd rfl (by first | exact .inl rfl | exact .inr rfl) (pe_op op_rep (pe_lst (pa_cons (pe_tup pa_nil) pa_nil)) (pe_callB call_len_seq (by rfl) (B "len" (by decide)) (by decide +kernel) (pa_cons (pv 1) pa_nil))))
      (pss_cons (ps_set (i := 4) sc__law_named.nd rfl (by first | exact .inl rfl | exact .inr rfl) (pe_lst pa_nil))
      (pss_cons (ps_for PassesOwn.never rfl (pi_range1 (by rfl) (B "range" (by decide)) (pa_cons (pe_callB call_len_seq (by rfl) (B "len" (by decide)) (by decide +kernel) (pa_cons (pv 1) pa_nil)) pa_nil)) (pg_name (i := 5) sc__law_named.nd rfl (by first | exact .inl rfl | exact .inr rfl)) (pss_cons (ps_asg (pe_callTy call_tuple_of (by rfl) (B "tuple" (by decide)) (by decide +kernel) (pa_cons (pe_lc (own := [("_law_b", 6)]) (g := (gName 6)) (tt := tYes) rfl sc__law_named.nd (pi_list (pe_ix ix_seq (pv 1) (pv 5) (fun _ _ => rfl))) (blkOk_by (own := [("_law_b", 6)]) (N := ["_law_deck_here", "_law_rows", "_law_names", "_law_turns_here", "_law_ties", "_law_a", "_law_b"]) (sc := defScope s__law_named) (by decide +kernel)) (fun _ _ _ _ _ => (pg_name (i := 6) sc__law_named.nd rfl (by first | exact .inl rfl | exact .inr rfl))) (fun _ _ _ _ _ => pts_nil) (fun _ _ _ _ _ => (pe_ix ix_seq (pv 2) (pv 6) (fun _ _ => rfl)))) pa_nil)) (pg_sub (pv 3) (pe_ix ix_seq (pv 2) (pv 5) (fun _ _ => rfl)) set_list))
      (pss_one (ps_for PassesOwn.never rfl (pi_list (pe_ix ix_seq (pv 1) (pv 5) (fun _ _ => rfl))) (pg_name (i := 6) sc__law_named.nd rfl (by first | exact .inl rfl | exact .inr rfl)) (pss_one (ps_if (pt_cmpR op_lt (pe_ix ix_seq (pv 2) (pv 5) (fun _ _ => rfl)) (pe_ix ix_seq (pv 2) (pv 6) (fun _ _ => rfl)) (nomark _)) (pss_one (ps_expr (pe_bm PySem.F.plainAttrs_list PySem.F.slot_list_append PySem.F.type_list_append mt_append (pv 4) (pa_cons (pe_tup (pa_cons (pe_ix ix_seq (pv 2) (pv 5) (fun _ _ => rfl)) (pa_cons (pe_ix ix_seq (pv 2) (pv 6) (fun _ _ => rfl)) (pa_cons (pe_callD g__law_weight (hr.mono (by decide)) (by rfl) (pa_cons (pv 0) pa_nil)) pa_nil)))) pa_nil)))) pss_nil))))))
      (pss_one (ps_ret (pe_tup (pa_cons (pe_tup (pa_cons (pe_callB call_len_seq (by rfl) (B "len" (by decide)) (by decide +kernel) (pa_cons (pv 1) pa_nil)) (pa_cons (pe_callTy call_tuple_of (by rfl) (B "tuple" (by decide)) (by decide +kernel) (pa_cons (pe_callB (cr_sortV hr.units) (by rfl) (B "sorted" (by decide)) (by decide +kernel) (pa_cons (pv 4) pa_nil)) pa_nil)) pa_nil))) (pa_cons (pe_callTy call_tuple_of (by rfl) (B "tuple" (by decide)) (by decide +kernel) (pa_cons (pv 3) pa_nil)) pa_nil)))))))))
def t__law_parts (K : PySem.W.Frag) : TS := (tSeq (tAsg (tLstRg (tRg1 (tOp (rIx K) (tVar 0) (tC (.int 0))))) (gName 1))
    (tSeq (tFor (iRng1 (tCons (tOp (rIx K) (tVar 0) (tC (.int 0))) tNil)) (gName 2) (tFor (iTup K (tOp (rIx K) (tVar 0) (tC (.int 1)))) (gTup K 3 (gCons (gName 3) (gCons (gName 4) (gCons (gName 5) gNil)))) (tSeq (tAsg (tCB rMinI (tCons (tOp (rIx K) (tVar 1) (tVar 3)) (tCons (tOp (rIx K) (tVar 1) (tVar 4)) tNil))) (gName 6))
    (tSeq (tAsg (tVar 6) (gSub (tVar 1) (tVar 3) rSetL))
    (tAsg (tVar 6) (gSub (tVar 1) (tVar 4) rSetL))))))
    (tRet (tVar 1))))
theorem dv__law_parts {f : Addr} {cdv : Value} {A : Around} {outer : List Env} {s : Shared} {H : Hp} {E : XK} (hr : Room 0 (A.deeper (envOfC "_law_parts" (defScope s__law_parts) s.heap.objs.size f cdv))) (B : ∀ x, x ∈ blt → mg x = none) :
    PSs (cxOf CX0 Pg w K mg base ["_law_web", "_law_parts_here", "_law_turn", "_law_one", "_law_other", "_law_weight_here", "_law_least"] "_law_parts" (defScope s__law_parts) f cdv A outer s H E).nox (defBody s__law_parts) (t__law_parts K) :=
  (pss_cons (ps_set (i := 1) sc__law_parts.nd rfl (by first | exact .inl rfl | exact .inr rfl) (pe_listRg rfl (by rfl) (B "list" (by decide)) (prg_1 (by rfl) (B "range" (by decide)) (pe_ix ix_seq (pv 0) pe_int (fun _ _ => rfl)))))
      (pss_cons (ps_for PassesOwn.never rfl (pi_range1 (by rfl) (B "range" (by decide)) (pa_cons (pe_ix ix_seq (pv 0) pe_int (fun _ _ => rfl)) pa_nil)) (pg_name (i := 2) sc__law_parts.nd rfl (by first | exact .inl rfl | exact .inr rfl)) (pss_one (ps_for PassesOwn.never rfl (pi_tup (pe_ix ix_seq (pv 0) pe_int (fun _ _ => rfl))) (pg_tup rfl (pgs_cons (pg_name (i := 3) sc__law_parts.nd rfl (by first | exact .inl rfl | exact .inr rfl)) (pgs_cons (pg_name (i := 4) sc__law_parts.nd rfl (by first | exact .inl rfl | exact .inr rfl)) (pgs_cons (pg_name (i := 5) sc__law_parts.nd rfl (by first | exact .inl rfl | exact .inr rfl)) pgs_nil)))) (pss_cons (ps_set (i := 6) sc__law_parts.nd rfl (by first | exact .inl rfl | exact .inr rfl) (pe_callB (call_min2 rfl) (by rfl) (B "min" (by decide)) (by decide +kernel) (pa_cons (pe_ix ix_seq (pv 1) (pv 3) (fun _ _ => rfl)) (pa_cons (pe_ix ix_seq (pv 1) (pv 4) (fun _ _ => rfl)) pa_nil))))
      (pss_cons (ps_asg (pv 6) (pg_sub (pv 1) (pv 3) set_list))
      (pss_one (ps_asg (pv 6) (pg_sub (pv 1) (pv 4) set_list))))))))
      (pss_one (ps_ret (pv 1)))))
def t__law_is_flat (K : PySem.W.Frag) (Φ__law_parts : Ph) (Φ__law_faces : Ph) : TS := (tSeq (tAsg (tCall (SpD K Φ__law_parts) [] E0 (tCons (tVar 0) tNil)) (gName 2))
    (tSeq (tAsg (tCall (SpD K Φ__law_faces) [] E0 (tCons (tVar 0) (tCons (tVar 1) tNil))) (gName 3))
    (tSeq (tFor (iList K (tSortSet K (tLc (iTup K (tOp (rIx K) (tVar 0) (tC (.int 1)))) (gName 7) tYes (tOp (rIx K) (tVar 2) (tOp (rIx K) (tVar 7) (tC (.int 0)))) [7]))) (gName 4) (tSeq (tAsg (tCB (rLenQ K) (tCons (tLc (iList K (tVar 2)) (gName 8) (tTest (tOp (rEqD K) (tVar 8) (tVar 4))) (tVar 8) [8]) tNil)) (gName 5))
    (tSeq (tAsg (tCB (rLenQ K) (tCons (tLc (iTup K (tOp (rIx K) (tVar 0) (tC (.int 1)))) (gName 7) (tTest (tOp (rEqD K) (tOp (rIx K) (tVar 2) (tOp (rIx K) (tVar 7) (tC (.int 0)))) (tVar 4))) (tVar 7) [7]) tNil)) (gName 6))
    (tIfS (tTest (tOp (rNeD K) (tOp rAddI (tOp rSubI (tVar 5) (tVar 6)) (tCB (rLenQ K) (tCons (tLc (iTup K (tVar 3)) (gName 9) (tTest (tOp (rEqD K) (tOp (rIx K) (tVar 2) (tOp (rIx K) (tOp (rIx K) (tVar 9) (tC (.int 0))) (tC (.int 0)))) (tVar 4))) (tVar 9) [9]) tNil))) (tC (.int 2)))) (tRet (tC (.bl false))) tNext))))
    (tRet (tC (.bl true))))))
theorem dv__law_is_flat {f : Addr} {cdv : Value} {A : Around} {outer : List Env} {s : Shared} {H : Hp} {E : XK} (hr : Room 2 (A.deeper (envOfC "_law_is_flat" (defScope s__law_is_flat) s.heap.objs.size f cdv))) (B : ∀ x, x ∈ blt → mg x = none) {Φ__law_parts : Ph} {Φ__law_faces : Ph} (g__law_parts : Kn Pg w K mg base "_law_parts" 1 ["_law_web"] Φ__law_parts) (g__law_faces : Kn Pg w K mg base "_law_faces" 2 ["_law_web", "_law_turns_here"] Φ__law_faces) :
    PSs (cxOf CX0 Pg w K mg base ["_law_web", "_law_turns_here", "_law_parts_here", "_law_faces_here", "_law_part", "_law_points", "_law_ties", "_law_tie", "_law_own", "_law_face"] "_law_is_flat" (defScope s__law_is_flat) f cdv A outer s H E).nox (defBody s__law_is_flat) (t__law_is_flat K Φ__law_parts Φ__law_faces) :=
  (pss_cons (ps_set (i := 2) sc__law_is_flat.nd rfl (by first | exact .inl rfl | exact .inr rfl) (pe_callD g__law_parts (hr.mono (by decide)) (by rfl) (pa_cons (pv 0) pa_nil)))
      (pss_cons (ps_set (i := 3) sc__law_is_flat.nd rfl (by first | exact .inl rfl | exact .inr rfl) (pe_callD g__law_faces (hr.mono (by decide)) (by rfl) (pa_cons (pv 0) (pa_cons (pv 1) pa_nil))))
      (pss_cons (ps_for PassesOwn.never rfl (pi_list (pe_sortSet rfl (by rfl) (B "sorted" (by decide)) (by rfl) (B "set" (by decide)) (pe_lc (own := [("_law_tie", 7)]) (g := (gName 7)) (tt := tYes) rfl sc__law_is_flat.nd (pi_tup (pe_ix ix_seq (pv 0) pe_int (fun _ _ => rfl))) (blkOk_by (own := [("_law_tie", 7)]) (N := ["_law_web", "_law_turns_here", "_law_parts_here", "_law_faces_here", "_law_part", "_law_points", "_law_ties", "_law_tie", "_law_own", "_law_face"]) (sc := defScope s__law_is_flat) (by decide +kernel)) (fun _ _ _ _ _ => (pg_name (i := 7) sc__law_is_flat.nd rfl (by first | exact .inl rfl | exact .inr rfl))) (fun _ _ _ _ _ => pts_nil) (fun _ _ _ _ _ => (pe_ix ix_seq (pv 2) (pe_ix ix_seq (pv 7) pe_int (fun _ _ => rfl)) (fun _ _ => rfl)))))) (pg_name (i := 4) sc__law_is_flat.nd rfl (by first | exact .inl rfl | exact .inr rfl)) (pss_cons (ps_set (i := 5) sc__law_is_flat.nd rfl (by first | exact .inl rfl | exact .inr rfl) (pe_callB call_len_seq (by rfl) (B "len" (by decide)) (by decide +kernel) (pa_cons (pe_lc (own := [("_law_own", 8)]) (g := (gName 8)) (tt := (tTest (tOp (rEqD K) (tVar 8) (tVar 4)))) rfl sc__law_is_flat.nd (pi_list (pv 2)) (blkOk_by (own := [("_law_own", 8)]) (N := ["_law_web", "_law_turns_here", "_law_parts_here", "_law_faces_here", "_law_part", "_law_points", "_law_ties", "_law_tie", "_law_own", "_law_face"]) (sc := defScope s__law_is_flat) (by decide +kernel)) (fun _ _ _ _ _ => (pg_name (i := 8) sc__law_is_flat.nd rfl (by first | exact .inl rfl | exact .inr rfl))) (fun _ _ _ _ _ => (pts_one (pt_cmpR (op_eqD hr.units) (pv 8) (pv 4) (nomark _)))) (fun _ _ _ _ _ => (pv 8))) pa_nil)))
      (pss_cons (ps_set (i := 6) sc__law_is_flat.nd rfl (by first | exact .inl rfl | exact .inr rfl) (pe_callB call_len_seq (by rfl) (B "len" (by decide)) (by decide +kernel) (pa_cons (pe_lc (own := [("_law_tie", 7)]) (g := (gName 7)) (tt := (tTest (tOp (rEqD K) (tOp (rIx K) (tVar 2) (tOp (rIx K) (tVar 7) (tC (.int 0)))) (tVar 4)))) rfl sc__law_is_flat.nd (pi_tup (pe_ix ix_seq (pv 0) pe_int (fun _ _ => rfl))) (blkOk_by (own := [("_law_tie", 7)]) (N := ["_law_web", "_law_turns_here", "_law_parts_here", "_law_faces_here", "_law_part", "_law_points", "_law_ties", "_law_tie", "_law_own", "_law_face"]) (sc := defScope s__law_is_flat) (by decide +kernel)) (fun _ _ _ _ _ => (pg_name (i := 7) sc__law_is_flat.nd rfl (by first | exact .inl rfl | exact .inr rfl))) (fun _ _ _ _ _ => (pts_one (pt_cmpR (op_eqD hr.units) (pe_ix ix_seq (pv 2) (pe_ix ix_seq (pv 7) pe_int (fun _ _ => rfl)) (fun _ _ => rfl)) (pv 4) (nomark _)))) (fun _ _ _ _ _ => (pv 7))) pa_nil)))
      (pss_one (ps_if (pt_cmpR (op_neD hr.units) (pe_op op_add (pe_op op_sub (pv 5) (pv 6)) (pe_callB call_len_seq (by rfl) (B "len" (by decide)) (by decide +kernel) (pa_cons (pe_lc (own := [("_law_face", 9)]) (g := (gName 9)) (tt := (tTest (tOp (rEqD K) (tOp (rIx K) (tVar 2) (tOp (rIx K) (tOp (rIx K) (tVar 9) (tC (.int 0))) (tC (.int 0)))) (tVar 4)))) rfl sc__law_is_flat.nd (pi_tup (pv 3)) (blkOk_by (own := [("_law_face", 9)]) (N := ["_law_web", "_law_turns_here", "_law_parts_here", "_law_faces_here", "_law_part", "_law_points", "_law_ties", "_law_tie", "_law_own", "_law_face"]) (sc := defScope s__law_is_flat) (by decide +kernel)) (fun _ _ _ _ _ => (pg_name (i := 9) sc__law_is_flat.nd rfl (by first | exact .inl rfl | exact .inr rfl))) (fun _ _ _ _ _ => (pts_one (pt_cmpR (op_eqD hr.units) (pe_ix ix_seq (pv 2) (pe_ix ix_seq (pe_ix ix_seq (pv 9) pe_int (fun _ _ => rfl)) pe_int (fun _ _ => rfl)) (fun _ _ => rfl)) (pv 4) (nomark _)))) (fun _ _ _ _ _ => (pv 9))) pa_nil))) pe_int (nomark _)) (pss_one (ps_ret pe_bl)) pss_nil)))))
      (pss_one (ps_ret pe_bl)))))
def t__law_told (K : PySem.W.Frag) (C_CutError C_NoWeb C_NoTurns C_NotFlat C_NoPaper C_TooGreat : Addr) (Φ_flat_web : PhY) : TS := (tSeq (tAsg (tC (.str "other")) (gName 2))
    (tSeq (tTryN2 K [.ref C_NoPaper, .ref C_NoWeb, .ref C_TooGreat] C_NoTurns C_NotFlat 3 2 (fun W => (tCallS (SpY K Φ_flat_web) (WE W) (tCons (tVar 0) (tCons (tVar 1) tNil)))) (fun a => (tAsg (tOp (rIx K) (tLst (tCons (tC (.str "other")) (tCons (tC (.str "turns")) tNil))) (tCB rInt1 (tCons (tAndV (tCB (rIsE K C_NoTurns a) (tCons (tVar 3) (tCons (tC (.ref C_CutError)) tNil))) (tCB (rIsE K C_NoTurns a) (tCons (tVar 3) (tCons (tC (.ty "ValueError")) tNil)))) tNil))) (gName 2))) (fun a => (tAsg (tOp (rIx K) (tLst (tCons (tC (.str "other")) (tCons (tC (.str "flat")) tNil))) (tCB rInt1 (tCons (tAndV (tCB (rIsE K C_NotFlat a) (tCons (tVar 3) (tCons (tC (.ref C_CutError)) tNil))) (tCB (rIsE K C_NotFlat a) (tCons (tVar 3) (tCons (tC (.ty "ValueError")) tNil)))) tNil))) (gName 2))))
    (tRet (tVar 2))))
theorem dv__law_told {f : Addr} {cdv : Value} {A : Around} {outer : List Env} {s : Shared} {H : Hp} {E : XK} (hr : Room 6 (A.deeper (envOfC "_law_told" (defScope s__law_told) s.heap.objs.size f cdv))) (B : ∀ x, x ∈ blt → mg x = none) {C_CutError C_NoWeb C_NoTurns C_NotFlat C_NoPaper C_TooGreat : Addr} (cl : Cls K mg C_CutError C_NoWeb C_NoTurns C_NotFlat C_NoPaper C_TooGreat) {Φ_flat_web : PhY} (g_flat_web : KnY Pg w K mg base "flat_web" 6 ["web", "turns"] Φ_flat_web) :
    PSs (cxOf CX0 Pg w K mg base ["_law_web", "_law_thing", "_law_found", "error"] "_law_told" (defScope s__law_told) f cdv A outer s H E).nox (defBody s__law_told) (t__law_told K C_CutError C_NoWeb C_NoTurns C_NotFlat C_NoPaper C_TooGreat Φ_flat_web) :=
  (pss_cons (ps_set (i := 2) sc__law_told.nd rfl (by first | exact .inl rfl | exact .inr rfl) pe_str)
      (pss_cons (ps_try_hears (tb := fun W => tAsg (tCallS (SpY K Φ_flat_web) (WE W) (tCons (tVar 0) (tCons (tVar 1) tNil))) (gName 2)) rfl rfl (hears_not3 rfl rfl ⟨rfl, by decide, .inl cl.g_NoPaper⟩ ⟨rfl, by decide, .inl cl.g_NoWeb⟩ ⟨rfl, by decide, .inl cl.g_TooGreat⟩ (hears_as (i := 3) (ts := fun a cls d => tSu C_NoTurns cls d (tAsg (tOp (rIx K) (tLst (tCons (tC (.str "other")) (tCons (tC (.str "turns")) tNil))) (tCB rInt1 (tCons (tAndV (tCB (rIsE K C_NoTurns a) (tCons (tVar 3) (tCons (tC (.ref C_CutError)) tNil))) (tCB (rIsE K C_NoTurns a) (tCons (tVar 3) (tCons (tC (.ty "ValueError")) tNil)))) tNil))) (gName 2))) rfl rfl sc__law_told.nd rfl rfl ⟨rfl, by decide, .inl cl.er_NoTurns.g⟩ (fun a oe cls d pn hz hf => pss_su fun e1 e2 => (pss_one (ps_set (i := 2) sc__law_told.nd rfl (by first | exact .inl rfl | exact .inr rfl) (pe_ix ix_seq (pe_lst (pa_cons pe_str (pa_cons pe_str pa_nil))) (pe_callTy call_int1 (by rfl) (B "int" (by decide)) (by decide +kernel) (pa_cons (pe_and (pe_callB (call_isE cl.er_NoTurns.e (show Zc (.ref C_NoTurns) none oe by rw [← e1, ← e2]; exact hz) hf) (by rfl) (B "isinstance" (by decide)) (by decide +kernel) (pa_cons (pv 3) (pa_cons (pe_glob rfl cl.g_CutError rfl) pa_nil))) (pe_one (pe_callB (call_isE cl.er_NoTurns.e (show Zc (.ref C_NoTurns) none oe by rw [← e1, ← e2]; exact hz) hf) (by rfl) (B "isinstance" (by decide)) (by decide +kernel) (pa_cons (pv 3) (pa_cons (pe_bltn (by rfl) (B "ValueError" (by decide)) (by decide +kernel) rfl) pa_nil))))) pa_nil)) (fun _ _ => rfl))))) (hears_as (i := 3) (ts := fun a cls d => tSu C_NotFlat cls d (tAsg (tOp (rIx K) (tLst (tCons (tC (.str "other")) (tCons (tC (.str "flat")) tNil))) (tCB rInt1 (tCons (tAndV (tCB (rIsE K C_NotFlat a) (tCons (tVar 3) (tCons (tC (.ref C_CutError)) tNil))) (tCB (rIsE K C_NotFlat a) (tCons (tVar 3) (tCons (tC (.ty "ValueError")) tNil)))) tNil))) (gName 2))) rfl rfl sc__law_told.nd rfl rfl ⟨rfl, by decide, .inl cl.er_NotFlat.g⟩ (fun a oe cls d pn hz hf => pss_su fun e1 e2 => (pss_one (ps_set (i := 2) sc__law_told.nd rfl (by first | exact .inl rfl | exact .inr rfl) (pe_ix ix_seq (pe_lst (pa_cons pe_str (pa_cons pe_str pa_nil))) (pe_callTy call_int1 (by rfl) (B "int" (by decide)) (by decide +kernel) (pa_cons (pe_and (pe_callB (call_isE cl.er_NotFlat.e (show Zc (.ref C_NotFlat) none oe by rw [← e1, ← e2]; exact hz) hf) (by rfl) (B "isinstance" (by decide)) (by decide +kernel) (pa_cons (pv 3) (pa_cons (pe_glob rfl cl.g_CutError rfl) pa_nil))) (pe_one (pe_callB (call_isE cl.er_NotFlat.e (show Zc (.ref C_NotFlat) none oe by rw [← e1, ← e2]; exact hz) hf) (by rfl) (B "isinstance" (by decide)) (by decide +kernel) (pa_cons (pv 3) (pa_cons (pe_bltn (by rfl) (B "ValueError" (by decide)) (by decide +kernel) rfl) pa_nil))))) pa_nil)) (fun _ _ => rfl))))) hears_none))) (fun W pn xe tk _ => pss_one (ps_set (i := 2) sc__law_told.nd rfl (by first | exact .inl rfl | exact .inr rfl) (pe_callY g_flat_web (hr.mono (by decide)) (by rfl) tk (pa_cons (pv 0) (pa_cons (pv 1) pa_nil))))))
      (pss_one (ps_ret (pv 2)))))
def t__law_changed (K : PySem.W.Frag) (Φ__law_next : Ph) : TS := (tSeq (tAsg (tOp rModN (tCall (SpD K Φ__law_next) [] E0 (tCons (tVar 0) tNil)) (tCB (rLenQ K) (tCons (tVar 1) tNil))) (gName 2))
    (tSeq (tAsg (tOp (rIx K) (tVar 1) (tVar 2)) (gName 3))
    (tSeq (tIfS (tTest (tOp rLtI (tCB (rLenQ K) (tCons (tVar 3) tNil)) (tC (.int 3)))) (tRet (tVar 1)) tNext)
    (tSeq (tAsg (tOp rModN (tCall (SpD K Φ__law_next) [] E0 (tCons (tVar 0) tNil)) (tOp rSubI (tCB (rLenQ K) (tCons (tVar 3) tNil)) (tC (.int 1)))) (gName 4))
    (tSeq (tAsg (tOp (rCatA K) (tOp (rCatA K) (tSl (rSlA K) (tVar 3) tNoPart (tPart (tVar 4))) (tTup (tCons (tOp (rIx K) (tVar 3) (tOp rAddI (tVar 4) (tC (.int 1)))) (tCons (tOp (rIx K) (tVar 3) (tVar 4)) tNil)))) (tSl (rSlA K) (tVar 3) (tPart (tOp rAddI (tVar 4) (tC (.int 2)))) tNoPart)) (gName 5))
    (tRet (tOp (rCatA K) (tOp (rCatA K) (tSl (rSlA K) (tVar 1) tNoPart (tPart (tVar 2))) (tTup (tCons (tVar 5) tNil))) (tSl (rSlA K) (tVar 1) (tPart (tOp rAddI (tVar 2) (tC (.int 1)))) tNoPart))))))))
theorem dv__law_changed {f : Addr} {cdv : Value} {A : Around} {outer : List Env} {s : Shared} {H : Hp} {E : XK} (hr : Room 1 (A.deeper (envOfC "_law_changed" (defScope s__law_changed) s.heap.objs.size f cdv))) (B : ∀ x, x ∈ blt → mg x = none) {Φ__law_next : Ph} (g__law_next : Kn Pg w K mg base "_law_next" 1 ["_law_deck_here"] Φ__law_next) :
    PSs (cxOf CX0 Pg w K mg base ["_law_deck_here", "_law_turns_here", "_law_at", "_law_row", "_law_k", "_law_other"] "_law_changed" (defScope s__law_changed) f cdv A outer s H E).nox (defBody s__law_changed) (t__law_changed K Φ__law_next) :=
  (pss_cons (ps_set (i := 2) sc__law_changed.nd rfl (by first | exact .inl rfl | exact .inr rfl) (pe_op op_modN (pe_callD g__law_next (hr.mono (by decide)) (by rfl) (pa_cons (pv 0) pa_nil)) (pe_callB call_len_seq (by rfl) (B "len" (by decide)) (by decide +kernel) (pa_cons (pv 1) pa_nil))))
      (pss_cons (ps_set (i := 3) sc__law_changed.nd rfl (by first | exact .inl rfl | exact .inr rfl) (pe_ix ix_seq (pv 1) (pv 2) (fun _ _ => rfl)))
      (pss_cons (ps_if (pt_cmpR op_lt (pe_callB call_len_seq (by rfl) (B "len" (by decide)) (by decide +kernel) (pa_cons (pv 3) pa_nil)) pe_int (nomark _)) (pss_one (ps_ret (pv 1))) pss_nil)
      (pss_cons (ps_set (i := 4) sc__law_changed.nd rfl (by first | exact .inl rfl | exact .inr rfl) (pe_op op_modN (pe_callD g__law_next (hr.mono (by decide)) (by rfl) (pa_cons (pv 0) pa_nil)) (pe_op op_sub (pe_callB call_len_seq (by rfl) (B "len" (by decide)) (by decide +kernel) (pa_cons (pv 3) pa_nil)) pe_int)))
      (pss_cons (ps_set (i := 5) sc__law_changed.nd rfl (by first | exact .inl rfl | exact .inr rfl) (pe_op op_catA (pe_op op_catA (pe_slice sl_tupA (pv 3) po_none (po_some (pv 4))) (pe_tup (pa_cons (pe_ix ix_seq (pv 3) (pe_op op_add (pv 4) pe_int) (fun _ _ => rfl)) (pa_cons (pe_ix ix_seq (pv 3) (pv 4) (fun _ _ => rfl)) pa_nil)))) (pe_slice sl_tupA (pv 3) (po_some (pe_op op_add (pv 4) pe_int)) po_none)))
      (pss_one (ps_ret (pe_op op_catA (pe_op op_catA (pe_slice sl_tupA (pv 1) po_none (po_some (pv 2))) (pe_tup (pa_cons (pv 5) pa_nil))) (pe_slice sl_tupA (pv 1) (po_some (pe_op op_add (pv 2) pe_int)) po_none)))))))))
def t__law_webs (K : PySem.W.Frag) (Φ__law_any_web : Ph) (Φ__law_turns : Ph) (Φ__law_grown : Ph) (Φ__law_next : Ph) (Φ__law_two_parts : Ph) (Φ__law_named : Ph) (Φ__law_changed : Ph) : TS := (tSeq (tAsg (tCall (SpD K Φ__law_any_web) [] E0 (tCons (tVar 0) (tCons (tC (.int 6)) tNil))) (gName 1))
    (tSeq (tAsg (tLst (tCons (tTup (tCons (tVar 1) (tCons (tCall (SpD K Φ__law_turns) [] E0 (tCons (tVar 0) (tCons (tVar 1) tNil))) tNil))) (tCons (tTup (tCons (tVar 1) (tCons (tCall (SpD K Φ__law_turns) [] E0 (tCons (tVar 0) (tCons (tVar 1) tNil))) tNil))) tNil))) (gName 2))
    (tSeq (tAsg (tCall (SpD K Φ__law_grown) [] E0 (tCons (tVar 0) (tCons (tOp rAddI (tC (.int 2)) (tOp rModN (tCall (SpD K Φ__law_next) [] E0 (tCons (tVar 0) tNil)) (tC (.int 5)))) (tCons (tOp rModN (tCall (SpD K Φ__law_next) [] E0 (tCons (tVar 0) tNil)) (tC (.int 5))) tNil)))) (gName 3))
    (tSeq (tAsg (tCall (SpD K Φ__law_grown) [] E0 (tCons (tVar 0) (tCons (tOp rAddI (tC (.int 2)) (tOp rModN (tCall (SpD K Φ__law_next) [] E0 (tCons (tVar 0) tNil)) (tC (.int 4)))) (tCons (tOp rModN (tCall (SpD K Φ__law_next) [] E0 (tCons (tVar 0) tNil)) (tC (.int 4))) tNil)))) (gName 4))
    (tSeq (tAsg (tOp rRep (tLst (tCons (tLst tNil) tNil)) (tOp rAddI (tC (.int 1)) (tOp rModN (tCall (SpD K Φ__law_next) [] E0 (tCons (tVar 0) tNil)) (tC (.int 3))))) (gName 5))
    (tSeq (tFor (iList K (tLst (tCons (tVar 3) (tCons (tCall (SpD K Φ__law_two_parts) [] E0 (tCons (tVar 3) (tCons (tVar 4) tNil))) (tCons (tCall (SpD K Φ__law_two_parts) [] E0 (tCons (tVar 3) (tCons (tVar 5) tNil))) (tCons (tVar 5) tNil)))))) (gName 6) (tSeq (tAsg (tCall (SpD K Φ__law_named) [] E0 (tCons (tVar 0) (tCons (tVar 6) tNil))) (gTup K 2 (gCons (gName 1) (gCons (gName 7) gNil))))
    (tAsg (tOp rCat (tVar 2) (tLst (tCons (tTup (tCons (tVar 1) (tCons (tVar 7) tNil))) (tCons (tTup (tCons (tVar 1) (tCons (tCall (SpD K Φ__law_changed) [] E0 (tCons (tVar 0) (tCons (tVar 7) tNil))) tNil))) (tCons (tTup (tCons (tVar 1) (tCons (tCall (SpD K Φ__law_changed) [] E0 (tCons (tVar 0) (tCons (tVar 7) tNil))) tNil))) tNil))))) (gName 2))))
    (tRet (tVar 2))))))))
theorem dv__law_webs {f : Addr} {cdv : Value} {A : Around} {outer : List Env} {s : Shared} {H : Hp} {E : XK} (hr : Room 4 (A.deeper (envOfC "_law_webs" (defScope s__law_webs) s.heap.objs.size f cdv))) (B : ∀ x, x ∈ blt → mg x = none) {Φ__law_any_web : Ph} {Φ__law_turns : Ph} {Φ__law_grown : Ph} {Φ__law_next : Ph} {Φ__law_two_parts : Ph} {Φ__law_named : Ph} {Φ__law_changed : Ph} (g__law_any_web : Kn Pg w K mg base "_law_any_web" 4 ["_law_deck_here", "_law_most"] Φ__law_any_web) (g__law_turns : Kn Pg w K mg base "_law_turns" 3 ["_law_deck_here", "_law_web"] Φ__law_turns) (g__law_grown : Kn Pg w K mg base "_law_grown" 4 ["_law_deck_here", "_law_points", "_law_ties"] Φ__law_grown) (g__law_next : Kn Pg w K mg base "_law_next" 1 ["_law_deck_here"] Φ__law_next) (g__law_two_parts : Kn Pg w K mg base "_law_two_parts" 1 ["_law_rows", "_law_others"] Φ__law_two_parts) (g__law_named : Kn Pg w K mg base "_law_named" 4 ["_law_deck_here", "_law_rows"] Φ__law_named) (g__law_changed : Kn Pg w K mg base "_law_changed" 2 ["_law_deck_here", "_law_turns_here"] Φ__law_changed) :
    PSs (cxOf CX0 Pg w K mg base ["_law_deck_here", "_law_web", "_law_found", "_law_one", "_law_other", "_law_lone", "_law_rows", "_law_turns_here"] "_law_webs" (defScope s__law_webs) f cdv A outer s H E).nox (defBody s__law_webs) (t__law_webs K Φ__law_any_web Φ__law_turns Φ__law_grown Φ__law_next Φ__law_two_parts Φ__law_named Φ__law_changed) :=
  (pss_cons (ps_set (i := 1) sc__law_webs.nd rfl (by first | exact .inl rfl | exact .inr rfl) (pe_callD g__law_any_web (hr.mono (by decide)) (by rfl) (pa_cons (pv 0) (pa_cons pe_int pa_nil))))
      (pss_cons (ps_set (i := 2) sc__law_webs.nd rfl (by first | exact .inl rfl | exact .inr rfl) (pe_lst (pa_cons (pe_tup (pa_cons (pv 1) (pa_cons (pe_callD g__law_turns (hr.mono (by decide)) (by rfl) (pa_cons (pv 0) (pa_cons (pv 1) pa_nil))) pa_nil))) (pa_cons (pe_tup (pa_cons (pv 1) (pa_cons (pe_callD g__law_turns (hr.mono (by decide)) (by rfl) (pa_cons (pv 0) (pa_cons (pv 1) pa_nil))) pa_nil))) pa_nil))))
      (pss_cons (ps_set (i := 3) sc__law_webs.nd rfl (by first | exact .inl rfl | exact .inr rfl) (pe_callD g__law_grown (hr.mono (by decide)) (by rfl) (pa_cons (pv 0) (pa_cons (pe_op op_add pe_int (pe_op op_modN (pe_callD g__law_next (hr.mono (by decide)) (by rfl) (pa_cons (pv 0) pa_nil)) pe_int)) (pa_cons (pe_op op_modN (pe_callD g__law_next (hr.mono (by decide)) (by rfl) (pa_cons (pv 0) pa_nil)) pe_int) pa_nil)))))
      (pss_cons (ps_set (i := 4) sc__law_webs.nd rfl (by first | exact .inl rfl | exact .inr rfl) (pe_callD g__law_grown (hr.mono (by decide)) (by rfl) (pa_cons (pv 0) (pa_cons (pe_op op_add pe_int (pe_op op_modN (pe_callD g__law_next (hr.mono (by decide)) (by rfl) (pa_cons (pv 0) pa_nil)) pe_int)) (pa_cons (pe_op op_modN (pe_callD g__law_next (hr.mono (by decide)) (by rfl) (pa_cons (pv 0) pa_nil)) pe_int) pa_nil)))))
      (pss_cons (ps_set (i := 5) sc__law_webs.nd rfl (by first | exact .inl rfl | exact .inr rfl) (pe_op op_rep (pe_lst (pa_cons (pe_lst pa_nil) pa_nil)) (pe_op op_add pe_int (pe_op op_modN (pe_callD g__law_next (hr.mono (by decide)) (by rfl) (pa_cons (pv 0) pa_nil)) pe_int))))
      (pss_cons (ps_for PassesOwn.never rfl (pi_list (pe_lst (pa_cons (pv 3) (pa_cons (pe_callD g__law_two_parts (hr.mono (by decide)) (by rfl) (pa_cons (pv 3) (pa_cons (pv 4) pa_nil))) (pa_cons (pe_callD g__law_two_parts (hr.mono (by decide)) (by rfl) (pa_cons (pv 3) (pa_cons (pv 5) pa_nil))) (pa_cons (pv 5) pa_nil)))))) (pg_name (i := 6) sc__law_webs.nd rfl (by first | exact .inl rfl | exact .inr rfl)) (pss_cons (ps_asg (pe_callD g__law_named (hr.mono (by decide)) (by rfl) (pa_cons (pv 0) (pa_cons (pv 6) pa_nil))) (pg_tup rfl (pgs_cons (pg_name (i := 1) sc__law_webs.nd rfl (by first | exact .inl rfl | exact .inr rfl)) (pgs_cons (pg_name (i := 7) sc__law_webs.nd rfl (by first | exact .inl rfl | exact .inr rfl)) pgs_nil))))
      (pss_one (ps_set (i := 2) sc__law_webs.nd rfl (by first | exact .inl rfl | exact .inr rfl) (pe_op op_cat (pv 2) (pe_lst (pa_cons (pe_tup (pa_cons (pv 1) (pa_cons (pv 7) pa_nil))) (pa_cons (pe_tup (pa_cons (pv 1) (pa_cons (pe_callD g__law_changed (hr.mono (by decide)) (by rfl) (pa_cons (pv 0) (pa_cons (pv 7) pa_nil))) pa_nil))) (pa_cons (pe_tup (pa_cons (pv 1) (pa_cons (pe_callD g__law_changed (hr.mono (by decide)) (by rfl) (pa_cons (pv 0) (pa_cons (pv 7) pa_nil))) pa_nil))) pa_nil)))))))))
      (pss_one (ps_ret (pv 2)))))))))
def t_law (K : PySem.W.Frag) (Φ__law_deck : Ph) (Φ__law_webs : Ph) (Φ__law_is_flat : Ph) (Φ__law_told : Ph) : TS := (tSeq (tAsg (tCall (SpD K Φ__law_deck) [] E0 (tCons (tVar 0) (tCons (tC (.int 300)) tNil))) (gName 1))
    (tSeq (tFor (iList K (tCall (SpD K Φ__law_webs) [] E0 (tCons (tVar 1) tNil))) (gTup K 2 (gCons (gName 2) (gCons (gName 3) gNil))) (tSeq (tAsg (tC (.str "flat")) (gName 4))
    (tSeq (tIfS (L2.tB (tCall (SpD K Φ__law_is_flat) [] E0 (tCons (tVar 2) (tCons (tVar 3) tNil)))) (tAsg (tTup (tCons (tVar 2) (tCons (tVar 3) tNil))) (gName 4)) tNext)
    (tSeq (tIfS (tOr (tTest (tOp (rNeD K) (tCall (SpD K Φ__law_told) [] E0 (tCons (tVar 2) (tCons (tVar 3) tNil))) (tVar 4))) (tTest (tOp (rNeD K) (tCall (SpD K Φ__law_told) [] E0 (tCons (tVar 2) (tCons (tVar 3) tNil))) (tVar 4)))) (tRet (tC (.bl false))) tNext)
    (tFor (iList K (tLst (tCons (tC .non) (tCons (tCB (rListQ K) (tCons (tVar 3) tNil)) (tCons (tSl (rSlA K) (tVar 3) tNoPart (tPart (tUn rNegI (tC (.int 1))))) (tCons (tOp (rCatA K) (tVar 3) (tTup (tCons (tTup tNil) tNil))) (tCons (tOp (rRepQ K) (tTup (tCons (tC .non) tNil)) (tOp (rIx K) (tVar 2) (tC (.int 0)))) (tCons (tC (.int 7)) (tCons (tOp (rCatA K) (tSl (rSlA K) (tVar 3) tNoPart (tPart (tUn rNegI (tC (.int 1))))) (tTup (tCons (tTup (tCons (tC (.int 0)) (tCons (tC (.int 0)) tNil))) tNil))) tNil))))))))) (gName 5) (tIfS (tTest (tOp (rNeD K) (tCall (SpD K Φ__law_told) [] E0 (tCons (tVar 2) (tCons (tVar 5) tNil))) (tC (.str "turns")))) (tRet (tC (.bl false))) tNext))))))
    (tRet (tC (.bl true)))))
theorem dv_law {f : Addr} {cdv : Value} {A : Around} {outer : List Env} {s : Shared} {H : Hp} {E : XK} (hr : Room 7 (A.deeper (envOfC "law" (defScope s_law) s.heap.objs.size f cdv))) (B : ∀ x, x ∈ blt → mg x = none) {Φ__law_deck : Ph} {Φ__law_webs : Ph} {Φ__law_is_flat : Ph} {Φ__law_told : Ph} (g__law_deck : Kn Pg w K mg base "_law_deck" 2 ["_law_script", "_law_many"] Φ__law_deck) (g__law_webs : Kn Pg w K mg base "_law_webs" 5 ["_law_deck_here"] Φ__law_webs) (g__law_is_flat : Kn Pg w K mg base "_law_is_flat" 3 ["_law_web", "_law_turns_here"] Φ__law_is_flat) (g__law_told : Kn Pg w K mg base "_law_told" 7 ["_law_web", "_law_thing"] Φ__law_told) :
    PSs (cxOf CX0 Pg w K mg base ["_law_script", "_law_deck_here", "_law_web", "_law_turns_here", "_law_due", "_law_thing"] "law" (defScope s_law) f cdv A outer s H E).nox (defBody s_law) (t_law K Φ__law_deck Φ__law_webs Φ__law_is_flat Φ__law_told) :=
  (pss_cons (ps_set (i := 1) sc_law.nd rfl (by first | exact .inl rfl | exact .inr rfl) (pe_callD g__law_deck (hr.mono (by decide)) (by rfl) (pa_cons (pv 0) (pa_cons pe_int pa_nil))))
      (pss_cons (ps_for PassesOwn.never rfl (pi_list (pe_callD g__law_webs (hr.mono (by decide)) (by rfl) (pa_cons (pv 1) pa_nil))) (pg_tup rfl (pgs_cons (pg_name (i := 2) sc_law.nd rfl (by first | exact .inl rfl | exact .inr rfl)) (pgs_cons (pg_name (i := 3) sc_law.nd rfl (by first | exact .inl rfl | exact .inr rfl)) pgs_nil))) (pss_cons (ps_set (i := 4) sc_law.nd rfl (by first | exact .inl rfl | exact .inr rfl) pe_str)
      (pss_cons (ps_if (pt_val (pe_callD g__law_is_flat (hr.mono (by decide)) (by rfl) (pa_cons (pv 2) (pa_cons (pv 3) pa_nil)))) (pss_one (ps_set (i := 4) sc_law.nd rfl (by first | exact .inl rfl | exact .inr rfl) (pe_tup (pa_cons (pv 2) (pa_cons (pv 3) pa_nil))))) pss_nil)
      (pss_cons (ps_if (PW.pt (pw_or (pt_cmpR (op_neD hr.units) (pe_callD g__law_told (hr.mono (by decide)) (by rfl) (pa_cons (pv 2) (pa_cons (pv 3) pa_nil))) (pv 4) (nomark _)) (pw_or1 (pt_cmpR (op_neD hr.units) (pe_callD g__law_told (hr.mono (by decide)) (by rfl) (pa_cons (pv 2) (pa_cons (pv 3) pa_nil))) (pv 4) (nomark _))))) (pss_one (ps_ret pe_bl)) pss_nil)
      (pss_one (ps_for PassesOwn.never rfl (pi_list (pe_lst (pa_cons pe_non (pa_cons (pe_callTy call_list_of (by rfl) (B "list" (by decide)) (by decide +kernel) (pa_cons (pv 3) pa_nil)) (pa_cons (pe_slice sl_tupA (pv 3) po_none (po_some (pe_un un_neg pe_int))) (pa_cons (pe_op op_catA (pv 3) (pe_tup (pa_cons (pe_tup pa_nil) pa_nil))) (pa_cons (pe_op op_repQ (pe_tup (pa_cons pe_non pa_nil)) (pe_ix ix_seq (pv 2) pe_int (fun _ _ => rfl))) (pa_cons pe_int (pa_cons (pe_op op_catA (pe_slice sl_tupA (pv 3) po_none (po_some (pe_un un_neg pe_int))) (pe_tup (pa_cons (pe_tup (pa_cons pe_int (pa_cons pe_int pa_nil))) pa_nil))) pa_nil))))))))) (pg_name (i := 5) sc_law.nd rfl (by first | exact .inl rfl | exact .inr rfl)) (pss_one (ps_if (pt_cmpR (op_neD hr.units) (pe_callD g__law_told (hr.mono (by decide)) (by rfl) (pa_cons (pv 2) (pa_cons (pv 5) pa_nil))) pe_str (nomark _)) (pss_one (ps_ret pe_bl)) pss_nil))))))))
      (pss_one (ps_ret pe_bl))))
end
local macro_rules | `(tactic| walk_at "ev") => `(tactic| first
  | ((with_reducible apply e_var); exact rfl) | ((with_reducible apply e_varm); exact rfl) | ((with_reducible apply e_vars); exact rfl)
  | with_reducible refine e_int ?_ | with_reducible refine e_bl ?_ | with_reducible refine e_non ?_ | with_reducible refine e_str ?_
  | with_reducible refine e_op ?_ | with_reducible refine e_un ?_
  | ((with_reducible refine rr_I0 ?_); refine ⟨_, _, rfl, rfl, ?_⟩) | ((with_reducible refine rr_B0 ?_); refine ⟨_, _, rfl, rfl, ?_⟩)
  | ((with_reducible refine rr_isB ?_); refine ⟨_, _, rfl, rfl, ?_⟩) | ((with_reducible refine rr_notB ?_); refine ⟨_, _, rfl, rfl, ?_⟩)
  | ((with_reducible refine ru_I ?_); refine ⟨_, rfl, ?_⟩)
  | with_reducible refine e_isi instInt ?_ | with_reducible refine e_isi instBool ?_ | with_reducible refine e_isi instTuple ?_ | with_reducible refine e_isiT instList instTuple ?_
  | with_reducible refine e_cb ?_ | with_reducible refine e_call ?_ | with_reducible refine e_callX0 ?_ | with_reducible refine e_chain ?_
  | with_reducible refine ea_cons ?_ | with_reducible refine ea_nil ?_
  | with_reducible refine e_slL ?_ | with_reducible refine eo_some ?_ | with_reducible refine eo_none ?_
  | with_reducible refine e_tup ?_ | with_reducible refine e_lst ?_
  | with_reducible refine e_and ?_ | with_reducible refine e_or ?_ | with_reducible refine e_not ?_ | with_reducible refine e_if ?_
  | with_reducible refine et_test ?_ | with_reducible refine et_B ?_ | with_reducible refine et_and ?_ | with_reducible refine et_or ?_ | with_reducible refine et_not ?_ | with_reducible refine et_yes ?_
  | with_reducible refine s_seq ?_ | with_reducible refine s_asg ?_ | with_reducible refine s_ret ?_ | with_reducible refine s_drop ?_ | with_reducible refine s_if ?_ | with_reducible refine s_next ?_ | with_reducible refine s_par ?_
  | ((with_reducible refine rc_abs ?_); refine ⟨_, rfl, ?_⟩) | ((with_reducible refine rc_max ?_); refine ⟨_, _, rfl, ?_⟩) | ((with_reducible refine rc_min ?_); refine ⟨_, _, rfl, ?_⟩)
  | ((with_reducible refine rr_ix ?_); first | refine ⟨_, _, _, .inr (.d _), rfl, atI_nat (j := 0) rfl, ?_⟩ | refine ⟨_, _, _, .inr (.d _), rfl, atI_nat (j := 1) rfl, ?_⟩ | refine ⟨_, _, _, .inr (.d _), rfl, atI_nat (j := 2) rfl, ?_⟩ | refine ⟨_, _, _, .inl (.d _), rfl, atI_nat (j := 0) rfl, ?_⟩ | refine ⟨_, _, _, .inl (.d _), rfl, atI_nat (j := 1) rfl, ?_⟩ | refine ⟨_, _, _, .inl (.d _), rfl, atI_nat (j := 2) rfl, ?_⟩)
  | ((with_reducible apply Exists.intro); first | refine ⟨(rfl : _ = List.map SD.d []), Nat.le_of_ble_eq_true rfl, ?_⟩ | refine ⟨(rfl : _ = List.map SD.d [_]), Nat.le_of_ble_eq_true rfl, ?_⟩ | refine ⟨(rfl : _ = List.map SD.d [_, _]), Nat.le_of_ble_eq_true rfl, ?_⟩ | refine ⟨(rfl : _ = List.map SD.d [_, _, _]), Nat.le_of_ble_eq_true rfl, ?_⟩ | refine ⟨(rfl : _ = List.map SD.d [_, _, _, _]), Nat.le_of_ble_eq_true rfl, ?_⟩ | refine ⟨Sv.d _, nofun, ?_⟩ | refine ⟨Sv.d _, ?_⟩ | refine ⟨rfl, ?_⟩ | ((with_reducible apply Exists.intro); refine ⟨rfl, ?_⟩)))
local macro_rules | `(tactic| walk_at "evs") => `(tactic| repeat walk_at "ev")

def Φ_is_whole : Ph := ph1 fun a ms R => ∃ x, a = .d x ∧ R (.d (.bool (isWhole x))) ms
theorem len_is_whole : ∀ as ms R, Φ_is_whole as ms R → as.length = 1 := ph1_len
theorem rd_is_whole {K : PySem.W.Frag} : ∀ as ms R, Φ_is_whole as ms R → S K (t_is_whole K) (as ++ List.replicate (1 - as.length) .u) ms (fin R) := by
  rintro as ms R ⟨a, rfl, x, rfl, r⟩
  rw [← whole_and] at r
  unfold t_is_whole
  walk_at "evs"
  refine ⟨fun h => ?_, fun h => ?_⟩
  · walk_at "evs"
    rw [h, Bool.true_and] at r
    exact r
  · rw [h, Bool.false_and] at r
    exact r

def numB (m : Int) : PyData → Bool
  | .int i => decide (0 ≤ i) && decide (i < m)
  | _ => false
def Φ_is_number_of : Ph := ph2 fun a b ms R => ∃ m x, a = .d (.int m) ∧ b = .d x ∧ R (.d (.bool (numB m x))) ms
theorem len_is_number_of : ∀ as ms R, Φ_is_number_of as ms R → as.length = 2 := ph2_len
theorem rd_is_number_of {K : PySem.W.Frag} : ∀ as ms R, Φ_is_number_of as ms R → S K (t_is_number_of K Φ_is_whole) (as ++ List.replicate (2 - as.length) .u) ms (fin R) := by
  rintro as ms R ⟨a, b, rfl, m, x, rfl, rfl, r⟩
  unfold t_is_number_of
  walk_at "evs"
  refine ⟨_, rfl, x, rfl, _, rfl, fun h => ?_, fun h => ?_⟩
  · obtain ⟨i, rfl⟩ := whole_inv h
    walk_at "evs"
    refine ⟨fun h2 => ?_, fun h2 => ?_⟩
    · walk_at "evs"
      rintro b' rfl
      walk_at "evs"
      have e : numB m (.int i) = decide (i < m) := by show (decide (0 ≤ i) && decide (i < m)) = _; rw [h2, Bool.true_and]
      rw [e] at r
      exact r
    · have e : numB m (.int i) = false := by show (decide (0 ≤ i) && decide (i < m)) = _; rw [h2, Bool.false_and]
      rw [e] at r
      exact r
  · have e : numB m x = false := by
      cases x with
      | int i => cases h
      | _ => rfl
    rw [e] at r
    exact r

/-- a join: two points, 0 or 1 -/
abbrev Jn := Nat × Nat × Nat
abbrev encJ (j : Jn) : PyData := .tuple [.int j.1, .int j.2.1, .int j.2.2]
structure JOk (m : Nat) (js : List Jn) : Prop where
  m60 : m ≤ 60
  len : js.length ≤ 200
  all : ∀ j ∈ js, j.1 < m ∧ j.2.1 < m ∧ j.1 ≠ j.2.1 ∧ j.2.2 < 2
/-- what stands at the point p of one join, numbered k -/
def atP (p k : Nat) (j : Jn) : List Jn := if j.1 = p then [(k, j.2.1, j.2.2)] else if j.2.1 = p then [(k, j.1, j.2.2)] else []
def nbr (js : List Jn) (p : Nat) : List Jn := (List.range js.length).flatMap fun k => match js[k]? with | some j => atP p k j | none => []
def nearJ (js : List Jn) (m : Nat) : List (List PyData) := (List.range m).map fun p => (nbr js p).map encJ
def Φ_joins_at : Ph := ph2 fun a b ms R => ∃ (m : Nat) (js : List Jn), a = .d (.int m) ∧ b = .d (.list (js.map encJ)) ∧ JOk m js ∧ R (.d (.list ((nearJ js m).map .list))) ms
theorem len_joins_at : ∀ as ms R, Φ_joins_at as ms R → as.length = 2 := ph2_len
theorem nearJ_get (js : List Jn) {m p : Nat} (h : p < m) : (nearJ js m)[p]? = some ((nbr js p).map encJ) := by
  unfold nearJ
  rw [List.getElem?_map, List.getElem?_range h]
  rfl
theorem nbr_snoc (js : List Jn) (j : Jn) (p : Nat) : nbr (js ++ [j]) p = nbr js p ++ atP p js.length j := by
  unfold nbr
  rw [List.length_append, List.length_singleton, List.range_succ, List.flatMap_append]
  congr 1
  · rw [List.flatMap_def, List.flatMap_def]
    congr 1
    refine List.map_congr_left fun k hk => ?_
    rw [List.getElem?_append_left (List.mem_range.mp hk)]
  · simp
theorem nbr_mem {js : List Jn} {p k o c : Nat} (h : (k, o, c) ∈ nbr js p) : ∃ j, js[k]? = some j ∧ j.2.2 = c ∧ ((j.1 = p ∧ j.2.1 = o) ∨ (j.2.1 = p ∧ j.1 = o)) := by
  unfold nbr at h
  obtain ⟨i, _, hi⟩ := List.mem_flatMap.mp h
  cases q : js[i]? with
  | none => rw [q] at hi; cases hi
  | some j =>
    rw [q] at hi
    have hi : (k, o, c) ∈ atP p i j := hi
    unfold atP at hi
    split at hi
    · rename_i h1
      simp at hi
      obtain ⟨rfl, rfl, rfl⟩ := hi
      exact ⟨j, q, rfl, .inl ⟨h1, rfl⟩⟩
    · split at hi
      · rename_i h1
        simp at hi
        obtain ⟨rfl, rfl, rfl⟩ := hi
        exact ⟨j, q, rfl, .inr ⟨h1, rfl⟩⟩
      · cases hi
theorem nbr_of {js : List Jn} {k : Nat} {j : Jn} (h : js[k]? = some j) (hne : j.1 ≠ j.2.1) : (k, j.2.1, j.2.2) ∈ nbr js j.1 ∧ (k, j.1, j.2.2) ∈ nbr js j.2.1 := by
  have hk := (List.getElem?_eq_some_iff.mp h).1
  unfold nbr
  refine ⟨List.mem_flatMap.mpr ⟨k, List.mem_range.mpr hk, ?_⟩, List.mem_flatMap.mpr ⟨k, List.mem_range.mpr hk, ?_⟩⟩
  · rw [h]
    simp [atP]
  · rw [h]
    simp [atP, hne]
theorem nbr_len (js : List Jn) (p : Nat) : (nbr js p).length ≤ js.length := by
  unfold nbr
  rw [List.flatMap_def, List.length_flatten]
  have : ∀ n, ((List.map List.length (List.map (fun k => match js[k]? with | some j => atP p k j | none => []) (List.range n)))).sum ≤ n := by
    intro n
    induction n with
    | zero => simp
    | succ n ih =>
      rw [List.range_succ, List.map_append, List.map_append, List.sum_append]
      have : (match js[n]? with | some j => atP p n j | none => []).length ≤ 1 := by
        split
        · unfold atP
          split
          · simp
          · split <;> simp
        · simp
      simp only [List.map_cons, List.map_nil, List.sum_cons, List.sum_nil]
      omega
  exact this js.length
theorem nearJ_snoc (js : List Jn) (j : Jn) {m : Nat} (h1 : j.1 < m) (h2 : j.2.1 < m) (hne : j.1 ≠ j.2.1) :
    nearJ (js ++ [j]) m = ((nearJ js m).set j.1 ((nbr js j.1).map encJ ++ [encJ (js.length, j.2.1, j.2.2)])).set j.2.1 ((nbr js j.2.1).map encJ ++ [encJ (js.length, j.1, j.2.2)]) := by
  apply List.ext_getElem?
  intro p
  have hl : (nearJ js m).length = m := by simp [nearJ]
  by_cases hp : p < m
  · rw [nearJ_get _ hp, nbr_snoc]
    by_cases e2 : p = j.2.1
    · subst e2
      rw [List.getElem?_set_self (by rw [List.length_set, hl]; exact h2)]
      unfold atP
      rw [if_neg hne, if_pos rfl, List.map_append]
      rfl
    · rw [List.getElem?_set_ne (Ne.symm e2)]
      by_cases e1 : p = j.1
      · subst e1
        rw [List.getElem?_set_self (by omega)]
        unfold atP
        rw [if_pos rfl, List.map_append]
        rfl
      · rw [List.getElem?_set_ne (Ne.symm e1), nearJ_get _ hp]
        unfold atP
        rw [if_neg (Ne.symm e1), if_neg (Ne.symm e2), List.append_nil]
  · rw [List.getElem?_eq_none (by simp [nearJ]; omega), List.getElem?_eq_none (by simp [nearJ]; omega)]
theorem rowsJ_set (n : Nat) (ms : List MD) (ess : List (List PyData)) (hn : ms.length = n) {p : Nat} (hp : p < ess.length) (x : List PyData) : (ms ++ rowsM n ess).set (n + p) (.l x) = ms ++ rowsM n (ess.set p x) := by
  subst hn
  rw [List.set_append_right _ _ (by omega)]
  unfold rowsM
  have : ms.length + p - ms.length = p := by omega
  rw [this, List.set_append_left _ _ (by simp; exact hp), List.map_set, List.length_set]
theorem rd_joins_at {K : PySem.W.Frag} : ∀ as ms R, Φ_joins_at as ms R → S K (t_joins_at K) (as ++ List.replicate (8 - as.length) .u) ms (fin R) := by
  rintro as ms R ⟨a, b, rfl, m, js, rfl, rfl, hw, r⟩
  have hl := hw.len
  have hm60 := hw.m60
  unfold t_joins_at
  refine s_newLL ?_
  walk_at "evs"
  refine ⟨by omega, ?_⟩
  refine s_seq (s_forEL (js := [4, 5, 6, 7]) ?_)
  refine ea_cons (e_var rfl (ea_nil ⟨_, _, rfl, .d _, ?_⟩))
  have h0 : List.replicate m ([] : List PyData) = nearJ [] m := by
    apply List.ext_getElem?
    intro p
    by_cases hp : p < m
    · rw [nearJ_get _ hp, List.getElem?_replicate, if_pos hp]
      rfl
    · rw [List.getElem?_eq_none (by simp; omega), List.getElem?_eq_none (by simp [nearJ]; omega)]
  have nl : ∀ us, (nearJ us m).length = m := fun us => by simp [nearJ]
  refine ⟨fun k ds' ms' => ∃ o2 o3 o4 o5 o6 : SD, ds' = [.d (.int m), .d (.list (js.map encJ)), .m (ms.length + m), o2, o3, o4, o5, o6] ∧ ms' = ms ++ rowsM ms.length (nearJ (js.take k) m), ⟨.u, .u, .u, .u, .u, rfl, by rw [h0]; rfl⟩, ?_, ?_⟩
  · rintro k e ds' ms' he ⟨o2, o3, o4, o5, o6, rfl, rfl⟩
    rw [List.getElem?_map] at he
    cases q : js[k]? with
    | none => rw [q] at he; cases he
    | some j =>
      rw [q] at he
      have e1 := (Option.some.inj he).symm
      subst e1
      obtain ⟨t1, t2, tn, t3⟩ := hw.all j (List.mem_of_getElem? q)
      have hk := (List.getElem?_eq_some_iff.mp q).1
      have kl : (js.take k).length = k := by rw [List.length_take]; omega
      refine eg_tup rfl (egs_cons (eg_name (egs_cons (eg_tup rfl (egs_cons (eg_name (egs_cons (eg_name (egs_cons (eg_name (egs_nil (egs_nil ?_))))))))))))
      have top : ∀ ess : List (List PyData), ess.length = m → (ms ++ rowsM ms.length ess)[ms.length + m]? = some (.r (List.range' ms.length m)) := fun ess e => by
        have := rows_top ms.length ms ess
        rw [e] at this
        exact this
      have rg : ∀ p, p < m → (List.range' ms.length m)[p]? = some (ms.length + p) := fun p hp => by
        rw [List.getElem?_range' hp]
        simp
      have c1 := nbr_len (js.take k) j.1
      have c2 := nbr_len (js.take k) j.2.1
      have g1 := nearJ_get (js.take k) t1
      have g2 := nearJ_get (js.take k) t2
      refine s_seq (s_drop (e_append (e_op (e_varm rfl (e_var rfl (rr_ixR ⟨ms.length + m, j.1, ms.length + j.1, _, rfl, rfl, top _ (nl _), rg _ t1, ⟨_, rows_at _ _ _ g1⟩, _, rfl, ?_⟩))))))
      refine e_tup (ea_cons (e_var rfl (ea_cons (e_var rfl (ea_cons (e_var rfl (ea_nil ⟨_, (rfl : _ = List.map SD.d [_, _, _]), Nat.le_of_ble_eq_true rfl, ?_⟩)))))))
      refine ⟨_, _, rfl, rows_at _ _ _ g1, by rw [List.length_map]; omega, ?_⟩
      rw [rowsJ_set _ _ _ rfl (by rw [nl]; exact t1)]
      have g3 : ((nearJ (js.take k) m).set j.1 ((nbr (js.take k) j.1).map encJ ++ [PyData.tuple [.int k, .int j.2.1, .int j.2.2]]))[j.2.1]? = some ((nbr (js.take k) j.2.1).map encJ) := by
        rw [List.getElem?_set_ne tn]
        exact g2
      have l3 : ((nearJ (js.take k) m).set j.1 ((nbr (js.take k) j.1).map encJ ++ [PyData.tuple [.int k, .int j.2.1, .int j.2.2]])).length = m := by rw [List.length_set, nl]
      refine s_drop (e_append (e_op (e_varm rfl (e_var rfl (rr_ixR ⟨ms.length + m, j.2.1, ms.length + j.2.1, _, rfl, rfl, top _ l3, rg _ t2, ⟨_, rows_at _ _ _ g3⟩, _, rfl, ?_⟩)))))
      refine e_tup (ea_cons (e_var rfl (ea_cons (e_var rfl (ea_cons (e_var rfl (ea_nil ⟨_, (rfl : _ = List.map SD.d [_, _, _]), Nat.le_of_ble_eq_true rfl, ?_⟩)))))))
      refine ⟨_, _, rfl, rows_at _ _ _ g3, by rw [List.length_map]; omega, ?_⟩
      rw [rowsJ_set _ _ _ rfl (by rw [l3]; exact t2)]
      refine ⟨_, _, _, _, _, rfl, ?_⟩
      rw [take_snoc q, nearJ_snoc _ _ t1 t2 tn, kl]
  · rintro ds' ms' ⟨o2, o3, o4, o5, o6, rfl, rfl⟩
    walk_at "evs"
    have e : js.take (js.map encJ).length = js := by
      rw [List.take_of_length_le]
      simp
    rw [e]
    refine ⟨ms, _, rfl, rfl, nl _, ?_⟩
    show R (if ms.length + m < ms.length then _ else if ms.length + m = ms.length + (nearJ js m).length then _ else _) ms
    rw [if_neg (by omega), if_pos (by rw [nl])]
    exact r

/-- what the dict has for a point: its mark, the way to it -/
abbrev Ent := Nat × Nat × List Nat
def encE (e : Ent) : Key × PyData := (.inl (e.1 : Int), .tuple [.int e.2.1, .tuple (e.2.2.map fun (k : Nat) => .int k)])
def eF (js : List Jn) (x k : Nat) : Nat := match js[k]? with | some j => (if x = j.1 then 1 else 0) + (if x = j.2.1 then 1 else 0) | none => 0
def aF (js : List Jn) (k : Nat) : Nat := match js[k]? with | some j => j.2.2 | none => 0
def endN (js : List Jn) (w : List Nat) (x : Nat) : Nat := (w.map (eF js x)).sum
def apN (js : List Jn) (w : List Nat) : Nat := (w.map (aF js)).sum
/-- a join whose points have marks that fit -/
def Fits (js : List Jn) (es : List Ent) (k : Nat) : Prop := ∃ j c1 w1 c2 w2, js[k]? = some j ∧ (j.1, c1, w1) ∈ es ∧ (j.2.1, c2, w2) ∈ es ∧ (c1 + c2) % 2 = j.2.2
structure EOk (js : List Jn) (f : Nat) (es : List Ent) (e : Ent) : Prop where
  bit : e.2.1 < 2
  ap : apN js e.2.2 % 2 = e.2.1
  ends : ∀ x, endN js e.2.2 x % 2 = ((if x = f then 1 else 0) + (if x = e.1 then 1 else 0)) % 2
  nd : e.2.2.Nodup
  fit : ∀ k ∈ e.2.2, Fits js es k
  side : ∀ s : Nat → Nat, (∀ (k : Nat) (j : Jn), js[k]? = some j → (s j.1 + s j.2.1) % 2 = j.2.2) → (s f + s e.1) % 2 = e.2.1
  reach : ∀ C : Nat → Prop, (∀ p k o a, (k, o, a) ∈ nbr js p → C p → C o) → C f → C e.1
structure GOk (m : Nat) (js : List Jn) (f : Nat) (es : List Ent) : Prop where
  keys : (es.map (·.1)).Nodup
  lt : ∀ e ∈ es, e.1 < m
  fst : (f, 0, []) ∈ es
  all : ∀ e ∈ es, EOk js f es e
def Closed (js : List Jn) (es : List Ent) (p : Nat) : Prop := ∀ k o c, (k, o, c) ∈ nbr js p → ∃ e ∈ es, e.1 = o
def Φ_group_from : Ph := ph2 fun a b ms R => ∃ (m : Nat) (js : List Jn) (f : Nat), a = .d (.list ((nearJ js m).map .list)) ∧ b = .d (.int f) ∧ JOk m js ∧ f < m ∧
  ∀ es : List Ent, GOk m js f es → (∀ e ∈ es, Closed js es e.1) → R (.g (kD (es.map encE))) ms
theorem len_group_from : ∀ as ms R, Φ_group_from as ms R → as.length = 2 := ph2_len
theorem valE_none {es : List Ent} {p : Nat} (h : ∀ e ∈ es, e.1 ≠ p) : valD (es.map encE) (.inl (p : Int)) = none := by
  induction es with
  | nil => rfl
  | cons e r ih =>
    have h1 : ¬ ((encE e).1 = (.inl (p : Int) : Key)) := fun z => by
      have z' : (Sum.inl (e.1 : Int) : Key) = .inl (p : Int) := z
      injection z' with z'
      exact h e (by simp) (by omega)
    have := ih fun e he => h e (List.mem_cons_of_mem _ he)
    simp only [valD, List.map_cons, List.find?_cons, h1, decide_false] at this ⊢
    exact this
theorem valE_some {es : List Ent} {e : Ent} (h : e ∈ es) (nd : (es.map (·.1)).Nodup) : valD (es.map encE) (.inl (e.1 : Int)) = some (.tuple [.int e.2.1, .tuple (e.2.2.map fun (k : Nat) => .int k)]) := by
  induction es with
  | nil => cases h
  | cons a r ih =>
    rw [List.map_cons, List.nodup_cons] at nd
    by_cases z : a.1 = e.1
    · have : a = e := by
        rcases List.mem_cons.mp h with y | y
        · exact y.symm
        · exact absurd (List.mem_map.mpr ⟨e, y, z.symm⟩) nd.1
      subst this
      simp [valD, encE]
    · have h1 : ¬ ((encE a).1 = (.inl (e.1 : Int) : Key)) := fun y => by
        have y' : (Sum.inl (a.1 : Int) : Key) = .inl (e.1 : Int) := y
        injection y' with y'
        exact z (by omega)
      have h2 : e ∈ r := by
        rcases List.mem_cons.mp h with y | y
        · exact absurd (by rw [y]) z
        · exact y
      have := ih h2 nd.2
      simp only [valD, List.map_cons, List.find?_cons, h1, decide_false] at this ⊢
      exact this
theorem putE {es : List Ent} {p : Nat} (h : ∀ e ∈ es, e.1 ≠ p) (d : PyData) : putD (es.map encE) (.inl (p : Int)) d = es.map encE ++ [(.inl (p : Int), d)] := by
  unfold putD
  rw [if_neg]
  intro z
  obtain ⟨kv, hm, hk⟩ := List.any_eq_true.mp z
  obtain ⟨e, he, rfl⟩ := List.mem_map.mp hm
  have z' : (Sum.inl (e.1 : Int) : Key) = .inl (p : Int) := of_decide_eq_true hk
  injection z' with z'
  exact h e he (by omega)
theorem nd_len : ∀ (m : Nat) (l : List Nat), l.Nodup → (∀ x ∈ l, x < m) → l.length ≤ m
  | 0, l, _, h => by
    cases l with
    | nil => simp
    | cons a r => exact absurd (h a (by simp)) (by omega)
  | m + 1, l, nd, h => by
    have := nd_len m (l.erase m) (nd.erase m) (fun x hx => by
      have h1 := h x (List.mem_of_mem_erase hx)
      have h2 : x ≠ m := fun z => by subst z; exact absurd hx (by simp [nd.mem_erase_iff])
      omega)
    by_cases hm : m ∈ l
    · rw [List.length_erase_of_mem hm] at this
      omega
    · rw [List.erase_of_not_mem hm] at this
      omega
theorem xor2 {a b : Nat} (ha : a < 2) (hb : b < 2) : Builtin.bitXor (a : Int) (b : Int) = (((a + b) % 2 : Nat) : Int) := by
  have h1 : a = 0 ∨ a = 1 := by omega
  have h2 : b = 0 ∨ b = 1 := by omega
  rcases h1 with rfl | rfl <;> rcases h2 with rfl | rfl <;> decide
theorem Fits.mono {js : List Jn} {es es' : List Ent} {k : Nat} (h : ∀ e ∈ es, e ∈ es') (f : Fits js es k) : Fits js es' k := by
  obtain ⟨j, c1, w1, c2, w2, h1, h2, h3, h4⟩ := f
  exact ⟨j, c1, w1, c2, w2, h1, h _ h2, h _ h3, h4⟩
theorem EOk.mono {js : List Jn} {f : Nat} {es es' : List Ent} {e : Ent} (h : ∀ e ∈ es, e ∈ es') (k : EOk js f es e) : EOk js f es' e := ⟨k.bit, k.ap, k.ends, k.nd, fun i hi => (k.fit i hi).mono h, k.side, k.reach⟩
/-- one point more, over a join from a point that is there -/
theorem GOk.more {m : Nat} {js : List Jn} {f : Nat} {es : List Ent} (g : GOk m js f es) (hw : JOk m js) {p c : Nat} {w : List Nat} {k o a : Nat} (hp : (p, c, w) ∈ es) (hn : (k, o, a) ∈ nbr js p) (ho : ∀ e ∈ es, e.1 ≠ o) : GOk m js f (es ++ [(o, (c + a) % 2, w ++ [k])]) := by
  obtain ⟨j, hj, ha, hends⟩ := nbr_mem hn
  obtain ⟨t1, t2, tn, t3⟩ := hw.all j (List.mem_of_getElem? hj)
  have ep := g.all _ hp
  have sub : ∀ e ∈ es, e ∈ es ++ [(o, (c + a) % 2, w ++ [k])] := fun e he => List.mem_append_left _ he
  refine ⟨?_, fun e he => ?_, sub _ g.fst, fun e he => ?_⟩
  · rw [List.map_append]
    refine List.nodup_append.mpr ⟨g.keys, by simp, fun x hx y hy z => ?_⟩
    obtain ⟨e, he, rfl⟩ := List.mem_map.mp hx
    simp at hy
    exact ho e he (z.trans hy)
  · rcases List.mem_append.mp he with z | z
    · exact g.lt e z
    · have : e = (o, (c + a) % 2, w ++ [k]) := by simpa using z
      subst this
      rcases hends with ⟨_, h2⟩ | ⟨_, h2⟩ <;> (show o < m; omega)
  · rcases List.mem_append.mp he with z | z
    · exact (g.all e z).mono sub
    · have : e = (o, (c + a) % 2, w ++ [k]) := by simpa using z
      subst this
      have hop : o ≠ p := fun z => ho _ hp z.symm
      refine ⟨Nat.mod_lt _ (by decide), ?_, fun x => ?_, ?_, fun i hi => ?_, fun s hs => ?_, fun C hC h0 => hC p k o a hn (ep.reach C hC h0)⟩
      · show apN js (w ++ [k]) % 2 = (c + a) % 2
        have e1 : apN js (w ++ [k]) = apN js w + a := by simp [apN, aF, hj, ha]
        have e2 : apN js w % 2 = c := ep.ap
        rw [e1]
        omega
      · show endN js (w ++ [k]) x % 2 = ((if x = f then 1 else 0) + (if x = o then 1 else 0)) % 2
        have e1 : endN js (w ++ [k]) x = endN js w x + ((if x = j.1 then 1 else 0) + (if x = j.2.1 then 1 else 0)) := by simp [endN, eF, hj]
        have e2 : endN js w x % 2 = ((if x = f then 1 else 0) + (if x = p then 1 else 0)) % 2 := ep.ends x
        rw [e1]
        rcases hends with ⟨h1, h2⟩ | ⟨h1, h2⟩
        · rw [h1, h2]
          by_cases x1 : x = p
          · subst x1
            simp only [if_true, if_neg hop, if_neg (Ne.symm hop)] at e2 ⊢
            omega
          · simp only [if_neg x1, if_neg (Ne.symm x1)] at e2 ⊢
            by_cases x2 : x = o
            · subst x2; simp only [if_true] at e2 ⊢; omega
            · simp only [if_neg x2, if_neg (Ne.symm x2)] at e2 ⊢; omega
        · rw [h1, h2]
          by_cases x1 : x = p
          · subst x1
            simp only [if_true, if_neg hop, if_neg (Ne.symm hop)] at e2 ⊢
            omega
          · simp only [if_neg x1, if_neg (Ne.symm x1)] at e2 ⊢
            by_cases x2 : x = o
            · subst x2; simp only [if_true] at e2 ⊢; omega
            · simp only [if_neg x2, if_neg (Ne.symm x2)] at e2 ⊢; omega
      · show (w ++ [k]).Nodup
        refine List.nodup_append.mpr ⟨ep.nd, by simp, fun x hx y hy z => ?_⟩
        have hk : x = k := by simp at hy; exact z.trans hy
        subst hk
        obtain ⟨j2, c1, w1, c2, w2, f1, f2, f3, _⟩ := ep.fit x hx
        rw [hj] at f1
        cases f1
        rcases hends with ⟨_, h2⟩ | ⟨_, h2⟩
        · exact ho _ f3 h2
        · exact ho _ f2 h2
      · have hi : i ∈ w ++ [k] := hi
        rcases List.mem_append.mp hi with z | z
        · exact (ep.fit i z).mono sub
        · have : i = k := by simpa using z
          subst this
          have hb := ep.bit
          have hb : c < 2 := hb
          have new : (o, (c + a) % 2, w ++ [i]) ∈ es ++ [(o, (c + a) % 2, w ++ [i])] := List.mem_append_right _ (by simp)
          rcases hends with ⟨h1, h2⟩ | ⟨h1, h2⟩
          · exact ⟨j, c, w, (c + a) % 2, w ++ [i], hj, by rw [h1]; exact sub _ hp, by rw [h2]; exact new, by omega⟩
          · exact ⟨j, (c + a) % 2, w ++ [i], c, w, hj, by rw [h2]; exact new, by rw [h1]; exact sub _ hp, by omega⟩
      · show (s f + s o) % 2 = (c + a) % 2
        have e1 : (s f + s p) % 2 = c := ep.side s hs
        have e2 := hs k j hj
        rcases hends with ⟨h1, h2⟩ | ⟨h1, h2⟩
        · rw [h1, h2] at e2; omega
        · rw [h1, h2] at e2; omega
theorem rd_group_from {K : PySem.W.Frag} : ∀ as ms R, Φ_group_from as ms R → S K (t_group_from K) (as ++ List.replicate (10 - as.length) .u) ms (fin R) := by
  rintro as ms R ⟨a, b, rfl, m, js, f, rfl, rfl, hw, hf, r⟩
  have hm60 := hw.m60
  unfold t_group_from
  refine s_newD (e_disp1 (e_var rfl ⟨.inl (f : Int), rfl, ?_⟩))
  refine e_tup (ea_cons (e_int (ea_cons (e_tup (ea_nil ⟨[], rfl, Nat.zero_le _, ?_⟩)))))
  refine ea_nil ⟨[_, _], rfl, Nat.le_of_ble_eq_true rfl, ?_⟩
  refine ⟨_, rfl, _, rfl, ?_⟩
  refine s_new (e_lst (ea_cons (e_var rfl (ea_nil ⟨[_], rfl, Nat.le_of_ble_eq_true rfl, _, rfl, ?_⟩))))
  have hn : (ms ++ [MD.k [(keyD (.inl (f : Int)), PyData.tuple [.int 0, .tuple []])]]).length = ms.length + 1 := by simp
  rw [hn]
  have g0 : GOk m js f [(f, 0, [])] := ⟨by simp, by simpa using hf, by simp, fun e he => by
    have : e = (f, 0, []) := by simpa using he
    subst this
    refine ⟨Nat.zero_lt_succ _, rfl, fun x => ?_, List.nodup_nil, (fun k hk => by cases hk), fun s hs => ?_, fun C _ h0 => h0⟩
    · show 0 % 2 = ((if x = f then 1 else 0) + (if x = f then 1 else 0)) % 2
      split <;> rfl
    · show (s f + s f) % 2 = 0
      omega⟩
  have idx2 : ∀ (x y : MD), (ms ++ [x] ++ [y])[ms.length]? = some x := fun x y => by simp
  have idx3 : ∀ (x y : MD), (ms ++ [x] ++ [y])[ms.length + 1]? = some y := fun x y => by
    rw [List.getElem?_append_right (by simp)]
    simp
  have set2 : ∀ (x y z : MD), (ms ++ [x] ++ [y]).set ms.length z = ms ++ [z] ++ [y] := fun x y z => by
    rw [List.append_assoc, List.set_append_right _ _ (Nat.le_refl _), Nat.sub_self]
    simp
  have set3 : ∀ (x y z : MD), (ms ++ [x] ++ [y]).set (ms.length + 1) z = ms ++ [x] ++ [z] := fun x y z => by
    rw [List.set_append_right _ _ (by simp)]
    simp
  have shape : ∀ (es : List Ent) (wt : List Nat), GOk m js f es → es.length ≤ m := fun es wt g => by
    have := nd_len m (es.map (·.1)) g.keys (fun x hx => by
      obtain ⟨e, he, rfl⟩ := List.mem_map.mp hx
      exact g.lt e he)
    simpa using this
  refine s_seq (s_while (fun n ds' ms' => ∃ (es : List Ent) (wt : List Nat) (o4 o5 o6 o7 o8 o9 : SD), GOk m js f es ∧ (∀ p ∈ wt, ∃ e ∈ es, e.1 = p) ∧ (∀ e ∈ es, e.1 ∈ wt ∨ Closed js es e.1) ∧ n = wt.length + 2 * (m - es.length) ∧ wt.length ≤ es.length ∧
      ds' = [.d (.list ((nearJ js m).map .list)), .d (.int f), .q ms.length, .m (ms.length + 1), o4, o5, o6, o7, o8, o9] ∧ ms' = ms ++ [.k (kD (es.map encE))] ++ [.l (wt.map fun (p : Nat) => .int p)]) (1 + 2 * (m - 1))
    ⟨[(f, 0, [])], [f], .u, .u, .u, .u, .u, .u, g0, (by simp), (by simp), rfl, Nat.le_refl _, rfl, rfl⟩ ?_)
  rintro n ds' ms' ⟨es, wt, o4, o5, o6, o7, o8, o9, g, hwt, hcl, en, hle, rfl, rfl⟩
  refine et_tru (e_varm rfl ⟨_, .inl (.m (idx3 _ _)), fun hb => ?_, fun hb => ?_⟩)
  · cases wt with
    | nil => simp at hb
    | cons p wt =>
      obtain ⟨e, he, ep⟩ := hwt p (by simp)
      obtain ⟨p', c, w⟩ := e
      have ep : p' = p := ep
      subst ep
      have hpm := g.lt _ he
      have hpm : p' < m := hpm
      have hc : c < 2 := (g.all _ he).bit
      have hle2 : wt.length + 1 ≤ es.length := by simpa using hle
      refine s_seq (s_asg (e_popAt0 (e_varm rfl ⟨_, _, _, rfl, idx3 _ _, ?_⟩)))
      rw [set3]
      refine s_seq (s_asgG (js := [5, 6]) (e_dget (e_varq rfl (e_var rfl ⟨_, .inl (p' : Int), _, .q (idx2 _ _), rfl, valE_some he g.keys, ?_⟩))))
      refine eg_tup rfl (egs_cons (eg_name (egs_cons (eg_name (egs_nil ?_)))))
      refine s_forL (js := [7, 8, 9]) (e_op (e_var rfl (e_var rfl (rr_ix ⟨_, _, .list ((nbr js p').map encJ), .inl (.d _), rfl, atI_nat (by rw [List.getElem?_map, nearJ_get js hpm]; rfl), ?_⟩))))
      refine ⟨_, .d _, fun i ds2 ms2 => ∃ (es2 : List Ent) (wt2 : List Nat) (o7 o8 o9 : SD), GOk m js f es2 ∧ (∀ e ∈ es, e ∈ es2) ∧ (∀ q ∈ wt2, ∃ e ∈ es2, e.1 = q) ∧ (∀ q ∈ wt, q ∈ wt2) ∧ (∀ e ∈ es2, e ∈ es ∨ e.1 ∈ wt2) ∧
          (∀ (k : Nat) (x : Jn), k < i → (nbr js p')[k]? = some x → ∃ e ∈ es2, e.1 = x.2.1) ∧ es.length ≤ es2.length ∧ wt2.length + es.length = wt.length + es2.length ∧
          ds2 = [.d (.list ((nearJ js m).map .list)), .d (.int f), .q ms.length, .m (ms.length + 1), .d (.int p'), .d (.int c), .d (.tuple (w.map fun (k : Nat) => .int k)), o7, o8, o9] ∧ ms2 = ms ++ [.k (kD (es2.map encE))] ++ [.l (wt2.map fun (p : Nat) => .int p)],
        ⟨es, wt, _, _, _, g, (fun e he => he), (fun q hq => hwt q (List.mem_cons_of_mem _ hq)), (fun q hq => hq), (fun e he => .inl he), (fun k x hk => by omega), Nat.le_refl _, rfl, rfl, rfl⟩, ?_, ?_⟩
      · rintro i e2 ds2 ms2 hi ⟨es2, wt2, o7, o8, o9, g2, sub, hwt2, wsub, hnew, hdone, hel, hln, rfl, rfl⟩
        rw [List.getElem?_map] at hi
        cases qn : (nbr js p')[i]? with
        | none => rw [qn] at hi; cases hi
        | some x =>
          rw [qn] at hi
          have e1 := (Option.some.inj hi).symm
          subst e1
          obtain ⟨k, o, a⟩ := x
          have hx := List.mem_of_getElem? qn
          obtain ⟨j, hj, hja, _⟩ := nbr_mem hx
          have ha2 : a < 2 := by rw [← hja]; exact (hw.all j (List.mem_of_getElem? hj)).2.2.2
          have l2 := shape es2 wt2 g2
          refine eg_tup rfl (egs_cons (eg_name (egs_cons (eg_name (egs_cons (eg_name (egs_nil ?_)))))))
          refine s_if (et_B (e_dnotin (e_var rfl (e_varq rfl ⟨_, .inl (o : Int), .q (idx2 _ _), rfl, _, rfl, fun hb => ?_, fun hb => ?_⟩))))
          · have hno : ∀ e ∈ es2, e.1 ≠ o := fun e he z => by
              subst z
              rw [valE_some he g2.keys] at hb
              simp at hb
            refine s_seq (s_asgH (e_tup (ea_cons (e_op (e_var rfl (e_var rfl (rr_I0 ⟨_, _, rfl, rfl, ?_⟩)))))))
            have wl : w.length ≤ js.length := nd_len js.length w (g.all _ he).nd (fun k hk => by
              obtain ⟨j2, _, _, _, _, f1, _⟩ := (g.all _ he).fit k hk
              exact (List.getElem?_eq_some_iff.mp f1).1)
            have jl := hw.len
            refine ea_cons (e_op (e_var rfl (e_tup (ea_cons (e_var rfl (ea_nil ⟨[_], rfl, Nat.le_of_ble_eq_true rfl, rr_catA ⟨_, _, rfl, rfl, by simp; omega, ?_⟩⟩))))))
            refine ea_nil ⟨[_, _], rfl, Nat.le_of_ble_eq_true rfl, ?_⟩
            refine egh_set (e_varq rfl ⟨_, rfl, e_var rfl ⟨.inl (o : Int), _, rfl, idx2 _ _, by simp; omega, ?_⟩⟩)
            rw [set2, putE hno, xor2 hc ha2]
            have enc : es2.map encE ++ [(Sum.inl (o : Int), PyData.tuple [.int (((c + a) % 2 : Nat) : Int), .tuple ((w.map fun (k : Nat) => PyData.int k) ++ [PyData.int k])])] = (es2 ++ [(o, (c + a) % 2, w ++ [k])]).map encE := by
              simp [encE]
            rw [enc]
            refine s_drop (e_append (e_varm rfl ⟨_, rfl, e_var rfl ⟨_, _, rfl, idx3 _ _, ?_, ?_⟩⟩))
            · have : wt2.length ≤ 200 := by omega
              simp; omega
            · rw [set3]
              have g3 := g2.more hw (sub _ he) hx hno
              refine ⟨es2 ++ [(o, (c + a) % 2, w ++ [k])], wt2 ++ [o], _, _, _, g3, (fun e he => List.mem_append_left _ (sub e he)), ?_, (fun q hq => List.mem_append_left _ (wsub q hq)), ?_, ?_, by simp; omega, by simp; omega, rfl, by simp⟩
              · intro q hq
                rcases List.mem_append.mp hq with z | z
                · obtain ⟨e, he, ee⟩ := hwt2 q z
                  exact ⟨e, List.mem_append_left _ he, ee⟩
                · exact ⟨(o, (c + a) % 2, w ++ [k]), by simp, by simp at z; exact z.symm⟩
              · intro e he2
                rcases List.mem_append.mp he2 with z | z
                · rcases hnew e z with y | y
                  · exact .inl y
                  · exact .inr (List.mem_append_left _ y)
                · have : e = (o, (c + a) % 2, w ++ [k]) := by simpa using z
                  subst this
                  exact .inr (List.mem_append_right _ (by simp))
              · intro k2 x2 hk2 hx2
                by_cases hki : k2 = i
                · subst hki
                  rw [qn] at hx2
                  cases hx2
                  exact ⟨(o, (c + a) % 2, w ++ [k]), by simp, rfl⟩
                · obtain ⟨e, he, ee⟩ := hdone k2 x2 (by omega) hx2
                  exact ⟨e, List.mem_append_left _ he, ee⟩
          · refine s_next ⟨es2, wt2, _, _, _, g2, sub, hwt2, wsub, hnew, ?_, hel, hln, rfl, rfl⟩
            intro k2 x2 hk2 hx2
            by_cases hki : k2 = i
            · subst hki
              rw [qn] at hx2
              cases hx2
              apply Classical.byContradiction
              intro hno
              have hno' : ∀ e ∈ es2, e.1 ≠ o := fun e he z => hno ⟨e, he, z⟩
              rw [valE_none hno'] at hb
              simp at hb
            · exact hdone k2 x2 (by omega) hx2
      · rintro ds2 ms2 ⟨es2, wt2, o7, o8, o9, g2, sub, hwt2, wsub, hnew, hdone, hel, hln, rfl, rfl⟩
        have l2 := shape es2 wt2 g2
        have l1 := shape es wt g
        simp only [List.length_cons] at en hle
        refine ⟨wt2.length + 2 * (m - es2.length), by omega, es2, wt2, _, _, _, _, _, _, g2, hwt2, ?_, rfl, by omega, rfl, rfl⟩
        intro e he2
        rcases hnew e he2 with y | y
        · rcases hcl e y with z | z
          · rcases List.mem_cons.mp z with z | z
            · refine .inr fun k o a hk => ?_
              rw [z] at hk
              obtain ⟨i, hi, hie⟩ := List.getElem_of_mem hk
              exact hdone i (k, o, a) (by simpa using hi) (by rw [List.getElem?_eq_getElem hi, hie])
            · exact .inl (wsub _ z)
          · refine .inr fun k o a hk => ?_
            obtain ⟨e3, h3, h4⟩ := z k o a hk
            exact ⟨e3, sub _ h3, h4⟩
        · exact .inl y
  · have hwn : wt = [] := by
      cases wt with
      | nil => rfl
      | cons p wt => simp at hb
    subst hwn
    refine s_ret (e_varq rfl ⟨ms ++ [.k (kD (es.map encE))], [], rfl, by simp, ?_⟩)
    refine ⟨ms, kD (es.map encE), rfl, rfl, ?_⟩
    show R (if ms.length = ms.length then .g (kD (es.map encE)) else .q ms.length) ms
    rw [if_pos rfl]
    refine r es g fun e he => ?_
    rcases hcl e he with z | z
    · cases z
    · exact z

abbrev Row := Nat × Ent
section
variable {α : Type} {key : α → Nat} {v : α → PyData} {l : List α}
theorem valF_none {p : Nat} (h : ∀ e ∈ l, key e ≠ p) : valD (l.map fun a => ((.inl (key a : Int) : Key), v a)) (.inl (p : Int)) = none := by
  induction l with
  | nil => rfl
  | cons e r ih =>
    have h1 : ¬ ((.inl (key e : Int) : Key) = .inl (p : Int)) := fun z => by
      injection z with z
      exact h e (by simp) (by omega)
    have := ih fun e he => h e (List.mem_cons_of_mem _ he)
    simp only [valD, List.map_cons, List.find?_cons, h1, decide_false] at this ⊢
    exact this
theorem valF_some {e : α} (h : e ∈ l) (nd : (l.map key).Nodup) : valD (l.map fun a => ((.inl (key a : Int) : Key), v a)) (.inl (key e : Int)) = some (v e) := by
  induction l with
  | nil => cases h
  | cons a r ih =>
    rw [List.map_cons, List.nodup_cons] at nd
    by_cases z : key a = key e
    · rcases List.mem_cons.mp h with y | y
      · subst y
        simp [valD]
      · exact absurd (List.mem_map.mpr ⟨e, y, z.symm⟩) nd.1
    · have h1 : ¬ ((.inl (key a : Int) : Key) = .inl (key e : Int)) := fun y => by
        injection y with y
        exact z (by omega)
      have h2 : e ∈ r := by
        rcases List.mem_cons.mp h with y | y
        · exact absurd (by rw [y]) z
        · exact y
      have := ih h2 nd.2
      simp only [valD, List.map_cons, List.find?_cons, h1, decide_false] at this ⊢
      exact this
theorem putF {p : Nat} (h : ∀ e ∈ l, key e ≠ p) (d : PyData) : putD (l.map fun a => ((.inl (key a : Int) : Key), v a)) (.inl (p : Int)) d = (l.map fun a => ((.inl (key a : Int) : Key), v a)) ++ [(.inl (p : Int), d)] := by
  unfold putD
  rw [if_neg]
  intro z
  obtain ⟨kv, hm, hk⟩ := List.any_eq_true.mp z
  obtain ⟨e, he, rfl⟩ := List.mem_map.mp hm
  have z' : (.inl (key e : Int) : Key) = .inl (p : Int) := of_decide_eq_true hk
  injection z' with z'
  exact h e he (by omega)
end
abbrev dG (rs : List Row) : List (Key × PyData) := rs.map fun r => ((.inl (r.2.1 : Int) : Key), .int r.1)
abbrev dM (rs : List Row) : List (Key × PyData) := rs.map fun r => ((.inl (r.2.1 : Int) : Key), .int r.2.2.1)
abbrev dW (rs : List Row) : List (Key × PyData) := rs.map fun r => ((.inl (r.2.1 : Int) : Key), .tuple (r.2.2.2.map fun (k : Nat) => .int k))
/-- groups with their first points fs, each point's group, mark and way -/
structure SOk (m : Nat) (js : List Jn) (fs : List Nat) (rs : List Row) : Prop where
  keys : (rs.map fun r => r.2.1).Nodup
  lt : ∀ r ∈ rs, r.2.1 < m
  ok : ∀ r ∈ rs, ∃ f, fs[r.1]? = some f ∧ EOk js f (rs.map (·.2)) r.2 ∧ f ≤ r.2.1
  cl : ∀ r ∈ rs, ∀ k o c, (k, o, c) ∈ nbr js r.2.1 → ∃ r' ∈ rs, r'.1 = r.1 ∧ r'.2.1 = o
  fst : ∀ (g f : Nat), fs[g]? = some f → ((g, f, 0, []) : Row) ∈ rs
  rise : fs.Pairwise (· < ·)
theorem nbr_sym {m : Nat} {js : List Jn} (hw : JOk m js) {p k o a : Nat} (h : (k, o, a) ∈ nbr js p) : (k, p, a) ∈ nbr js o := by
  obtain ⟨j, hj, ha, he⟩ := nbr_mem h
  obtain ⟨_, _, hn, _⟩ := hw.all j (List.mem_of_getElem? hj)
  obtain ⟨h1, h2⟩ := nbr_of hj hn
  rcases he with ⟨e1, e2⟩ | ⟨e1, e2⟩
  · rw [ha, e1, e2] at h2; exact h2
  · rw [ha, e1, e2] at h1; exact h1
theorem SOk.apart {m : Nat} {js : List Jn} {fs : List Nat} {rs : List Row} {f : Nat} {es : List Ent} (hw : JOk m js) (s : SOk m js fs rs) (g : GOk m js f es) (hf : ∀ r ∈ rs, r.2.1 ≠ f) : ∀ e ∈ es, ∀ r ∈ rs, r.2.1 ≠ e.1 := fun e he r hr z => by
  have := (g.all e he).reach (fun p => ¬ ∃ r ∈ rs, r.2.1 = p) (fun p k o a hn hp ⟨r', hr', er⟩ => by
    have h1 := nbr_sym hw hn
    rw [← er] at h1
    obtain ⟨r2, h2, _, h3⟩ := s.cl r' hr' k p a h1
    exact hp ⟨r2, h2, h3⟩) (fun ⟨r', hr', er⟩ => hf r' hr' er)
  exact this ⟨r, hr, z⟩
theorem SOk.join {m : Nat} {js : List Jn} {fs : List Nat} {rs : List Row} {f : Nat} {es : List Ent} (hw : JOk m js) (s : SOk m js fs rs) (g : GOk m js f es) (hc : ∀ e ∈ es, Closed js es e.1) (hf : ∀ r ∈ rs, r.2.1 ≠ f)
    (hb : ∀ p, p < f → ∃ r ∈ rs, r.2.1 = p) (hfs : ∀ x ∈ fs, x < f) : SOk m js (fs ++ [f]) (rs ++ es.map fun e => (fs.length, e)) := by
  have ap := s.apart hw g hf
  have old : ∀ e ∈ rs.map (·.2), e ∈ (rs ++ es.map fun e => (fs.length, e)).map (·.2) := fun e he => by
    rw [List.map_append]; exact List.mem_append_left _ he
  have new : ∀ e ∈ es, e ∈ (rs ++ es.map fun e => (fs.length, e)).map (·.2) := fun e he => by
    rw [List.map_append, List.map_map]
    exact List.mem_append_right _ (List.mem_map.mpr ⟨e, he, rfl⟩)
  have gt : ∀ g x, fs[g]? = some x → (fs ++ [f])[g]? = some x := fun g x h => by
    rw [List.getElem?_append_left (List.getElem?_eq_some_iff.mp h).1]; exact h
  refine ⟨?_, fun r hr => ?_, fun r hr => ?_, fun r hr k o c hn => ?_, fun gi x h => ?_, ?_⟩
  · rw [List.map_append, List.map_map]
    refine List.nodup_append.mpr ⟨s.keys, g.keys, fun x hx y hy z => ?_⟩
    obtain ⟨r, hr, rfl⟩ := List.mem_map.mp hx
    obtain ⟨e, he, rfl⟩ := List.mem_map.mp hy
    exact ap e he r hr z
  · rcases List.mem_append.mp hr with z | z
    · exact s.lt r z
    · obtain ⟨e, he, rfl⟩ := List.mem_map.mp z
      exact g.lt e he
  · rcases List.mem_append.mp hr with z | z
    · obtain ⟨x, h1, h2, h3⟩ := s.ok r z
      exact ⟨x, gt _ _ h1, h2.mono old, h3⟩
    · obtain ⟨e, he, rfl⟩ := List.mem_map.mp z
      refine ⟨f, by simp, (g.all e he).mono new, ?_⟩
      apply Classical.byContradiction
      intro hlt
      obtain ⟨r, hr, er⟩ := hb e.1 (by show e.1 < f; exact Nat.lt_of_not_le hlt)
      exact ap e he r hr er
  · rcases List.mem_append.mp hr with z | z
    · obtain ⟨r', h1, h2, h3⟩ := s.cl r z k o c hn
      exact ⟨r', List.mem_append_left _ h1, h2, h3⟩
    · obtain ⟨e, he, rfl⟩ := List.mem_map.mp z
      obtain ⟨e', h1, h2⟩ := hc e he k o c hn
      exact ⟨(fs.length, e'), List.mem_append_right _ (List.mem_map.mpr ⟨e', h1, rfl⟩), rfl, h2⟩
  · by_cases hg : gi < fs.length
    · rw [List.getElem?_append_left hg] at h
      exact List.mem_append_left _ (s.fst gi x h)
    · have hl := (List.getElem?_eq_some_iff.mp h).1
      simp at hl
      have : gi = fs.length := by omega
      subst this
      simp at h
      subst h
      exact List.mem_append_right _ (List.mem_map.mpr ⟨_, g.fst, rfl⟩)
  · refine List.pairwise_append.mpr ⟨s.rise, by simp, fun x hx y hy => ?_⟩
    simp at hy
    subst hy
    exact hfs x hx
theorem s_back {K : PySem.W.Frag} {t u v : TS} {ds : List SD} {ms : List MD} {P : Po} (h : S K (tSeq t (tSeq u v)) ds ms P) : S K (tSeq (tSeq t u) v) ds ms P := h
def Φ_spread : Ph := ph2 fun a b ms R => ∃ (m : Nat) (js : List Jn), a = .d (.int m) ∧ b = .d (.list (js.map encJ)) ∧ JOk m js ∧
  ∀ (fs : List Nat) (rs : List Row), SOk m js fs rs → (∀ p, p < m → ∃ r ∈ rs, r.2.1 = p) → R (.d (.tuple [.dict (kD (dG rs)), .dict (kD (dM rs)), .dict (kD (dW rs))])) ms
theorem len_spread : ∀ as ms R, Φ_spread as ms R → as.length = 2 := ph2_len
theorem rd_spread {K : PySem.W.Frag} : ∀ as ms R, Φ_spread as ms R → S K (t_spread K Φ_joins_at Φ_group_from) (as ++ List.replicate (11 - as.length) .u) ms (fin R) := by
  rintro as ms R ⟨a, b, rfl, m, js, rfl, rfl, hw, r⟩
  have hm60 := hw.m60
  unfold t_spread
  refine s_seq (s_asg (e_call (ea_cons (e_var rfl (ea_cons (e_var rfl (ea_nil ⟨_, _, rfl, m, js, rfl, rfl, hw, ?_⟩)))))))
  refine s_assoc (s_assoc (s_mid (fun ds' ms' => ∃ (fs : List Nat) (rs : List Row) (o6 o7 o8 o9 o10 : SD), SOk m js fs rs ∧ (∀ p, p < m → ∃ r ∈ rs, r.2.1 = p) ∧ ms' = ms ∧
    ds' = [.d (.int m), .d (.list (js.map encJ)), .d (.list ((nearJ js m).map .list)), .d (.dict (kD (dG rs))), .d (.dict (kD (dM rs))), .d (.dict (kD (dW rs))), o6, o7, o8, o9, o10]) ?_ ?_))
  · refine s_back ?_
    refine s_par3D (s_newD (e_dnewG ⟨_, rfl, s_newD (e_dnewG ⟨_, rfl, s_newD (e_dnewG ⟨_, rfl, ?_⟩)⟩)⟩))
    have l1 : (ms ++ [MD.k []]).length = ms.length + 1 := by simp
    have l2 : (ms ++ [MD.k []] ++ [MD.k []]).length = ms.length + 2 := by simp
    rw [l1, l2]
    have ix0 : ∀ x y z : MD, (ms ++ [x] ++ [y] ++ [z])[ms.length]? = some x := fun x y z => by simp
    have ix1 : ∀ x y z : MD, (ms ++ [x] ++ [y] ++ [z])[ms.length + 1]? = some y := fun x y z => by
      rw [List.append_assoc (ms ++ [x]), List.getElem?_append_right (by simp)]
      simp
    have ix2 : ∀ x y z : MD, (ms ++ [x] ++ [y] ++ [z])[ms.length + 2]? = some z := fun x y z => by
      rw [List.getElem?_append_right (by simp)]
      simp
    have st0 : ∀ x y z u : MD, (ms ++ [x] ++ [y] ++ [z]).set ms.length u = ms ++ [u] ++ [y] ++ [z] := fun x y z u => by
      simp only [List.append_assoc]
      rw [List.set_append_right _ _ (Nat.le_refl _), Nat.sub_self]
      rfl
    have st1 : ∀ x y z u : MD, (ms ++ [x] ++ [y] ++ [z]).set (ms.length + 1) u = ms ++ [x] ++ [u] ++ [z] := fun x y z u => by
      simp only [List.append_assoc]
      rw [List.set_append_right _ _ (by omega), Nat.add_sub_cancel_left]
      rfl
    have st2 : ∀ x y z u : MD, (ms ++ [x] ++ [y] ++ [z]).set (ms.length + 2) u = ms ++ [x] ++ [y] ++ [u] := fun x y z u => by
      simp only [List.append_assoc]
      rw [List.set_append_right _ _ (by omega), Nat.add_sub_cancel_left]
      rfl
    refine s_seq (s_asg (e_int ?_))
    refine s_forR (js := [7]) (ea_cons (e_var rfl (ea_nil ⟨_, rfl, by omega, fun i ds' ms' => ∃ (fs : List Nat) (rs : List Row) (o7 o8 o9 o10 : SD), SOk m js fs rs ∧ (∀ p, p < i → ∃ r ∈ rs, r.2.1 = p) ∧ (∀ x ∈ fs, x < i) ∧
      ds' = [.d (.int m), .d (.list (js.map encJ)), .d (.list ((nearJ js m).map .list)), .q ms.length, .q (ms.length + 1), .q (ms.length + 2), .d (.int fs.length), o7, o8, o9, o10] ∧ ms' = ms ++ [.k (kD (dG rs))] ++ [.k (kD (dM rs))] ++ [.k (kD (dW rs))],
      ⟨[], [], .u, .u, .u, .u, ⟨List.nodup_nil, (fun r hr => by cases hr), (fun r hr => by cases hr), (fun r hr => by cases hr), (fun g f h => by simp at h), List.Pairwise.nil⟩, (fun p hp => by omega), (fun x hx => by cases hx), rfl, rfl⟩, ?_, ?_⟩)))
    · rintro i ds' ms' hi ⟨fs, rs, o7, o8, o9, o10, s, hb, hfs, rfl, rfl⟩
      have him : i < m := by omega
      refine eg_name ?_
      have rl : ∀ (fs : List Nat) (rs : List Row), SOk m js fs rs → rs.length ≤ 60 := fun fs rs s => by
        have := nd_len m (rs.map fun r => r.2.1) s.keys (fun x hx => by
          obtain ⟨r, hr, rfl⟩ := List.mem_map.mp hx
          exact s.lt r hr)
        simp at this
        omega
      refine s_if (et_B (e_dnotin (e_var rfl (e_varq rfl ⟨_, .inl (i : Int), .q (ix0 _ _ _), rfl, _, rfl, fun hb' => ?_, fun hb' => ?_⟩))))
      · have hno : ∀ r ∈ rs, r.2.1 ≠ i := fun r hr z => by
          subst z
          rw [valF_some (key := fun r : Row => r.2.1) hr s.keys] at hb'
          simp at hb'
        refine s_seq (s_forD (js := [8, 9, 10]) (e_call (ea_cons (e_var rfl (ea_cons (e_var rfl (ea_nil ⟨_, _, rfl, m, js, i, rfl, rfl, hw, him, fun es g hc => ?_⟩)))))))
        have ap := s.apart hw g hno
        have sj := s.join hw g hc hno hb hfs
        have rj := rl _ _ sj
        simp only [List.length_append, List.length_map] at rj
        refine ⟨_, rfl, fun k ds2 ms2 => ∃ (o8 o9 o10 : SD), ds2 = [.d (.int m), .d (.list (js.map encJ)), .d (.list ((nearJ js m).map .list)), .q ms.length, .q (ms.length + 1), .q (ms.length + 2), .d (.int fs.length), .d (.int i), o8, o9, o10] ∧
          ms2 = ms ++ [.k (kD (dG (rs ++ (es.take k).map fun e => (fs.length, e))))] ++ [.k (kD (dM (rs ++ (es.take k).map fun e => (fs.length, e))))] ++ [.k (kD (dW (rs ++ (es.take k).map fun e => (fs.length, e))))], ⟨_, _, _, rfl, by simp⟩, ?_, ?_⟩
        · rintro k kk ee ds2 ms2 hk ⟨o8, o9, o10, rfl, rfl⟩
          rw [List.getElem?_map] at hk
          cases qe : es[k]? with
          | none => rw [qe] at hk; cases hk
          | some e0 =>
            rw [qe] at hk
            have hk' : encE e0 = (kk, ee) := Option.some.inj hk
            unfold encE at hk'
            injection hk' with k1 k2
            subst k1 k2
            have hkl := (List.getElem?_eq_some_iff.mp qe).1
            have dis : ∀ r ∈ rs ++ (es.take k).map (fun e => (fs.length, e)), r.2.1 ≠ e0.1 := fun r hr => by
              rcases List.mem_append.mp hr with z | z
              · exact ap e0 (List.mem_of_getElem? qe) r z
              · obtain ⟨e, he, rfl⟩ := List.mem_map.mp z
                have nd := g.keys
                have sl : ((es.take (k + 1)).map (·.1)).Nodup := nd.sublist ((List.take_sublist _ _).map _)
                rw [take_snoc qe, List.map_append] at sl
                exact (List.nodup_append.mp sl).2.2 e.1 (List.mem_map.mpr ⟨e, he, rfl⟩) e0.1 (by simp)
            have hlen : (rs ++ (es.take k).map (fun e => (fs.length, e))).length < 10000 := by
              simp only [List.length_append, List.length_map, List.length_take]
              omega
            have nxt : rs ++ (es.take (k + 1)).map (fun e => (fs.length, e)) = (rs ++ (es.take k).map (fun e => (fs.length, e))) ++ [(fs.length, e0)] := by
              rw [take_snoc qe, List.map_append, List.append_assoc]
              rfl
            refine eg_tup rfl (egs_cons (eg_name (egs_cons (eg_tup rfl (egs_cons (eg_name (egs_cons (eg_name (egs_nil (egs_nil ?_))))))))))
            refine s_asgH (e_tup (ea_cons (e_var rfl (ea_cons (e_var rfl (ea_cons (e_var rfl (ea_nil ⟨[_, _, _], rfl, Nat.le_of_ble_eq_true rfl, ?_⟩))))))))
            refine egh_tup rfl (eghs_cons (egh_set (e_varq rfl ⟨_, rfl, e_var rfl ⟨.inl (e0.1 : Int), _, rfl, ix0 _ _ _, by rw [List.length_map]; exact hlen, ?_⟩⟩)))
            rw [st0, putF (key := fun r : Row => r.2.1) dis]
            refine eghs_cons (egh_set (e_varq rfl ⟨_, rfl, e_var rfl ⟨.inl (e0.1 : Int), _, rfl, ix1 _ _ _, by rw [List.length_map]; exact hlen, ?_⟩⟩))
            rw [st1, putF (key := fun r : Row => r.2.1) dis]
            refine eghs_cons (egh_set (e_varq rfl ⟨_, rfl, e_var rfl ⟨.inl (e0.1 : Int), _, rfl, ix2 _ _ _, by rw [List.length_map]; exact hlen, ?_⟩⟩))
            rw [st2, putF (key := fun r : Row => r.2.1) dis]
            refine eghs_nil ⟨_, _, _, rfl, ?_⟩
            rw [nxt]
            simp only [dG, dM, dW, List.map_append, List.map_cons, List.map_nil]
        · rintro ds2 ms2 ⟨o8, o9, o10, rfl, rfl⟩
          refine s_augI rfl (e_int ⟨_, rfl, ?_⟩)
          refine ⟨fs ++ [i], rs ++ es.map (fun e => (fs.length, e)), .d (.int i), o8, o9, o10, sj, fun p hp => ?_, fun x hx => ?_, ?_, ?_⟩
          · by_cases z : p = i
            · subst z
              exact ⟨(fs.length, p, 0, []), List.mem_append_right _ (List.mem_map.mpr ⟨_, g.fst, rfl⟩), rfl⟩
            · obtain ⟨r, hr, er⟩ := hb p (by omega)
              exact ⟨r, List.mem_append_left _ hr, er⟩
          · rcases List.mem_append.mp hx with z | z
            · have := hfs x z; omega
            · simp at z; omega
          · simp
          · rw [List.take_of_length_le (by simp)]
      · refine s_next ⟨fs, rs, _, _, _, _, s, fun p hp => ?_, fun x hx => by have := hfs x hx; omega, rfl, rfl⟩
        by_cases z : p = i
        · subst z
          apply Classical.byContradiction
          intro hno
          have hno' : ∀ r ∈ rs, r.2.1 ≠ p := fun r hr z => hno ⟨r, hr, z⟩
          rw [valF_none (key := fun r : Row => r.2.1) hno'] at hb'
          simp at hb'
        · exact hb p (by omega)
    · rintro ds' ms' ⟨fs, rs, o7, o8, o9, o10, s, hb, hfs, rfl, rfl⟩
      refine ⟨ms ++ [.k (kD (dG rs))] ++ [.k (kD (dM rs))], kD (dW rs), rfl, by simp, ms ++ [.k (kD (dG rs))], kD (dM rs), rfl, by simp, ms, kD (dG rs), rfl, rfl, ?_⟩
      refine ⟨fs, rs, frzSK ms.length (kD (dG rs)) (frzSK (ms.length + 1) (kD (dM rs)) (frzSK (ms.length + 2) (kD (dW rs)) (.d (.int fs.length)))), frzSK ms.length (kD (dG rs)) (frzSK (ms.length + 1) (kD (dM rs)) (frzSK (ms.length + 2) (kD (dW rs)) o7)), frzSK ms.length (kD (dG rs)) (frzSK (ms.length + 1) (kD (dM rs)) (frzSK (ms.length + 2) (kD (dW rs)) o8)), frzSK ms.length (kD (dG rs)) (frzSK (ms.length + 1) (kD (dM rs)) (frzSK (ms.length + 2) (kD (dW rs)) o9)), frzSK ms.length (kD (dG rs)) (frzSK (ms.length + 1) (kD (dM rs)) (frzSK (ms.length + 2) (kD (dW rs)) o10)), s, fun p hp => hb p (by simpa using hp), rfl, ?_⟩
      simp [frzSK]
  · rintro ds' ms' ⟨fs, rs, o6, o7, o8, o9, o10, s, hb, rfl, rfl⟩
    refine s_ret (e_tup (ea_cons (e_var rfl (ea_cons (e_var rfl (ea_cons (e_var rfl (ea_nil ⟨[_, _, _], rfl, Nat.le_of_ble_eq_true rfl, ?_⟩))))))))
    exact r fs rs s hb

abbrev tN (w : List Nat) : PyData := .tuple (w.map fun (k : Nat) => .int k)
def outOf (w1 w2 : List Nat) : List Nat := w1.filter fun k => !decide (k ∈ w2)
def Φ_ring_closed : Ph := ph3 fun a b c ms R => ∃ (w1 w2 : List Nat) (k : Nat), a = .d (tN w1) ∧ b = .d (tN w2) ∧ c = .d (.int k) ∧ w1.length ≤ 1000 ∧ w2.length ≤ 1000 ∧
  ∀ ns : List Nat, ns.Perm (outOf w1 w2 ++ outOf w2 w1 ++ [k]) → ns.Pairwise (· ≤ ·) → R (.d (tN ns)) ms
theorem len_ring_closed : ∀ as ms R, Φ_ring_closed as ms R → as.length = 3 := ph3_len
theorem outOf_snoc {w1 w2 : List Nat} {i x : Nat} (h : w1[i]? = some x) : outOf (w1.take (i + 1)) w2 = outOf (w1.take i) w2 ++ (if x ∈ w2 then [] else [x]) := by
  unfold outOf
  rw [take_snoc h, List.filter_append]
  by_cases z : x ∈ w2 <;> simp [z]
theorem mem_cast {x : Nat} {w : List Nat} : decide ((x : Int) ∈ w.map fun (k : Nat) => (k : Int)) = decide (x ∈ w) := by
  by_cases z : x ∈ w
  · rw [decide_eq_true z, decide_eq_true (List.mem_map.mpr ⟨x, z, rfl⟩)]
  · rw [decide_eq_false z, decide_eq_false fun y => by
      obtain ⟨a, ha, e⟩ := List.mem_map.mp y
      have : a = x := by omega
      exact z (this ▸ ha)]
theorem tN_ints (w : List Nat) : (w.map fun (k : Nat) => PyData.int k) = (w.map fun (k : Nat) => (k : Int)).map PyData.int := by
  rw [List.map_map]
  rfl
theorem nats_of : ∀ (ns : List Int) (w : List Nat), ns.Perm (w.map fun (k : Nat) => (k : Int)) → ∃ us : List Nat, ns = us.map (fun (k : Nat) => (k : Int)) ∧ us.Perm w := by
  intro ns w h
  refine ⟨ns.map Int.toNat, ?_, ?_⟩
  · rw [List.map_map]
    have : ∀ x ∈ ns, ((fun (k : Nat) => (k : Int)) ∘ Int.toNat) x = x := fun x hx => by
      obtain ⟨a, _, e⟩ := List.mem_map.mp (h.mem_iff.mp hx)
      subst e
      rfl
    rw [List.map_congr_left this]
    simp
  · have := h.map Int.toNat
    rw [List.map_map] at this
    have e : w.map (Int.toNat ∘ fun (k : Nat) => (k : Int)) = w := by
      have : (Int.toNat ∘ fun (k : Nat) => (k : Int)) = id := by
        funext x
        exact Int.toNat_natCast x
      rw [this, List.map_id]
    rw [e] at this
    exact this
theorem rd_ring_closed {K : PySem.W.Frag} : ∀ as ms R, Φ_ring_closed as ms R → S K (t_ring_closed K) (as ++ List.replicate (6 - as.length) .u) ms (fin R) := by
  rintro as ms R ⟨a, b, c, rfl, w1, w2, k, rfl, rfl, rfl, l1, l2, r⟩
  unfold t_ring_closed
  refine s_seq (s_asg (e_lcT (js := [4]) (by simp) (e_var rfl ⟨_, rfl, by rw [List.length_map]; omega, fun i acc ms' => acc = (outOf (w1.take i) w2).map (fun (k : Nat) => PyData.int k) ∧ ms = ms', ⟨rfl, rfl⟩, ?_, ?_⟩)))
  · rintro i e acc ms' hi ⟨rfl, rfl⟩
    rw [List.getElem?_map] at hi
    cases q : w1[i]? with
    | none => rw [q] at hi; cases hi
    | some x =>
      rw [q] at hi
      have e1 := (Option.some.inj hi).symm
      subst e1
      refine eg_name (et_test (e_op (e_var rfl (e_var rfl (rr_in ⟨x, w2.map fun (k : Nat) => (k : Int), rfl, .inr (by rw [← tN_ints]; exact .d _), ?_⟩)))))
      rw [mem_cast]
      refine ⟨_, rfl, fun hb => ?_, fun hb => ?_⟩
      · have hx : ¬ x ∈ w2 := by simpa using hb
        refine e_var rfl ⟨_, rfl, ?_, rfl⟩
        rw [outOf_snoc q, if_neg hx, List.map_append]
        rfl
      · have hx : x ∈ w2 := by simpa using hb
        refine ⟨?_, rfl⟩
        rw [outOf_snoc q, if_pos hx, List.append_nil]
  rintro acc _ ⟨rfl, hms⟩
  subst hms
  rw [List.length_map, List.take_length]
  refine s_seq (s_asg (e_lcT (js := [4]) (by simp) (e_var rfl ⟨_, rfl, by rw [List.length_map]; omega, fun i acc ms' => acc = (outOf (w2.take i) w1).map (fun (k : Nat) => PyData.int k) ∧ ms = ms', ⟨rfl, rfl⟩, ?_, ?_⟩)))
  · rintro i e acc ms' hi ⟨rfl, rfl⟩
    rw [List.getElem?_map] at hi
    cases q : w2[i]? with
    | none => rw [q] at hi; cases hi
    | some x =>
      rw [q] at hi
      have e1 := (Option.some.inj hi).symm
      subst e1
      refine eg_name (et_test (e_op (e_var rfl (e_var rfl (rr_in ⟨x, w1.map fun (k : Nat) => (k : Int), rfl, .inr (by rw [← tN_ints]; exact .d _), ?_⟩)))))
      rw [mem_cast]
      refine ⟨_, rfl, fun hb => ?_, fun hb => ?_⟩
      · have hx : ¬ x ∈ w1 := by simpa using hb
        refine e_var rfl ⟨_, rfl, ?_, rfl⟩
        rw [outOf_snoc q, if_neg hx, List.map_append]
        rfl
      · have hx : x ∈ w1 := by simpa using hb
        refine ⟨?_, rfl⟩
        rw [outOf_snoc q, if_pos hx, List.append_nil]
  rintro acc _ ⟨rfl, hms⟩
  subst hms
  rw [List.length_map, List.take_length]
  have o1 : (outOf w1 w2).length ≤ w1.length := List.length_filter_le _ _
  have o2 : (outOf w2 w1).length ≤ w2.length := List.length_filter_le _ _
  refine s_ret (e_cb (ea_cons (e_cb (ea_cons (e_op (e_op (e_var rfl (e_var rfl (rr_cat ⟨_, _, rfl, rfl, by simp; omega, ?_⟩)))))))))
  refine e_lst (ea_cons (e_var rfl (ea_nil ⟨[_], rfl, Nat.le_of_ble_eq_true rfl, rr_cat ⟨_, _, rfl, rfl, by simp; omega, ?_⟩⟩)))
  have cat : ((outOf w1 w2).map (fun (k : Nat) => PyData.int k) ++ (outOf w2 w1).map (fun (k : Nat) => PyData.int k)) ++ [PyData.int k] = ((outOf w1 w2 ++ outOf w2 w1 ++ [k]).map fun (k : Nat) => (k : Int)).map PyData.int := by
    simp only [List.map_append, List.map_cons, List.map_nil, List.map_map]
    rfl
  rw [cat]
  refine ea_nil (rc_sorted ⟨_, _, rfl, .d _, fun ns' hp hs => ?_⟩)
  refine ea_nil (rc_tuple ⟨_, _, rfl, .inl (.d _), ?_⟩)
  obtain ⟨us, rfl, hu⟩ := nats_of _ _ hp
  rw [← tN_ints]
  refine r us hu ?_
  rw [List.pairwise_map] at hs
  exact hs.imp fun h => by omega

structure RingOk (js : List Jn) (ns : List Nat) : Prop where
  rise : ns.Pairwise (· < ·)
  ne : ns ≠ []
  lt : ∀ k ∈ ns, k < js.length
  ends : ∀ x, endN js ns x % 2 = 0
  odd : apN js ns % 2 = 1
theorem sum_perm {α : Type} (f : α → Nat) {l l' : List α} (h : l.Perm l') : (l.map f).sum = (l'.map f).sum := by
  induction h with
  | nil => rfl
  | cons x _ ih => simp [ih]
  | swap x y l => simp; omega
  | trans _ _ h1 h2 => exact h1.trans h2
theorem sum_part (f : Nat → Nat) (p : Nat → Bool) : ∀ w : List Nat, (w.map f).sum = ((w.filter fun k => !p k).map f).sum + ((w.filter p).map f).sum
  | [] => rfl
  | x :: r => by
    have := sum_part f p r
    cases h : p x <;> simp [h, this] <;> omega
theorem nd_perm : ∀ {a b : List Nat}, a.Nodup → b.Nodup → (∀ x, x ∈ a ↔ x ∈ b) → a.Perm b
  | [], b, _, _, h => by
    cases b with
    | nil => exact .nil
    | cons x r => exact absurd ((h x).mpr (by simp)) (by simp)
  | x :: a, b, na, nb, h => by
    have hx : x ∈ b := (h x).mp (by simp)
    have h2 : a.Perm (b.erase x) := nd_perm (List.nodup_cons.mp na).2 (nb.erase x) fun y => by
      rw [nb.mem_erase_iff]
      constructor
      · intro hy
        exact ⟨fun z => by subst z; exact (List.nodup_cons.mp na).1 hy, (h y).mp (List.mem_cons_of_mem _ hy)⟩
      · rintro ⟨z, hy⟩
        rcases List.mem_cons.mp ((h y).mpr hy) with e | e
        · exact absurd e z
        · exact e
    exact (h2.cons x).trans (List.perm_cons_erase hx).symm
theorem sum_sym (f : Nat → Nat) {w1 w2 : List Nat} (n1 : w1.Nodup) (n2 : w2.Nodup) : (((outOf w1 w2 ++ outOf w2 w1).map f).sum) % 2 = ((w1.map f).sum + (w2.map f).sum) % 2 := by
  have e1 := sum_part f (fun k => decide (k ∈ w2)) w1
  have e2 := sum_part f (fun k => decide (k ∈ w1)) w2
  have pm : (w1.filter fun k => decide (k ∈ w2)).Perm (w2.filter fun k => decide (k ∈ w1)) := nd_perm (n1.filter _) (n2.filter _) fun x => by simp [and_comm]
  have e3 := sum_perm f pm
  unfold outOf
  rw [List.map_append, List.sum_append]
  omega
theorem row_inj {m : Nat} {js : List Jn} {fs : List Nat} {rs : List Row} (s : SOk m js fs rs) {r1 r2 : Row} (h1 : r1 ∈ rs) (h2 : r2 ∈ rs) (e : r1.2.1 = r2.2.1) : r1 = r2 := by
  have nd := s.keys
  clear s
  induction rs with
  | nil => cases h1
  | cons a r ih =>
    rw [List.map_cons, List.nodup_cons] at nd
    rcases List.mem_cons.mp h1 with z1 | z1 <;> rcases List.mem_cons.mp h2 with z2 | z2
    · rw [z1, z2]
    · subst z1
      exact absurd (List.mem_map.mpr ⟨r2, z2, e.symm⟩) nd.1
    · subst z2
      exact absurd (List.mem_map.mpr ⟨r1, z1, e⟩) nd.1
    · exact ih z1 z2 nd.2
/-- the ring that a join closes whose points have marks that don't fit -/
theorem ring_of {m : Nat} {js : List Jn} {fs : List Nat} {rs : List Row} (hw : JOk m js) (s : SOk m js fs rs) {k : Nat} {j : Jn} (hj : js[k]? = some j) {r1 r2 : Row} (h1 : r1 ∈ rs) (h2 : r2 ∈ rs) (e1 : r1.2.1 = j.1) (e2 : r2.2.1 = j.2.1)
    (odd : (r1.2.2.1 + r2.2.2.1) % 2 ≠ j.2.2) {ns : List Nat} (hp : ns.Perm (outOf r1.2.2.2 r2.2.2.2 ++ outOf r2.2.2.2 r1.2.2.2 ++ [k])) (hs : ns.Pairwise (· ≤ ·)) : RingOk js ns := by
  obtain ⟨_, _, hn, hb⟩ := hw.all j (List.mem_of_getElem? hj)
  obtain ⟨n1, n2⟩ := nbr_of hj hn
  rw [← e1] at n1
  obtain ⟨r', hr', g', p'⟩ := s.cl r1 h1 _ _ _ n1
  have : r' = r2 := row_inj s hr' h2 (p'.trans e2.symm)
  subst this
  obtain ⟨f1, q1, ok1, _⟩ := s.ok r1 h1
  obtain ⟨f2, q2, ok2, _⟩ := s.ok r' h2
  rw [g', q1] at q2
  cases q2
  have nofit : ¬ Fits js (rs.map (·.2)) k := fun ⟨j2, c1, w1, c2, w2, g1, g2, g3, g4⟩ => by
    rw [hj] at g1
    cases g1
    obtain ⟨a1, ha1, ea1⟩ := List.mem_map.mp g2
    obtain ⟨a2, ha2, ea2⟩ := List.mem_map.mp g3
    have i1 : a1 = r1 := row_inj s ha1 h1 (by rw [ea1, e1])
    have i2 : a2 = r' := row_inj s ha2 h2 (by rw [ea2, e2])
    subst i1 i2
    rw [ea1, ea2] at odd
    exact odd g4
  have k1 : k ∉ r1.2.2.2 := fun z => nofit (ok1.fit k z)
  have k2 : k ∉ r'.2.2.2 := fun z => nofit (ok2.fit k z)
  have nd : (outOf r1.2.2.2 r'.2.2.2 ++ outOf r'.2.2.2 r1.2.2.2 ++ [k]).Nodup := by
    refine List.nodup_append.mpr ⟨List.nodup_append.mpr ⟨ok1.nd.filter _, ok2.nd.filter _, fun x hx y hy z => ?_⟩, by simp, fun x hx y hy z => ?_⟩
    · subst z
      have a := List.mem_filter.mp hx
      have b := List.mem_filter.mp hy
      have : x ∉ r'.2.2.2 := by simpa using a.2
      exact this b.1
    · have : x = k := by simp at hy; exact z.trans hy
      subst this
      rcases List.mem_append.mp hx with y | y
      · exact k1 (List.mem_filter.mp y).1
      · exact k2 (List.mem_filter.mp y).1
  have hk : k < js.length := (List.getElem?_eq_some_iff.mp hj).1
  refine ⟨?_, fun z => ?_, fun i hi => ?_, fun x => ?_, ?_⟩
  · have nd2 : ns.Nodup := hp.nodup_iff.mpr nd
    have : ns.Pairwise fun a b => a ≤ b ∧ a ≠ b := hs.and nd2
    exact this.imp fun h => by omega
  · rw [z] at hp
    have := hp.length_eq
    simp at this
  · have := hp.mem_iff.mp hi
    rcases List.mem_append.mp this with y | y
    · rcases List.mem_append.mp y with y | y
      · obtain ⟨_, _, _, _, _, g1, _⟩ := ok1.fit i (List.mem_filter.mp y).1
        exact (List.getElem?_eq_some_iff.mp g1).1
      · obtain ⟨_, _, _, _, _, g1, _⟩ := ok2.fit i (List.mem_filter.mp y).1
        exact (List.getElem?_eq_some_iff.mp g1).1
    · simp at y
      omega
  · unfold endN
    rw [sum_perm _ hp, List.map_append, List.sum_append]
    have a := sum_sym (eF js x) ok1.nd ok2.nd
    have hk1 : eF js x k = (if x = j.1 then 1 else 0) + (if x = j.2.1 then 1 else 0) := by simp [eF, hj]
    have b1 := ok1.ends x
    have b2 := ok2.ends x
    unfold endN at b1 b2
    simp only [List.map_cons, List.map_nil, List.sum_cons, List.sum_nil, hk1]
    rw [e1] at b1
    rw [e2] at b2
    omega
  · unfold apN
    rw [sum_perm _ hp, List.map_append, List.sum_append]
    have a := sum_sym (aF js) ok1.nd ok2.nd
    have hk1 : aF js k = j.2.2 := by simp [aF, hj]
    have b1 := ok1.ap
    have b2 := ok2.ap
    unfold apN at b1 b2
    simp only [List.map_cons, List.map_nil, List.sum_cons, List.sum_nil, hk1]
    have c1 := ok1.bit
    have c2 := ok2.bit
    omega
def Φ_odd_rings : Ph := ph3 fun a b c ms R => ∃ (m : Nat) (js : List Jn) (fs : List Nat) (rs : List Row), a = .d (.list (js.map encJ)) ∧ b = .d (.dict (kD (dM rs))) ∧ c = .d (.dict (kD (dW rs))) ∧ JOk m js ∧ SOk m js fs rs ∧ (∀ p, p < m → ∃ r ∈ rs, r.2.1 = p) ∧
  ∀ ys : List (List Nat), (∀ ns ∈ ys, RingOk js ns) → (ys = [] → ∀ (k : Nat) (j : Jn), js[k]? = some j → Fits js (rs.map (·.2)) k) → R (.f (ys.map tN)) ms
theorem len_odd_rings : ∀ as ms R, Φ_odd_rings as ms R → as.length = 3 := ph3_len
theorem rd_odd_rings {K : PySem.W.Frag} : ∀ as ms R, Φ_odd_rings as ms R → S K (t_odd_rings K Φ_ring_closed) (as ++ List.replicate (8 - as.length) .u) ms (fin R) := by
  rintro as ms R ⟨a, b, c, rfl, m, js, fs, rs, rfl, rfl, rfl, hw, s, hall, r⟩
  have jl := hw.len
  unfold t_odd_rings
  refine s_new (e_lst (ea_nil ⟨[], rfl, Nat.zero_le _, _, rfl, ?_⟩))
  refine s_seq (s_forEL (js := [4, 5, 6, 7]) (ea_cons (e_var rfl (ea_nil ⟨_, _, rfl, .d _, fun i ds' ms' => ∃ (ys : List (List Nat)) (o4 o5 o6 o7 : SD), (∀ ns ∈ ys, RingOk js ns) ∧ ys.length ≤ i ∧ (ys = [] → ∀ (k : Nat) (j : Jn), k < i → js[k]? = some j → Fits js (rs.map (·.2)) k) ∧
    ds' = [.d (.list (js.map encJ)), .d (.dict (kD (dM rs))), .d (.dict (kD (dW rs))), .m ms.length, o4, o5, o6, o7] ∧ ms' = ms ++ [.l (ys.map tN)], ⟨[], .u, .u, .u, .u, (fun ns h => by cases h), Nat.le_refl _, (fun _ k j hk => by omega), rfl, rfl⟩, ?_, ?_⟩))))
  · rintro i e ds' ms' hi ⟨ys, o4, o5, o6, o7, hys, hyl, hfit, rfl, rfl⟩
    rw [List.getElem?_map] at hi
    cases q : js[i]? with
    | none => rw [q] at hi; cases hi
    | some j =>
      rw [q] at hi
      have e1 := (Option.some.inj hi).symm
      subst e1
      have hil := (List.getElem?_eq_some_iff.mp q).1
      obtain ⟨t1, t2, tn, t3⟩ := hw.all j (List.mem_of_getElem? q)
      obtain ⟨r1, h1, p1⟩ := hall j.1 t1
      obtain ⟨r2, h2, p2⟩ := hall j.2.1 t2
      obtain ⟨_, _, ok1, _⟩ := s.ok r1 h1
      obtain ⟨_, _, ok2, _⟩ := s.ok r2 h2
      have v1 := valF_some (key := fun r : Row => r.2.1) (v := fun r : Row => PyData.int r.2.2.1) h1 s.keys
      have v2 := valF_some (key := fun r : Row => r.2.1) (v := fun r : Row => PyData.int r.2.2.1) h2 s.keys
      have u1 := valF_some (key := fun r : Row => r.2.1) (v := fun r : Row => tN r.2.2.2) h1 s.keys
      have u2 := valF_some (key := fun r : Row => r.2.1) (v := fun r : Row => tN r.2.2.2) h2 s.keys
      rw [p1] at v1 u1
      rw [p2] at v2 u2
      refine eg_tup rfl (egs_cons (eg_name (egs_cons (eg_tup rfl (egs_cons (eg_name (egs_cons (eg_name (egs_cons (eg_name (egs_nil (egs_nil ?_))))))))))))
      refine s_if (et_test (e_op (e_op (e_dget (e_var rfl (e_var rfl ⟨_, .inl (j.1 : Int), _, .d (dM rs), rfl, v1, ?_⟩))))))
      refine e_dget (e_var rfl (e_var rfl ⟨_, .inl (j.2.1 : Int), _, .d (dM rs), rfl, v2, rr_I0 ⟨_, _, rfl, rfl, ?_⟩⟩))
      rw [xor2 ok1.bit ok2.bit]
      refine e_var rfl (rr_ne ⟨_, _, .d _, .d _, rfl, rfl, ?_⟩)
      have eq : PyData.eqv (.int (((r1.2.2.1 + r2.2.2.1) % 2 : Nat) : Int)) (.int (j.2.2 : Nat)) = decide ((r1.2.2.1 + r2.2.2.1) % 2 = j.2.2) := by
        show ((((r1.2.2.1 + r2.2.2.1) % 2 : Nat) : Int) == ((j.2.2 : Nat) : Int)) = _
        by_cases z : (r1.2.2.1 + r2.2.2.1) % 2 = j.2.2
        · rw [z]; simp
        · rw [decide_eq_false z]
          simp
          omega
      rw [eq]
      refine ⟨_, rfl, fun hb => ?_, fun hb => ?_⟩
      · have odd : (r1.2.2.1 + r2.2.2.1) % 2 ≠ j.2.2 := by simpa using hb
        have len : ∀ {f : Nat} {e : Ent}, EOk js f (rs.map (·.2)) e → e.2.2.length ≤ 1000 := fun {f e} ok => by
          have := nd_len js.length e.2.2 ok.nd (fun k hk => by
            obtain ⟨_, _, _, _, _, g1, _⟩ := ok.fit k hk
            exact (List.getElem?_eq_some_iff.mp g1).1)
          omega
        refine s_drop (e_append (e_varm rfl ⟨_, rfl, e_call (ea_cons (e_dget (e_var rfl (e_var rfl ⟨_, .inl (j.1 : Int), _, .d (dW rs), rfl, u1, ?_⟩)))) ⟩))
        refine ea_cons (e_dget (e_var rfl (e_var rfl ⟨_, .inl (j.2.1 : Int), _, .d (dW rs), rfl, u2, ?_⟩)))
        refine ea_cons (e_var rfl (ea_nil ⟨_, _, _, rfl, r1.2.2.2, r2.2.2.2, i, rfl, rfl, rfl, len ok1, len ok2, fun ns hp hs => ?_⟩))
        have ring := ring_of hw s q h1 h2 p1 p2 odd hp hs
        refine ⟨_, _, rfl, (by simp : (ms ++ [MD.l (ys.map tN)])[ms.length]? = some (.l (ys.map tN))), by rw [List.length_map]; omega, ?_⟩
        refine ⟨ys ++ [ns], _, _, _, _, fun n hn => ?_, by simp; omega, (fun z => by simp at z), rfl, by simp⟩
        rcases List.mem_append.mp hn with z | z
        · exact hys n z
        · have : n = ns := by simpa using z
          subst this
          exact ring
      · have fit : (r1.2.2.1 + r2.2.2.1) % 2 = j.2.2 := by simpa using hb
        refine s_next ⟨ys, _, _, _, _, hys, by omega, fun z k j' hk hj' => ?_, rfl, rfl⟩
        by_cases hki : k = i
        · subst hki
          rw [q] at hj'
          cases hj'
          refine ⟨j, r1.2.2.1, r1.2.2.2, r2.2.2.1, r2.2.2.2, q, List.mem_map.mpr ⟨r1, h1, ?_⟩, List.mem_map.mpr ⟨r2, h2, ?_⟩, fit⟩
          · rw [← p1]
          · rw [← p2]
        · exact hfit z k j' (by omega) hj'
  · rintro ds' ms' ⟨ys, o4, o5, o6, o7, hys, hyl, hfit, rfl, rfl⟩
    refine s_ret (e_varm rfl ⟨ms, _, rfl, rfl, ?_⟩)
    show R (if ms.length = ms.length then .f (ys.map tN) else .m ms.length) ms
    rw [if_pos rfl]
    exact r ys hys fun z k j hj => hfit z k j (by rw [List.length_map]; exact (List.getElem?_eq_some_iff.mp hj).1) hj

def Φ_parted : Ph := ph2 fun a b ms R => ∃ (m : Nat) (js : List Jn), a = .d (.int m) ∧ b = .d (.list (js.map encJ)) ∧ JOk m js ∧
  (∀ ns, RingOk js ns → R (.d (.tuple [.str "ring", tN ns])) ms) ∧
  ∀ (fs : List Nat) (rs : List Row) (G C : Nat → Nat), SOk m js fs rs → (∀ p, p < m → ∃ w, ((G p, p, C p, w) : Row) ∈ rs) → (∀ (k : Nat) (j : Jn), js[k]? = some j → Fits js (rs.map (·.2)) k) →
    R (t3S "groups" ((List.range m).map fun p => (G p : Int)) (tN ((List.range m).map C))) ms
theorem len_parted : ∀ as ms R, Φ_parted as ms R → as.length = 2 := ph2_len
theorem range_snocN (i : Nat) (G : Nat → Nat) : ((List.range (i + 1)).map G).map (fun (k : Nat) => PyData.int k) = ((List.range i).map G).map (fun (k : Nat) => PyData.int k) ++ [PyData.int (G i)] := by
  rw [List.range_succ, List.map_append, List.map_append]
  rfl
theorem rd_parted {K : PySem.W.Frag} : ∀ as ms R, Φ_parted as ms R → S K (t_parted K Φ_spread Φ_odd_rings) (as ++ List.replicate (7 - as.length) .u) ms (fin R) := by
  rintro as ms R ⟨a, b, rfl, m, js, rfl, rfl, hw, r1, r2⟩
  have hm60 := hw.m60
  unfold t_parted
  refine s_seq (s_asgG (js := [2, 3, 4]) (e_call (ea_cons (e_var rfl (ea_cons (e_var rfl (ea_nil ⟨_, _, rfl, m, js, rfl, rfl, hw, fun fs rs s hall => ?_⟩)))))))
  refine eg_tup rfl (egs_cons (eg_name (egs_cons (eg_name (egs_cons (eg_name (egs_nil ?_)))))))
  refine s_seq (s_asg (e_call (ea_cons (e_var rfl (ea_cons (e_var rfl (ea_cons (e_var rfl (ea_nil ⟨_, _, _, rfl, m, js, fs, rs, rfl, rfl, rfl, hw, s, hall, fun ys hys hfit => ?_⟩)))))))))
  refine s_seq (s_if (et_tru (e_var rfl ⟨_, .inl (.d _), fun hb => ?_, fun hb => ?_⟩)))
  · have hne : 0 < (ys.map tN).length := by
      cases ys with
      | nil => simp at hb
      | cons y t => simp
    refine s_ret (e_tup (ea_cons (e_str (ea_cons (e_minL (ea_cons (e_var rfl (ea_nil ⟨_, ⟨_, rfl, .d _⟩, hne, fun e he => ?_, fun e he => ?_⟩))))))))
    · obtain ⟨n, _, rfl⟩ := List.mem_map.mp he
      exact ⟨_, rfl⟩
    · obtain ⟨n, hn, rfl⟩ := List.mem_map.mp he
      refine ea_nil ⟨[_, _], rfl, Nat.le_of_ble_eq_true rfl, ?_⟩
      exact r1 n (hys n hn)
  · have hy0 : ys = [] := by
      cases ys with
      | nil => rfl
      | cons y t => simp at hb
    refine s_next ?_
    have hall' : ∀ p : Nat, ∃ r : Row, p < m → r ∈ rs ∧ r.2.1 = p := fun p => by
      by_cases hp : p < m
      · obtain ⟨r, h1, h2⟩ := hall p hp
        exact ⟨r, fun _ => ⟨h1, h2⟩⟩
      · exact ⟨(0, 0, 0, []), fun z => absurd z hp⟩
    obtain ⟨F, hF⟩ := Classical.axiomOfChoice hall'
    have vg : ∀ p, p < m → valD (dG rs) (.inl (p : Int)) = some (.int ((F p).1 : Nat)) := fun p hp => by
      have := valF_some (key := fun r : Row => r.2.1) (v := fun r : Row => PyData.int r.1) (hF p hp).1 s.keys
      rw [(hF p hp).2] at this
      exact this
    have vc : ∀ p, p < m → valD (dM rs) (.inl (p : Int)) = some (.int ((F p).2.2.1 : Nat)) := fun p hp => by
      have := valF_some (key := fun r : Row => r.2.1) (v := fun r : Row => PyData.int r.2.2.1) (hF p hp).1 s.keys
      rw [(hF p hp).2] at this
      exact this
    refine s_ret (e_tup3 (e_cb (ea_cons (e_lcR (js := [6]) (by simp) (ea_cons (e_var rfl (ea_nil ⟨_, rfl, by omega, fun i acc ms' => acc = ((List.range i).map fun p => (F p).1).map (fun (k : Nat) => PyData.int k) ∧ ms = ms', ⟨rfl, rfl⟩, ?_, ?_⟩)))))))
    · rintro i acc _ hi ⟨rfl, hms⟩
      subst hms
      have hi' : i < m := by omega
      refine eg_name (et_yes ⟨fun _ => e_dget (e_var rfl (e_var rfl ⟨_, .inl (i : Int), _, .d (dG rs), rfl, vg i hi', ⟨_, rfl, ?_, rfl⟩⟩)), nofun⟩)
      rw [range_snocN]
    rintro acc _ ⟨rfl, hms⟩
    subst hms
    have eg : ((List.range (((m : Nat) : Int)).toNat).map fun p => (F p).1).map (fun (k : Nat) => PyData.int k) = ((List.range m).map fun p => ((F p).1 : Int)).map .int := by
      rw [show (((m : Nat) : Int)).toNat = m by omega, List.map_map, List.map_map]
      rfl
    rw [eg]
    refine ea_nil (rc_tupF ⟨_, _, rfl, .d _, _, rfl, ?_⟩)
    refine e_cb (ea_cons (e_lcR (js := [6]) (by simp) (ea_cons (e_var rfl (ea_nil ⟨_, rfl, by omega, fun i acc ms' => acc = ((List.range i).map fun p => (F p).2.2.1).map (fun (k : Nat) => PyData.int k) ∧ ms = ms', ⟨rfl, rfl⟩, ?_, ?_⟩)))))
    · rintro i acc _ hi ⟨rfl, hms⟩
      subst hms
      have hi' : i < m := by omega
      refine eg_name (et_yes ⟨fun _ => e_dget (e_var rfl (e_var rfl ⟨_, .inl (i : Int), _, .d (dM rs), rfl, vc i hi', ⟨_, rfl, ?_, rfl⟩⟩)), nofun⟩)
      rw [range_snocN]
    rintro acc _ ⟨rfl, hms⟩
    subst hms
    refine ea_nil (rc_tuple ⟨_, _, rfl, .inl (.d _), _, rfl, ?_⟩)
    refine r2 fs rs (fun p => (F p).1) (fun p => (F p).2.2.1) s (fun p hp => ⟨(F p).2.2.2, ?_⟩) (hfit hy0)
    have h1 := (hF p hp).1
    have h2 := (hF p hp).2
    generalize F p = q at h1 h2 ⊢
    obtain ⟨q1, q2, q3, q4⟩ := q
    have h2 : q2 = p := h2
    subst h2
    exact h1

def Φ_common_divisor : Ph := ph2 fun a b ms R => ∃ i j, a = .d (.int i) ∧ b = .d (.int j) ∧ R (.d (.int (Int.gcd i j))) ms
theorem len_common_divisor : ∀ as ms R, Φ_common_divisor as ms R → as.length = 2 := ph2_len
theorem rd_common_divisor {K : PySem.W.Frag} : ∀ as ms R, Φ_common_divisor as ms R → S K (t_common_divisor K) (as ++ List.replicate (2 - as.length) .u) ms (fin R) := by
  rintro as ms R ⟨a, b, rfl, i, j, rfl, rfl, r⟩
  unfold t_common_divisor
  walk_at "evs"
  rw [abs_nat, abs_nat]
  refine s_while (fun m ds ms' => ∃ x y : Nat, ds = [.d (.int x), .d (.int y)] ∧ ms' = ms ∧ Nat.gcd x y = Int.gcd i j ∧ m = y) j.natAbs ⟨i.natAbs, j.natAbs, rfl, rfl, rfl, rfl⟩ ?_
  rintro m ds ms' ⟨x, y, rfl, rfl, hg, hm⟩
  walk_at "evs"
  refine rr_ne ⟨_, _, .d _, .d _, shaped_int _, shaped_int _, _, rfl, ?_, ?_⟩
  · intro h
    walk_at "evs"
    have hy : y ≠ 0 := by
      intro z
      subst z
      rw [eqv_int] at h
      simp at h
    refine rr_I ⟨_, _, rfl, rfl, by omega, ?_⟩
    walk_at "evs"
    rw [fmod_nat]
    exact ⟨x % y, by rw [hm]; exact Nat.mod_lt _ (by omega), y, x % y, rfl, rfl, by rw [gcd_step]; exact hg, rfl⟩
  · intro h
    walk_at "evs"
    have hy : y = 0 := by
      rw [eqv_int] at h
      simp at h
      omega
    subst hy
    rw [Nat.gcd_zero_right] at hg
    rw [hg]
    exact r

def Φ_as_fraction : Ph := ph2 fun a b ms R => ∃ i j, a = .d (.int i) ∧ b = .d (.int j) ∧ j ≠ 0 ∧ Bd 8000 j ∧ R (.d (pr (fr i j))) ms
theorem len_as_fraction : ∀ as ms R, Φ_as_fraction as ms R → as.length = 2 := ph2_len
theorem rd_as_fraction {K : PySem.W.Frag} : ∀ as ms R, Φ_as_fraction as ms R → S K (t_as_fraction K Φ_common_divisor) (as ++ List.replicate (3 - as.length) .u) ms (fin R) := by
  rintro as ms R ⟨a, b, rfl, i, j, rfl, rfl, hj, hb, r⟩
  have hg : 0 < Int.gcd i j := Int.gcd_pos_of_ne_zero_right i hj
  have hgb : Bd 8000 (Int.gcd i j : Int) := hb.le (by
    have := Int.gcd_le_natAbs_right i hj
    omega)
  unfold t_as_fraction
  walk_at "evs"
  refine ⟨_, _, rfl, i, j, rfl, rfl, ?_⟩
  walk_at "evs"
  refine ⟨fun h => ?_, fun h => ?_⟩
  · walk_at "evs"
    refine rr_I ⟨_, _, rfl, rfl, ⟨by omega, hgb.neg⟩, ?_⟩
    walk_at "evs"
    refine rr_I ⟨_, _, rfl, rfl, ⟨by omega, hgb.neg⟩, ?_⟩
    walk_at "evs"
    have e : fr i j = (i.fdiv (-(Int.gcd i j : Int)), j.fdiv (-(Int.gcd i j : Int))) := if_pos (by simpa using h)
    rw [e] at r
    exact r
  · walk_at "evs"
    refine rr_I ⟨_, _, rfl, rfl, ⟨by omega, hgb⟩, ?_⟩
    walk_at "evs"
    refine rr_I ⟨_, _, rfl, rfl, ⟨by omega, hgb⟩, ?_⟩
    walk_at "evs"
    have e : fr i j = (i.fdiv (Int.gcd i j), j.fdiv (Int.gcd i j)) := if_neg (by simpa using h)
    rw [e] at r
    exact r

/-! ### who stands beside a point -/
abbrev nI (l : List Nat) : List PyData := l.map fun (k : Nat) => .int k
def nbO (t : Tie) (p : Nat) : Option Nat := if t.1 = p then some t.2.1 else if t.2.1 = p then some t.1 else none
def nb (ts : List Tie) (p : Nat) : List Nat := ts.filterMap fun t => nbO t p
def nbP (ts : List Tie) (m : Nat) : List (List PyData) := (List.range m).map fun p => nI (nb ts p)
/-- the same, rising -/
def srtI (l : List Int) : List Int := l.mergeSort fun a b => decide (a ≤ b)
def nbS (ts : List Tie) (p : Nat) : List Int := srtI ((nb ts p).map fun (k : Nat) => (k : Int))
theorem srtI_perm (l : List Int) : (srtI l).Perm l := List.mergeSort_perm l _
theorem srtI_le (l : List Int) : (srtI l).Pairwise (· ≤ ·) := (List.pairwise_mergeSort (le := fun a b => decide (a ≤ b)) (fun a b c h1 h2 => by simp at *; omega) (fun a b => by simp; omega) l).imp fun h => of_decide_eq_true h
theorem perm_le_eq : ∀ {a b : List Int}, a.Perm b → a.Pairwise (· ≤ ·) → b.Pairwise (· ≤ ·) → a = b
  | [], b, h, _, _ => h.nil_eq
  | x :: a, [], h, _, _ => absurd h.length_eq (by simp)
  | x :: a, y :: b, h, ha, hb => by
    have hx : x ∈ y :: b := h.mem_iff.mp (List.mem_cons_self ..)
    have hy : y ∈ x :: a := h.mem_iff.mpr (List.mem_cons_self ..)
    have ha1 := (List.pairwise_cons.mp ha).1
    have hb1 := (List.pairwise_cons.mp hb).1
    have e : x = y := by
      rcases List.mem_cons.mp hx with z | z
      · exact z
      rcases List.mem_cons.mp hy with w | w
      · exact w.symm
      · have := hb1 x z
        have := ha1 y w
        omega
    subst e
    rw [perm_le_eq (List.Perm.cons_inv h) (List.pairwise_cons.mp ha).2 (List.pairwise_cons.mp hb).2]
theorem srtI_is {l g : List Int} (pm : g.Perm l) (so : g.Pairwise (· ≤ ·)) : g = srtI l := perm_le_eq (pm.trans (srtI_perm l).symm) so (srtI_le l)
theorem nb_len (ts : List Tie) (p : Nat) : (nb ts p).length ≤ ts.length := List.length_filterMap_le _ _
theorem nb_get (ts : List Tie) {m p : Nat} (h : p < m) : (nbP ts m)[p]? = some (nI (nb ts p)) := by
  unfold nbP
  rw [List.getElem?_map, List.getElem?_range h]
  rfl
theorem nb_snoc (ts : List Tie) (t : Tie) {m : Nat} (h1 : t.1 < t.2.1) (h2 : t.2.1 < m) :
    nbP (ts ++ [t]) m = ((nbP ts m).set t.1 (nI (nb ts t.1) ++ [.int (t.2.1 : Nat)])).set t.2.1 (nI (nb ts t.2.1) ++ [.int (t.1 : Nat)]) := by
  apply List.ext_getElem?
  intro p
  have hl : (nbP ts m).length = m := by simp [nbP]
  by_cases hp : p < m
  · rw [nb_get _ hp]
    unfold nb
    rw [List.filterMap_append, nI, List.map_append]
    by_cases e2 : p = t.2.1
    · subst e2
      rw [List.getElem?_set_self (by rw [List.length_set, hl]; exact h2)]
      unfold nbO
      rw [List.filterMap_cons, if_neg (by omega), if_pos rfl]
      rfl
    · rw [List.getElem?_set_ne (Ne.symm e2)]
      by_cases e1 : p = t.1
      · subst e1
        rw [List.getElem?_set_self (by omega)]
        unfold nbO
        rw [List.filterMap_cons, if_pos rfl]
        rfl
      · rw [List.getElem?_set_ne (Ne.symm e1), nb_get _ hp]
        unfold nb nbO
        rw [List.filterMap_cons, if_neg (Ne.symm e1), if_neg (Ne.symm e2)]
        simp
  · rw [List.getElem?_eq_none (by simp [nbP]; omega), List.getElem?_eq_none (by simp [nbP]; omega)]
theorem rows_set (n : Nat) (ms : List MD) (ess : List (List PyData)) (hn : ms.length = n) {p : Nat} (hp : p < ess.length) (x : List PyData) : (ms ++ rowsM n ess).set (n + p) (.l x) = ms ++ rowsM n (ess.set p x) := by
  subst hn
  rw [List.set_append_right _ _ (by omega)]
  unfold rowsM
  have : ms.length + p - ms.length = p := by omega
  rw [this, List.set_append_left _ _ (by simp; exact hp), List.map_set, List.length_set]
def Φ_neighbours : Ph := ph1 fun a ms R => ∃ (m : Nat) (ts : List Tie), a = .d (encW m ts) ∧ WebOk m ts ∧ R (.f ((List.range m).map fun p => .list ((nbS ts p).map .int))) ms
theorem len_neighbours : ∀ as ms R, Φ_neighbours as ms R → as.length = 1 := ph1_len
theorem rd_neighbours {K : PySem.W.Frag} : ∀ as ms R, Φ_neighbours as ms R → S K (t_neighbours K) (as ++ List.replicate (7 - as.length) .u) ms (fin R) := by
  rintro as ms R ⟨a, rfl, m, ts, rfl, hw, r⟩
  have hl := hw.len
  have hm60 := hw.m60
  have nl : ∀ us, (nbP us m).length = m := fun us => by simp [nbP]
  unfold t_neighbours
  refine s_assoc (s_mid (fun ds' ms' => ∃ o2 o3 o4 o5 o6 : SD, ds' = [.d (encW m ts), .d (.list ((nbP ts m).map .list)), o2, o3, o4, o5, o6] ∧ ms' = ms) (s_newLL ?_) ?_)
  · walk_at "evs"
    refine ⟨by omega, ?_⟩
    have h0 : List.replicate m ([] : List PyData) = nbP [] m := by
      apply List.ext_getElem?
      intro p
      by_cases hp : p < m
      · rw [nb_get _ hp, List.getElem?_replicate, if_pos hp]
        rfl
      · rw [List.getElem?_eq_none (by simp; omega), List.getElem?_eq_none (by simp [nbP]; omega)]
    refine s_forT (js := [3, 4, 5]) (e_op (e_var rfl (e_int (rr_ix ⟨_, _, _, .inr (.d _), rfl, atI_nat (j := 1) rfl, _, rfl, fun k ds' ms' => ∃ o2 o3 o4 o5 o6 : SD, ds' = [.d (encW m ts), .m (ms.length + m), o2, o3, o4, o5, o6] ∧ ms' = ms ++ rowsM ms.length (nbP (ts.take k) m), ⟨.u, .u, .u, .u, .u, rfl, by rw [h0]; rfl⟩, ?_, ?_⟩))))
    · rintro k e ds' ms' he ⟨o2, o3, o4, o5, o6, rfl, rfl⟩
      rw [List.getElem?_map] at he
      cases q : ts[k]? with
      | none => rw [q] at he; cases he
      | some t =>
        rw [q] at he
        cases he
        have ht := hw.all t (List.mem_of_getElem? q)
        have t1 := ht.lt
        have t2 := ht.lm
        have kl : (ts.take k).length ≤ 170 := by rw [List.length_take]; omega
        refine eg_tup rfl (egs_cons (eg_name (egs_cons (eg_name (egs_cons (eg_name (egs_nil ?_)))))))
        have top : ∀ ess : List (List PyData), ess.length = m → (ms ++ rowsM ms.length ess)[ms.length + m]? = some (.r (List.range' ms.length m)) := fun ess e => by
          have := rows_top ms.length ms ess
          rw [e] at this
          exact this
        have rg : ∀ p, p < m → (List.range' ms.length m)[p]? = some (ms.length + p) := fun p hp => by
          rw [List.getElem?_range' hp]
          simp
        have c1 := nb_len (ts.take k) t.1
        have c2 := nb_len (ts.take k) t.2.1
        have g1 := nb_get (ts.take k) (show t.1 < m by omega)
        have g2 := nb_get (ts.take k) t2
        refine s_seq (s_drop (e_append (e_op (e_varm rfl (e_var rfl (rr_ixR ⟨ms.length + m, t.1, ms.length + t.1, _, rfl, rfl, top _ (nl _), rg _ (by omega), ⟨_, rows_at _ _ _ g1⟩, _, rfl, ?_⟩))))))
        refine e_var rfl ⟨_, _, rfl, rows_at _ _ _ g1, by rw [List.length_map]; omega, ?_⟩
        rw [rows_set _ _ _ rfl (by rw [nl]; omega)]
        have g3 : ((nbP (ts.take k) m).set t.1 (nI (nb (ts.take k) t.1) ++ [PyData.int (t.2.1 : Nat)]))[t.2.1]? = some (nI (nb (ts.take k) t.2.1)) := by
          rw [List.getElem?_set_ne (by omega)]
          exact g2
        have l3 : ((nbP (ts.take k) m).set t.1 (nI (nb (ts.take k) t.1) ++ [PyData.int (t.2.1 : Nat)])).length = m := by rw [List.length_set, nl]
        refine s_drop (e_append (e_op (e_varm rfl (e_var rfl (rr_ixR ⟨ms.length + m, t.2.1, ms.length + t.2.1, _, rfl, rfl, top _ l3, rg _ t2, ⟨_, rows_at _ _ _ g3⟩, _, rfl, ?_⟩)))))
        refine e_var rfl ⟨_, _, rfl, rows_at _ _ _ g3, by rw [List.length_map]; omega, ?_⟩
        rw [rows_set _ _ _ rfl (by rw [l3]; omega)]
        refine ⟨_, _, _, _, _, rfl, ?_⟩
        rw [take_snoc q, nb_snoc _ _ t1 t2]
    · rintro ds' ms' ⟨o2, o3, o4, o5, o6, rfl, rfl⟩
      rw [List.length_map, List.take_length]
      refine ⟨ms, _, rfl, rfl, nl _, ?_⟩
      have e : frzLS ms.length (nbP ts m) (.m (ms.length + m)) = .d (.list ((nbP ts m).map .list)) := by
        show (if ms.length + m < ms.length then _ else if ms.length + m = ms.length + (nbP ts m).length then _ else _) = _
        rw [if_neg (by omega), if_pos (by rw [nl])]
      exact ⟨frzLS ms.length (nbP ts m) o2, frzLS ms.length (nbP ts m) o3, frzLS ms.length (nbP ts m) o4, frzLS ms.length (nbP ts m) o5, frzLS ms.length (nbP ts m) o6, congrArg (fun z => [SD.d (encW m ts), z, frzLS ms.length (nbP ts m) o2, frzLS ms.length (nbP ts m) o3, frzLS ms.length (nbP ts m) o4, frzLS ms.length (nbP ts m) o5, frzLS ms.length (nbP ts m) o6]) e, rfl⟩
  rintro ds' ms' ⟨o2, o3, o4, o5, o6, rfl, rfl⟩
  refine s_ret (e_lcL (js := [6]) (by simp) (e_var rfl ⟨_, .d _, by rw [List.length_map, nl]; omega, fun k acc ms2 => acc = ((List.range k).map fun p => PyData.list ((nbS ts p).map .int)) ∧ ms2 = ms', ⟨rfl, rfl⟩, ?_, ?_⟩))
  · rintro k e acc ms2 he ⟨rfl, rfl⟩
    have hk : k < m := by
      have := (List.getElem?_eq_some_iff.mp he).1
      rwa [List.length_map, nl] at this
    rw [List.getElem?_map, nb_get _ hk] at he
    cases he
    refine eg_name (et_yes ⟨fun _ => ?_, nofun⟩)
    have en : nI (nb ts k) = ((nb ts k).map fun (k : Nat) => (k : Int)).map PyData.int := by rw [List.map_map]; rfl
    refine e_cb (ea_cons (e_var rfl (ea_nil (rc_sorted ⟨_, (nb ts k).map fun (k : Nat) => (k : Int), rfl, by rw [en]; exact .d _, fun l pm so => ?_⟩))))
    refine ⟨_, rfl, ?_, rfl⟩
    rw [List.range_succ, List.map_append, srtI_is pm so]
    rfl
  · rintro acc ms2 ⟨rfl, rfl⟩
    rw [List.length_map, nl]
    exact r

def intsOf (es : List PyData) : List Int := es.filterMap fun e => match e with | .int i => some i | _ => none
/-- the thing is a tuple of just these, in any order -/
def roundB (m : Int) (ns : List Int) : PyData → Bool
  | .tuple es => es.all (numB m) && decide (srtI (intsOf es) = ns)
  | _ => false
theorem ints_inv {m : Int} : ∀ {es : List PyData}, es.all (numB m) = true → es = (intsOf es).map .int ∧ ∀ i ∈ intsOf es, 0 ≤ i ∧ i < m
  | [], _ => ⟨rfl, nofun⟩
  | e :: r, h => by
    rw [List.all_cons, Bool.and_eq_true] at h
    obtain ⟨h1, h2⟩ := h
    obtain ⟨i1, i2⟩ := ints_inv h2
    cases e with
    | int i =>
      have h1 : (decide (0 ≤ i) && decide (i < m)) = true := h1
      rw [Bool.and_eq_true] at h1
      have e : intsOf (.int i :: r) = i :: intsOf r := rfl
      refine ⟨by rw [e, List.map_cons, ← i1], fun j hj => ?_⟩
      rw [e] at hj
      rcases List.mem_cons.mp hj with rfl | hj
      · exact ⟨of_decide_eq_true h1.1, of_decide_eq_true h1.2⟩
      · exact i2 j hj
    | _ => cases h1
theorem eqv_intL : ∀ a b : List Int, PyData.eqv (.list (a.map .int)) (.list (b.map .int)) = decide (a = b) := fun a b => by
  show PyData.eqvAll (a.map .int) (b.map .int) = _
  induction a generalizing b with
  | nil => cases b <;> rfl
  | cons x r ih =>
    cases b with
    | nil => rfl
    | cons y s =>
      show (PyData.eqv (.int x) (.int y) && PyData.eqvAll (r.map .int) (s.map .int)) = _
      rw [ih s, eqv_int]
      by_cases h1 : x = y
      · subst h1
        by_cases h2 : r = s
        · subst h2; simp
        · simp [h2]
      · simp [h1]
theorem shp_intL (a : List Int) : SeqAt.shaped (.list (a.map .int)) = true := (Shp.lst (Shp.ints a)).ok (by decide)
def Φ_is_round_of : Ph := ph3 fun a b c ms R => ∃ (m : Int) (ns : List Int) (x : PyData), a = .d (.int m) ∧ b = .d (.list (ns.map .int)) ∧ c = .d x ∧ (∀ es, x = .tuple es → es.length ≤ 10000) ∧ R (.d (.bool (roundB m ns x))) ms
theorem len_is_round_of : ∀ as ms R, Φ_is_round_of as ms R → as.length = 3 := ph3_len
theorem rd_is_round_of {K : PySem.W.Frag} : ∀ as ms R, Φ_is_round_of as ms R → S K (t_is_round_of K Φ_is_number_of) (as ++ List.replicate (4 - as.length) .u) ms (fin R) := by
  rintro as ms R ⟨a, b, c, rfl, m, ns, x, rfl, rfl, rfl, hz, r⟩
  unfold t_is_round_of
  walk_at "evs"
  rw [inst_tup]
  refine ⟨fun h => ⟨fun _ => ?_, nofun⟩, fun h => ?_⟩
  · have e : roundB m ns x = false := by
      cases x with
      | tuple _ => cases h
      | _ => rfl
    rw [e] at r
    exact s_ret (e_bl r)
  obtain ⟨es, rfl⟩ := tup_inv (by simpa using h)
  have hz := hz es rfl
  refine et_not (et_B (e_cb (ea_cons (e_lcT (js := [3]) (by simp) (e_var rfl ⟨_, rfl, hz, fun i acc ms' => acc = ((es.take i).map (numB m)).map .bool ∧ ms' = ms, ⟨rfl, rfl⟩, ?_, ?_⟩)))))
  · rintro i e acc ms' hi ⟨rfl, rfl⟩
    refine eg_name (et_yes ⟨fun _ => e_call (ea_cons (e_var rfl (ea_cons (e_var rfl (ea_nil ⟨_, _, rfl, m, e, rfl, rfl, _, rfl, ?_, rfl⟩))))), nofun⟩)
    rw [take_snoc hi, List.map_append, List.map_append]
    rfl
  rintro acc ms' ⟨rfl, rfl⟩
  refine ea_nil (rc_all ⟨_, (es.take es.length).map (numB m), rfl, .d _, _, rfl, fun h2 => ?_, fun h2 => ?_⟩)
  all_goals rw [List.take_length, List.all_map] at h2
  · have h2 : es.all (numB m) = false := by simpa using h2
    have e : roundB m ns (.tuple es) = false := by
      show (es.all (numB m) && _) = _
      rw [h2, Bool.false_and]
    rw [e] at r
    exact s_ret (e_bl r)
  · have h2 : es.all (numB m) = true := by simpa using h2
    obtain ⟨i1, _⟩ := ints_inv h2
    have e : roundB m ns (.tuple es) = decide (srtI (intsOf es) = ns) := by
      show (es.all (numB m) && _) = _
      rw [h2, Bool.true_and]
    rw [e] at r
    generalize intsOf es = is at i1 r
    subst i1
    refine s_next (s_ret (e_op (e_cb (ea_cons (e_var rfl (ea_nil (rc_sortT ⟨is, rfl, fun l pm so => ?_⟩)))))))
    rw [srtI_is pm so]
    refine e_var rfl (rr_eq ⟨_, _, .d _, .d _, shp_intL _, shp_intL _, ?_⟩)
    rw [eqv_intL]
    exact r

/-- turns of a web -/
def turnsB (m : Nat) (ts : List Tie) : PyData → Bool
  | .tuple rows => decide (rows.length = m) && (List.range m).all fun p => roundB m (nbS ts p) (rows.getD p .none)
  | _ => false
/-- no row is beyond measure -/
def RowsT (x : PyData) : Prop := ∀ rows, x = .tuple rows → rows.length ≤ 10000 ∧ ∀ e ∈ rows, ∀ es, e = .tuple es → es.length ≤ 10000
def Φ_are_turns : Ph := ph2 fun a b ms R => ∃ (m : Nat) (ts : List Tie) (x : PyData), a = .d (encW m ts) ∧ b = .d x ∧ WebOk m ts ∧ RowsT x ∧ R (.d (.bool (turnsB m ts x))) ms
theorem len_are_turns : ∀ as ms R, Φ_are_turns as ms R → as.length = 2 := ph2_len
theorem rd_are_turns {K : PySem.W.Frag} : ∀ as ms R, Φ_are_turns as ms R → S K (t_are_turns K Φ_neighbours Φ_is_round_of) (as ++ List.replicate (4 - as.length) .u) ms (fin R) := by
  rintro as ms R ⟨a, b, rfl, m, ts, x, rfl, rfl, hw, hz, r⟩
  have m60 := hw.m60
  unfold t_are_turns
  walk_at "evs"
  rw [inst_tup]
  refine ⟨fun h => ⟨fun _ => ?_, nofun⟩, fun h => ?_⟩
  · have e : turnsB m ts x = false := by
      cases x with
      | tuple _ => cases h
      | _ => rfl
    rw [e] at r
    exact s_ret (e_bl r)
  obtain ⟨rows, rfl⟩ := tup_inv (by simpa using h)
  obtain ⟨hz1, hz2⟩ := hz rows rfl
  refine et_test (e_op (e_cb (ea_cons (e_var rfl (ea_nil (rc_len ⟨_, rows, rfl, .inr (.d _), e_op (e_var rfl (e_int (rr_ix ⟨_, _, _, .inr (.d _), rfl, atI_nat (j := 0) rfl, rr_ne ⟨_, _, .d _, .d _, shaped_int _, shaped_int _, _, rfl, fun h2 => ?_, fun h2 => s_next ?_⟩⟩)))⟩))))))
  · have h3 : ¬ rows.length = m := fun z => by
      rw [eqv_int, z] at h2
      simp at h2
    have e : turnsB m ts (.tuple rows) = false := by
      show (decide (rows.length = m) && _) = _
      rw [decide_eq_false h3, Bool.false_and]
    rw [e] at r
    exact s_ret (e_bl r)
  have h3 : rows.length = m := by
    rw [eqv_int] at h2
    simp at h2
    omega
  have e : turnsB m ts (.tuple rows) = ((List.range m).map fun p => roundB m (nbS ts p) (rows.getD p .none)).all id := by
    show (decide (rows.length = m) && _) = _
    rw [decide_eq_true h3, Bool.true_and, List.all_map]
    rfl
  rw [e] at r
  have ln : ((List.range m).map fun p => PyData.list ((nbS ts p).map .int)).length = m := by simp
  refine s_ret (e_cb (ea_cons (e_lcZN (js := [2, 3]) (by simp) (ea_cons (e_call (ea_cons (e_var rfl (ea_nil ⟨_, rfl, m, ts, rfl, hw, ea_cons (e_var rfl (ea_nil ⟨_, _, rows, rfl, .d _, by rw [ln]; omega, fun i acc ms' => acc = ((List.range i).map fun p => roundB m (nbS ts p) (rows.getD p .none)).map .bool ∧ ms' = ms, ⟨rfl, rfl⟩, ?_, ?_⟩))⟩))))))))
  · rintro i e f acc ms' he hf ⟨rfl, rfl⟩
    have hi : i < m := by
      have := (List.getElem?_eq_some_iff.mp he).1
      rwa [ln] at this
    rw [List.getElem?_map, List.getElem?_range hi] at he
    cases he
    refine eg_tup rfl (egs_cons (eg_name (egs_cons (eg_name (egs_nil (et_yes ⟨fun _ => ?_, nofun⟩))))))
    refine e_call (ea_cons (e_op (e_var rfl (e_int (rr_ix ⟨_, _, _, .inr (.d _), rfl, atI_nat (j := 0) rfl, ea_cons (e_var rfl (ea_cons (e_var rfl (ea_nil ⟨_, _, _, rfl, m, nbS ts i, f, rfl, rfl, rfl, hz2 f (List.mem_of_getElem? hf), ?_⟩))))⟩)))))
    refine ⟨_, rfl, ?_, rfl⟩
    have ef : rows.getD i .none = f := by simp [List.getD, hf]
    rw [List.range_succ, List.map_append, List.map_append, ← ef]
    rfl
  rintro acc ms' ⟨rfl, rfl⟩
  rw [ln, h3, Nat.min_self]
  exact ea_nil (rc_all ⟨_, _, rfl, .d _, r⟩)

abbrev rwN (l : List Nat) : PyData := .tuple (nI l)
/-! ### which dart comes behind -/
abbrev Drt := Nat × Nat
def drK (d : Drt) : List Key := [.inl (d.1 : Int), .inl (d.2 : Int)]
def drI (d : Drt) : PyData := .tuple [.int (d.1 : Nat), .int (d.2 : Nat)]
theorem dr_row (d : Drt) : rowK (drK d) = drI d := rfl
/-- the darts of a row, each with the dart behind it -/
def entR (p : Nat) (row : List Nat) : List (Drt × Drt) := (List.range row.length).map fun i => ((row.getD i 0, p), (p, row.getD ((i + 1) % row.length) 0))
def entL (tt : List (List Nat)) (k : Nat) : List (Drt × Drt) := (List.range k).flatMap fun p => entR p (tt.getD p [])
def putL (m : List (List Key × PyData)) (l : List (Drt × Drt)) : List (List Key × PyData) := l.foldl (fun m e => putT m (drK e.1) (drI e.2)) m
def behT (tt : List (List Nat)) : List (List Key × PyData) := putL [] (entL tt tt.length)
theorem putL_app (m : List (List Key × PyData)) (a b : List (Drt × Drt)) : putL m (a ++ b) = putL (putL m a) b := List.foldl_append ..
theorem putT_len (m : List (List Key × PyData)) (k : List Key) (d : PyData) : (putT m k d).length ≤ m.length + 1 := by
  unfold putT
  split
  · rw [List.length_map]; omega
  · rw [List.length_append]; exact Nat.le_refl _
theorem putL_len : ∀ (l : List (Drt × Drt)) (m : List (List Key × PyData)), (putL m l).length ≤ m.length + l.length
  | [], m => Nat.le_refl _
  | e :: r, m => by
    have h := putL_len r (putT m (drK e.1) (drI e.2))
    have := putT_len m (drK e.1) (drI e.2)
    have e2 : putL m (e :: r) = putL (putT m (drK e.1) (drI e.2)) r := rfl
    rw [e2, List.length_cons]
    omega
theorem entL_snoc (tt : List (List Nat)) (k : Nat) : entL tt (k + 1) = entL tt k ++ entR k (tt.getD k []) := by
  unfold entL
  rw [List.range_succ, List.flatMap_append]
  simp
theorem entR_len (p : Nat) (row : List Nat) : (entR p row).length = row.length := by simp [entR]
theorem entL_len (tt : List (List Nat)) : ∀ k, k ≤ tt.length → (entL tt k).length = ((tt.take k).map (·.length)).sum
  | 0, _ => rfl
  | k + 1, h => by
    have ih := entL_len tt k (by omega)
    have q : tt[k]? = some (tt.getD k []) := by rw [List.getElem?_eq_getElem (by omega)]; simp [List.getD, show k < tt.length by omega]
    rw [entL_snoc, List.length_append, ih, entR_len, take_snoc q, List.map_append, List.sum_append]
    simp
theorem sum_take : ∀ (l : List Nat) (k : Nat), (l.take k).sum ≤ l.sum
  | [], k => by simp
  | a :: r, 0 => Nat.zero_le _
  | a :: r, k + 1 => by
    have := sum_take r k
    rw [List.take_succ_cons, List.sum_cons, List.sum_cons]
    omega
theorem ent_part (p : Nat) (row : List Nat) {i : Nat} (h : i < row.length) : (entR p row).take (i + 1) = (entR p row).take i ++ [((row.getD i 0, p), (p, row.getD ((i + 1) % row.length) 0))] := by
  refine take_snoc ?_
  unfold entR
  rw [List.getElem?_map, List.getElem?_range h]
  rfl
def Φ_darts_behind : Ph := ph1 fun a ms R => ∃ tt : List (List Nat), a = .d (.tuple (tt.map rwN)) ∧ tt.length ≤ 60 ∧ (tt.map (·.length)).sum ≤ 9000 ∧ R (.w (isT (behT tt))) ms
theorem len_darts_behind : ∀ as ms R, Φ_darts_behind as ms R → as.length = 1 := ph1_len
theorem rd_darts_behind {K : PySem.W.Frag} : ∀ as ms R, Φ_darts_behind as ms R → S K (t_darts_behind K) (as ++ List.replicate (6 - as.length) .u) ms (fin R) := by
  rintro as ms R ⟨a, rfl, tt, rfl, h60, hs, r⟩
  have la : ∀ A : MD, (ms ++ [A])[ms.length]? = some A := fun A => get1 ms A
  have sa : ∀ A B : MD, (ms ++ [A]).set ms.length B = ms ++ [B] := fun A B => set1 ms A B
  unfold t_darts_behind
  refine s_newW ?_
  refine s_seq (s_forET (js := [2, 3]) (ea_cons (e_var rfl (ea_nil ⟨_, rfl, fun k ds' ms' => ∃ o2 o3 o4 o5 : SD, ds' = [.d (.tuple (tt.map rwN)), .q ms.length, o2, o3, o4, o5] ∧ ms' = ms ++ [.t (putL [] (entL tt k))], ⟨_, _, _, _, rfl, rfl⟩, ?_, ?_⟩))))
  · rintro k e ds' ms' he ⟨o2, o3, o4, o5, rfl, rfl⟩
    rw [List.getElem?_map] at he
    cases q : tt[k]? with
    | none => rw [q] at he; cases he
    | some row =>
      rw [q] at he
      cases he
      have hk := (List.getElem?_eq_some_iff.mp q).1
      have eg : tt.getD k [] = row := by simp [List.getD, q]
      refine eg_tup rfl (egs_cons (eg_name (egs_cons (eg_name (egs_nil ?_)))))
      refine s_forET (js := [4, 5]) (ea_cons (e_var rfl (ea_nil ⟨_, rfl, fun i ds' ms' => ∃ o4 o5 : SD, ds' = [.d (.tuple (tt.map rwN)), .q ms.length, .d (.int (k : Nat)), .d (rwN row), o4, o5] ∧ ms' = ms ++ [.t (putL (putL [] (entL tt k)) ((entR k row).take i))], ⟨_, _, rfl, rfl⟩, ?_, ?_⟩)))
      · rintro i e ds' ms' he ⟨o4, o5, rfl, rfl⟩
        rw [List.getElem?_map] at he
        cases q2 : row[i]? with
        | none => rw [q2] at he; cases he
        | some b =>
          rw [q2] at he
          cases he
          have hi := (List.getElem?_eq_some_iff.mp q2).1
          have eb : row.getD i 0 = b := by simp [List.getD, q2]
          refine eg_tup rfl (egs_cons (eg_name (egs_cons (eg_name (egs_nil ?_)))))
          have e1 : (((i : Nat) : Int) + 1).fmod ((row.length : Nat) : Int) = (((i + 1) % row.length : Nat) : Int) := by
            rw [show ((i : Nat) : Int) + 1 = ((i + 1 : Nat) : Int) from rfl, Int.fmod_eq_emod_of_nonneg _ (by omega)]
            exact (Int.natCast_emod _ _).symm
          refine s_asgH (e_tup (ea_cons (e_var rfl (ea_cons (e_op (e_var rfl (e_op (e_op (e_var rfl (e_int (rr_I0 ⟨_, _, rfl, rfl, e_cb (ea_cons (e_var rfl (ea_nil (rc_len ⟨_, _, rfl, .inr (.d _), rr_I ⟨_, _, rfl, rfl, by rw [List.length_map]; omega, ?_⟩⟩))))⟩)))))))))))
          rw [List.length_map, e1]
          have lt2 : (i + 1) % row.length < row.length := Nat.mod_lt _ (by omega)
          refine rr_ix ⟨_, _, _, .inr (.d _), rfl, atI_nat (j := (i + 1) % row.length) (v := .int (row.getD ((i + 1) % row.length) 0 : Nat)) ?_, ea_nil ⟨[_, _], rfl, Nat.le_of_ble_eq_true rfl, ?_⟩⟩
          · rw [List.getElem?_map, List.getElem?_eq_getElem lt2]
            simp [List.getD, lt2]
          refine egh_setT (e_varq rfl ⟨_, rfl, e_tup (ea_cons (e_var rfl (ea_cons (e_var rfl (ea_nil ⟨[_, _], rfl, Nat.le_of_ble_eq_true rfl, drK (b, k), _, rfl, la _, ?_, ?_⟩)))))⟩)
          · have l1 := putL_len ((entR k row).take i) (putL [] (entL tt k))
            have l2 := putL_len (entL tt k) []
            have l3 := entL_len tt k (by omega)
            have l4 := sum_take (tt.map (·.length)) (k + 1)
            rw [← List.map_take, take_snoc q, List.map_append, List.sum_append] at l4
            have l5 : ((entR k row).take i).length ≤ row.length := by rw [List.length_take, entR_len]; omega
            have l6 : (([row] : List (List Nat)).map (·.length)).sum = row.length := by simp
            have l0 : ([] : List (List Key × PyData)).length = 0 := rfl
            omega
          rw [sa]
          refine ⟨_, _, rfl, ?_⟩
          rw [ent_part k row hi, putL_app, eb]
          rfl
      · rintro ds' ms' ⟨o4, o5, rfl, rfl⟩
        refine ⟨_, _, _, _, rfl, ?_⟩
        rw [List.length_map, ← entR_len k row, List.take_length, ← putL_app, entL_snoc, eg]
  · rintro ds' ms' ⟨o2, o3, o4, o5, rfl, rfl⟩
    rw [List.length_map]
    exact s_ret (e_varq rfl ⟨ms, _, rfl, rfl, .inr ⟨rfl, r⟩⟩)

/-! ### the round of darts from one on -/
def itD (β : Drt → Drt) : Nat → Drt → Drt
  | 0, d => d
  | k + 1, d => β (itD β k d)
theorem nodup_sub {α : Type} [DecidableEq α] : ∀ (l D : List α), l.Nodup → (∀ x ∈ l, x ∈ D) → l.length ≤ D.length
  | [], D, _, _ => Nat.zero_le _
  | a :: r, D, h, hs => by
    have ha := hs a (by simp)
    obtain ⟨h1, h2⟩ := List.nodup_cons.mp h
    have := nodup_sub r (D.erase a) h2 fun x hx => (List.mem_erase_of_ne fun z => h1 (by rw [← z]; exact hx)).mpr (hs x (by simp [hx]))
    rw [List.length_erase_of_mem ha] at this
    have := List.length_pos_of_mem ha
    rw [List.length_cons]
    omega
/-- what lies behind each dart of D: one of D, and no two have the same behind them -/
structure BehOk (m : List (List Key × PyData)) (D : List Drt) (β : Drt → Drt) : Prop where
  at_ : ∀ d ∈ D, valT m (drK d) = some (drI (β d))
  in_ : ∀ d ∈ D, β d ∈ D
  inj : ∀ c ∈ D, ∀ d ∈ D, β c = β d → c = d
section
variable {m : List (List Key × PyData)} {D : List Drt} {β : Drt → Drt}
theorem BehOk.it (h : BehOk m D β) {d : Drt} (hd : d ∈ D) : ∀ k, itD β k d ∈ D
  | 0 => hd
  | k + 1 => h.in_ _ (h.it hd k)
theorem itD_add (β : Drt → Drt) (d : Drt) (a : Nat) : ∀ b, itD β (a + b) d = itD β b (itD β a d)
  | 0 => rfl
  | b + 1 => congrArg β (itD_add β d a b)
theorem BehOk.back (h : BehOk m D β) {c d : Drt} (hc : c ∈ D) (hd : d ∈ D) : ∀ k, itD β k c = itD β k d → c = d
  | 0, e => e
  | k + 1, e => h.back hc hd k (h.inj _ (h.it hc k) _ (h.it hd k) e)
/-- one comes round -/
theorem BehOk.round (h : BehOk m D β) {d : Drt} (hd : d ∈ D) : ∃ n, 1 ≤ n ∧ n ≤ D.length ∧ itD β n d = d := by
  apply Classical.byContradiction
  intro no
  have nd : ((List.range (D.length + 1)).map fun k => itD β k d).Nodup := by
    rw [List.nodup_iff_pairwise_ne, List.pairwise_map]
    refine List.Pairwise.imp_of_mem ?_ (List.pairwise_lt_range (n := D.length + 1))
    intro a b ha hb lt e
    have hb := List.mem_range.mp hb
    obtain ⟨c, rfl⟩ : ∃ c, b = c + a := ⟨b - a, by omega⟩
    rw [itD_add] at e
    exact no ⟨c, by omega, by omega, (h.back (h.it hd c) hd a e.symm)⟩
  have := nodup_sub _ D nd fun x hx => by
    obtain ⟨k, _, rfl⟩ := List.mem_map.mp hx
    exact h.it hd k
  rw [List.length_map, List.length_range] at this
  omega
theorem least_ex {p : Nat → Prop} : ∀ n, p n → ∃ k, k ≤ n ∧ p k ∧ ∀ j, j < k → ¬ p j := fun n => by
  induction n using Nat.strongRecOn with
  | ind n ih =>
    intro hn
    by_cases z : ∃ j, j < n ∧ p j
    · obtain ⟨j, hj, pj⟩ := z
      obtain ⟨k, h1, h2, h3⟩ := ih j hj pj
      exact ⟨k, by omega, h2, h3⟩
    · exact ⟨n, Nat.le_refl _, hn, fun j hj pj => z ⟨j, hj, pj⟩⟩
/-- how many darts go round -/
def Per (β : Drt → Drt) (d : Drt) (n : Nat) : Prop := 1 ≤ n ∧ itD β n d = d ∧ ∀ k, 1 ≤ k → k < n → itD β k d ≠ d
theorem BehOk.per (h : BehOk m D β) {d : Drt} (hd : d ∈ D) : ∃ n, Per β d n ∧ n ≤ D.length := by
  obtain ⟨n, h1, h2, h3⟩ := h.round hd
  obtain ⟨k, k1, ⟨k2, k3⟩, k4⟩ := least_ex (p := fun n => 1 ≤ n ∧ itD β n d = d) n ⟨h1, h3⟩
  exact ⟨k, ⟨k2, k3, fun j j1 j2 e => k4 j j2 ⟨j1, e⟩⟩, by omega⟩
end
def orbL (β : Drt → Drt) (d : Drt) (n : Nat) : List PyData := (List.range n).map fun i => drI (itD β i d)
def Φ_face_from : Ph := ph2 fun a b ms R => ∃ (m : List (List Key × PyData)) (D : List Drt) (β : Drt → Drt) (d : Drt), a = .w (isT m) ∧ b = .d (drI d) ∧ BehOk m D β ∧ d ∈ D ∧ D.length ≤ 9000 ∧ ∀ n, Per β d n → n ≤ D.length → R (.d (.tuple (orbL β d n))) ms
theorem len_face_from : ∀ as ms R, Φ_face_from as ms R → as.length = 2 := ph2_len
theorem drI_shp (d : Drt) : Shp 1 (drI d) := Shp.tup fun e he => by
  simp only [List.mem_cons, List.not_mem_nil, or_false] at he
  rcases he with rfl | rfl <;> exact Shp.int _
theorem eqv_drI (c d : Drt) : PyData.eqv (drI c) (drI d) = decide (c = d) := by
  obtain ⟨a, b⟩ := c
  obtain ⟨x, y⟩ := d
  show (PyData.eqv (.int (a : Nat)) (.int (x : Nat)) && (PyData.eqv (.int (b : Nat)) (.int (y : Nat)) && true)) = _
  rw [eqv_int, eqv_int]
  by_cases h1 : a = x
  · by_cases h2 : b = y
    · subst h1 h2; simp
    · have : ¬ ((b : Nat) : Int) = (y : Int) := by omega
      simp [h2, this]
  · have : ¬ ((a : Nat) : Int) = (x : Int) := by omega
    simp [h1, this]
theorem orb_snoc (β : Drt → Drt) (d : Drt) (n : Nat) : orbL β d (n + 1) = orbL β d n ++ [drI (itD β n d)] := by
  unfold orbL
  rw [List.range_succ, List.map_append]
  rfl
theorem orb_len (β : Drt → Drt) (d : Drt) (n : Nat) : (orbL β d n).length = n := by simp [orbL]
theorem orb_last (β : Drt → Drt) (d : Drt) (n : Nat) : atI (orbL β d (n + 1)) (-1) = some (drI (itD β n d)) := by
  have e := orb_len β d (n + 1)
  have q : (orbL β d (n + 1))[n]? = some (drI (itD β n d)) := by
    rw [orb_snoc, List.getElem?_append_right (by rw [orb_len]; exact Nat.le_refl _), orb_len, Nat.sub_self]
    rfl
  unfold atI
  rw [e]
  have x : ixN (n + 1) (-1) = some n := by
    unfold ixN
    rw [if_neg (by decide), if_pos (by omega)]
    congr 1
    omega
  rw [x]
  exact q
theorem rd_face_from {K : PySem.W.Frag} : ∀ as ms R, Φ_face_from as ms R → S K (t_face_from K) (as ++ List.replicate (3 - as.length) .u) ms (fin R) := by
  rintro as ms R ⟨a, b, rfl, m, D, β, d, rfl, rfl, h, hd, hD, r⟩
  obtain ⟨n, hn, hnD⟩ := h.per hd
  have r := r n hn hnD
  have la : ∀ A : MD, (ms ++ [A])[ms.length]? = some A := fun A => get1 ms A
  have sa : ∀ A B : MD, (ms ++ [A]).set ms.length B = ms ++ [B] := fun A B => set1 ms A B
  unfold t_face_from
  refine s_new (e_lst (ea_cons (e_var rfl (ea_nil ⟨[_], rfl, Nat.le_of_ble_eq_true rfl, _, rfl, ?_⟩))))
  have n1 := hn.1
  have nxt : ∀ {P : RS} (k : Nat), k < n → P (.d (drI (itD β (k + 1) d))) (ms ++ [.l (orbL β d (k + 1))]) → E K (tDGet (tVar 0) (tOp (rIx K) (tVar 2) (tUn rNegI (tC (.int 1))))) [.w (isT m), .d (drI d), .m ms.length] (ms ++ [.l (orbL β d (k + 1))]) P := fun k hk p =>
    e_dgetW (e_varw rfl ⟨m, rfl, e_op (e_varm rfl (e_un (e_int (ru_I ⟨_, rfl, rr_ix ⟨_, _, _, .inl (.m (la _)), rfl, orb_last β d k, drK (itD β k d), _, rfl, h.at_ _ (h.it hd k), p⟩⟩))))⟩)
  refine s_seq (s_while (fun j ds' ms' => ∃ k, j + (k + 1) = n ∧ ds' = [.w (isT m), .d (drI d), .m ms.length] ∧ ms' = ms ++ [.l (orbL β d (k + 1))]) (n - 1) ⟨0, by omega, rfl, rfl⟩ ?_)
  rintro j ds' ms' ⟨k, hk, rfl, rfl⟩
  refine et_test (e_op (nxt k (by omega) (e_var rfl (rr_ne ⟨_, _, .d _, .d _, (drI_shp _).ok (by decide), (drI_shp _).ok (by decide), ?_⟩))))
  rw [eqv_drI]
  refine ⟨_, rfl, fun z => ?_, fun z => ?_⟩
  · have z : itD β (k + 1) d ≠ d := by simpa using z
    have kn : k + 1 < n := by
      rcases Nat.lt_or_ge (k + 1) n with y | y
      · exact y
      · have e : k + 1 = n := by omega
        rw [e] at z
        exact absurd hn.2.1 z
    refine s_drop (e_append (e_varm rfl ⟨_, rfl, nxt k (by omega) ⟨_, _, rfl, la _, by rw [orb_len]; omega, ?_⟩⟩))
    rw [sa]
    exact ⟨j - 1, by omega, k + 1, by omega, rfl, by rw [← orb_snoc]⟩
  · have z : itD β (k + 1) d = d := by simpa using z
    have kn : k + 1 = n := by
      rcases Nat.lt_or_ge (k + 1) n with y | y
      · exact absurd z (hn.2.2 (k + 1) (by omega) y)
      · omega
    rw [kn]
    exact s_ret (e_cb (ea_cons (e_varm rfl (ea_nil (rc_tuple ⟨_, _, rfl, .inl (.m (la _)), _, _, rfl, rfl, r⟩)))))

/-! ### turns, and the darts that follow from them -/
/-- no two ties between the same points -/
def Apart (ts : List Tie) : Prop := ts.Pairwise fun a b => ¬ (a.1 = b.1 ∧ a.2.1 = b.2.1)
structure TurnOk (m : Nat) (ts : List Tie) (tt : List (List Nat)) : Prop where
  len : tt.length = m
  row : ∀ p, p < m → (tt.getD p []).Perm (nb ts p)
theorem nb_mem {ts : List Tie} {p b : Nat} : b ∈ nb ts p ↔ ∃ t ∈ ts, (t.1 = p ∧ t.2.1 = b) ∨ (¬ t.1 = p ∧ t.2.1 = p ∧ t.1 = b) := by
  unfold nb
  rw [List.mem_filterMap]
  constructor
  · rintro ⟨t, ht, e⟩
    refine ⟨t, ht, ?_⟩
    unfold nbO at e
    split at e
    · rename_i h
      exact .inl ⟨h, Option.some.inj e⟩
    · rename_i h
      split at e
      · rename_i h2
        exact .inr ⟨h, h2, Option.some.inj e⟩
      · cases e
  · rintro ⟨t, ht, ⟨h1, h2⟩ | ⟨h1, h2, h3⟩⟩
    · exact ⟨t, ht, by unfold nbO; rw [if_pos h1, h2]⟩
    · exact ⟨t, ht, by unfold nbO; rw [if_neg h1, if_pos h2, h3]⟩
theorem nb_lt {m : Nat} {ts : List Tie} (hw : ∀ t ∈ ts, TieOk m t) {p b : Nat} (h : b ∈ nb ts p) : b < m ∧ p < m := by
  obtain ⟨t, ht, h⟩ := nb_mem.mp h
  have h1 := (hw t ht).lt
  have h2 := (hw t ht).lm
  omega
theorem nb_sym {m : Nat} {ts : List Tie} (hw : ∀ t ∈ ts, TieOk m t) {p b : Nat} (h : b ∈ nb ts p) : p ∈ nb ts b := by
  obtain ⟨t, ht, h⟩ := nb_mem.mp h
  have h1 := (hw t ht).lt
  refine nb_mem.mpr ⟨t, ht, ?_⟩
  omega
theorem nb_nd {m : Nat} {ts : List Tie} (hw : ∀ t ∈ ts, TieOk m t) (ha : Apart ts) (p : Nat) : (nb ts p).Nodup := by
  induction ts with
  | nil => exact List.nodup_nil
  | cons t r ih =>
    have ih := ih (fun x hx => hw x (by simp [hx])) (List.pairwise_cons.mp ha).2
    have h1 := (List.pairwise_cons.mp ha).1
    have ht := (hw t (by simp)).lt
    have e : nb (t :: r) p = (match nbO t p with | some b => [b] | none => []) ++ nb r p := by
      unfold nb
      rw [List.filterMap_cons]
      cases nbO t p <;> rfl
    rw [e]
    cases q : nbO t p with
    | none => exact ih
    | some b =>
      refine List.nodup_cons.mpr ⟨fun hb => ?_, ih⟩
      obtain ⟨u, hu, h⟩ := nb_mem.mp hb
      have hu2 := (hw u (by simp [hu])).lt
      have no := h1 u hu
      unfold nbO at q
      split at q
      · rename_i z
        have q := Option.some.inj q
        omega
      · split at q
        · have q := Option.some.inj q
          omega
        · cases q
/-- the darts: (b, p) for each b beside p -/
def drts (tt : List (List Nat)) : List Drt := (entL tt tt.length).map (·.1)
def nxt (row : List Nat) (b : Nat) : Nat := row.getD ((row.idxOf b + 1) % row.length) 0
def behF (tt : List (List Nat)) (d : Drt) : Drt := (d.2, nxt (tt.getD d.2 []) d.1)
theorem entL_mem {tt : List (List Nat)} {k : Nat} {e : Drt × Drt} : e ∈ entL tt k ↔ ∃ p i, p < k ∧ i < (tt.getD p []).length ∧ e = (((tt.getD p []).getD i 0, p), (p, (tt.getD p []).getD ((i + 1) % (tt.getD p []).length) 0)) := by
  unfold entL entR
  simp only [List.mem_flatMap, List.mem_range, List.mem_map]
  constructor
  · rintro ⟨p, hp, i, hi, rfl⟩
    exact ⟨p, i, hp, hi, rfl⟩
  · rintro ⟨p, i, hp, hi, rfl⟩
    exact ⟨p, hp, i, hi, rfl⟩
theorem getD_ix {row : List Nat} {i : Nat} (h : i < row.length) : row.getD i 0 = row[i] := by simp [List.getD, h]
theorem nd_ix {row : List Nat} (nd : row.Nodup) {i j : Nat} (hi : i < row.length) (hj : j < row.length) (e : row.getD i 0 = row.getD j 0) : i = j := by
  rw [getD_ix hi, getD_ix hj] at e
  exact (List.getElem_inj nd).mp e
theorem idx_get {row : List Nat} (nd : row.Nodup) {i : Nat} (hi : i < row.length) : row.idxOf (row.getD i 0) = i := by
  have hm : row.getD i 0 ∈ row := by rw [getD_ix hi]; exact List.getElem_mem hi
  have hl := List.idxOf_lt_length_of_mem hm
  refine nd_ix nd hl hi ?_
  rw [getD_ix hl]
  exact List.getElem_idxOf hl
section
variable {m : Nat} {ts : List Tie} {tt : List (List Nat)}
theorem TurnOk.nd (h : TurnOk m ts tt) (hw : ∀ t ∈ ts, TieOk m t) (ha : Apart ts) {p : Nat} (hp : p < m) : (tt.getD p []).Nodup := (h.row p hp).nodup_iff.mpr (nb_nd hw ha p)
theorem TurnOk.mem (h : TurnOk m ts tt) (hw : ∀ t ∈ ts, TieOk m t) (ha : Apart ts) {d : Drt} : d ∈ drts tt ↔ d.1 ∈ nb ts d.2 := by
  unfold drts
  rw [List.mem_map, h.len]
  constructor
  · rintro ⟨e, he, rfl⟩
    obtain ⟨p, i, hp, hi, rfl⟩ := entL_mem.mp he
    refine (h.row p hp).mem_iff.mp ?_
    show (tt.getD p []).getD i 0 ∈ _
    rw [getD_ix hi]
    exact List.getElem_mem hi
  · intro hd
    obtain ⟨_, hp⟩ := nb_lt hw hd
    have hm := (h.row d.2 hp).mem_iff.mpr hd
    obtain ⟨i, hi, e⟩ := List.getElem_of_mem hm
    exact ⟨_, entL_mem.mpr ⟨d.2, i, hp, hi, rfl⟩, by rw [getD_ix hi, e]⟩
theorem TurnOk.keys (h : TurnOk m ts tt) (hw : ∀ t ∈ ts, TieOk m t) (ha : Apart ts) : ∀ k, k ≤ m → ((entL tt k).map (·.1)).Nodup
  | 0, _ => List.nodup_nil
  | k + 1, hk => by
    have ih := h.keys hw ha k (by omega)
    have nd := h.nd hw ha (show k < m by omega)
    rw [entL_snoc, List.map_append]
    refine List.nodup_append.mpr ⟨ih, ?_, fun a ha b hb e => ?_⟩
    · have e : (entR k (tt.getD k [])).map (·.1) = (tt.getD k []).map fun b => (b, k) := by
        unfold entR
        rw [List.map_map]
        refine List.ext_getElem? fun i => ?_
        by_cases hi : i < (tt.getD k []).length
        · rw [List.getElem?_map, List.getElem?_range hi, List.getElem?_map, List.getElem?_eq_getElem hi, ← getD_ix hi]
          rfl
        · rw [List.getElem?_eq_none (by rw [List.length_map, List.length_range]; omega), List.getElem?_eq_none (by rw [List.length_map]; omega)]
      rw [e, List.nodup_iff_pairwise_ne, List.pairwise_map]
      exact (List.nodup_iff_pairwise_ne.mp nd).imp fun {a b} z e => z (congrArg Prod.fst e)
    · obtain ⟨x, hx, rfl⟩ := List.mem_map.mp ha
      obtain ⟨y, hy, rfl⟩ := List.mem_map.mp hb
      obtain ⟨p, i, hp, _, rfl⟩ := entL_mem.mp hx
      unfold entR at hy
      obtain ⟨j, _, rfl⟩ := List.mem_map.mp hy
      have : p = k := congrArg Prod.snd e
      omega
end
theorem drK_inj {c d : Drt} (h : drK c = drK d) : c = d := by
  obtain ⟨a, b⟩ := c
  obtain ⟨x, y⟩ := d
  have h1 := (List.cons.inj h).1
  have h2 := (List.cons.inj (List.cons.inj h).2).1
  have h1 : (a : Int) = (x : Int) := Sum.inl.inj h1
  have h2 : (b : Int) = (y : Int) := Sum.inl.inj h2
  congr 1 <;> omega
theorem putT_new {m : List (List Key × PyData)} {k : List Key} {d : PyData} (h : k ∉ m.map (·.1)) : putT m k d = m ++ [(k, d)] := by
  unfold putT
  rw [if_neg]
  intro z
  obtain ⟨x, hx, e⟩ := List.any_eq_true.mp z
  exact h (List.mem_map.mpr ⟨x, hx, of_decide_eq_true e⟩)
abbrev entK (e : Drt × Drt) : List Key × PyData := (drK e.1, drI e.2)
theorem putL_new : ∀ (l : List (Drt × Drt)) (m : List (List Key × PyData)), (l.map (·.1)).Nodup → (∀ e ∈ l, drK e.1 ∉ m.map (·.1)) → putL m l = m ++ l.map entK
  | [], m, _, _ => (List.append_nil m).symm
  | e :: r, m, nd, hm => by
    obtain ⟨n1, n2⟩ := List.nodup_cons.mp nd
    have e2 : putL m (e :: r) = putL (putT m (drK e.1) (drI e.2)) r := rfl
    rw [e2, putT_new (hm e (by simp)), putL_new r _ n2 fun x hx => ?_, List.append_assoc]
    · rfl
    · rw [List.map_append]
      intro z
      rcases List.mem_append.mp z with y | y
      · exact hm x (by simp [hx]) y
      · have := drK_inj (List.mem_singleton.mp y)
        exact n1 (List.mem_map.mpr ⟨x, hx, this⟩)
theorem val_mem : ∀ {l : List (Drt × Drt)} {e : Drt × Drt}, (l.map (·.1)).Nodup → e ∈ l → valT (l.map entK) (drK e.1) = some (drI e.2)
  | x :: r, e, nd, he => by
    obtain ⟨n1, n2⟩ := List.nodup_cons.mp nd
    unfold valT
    rw [List.map_cons, List.find?_cons]
    by_cases z : drK x.1 = drK e.1
    · rw [decide_eq_true (p := (entK x).1 = drK e.1) z]
      rcases List.mem_cons.mp he with rfl | y
      · rfl
      · exact absurd (List.mem_map.mpr ⟨e, y, (drK_inj z).symm⟩) n1
    · rw [decide_eq_false (p := (entK x).1 = drK e.1) z]
      rcases List.mem_cons.mp he with rfl | y
      · exact absurd rfl z
      · exact val_mem n2 y
section
variable {m : Nat} {ts : List Tie} {tt : List (List Nat)}
theorem TurnOk.dict (h : TurnOk m ts tt) (hw : ∀ t ∈ ts, TieOk m t) (ha : Apart ts) : behT tt = (entL tt tt.length).map entK :=
  putL_new _ [] (h.keys hw ha _ (by rw [h.len]; exact Nat.le_refl _)) fun e _ z => nomatch z
theorem TurnOk.beh (h : TurnOk m ts tt) (hw : ∀ t ∈ ts, TieOk m t) (ha : Apart ts) : BehOk (behT tt) (drts tt) (behF tt) := by
  have kn := h.keys hw ha tt.length (by rw [h.len]; exact Nat.le_refl _)
  have ent : ∀ d ∈ drts tt, ∃ i, d.2 < m ∧ i < (tt.getD d.2 []).length ∧ (tt.getD d.2 []).getD i 0 = d.1 ∧ behF tt d = (d.2, (tt.getD d.2 []).getD ((i + 1) % (tt.getD d.2 []).length) 0) ∧ (d, behF tt d) ∈ entL tt tt.length := fun d hd => by
    obtain ⟨e, he, rfl⟩ := List.mem_map.mp hd
    obtain ⟨p, i, hp, hi, rfl⟩ := entL_mem.mp he
    rw [h.len] at hp
    have ef : behF tt ((tt.getD p []).getD i 0, p) = (p, (tt.getD p []).getD ((i + 1) % (tt.getD p []).length) 0) := by
      show (p, nxt (tt.getD p []) ((tt.getD p []).getD i 0)) = _
      unfold nxt
      rw [idx_get (h.nd hw ha hp) hi]
    exact ⟨i, hp, hi, rfl, ef, by rw [ef]; exact he⟩
  refine ⟨fun d hd => ?_, fun d hd => ?_, fun c hc d hd e => ?_⟩
  · obtain ⟨i, _, _, _, _, he⟩ := ent d hd
    rw [h.dict hw ha]
    exact val_mem kn he
  · obtain ⟨i, hp, hi, _, ef, _⟩ := ent d hd
    refine (h.mem hw ha).mpr ?_
    rw [ef]
    have l2 : (i + 1) % (tt.getD d.2 []).length < (tt.getD d.2 []).length := Nat.mod_lt _ (by omega)
    have hm := (h.row d.2 hp).mem_iff.mp (List.getElem_mem l2)
    rw [← getD_ix l2] at hm
    exact nb_sym hw hm
  · obtain ⟨i, hp, hi, ei, ef, _⟩ := ent c hc
    obtain ⟨j, hq, hj, ej, eg, _⟩ := ent d hd
    rw [ef, eg] at e
    have e1 : c.2 = d.2 := congrArg Prod.fst e
    have e2 := congrArg Prod.snd e
    simp only at e2
    obtain ⟨c1, c2⟩ := c
    obtain ⟨d1, d2⟩ := d
    have e1 : c2 = d2 := e1
    subst e1
    have n0 : 0 < (tt.getD c2 []).length := by have : i < (tt.getD c2 []).length := hi; omega
    have ix := nd_ix (h.nd hw ha hp) (Nat.mod_lt _ n0) (Nat.mod_lt _ n0) e2
    have hi : i < (tt.getD c2 []).length := hi
    have hj : j < (tt.getD c2 []).length := hj
    have ij : i = j := by
      have m1 : ∀ x, x < (tt.getD c2 []).length → (x + 1) % (tt.getD c2 []).length = if x + 1 = (tt.getD c2 []).length then 0 else x + 1 := fun x hx => by
        split
        · rename_i z
          rw [z, Nat.mod_self]
        · exact Nat.mod_eq_of_lt (by omega)
      rw [m1 i hi, m1 j hj] at ix
      split at ix <;> split at ix <;> omega
    subst ij
    have : c1 = d1 := ei.symm.trans ej
    rw [this]
end

theorem srtI_perm_eq {a b : List Int} (h : a.Perm b) : srtI a = srtI b := perm_le_eq (((srtI_perm a).trans h).trans (srtI_perm b).symm) (srtI_le a) (srtI_le b)
theorem intsOf_nI (l : List Nat) : intsOf (nI l) = l.map fun (k : Nat) => (k : Int) := by
  unfold intsOf nI
  rw [List.filterMap_map]
  induction l with
  | nil => rfl
  | cons a r ih => rw [List.filterMap_cons]; exact congrArg _ ih
/-- turns are told so -/
theorem ok_turns {m : Nat} {ts : List Tie} {tt : List (List Nat)} (hw : ∀ t ∈ ts, TieOk m t) (h : TurnOk m ts tt) : turnsB m ts (.tuple (tt.map rwN)) = true := by
  show (decide ((tt.map rwN).length = m) && (List.range m).all fun p => roundB m (nbS ts p) ((tt.map rwN).getD p .none)) = true
  rw [List.length_map, decide_eq_true h.len, Bool.true_and, List.all_eq_true]
  intro p hp
  have hp := List.mem_range.mp hp
  have e : (tt.map rwN).getD p .none = rwN (tt.getD p []) := by
    have : p < tt.length := by rw [h.len]; exact hp
    simp [List.getD, this]
  rw [e]
  have pm := h.row p hp
  show ((nI (tt.getD p [])).all (numB m) && decide (srtI (intsOf (nI (tt.getD p []))) = nbS ts p)) = true
  rw [intsOf_nI, decide_eq_true (p := _ = nbS ts p) (srtI_perm_eq (pm.map _)), Bool.and_true, List.all_eq_true]
  intro x hx
  obtain ⟨b, hb, rfl⟩ := List.mem_map.mp hx
  have hb := (nb_lt hw (pm.mem_iff.mp hb)).1
  show (decide (0 ≤ (b : Int)) && decide ((b : Int) < m)) = true
  rw [decide_eq_true (by omega), decide_eq_true (by omega)]
  rfl
theorem per_one {β : Drt → Drt} {d : Drt} {a b : Nat} (h : Per β d a) (k : Per β d b) : a = b := by
  obtain ⟨h1, h2, h3⟩ := h
  obtain ⟨k1, k2, k3⟩ := k
  rcases Nat.lt_trichotomy a b with z | z | z
  · exact absurd h2 (k3 a h1 z)
  · exact z
  · exact absurd k2 (h3 b k1 z)
open Classical in
noncomputable def perN (β : Drt → Drt) (d : Drt) : Nat := if h : ∃ n, Per β d n then h.choose else 0
theorem per_is {β : Drt → Drt} {d : Drt} {n : Nat} (h : Per β d n) : n = perN β d := by
  have hx : ∃ n, Per β d n := ⟨n, h⟩
  unfold perN
  rw [dif_pos hx]
  exact per_one h hx.choose_spec
/-- the round from d on -/
noncomputable def orbD (β : Drt → Drt) (d : Drt) : List Drt := (List.range (perN β d)).map fun i => itD β i d
noncomputable def stepF (β : Drt → Drt) (s : List (List Drt) × List Drt) (d : Drt) : List (List Drt) × List Drt := if d ∈ s.2 then s else (s.1 ++ [orbD β d], s.2 ++ orbD β d)
noncomputable def facesS (β : Drt → Drt) (l : List Drt) : List (List Drt) × List Drt := l.foldl (stepF β) ([], [])
/-- darts rising -/
def srtDr (l : List Drt) : List Drt := l.mergeSort (PySem.W.dataLe false drI)
theorem srtDr_mem {l : List Drt} {d : Drt} : d ∈ srtDr l ↔ d ∈ l := List.mem_mergeSort
def faceD (f : List Drt) : PyData := .tuple (f.map drI)
noncomputable def facesL (tt : List (List Nat)) : List (List Drt) := (facesS (behF tt) (srtDr (drts tt))).1
theorem sort_dr (l : List Drt) : sortD (l.map drI) = (srtDr l).map drI :=
  (PySem.W.sort_maps (r := PySem.W.dataLe false drI) (s := PySem.W.dataLe false id) drI (l := l) fun a _ b _ => rfl).symm
theorem facesS_snoc (β : Drt → Drt) (l : List Drt) (d : Drt) : facesS β (l ++ [d]) = stepF β (facesS β l) d := by
  unfold facesS
  rw [List.foldl_append]
  rfl
/-- what is taken, as the set holds it -/
def drZ (d : Drt) : List Int := [(d.1 : Int), (d.2 : Int)]
theorem drZ_inj {c d : Drt} (h : drZ c = drZ d) : c = d := by
  obtain ⟨a, b⟩ := c
  obtain ⟨x, y⟩ := d
  have h1 : (a : Int) = (x : Int) := (List.cons.inj h).1
  have h2 : (b : Int) = (y : Int) := (List.cons.inj (List.cons.inj h).2).1
  congr 1 <;> omega
structure Tk (D tk : List Drt) (ks : List (List Int)) : Prop where
  nd : ks.Nodup
  iff : ∀ d, drZ d ∈ ks ↔ d ∈ tk
  sub : ∀ k ∈ ks, k ∈ D.map drZ
theorem Tk.few {D tk : List Drt} {ks : List (List Int)} (h : Tk D tk ks) : ks.length ≤ D.length := by
  have := nodup_sub ks (D.map drZ) h.nd h.sub
  rwa [List.length_map] at this
theorem Tk.put {D tk : List Drt} {ks : List (List Int)} (h : Tk D tk ks) {d : Drt} (hd : d ∈ D) : Tk D (tk ++ [d]) (if drZ d ∈ ks then ks else drZ d :: ks) := by
  split
  · rename_i z
    refine ⟨h.nd, fun c => ?_, h.sub⟩
    rw [h.iff, List.mem_append, List.mem_singleton]
    refine ⟨.inl, fun y => y.elim id fun y => ?_⟩
    rw [y]
    exact (h.iff d).mp z
  · rename_i z
    refine ⟨List.nodup_cons.mpr ⟨z, h.nd⟩, fun c => ?_, fun k hk => ?_⟩
    · rw [List.mem_cons, h.iff, List.mem_append, List.mem_singleton]
      constructor
      · rintro (y | y)
        · exact .inr (drZ_inj y)
        · exact .inl y
      · rintro (y | y)
        · exact .inr y
        · exact .inl (congrArg drZ y)
    · rcases List.mem_cons.mp hk with rfl | hk
      · exact List.mem_map.mpr ⟨d, hd, rfl⟩
      · exact h.sub k hk
theorem orb_in {m : List (List Key × PyData)} {D : List Drt} {β : Drt → Drt} (h : BehOk m D β) {d : Drt} (hd : d ∈ D) : ∀ c ∈ orbD β d, c ∈ D := fun c hc => by
  obtain ⟨k, _, rfl⟩ := List.mem_map.mp hc
  exact h.it hd k
def Φ_faces_of : PhX := phx2 fun a b ms R Y => ∃ (m : Nat) (ts : List Tie) (x : PyData), a = .d (encW m ts) ∧ b = .d x ∧ WebOk m ts ∧ RowsT x ∧
  ((turnsB m ts x = false ∧ Y ms) ∨ ∃ tt, x = .tuple (tt.map rwN) ∧ Apart ts ∧ TurnOk m ts tt ∧ (tt.map (·.length)).sum ≤ 62 ∧ R (.d (.tuple ((facesL tt).map faceD))) ms)
theorem len_faces_of : ∀ as ms R Y, Φ_faces_of as ms R Y → as.length = 2 := phx2_len
theorem fold_len (β : Drt → Drt) : ∀ (l : List Drt) (s : List (List Drt) × List Drt), (l.foldl (stepF β) s).1.length ≤ s.1.length + l.length
  | [], _ => Nat.le_refl _
  | d :: r, s => by
    have ih := fold_len β r (stepF β s d)
    have : (stepF β s d).1.length ≤ s.1.length + 1 := by
      unfold stepF
      split
      · omega
      · rw [List.length_append]; exact Nat.le_refl _
    rw [List.foldl_cons, List.length_cons]
    omega
theorem facesS_len (β : Drt → Drt) (l : List Drt) : (facesS β l).1.length ≤ l.length := by
  have h : (facesS β l).1.length ≤ 0 + l.length := fold_len β l ([], [])
  omega
theorem rd_faces_of {K : PySem.W.Frag} {Pg : Program} {w : World} {C_CutError C_NoWeb C_NoTurns C_NotFlat C_NoPaper C_TooGreat : Addr} : ∀ as ms R Y, Φ_faces_of as ms R Y → SX K C_NoTurns (t_faces_of K Pg w C_CutError C_NoWeb C_NoTurns C_NotFlat C_NoPaper C_TooGreat Φ_are_turns Φ_darts_behind Φ_face_from) (as ++ List.replicate (8 - as.length) .u) ms (fin R) Y := by
  rintro as ms R Y ⟨a, b, rfl, m, ts, x, rfl, rfl, hw, ht, h⟩
  unfold t_faces_of
  refine sx_seq (sx_if (et_not (et_B (e_call (ea_cons (e_var rfl (ea_cons (e_var rfl (ea_nil ⟨_, _, rfl, m, ts, x, rfl, rfl, hw, ht, ?_⟩)))))))))
  rcases h with ⟨no, y⟩ | ⟨tt, rfl, ap, tk, hs, r⟩
  · rw [no]
    exact ⟨false, rfl, fun _ => sx_raise y, nofun⟩
  rw [ok_turns hw.all tk]
  refine ⟨true, rfl, nofun, fun _ => sx_of (s_next (sx_of ?_))⟩
  have m60 := hw.m60
  have tl := tk.len
  have bo := tk.beh hw.all ap
  have dl : (drts tt).length ≤ 62 := by
    unfold drts
    rw [List.length_map, entL_len tt _ (Nat.le_refl _), List.take_length]
    exact hs
  have dm : (behT tt).map (fun p => rowK p.1) = (drts tt).map drI := by
    rw [tk.dict hw.all ap, List.map_map]
    unfold drts
    rw [List.map_map]
    rfl
  have kk : ∀ d ∈ srtDr (drts tt), d ∈ drts tt := fun d hd => srtDr_mem.mp hd
  have sl : (srtDr (drts tt)).length ≤ 62 := by
    unfold srtDr
    rw [List.length_mergeSort]
    exact dl
  refine s_seq (s_asg (e_call (ea_cons (e_var rfl (ea_nil ⟨_, rfl, tt, rfl, by omega, by omega, ?_⟩)))))
  refine s_new (e_lst (ea_nil ⟨[], rfl, Nat.zero_le _, _, rfl, ?_⟩))
  refine s_newO ?_
  have gl : ∀ (A B : MD), (ms ++ [A] ++ [B])[ms.length]? = some A := fun A B => get2a ms A B
  have gs : ∀ (A B : MD), (ms ++ [A] ++ [B])[ms.length + 1]? = some B := fun A B => get2b ms A B
  have pl : ∀ (A B C : MD), (ms ++ [A] ++ [B]).set ms.length C = ms ++ [C] ++ [B] := fun A B C => set2a ms A B C
  have ps : ∀ (A B C : MD), (ms ++ [A] ++ [B]).set (ms.length + 1) C = ms ++ [A] ++ [C] := fun A B C => set2b ms A B C
  have n1 : ∀ A : MD, (ms ++ [A]).length = ms.length + 1 := fun A => by simp
  rw [n1]
  refine s_seq (s_forL (js := [5]) (e_cb (ea_cons (e_varw rfl (ea_nil (rc_sortW ⟨_, rfl, ?_, ?_, ?_⟩))))))
  · rw [dm]
    exact PySem.W.AllAlike.of fun b b' => rfl
  · rw [dm]
    exact PySem.W.Sortable.tuples fun b => ⟨_, _, rfl⟩
  rw [dm, sort_dr]
  have r : R (.d (.tuple ((facesS (behF tt) (srtDr (drts tt))).1.map faceD))) ms := r
  generalize srtDr (drts tt) = Ds at kk sl r ⊢
  refine ⟨_, .d _, fun k ds' ms' => ∃ (ks : List (List Int)) (o5 o6 o7 : SD), Tk (drts tt) (facesS (behF tt) (Ds.take k)).2 ks ∧ ds' = [.d (encW m ts), .d (.tuple (tt.map rwN)), .w (isT (behT tt)), .m ms.length, .o (ms.length + 1), o5, o6, o7] ∧ ms' = ms ++ [.l ((facesS (behF tt) (Ds.take k)).1.map faceD)] ++ [.x (isS Pg w ks)], ⟨[], _, _, _, ⟨List.nodup_nil, fun d => by simp [facesS], nofun⟩, rfl, rfl⟩, ?_, ?_⟩
  · rintro k e ds' ms' he ⟨ks, o5, o6, o7, tk2, rfl, rfl⟩
    rw [List.getElem?_map] at he
    cases q : Ds[k]? with
    | none => rw [q] at he; cases he
    | some d =>
      rw [q] at he
      cases he
      have hd := kk d (List.mem_of_getElem? q)
      have hk := (List.getElem?_eq_some_iff.mp q).1
      have st := facesS_snoc (behF tt) (Ds.take k) d
      rw [← take_snoc q] at st
      have fl := facesS_len (behF tt) (Ds.take k)
      rw [List.length_take] at fl
      generalize hS : facesS (behF tt) (Ds.take k) = S at tk2 st fl
      have hn : drZ d ∈ ks ↔ d ∈ S.2 := tk2.iff d
      refine eg_name (s_if (et_test (e_op (e_var rfl (e_varo rfl (rr_inT ⟨drZ d, ms.length + 1, ks, rfl, rfl, gs _ _, _, rfl, fun z => ?_, fun z => ?_⟩))))))
      · have z : d ∉ S.2 := fun y => by
          have := hn.mpr y
          simp [this] at z
        have st : facesS (behF tt) (Ds.take (k + 1)) = (S.1 ++ [orbD (behF tt) d], S.2 ++ orbD (behF tt) d) := st.trans (if_neg z)
        refine s_seq (s_asg (e_call (ea_cons (e_varw rfl (ea_cons (e_var rfl (ea_nil ⟨_, _, rfl, behT tt, drts tt, behF tt, d, rfl, rfl, bo, hd, by omega, fun n hn2 _ => ?_⟩)))))))
        have eo : orbL (behF tt) d n = (orbD (behF tt) d).map drI := by
          unfold orbL orbD
          rw [← per_is hn2, List.map_map]
          rfl
        rw [eo]
        refine s_seq (s_drop (e_append (e_varm rfl ⟨_, rfl, e_var rfl ⟨_, _, rfl, gl _ _, by rw [List.length_map]; omega, ?_⟩⟩)))
        rw [pl]
        have oi := orb_in bo hd
        refine s_forT (js := [7]) (e_var rfl ⟨_, rfl, fun i ds' ms' => ∃ (ks : List (List Int)) (o7 : SD), Tk (drts tt) (S.2 ++ (orbD (behF tt) d).take i) ks ∧ ds' = [.d (encW m ts), .d (.tuple (tt.map rwN)), .w (isT (behT tt)), .m ms.length, .o (ms.length + 1), .d (drI d), .d (faceD (orbD (behF tt) d)), o7] ∧ ms' = ms ++ [.l (S.1.map faceD ++ [faceD (orbD (behF tt) d)])] ++ [.x (isS Pg w ks)], ⟨ks, _, by rw [List.take_zero, List.append_nil]; exact tk2, rfl, rfl⟩, ?_, ?_⟩)
        · rintro i e ds' ms' he ⟨ks, o7, tk3, rfl, rfl⟩
          rw [List.getElem?_map] at he
          cases q2 : (orbD (behF tt) d)[i]? with
          | none => rw [q2] at he; cases he
          | some c =>
            rw [q2] at he
            cases he
            have hc := oi c (List.mem_of_getElem? q2)
            have fw := tk3.few
            refine eg_name (s_drop (e_addT (e_varo rfl ⟨_, ks, rfl, gs _ _, e_var rfl ⟨drZ c, ks, rfl, gs _ _, by omega, ?_⟩⟩)))
            rw [ps]
            refine ⟨_, _, ?_, rfl, rfl⟩
            rw [take_snoc q2, ← List.append_assoc]
            exact tk3.put hc
        · rintro ds' ms' ⟨ks, o7, tk3, rfl, rfl⟩
          rw [List.length_map, List.take_length] at tk3
          exact ⟨ks, _, _, _, by rw [st]; exact tk3, rfl, by rw [st, List.map_append]; rfl⟩
      · have z : d ∈ S.2 := by
          apply Classical.byContradiction
          intro y
          have : drZ d ∉ ks := fun x => y (hn.mp x)
          simp [this] at z
        have st : facesS (behF tt) (Ds.take (k + 1)) = S := st.trans (if_pos z)
        exact s_next ⟨ks, _, _, _, by rw [st]; exact tk2, rfl, by rw [st]⟩
  · rintro ds' ms' ⟨ks, o5, o6, o7, tk2, rfl, rfl⟩
    rw [List.length_map, List.take_length]
    refine s_ret (e_cb (ea_cons (e_varm rfl (ea_nil (rc_tuple ⟨_, _, rfl, .inl (.m (gl _ _)), ?_⟩)))))
    exact ⟨_, ks, rfl, n1 _, ⟨_, .inl rfl⟩, ms, _, rfl, rfl, r⟩

/-! ### the faces: each dart lies in just one -/
section
variable {m : List (List Key × PyData)} {D : List Drt} {β : Drt → Drt}
theorem per_of (h : BehOk m D β) {d : Drt} (hd : d ∈ D) : Per β d (perN β d) := by
  obtain ⟨n, hn, _⟩ := h.per hd
  rw [← per_is hn]
  exact hn
theorem orb_nd (h : BehOk m D β) {d : Drt} (hd : d ∈ D) : (orbD β d).Nodup := by
  have p := per_of h hd
  unfold orbD
  rw [List.nodup_iff_pairwise_ne, List.pairwise_map]
  refine List.Pairwise.imp_of_mem ?_ (List.pairwise_lt_range (n := perN β d))
  intro a b ha hb lt e
  have hb := List.mem_range.mp hb
  obtain ⟨c, rfl⟩ : ∃ c, b = c + a := ⟨b - a, by omega⟩
  rw [itD_add] at e
  exact p.2.2 c (by omega) (by omega) (h.back (h.it hd c) hd a e.symm)
theorem orb_own (h : BehOk m D β) {d : Drt} (hd : d ∈ D) : d ∈ orbD β d := List.mem_map.mpr ⟨0, List.mem_range.mpr (per_of h hd).1, rfl⟩
theorem orb_next (h : BehOk m D β) {d : Drt} (hd : d ∈ D) : ∀ c ∈ orbD β d, β c ∈ orbD β d := fun c hc => by
  have p := per_of h hd
  obtain ⟨i, hi, rfl⟩ := List.mem_map.mp hc
  have hi := List.mem_range.mp hi
  by_cases z : i + 1 < perN β d
  · exact List.mem_map.mpr ⟨i + 1, List.mem_range.mpr z, rfl⟩
  · have e : perN β d = i + 1 := by omega
    have e2 : β (itD β i d) = d := by
      have := p.2.1
      rw [e] at this
      exact this
    rw [e2]
    exact orb_own h hd
/-- what the faces found so far are -/
structure FcOk (D : List Drt) (β : Drt → Drt) (S : List (List Drt) × List Drt) : Prop where
  flat : S.2 = S.1.flatten
  nd : S.2.Nodup
  cl : ∀ c ∈ S.2, β c ∈ S.2
  sub : ∀ c ∈ S.2, c ∈ D
  orb : ∀ f ∈ S.1, ∃ d ∈ D, f = orbD β d
theorem FcOk.it {S : List (List Drt) × List Drt} (h : FcOk D β S) {c : Drt} (hc : c ∈ S.2) : ∀ k, itD β k c ∈ S.2
  | 0 => hc
  | k + 1 => h.cl _ (h.it hc k)
theorem FcOk.step (b : BehOk m D β) {S : List (List Drt) × List Drt} (h : FcOk D β S) {d : Drt} (hd : d ∈ D) : FcOk D β (stepF β S d) ∧ d ∈ (stepF β S d).2 ∧ ∀ c ∈ S.2, c ∈ (stepF β S d).2 := by
  unfold stepF
  split
  · rename_i z
    exact ⟨h, z, fun c hc => hc⟩
  · rename_i z
    have p := per_of b hd
    refine ⟨⟨?_, ?_, fun c hc => ?_, fun c hc => ?_, fun f hf => ?_⟩, List.mem_append_right _ (orb_own b hd), fun c hc => List.mem_append_left _ hc⟩
    · show S.2 ++ orbD β d = (S.1 ++ [orbD β d]).flatten
      rw [List.flatten_append, h.flat]
      simp
    · refine List.nodup_append.mpr ⟨h.nd, orb_nd b hd, fun c hc e he y => ?_⟩
      subst y
      obtain ⟨i, hi, rfl⟩ := List.mem_map.mp he
      have hi := List.mem_range.mp hi
      have := h.it hc (perN β d - i)
      rw [← itD_add, show i + (perN β d - i) = perN β d by omega, p.2.1] at this
      exact z this
    · rcases List.mem_append.mp hc with y | y
      · exact List.mem_append_left _ (h.cl c y)
      · exact List.mem_append_right _ (orb_next b hd c y)
    · rcases List.mem_append.mp hc with y | y
      · exact h.sub c y
      · exact orb_in b hd c y
    · rcases List.mem_append.mp hf with y | y
      · exact h.orb f y
      · exact ⟨d, hd, List.mem_singleton.mp y⟩
theorem faces_fold (b : BehOk m D β) : ∀ (l : List Drt) (S : List (List Drt) × List Drt), FcOk D β S → (∀ d ∈ l, d ∈ D) → FcOk D β (l.foldl (stepF β) S) ∧ (∀ d ∈ l, d ∈ (l.foldl (stepF β) S).2) ∧ ∀ c ∈ S.2, c ∈ (l.foldl (stepF β) S).2
  | [], S, h, _ => ⟨h, nofun, fun c hc => hc⟩
  | d :: r, S, h, hl => by
    obtain ⟨h1, h2, h3⟩ := h.step b (hl d (by simp))
    obtain ⟨k1, k2, k3⟩ := faces_fold b r _ h1 fun x hx => hl x (by simp [hx])
    refine ⟨k1, fun x hx => ?_, fun c hc => k3 c (h3 c hc)⟩
    rcases List.mem_cons.mp hx with rfl | hx
    · exact k3 _ h2
    · exact k2 x hx
theorem faces_ok (b : BehOk m D β) {l : List Drt} (hl : ∀ d, d ∈ l ↔ d ∈ D) : FcOk D β (facesS β l) ∧ ∀ d, d ∈ (facesS β l).1.flatten ↔ d ∈ D := by
  obtain ⟨h1, h2, _⟩ := faces_fold b l ([], []) ⟨rfl, List.nodup_nil, nofun, nofun, nofun⟩ fun d hd => (hl d).mp hd
  have h1 : FcOk D β (facesS β l) := h1
  refine ⟨h1, fun d => ⟨fun h => ?_, fun h => ?_⟩⟩
  · rw [← h1.flat] at h
    exact h1.sub d h
  · rw [← h1.flat]
    exact h2 d ((hl d).mpr h)
end

theorem sum_mem : ∀ {l : List Nat} {x : Nat}, x ∈ l → x ≤ l.sum
  | a :: r, x, h => by
    rw [List.sum_cons]
    rcases List.mem_cons.mp h with rfl | h
    · omega
    · have := sum_mem h
      omega
theorem turn_rows {tt : List (List Nat)} {m : Nat} (h60 : m ≤ 60) (hl : tt.length = m) (hs : (tt.map (·.length)).sum ≤ 62) : RowsT (.tuple (tt.map rwN)) := fun rows e => by
  have e := PyData.tuple.inj e
  subst e
  refine ⟨by rw [List.length_map]; omega, fun x hx es e => ?_⟩
  obtain ⟨row, hr, rfl⟩ := List.mem_map.mp hx
  have e := PyData.tuple.inj e
  subst e
  have := sum_mem (List.mem_map.mpr ⟨row, hr, rfl⟩ : row.length ∈ tt.map (·.length))
  rw [List.length_map]
  omega

theorem fm_ex (x : Int) {m : Int} (h : 0 < m) : ∃ a : Nat, (a : Int) < m ∧ x.fmod m = a := by
  have h1 := Int.fmod_nonneg_of_pos x h
  have h2 := Int.fmod_lt_of_pos x h
  exact ⟨(x.fmod m).toNat, by omega, by omega⟩
theorem bdS {n : Nat} {x : Int} (h : x.natAbs < 2 ^ 64) (hn : 64 ≤ n) : Bd n x := Bd.mono (Bd.of (n := 64) h) hn
theorem cdv (x j : Int) (h1 : j ≠ 0) (h2 : j.natAbs < 2 ^ 64) : CDivX x j := ⟨h1, bdS h2 (by decide)⟩
def Φ__law_mixed : Ph := ph2 fun a b ms R => ∃ (c : Int) (k : Nat), a = .d (.int c) ∧ b = .d (.int k) ∧ k ≤ 1000 ∧ ∀ x : Int, R (.d (.int x)) ms
theorem len__law_mixed : ∀ as ms R, Φ__law_mixed as ms R → as.length = 2 := ph2_len
theorem rd__law_mixed {K : PySem.W.Frag} : ∀ as ms R, Φ__law_mixed as ms R → S K (t__law_mixed K) (as ++ List.replicate (3 - as.length) .u) ms (fin R) := by
  rintro as ms R ⟨a, b, rfl, c, k, rfl, rfl, hk, r⟩
  have hb : Bd 100000 (k : Int) := bdS (by omega) (by decide)
  have md : ∀ x : Int, ∃ y : Nat, x.fmod 2305843009213693951 = y ∧ y < 2305843009213693951 := fun x => by
    obtain ⟨y, hy, e⟩ := fm_ex x (m := 2305843009213693951) (by decide)
    exact ⟨y, e, by omega⟩
  unfold t__law_mixed
  refine s_seq (s_asg (e_op (e_op (e_op (e_var rfl (e_op (e_op (e_var rfl (e_var rfl (rr_I ⟨_, _, rfl, rfl, ⟨hb, hb⟩, ?_⟩))))))))))
  refine e_int (rr_I ⟨_, _, rfl, rfl, .inr ⟨by decide, by decide⟩, rr_I0 ⟨_, _, rfl, rfl, e_int (rr_I0 ⟨_, _, rfl, rfl, e_int (rr_I ⟨_, _, rfl, rfl, by decide, ?_⟩)⟩)⟩⟩)
  obtain ⟨y1, e1, h1⟩ := md (c + (k : Int) * k * 60493 + 777)
  rw [e1]
  have b1 : Bd 100000 (y1 : Int) := bdS (by omega) (by decide)
  refine s_seq (s_asg (e_op (e_op (e_var rfl (e_var rfl (rr_I ⟨_, _, rfl, rfl, ⟨b1, b1⟩, e_int (rr_I ⟨_, _, rfl, rfl, by decide, ?_⟩)⟩))))))
  obtain ⟨y2, e2, h2⟩ := md ((y1 : Int) * y1)
  rw [e2]
  refine s_seq (s_asg (e_op (e_op (e_op (e_op (e_op (e_op (e_var rfl (e_op (e_var rfl (e_int (rr_I ⟨_, _, rfl, rfl, .inr ⟨by decide, by decide⟩, rr_I0 ⟨_, _, rfl, rfl, e_int (rr_I0 ⟨_, _, rfl, rfl, ?_⟩)⟩⟩))))))))))))
  refine e_int (rr_I ⟨_, _, rfl, rfl, .inr ⟨by decide, by decide⟩, ?_⟩)
  refine e_op (e_var rfl (e_int (rr_I ⟨_, _, rfl, rfl, .inr ⟨by decide, by decide⟩, rr_I0 ⟨_, _, rfl, rfl, e_int (rr_I0 ⟨_, _, rfl, rfl, e_int (rr_I ⟨_, _, rfl, rfl, by decide, ?_⟩)⟩)⟩⟩)))
  obtain ⟨y3, e3, h3⟩ := md (((y2 : Int) + k * 104729 + 3) * 69621 + k * 7919 + 10007)
  rw [e3]
  have b3 : Bd 100000 (y3 : Int) := bdS (by omega) (by decide)
  refine s_ret (e_op (e_op (e_op (e_var rfl (e_var rfl (rr_I ⟨_, _, rfl, rfl, ⟨b3, b3⟩, e_int (rr_I ⟨_, _, rfl, rfl, by decide, e_int (rr_I ⟨_, _, rfl, rfl, cdv _ _ (by decide) (by decide), ?_⟩)⟩)⟩))))))
  exact r _

/-- a deck: numbers below 1000 -/
abbrev dkL (xs : List Nat) : List PyData := xs.map fun (k : Nat) => .int k
def Dk (xs : List Nat) : Prop := ∀ x ∈ xs, x < 1000
theorem Dk.snoc {xs : List Nat} {z : Nat} (h : Dk xs) (hz : z < 1000) : Dk (xs ++ [z]) := fun x hx => by
  rcases List.mem_append.mp hx with y | y
  · exact h x y
  · simp at y; omega
theorem dk_snoc (xs : List Nat) (z : Nat) : dkL (xs ++ [z]) = dkL xs ++ [.int z] := by
  unfold dkL
  rw [List.map_append]
  rfl
def Φ__law_deck : Ph := ph2 fun a b ms R => ∃ (ns : List Int) (n : Nat), a = .s ns ∧ b = .d (.int n) ∧ ns.length ≤ 63 ∧ n < 1000 ∧ ∀ xs : List Nat, Dk xs → R (.f (dkL xs)) ms
theorem len__law_deck : ∀ as ms R, Φ__law_deck as ms R → as.length = 2 := ph2_len
theorem int_at {ns : List Int} {j : Nat} (h : j < ns.length) : (ns.map PyData.int)[j]? = some (.int (ns.getD j 0)) := by
  rw [List.getElem?_map, List.getElem?_eq_getElem h]
  simp [List.getD, h]
theorem ixN_nat {n j : Nat} (h : j < n) : ixN n (j : Int) = some j := by
  unfold ixN
  simp [h]
theorem rd__law_deck {K : PySem.W.Frag} : ∀ as ms R, Φ__law_deck as ms R → S K (t__law_deck K Φ__law_mixed) (as ++ List.replicate (8 - as.length) .u) ms (fin R) := by
  rintro as ms R ⟨a, b, rfl, ns, n, rfl, rfl, hl, hn, r⟩
  unfold t__law_deck
  refine s_mid (fun ds' ms' => ∃ cs : List Int, cs ≠ [] ∧ cs.length ≤ 64 ∧ ds' = [.s ns, .d (.int n), .d (.list (cs.map .int)), .u, .u, .u, .u, .u] ∧ ms' = ms) ?_ ?_
  · refine s_asg (e_op (e_cb (ea_cons (e_slL (e_vars rfl (eo_none (eo_some (e_int ⟨_, rfl, _, .s ns, ?_⟩))))))))
    refine ea_nil (rc_list ⟨_, _, rfl, .inl (.d _), ?_⟩)
    refine e_op (e_lst (ea_cons (e_int (ea_nil ⟨[_], rfl, Nat.le_of_ble_eq_true rfl, ?_⟩))))
    refine e_cb (ea_cons (e_op (e_cb (ea_cons (e_vars rfl (ea_nil (rc_len ⟨_, _, rfl, .inl (.s ns), e_int (rr_eq ⟨_, _, .d _, .d _, shaped_int _, shaped_int _, ?_⟩)⟩)))))))
    refine ea_nil (rc_intB ⟨_, rfl, ?_⟩)
    rw [List.length_map, eqv_int]
    generalize hq : (if decide (((ns.length : Nat) : Int) = 0) = true then (1 : Int) else 0) = q
    have q01 : 0 ≤ q ∧ q ≤ 1 := by subst hq; split <;> omega
    refine rr_rep ⟨_, _, rfl, rfl, q01.1, by omega, ?_⟩
    have e1 : Hc.cutD (ns.map PyData.int) none (some 60) = (ns.take 60).map .int := by
      unfold Hc.cutD
      rw [HT.sIx_none, List.length_map, List.drop_zero, Nat.sub_zero, List.map_take]
      rw [show HT.sIx ns.length ns.length (some 60) = min 60 ns.length from HT.sIx_nat ns.length ns.length 60]
      rcases Nat.le_total 60 ns.length with z | z
      · rw [Nat.min_eq_left z]
      · rw [Nat.min_eq_right z, List.take_of_length_le (by simp), List.take_of_length_le (by simpa using z)]
    have e2 : Hc.cutD (ns.map PyData.int) none (some 60) ++ List.replicate q.toNat (PyData.int 0) = (ns.take 60 ++ List.replicate q.toNat 0).map .int := by
      rw [e1, List.map_append]
      simp
    have l2 := congrArg List.length e2
    refine rr_cat ⟨_, _, rfl, rfl, ?_, ?_⟩
    · rw [← List.length_append, e2]
      simp
      omega
    rw [e2]
    refine ⟨_, ?_, ?_, rfl, rfl⟩
    · intro z
      rw [List.append_eq_nil_iff] at z
      have z0 : ns = [] := by
        rcases List.take_eq_nil_iff.mp z.1 with y | y
        · cases y
        · exact y
      subst z0
      have q1 : q = 1 := hq.symm
      rw [q1] at z
      cases z.2
    · simp
      omega
  rintro ds' ms' ⟨cs, hc0, hc64, rfl, rfl⟩
  have hc1 : 0 < cs.length := List.length_pos_iff.mpr hc0
  have e18 : ((10 : Int) ^ (18 : Int).toNat) = 1000000000000000000 := by decide
  refine s_new (e_lcL (js := [4]) (by simp) (e_var rfl ⟨_, .d _, by rw [List.length_map]; omega, fun i acc ms1 => ∃ rs : List Int, rs.length = i ∧ acc = rs.map .int ∧ ms1 = ms', ⟨[], rfl, rfl, rfl⟩, ?_, ?_⟩))
  · rintro i e acc ms1 hi ⟨rs, hrl, rfl, rfl⟩
    rw [List.getElem?_map] at hi
    cases q : cs[i]? with
    | none => rw [q] at hi; cases hi
    | some c =>
      rw [q] at hi
      cases hi
      refine eg_name (et_yes ⟨fun _ => e_op (e_var rfl (e_cb (ea_cons (e_op (e_var rfl (e_op (e_int (e_int (rr_I ⟨_, _, rfl, rfl, ⟨by decide, by decide, by decide⟩, ?_⟩))))))))), nofun⟩)
      refine rr_B0 ⟨_, _, rfl, rfl, ea_nil (rc_intB ⟨_, rfl, rr_I ⟨_, _, rfl, rfl, .inr ?_, ?_⟩⟩)⟩
      · split <;> exact ⟨by decide, by decide⟩
      refine ⟨_, rfl, rs ++ [c * if decide ((10 : Int) ^ (18 : Int).toNat ≤ c) = true then 1 else 0], by simp [hrl], ?_, rfl⟩
      rw [List.map_append]
      rfl
  rintro acc ms1 ⟨rs, hrl, rfl, rfl⟩
  rw [List.length_map] at hrl
  refine ⟨_, rfl, ?_⟩
  refine s_new (e_lst (ea_nil ⟨[], rfl, Nat.zero_le _, _, rfl, ?_⟩))
  have n1 : (ms1 ++ [MD.l (rs.map PyData.int)]).length = ms1.length + 1 := by simp
  rw [n1]
  refine s_seq (s_forR (js := [6]) (ea_cons (e_var rfl (ea_nil ⟨_, rfl, by omega, fun i ds' ms' => ∃ (rs : List Int) (xs : List Nat) (o6 o7 : SD), rs.length = cs.length ∧ Dk xs ∧ xs.length = i ∧
    ds' = [.s ns, .d (.int n), .d (.list (cs.map .int)), .m ms1.length, .u, .m (ms1.length + 1), o6, o7] ∧ ms' = ms1 ++ [.l (rs.map .int)] ++ [.l (dkL xs)], ⟨rs, [], _, _, hrl, nofun, rfl, rfl, rfl⟩, ?_, ?_⟩))))
  · rintro i ds' ms' hi ⟨rs, xs, o6, o7, hr, hx, hxl, rfl, rfl⟩
    have hi' : i < n := by omega
    refine eg_name ?_
    refine s_seq (s_asg (e_op (e_var rfl (e_cb (ea_cons (e_var rfl (ea_nil (rc_len ⟨_, _, rfl, .inl (.d _), rr_I ⟨_, _, rfl, rfl, ?_, ?_⟩⟩))))))))
    · rw [List.length_map]; omega
    obtain ⟨j, hj, ej⟩ := fm_ex (i : Int) (m := (((cs.map PyData.int).length : Nat) : Int)) (by rw [List.length_map]; omega)
    rw [ej]
    have hj' : j < rs.length := by rw [List.length_map] at hj; omega
    have hjc : j < cs.length := by omega
    have g1 : ∀ A B : MD, (ms1 ++ [A] ++ [B])[ms1.length]? = some A := fun A B => get2a ms1 A B
    have two : ∀ (A B : MD), (ms1 ++ [A] ++ [B])[ms1.length + 1]? = some B := fun A B => get2b ms1 A B
    refine s_if (et_test (e_op (e_op (e_varm rfl (e_var rfl (rr_ix ⟨_, _, _, .inl (.m (g1 _ _)), rfl, atI_nat (int_at hj'), e_int (rr_B0 ⟨_, _, rfl, rfl, _, rfl, fun _ => ?_, fun _ => ?_⟩)⟩))))))
    · refine s_seq (s_drop (e_append (e_varm rfl ⟨_, rfl, e_op (e_op (e_varm rfl (e_var rfl (rr_ix ⟨_, _, _, .inl (.m (g1 _ _)), rfl, atI_nat (int_at hj'), e_int (rr_I ⟨_, _, rfl, rfl, by decide, ?_⟩)⟩))))⟩)))
      obtain ⟨z, hz, ez⟩ := fm_ex (rs.getD j 0) (m := 1000) (by decide)
      rw [ez]
      refine ⟨_, _, rfl, two _ _, by rw [List.length_map]; omega, ?_⟩
      rw [set2b]
      refine s_setL (e_op (e_op (e_varm rfl (e_var rfl (rr_ix ⟨_, _, _, .inl (.m (g1 _ _)), rfl, atI_nat (int_at hj'), e_int (rr_I ⟨_, _, rfl, rfl, cdv _ _ (by decide) (by decide), ?_⟩)⟩)))))
      refine ⟨_, rfl, e_varm rfl ⟨_, rfl, e_var rfl ⟨_, j, _, rfl, g1 _ _, ixN_nat (by rw [List.length_map]; exact hj'), ?_⟩⟩⟩
      rw [set2a]
      refine ⟨rs.set j ((rs.getD j 0).fdiv 1000), xs ++ [z], _, _, by simp [hr], hx.snoc (by omega), by simp [hxl], rfl, ?_⟩
      rw [List.map_set, dk_snoc]
    · refine s_drop (e_append (e_varm rfl ⟨_, rfl, e_op (e_call (ea_cons (e_op (e_var rfl (e_var rfl (rr_ix ⟨_, _, _, .inl (.d _), rfl, atI_nat (int_at hjc), ?_⟩))))))⟩))
      refine ea_cons (e_op (e_var rfl (e_int (rr_I0 ⟨_, _, rfl, rfl, ?_⟩))))
      refine ea_nil ⟨_, _, rfl, _, i + 1, rfl, rfl, by omega, fun x => e_int (rr_I ⟨_, _, rfl, rfl, by decide, ?_⟩)⟩
      obtain ⟨z, hz, ez⟩ := fm_ex x (m := 1000) (by decide)
      rw [ez]
      refine ⟨_, _, rfl, two _ _, by rw [List.length_map]; omega, ?_⟩
      rw [set2b]
      refine ⟨rs, xs ++ [z], _, _, hr, hx.snoc (by omega), by simp [hxl], rfl, by rw [dk_snoc]⟩
  rintro ds' ms' ⟨rs, xs, o6, o7, hr, hx, hxl, rfl, rfl⟩
  refine s_ret (e_lstRev (e_varm rfl ⟨_, .m (get2b ms1 _ _), ?_⟩))
  refine ⟨_, _, rfl, by simp, _, _, rfl, rfl, ?_⟩
  rw [← List.map_reverse]
  exact r _ fun x hx' => hx x (by simpa using hx')

theorem set_same {α : Type} : ∀ (l : List α) (k : Nat) (x : α), l[k]? = some x → l.set k x = l
  | [], k, x, h => by simp at h
  | a :: r, 0, x, h => by simp at h; simp [h]
  | a :: r, k + 1, x, h => by simp at h; simp [set_same r k x h]
def Φ__law_next : Ph := ph1 fun a ms R => ∃ (k : Nat) (xs : List Nat), a = .m k ∧ Dk xs ∧ ms[k]? = some (.l (dkL xs)) ∧ ∀ (z : Nat) (xs' : List Nat), z < 1000 → Dk xs' → R (.d (.int z)) (ms.set k (.l (dkL xs')))
theorem len__law_next : ∀ as ms R, Φ__law_next as ms R → as.length = 1 := ph1_len
theorem rd__law_next {K : PySem.W.Frag} : ∀ as ms R, Φ__law_next as ms R → S K (t__law_next K) (as ++ List.replicate (1 - as.length) .u) ms (fin R) := by
  rintro as ms R ⟨a, rfl, k, xs, rfl, hx, hk, r⟩
  unfold t__law_next
  refine s_seq (s_if (et_test (e_op (e_cb (ea_cons (e_varm rfl (ea_nil (rc_len ⟨_, _, rfl, .inl (.m hk), e_int (rr_B0 ⟨_, _, rfl, rfl, _, rfl, fun h => ?_, fun h => ?_⟩)⟩))))))))
  · have h1 : xs ≠ [] := fun z => by subst z; simp at h
    have e : xs = xs.dropLast ++ [xs.getLast h1] := (List.dropLast_concat_getLast h1).symm
    refine s_ret (e_pop (e_varm rfl ⟨k, dkL xs.dropLast, .int (xs.getLast h1 : Nat), rfl, ?_, ?_⟩))
    · rw [hk, show dkL xs = dkL (xs.dropLast ++ [xs.getLast h1]) by rw [← e]]
      unfold dkL
      rw [List.map_append]
      rfl
    · exact r _ _ (hx _ (List.getLast_mem h1)) fun x hx' => hx x (by rw [List.dropLast_eq_take] at hx'; exact List.mem_of_mem_take hx')
  · refine s_next (s_ret (e_int ?_))
    have := r 0 xs (by decide) hx
    rw [set_same _ _ _ hk] at this
    exact this
/-- one more of the deck -/
theorem e_next {K : PySem.W.Frag} {ds : List SD} {ms : List MD} {i k : Nat} {xs : List Nat} {R : RS} (hi : ds[i]? = some (.m k)) (hk : ms[k]? = some (.l (dkL xs))) (hn : Dk xs)
    (r : ∀ (z : Nat) (xs' : List Nat), z < 1000 → Dk xs' → R (.d (.int z)) (ms.set k (.l (dkL xs')))) : E K (tCall (SpD K Φ__law_next) [] E0 (tCons (tVar i) tNil)) ds ms R :=
  e_call (ea_cons (e_varm hi (ea_nil ⟨_, rfl, k, xs, rfl, hn, hk, r⟩)))

/-! ### the deck among other things that change -/
abbrev dm (ms : List MD) (k : Nat) (xs : List Nat) : List MD := ms.set k (.l (dkL xs))
theorem dm_self {ms : List MD} {k : Nat} {xs : List Nat} (h : ms[k]? = some (.l (dkL xs))) : dm ms k xs = ms := set_same _ _ _ h
theorem dm_len (ms : List MD) (k : Nat) (xs : List Nat) : (dm ms k xs).length = ms.length := List.length_set
theorem dm_dm (ms : List MD) (k : Nat) (xs ys : List Nat) : (dm ms k xs).set k (.l (dkL ys)) = dm ms k ys := List.set_set ..
theorem dm_at {ms : List MD} {k : Nat} (h : k < ms.length) (xs : List Nat) : (dm ms k xs)[k]? = some (.l (dkL xs)) := List.getElem?_set_self h
theorem dm_at1 {ms : List MD} {k : Nat} (h : k < ms.length) (xs : List Nat) (A : MD) : (dm ms k xs ++ [A])[k]? = some (.l (dkL xs)) := by
  rw [List.getElem?_append_left (by rw [dm_len]; exact h)]
  exact dm_at h xs
theorem dm_at2 {ms : List MD} {k : Nat} (h : k < ms.length) (xs : List Nat) (A B : MD) : (dm ms k xs ++ [A] ++ [B])[k]? = some (.l (dkL xs)) := by
  rw [List.getElem?_append_left (by rw [List.length_append, dm_len]; exact Nat.lt_add_right _ h)]
  exact dm_at1 h xs A
theorem dm_set1 {ms : List MD} {k : Nat} (h : k < ms.length) (xs ys : List Nat) (A : MD) : (dm ms k xs ++ [A]).set k (.l (dkL ys)) = dm ms k ys ++ [A] := by
  rw [List.set_append_left _ _ (by rw [dm_len]; exact h), dm_dm]
theorem dm_set2 {ms : List MD} {k : Nat} (h : k < ms.length) (xs ys : List Nat) (A B : MD) : (dm ms k xs ++ [A] ++ [B]).set k (.l (dkL ys)) = dm ms k ys ++ [A] ++ [B] := by
  rw [List.set_append_left _ _ (by rw [List.length_append, dm_len]; exact Nat.lt_add_right _ h), dm_set1 h]
theorem dm_g1 (ms : List MD) (k : Nat) (xs : List Nat) (A : MD) : (dm ms k xs ++ [A])[ms.length]? = some A := by
  have := get1 (dm ms k xs) A
  rwa [dm_len] at this
theorem dm_s1 (ms : List MD) (k : Nat) (xs : List Nat) (A B : MD) : (dm ms k xs ++ [A]).set ms.length B = dm ms k xs ++ [B] := by
  have := set1 (dm ms k xs) A B
  rwa [dm_len] at this
theorem dm_g2a (ms : List MD) (k : Nat) (xs : List Nat) (A B : MD) : (dm ms k xs ++ [A] ++ [B])[ms.length]? = some A := by
  have := get2a (dm ms k xs) A B
  rwa [dm_len] at this
theorem dm_g2b (ms : List MD) (k : Nat) (xs : List Nat) (A B : MD) : (dm ms k xs ++ [A] ++ [B])[ms.length + 1]? = some B := by
  have := get2b (dm ms k xs) A B
  rwa [dm_len] at this
theorem dm_s2a (ms : List MD) (k : Nat) (xs : List Nat) (A B X : MD) : (dm ms k xs ++ [A] ++ [B]).set ms.length X = dm ms k xs ++ [X] ++ [B] := by
  have := set2a (dm ms k xs) A B X
  rwa [dm_len] at this
theorem dm_s2b (ms : List MD) (k : Nat) (xs : List Nat) (A B X : MD) : (dm ms k xs ++ [A] ++ [B]).set (ms.length + 1) X = dm ms k xs ++ [A] ++ [X] := by
  have := set2b (dm ms k xs) A B X
  rwa [dm_len] at this
theorem dm_l1 (ms : List MD) (k : Nat) (xs : List Nat) (A : MD) : (dm ms k xs ++ [A]).length = ms.length + 1 := by rw [List.length_append, dm_len]; rfl

theorem wt_fr {i j : Int} (hj : 0 < j) (h1 : i.natAbs < 2 ^ 32) (h2 : j.natAbs < 2 ^ 10) : Wt (fr i j) := by
  have hne : j ≠ 0 := by omega
  have l := fr_le (i := i) hne
  exact ⟨Lo.fr hne, (Bd.of h1).le l.1, (Bd.of h2).le l.2⟩
def Φ__law_weight : Ph := ph1 fun a ms R => ∃ (k : Nat) (xs : List Nat), a = .m k ∧ Dk xs ∧ ms[k]? = some (.l (dkL xs)) ∧ ∀ (f : Int × Int) (xs' : List Nat), Wt f → Dk xs' → R (.d (pr f)) (dm ms k xs')
theorem len__law_weight : ∀ as ms R, Φ__law_weight as ms R → as.length = 1 := ph1_len
theorem rd__law_weight {K : PySem.W.Frag} : ∀ as ms R, Φ__law_weight as ms R → S K (t__law_weight K Φ__law_next Φ_as_fraction) (as ++ List.replicate (3 - as.length) .u) ms (fin R) := by
  rintro as ms R ⟨a, rfl, k, xs, rfl, hx, hk, r⟩
  unfold t__law_weight
  refine s_seq (s_asg (e_next rfl hk hx fun c xs1 hc hx1 => ?_))
  refine s_seq (s_asg (e_lst (ea_cons (e_int (ea_cons (e_int (ea_cons (e_int (ea_cons (e_int (ea_cons (e_un (e_int (ru_I ⟨_, rfl, ?_⟩))))))))))))))
  refine ea_cons (e_un (e_int (ru_I ⟨_, rfl, ea_cons (e_un (e_int (ru_I ⟨_, rfl, ea_cons (e_int (ea_cons (e_int (ea_cons (e_un (e_int (ru_I ⟨_, rfl, ?_⟩)))))))⟩)))⟩)))
  refine ea_cons (e_int (ea_cons (e_int (ea_nil ⟨[_, _, _, _, _, _, _, _, _, _, _, _], rfl, Nat.le_of_ble_eq_true rfl, ?_⟩))))
  refine s_ret (e_call (ea_cons (e_op (e_var rfl (e_op (e_var rfl (e_int (rr_I ⟨_, _, rfl, rfl, by decide, ?_⟩))))))))
  obtain ⟨i, hi, ei⟩ := fm_ex (c : Int) (m := 12) (by decide)
  rw [ei]
  have at_ : ∃ t : Int, t.natAbs < 2 ^ 32 ∧ ([PyData.int 1, .int 2, .int 3, .int 0, .int (-1), .int (-2), .int (-3), .int 5, .int 1, .int (-1), .int 1, .int 999999937] : List PyData)[i]? = some (.int t) := by
    have : i = 0 ∨ i = 1 ∨ i = 2 ∨ i = 3 ∨ i = 4 ∨ i = 5 ∨ i = 6 ∨ i = 7 ∨ i = 8 ∨ i = 9 ∨ i = 10 ∨ i = 11 := by omega
    rcases this with rfl | rfl | rfl | rfl | rfl | rfl | rfl | rfl | rfl | rfl | rfl | rfl <;> exact ⟨_, by decide, rfl⟩
  obtain ⟨t, ht, et⟩ := at_
  refine rr_ix ⟨_, _, _, .inl (.d _), rfl, atI_nat et, ?_⟩
  refine ea_cons (e_op (e_lst (ea_cons (e_int (ea_cons (e_int (ea_cons (e_int (ea_cons (e_int (ea_cons (e_int (ea_cons (e_int (ea_nil ⟨[_, _, _, _, _, _], rfl, Nat.le_of_ble_eq_true rfl, ?_⟩)))))))))))))))
  refine e_op (e_op (e_var rfl (e_int (rr_I ⟨_, _, rfl, rfl, cdv _ _ (by decide) (by decide), e_int (rr_I ⟨_, _, rfl, rfl, by decide, ?_⟩)⟩))))
  obtain ⟨j, hj, ej⟩ := fm_ex ((c : Int).fdiv 12) (m := 6) (by decide)
  rw [ej]
  have at_ : ∃ d : Int, (0 < d ∧ d.natAbs < 2 ^ 10) ∧ ([PyData.int 1, .int 1, .int 2, .int 3, .int 1, .int 7] : List PyData)[j]? = some (.int d) := by
    have : j = 0 ∨ j = 1 ∨ j = 2 ∨ j = 3 ∨ j = 4 ∨ j = 5 := by omega
    rcases this with rfl | rfl | rfl | rfl | rfl | rfl <;> exact ⟨_, by decide, rfl⟩
  obtain ⟨d, ⟨d0, d1⟩, ed⟩ := at_
  refine rr_ix ⟨_, _, _, .inl (.d _), rfl, atI_nat ed, ea_nil ⟨_, _, rfl, t, d, rfl, rfl, by omega, (Bd.of d1).mono (by decide), ?_⟩⟩
  exact r _ _ (wt_fr d0 ht d1) hx1

theorem perm_erase : ∀ {l : List Nat} {j : Nat} (h : j < l.length), ([l[j]] ++ l.eraseIdx j).Perm l
  | a :: r, 0, h => List.Perm.refl _
  | a :: r, j + 1, h => by
    have hj : j < r.length := by simpa using h
    have ih := perm_erase (l := r) (j := j) hj
    show ([r[j]] ++ (a :: r.eraseIdx j)).Perm (a :: r)
    exact (List.Perm.swap a r[j] (r.eraseIdx j)).trans (ih.cons a)
theorem erase_map : ∀ (l : List Nat) (j : Nat), (l.map fun (k : Nat) => (k : Int)).eraseIdx j = (l.eraseIdx j).map fun (k : Nat) => (k : Int)
  | [], _ => rfl
  | _ :: _, 0 => rfl
  | a :: r, j + 1 => by
    show (a : Int) :: ((r.map fun (k : Nat) => (k : Int)).eraseIdx j) = _
    rw [erase_map r j]
    rfl
theorem perm_enc {α β : Type} (f : α → β) : ∀ {l : List α} {m : List β}, m.Perm (l.map f) → ∃ l' : List α, m = l'.map f ∧ l'.Perm l := by
  intro l m h
  have key : ∀ {a b : List β}, a.Perm b → ∀ l : List α, b = l.map f → ∃ l' : List α, a = l'.map f ∧ l'.Perm l := by
    intro a b h
    induction h with
    | nil =>
      intro l e
      cases l with
      | nil => exact ⟨[], rfl, .nil⟩
      | cons x r => cases e
    | cons x h ih =>
      intro l e
      cases l with
      | nil => cases e
      | cons y r =>
        rw [List.map_cons] at e
        obtain ⟨l', e1, p⟩ := ih r (List.cons.inj e).2
        exact ⟨y :: l', by rw [List.map_cons, e1, (List.cons.inj e).1], p.cons y⟩
    | swap x y r =>
      intro l e
      match l, e with
      | [], e => cases e
      | [_], e => cases (List.cons.inj e).2
      | a :: b :: t, e =>
        rw [List.map_cons, List.map_cons] at e
        obtain ⟨e1, e2⟩ := List.cons.inj e
        obtain ⟨e2, e3⟩ := List.cons.inj e2
        exact ⟨b :: a :: t, by rw [List.map_cons, List.map_cons, e1, e2, e3], .swap a b t⟩
    | trans h1 h2 ih1 ih2 =>
      intro l e
      obtain ⟨l2, e2, p2⟩ := ih2 l e
      obtain ⟨l1, e1, p1⟩ := ih1 l2 e2
      exact ⟨l1, e1, p1.trans p2⟩
  exact key h l rfl
theorem ties_sort (ts : List Tie) : (∀ e ∈ ts.map encT, Shp 60 e) ∧ PySem.W.AllAlike (ts.map encT) ∧ PySem.W.Sortable (ts.map encT) := by
  refine ⟨fun e he => ?_, fun d hd d' hd' => ?_, .inl fun d hd => ?_⟩
  · obtain ⟨t, _, rfl⟩ := List.mem_map.mp he
    refine (Shp.tup (n := 1) fun x hx => ?_).mono (by decide)
    simp only [List.mem_cons, List.not_mem_nil, or_false] at hx
    rcases hx with rfl | rfl | rfl
    · exact (Shp.int _).mono (by decide)
    · exact (Shp.int _).mono (by decide)
    · exact Shp.pr _
  · obtain ⟨t, _, rfl⟩ := List.mem_map.mp hd
    obtain ⟨u, _, rfl⟩ := List.mem_map.mp hd'
    rfl
  · obtain ⟨t, _, rfl⟩ := List.mem_map.mp hd
    exact ⟨_, _, rfl⟩
theorem nbS_nat (ts : List Tie) (p : Nat) : ∃ l : List Nat, nbS ts p = l.map (fun (k : Nat) => (k : Int)) ∧ l.Perm (nb ts p) := perm_enc (fun (k : Nat) => (k : Int)) (srtI_perm _)
theorem pick_self (l : List Nat) : ((List.range l.length).map fun j => l.getD j 0) = l := by
  refine List.ext_getElem? fun i => ?_
  by_cases h : i < l.length
  · rw [List.getElem?_map, List.getElem?_range h, List.getElem?_eq_getElem h, ← getD_ix h]
    rfl
  · rw [List.getElem?_eq_none (by rw [List.length_map, List.length_range]; omega), List.getElem?_eq_none (by omega)]
theorem perm_pick {ps l : List Nat} (h : ps.Perm (List.range l.length)) : (ps.map fun j => l.getD j 0).Perm l := (h.map _).trans (by rw [pick_self])
theorem perm_lt {ps : List Nat} {n j : Nat} (h : ps.Perm (List.range n)) (hj : j ∈ ps) : j < n := List.mem_range.mp (h.mem_iff.mp hj)
theorem natN_at {l : List Nat} {i : Nat} (h : i < l.length) : (nI l)[i]? = some (.int ((l.getD i 0 : Nat) : Int)) := by
  unfold nI
  rw [List.getElem?_map, List.getElem?_eq_getElem h, getD_ix h, Option.map_some]

def Φ__law_order : Ph := ph2 fun a b ms R => ∃ (k : Nat) (xs : List Nat) (n : Nat), a = .m k ∧ b = .d (.int n) ∧ Dk xs ∧ ms[k]? = some (.l (dkL xs)) ∧ n ≤ 60 ∧
  ∀ (ps : List Nat) (xs' : List Nat), ps.Perm (List.range n) → Dk xs' → R (.f (nI ps)) (dm ms k xs')
theorem len__law_order : ∀ as ms R, Φ__law_order as ms R → as.length = 2 := ph2_len
theorem nI_app (a b : List Nat) : nI (a ++ b) = nI a ++ nI b := List.map_append
theorem nI_int (a : List Nat) : nI a = (a.map fun (k : Nat) => (k : Int)).map PyData.int := by rw [List.map_map]; rfl
theorem rd__law_order {K : PySem.W.Frag} : ∀ as ms R, Φ__law_order as ms R → S K (t__law_order K Φ__law_next) (as ++ List.replicate (5 - as.length) .u) ms (fin R) := by
  rintro as ms R ⟨a, b, rfl, k, xs, n, rfl, rfl, hx, hk, hn, r⟩
  have kl : k < ms.length := (List.getElem?_eq_some_iff.mp hk).1
  unfold t__law_order
  refine s_new (e_lrg (e_var rfl ⟨n, rfl, by omega, _, rfl, ?_⟩))
  refine s_new (e_lst (ea_nil ⟨[], rfl, Nat.zero_le _, _, rfl, ?_⟩))
  rw [← dm_self hk, dm_l1, dm_len]
  refine s_seq (s_forR (js := [4]) (ea_cons (e_var rfl (ea_nil ⟨_, rfl, by omega, fun i ds' ms' => ∃ (rs fs xs' : List Nat) (o4 : SD), (fs ++ rs).Perm (List.range n) ∧ fs.length = i ∧ Dk xs' ∧
    ds' = [.m k, .d (.int (n : Nat)), .m ms.length, .m (ms.length + 1), o4] ∧ ms' = dm ms k xs' ++ [.l (nI rs)] ++ [.l (nI fs)], ⟨List.range n, [], xs, _, List.Perm.refl _, rfl, hx, rfl, rfl⟩, ?_, ?_⟩))))
  · rintro i ds' ms' hi ⟨rs, fs, xs1, o4, pm, fl, hx1, rfl, rfl⟩
    have hi' : i < n := by simpa using hi
    have ln := pm.length_eq
    rw [List.length_append, List.length_range] at ln
    have rl : 0 < rs.length := by omega
    refine eg_name (s_drop (e_append (e_varm rfl ⟨_, rfl, e_popAt (e_varm rfl ⟨_, rfl, e_op (e_next rfl (dm_at2 kl _ _ _) hx1 fun z xs2 hz hx2 => ?_)⟩)⟩)))
    rw [dm_set2 kl]
    refine e_cb (ea_cons (e_varm rfl (ea_nil (rc_len ⟨_, _, rfl, .inl (.m (dm_g2a _ _ _ _ _)), rr_I ⟨_, _, rfl, rfl, ?_, ?_⟩⟩))))
    · rw [List.length_map]; omega
    obtain ⟨j, hj, ej⟩ := fm_ex (z : Int) (m := (((nI rs).length : Nat) : Int)) (by rw [List.length_map]; omega)
    rw [ej]
    rw [List.length_map] at hj
    have hj : j < rs.length := by omega
    have aty : (rs.map fun (k : Nat) => (k : Int))[j]? = some ((rs[j] : Nat) : Int) := by rw [List.getElem?_map, List.getElem?_eq_getElem hj]; rfl
    refine ⟨rs.map fun (k : Nat) => (k : Int), j, _, rfl, by rw [dm_g2a, nI_int], aty, by rw [List.length_map]; omega, ?_⟩
    rw [dm_s2a]
    refine ⟨_, _, rfl, dm_g2b _ _ _ _ _, by rw [List.length_map]; omega, ?_⟩
    rw [dm_s2b]
    refine ⟨rs.eraseIdx j, fs ++ [rs[j]], xs2, _, ?_, by simp [fl], hx2, rfl, ?_⟩
    · refine List.Perm.trans ?_ pm
      rw [List.append_assoc]
      exact List.Perm.append_left fs (perm_erase hj)
    · rw [nI_app, nI_int (rs.eraseIdx j), erase_map]
      rfl
  rintro ds' ms' ⟨rs, fs, xs1, o4, pm, fl, hx1, rfl, rfl⟩
  refine s_ret (e_varm rfl ?_)
  have ln := pm.length_eq
  rw [List.length_append, List.length_range] at ln
  have fl : fs.length = n := by simpa using fl
  have r0 : rs = [] := List.length_eq_zero_iff.mp (by omega)
  subst r0
  rw [List.append_nil] at pm
  refine ⟨dm ms k xs1 ++ [.l (nI [])], _, rfl, dm_l1 _ _ _ _, dm ms k xs1, _, rfl, dm_len _ _ _, ?_⟩
  have e : frzR ms.length (nI []) (frzR (ms.length + 1) (nI fs) (.m (ms.length + 1))) = .f (nI fs) := by
    have e1 : frzR (ms.length + 1) (nI fs) (.m (ms.length + 1)) = .f (nI fs) := if_pos rfl
    rw [e1]
    rfl
  show R _ _
  rw [e]
  exact r fs xs1 pm hx1

def Φ__law_beside : Ph := ph1 fun a ms R => ∃ (m : Nat) (ts : List Tie), a = .d (encW m ts) ∧ WebOk m ts ∧ R (.f ((List.range m).map fun p => .list ((nbS ts p).map .int))) ms
theorem len__law_beside : ∀ as ms R, Φ__law_beside as ms R → as.length = 1 := ph1_len
theorem rd__law_beside {K : PySem.W.Frag} : ∀ as ms R, Φ__law_beside as ms R → S K (t__law_beside K) (as ++ List.replicate (7 - as.length) .u) ms (fin R) := by
  rintro as ms R ⟨a, rfl, m, ts, rfl, hw, r⟩
  have hl := hw.len
  have hm60 := hw.m60
  have nl : ∀ us, (nbP us m).length = m := fun us => by simp [nbP]
  unfold t__law_beside
  refine s_assoc (s_mid (fun ds' ms' => ∃ o2 o3 o4 o5 o6 : SD, ds' = [.d (encW m ts), .d (.list ((nbP ts m).map .list)), o2, o3, o4, o5, o6] ∧ ms' = ms) (s_newLL ?_) ?_)
  · walk_at "evs"
    refine ⟨by omega, ?_⟩
    have h0 : List.replicate m ([] : List PyData) = nbP [] m := by
      apply List.ext_getElem?
      intro p
      by_cases hp : p < m
      · rw [nb_get _ hp, List.getElem?_replicate, if_pos hp]
        rfl
      · rw [List.getElem?_eq_none (by simp; omega), List.getElem?_eq_none (by simp [nbP]; omega)]
    refine s_forT (js := [3, 4, 5]) (e_op (e_var rfl (e_int (rr_ix ⟨_, _, _, .inr (.d _), rfl, atI_nat (j := 1) rfl, _, rfl, fun k ds' ms' => ∃ o2 o3 o4 o5 o6 : SD, ds' = [.d (encW m ts), .m (ms.length + m), o2, o3, o4, o5, o6] ∧ ms' = ms ++ rowsM ms.length (nbP (ts.take k) m), ⟨.u, .u, .u, .u, .u, rfl, by rw [h0]; rfl⟩, ?_, ?_⟩))))
    · rintro k e ds' ms' he ⟨o2, o3, o4, o5, o6, rfl, rfl⟩
      rw [List.getElem?_map] at he
      cases q : ts[k]? with
      | none => rw [q] at he; cases he
      | some t =>
        rw [q] at he
        cases he
        have ht := hw.all t (List.mem_of_getElem? q)
        have t1 := ht.lt
        have t2 := ht.lm
        have kl : (ts.take k).length ≤ 170 := by rw [List.length_take]; omega
        refine eg_tup rfl (egs_cons (eg_name (egs_cons (eg_name (egs_cons (eg_name (egs_nil ?_)))))))
        have top : ∀ ess : List (List PyData), ess.length = m → (ms ++ rowsM ms.length ess)[ms.length + m]? = some (.r (List.range' ms.length m)) := fun ess e => by
          have := rows_top ms.length ms ess
          rw [e] at this
          exact this
        have rg : ∀ p, p < m → (List.range' ms.length m)[p]? = some (ms.length + p) := fun p hp => by
          rw [List.getElem?_range' hp]
          simp
        have c1 := nb_len (ts.take k) t.1
        have c2 := nb_len (ts.take k) t.2.1
        have g1 := nb_get (ts.take k) (show t.1 < m by omega)
        have g2 := nb_get (ts.take k) t2
        refine s_seq (s_drop (e_append (e_op (e_varm rfl (e_var rfl (rr_ixR ⟨ms.length + m, t.1, ms.length + t.1, _, rfl, rfl, top _ (nl _), rg _ (by omega), ⟨_, rows_at _ _ _ g1⟩, _, rfl, ?_⟩))))))
        refine e_var rfl ⟨_, _, rfl, rows_at _ _ _ g1, by rw [List.length_map]; omega, ?_⟩
        rw [rows_set _ _ _ rfl (by rw [nl]; omega)]
        have g3 : ((nbP (ts.take k) m).set t.1 (nI (nb (ts.take k) t.1) ++ [PyData.int (t.2.1 : Nat)]))[t.2.1]? = some (nI (nb (ts.take k) t.2.1)) := by
          rw [List.getElem?_set_ne (by omega)]
          exact g2
        have l3 : ((nbP (ts.take k) m).set t.1 (nI (nb (ts.take k) t.1) ++ [PyData.int (t.2.1 : Nat)])).length = m := by rw [List.length_set, nl]
        refine s_drop (e_append (e_op (e_varm rfl (e_var rfl (rr_ixR ⟨ms.length + m, t.2.1, ms.length + t.2.1, _, rfl, rfl, top _ l3, rg _ t2, ⟨_, rows_at _ _ _ g3⟩, _, rfl, ?_⟩)))))
        refine e_var rfl ⟨_, _, rfl, rows_at _ _ _ g3, by rw [List.length_map]; omega, ?_⟩
        rw [rows_set _ _ _ rfl (by rw [l3]; omega)]
        refine ⟨_, _, _, _, _, rfl, ?_⟩
        rw [take_snoc q, nb_snoc _ _ t1 t2]
    · rintro ds' ms' ⟨o2, o3, o4, o5, o6, rfl, rfl⟩
      rw [List.length_map, List.take_length]
      refine ⟨ms, _, rfl, rfl, nl _, ?_⟩
      have e : frzLS ms.length (nbP ts m) (.m (ms.length + m)) = .d (.list ((nbP ts m).map .list)) := by
        show (if ms.length + m < ms.length then _ else if ms.length + m = ms.length + (nbP ts m).length then _ else _) = _
        rw [if_neg (by omega), if_pos (by rw [nl])]
      exact ⟨frzLS ms.length (nbP ts m) o2, frzLS ms.length (nbP ts m) o3, frzLS ms.length (nbP ts m) o4, frzLS ms.length (nbP ts m) o5, frzLS ms.length (nbP ts m) o6, congrArg (fun z => [SD.d (encW m ts), z, frzLS ms.length (nbP ts m) o2, frzLS ms.length (nbP ts m) o3, frzLS ms.length (nbP ts m) o4, frzLS ms.length (nbP ts m) o5, frzLS ms.length (nbP ts m) o6]) e, rfl⟩
  rintro ds' ms' ⟨o2, o3, o4, o5, o6, rfl, rfl⟩
  refine s_ret (e_lcL (js := [6]) (by simp) (e_var rfl ⟨_, .d _, by rw [List.length_map, nl]; omega, fun k acc ms2 => acc = ((List.range k).map fun p => PyData.list ((nbS ts p).map .int)) ∧ ms2 = ms', ⟨rfl, rfl⟩, ?_, ?_⟩))
  · rintro k e acc ms2 he ⟨rfl, rfl⟩
    have hk : k < m := by
      have := (List.getElem?_eq_some_iff.mp he).1
      rwa [List.length_map, nl] at this
    rw [List.getElem?_map, nb_get _ hk] at he
    cases he
    refine eg_name (et_yes ⟨fun _ => ?_, nofun⟩)
    have en : nI (nb ts k) = ((nb ts k).map fun (k : Nat) => (k : Int)).map PyData.int := by rw [List.map_map]; rfl
    refine e_cb (ea_cons (e_var rfl (ea_nil (rc_sorted ⟨_, (nb ts k).map fun (k : Nat) => (k : Int), rfl, by rw [en]; exact .d _, fun l pm so => ?_⟩))))
    refine ⟨_, rfl, ?_, rfl⟩
    rw [List.range_succ, List.map_append, srtI_is pm so]
    rfl
  · rintro acc ms2 ⟨rfl, rfl⟩
    rw [List.length_map, nl]
    exact r

def Φ__law_turns : Ph := ph2 fun a b ms R => ∃ (k : Nat) (xs : List Nat) (m : Nat) (ts : List Tie), a = .m k ∧ b = .d (encW m ts) ∧ Dk xs ∧ ms[k]? = some (.l (dkL xs)) ∧ WebOk m ts ∧ ts.length ≤ 60 ∧
  ∀ (tt : List (List Nat)) (xs' : List Nat), TurnOk m ts tt → Dk xs' → R (.d (.tuple (tt.map rwN))) (dm ms k xs')
theorem len__law_turns : ∀ as ms R, Φ__law_turns as ms R → as.length = 2 := ph2_len
theorem rd__law_turns {K : PySem.W.Frag} : ∀ as ms R, Φ__law_turns as ms R → S K (t__law_turns K Φ__law_beside Φ__law_order) (as ++ List.replicate (5 - as.length) .u) ms (fin R) := by
  rintro as ms R ⟨a, b, rfl, k, xs, m, ts, rfl, rfl, hx, hk, hw, hl60, r⟩
  have kl : k < ms.length := (List.getElem?_eq_some_iff.mp hk).1
  have m60 := hw.m60
  unfold t__law_turns
  refine s_new (e_lst (ea_nil ⟨[], rfl, Nat.zero_le _, _, rfl, ?_⟩))
  rw [← dm_self hk, dm_len]
  refine s_seq (s_forL (js := [3]) (e_call (ea_cons (e_var rfl (ea_nil ⟨_, rfl, m, ts, rfl, hw, _, .d _, fun i ds' ms' => ∃ (tt : List (List Nat)) (xs' : List Nat) (o3 o4 : SD), tt.length = i ∧ (∀ p, p < i → (tt.getD p []).Perm (nb ts p)) ∧ Dk xs' ∧
    ds' = [.m k, .d (encW m ts), .m ms.length, o3, o4] ∧ ms' = dm ms k xs' ++ [.l (tt.map rwN)], ⟨[], xs, _, _, rfl, nofun, hx, rfl, rfl⟩, ?_, ?_⟩)))))
  · rintro i e ds' ms' he ⟨tt, xs1, o3, o4, tl, tp, hx1, rfl, rfl⟩
    have hi : i < m := by
      have := (List.getElem?_eq_some_iff.mp he).1
      rwa [List.length_map, List.length_range] at this
    rw [List.getElem?_map, List.getElem?_range hi] at he
    cases he
    obtain ⟨l, el, lp⟩ := nbS_nat ts i
    have ll : l.length ≤ 60 := by
      have := lp.length_eq
      have := nb_len ts i
      omega
    have ed : PyData.list ((nbS ts i).map .int) = .list (nI l) := by rw [el, nI_int]
    have ed2 : (fun p => PyData.list ((nbS ts p).map .int)) i = .list (nI l) := ed
    rw [ed2]
    refine eg_name (s_drop (e_append (e_varm rfl ⟨_, rfl, e_cb (ea_cons (e_lcL (js := [4]) (by simp) (e_call (ea_cons (e_varm rfl (ea_cons (e_cb (ea_cons (e_var rfl (ea_nil (rc_len ⟨_, _, rfl, .inl (.d _), ?_⟩)))))))))))⟩)))
    rw [List.length_map]
    refine ea_nil ⟨_, _, rfl, k, xs1, l.length, rfl, rfl, hx1, dm_at1 kl _ _, ll, fun ps xs2 pm hx2 => ?_⟩
    rw [show dm (dm ms k xs1 ++ [MD.l (tt.map rwN)]) k xs2 = dm ms k xs2 ++ [MD.l (tt.map rwN)] from dm_set1 kl _ _ _]
    have pl := pm.length_eq
    rw [List.length_range] at pl
    refine ⟨_, .d _, by rw [List.length_map]; omega, fun j acc ms' => acc = nI ((ps.take j).map fun j => l.getD j 0) ∧ ms' = dm ms k xs2 ++ [.l (tt.map rwN)], ⟨rfl, rfl⟩, ?_, ?_⟩
    · rintro j e acc ms' he ⟨rfl, rfl⟩
      rw [List.getElem?_map] at he
      cases q : ps[j]? with
      | none => rw [q] at he; cases he
      | some v =>
        rw [q] at he
        cases he
        have hv := perm_lt pm (List.mem_of_getElem? q)
        refine eg_name (et_yes ⟨fun _ => e_op (e_var rfl (e_var rfl (rr_ix ⟨_, _, _, .inl (.d _), rfl, atI_nat (natN_at hv), ?_⟩))), nofun⟩)
        refine ⟨_, rfl, ?_, rfl⟩
        rw [take_snoc q, List.map_append, nI_app]
        rfl
    · rintro acc ms' ⟨rfl, rfl⟩
      rw [List.length_map, List.take_length]
      refine ea_nil (rc_tuple ⟨_, _, rfl, .inl (.d _), _, _, rfl, dm_g1 _ _ _ _, by rw [List.length_map]; omega, ?_⟩)
      rw [dm_s1]
      refine ⟨tt ++ [ps.map fun j => l.getD j 0], xs2, _, _, by simp [tl], fun p hp => ?_, hx2, rfl, by rw [List.map_append]; rfl⟩
      by_cases z : p < i
      · have e : (tt ++ [ps.map fun j => l.getD j 0]).getD p [] = tt.getD p [] := by simp [List.getD, List.getElem?_append_left (show p < tt.length by omega)]
        rw [e]
        exact tp p z
      · have e : p = i := by omega
        subst e
        have e : (tt ++ [ps.map fun j => l.getD j 0]).getD p [] = ps.map fun j => l.getD j 0 := by subst tl; simp [List.getD]
        rw [e]
        exact (perm_pick pm).trans lp
  rintro ds' ms' ⟨tt, xs1, o3, o4, tl, tp, hx1, rfl, rfl⟩
  rw [List.length_map, List.length_range] at tl tp
  refine s_ret (e_cb (ea_cons (e_varm rfl (ea_nil (rc_tuple ⟨_, _, rfl, .inl (.m (dm_g1 _ _ _ _)), _, _, rfl, dm_len _ _ _, ?_⟩)))))
  exact r tt xs1 ⟨tl, tp⟩ hx1

/-- (a, b) stands behind all of them -/
def Behind (ts : List Tie) (a b : Nat) : Prop := ∀ t ∈ ts, t.1 < a ∨ (t.1 = a ∧ t.2.1 < b)
theorem apart_snoc {ts : List Tie} {a b : Nat} {f : Int × Int} (h : Apart ts) (hb : Behind ts a b) : Apart (ts ++ [(a, b, f)]) := by
  unfold Apart
  refine List.pairwise_append.mpr ⟨h, List.pairwise_singleton _ _, fun t ht u hu => ?_⟩
  rw [List.mem_singleton.mp hu]
  have := hb t ht
  show ¬ (t.1 = a ∧ t.2.1 = b)
  omega
def Φ__law_any_web : Ph := ph2 fun a b ms R => ∃ (k : Nat) (xs : List Nat) (mp : Nat), a = .m k ∧ b = .d (.int mp) ∧ Dk xs ∧ ms[k]? = some (.l (dkL xs)) ∧ 1 ≤ mp ∧ mp ≤ 6 ∧
  ∀ (m : Nat) (ts : List Tie) (xs' : List Nat), m ≤ mp → 1 ≤ m → ts.length ≤ 60 → WebOk m ts → Apart ts → Dk xs' → R (.d (encW m ts)) (dm ms k xs')
theorem len__law_any_web : ∀ as ms R, Φ__law_any_web as ms R → as.length = 2 := ph2_len
theorem rd__law_any_web {K : PySem.W.Frag} : ∀ as ms R, Φ__law_any_web as ms R → S K (t__law_any_web K Φ__law_next Φ__law_weight) (as ++ List.replicate (6 - as.length) .u) ms (fin R) := by
  rintro as ms R ⟨a, b, rfl, k, xs, mp, rfl, rfl, hx, hk, p1, p6, r⟩
  have kl : k < ms.length := (List.getElem?_eq_some_iff.mp hk).1
  unfold t__law_any_web
  refine s_seq (s_asg (e_op (e_int (e_op (e_next rfl hk hx fun z1 xs1 hz1 hx1 => e_var rfl (rr_I ⟨_, _, rfl, rfl, by omega, rr_I0 ⟨_, _, rfl, rfl, ?_⟩⟩))))))
  obtain ⟨m0, hm0, em0⟩ := fm_ex (z1 : Int) (m := (mp : Int)) (by omega)
  rw [em0, show (1 : Int) + (m0 : Int) = ((m0 + 1 : Nat) : Int) by omega]
  refine s_new (e_lst (ea_nil ⟨[], rfl, Nat.zero_le _, _, rfl, ?_⟩))
  rw [dm_len]
  refine s_seq (s_forR (js := [4]) (ea_cons (e_var rfl (ea_nil ⟨_, rfl, by omega, fun i ds' ms' => ∃ (ts : List Tie) (xs' : List Nat) (o4 o5 : SD), (∀ t ∈ ts, TieOk (m0 + 1) t) ∧ ts.length ≤ i * 6 ∧ Apart ts ∧ Behind ts i 0 ∧ Dk xs' ∧
    ds' = [.m k, .d (.int mp), .d (.int ((m0 + 1 : Nat) : Int)), .m ms.length, o4, o5] ∧ ms' = dm ms k xs' ++ [.l (ts.map encT)], ⟨[], xs1, _, _, nofun, Nat.zero_le _, List.Pairwise.nil, nofun, hx1, rfl, rfl⟩, ?_, ?_⟩))))
  · rintro i ds' ms' hi ⟨ts, xs4, o4, o5, ht, htl, ha, hb, hx4, rfl, rfl⟩
    have hi' : i < m0 + 1 := by simpa using hi
    refine eg_name ?_
    refine s_forR2 (js := [5]) (ea_cons (e_op (e_var rfl (e_int (rr_I0 ⟨_, _, rfl, rfl, ea_cons (e_var rfl (ea_nil ⟨_, _, rfl, ?_⟩))⟩)))))
    refine ⟨⟨by omega, by omega, by omega, by omega⟩, fun j ds' ms' => ∃ (ts : List Tie) (xs' : List Nat) (o5 : SD), (∀ t ∈ ts, TieOk (m0 + 1) t) ∧ ts.length ≤ i * 6 + j ∧ Apart ts ∧ Behind ts i (i + 1 + j) ∧ Dk xs' ∧
      ds' = [.m k, .d (.int mp), .d (.int ((m0 + 1 : Nat) : Int)), .m ms.length, .d (.int (i : Int)), o5] ∧ ms' = dm ms k xs' ++ [.l (ts.map encT)], ⟨ts, xs4, _, ht, htl, ha, fun t h => ?_, hx4, rfl, rfl⟩, ?_, ?_⟩
    · rcases hb t h with z | z
      · exact .inl z
      · omega
    · rintro j ds' ms' hj ⟨ts, xs5, o5, ht, htl, ha, hb, hx5, rfl, rfl⟩
      have hj' : i + 1 + j < m0 + 1 := by omega
      have ej : ((i : Int) + 1) + (j : Int) = ((i + 1 + j : Nat) : Int) := by omega
      rw [ej]
      refine eg_name ?_
      have nxt : Behind ts i (i + 1 + (j + 1)) := fun t h => by
        have := hb t h
        omega
      refine s_if (et_test (e_op (e_op (e_next rfl (dm_at1 kl _ _) hx5 fun z6 xs6 hz6 hx6 => e_int (rr_I ⟨_, _, rfl, rfl, by decide, e_int (rr_B0 ⟨_, _, rfl, rfl, _, rfl, fun _ => ?_, fun _ => ?_⟩)⟩)))))
      · rw [dm_set1 kl]
        refine s_drop (e_append (e_varm rfl ⟨_, rfl, e_tup (ea_cons (e_var rfl (ea_cons (e_var rfl (ea_cons (e_call (ea_cons (e_varm rfl (ea_nil ⟨_, rfl, k, xs6, rfl, hx6, dm_at1 kl _ _, fun f xs7 hf hx7 => ?_⟩)))))))))⟩))
        rw [show dm (dm ms k xs6 ++ [MD.l (ts.map encT)]) k xs7 = dm ms k xs7 ++ [MD.l (ts.map encT)] from dm_set1 kl _ _ _]
        refine ea_nil ⟨[_, _, _], rfl, Nat.le_of_ble_eq_true rfl, _, _, rfl, dm_g1 _ _ _ _, by rw [List.length_map]; omega, ?_⟩
        rw [dm_s1]
        refine ⟨ts ++ [(i, i + 1 + j, f)], xs7, _, fun t h => ?_, by simp; omega, apart_snoc ha hb, fun t h => ?_, hx7, rfl, ?_⟩
        · rcases List.mem_append.mp h with h | h
          · exact ht t h
          · rw [List.mem_singleton.mp h]
            exact ⟨by show i < i + 1 + j; omega, hj', hf⟩
        · rcases List.mem_append.mp h with h | h
          · exact nxt t h
          · rw [List.mem_singleton.mp h]
            exact .inr ⟨rfl, by show i + 1 + j < _; omega⟩
        · rw [List.map_append]
          rfl
      · rw [dm_set1 kl]
        exact s_next ⟨ts, xs6, _, ht, by omega, ha, nxt, hx6, rfl, rfl⟩
    · rintro ds' ms' ⟨ts, xs5, o5, ht, htl, ha, hb, hx5, rfl, rfl⟩
      refine ⟨ts, xs5, _, _, ht, ?_, ha, fun t h => ?_, hx5, rfl, rfl⟩
      · rw [Nat.add_mul]
        omega
      · have := hb t h
        omega
  rintro ds' ms' ⟨ts, xs5, o4, o5, ht, htl, ha, hb, hx5, rfl, rfl⟩
  have htl : ts.length ≤ (m0 + 1) * 6 := by simpa using htl
  refine s_ret (e_tup (ea_cons (e_var rfl (ea_cons (e_cb (ea_cons (e_varm rfl (ea_nil (rc_tuple ⟨_, _, rfl, .inl (.m (dm_g1 _ _ _ _)), ?_⟩)))))))))
  refine ea_nil ⟨[_, _], rfl, Nat.le_of_ble_eq_true rfl, _, _, rfl, dm_len _ _ _, ?_⟩
  have hl : ts.length ≤ 60 := by
    have : (m0 + 1) * 6 ≤ 36 := by omega
    omega
  exact r (m0 + 1) ts xs5 (by omega) (by omega) hl ⟨ht, by omega, by omega, by omega⟩ ha hx5

abbrev rwL (l : List Nat) : PyData := .list (nI l)
/-- a row, as a tuple or as a list -/
def RwOf (x : PyData) (row : List Nat) : Prop := x = rwN row ∨ x = rwL row
theorem RwOf.sv {ms : List MD} {x : PyData} {row : List Nat} (h : RwOf x row) : Sv ms (.d x) (.list (nI row)) ∨ Sv ms (.d x) (.tuple (nI row)) := by
  rcases h with rfl | rfl
  · exact .inr (.d _)
  · exact .inl (.d _)
/-- rows of any such kind, in a slot -/
def RowsOf (ms : List MD) (s : SD) (rows : List (List Nat)) : Prop := Sv ms s (.tuple (rows.map rwN)) ∨ Sv ms s (.list (rows.map rwL))
theorem RowsOf.at {ms : List MD} {s : SD} {rows : List (List Nat)} (h : RowsOf ms s rows) {p : Nat} (hp : p < rows.length) : ∃ es x, (Sv ms s (.list es) ∨ Sv ms s (.tuple es)) ∧ es[p]? = some x ∧ RwOf x (rows.getD p []) := by
  have e : rows.getD p [] = rows[p] := by simp [List.getD, hp]
  rcases h with h | h
  · exact ⟨_, rwN (rows.getD p []), .inr h, by rw [List.getElem?_map, List.getElem?_eq_getElem hp, e]; rfl, .inl rfl⟩
  · exact ⟨_, rwL (rows.getD p []), .inl h, by rw [List.getElem?_map, List.getElem?_eq_getElem hp, e]; rfl, .inr rfl⟩
theorem e_varS {K : PySem.W.Frag} {ds : List SD} {ms : List MD} {R : RS} {i : Nat} {s : SD} (h : ds[i]? = some s) (n : s ≠ .u) (r : R s ms) : E K (tVar i) ds ms R := fun L M σ H hS hA Q q => by
  obtain ⟨v, e, o⟩ := hS.get h n
  exact ⟨v, e, q _ v H ms (Wk.refl L H) (.of hA o) r⟩
theorem sv_dd {ms : List MD} {s : SD} {x : PyData} (h : Sv ms s x) : dd s = s ∧ s ≠ .u := by
  cases h <;> exact ⟨rfl, nofun⟩
def preI (n k : Nat) : Nat := if k = 0 then n - 1 else k - 1
theorem at_pre {row : List Nat} {k : Nat} (h : k < row.length) : atI (nI row) ((k : Int) - 1) = some (.int ((row.getD (preI row.length k) 0 : Nat) : Int)) := by
  unfold preI
  by_cases z : k = 0
  · subst z
    rw [if_pos rfl]
    have e : atI (nI row) (((0 : Nat) : Int) - 1) = (nI row)[row.length - 1]? := by
      unfold atI ixN
      rw [List.length_map]
      have : ¬ (0 : Int) ≤ ((0 : Nat) : Int) - 1 := by omega
      simp
      have h2 : (1 : Int) ≤ row.length := by omega
      rw [if_pos (by omega)]
      simp
      have h3 : (-1 + (row.length : Int)).toNat = row.length - 1 := by omega
      rw [h3]
    rw [e, natN_at (by omega)]
  · rw [if_neg z]
    have e : (k : Int) - 1 = ((k - 1 : Nat) : Int) := by omega
    rw [e]
    exact atI_nat (natN_at (by omega))
def Φ__law_behind : Ph := ph2 fun a b ms R => ∃ (rows : List (List Nat)) (d : Drt), RowsOf ms a rows ∧ b = .d (drI d) ∧ d.2 < rows.length ∧ (rows.getD d.2 []).Nodup ∧ d.1 ∈ rows.getD d.2 [] ∧ (rows.getD d.2 []).length ≤ 1000 ∧ R (.d (drI (behF rows d))) ms
theorem len__law_behind : ∀ as ms R, Φ__law_behind as ms R → as.length = 2 := ph2_len
theorem rd__law_behind {K : PySem.W.Frag} : ∀ as ms R, Φ__law_behind as ms R → S K (t__law_behind K) (as ++ List.replicate (4 - as.length) .u) ms (fin R) := by
  rintro as ms R ⟨a, b, rfl, rows, d, hr, rfl, hp, nd, hd, hl, r⟩
  obtain ⟨es, x, hs, ex, rx⟩ := hr.at hp
  have hdd : dd a = a ∧ a ≠ .u := by rcases hr with h | h <;> exact sv_dd h
  have ef : behF rows d = (d.2, nxt (rows.getD d.2 []) d.1) := rfl
  rw [ef] at r
  generalize rows.getD d.2 [] = row at nd hd hl rx r
  unfold t__law_behind
  refine s_seq (s_asg (e_op (e_varS rfl hdd.2 (e_op (e_var rfl (e_int (rr_ix ⟨_, _, _, .inr (.d _), rfl, atI_nat (j := 1) rfl, ?_⟩)))))))
  rw [hdd.1]
  refine rr_ix ⟨_, _, _, hs, rfl, atI_nat ex, ?_⟩
  refine s_seq (s_forR (js := [3]) (ea_cons (e_cb (ea_cons (e_var rfl (ea_nil (rc_len ⟨_, _, rfl, rx.sv, ?_⟩)))))))
  rw [List.length_map]
  refine ea_nil ⟨_, rfl, by omega, fun k ds' ms' => ∃ o3 : SD, (∀ j, j < k → row.getD (preI row.length j) 0 ≠ d.1) ∧ ds' = [a, .d (drI d), .d x, o3] ∧ ms' = ms, ⟨_, nofun, rfl, rfl⟩, ?_, ?_⟩
  · rintro k ds' ms' hk ⟨o3, no, rfl, rfl⟩
    have hk : k < row.length := by simpa using hk
    refine eg_name (s_if (et_test (e_op (e_op (e_var rfl (e_op (e_var rfl (e_int (rr_I0 ⟨_, _, rfl, rfl, rr_ix ⟨_, _, _, rx.sv, rfl, at_pre hk, ?_⟩⟩)))))))))
    refine e_op (e_var rfl (e_int (rr_ix ⟨_, _, _, .inr (.d _), rfl, atI_nat (j := 0) rfl, rr_eq ⟨_, _, .d _, .d _, shaped_int _, shaped_int _, ?_⟩⟩)))
    rw [eqv_int]
    refine ⟨_, rfl, fun z => ?_, fun z => ?_⟩
    · have z : ((row.getD (preI row.length k) 0 : Nat) : Int) = (d.1 : Nat) := of_decide_eq_true z
      have z : row.getD (preI row.length k) 0 = d.1 := by omega
      have pl : preI row.length k < row.length := by unfold preI; split <;> omega
      have ei : row.idxOf d.1 = preI row.length k := by rw [← z]; exact idx_get nd pl
      have en : nxt row d.1 = row.getD k 0 := by
        unfold nxt
        rw [ei]
        congr 1
        unfold preI
        split
        · rename_i h0
          subst h0
          rw [show row.length - 1 + 1 = row.length by omega, Nat.mod_self]
        · rw [show k - 1 + 1 = k by omega, Nat.mod_eq_of_lt hk]
      rw [en] at r
      refine s_ret (e_tup (ea_cons (e_op (e_var rfl (e_int (rr_ix ⟨_, _, _, .inr (.d _), rfl, atI_nat (j := 1) rfl, ?_⟩))))))
      refine ea_cons (e_op (e_var rfl (e_var rfl (rr_ix ⟨_, _, _, rx.sv, rfl, atI_nat (natN_at hk), ?_⟩))))
      exact ea_nil ⟨[_, _], rfl, Nat.le_of_ble_eq_true rfl, r⟩
    · have z : ¬ ((row.getD (preI row.length k) 0 : Nat) : Int) = (d.1 : Nat) := of_decide_eq_false z
      refine s_next ⟨_, fun j hj => ?_, rfl, rfl⟩
      by_cases h : j < k
      · exact no j h
      · have : j = k := by omega
        subst this
        omega
  · rintro ds' ms' ⟨o3, no, rfl, rfl⟩
    exfalso
    have no : ∀ j, j < row.length → row.getD (preI row.length j) 0 ≠ d.1 := fun j hj => no j (by simpa using hj)
    obtain ⟨i, hi, ei⟩ := List.getElem_of_mem hd
    rw [← getD_ix hi] at ei
    by_cases h : i + 1 < row.length
    · exact no (i + 1) h (by unfold preI; rw [if_neg (by omega)]; exact ei)
    · exact no 0 (by omega) (by unfold preI; rw [if_pos rfl, show row.length - 1 = i by omega]; exact ei)

/-! ### the faces, found by taking darts out of a list -/
theorem dr_lt (c d : Drt) : PySem.W.dataLt (drI c) (drI d) = if c.1 = d.1 then decide (c.2 < d.2) else decide (c.1 < d.1) := by
  unfold drI
  rw [PySem.W.dataLt_tuple, PySem.W.dataLt_cons (by simp [PySem.W.alike]), PySem.W.dataLt_cons (by simp [PySem.W.alike]), PySem.W.dataLt_int, PySem.W.dataLt_int, eqv_int, eqv_int]
  have e : PyProof.Rows.lexLt PyProof.Rows.itemOrd (PySem.W.keyToksAll []) (PySem.W.keyToksAll []) = false := PyProof.Rows.lex_irrefl _
  rw [e]
  by_cases h1 : c.1 = d.1 <;> by_cases h2 : c.2 = d.2 <;> simp [h1, h2] <;> omega
theorem dr_le (c d : Drt) : PySem.W.dataLe false (id : PyData → PyData) (drI c) (drI d) = !PySem.W.dataLt (drI d) (drI c) := rfl
theorem dr_strict {l : List Drt} (nd : l.Nodup) (h : l.Pairwise fun c d => PySem.W.dataLe false (id : PyData → PyData) (drI c) (drI d) = true) : (l.map drI).Pairwise fun a b => PySem.W.dataLe false id a b = true ∧ PySem.W.dataLe false id b a = false := by
  rw [List.pairwise_map]
  refine (List.pairwise_and_iff.mpr ⟨List.nodup_iff_pairwise_ne.mp nd, h⟩).imp fun {c d} z => ⟨z.2, ?_⟩
  obtain ⟨ne, le⟩ := z
  rw [dr_le, dr_lt] at le
  rw [dr_le, dr_lt]
  have ne : ¬ (c.1 = d.1 ∧ c.2 = d.2) := fun w => ne (Prod.ext w.1 w.2)
  by_cases h1 : c.1 = d.1
  · rw [if_pos h1.symm] at le
    rw [if_pos h1]
    simp at le ⊢
    omega
  · rw [if_neg (Ne.symm h1)] at le
    rw [if_neg h1]
    simp at le ⊢
    omega
theorem srt_rise (l : List Drt) : (srtDr l).Pairwise fun c d => PySem.W.dataLe false (id : PyData → PyData) (drI c) (drI d) = true := by
  have h := List.pairwise_mergeSort (le := PySem.W.dataLe false (id : PyData → PyData)) (fun a b c => totalD.trans a b c) (fun a b => by simpa using totalD.total a b) (l.map drI)
  have e : (l.map drI).mergeSort (PySem.W.dataLe false (id : PyData → PyData)) = (srtDr l).map drI := sort_dr l
  rw [e, List.pairwise_map] at h
  exact h
theorem srt_perm {a b : List Drt} (nb : b.Nodup) (h : a.Perm b) : sortD (a.map drI) = (srtDr b).map drI := by
  have pb : (srtDr b).Perm b := List.mergeSort_perm ..
  exact sort_strict (dr_strict (pb.nodup_iff.mpr nb) (srt_rise b)) ((h.trans pb.symm).map drI)
section
variable {m : List (List Key × PyData)} {D Ds : List Drt} {β : Drt → Drt}
theorem fold_skip : ∀ (l : List Drt) (S : List (List Drt) × List Drt), (∀ d ∈ l, d ∈ S.2) → l.foldl (stepF β) S = S
  | [], _, _ => rfl
  | d :: r, S, h => by
    rw [List.foldl_cons]
    have e : stepF β S d = S := if_pos (h d (by simp))
    rw [e]
    exact fold_skip r S fun x hx => h x (by simp [hx])
structure Wlk (D Ds : List Drt) (β : Drt → Drt) (S : List (List Drt) × List Drt) (rest left : List Drt) : Prop where
  fold : facesS β Ds = rest.foldl (stepF β) S
  ok : FcOk D β S
  left : left = rest.filter fun d => decide (d ∉ S.2)
  nd : rest.Nodup
  sub : ∀ d ∈ rest, d ∈ D
  all : ∀ d ∈ D, d ∈ S.2 ∨ d ∈ rest
theorem Wlk.start (nd : Ds.Nodup) (h : ∀ d, d ∈ Ds ↔ d ∈ D) : Wlk D Ds β ([], []) Ds Ds := by
  refine ⟨rfl, ⟨rfl, List.nodup_nil, nofun, nofun, nofun⟩, ?_, nd, fun d hd => (h d).mp hd, fun d hd => .inr ((h d).mpr hd)⟩
  rw [List.filter_eq_self.mpr fun d _ => by simp]
theorem Wlk.lnd {S : List (List Drt) × List Drt} {rest left : List Drt} (w : Wlk D Ds β S rest left) : left.Nodup := by
  rw [w.left]
  exact w.nd.filter _
theorem Wlk.mem {S : List (List Drt) × List Drt} {rest left : List Drt} (w : Wlk D Ds β S rest left) {d : Drt} : d ∈ left ↔ d ∈ D ∧ d ∉ S.2 := by
  rw [w.left, List.mem_filter]
  constructor
  · rintro ⟨h1, h2⟩
    exact ⟨w.sub d h1, of_decide_eq_true h2⟩
  · rintro ⟨h1, h2⟩
    exact ⟨(w.all d h1).resolve_left h2, decide_eq_true h2⟩
theorem Wlk.step (b : BehOk m D β) {S : List (List Drt) × List Drt} {rest left : List Drt} {d : Drt} (w : Wlk D Ds β S rest (d :: left)) : ∃ rest', Wlk D Ds β (S.1 ++ [orbD β d], S.2 ++ orbD β d) rest' ((d :: left).filter fun x => decide (x ∉ orbD β d)) := by
  have hd : d ∈ D ∧ d ∉ S.2 := w.mem.mp (by simp)
  obtain ⟨pre, post, e1, hp, _, e2⟩ := List.filter_eq_cons_iff.mp w.left.symm
  have st : stepF β S d = (S.1 ++ [orbD β d], S.2 ++ orbD β d) := if_neg hd.2
  have ok := (w.ok.step b hd.1).1
  rw [st] at ok
  have own : d ∈ orbD β d := orb_own b hd.1
  have pre_in : ∀ x ∈ pre, x ∈ S.2 := fun x hx => by
    have := hp x hx
    simpa using this
  refine ⟨post, ?_, ok, ?_, ?_, fun x hx => w.sub x (by rw [e1]; simp [hx]), fun x hx => ?_⟩
  · rw [w.fold, e1, List.foldl_append, fold_skip pre S pre_in, List.foldl_cons, st]
  · rw [List.filter_cons, if_neg (by simp [own]), ← e2, List.filter_filter]
    refine List.filter_congr fun x _ => ?_
    simp only [List.mem_append, not_or]
    by_cases h1 : x ∈ S.2 <;> by_cases h2 : x ∈ orbD β d <;> simp [h1, h2]
  · have := w.nd
    rw [e1] at this
    exact (List.nodup_cons.mp (List.nodup_append.mp this).2.1).2
  · rcases w.all x hx with h | h
    · exact .inl (List.mem_append_left _ h)
    · rw [e1] at h
      rcases List.mem_append.mp h with h | h
      · exact .inl (List.mem_append_left _ (pre_in x h))
      · rcases List.mem_cons.mp h with rfl | h
        · exact .inl (List.mem_append_right _ own)
        · exact .inr h
theorem Wlk.stop {S : List (List Drt) × List Drt} {rest : List Drt} (w : Wlk D Ds β S rest []) : facesS β Ds = S := by
  rw [w.fold]
  refine fold_skip rest S fun d hd => ?_
  apply Classical.byContradiction
  intro h
  have : d ∈ ([] : List Drt) := w.mem.mpr ⟨w.sub d hd, h⟩
  cases this
/-- within a face: the i-th dart is there as long as the round is not whole -/
theorem orb_take_succ {d : Drt} {i : Nat} (h : i < perN β d) : (orbD β d).take (i + 1) = (orbD β d).take i ++ [itD β i d] := by
  refine take_snoc ?_
  unfold orbD
  rw [List.getElem?_map, List.getElem?_range h]
  rfl
theorem orb_at {d : Drt} (hd : BehOk m D β) (dm : d ∈ D) {S : List (List Drt) × List Drt} {rest left : List Drt} (w : Wlk D Ds β S rest (d :: left)) {i : Nat} (h : i ≤ perN β d) :
    (itD β i d ∈ (d :: left).filter fun x => decide (x ∉ (orbD β d).take i)) ↔ i < perN β d := by
  have p := per_of hd dm
  have nd := orb_nd hd dm
  rw [List.mem_filter]
  constructor
  · rintro ⟨_, h2⟩
    apply Classical.byContradiction
    intro hn
    have e : i = perN β d := by omega
    subst e
    have h2 : itD β (perN β d) d ∉ (orbD β d).take (perN β d) := of_decide_eq_true h2
    rw [p.2.1] at h2
    apply h2
    rw [List.take_of_length_le (by simp [orbD])]
    exact orb_own hd dm
  · intro hi
    have hin : itD β i d ∈ orbD β d := List.mem_map.mpr ⟨i, List.mem_range.mpr hi, rfl⟩
    refine ⟨w.mem.mpr ⟨hd.it dm i, fun z => ?_⟩, decide_eq_true fun z => ?_⟩
    · have hS := w.ok.it z (perN β d - i)
      rw [← itD_add, show i + (perN β d - i) = perN β d by omega, p.2.1] at hS
      exact (w.mem.mp (by simp : d ∈ d :: left)).2 hS
    · have e := orb_take_succ (β := β) (d := d) hi
      have n2 : ((orbD β d).take (i + 1)).Nodup := nd.sublist (List.take_sublist _ _)
      rw [e] at n2
      exact (List.nodup_append.mp n2).2.2 _ z _ (by simp) rfl
end
theorem rem_dr : ∀ {l : List Drt} {x : Drt}, l.Nodup → x ∈ l → ∃ j, SeqAt.dataPlace (l.map drI) (drI x) = some j ∧ l.eraseIdx j = l.filter fun y => decide (y ≠ x)
  | a :: r, x, nd, hx => by
    obtain ⟨n1, n2⟩ := List.nodup_cons.mp nd
    by_cases e : a = x
    · subst e
      refine ⟨0, ?_, ?_⟩
      · unfold SeqAt.dataPlace
        rw [List.map_cons, List.findIdx?_cons, eqv_drI, decide_eq_true rfl]
        rfl
      · rw [List.filter_cons, if_neg (by simp)]
        show r = _
        exact (List.filter_eq_self.mpr fun y hy => decide_eq_true (p := y ≠ a) fun z => n1 (by rw [← z]; exact hy)).symm
    · obtain ⟨j, h1, h2⟩ := rem_dr n2 ((List.mem_cons.mp hx).resolve_left (Ne.symm e))
      refine ⟨j + 1, ?_, ?_⟩
      · unfold SeqAt.dataPlace at h1 ⊢
        rw [List.map_cons, List.findIdx?_cons, eqv_drI, decide_eq_false e, h1]
        rfl
      · rw [List.filter_cons, if_pos (decide_eq_true e), ← h2]
        rfl
theorem erase_dr (l : List Drt) (j : Nat) : (l.map drI).eraseIdx j = (l.eraseIdx j).map drI := by
  induction l generalizing j with
  | nil => rfl
  | cons a r ih =>
    cases j with
    | zero => rfl
    | succ j => show drI a :: (r.map drI).eraseIdx j = _; rw [ih]; rfl
theorem in_dr (l : List Drt) (x : Drt) : ((l.map drI).any fun z => PyData.eqv z (drI x)) = decide (x ∈ l) := by
  rw [List.any_map]
  induction l with
  | nil => simp
  | cons a r ih =>
    rw [List.any_cons, ih]
    show (PyData.eqv (drI a) (drI x) || _) = _
    rw [eqv_drI]
    by_cases h : a = x
    · simp [h]
    · simp [h, Ne.symm h]
theorem shp_drs (l : List Drt) : ∀ e ∈ l.map drI, Shp 1 e := fun e he => by
  obtain ⟨d, _, rfl⟩ := List.mem_map.mp he
  exact drI_shp d
theorem eqv_nil (es : List PyData) : PyData.eqv (.list es) (.list []) = es.isEmpty := by
  cases es <;> rfl
theorem alike_dr (l : List Drt) : PySem.W.AllAlike (l.map drI) ∧ PySem.W.Sortable (l.map drI) := by
  refine ⟨fun a ha b hb => ?_, .inl fun a ha => ?_⟩
  · obtain ⟨c, _, rfl⟩ := List.mem_map.mp ha
    obtain ⟨d, _, rfl⟩ := List.mem_map.mp hb
    rfl
  · obtain ⟨c, _, rfl⟩ := List.mem_map.mp ha
    exact ⟨_, _, rfl⟩
theorem g3a (ms : List MD) (A B C : MD) : (ms ++ [A] ++ [B] ++ [C])[ms.length]? = some A := by simp
theorem g3b (ms : List MD) (A B C : MD) : (ms ++ [A] ++ [B] ++ [C])[ms.length + 1]? = some B := by
  have := get2a (ms ++ [A]) B C
  rwa [List.length_append] at this
theorem g3c (ms : List MD) (A B C : MD) : (ms ++ [A] ++ [B] ++ [C])[ms.length + 2]? = some C := by
  have := get2b (ms ++ [A]) B C
  rwa [List.length_append] at this
theorem s3a (ms : List MD) (A B C X : MD) : (ms ++ [A] ++ [B] ++ [C]).set ms.length X = ms ++ [X] ++ [B] ++ [C] := by
  rw [List.set_append_left _ _ (by simp), set2a]
theorem s3b (ms : List MD) (A B C X : MD) : (ms ++ [A] ++ [B] ++ [C]).set (ms.length + 1) X = ms ++ [A] ++ [X] ++ [C] := by
  have := set2a (ms ++ [A]) B C X
  rwa [List.length_append] at this
theorem s3c (ms : List MD) (A B C X : MD) : (ms ++ [A] ++ [B] ++ [C]).set (ms.length + 2) X = ms ++ [A] ++ [B] ++ [X] := by
  have := set2b (ms ++ [A]) B C X
  rwa [List.length_append] at this
/-- the darts of a web's ties -/
def drW (ts : List Tie) : List Drt := (ts.map fun t => (t.1, t.2.1)) ++ ts.map fun t => (t.2.1, t.1)
theorem drW_perm {m : Nat} {ts : List Tie} {tt : List (List Nat)} (hw : ∀ t ∈ ts, TieOk m t) (ha : Apart ts) (h : TurnOk m ts tt) : (drW ts).Perm (drts tt) ∧ (drts tt).Nodup := by
  have n2 : (drts tt).Nodup := h.keys hw ha tt.length (by rw [h.len]; exact Nat.le_refl _)
  have n1 : (drW ts).Nodup := by
    unfold drW
    have p : ∀ f : Nat × Nat → Nat × Nat, (∀ x y, f x = f y → x = y) → (ts.map fun t => f (t.1, t.2.1)).Nodup := fun f inj => by
      rw [List.nodup_iff_pairwise_ne, List.pairwise_map]
      refine List.Pairwise.imp (fun {a b} z e => z ?_) ha
      have := inj _ _ e
      exact Prod.mk.inj this
    refine List.nodup_append.mpr ⟨p id fun x y e => e, p (fun x => (x.2, x.1)) fun x y e => Prod.ext (congrArg Prod.snd e) (congrArg Prod.fst e), fun a ha b hb e => ?_⟩
    obtain ⟨t, ht, rfl⟩ := List.mem_map.mp ha
    obtain ⟨u, hu, rfl⟩ := List.mem_map.mp hb
    have h1 := (hw t ht).lt
    have h2 := (hw u hu).lt
    have e1 : t.1 = u.2.1 := congrArg Prod.fst e
    have e2 : t.2.1 = u.1 := congrArg Prod.snd e
    omega
  refine ⟨(List.perm_ext_iff_of_nodup n1 n2).mpr fun d => ?_, n2⟩
  rw [h.mem hw ha, nb_mem]
  unfold drW
  rw [List.mem_append, List.mem_map, List.mem_map]
  constructor
  · rintro (⟨t, ht, rfl⟩ | ⟨t, ht, rfl⟩)
    · have := (hw t ht).lt
      exact ⟨t, ht, .inr ⟨by show ¬ t.1 = t.2.1; omega, rfl, rfl⟩⟩
    · exact ⟨t, ht, .inl ⟨rfl, rfl⟩⟩
  · rintro ⟨t, ht, ⟨h1, h2⟩ | ⟨h1, h2, h3⟩⟩
    · exact .inr ⟨t, ht, Prod.ext h2 h1⟩
    · exact .inl ⟨t, ht, Prod.ext h3 h2⟩

def Φ__law_faces : Ph := ph2 fun a b ms R => ∃ (m : Nat) (ts : List Tie) (tt : List (List Nat)), a = .d (encW m ts) ∧ b = .d (.tuple (tt.map rwN)) ∧ WebOk m ts ∧ Apart ts ∧ TurnOk m ts tt ∧ ts.length ≤ 60 ∧ R (.d (.tuple ((facesL tt).map faceD))) ms
theorem len__law_faces : ∀ as ms R, Φ__law_faces as ms R → as.length = 2 := ph2_len
theorem rd__law_faces {K : PySem.W.Frag} : ∀ as ms R, Φ__law_faces as ms R → S K (t__law_faces K Φ__law_behind) (as ++ List.replicate (7 - as.length) .u) ms (fin R) := by
  rintro as ms R ⟨a, b, rfl, m, ts, tt, rfl, rfl, hw, ap, tk, hl, r⟩
  have bo := tk.beh hw.all ap
  obtain ⟨pw, nd⟩ := drW_perm hw.all ap tk
  have rl : ∀ p, p < m → (tt.getD p []).length ≤ 60 := fun p hp => by
    rw [(tk.row p hp).length_eq]
    have := nb_len ts p
    omega
  have dlen : (drts tt).length ≤ 120 := by
    rw [← pw.length_eq]
    unfold drW
    rw [List.length_append, List.length_map, List.length_map]
    omega
  unfold t__law_faces
  refine s_new (e_cb (ea_cons (e_op (e_lcT (js := [3]) (by simp) (e_op (e_var rfl (e_int (rr_ix ⟨_, _, _, .inr (.d _), rfl, atI_nat (j := 1) rfl, ?_⟩))))))))
  refine ⟨_, rfl, by rw [List.length_map]; omega, fun i acc ms' => acc = (ts.take i).map (fun t => drI (t.1, t.2.1)) ∧ ms' = ms, ⟨rfl, rfl⟩, ?_, ?_⟩
  · rintro i e acc ms' he ⟨rfl, rfl⟩
    rw [List.getElem?_map] at he
    cases q : ts[i]? with
    | none => rw [q] at he; cases he
    | some t =>
      rw [q] at he
      cases he
      refine eg_name (et_yes ⟨fun _ => e_slT (e_var rfl (eo_none (eo_some (e_int ⟨_, rfl, _, rfl, (by show ¬ (HT.sIx 3 0 none = 0 ∧ HT.sIx 3 3 (some 2) = 3); decide), ?_⟩)))), nofun⟩)
      refine ⟨_, rfl, ?_, rfl⟩
      rw [take_snoc q, List.map_append]
      rfl
  rintro acc ms' ⟨rfl, rfl⟩
  rw [List.length_map, List.take_length]
  refine e_lcT (js := [3]) (by simp) (e_op (e_var rfl (e_int (rr_ix ⟨_, _, _, .inr (.d _), rfl, atI_nat (j := 1) rfl, ?_⟩))))
  refine ⟨_, rfl, by rw [List.length_map]; omega, fun i acc ms2 => acc = (ts.take i).map (fun t => drI (t.2.1, t.1)) ∧ ms2 = ms', ⟨rfl, rfl⟩, ?_, ?_⟩
  · rintro i e acc ms2 he ⟨rfl, rfl⟩
    rw [List.getElem?_map] at he
    cases q : ts[i]? with
    | none => rw [q] at he; cases he
    | some t =>
      rw [q] at he
      cases he
      refine eg_name (et_yes ⟨fun _ => e_tup (ea_cons (e_op (e_var rfl (e_int (rr_ix ⟨_, _, _, .inr (.d _), rfl, atI_nat (j := 1) rfl, ?_⟩))))), nofun⟩)
      refine ea_cons (e_op (e_var rfl (e_int (rr_ix ⟨_, _, _, .inr (.d _), rfl, atI_nat (j := 0) rfl, ?_⟩))))
      refine ea_nil ⟨[_, _], rfl, Nat.le_of_ble_eq_true rfl, _, rfl, ?_, rfl⟩
      rw [take_snoc q, List.map_append]
      rfl
  rintro acc ms2 ⟨rfl, rfl⟩
  rw [List.length_map, List.take_length]
  refine rr_cat ⟨_, _, rfl, rfl, by rw [List.length_map, List.length_map]; omega, ?_⟩
  have ed : (ts.map fun t => drI (t.1, t.2.1)) ++ (ts.map fun t => drI (t.2.1, t.1)) = (drW ts).map drI := by
    unfold drW
    rw [List.map_append, List.map_map, List.map_map]
    rfl
  rw [ed]
  obtain ⟨al, so⟩ := alike_dr (drW ts)
  refine ea_nil (rc_sortD ⟨_, _, rfl, .d _, fun e he => (shp_drs _ e he).mono (by decide), al, so, ?_⟩)
  rw [srt_perm nd pw]
  refine ⟨_, rfl, ?_⟩
  refine s_new (e_lst (ea_nil ⟨[], rfl, Nat.zero_le _, _, rfl, ?_⟩))
  have n1 : ∀ A : MD, (ms2 ++ [A]).length = ms2.length + 1 := fun A => by simp
  have n2 : ∀ A B : MD, (ms2 ++ [A] ++ [B]).length = ms2.length + 2 := fun A B => by simp
  rw [n1]
  have wst : Wlk (drts tt) (srtDr (drts tt)) (behF tt) ([], []) (srtDr (drts tt)) (srtDr (drts tt)) := by
    have pb : (srtDr (drts tt)).Perm (drts tt) := List.mergeSort_perm ..
    exact Wlk.start (pb.nodup_iff.mpr nd) fun d => srtDr_mem
  have small : ∀ l : List Drt, l.Nodup → (∀ d ∈ l, d ∈ drts tt) → l.length ≤ 120 := fun l n s => Nat.le_trans (nodup_sub _ _ n s) dlen
  have r : R (.d (.tuple ((facesS (behF tt) (srtDr (drts tt))).1.map faceD))) ms2 := r
  refine s_seq (s_while (fun n ds' ms' => ∃ (S : List (List Drt) × List Drt) (rest left : List Drt) (o3 o5 o6 : SD), Wlk (drts tt) (srtDr (drts tt)) (behF tt) S rest left ∧ n = left.length ∧
    ds' = [.d (encW m ts), .d (.tuple (tt.map rwN)), .m ms2.length, o3, .m (ms2.length + 1), o5, o6] ∧ ms' = ms2 ++ [.l (left.map drI)] ++ [.l (S.1.map faceD)]) _ ⟨_, _, _, _, _, _, wst, rfl, rfl, rfl⟩ ?_)
  rintro n ds' ms' ⟨S, rest, left, o3, o5, o6, wk, rfl, rfl, rfl⟩
  have lsm := small left wk.lnd fun d hd => (wk.mem.mp hd).1
  have fsm : S.1.length ≤ 120 := by
    have h1 : S.2.length ≤ 120 := small S.2 wk.ok.nd wk.ok.sub
    have h2 : S.1.length ≤ S.2.length := by
      rw [wk.ok.flat]
      have : ∀ F : List (List Drt), (∀ f ∈ F, f ≠ []) → F.length ≤ F.flatten.length := fun F => by
        induction F with
        | nil => intro _; exact Nat.le_refl _
        | cons f r ih =>
          intro h
          have h1 := ih fun x hx => h x (by simp [hx])
          have h2 : 0 < f.length := List.length_pos_iff.mpr (h f (by simp))
          rw [List.flatten_cons, List.length_append, List.length_cons]
          omega
      refine this S.1 fun f hf z => ?_
      obtain ⟨d, hd, e⟩ := wk.ok.orb f hf
      have := orb_own bo hd
      rw [← e, z] at this
      cases this
    omega
  refine et_test (e_op (e_varm rfl (e_lst (ea_nil ⟨[], rfl, Nat.zero_le _, rr_ne ⟨_, _, .m (get2a _ _ _), .d _, (Shp.lst (shp_drs left)).ok (by decide), rfl, ?_⟩⟩))))
  rw [eqv_nil]
  refine ⟨_, rfl, fun z => ?_, fun z => ?_⟩
  rotate_left
  · have e0 : left = [] := by
      cases left with
      | nil => rfl
      | cons a l => simp at z
    subst e0
    refine s_ret (e_cb (ea_cons (e_varm rfl (ea_nil (rc_tuple ⟨_, _, rfl, .inl (.m (get2b _ _ _)), ?_⟩)))))
    refine ⟨ms2 ++ [.l (([] : List Drt).map drI)], _, rfl, n1 _, ms2, _, rfl, rfl, ?_⟩
    rw [wk.stop] at r
    exact r
  obtain ⟨d, left, rfl⟩ : ∃ d l, left = d :: l := by
    cases left with
    | nil => simp at z
    | cons a l => exact ⟨a, l, rfl⟩
  have dm : d ∈ drts tt := (wk.mem.mp (by simp)).1
  have per := per_of bo dm
  have ond := orb_nd bo dm
  have olen : (orbD (behF tt) d).length = perN (behF tt) d := by simp [orbD]
  have osm := small _ ond (orb_in bo dm)
  refine s_seq (s_asg (e_op (e_varm rfl (e_int (rr_ix ⟨_, _, _, .inl (.m (get2a _ _ _)), rfl, atI_nat (j := 0) rfl, ?_⟩)))))
  refine s_new (e_lst (ea_nil ⟨[], rfl, Nat.zero_le _, _, rfl, ?_⟩))
  rw [n2]
  refine s_seq (s_while (fun n ds' ms' => ∃ i, n + i = perN (behF tt) d ∧
    ds' = [.d (encW m ts), .d (.tuple (tt.map rwN)), .m ms2.length, o3, .m (ms2.length + 1), .d (drI (itD (behF tt) i d)), .m (ms2.length + 2)] ∧
    ms' = ms2 ++ [.l (((d :: left).filter fun x => decide (x ∉ (orbD (behF tt) d).take i)).map drI)] ++ [.l (S.1.map faceD)] ++ [.l (((orbD (behF tt) d).take i).map drI)]) (perN (behF tt) d) ⟨0, rfl, rfl, ?_⟩ ?_)
  · rw [List.take_zero, List.filter_eq_self.mpr fun x _ => by simp]
    rfl
  rintro n ds' ms' ⟨i, hn, rfl, rfl⟩
  have key := orb_at bo dm wk (i := i) (by omega)
  have lnd : ((d :: left).filter fun x => decide (x ∉ (orbD (behF tt) d).take i)).Nodup := wk.lnd.filter _
  generalize hleft : ((d :: left).filter fun x => decide (x ∉ (orbD (behF tt) d).take i)) = lefti at key lnd ⊢
  refine et_test (e_op (e_var rfl (e_varm rfl (rr_inD ⟨_, _, .d _, .m (g3a _ _ _ _), (drI_shp _).ok (by decide), (Shp.lst (shp_drs _)).ok (by decide), ?_⟩))))
  rw [in_dr]
  refine ⟨_, rfl, fun z => ?_, fun z => ?_⟩
  · have z := of_decide_eq_true z
    have hi := key.mp z
    obtain ⟨j, pl, er⟩ := rem_dr lnd z
    refine s_seq (s_drop (e_remD (e_varm rfl ⟨_, rfl, e_var rfl ⟨_, _, j, rfl, g3a _ _ _ _, (Shp.all (shp_drs _)).1, (drI_shp _).ok (by decide), pl, ?_⟩⟩)))
    rw [s3a, erase_dr, er]
    refine s_seq (s_drop (e_append (e_varm rfl ⟨_, rfl, e_var rfl ⟨_, _, rfl, g3c _ _ _ _, by rw [List.length_map, List.length_take]; omega, ?_⟩⟩)))
    rw [s3c]
    have dD : itD (behF tt) i d ∈ drts tt := bo.it dm i
    have dn := (tk.mem hw.all ap).mp dD
    have dp := (nb_lt hw.all dn).2
    refine s_asg (e_call (ea_cons (e_var rfl (ea_cons (e_var rfl (ea_nil ⟨_, _, rfl, tt, itD (behF tt) i d, .inl (.d _), rfl, by rw [tk.len]; exact dp, tk.nd hw.all ap dp, (tk.row _ dp).mem_iff.mpr dn, ?_, ?_⟩))))))
    · have := rl _ dp; omega
    refine ⟨n - 1, by omega, i + 1, by omega, rfl, ?_⟩
    rw [orb_take_succ hi, List.map_append, ← hleft, List.filter_filter]
    have ef : ((d :: left).filter fun a => decide (a ≠ itD (behF tt) i d) && decide (a ∉ (orbD (behF tt) d).take i)) = (d :: left).filter fun x => decide (x ∉ (orbD (behF tt) d).take i ++ [itD (behF tt) i d]) := by
      refine List.filter_congr fun x _ => ?_
      simp only [List.mem_append, List.mem_singleton, not_or]
      by_cases h1 : x = itD (behF tt) i d <;> by_cases h2 : x ∈ (orbD (behF tt) d).take i <;> simp [h1, h2]
    rw [ef]
    rfl
  · have z := of_decide_eq_false z
    have hi : i = perN (behF tt) d := by
      apply Classical.byContradiction
      intro h
      exact z (key.mpr (by omega))
    subst hi
    rw [List.take_of_length_le (by rw [olen]; exact Nat.le_refl _)] at hleft ⊢
    refine s_drop (e_append (e_varm rfl ⟨_, rfl, e_cb (ea_cons (e_varm rfl (ea_nil (rc_tuple ⟨_, _, rfl, .inl (.m (g3c _ _ _ _)), ?_⟩))))⟩))
    refine ⟨_, _, rfl, g3b _ _ _ _, by rw [List.length_map]; omega, ?_⟩
    rw [s3b]
    refine ⟨ms2 ++ [.l (lefti.map drI)] ++ [.l (S.1.map faceD ++ [faceD (orbD (behF tt) d)])], _, rfl, n2 _ _, ?_⟩
    obtain ⟨rest', wk'⟩ := wk.step bo
    rw [hleft] at wk'
    have f1 : frzS (ms2.length + 2) ((orbD (behF tt) d).map drI) (.m ms2.length) = .m ms2.length := if_neg (by omega)
    have f2 : frzS (ms2.length + 2) ((orbD (behF tt) d).map drI) (.m (ms2.length + 1)) = .m (ms2.length + 1) := if_neg (by omega)
    refine ⟨lefti.length, ?_, _, rest', lefti, frzS (ms2.length + 2) ((orbD (behF tt) d).map drI) o3, .d (drI (itD (behF tt) (perN (behF tt) d) d)), frzS (ms2.length + 2) ((orbD (behF tt) d).map drI) (.m (ms2.length + 2)), wk', rfl, ?_, ?_⟩
    rotate_left
    · show [_, _, frzS _ _ (.m ms2.length), _, frzS _ _ (.m (ms2.length + 1)), _, _] = _
      rw [f1, f2]
      rfl
    rotate_left
    · rw [← hleft, List.filter_cons, if_neg (by simp [orb_own bo dm])]
      have := List.length_filter_le (fun x => decide (x ∉ orbD (behF tt) d)) left
      rw [List.length_cons]
      omega
    · rw [List.map_append]
      rfl

/-! ### rows of a web that grows -/
def insA (row : List Nat) (x y : Nat) : List Nat := row.take (row.idxOf x + 1) ++ [y] ++ row.drop (row.idxOf x + 1)
theorem insA_perm (row : List Nat) (x y : Nat) : (insA row x y).Perm (y :: row) := by
  unfold insA
  rw [List.append_assoc]
  refine List.perm_append_comm.trans ?_
  show (y :: (row.drop _ ++ row.take _)).Perm (y :: row)
  refine (List.perm_append_comm.trans ?_).cons y
  rw [List.take_append_drop]
theorem insA_mem {row : List Nat} {x y z : Nat} : z ∈ insA row x y ↔ z = y ∨ z ∈ row := by rw [(insA_perm row x y).mem_iff, List.mem_cons]
theorem insA_nd {row : List Nat} {x y : Nat} (h : row.Nodup) (hy : y ∉ row) : (insA row x y).Nodup := (insA_perm row x y).nodup_iff.mpr (List.nodup_cons.mpr ⟨hy, h⟩)
structure RkOk (rows : List (List Nat)) : Prop where
  nd : ∀ p, (rows.getD p []).Nodup
  lt : ∀ p q, q ∈ rows.getD p [] → p < rows.length ∧ q < rows.length ∧ q ≠ p
  sym : ∀ p q, q ∈ rows.getD p [] → p ∈ rows.getD q []
  ne : ∀ p, p < rows.length → rows.getD p [] ≠ []
  n2 : 2 ≤ rows.length
theorem RkOk.rl {rows : List (List Nat)} (h : RkOk rows) (p : Nat) : (rows.getD p []).length ≤ rows.length := by
  have := nodup_sub (rows.getD p []) (List.range rows.length) (h.nd p) fun q hq => List.mem_range.mpr (h.lt p q hq).2.1
  rwa [List.length_range] at this
/-- a dart of them -/
def Vd (rows : List (List Nat)) (d : Drt) : Prop := d.1 ∈ rows.getD d.2 []
theorem nxt_mem {row : List Nat} (h : row ≠ []) (b : Nat) : nxt row b ∈ row := by
  unfold nxt
  have l : (row.idxOf b + 1) % row.length < row.length := Nat.mod_lt _ (List.length_pos_iff.mpr h)
  rw [getD_ix l]
  exact List.getElem_mem l
theorem Vd.beh {rows : List (List Nat)} (h : RkOk rows) {d : Drt} (v : Vd rows d) : Vd rows (behF rows d) := by
  have hp := (h.lt _ _ v).1
  exact h.sym _ _ (nxt_mem (h.ne _ hp) d.1)
theorem set_getD (rows : List (List Nat)) (b p : Nat) (x : List Nat) : (rows.set b x).getD p [] = if p = b ∧ b < rows.length then x else rows.getD p [] := by
  unfold List.getD
  by_cases h : b < rows.length
  · by_cases e : p = b
    · subst e
      rw [List.getElem?_set_self h, if_pos ⟨rfl, h⟩]
      rfl
    · rw [List.getElem?_set_ne (Ne.symm e), if_neg (fun z => e z.1)]
  · rw [List.set_eq_of_length_le (by omega), if_neg (fun z => h z.2)]
theorem app_getD (rows : List (List Nat)) (p : Nat) (x : List Nat) : (rows ++ [x]).getD p [] = if p = rows.length then x else rows.getD p [] := by
  unfold List.getD
  by_cases h : p < rows.length
  · rw [List.getElem?_append_left h, if_neg (by omega)]
  · by_cases e : p = rows.length
    · subst e
      simp
    · rw [if_neg e, List.getElem?_eq_none (by simp; omega), List.getElem?_eq_none (by omega)]
theorem RkOk.point {rows : List (List Nat)} (h : RkOk rows) {a b : Nat} (v : Vd rows (a, b)) : RkOk (rows.set b (insA (rows.getD b []) a rows.length) ++ [[b]]) := by
  have hb : b < rows.length := (h.lt b a v).1
  have ge : ∀ p, (rows.set b (insA (rows.getD b []) a rows.length) ++ [[b]]).getD p [] = if p = rows.length then [b] else if p = b then insA (rows.getD b []) a rows.length else rows.getD p [] := fun p => by
    rw [app_getD, List.length_set, set_getD]
    by_cases e : p = b <;> simp [e, hb]
  have no : rows.length ∉ rows.getD b [] := fun z => by have := (h.lt b _ z).2.1; omega
  have ln : (rows.set b (insA (rows.getD b []) a rows.length) ++ [[b]]).length = rows.length + 1 := by simp
  refine ⟨fun p => ?_, fun p q hq => ?_, fun p q hq => ?_, fun p hp => ?_, by rw [ln]; have := h.n2; omega⟩
  · rw [ge]
    split
    · simp
    · split
      · exact insA_nd (h.nd b) no
      · exact h.nd p
  · rw [ge] at hq
    rw [ln]
    split at hq
    · rw [List.mem_singleton] at hq
      omega
    · split at hq
      · rename_i h1 h2
        rcases insA_mem.mp hq with z | z
        · omega
        · have := h.lt b q z
          omega
      · have := h.lt p q hq
        omega
  · rw [ge] at hq
    rw [ge]
    split at hq
    · rename_i h1
      rw [List.mem_singleton] at hq
      rw [if_neg (by omega), if_pos hq, h1]
      exact insA_mem.mpr (.inl rfl)
    · rename_i h1
      split at hq
      · rename_i h2
        rcases insA_mem.mp hq with z | z
        · rw [if_pos z]
          simp [h2]
        · have l := h.lt b q z
          rw [if_neg (by omega), if_neg (by omega), h2]
          exact h.sym b q z
      · rename_i h2
        have l := h.lt p q hq
        rw [if_neg (by omega)]
        have s := h.sym p q hq
        split
        · rename_i h3
          rw [h3] at s
          exact insA_mem.mpr (.inr s)
        · exact s
  · rw [ge]
    rw [ln] at hp
    split
    · simp
    · split
      · exact fun z => by
          have : rows.length ∈ insA (rows.getD b []) a rows.length := insA_mem.mpr (.inl rfl)
          rw [z] at this
          cases this
      · exact h.ne p (by omega)
theorem RkOk.tie {rows : List (List Nat)} (h : RkOk rows) {a b c d : Nat} (v : Vd rows (a, b)) (w : Vd rows (c, d)) (ne : b ≠ d) (no : d ∉ rows.getD b []) :
    RkOk ((rows.set b (insA (rows.getD b []) a d)).set d (insA (rows.getD d []) c b)) := by
  have hb : b < rows.length := (h.lt b a v).1
  have hd : d < rows.length := (h.lt d c w).1
  have no2 : b ∉ rows.getD d [] := fun z => no (h.sym d b z)
  have ge : ∀ p, ((rows.set b (insA (rows.getD b []) a d)).set d (insA (rows.getD d []) c b)).getD p [] = if p = d then insA (rows.getD d []) c b else if p = b then insA (rows.getD b []) a d else rows.getD p [] := fun p => by
    rw [set_getD, List.length_set, set_getD]
    by_cases e : p = d <;> by_cases e2 : p = b <;> simp [e, e2, hb, hd]
  have ln : ((rows.set b (insA (rows.getD b []) a d)).set d (insA (rows.getD d []) c b)).length = rows.length := by simp
  refine ⟨fun p => ?_, fun p q hq => ?_, fun p q hq => ?_, fun p hp => ?_, by rw [ln]; exact h.n2⟩
  · rw [ge]
    split
    · exact insA_nd (h.nd d) no2
    · split
      · exact insA_nd (h.nd b) no
      · exact h.nd p
  · rw [ge] at hq
    rw [ln]
    split at hq
    · rcases insA_mem.mp hq with z | z
      · omega
      · have := h.lt d q z; omega
    · split at hq
      · rcases insA_mem.mp hq with z | z
        · omega
        · have := h.lt b q z; omega
      · exact h.lt p q hq
  · rw [ge] at hq
    rw [ge]
    have up : ∀ x, p ∈ rows.getD x [] → p ∈ (if x = d then insA (rows.getD d []) c b else if x = b then insA (rows.getD b []) a d else rows.getD x []) := fun x hx => by
      split
      · rename_i e
        rw [e] at hx
        exact insA_mem.mpr (.inr hx)
      · split
        · rename_i e
          rw [e] at hx
          exact insA_mem.mpr (.inr hx)
        · exact hx
    split at hq
    · rename_i h1
      rcases insA_mem.mp hq with z | z
      · rw [if_neg (by omega), if_pos z, h1]
        exact insA_mem.mpr (.inl rfl)
      · exact up q (by rw [h1]; exact h.sym d q z)
    · split at hq
      · rename_i h1 h2
        rcases insA_mem.mp hq with z | z
        · rw [if_pos z, h2]
          exact insA_mem.mpr (.inl rfl)
        · exact up q (by rw [h2]; exact h.sym b q z)
      · exact up q (h.sym p q hq)
  · rw [ge]
    rw [ln] at hp
    split
    · exact fun z => by
        have : b ∈ insA (rows.getD d []) c b := insA_mem.mpr (.inl rfl)
        rw [z] at this
        cases this
    · split
      · exact fun z => by
          have : d ∈ insA (rows.getD b []) a d := insA_mem.mpr (.inl rfl)
          rw [z] at this
          cases this
      · exact h.ne p hp
theorem RkOk.two : RkOk [[1], [0]] := by
  have ge : ∀ p, ([[1], [0]] : List (List Nat)).getD p [] = if p = 0 then [1] else if p = 1 then [0] else [] := fun p => by
    match p with
    | 0 => rfl
    | 1 => rfl
    | p + 2 => rfl
  refine ⟨fun p => ?_, fun p q hq => ?_, fun p q hq => ?_, fun p hp => ?_, Nat.le_refl 2⟩
  · rw [ge]
    split
    · simp
    · split <;> simp
  · rw [ge] at hq
    show p < 2 ∧ q < 2 ∧ q ≠ p
    split at hq
    · rw [List.mem_singleton] at hq; omega
    · split at hq
      · rw [List.mem_singleton] at hq; omega
      · cases hq
  · rw [ge] at hq
    rw [ge]
    split at hq
    · rw [List.mem_singleton] at hq
      rw [if_neg (by omega), if_pos hq]
      simp; assumption
    · split at hq
      · rw [List.mem_singleton] at hq
        rw [if_pos hq]
        simp; assumption
      · cases hq
  · rw [ge]
    have hp : p < 2 := hp
    split
    · simp
    · rw [if_pos (by omega)]
      simp
theorem rem_any : ∀ {l : List Drt} {x : Drt}, x ∈ l → ∃ j, SeqAt.dataPlace (l.map drI) (drI x) = some j ∧ j < l.length
  | a :: r, x, hx => by
    by_cases e : a = x
    · subst e
      refine ⟨0, ?_, by simp⟩
      unfold SeqAt.dataPlace
      rw [List.map_cons, List.findIdx?_cons, eqv_drI, decide_eq_true rfl]
      rfl
    · obtain ⟨j, h1, h2⟩ := rem_any ((List.mem_cons.mp hx).resolve_left (Ne.symm e))
      refine ⟨j + 1, ?_, by simp; exact h2⟩
      unfold SeqAt.dataPlace at h1 ⊢
      rw [List.map_cons, List.findIdx?_cons, eqv_drI, decide_eq_false e, h1]
      rfl

def Φ__law_after : Ph := ph3 fun a b c ms R => ∃ (row : List Nat) (x y : Nat), a = .d (rwL row) ∧ b = .d (.int (x : Nat)) ∧ c = .d (.int (y : Nat)) ∧ x ∈ row ∧ row.length ≤ 1000 ∧ R (.f (nI (insA row x y))) ms
theorem len__law_after : ∀ as ms R, Φ__law_after as ms R → as.length = 3 := ph3_len
theorem idx_first : ∀ (row : List Nat) (x i : Nat), i < row.idxOf x → row[i]? ≠ some x
  | [], _, _, h => by simp at h
  | a :: r, x, i, h => by
    rw [List.idxOf_cons] at h
    by_cases e : a = x
    · subst e
      simp at h
    · have e2 : (a == x) = false := by simpa using e
      rw [e2] at h
      match i with
      | 0 => simpa using e
      | i + 1 =>
        have h : i < r.idxOf x := by simpa using h
        simpa using idx_first r x i h
theorem rd__law_after {K : PySem.W.Frag} : ∀ as ms R, Φ__law_after as ms R → S K (t__law_after K) (as ++ List.replicate (4 - as.length) .u) ms (fin R) := by
  rintro as ms R ⟨a, b, c, rfl, row, x, y, rfl, rfl, rfl, hx, hl, r⟩
  have il := List.idxOf_lt_length_of_mem hx
  unfold t__law_after
  refine s_seq (s_asg (e_op (e_index (e_var rfl ⟨row.map fun (k : Nat) => (k : Int), by rw [← nI_int]; exact .d _, e_var rfl ⟨x, row.idxOf x, rfl, rfl, ?_, fun i z hi hz e => ?_, ?_⟩⟩))))
  · rw [List.getElem?_map, List.getElem?_eq_getElem il, List.getElem_idxOf il]
    rfl
  · rw [List.getElem?_map] at hz
    cases q : row[i]? with
    | none => rw [q] at hz; cases hz
    | some w =>
      rw [q] at hz
      have hz : (w : Int) = z := Option.some.inj hz
      refine idx_first row x i hi ?_
      rw [q]
      congr 1
      omega
  refine e_int (rr_I0 ⟨_, _, rfl, rfl, ?_⟩)
  rw [show ((row.idxOf x : Nat) : Int) + 1 = ((row.idxOf x + 1 : Nat) : Int) by omega]
  have c1 : Hc.cutD (nI row) none (some ((row.idxOf x + 1 : Nat) : Int)) = nI (row.take (row.idxOf x + 1)) := by
    unfold Hc.cutD
    rw [HT.sIx_none, HT.sIx_nat, List.length_map, Nat.sub_zero, List.drop_zero, Nat.min_eq_left (by omega)]
    unfold nI
    rw [List.map_take]
  have c2 : Hc.cutD (nI row) (some ((row.idxOf x + 1 : Nat) : Int)) none = nI (row.drop (row.idxOf x + 1)) := by
    unfold Hc.cutD
    rw [HT.sIx_none, HT.sIx_nat, List.length_map, Nat.min_eq_left (by omega)]
    unfold nI
    rw [List.map_drop]
    exact List.take_of_length_le (by simp)
  refine s_ret (e_op (e_op (e_slL (e_var rfl (eo_none (eo_some (e_var rfl ⟨_, rfl, _, .d _, ?_⟩)))))))
  rw [c1]
  refine e_lst (ea_cons (e_var rfl (ea_nil ⟨[_], rfl, Nat.le_of_ble_eq_true rfl, rr_cat ⟨_, _, rfl, rfl, by rw [List.length_map, List.length_take]; simp; omega, ?_⟩⟩)))
  refine e_slL (e_var rfl (eo_some (e_var rfl ⟨_, rfl, eo_none ⟨_, .d _, ?_⟩⟩)))
  rw [c2]
  refine rr_cat ⟨_, _, rfl, rfl, by rw [List.length_append, List.length_map, List.length_map, List.length_take, List.length_drop]; simp; omega, ?_⟩
  have e : nI (row.take (row.idxOf x + 1)) ++ [PyData.int (y : Nat)] ++ nI (row.drop (row.idxOf x + 1)) = nI (insA row x y) := by
    unfold insA
    rw [nI_app, nI_app]
    rfl
  rw [e]
  exact r

abbrev faceLs (F : List (List Drt)) : List PyData := F.map fun f => .list (f.map drI)
def Φ__law_corners : Ph := ph1 fun a ms R => ∃ (j : Nat) (rows : List (List Nat)), a = .m j ∧ ms[j]? = some (.l (rows.map rwL)) ∧ RkOk rows ∧ rows.length ≤ 20 ∧
  ∀ F : List (List Drt), F ≠ [] → F.length ≤ 1000 → (∀ f ∈ F, f ≠ [] ∧ f.length ≤ 1000 ∧ ∀ d ∈ f, Vd rows d) → R (.f (faceLs F)) ms
theorem len__law_corners : ∀ as ms R, Φ__law_corners as ms R → as.length = 1 := ph1_len
def drR (rows : List (List Nat)) (k : Nat) : List Drt := (List.range k).flatMap fun a => (rows.getD a []).map fun b => (a, b)
theorem drR_snoc (rows : List (List Nat)) (k : Nat) : drR rows (k + 1) = drR rows k ++ (rows.getD k []).map fun b => (k, b) := by
  unfold drR
  rw [List.range_succ, List.flatMap_append]
  simp
theorem drR_len {rows : List (List Nat)} (h : RkOk rows) : ∀ k, (drR rows k).length ≤ k * rows.length
  | 0 => Nat.zero_le _
  | k + 1 => by
    have := drR_len h k
    have := h.rl k
    rw [drR_snoc, List.length_append, List.length_map, Nat.add_mul]
    omega
theorem drR_vd {rows : List (List Nat)} (h : RkOk rows) {k : Nat} : ∀ d ∈ drR rows k, Vd rows d := fun d hd => by
  obtain ⟨a, _, hd⟩ := List.mem_flatMap.mp hd
  obtain ⟨b, hb, rfl⟩ := List.mem_map.mp hd
  exact h.sym a b hb
theorem mul_le20 {a b : Nat} (ha : a ≤ 20) (hb : b ≤ 20) : a * b ≤ 400 := Nat.le_trans (Nat.mul_le_mul ha hb) (by decide)
theorem rd__law_corners {K : PySem.W.Frag} : ∀ as ms R, Φ__law_corners as ms R → S K (t__law_corners K Φ__law_behind) (as ++ List.replicate (7 - as.length) .u) ms (fin R) := by
  rintro as ms R ⟨a, rfl, j, rows, rfl, hj, ok, h20, r⟩
  have jl : j < ms.length := (List.getElem?_eq_some_iff.mp hj).1
  have up : ∀ l : List MD, (ms ++ l)[j]? = some (.l (rows.map rwL)) := fun l => by rw [List.getElem?_append_left jl]; exact hj
  have rl : ∀ p, (rows.getD p []).length ≤ 20 := fun p => Nat.le_trans (ok.rl p) h20
  unfold t__law_corners
  refine s_new (e_lst (ea_nil ⟨[], rfl, Nat.zero_le _, _, rfl, ?_⟩))
  refine s_hidN fun p => ?_
  refine sh_forR ΘN_st (js := [3]) (ea_cons (e_cb (ea_cons (e_varm rfl (ea_nil (rc_len ⟨_, _, rfl, .inl (.m (up _)), ?_⟩))))))
  rw [List.length_map]
  refine ea_nil ⟨_, rfl, by omega, fun k ds' ms' x' => ∃ o3 o4 : SD, x'.2 = (drR rows k).map drI ∧ ds' = [.m j, .m ms.length, .v (.ref x'.1), o3, o4, .u, .u] ∧ ms' = ms ++ [.l []], ⟨_, _, rfl, rfl, rfl⟩, ?_, ?_⟩
  · rintro k ds' ms' ⟨q, es⟩ hk ⟨o3, o4, rfl, rfl, rfl⟩
    have hk : k < rows.length := by simpa using hk
    have e : rows.getD k [] = rows[k] := by simp [List.getD, hk]
    have at_ : (rows.map rwL)[k]? = some (rwL (rows.getD k [])) := by rw [List.getElem?_map, List.getElem?_eq_getElem hk, e]; rfl
    refine eg_name (sh_catN rfl (e_lcL (js := [4]) (by simp) (e_op (e_varm rfl (e_var rfl (rr_ix ⟨_, _, _, .inl (.m (up _)), rfl, atI_nat at_, ?_⟩))))))
    refine ⟨_, .d _, by rw [List.length_map]; have := rl k; omega, fun i acc ms' => acc = (((rows.getD k []).take i).map fun b => (k, b)).map drI ∧ ms' = ms ++ [.l []], ⟨rfl, rfl⟩, ?_, ?_⟩
    · rintro i e acc ms' he ⟨rfl, rfl⟩
      rw [List.getElem?_map] at he
      cases q : (rows.getD k [])[i]? with
      | none => rw [q] at he; cases he
      | some b =>
        rw [q] at he
        cases he
        refine eg_name (et_yes ⟨fun _ => e_tup (ea_cons (e_var rfl (ea_cons (e_var rfl (ea_nil ⟨[_, _], rfl, Nat.le_of_ble_eq_true rfl, _, rfl, ?_, rfl⟩))))), nofun⟩)
        rw [take_snoc q, List.map_append, List.map_append]
        rfl
    · rintro acc ms' ⟨rfl, rfl⟩
      rw [List.length_map, List.take_length]
      refine ⟨_, rfl, ?_, fun q => ⟨_, _, ?_, rfl, rfl⟩⟩
      · have h1 := drR_len ok k
        have h2 := mul_le20 (a := k) (b := rows.length) (by omega) h20
        have h3 := rl k
        rw [List.length_map, List.length_map, List.length_map]
        omega
      · rw [drR_snoc, List.map_append]
  rintro ds' ms' ⟨q, es⟩ ⟨o3, o4, ex, rfl, rfl⟩
  have ex : es = (drR rows rows.length).map drI := by simpa using ex
  subst ex
  refine ⟨rfl, ?_⟩
  have n1 : ∀ A : MD, (ms ++ [A]).length = ms.length + 1 := fun A => by simp
  have n2 : ∀ A B : MD, (ms ++ [A] ++ [B]).length = ms.length + 2 := fun A B => by simp
  rw [n1]
  have big : (drR rows rows.length).length ≤ 400 := Nat.le_trans (drR_len ok _) (mul_le20 h20 h20)
  have D0 : 0 < (drR rows rows.length).length := by
    have h2 := ok.n2
    obtain ⟨b, hb⟩ := List.exists_mem_of_ne_nil _ (ok.ne 0 (by omega))
    exact List.length_pos_of_mem (List.mem_flatMap.mpr ⟨0, List.mem_range.mpr (by omega), List.mem_map.mpr ⟨b, hb, rfl⟩⟩)
  refine s_seq (s_while (fun n ds' ms' => ∃ (F : List (List Drt)) (left : List Drt) (o3 o4 o5 o6 : SD), n = left.length ∧ F.length + left.length ≤ 400 ∧ (F ≠ [] ∨ left ≠ []) ∧ (∀ f ∈ F, f ≠ [] ∧ f.length ≤ 1000 ∧ ∀ d ∈ f, Vd rows d) ∧ (∀ d ∈ left, Vd rows d) ∧
    ds' = [.m j, .m ms.length, .m (ms.length + 1), o3, o4, o5, o6] ∧ ms' = ms ++ [.l (faceLs F)] ++ [.l (left.map drI)]) _ ⟨[], drR rows rows.length, _, _, _, _, rfl, (by simp; exact big), (.inr fun z => by rw [z] at D0; cases D0), nofun, drR_vd ok, rfl, rfl⟩ ?_)
  rintro n ds' ms' ⟨F, left, o3, o4, o5, o6, rfl, hl, hne, hF, hv, rfl, rfl⟩
  refine et_test (e_op (e_varm rfl (e_lst (ea_nil ⟨[], rfl, Nat.zero_le _, rr_ne ⟨_, _, .m (get2b _ _ _), .d _, (Shp.lst (shp_drs left)).ok (by decide), rfl, ?_⟩⟩))))
  rw [eqv_nil]
  refine ⟨_, rfl, fun z => ?_, fun z => ?_⟩
  rotate_left
  · have e0 : left = [] := by
      cases left with
      | nil => rfl
      | cons a l => simp at z
    subst e0
    refine s_ret (e_varm rfl ?_)
    refine ⟨ms ++ [.l (faceLs F)], _, rfl, n1 _, ms, _, rfl, rfl, ?_⟩
    have f1 : frzR (ms.length + 1) (([] : List Drt).map drI) (.m ms.length) = .m ms.length := if_neg (by omega)
    have f2 : frzR ms.length (faceLs F) (.m ms.length) = .f (faceLs F) := if_pos rfl
    show R (frzR ms.length (faceLs F) (frzR (ms.length + 1) (([] : List Drt).map drI) (.m ms.length))) ms
    rw [f1, f2]
    exact r F (hne.resolve_right fun z => z rfl) (by simp at hl; omega) hF
  obtain ⟨d, left, rfl⟩ : ∃ d l, left = d :: l := by
    cases left with
    | nil => simp at z
    | cons a l => exact ⟨a, l, rfl⟩
  have upw : ∀ l : List MD, ∀ A B : MD, (ms ++ [A] ++ [B] ++ l)[j]? = some (.l (rows.map rwL)) := fun l A B => by rw [List.append_assoc, List.append_assoc]; exact up _
  refine s_seq (s_asg (e_op (e_varm rfl (e_int (rr_ix ⟨_, _, _, .inl (.m (get2b _ _ _)), rfl, atI_nat (j := 0) rfl, ?_⟩)))))
  refine s_assoc (s_mid (fun ds' ms' => ∃ (face left' : List Drt) (o5 : SD), face ≠ [] ∧ face.length + left'.length = left.length + 1 ∧ (∀ x ∈ face, Vd rows x) ∧ (∀ x ∈ left', Vd rows x) ∧
    ds' = [.m j, .m ms.length, .m (ms.length + 1), frzS (ms.length + 2) (face.map drI) o3, frzS (ms.length + 2) (face.map drI) o4, o5, .d (.list (face.map drI))] ∧ ms' = ms ++ [.l (faceLs F)] ++ [.l (left'.map drI)]) (s_new (e_lst (ea_nil ⟨[], rfl, Nat.zero_le _, _, rfl, ?_⟩))) ?_)
  · rw [n2]
    refine s_while (fun n ds' ms' => ∃ (face left' : List Drt) (x : Drt), n = left'.length ∧ face.length + left'.length = left.length + 1 ∧ (face ≠ [] ∨ x ∈ left') ∧ Vd rows x ∧ (∀ x ∈ face, Vd rows x) ∧ (∀ x ∈ left', Vd rows x) ∧
      ds' = [.m j, .m ms.length, .m (ms.length + 1), o3, o4, .d (drI x), .m (ms.length + 2)] ∧ ms' = ms ++ [.l (faceLs F)] ++ [.l (left'.map drI)] ++ [.l (face.map drI)]) _ ⟨[], _, d, rfl, by simp, .inr (by simp), hv d (by simp), nofun, hv, rfl, rfl⟩ ?_
    rintro n ds' ms' ⟨face, left', x, rfl, hn, hx, vx, vf, vl, rfl, rfl⟩
    refine et_test (e_op (e_var rfl (e_varm rfl (rr_inD ⟨_, _, .d _, .m (g3b _ _ _ _), (drI_shp _).ok (by decide), (Shp.lst (shp_drs _)).ok (by decide), ?_⟩))))
    rw [in_dr]
    refine ⟨_, rfl, fun z => ?_, fun z => ?_⟩
    · have z := of_decide_eq_true z
      obtain ⟨i, pl, hi⟩ := rem_any z
      refine s_seq (s_drop (e_remD (e_varm rfl ⟨_, rfl, e_var rfl ⟨_, _, i, rfl, g3b _ _ _ _, (Shp.all (shp_drs _)).1, (drI_shp _).ok (by decide), pl, ?_⟩⟩)))
      rw [s3b, erase_dr]
      refine s_seq (s_drop (e_append (e_varm rfl ⟨_, rfl, e_var rfl ⟨_, _, rfl, g3c _ _ _ _, by rw [List.length_map]; simp at hl; omega, ?_⟩⟩)))
      rw [s3c]
      have hp := (ok.lt _ _ vx).1
      refine s_asg (e_call (ea_cons (e_varm rfl (ea_cons (e_var rfl (ea_nil ⟨_, _, rfl, rows, x, .inr (.m (upw _ _ _)), rfl, hp, ok.nd _, vx, ?_, ?_⟩))))))
      · have := rl x.2; omega
      have el := List.length_eraseIdx_of_lt hi
      refine ⟨left'.length - 1, by omega, face ++ [x], left'.eraseIdx i, behF rows x, ?_, ?_, .inl (by simp), vx.beh ok, fun y hy => ?_, fun y hy => vl y ((List.eraseIdx_sublist _ _).mem hy), rfl, ?_⟩
      · rw [el]
      · rw [List.length_append, List.length_singleton, el]; omega
      · rcases List.mem_append.mp hy with h | h
        · exact vf y h
        · rw [List.mem_singleton.mp h]; exact vx
      · rw [List.map_append]; rfl
    · have z := of_decide_eq_false z
      refine ⟨ms ++ [.l (faceLs F)] ++ [.l (left'.map drI)], _, rfl, n2 _ _, face, left', .d (drI x), hx.resolve_right z, hn, vf, vl, ?_, rfl⟩
      have f1 : frzS (ms.length + 2) (face.map drI) (.m j) = .m j := if_neg (by omega)
      have f2 : frzS (ms.length + 2) (face.map drI) (.m ms.length) = .m ms.length := if_neg (by omega)
      have f3 : frzS (ms.length + 2) (face.map drI) (.m (ms.length + 1)) = .m (ms.length + 1) := if_neg (by omega)
      have f4 : frzS (ms.length + 2) (face.map drI) (.m (ms.length + 2)) = .d (.list (face.map drI)) := if_pos rfl
      show [frzS _ _ (.m j), frzS _ _ (.m ms.length), frzS _ _ (.m (ms.length + 1)), _, _, _, frzS _ _ (.m (ms.length + 2))] = _
      rw [f1, f2, f3, f4]
      rfl
  rintro ds' ms' ⟨face, left', o5', hf, hn, vf, vl, rfl, rfl⟩
  have hpos : 0 < face.length := List.length_pos_iff.mpr hf
  have hl : F.length + (left.length + 1) ≤ 400 := by simpa using hl
  refine s_drop (e_append (e_varm rfl ⟨_, rfl, e_var rfl ⟨_, _, rfl, get2a _ _ _, by rw [List.length_map]; omega, ?_⟩⟩))
  rw [set2a]
  refine ⟨left'.length, by simp; omega, F ++ [face], left', _, _, _, _, rfl, by simp; omega, .inl (by simp), fun f hf2 => ?_, vl, rfl, by unfold faceLs; rw [List.map_append]; rfl⟩
  rcases List.mem_append.mp hf2 with h | h
  · exact hF f h
  · rw [List.mem_singleton.mp h]
    exact ⟨hf, by omega, vf⟩

/-- two lists that change, at two places -/
theorem sj_k {ms : List MD} {k j : Nat} (h : k ≠ j) (kl : k < ms.length) (A B : MD) : ((ms.set k A).set j B)[k]? = some A := by
  rw [List.getElem?_set_ne (Ne.symm h), List.getElem?_set_self kl]
theorem sj_j {ms : List MD} {k j : Nat} (jl : j < ms.length) (A B : MD) : ((ms.set k A).set j B)[j]? = some B := by
  rw [List.getElem?_set_self (by rw [List.length_set]; exact jl)]
theorem sj_sk {ms : List MD} {k j : Nat} (h : k ≠ j) (A B C : MD) : ((ms.set k A).set j B).set k C = (ms.set k C).set j B := by
  rw [List.set_comm _ _ (Ne.symm h), List.set_set]
theorem sj_sj {ms : List MD} {k j : Nat} (A B C : MD) : ((ms.set k A).set j B).set j C = (ms.set k A).set j C := List.set_set ..
/-- a dart out of the faces -/
theorem face_at {F : List (List Drt)} {i : Nat} (h : i < F.length) : (faceLs F)[i]? = some (.list ((F.getD i []).map drI)) := by
  unfold faceLs
  rw [List.getElem?_map, List.getElem?_eq_getElem h]
  simp [List.getD, h]
theorem dart_at {f : List Drt} {i : Nat} (h : i < f.length) : (f.map drI)[i]? = some (drI (f.getD i (0, 0))) := by
  rw [List.getElem?_map, List.getElem?_eq_getElem h]
  simp [List.getD, h]
theorem getD_memF {F : List (List Drt)} {i : Nat} (h : i < F.length) : F.getD i [] ∈ F := by
  simp [List.getD, h]
theorem getD_memD {f : List Drt} {i : Nat} (h : i < f.length) : f.getD i (0, 0) ∈ f := by
  simp [List.getD, h]
theorem rows_at {rows : List (List Nat)} {p : Nat} (h : p < rows.length) : (rows.map rwL)[p]? = some (rwL (rows.getD p [])) := by
  rw [List.getElem?_map, List.getElem?_eq_getElem h]
  simp [List.getD, h]
def Φ__law_put_point : Ph := ph2 fun a b ms R => ∃ (k : Nat) (xs : List Nat) (j : Nat) (rows : List (List Nat)), a = .m k ∧ b = .m j ∧ k ≠ j ∧ Dk xs ∧ ms[k]? = some (.l (dkL xs)) ∧ ms[j]? = some (.l (rows.map rwL)) ∧ RkOk rows ∧ rows.length ≤ 19 ∧
  ∀ (rows' : List (List Nat)) (xs' : List Nat), RkOk rows' → rows'.length = rows.length + 1 → Dk xs' → R (.d .none) ((dm ms k xs').set j (.l (rows'.map rwL)))
theorem len__law_put_point : ∀ as ms R, Φ__law_put_point as ms R → as.length = 2 := ph2_len
theorem rd__law_put_point {K : PySem.W.Frag} : ∀ as ms R, Φ__law_put_point as ms R → S K (t__law_put_point K Φ__law_corners Φ__law_next Φ__law_after) (as ++ List.replicate (6 - as.length) .u) ms (fin R) := by
  rintro as ms R ⟨a, b, rfl, k, xs, j, rows, rfl, rfl, kj, hx, hk, hj, ok, h19, r⟩
  have kl : k < ms.length := (List.getElem?_eq_some_iff.mp hk).1
  have jl : j < ms.length := (List.getElem?_eq_some_iff.mp hj).1
  have e0 : ms = (dm ms k xs).set j (.l (rows.map rwL)) := by rw [dm_self hk, set_same _ _ _ hj]
  unfold t__law_put_point
  refine s_seq (s_asg (e_call (ea_cons (e_varm rfl (ea_nil ⟨_, rfl, j, rows, rfl, hj, ok, by omega, fun F F0 Fl hF => ?_⟩)))))
  have Fp : 0 < F.length := List.length_pos_iff.mpr F0
  refine s_seq (s_asg (e_op (e_var rfl (e_op (e_next rfl hk hx fun z1 xs1 hz1 hx1 => e_cb (ea_cons (e_var rfl (ea_nil (rc_len ⟨_, _, rfl, .inl (.d _), rr_I ⟨_, _, rfl, rfl, ?_, ?_⟩⟩)))))))))
  · rw [List.length_map]; omega
  obtain ⟨i1, hi1, ei1⟩ := fm_ex (z1 : Int) (m := (((faceLs F).length : Nat) : Int)) (by rw [List.length_map]; omega)
  rw [ei1]
  rw [List.length_map] at hi1
  have hi1 : i1 < F.length := by omega
  refine rr_ix ⟨_, _, _, .inl (.d _), rfl, atI_nat (face_at hi1), ?_⟩
  obtain ⟨f0, fl, fv⟩ := hF _ (getD_memF hi1)
  generalize F.getD i1 [] = f at f0 fl fv ⊢
  have fp : 0 < f.length := List.length_pos_iff.mpr f0
  refine s_seq (s_asgG (js := [4, 5]) (e_op (e_var rfl (e_op (e_next rfl (dm_at kl _) hx1 fun z2 xs2 hz2 hx2 => e_cb (ea_cons (e_var rfl (ea_nil (rc_len ⟨_, _, rfl, .inl (.d _), rr_I ⟨_, _, rfl, rfl, ?_, ?_⟩⟩)))))))))
  · rw [List.length_map]; omega
  rw [dm_dm]
  obtain ⟨i2, hi2, ei2⟩ := fm_ex (z2 : Int) (m := (((f.map drI).length : Nat) : Int)) (by rw [List.length_map]; omega)
  rw [ei2]
  rw [List.length_map] at hi2
  have hi2 : i2 < f.length := by omega
  refine rr_ix ⟨_, _, _, .inl (.d _), rfl, atI_nat (dart_at hi2), ?_⟩
  have vd := fv _ (getD_memD hi2)
  generalize f.getD i2 (0, 0) = d at vd ⊢
  obtain ⟨x, y⟩ := d
  have hy : y < rows.length := (ok.lt y x vd).1
  have gj : (dm ms k xs2)[j]? = some (.l (rows.map rwL)) := by rw [List.getElem?_set_ne kj]; exact hj
  refine eg_tup rfl (egs_cons (eg_name (egs_cons (eg_name (egs_nil ?_)))))
  refine s_seq (s_setL (e_call (ea_cons (e_op (e_varm rfl (e_var rfl (rr_ix ⟨_, _, _, .inl (.m gj), rfl, atI_nat (rows_at hy), ?_⟩)))))))
  refine ea_cons (e_var rfl (ea_cons (e_cb (ea_cons (e_varm rfl (ea_nil (rc_len ⟨_, _, rfl, .inl (.m gj), ?_⟩)))))))
  rw [List.length_map]
  refine ea_nil ⟨_, _, _, rfl, rows.getD y [], x, rows.length, rfl, rfl, rfl, vd, by have := ok.rl y; omega, ?_⟩
  refine ⟨_, rfl, e_varm rfl ⟨_, rfl, e_var rfl ⟨_, y, _, rfl, gj, ixN_nat (by rw [List.length_map]; exact hy), ?_⟩⟩⟩
  have es : (rows.map rwL).set y (.list (nI (insA (rows.getD y []) x rows.length))) = (rows.set y (insA (rows.getD y []) x rows.length)).map rwL := by rw [List.map_set]
  rw [es]
  have jl2 : j < (dm ms k xs2).length := by rw [dm_len]; exact jl
  refine s_drop (e_append (e_varm rfl ⟨_, rfl, e_lst (ea_cons (e_var rfl (ea_nil ⟨[_], rfl, Nat.le_of_ble_eq_true rfl, _, _, rfl, List.getElem?_set_self jl2, by rw [List.length_map, List.length_set]; omega, ?_⟩)))⟩))
  rw [List.set_set]
  have := r _ xs2 (ok.point vd) (by simp) hx2
  rw [List.map_append] at this
  exact this

def Φ__law_put_tie : Ph := ph2 fun a b ms R => ∃ (k : Nat) (xs : List Nat) (j : Nat) (rows : List (List Nat)), a = .m k ∧ b = .m j ∧ k ≠ j ∧ Dk xs ∧ ms[k]? = some (.l (dkL xs)) ∧ ms[j]? = some (.l (rows.map rwL)) ∧ RkOk rows ∧ rows.length ≤ 20 ∧
  ∀ (rows' : List (List Nat)) (xs' : List Nat), RkOk rows' → rows'.length = rows.length → Dk xs' → R (.d .none) ((dm ms k xs').set j (.l (rows'.map rwL)))
theorem len__law_put_tie : ∀ as ms R, Φ__law_put_tie as ms R → as.length = 2 := ph2_len
theorem rd__law_put_tie {K : PySem.W.Frag} : ∀ as ms R, Φ__law_put_tie as ms R → S K (t__law_put_tie K Φ__law_corners Φ__law_next Φ__law_after) (as ++ List.replicate (8 - as.length) .u) ms (fin R) := by
  rintro as ms R ⟨a, b, rfl, k, xs, j, rows, rfl, rfl, kj, hx, hk, hj, ok, h19, r⟩
  have kl : k < ms.length := (List.getElem?_eq_some_iff.mp hk).1
  have jl : j < ms.length := (List.getElem?_eq_some_iff.mp hj).1
  have e0 : ms = (dm ms k xs).set j (.l (rows.map rwL)) := by rw [dm_self hk, set_same _ _ _ hj]
  unfold t__law_put_tie
  refine s_seq (s_asg (e_call (ea_cons (e_varm rfl (ea_nil ⟨_, rfl, j, rows, rfl, hj, ok, by omega, fun F F0 Fl hF => ?_⟩)))))
  have Fp : 0 < F.length := List.length_pos_iff.mpr F0
  refine s_seq (s_asg (e_op (e_var rfl (e_op (e_next rfl hk hx fun z1 xs1 hz1 hx1 => e_cb (ea_cons (e_var rfl (ea_nil (rc_len ⟨_, _, rfl, .inl (.d _), rr_I ⟨_, _, rfl, rfl, ?_, ?_⟩⟩)))))))))
  · rw [List.length_map]; omega
  obtain ⟨i1, hi1, ei1⟩ := fm_ex (z1 : Int) (m := (((faceLs F).length : Nat) : Int)) (by rw [List.length_map]; omega)
  rw [ei1]
  rw [List.length_map] at hi1
  have hi1 : i1 < F.length := by omega
  refine rr_ix ⟨_, _, _, .inl (.d _), rfl, atI_nat (face_at hi1), ?_⟩
  obtain ⟨f0, fl, fv⟩ := hF _ (getD_memF hi1)
  generalize F.getD i1 [] = f at f0 fl fv ⊢
  have fp : 0 < f.length := List.length_pos_iff.mpr f0
  refine s_seq (s_asgG (js := [4, 5]) (e_op (e_var rfl (e_op (e_next rfl (dm_at kl _) hx1 fun z2 xs2 hz2 hx2 => e_cb (ea_cons (e_var rfl (ea_nil (rc_len ⟨_, _, rfl, .inl (.d _), rr_I ⟨_, _, rfl, rfl, ?_, ?_⟩⟩)))))))))
  · rw [List.length_map]; omega
  rw [dm_dm]
  obtain ⟨i2, hi2, ei2⟩ := fm_ex (z2 : Int) (m := (((f.map drI).length : Nat) : Int)) (by rw [List.length_map]; omega)
  rw [ei2]
  rw [List.length_map] at hi2
  have hi2 : i2 < f.length := by omega
  refine rr_ix ⟨_, _, _, .inl (.d _), rfl, atI_nat (dart_at hi2), ?_⟩
  have vd := fv _ (getD_memD hi2)
  generalize f.getD i2 (0, 0) = d1 at vd ⊢
  obtain ⟨x, y⟩ := d1
  have hy : y < rows.length := (ok.lt y x vd).1
  refine eg_tup rfl (egs_cons (eg_name (egs_cons (eg_name (egs_nil ?_)))))
  refine s_seq (s_asgG (js := [6, 7]) (e_op (e_var rfl (e_op (e_next rfl (dm_at kl _) hx2 fun z3 xs3 hz3 hx3 => e_cb (ea_cons (e_var rfl (ea_nil (rc_len ⟨_, _, rfl, .inl (.d _), rr_I ⟨_, _, rfl, rfl, ?_, ?_⟩⟩)))))))))
  · rw [List.length_map]; omega
  rw [dm_dm]
  obtain ⟨i3, hi3, ei3⟩ := fm_ex (z3 : Int) (m := (((f.map drI).length : Nat) : Int)) (by rw [List.length_map]; omega)
  rw [ei3]
  rw [List.length_map] at hi3
  have hi3 : i3 < f.length := by omega
  refine rr_ix ⟨_, _, _, .inl (.d _), rfl, atI_nat (dart_at hi3), ?_⟩
  have wd := fv _ (getD_memD hi3)
  generalize f.getD i3 (0, 0) = d2 at wd ⊢
  obtain ⟨u, v⟩ := d2
  have hv : v < rows.length := (ok.lt v u wd).1
  refine eg_tup rfl (egs_cons (eg_name (egs_cons (eg_name (egs_nil ?_)))))
  have gj : (dm ms k xs3)[j]? = some (.l (rows.map rwL)) := by rw [List.getElem?_set_ne kj]; exact hj
  have jl2 : j < (dm ms k xs3).length := by rw [dm_len]; exact jl
  have inI : ∀ (l : List Nat) (v : Nat), ((nI l).any fun z => PyData.eqv z (.int (v : Nat))) = decide (v ∈ l) := fun l v => by
    rw [List.any_map]
    induction l with
    | nil => simp
    | cons a r ih =>
      rw [List.any_cons, ih]
      show (PyData.eqv (.int (a : Nat)) (.int (v : Nat)) || _) = _
      rw [eqv_int]
      by_cases h : a = v
      · subst h
        simp
      · have h2 : ¬ (a : Int) = v := by omega
        rw [decide_eq_false h2, Bool.false_or]
        by_cases h3 : v ∈ r
        · rw [decide_eq_true h3, decide_eq_true (List.mem_cons_of_mem _ h3)]
        · rw [decide_eq_false h3, decide_eq_false (fun z => (List.mem_cons.mp z).elim (fun z => h z.symm) h3)]
  have skip : R (.d .none) (dm ms k xs3) := by
    have := r rows xs3 ok rfl hx3
    rwa [set_same _ _ _ gj] at this
  refine s_if (et_and (et_test (e_op (e_var rfl (e_var rfl (rr_ne ⟨_, _, .d _, .d _, shaped_int _, shaped_int _, _, rfl, fun z1 => ?_, fun _ => ⟨nofun, fun _ => s_next skip⟩⟩))))))
  rw [eqv_int] at z1
  have ne : y ≠ v := fun z => by rw [z] at z1; simp at z1
  refine et_test (e_op (e_var rfl (e_op (e_varm rfl (e_var rfl (rr_ix ⟨_, _, _, .inl (.m gj), rfl, atI_nat (rows_at hy), ?_⟩))))))
  refine rr_notInD ⟨_, _, .d _, .d _, shaped_int _, by rw [nI_int]; exact shp_intL _, _, rfl, ?_⟩
  rw [inI]
  refine ⟨fun z2 => ?_, fun _ => s_next skip⟩
  have no : v ∉ rows.getD y [] := fun z => by rw [decide_eq_true z] at z2; cases z2
  refine s_seq (s_setL (e_call (ea_cons (e_op (e_varm rfl (e_var rfl (rr_ix ⟨_, _, _, .inl (.m gj), rfl, atI_nat (rows_at hy), ?_⟩)))))))
  refine ea_cons (e_var rfl (ea_cons (e_var rfl (ea_nil ⟨_, _, _, rfl, rows.getD y [], x, v, rfl, rfl, rfl, vd, by have := ok.rl y; omega, ?_⟩))))
  refine ⟨_, rfl, e_varm rfl ⟨_, rfl, e_var rfl ⟨_, y, _, rfl, gj, ixN_nat (by rw [List.length_map]; exact hy), ?_⟩⟩⟩
  have es : (rows.map rwL).set y (.list (nI (insA (rows.getD y []) x v))) = (rows.set y (insA (rows.getD y []) x v)).map rwL := by rw [List.map_set]
  rw [es]
  have g2 : ((dm ms k xs3).set j (.l ((rows.set y (insA (rows.getD y []) x v)).map rwL)))[j]? = some (.l ((rows.set y (insA (rows.getD y []) x v)).map rwL)) := List.getElem?_set_self jl2
  have hv2 : v < (rows.set y (insA (rows.getD y []) x v)).length := by rw [List.length_set]; exact hv
  have ev : (rows.set y (insA (rows.getD y []) x v)).getD v [] = rows.getD v [] := by rw [set_getD, if_neg (fun z => ne z.1.symm)]
  refine s_setL (e_call (ea_cons (e_op (e_varm rfl (e_var rfl (rr_ix ⟨_, _, _, .inl (.m g2), rfl, atI_nat (rows_at hv2), ?_⟩))))))
  rw [ev]
  refine ea_cons (e_var rfl (ea_cons (e_var rfl (ea_nil ⟨_, _, _, rfl, rows.getD v [], u, y, rfl, rfl, rfl, wd, by have := ok.rl v; omega, ?_⟩))))
  refine ⟨_, rfl, e_varm rfl ⟨_, rfl, e_var rfl ⟨_, v, _, rfl, g2, ixN_nat (by rw [List.length_map]; exact hv2), ?_⟩⟩⟩
  rw [List.set_set]
  have := r _ xs3 (ok.tie vd wd ne no) (by simp) hx3
  rw [List.map_set] at this
  exact this

def Φ__law_grown : Ph := ph3 fun a b c ms R => ∃ (k : Nat) (xs : List Nat) (n t : Nat), a = .m k ∧ b = .d (.int (n : Nat)) ∧ c = .d (.int (t : Nat)) ∧ Dk xs ∧ ms[k]? = some (.l (dkL xs)) ∧ 2 ≤ n ∧ n ≤ 19 ∧ t ≤ 1000 ∧
  ∀ (rows : List (List Nat)) (xs' : List Nat), RkOk rows → rows.length = n → Dk xs' → R (.f (rows.map rwL)) (dm ms k xs')
theorem len__law_grown : ∀ as ms R, Φ__law_grown as ms R → as.length = 3 := ph3_len
theorem rd__law_grown {K : PySem.W.Frag} : ∀ as ms R, Φ__law_grown as ms R → S K (t__law_grown K Φ__law_put_point Φ__law_put_tie) (as ++ List.replicate (5 - as.length) .u) ms (fin R) := by
  rintro as ms R ⟨a, b, c, rfl, k, xs, n, t, rfl, rfl, rfl, hx, hk, n2, n19, t1000, r⟩
  have kl : k < ms.length := (List.getElem?_eq_some_iff.mp hk).1
  unfold t__law_grown
  refine s_new (e_lst (ea_cons (e_lst (ea_cons (e_int (ea_nil ⟨[_], rfl, Nat.le_of_ble_eq_true rfl, ?_⟩)))))) 
  refine ea_cons (e_lst (ea_cons (e_int (ea_nil ⟨[_], rfl, Nat.le_of_ble_eq_true rfl, ?_⟩))))
  refine ea_nil ⟨[_, _], rfl, Nat.le_of_ble_eq_true rfl, _, rfl, ?_⟩
  have eR : ([PyData.list [.int 1], .list [.int 0]] : List PyData) = ([[1], [0]] : List (List Nat)).map rwL := rfl
  rw [eR, ← dm_self hk, dm_len]
  have kj : k ≠ ms.length := by omega
  refine s_seq (s_while (fun i ds' ms' => ∃ (rows : List (List Nat)) (xs' : List Nat), i + rows.length = n ∧ RkOk rows ∧ Dk xs' ∧
    ds' = [.m k, .d (.int (n : Nat)), .d (.int (t : Nat)), .m ms.length, .u] ∧ ms' = dm ms k xs' ++ [.l (rows.map rwL)]) (n - 2) ⟨[[1], [0]], xs, by show n - 2 + 2 = n; omega, RkOk.two, hx, rfl, rfl⟩ ?_)
  rintro i ds' ms' ⟨rows, xs1, hi, ok, hx1, rfl, rfl⟩
  refine et_test (e_op (e_cb (ea_cons (e_varm rfl (ea_nil (rc_len ⟨_, _, rfl, .inl (.m (dm_g1 _ _ _ _)), e_var rfl (rr_B0 ⟨_, _, rfl, rfl, _, rfl, fun z => ?_, fun z => ?_⟩)⟩))))))
  · rw [List.length_map] at z
    have z : (rows.length : Int) < n := of_decide_eq_true z
    refine s_seq (s_drop (e_call (ea_cons (e_varm rfl (ea_cons (e_varm rfl (ea_nil ⟨_, _, rfl, k, xs1, ms.length, rows, rfl, rfl, kj, hx1, dm_at1 kl _ _, dm_g1 _ _ _ _, ok, by omega, fun rows2 xs2 ok2 l2 hx2 => ?_⟩)))))))
    rw [show (dm (dm ms k xs1 ++ [MD.l (rows.map rwL)]) k xs2).set ms.length (.l (rows2.map rwL)) = dm ms k xs2 ++ [.l (rows2.map rwL)] by rw [show dm (dm ms k xs1 ++ [MD.l (rows.map rwL)]) k xs2 = dm ms k xs2 ++ [.l (rows.map rwL)] from dm_set1 kl _ _ _, dm_s1]]
    refine s_drop (e_call (ea_cons (e_varm rfl (ea_cons (e_varm rfl (ea_nil ⟨_, _, rfl, k, xs2, ms.length, rows2, rfl, rfl, kj, hx2, dm_at1 kl _ _, dm_g1 _ _ _ _, ok2, by omega, fun rows3 xs3 ok3 l3 hx3 => ?_⟩))))))
    rw [show (dm (dm ms k xs2 ++ [MD.l (rows2.map rwL)]) k xs3).set ms.length (.l (rows3.map rwL)) = dm ms k xs3 ++ [.l (rows3.map rwL)] by rw [show dm (dm ms k xs2 ++ [MD.l (rows2.map rwL)]) k xs3 = dm ms k xs3 ++ [.l (rows2.map rwL)] from dm_set1 kl _ _ _, dm_s1]]
    exact ⟨i - 1, by omega, rows3, xs3, by omega, ok3, hx3, rfl, rfl⟩
  · rw [List.length_map] at z
    have z : ¬ (rows.length : Int) < n := of_decide_eq_false z
    refine s_seq (s_forR (js := [4]) (ea_cons (e_var rfl (ea_nil ⟨_, rfl, by omega, fun i ds' ms' => ∃ (rows : List (List Nat)) (xs' : List Nat) (o4 : SD), RkOk rows ∧ rows.length = n ∧ Dk xs' ∧
      ds' = [.m k, .d (.int (n : Nat)), .d (.int (t : Nat)), .m ms.length, o4] ∧ ms' = dm ms k xs' ++ [.l (rows.map rwL)], ⟨rows, xs1, _, ok, by omega, hx1, rfl, rfl⟩, ?_, ?_⟩))))
    · rintro i ds' ms' _ ⟨rows2, xs2, o4, ok2, l2, hx2, rfl, rfl⟩
      refine eg_name (s_drop (e_call (ea_cons (e_varm rfl (ea_cons (e_varm rfl (ea_nil ⟨_, _, rfl, k, xs2, ms.length, rows2, rfl, rfl, kj, hx2, dm_at1 kl _ _, dm_g1 _ _ _ _, ok2, by omega, fun rows3 xs3 ok3 l3 hx3 => ?_⟩)))))))
      rw [show (dm (dm ms k xs2 ++ [MD.l (rows2.map rwL)]) k xs3).set ms.length (.l (rows3.map rwL)) = dm ms k xs3 ++ [.l (rows3.map rwL)] by rw [show dm (dm ms k xs2 ++ [MD.l (rows2.map rwL)]) k xs3 = dm ms k xs3 ++ [.l (rows2.map rwL)] from dm_set1 kl _ _ _, dm_s1]]
      exact ⟨rows3, xs3, _, ok3, by omega, hx3, rfl, rfl⟩
    · rintro ds' ms' ⟨rows2, xs2, o4, ok2, l2, hx2, rfl, rfl⟩
      refine s_ret (e_varm rfl ⟨dm ms k xs2, _, rfl, dm_len _ _ _, ?_⟩)
      have f : frzR ms.length (rows2.map rwL) (.m ms.length) = .f (rows2.map rwL) := if_pos rfl
      rw [f]
      exact r rows2 xs2 ok2 l2 hx2

def twoR (rows others : List (List Nat)) : List (List Nat) := rows ++ others.map fun row => row.map fun p => p + rows.length
def Φ__law_two_parts : Ph := ph2 fun a b ms R => ∃ (rows others : List (List Nat)), a = .d (.list (rows.map rwL)) ∧ b = .d (.list (others.map rwL)) ∧ rows.length ≤ 20 ∧ others.length ≤ 20 ∧ (∀ r ∈ others, r.length ≤ 20) ∧ R (.f ((twoR rows others).map rwL)) ms
theorem len__law_two_parts : ∀ as ms R, Φ__law_two_parts as ms R → as.length = 2 := ph2_len
theorem rd__law_two_parts {K : PySem.W.Frag} : ∀ as ms R, Φ__law_two_parts as ms R → S K (t__law_two_parts K) (as ++ List.replicate (5 - as.length) .u) ms (fin R) := by
  rintro as ms R ⟨a, b, rfl, rows, others, rfl, rfl, h1, h2, h3, r⟩
  unfold t__law_two_parts
  refine s_seq (s_asg (e_cb (ea_cons (e_var rfl (ea_nil (rc_len ⟨_, _, rfl, .inl (.d _), ?_⟩))))))
  rw [List.length_map]
  refine s_ret (e_op (e_var rfl (e_lcL (js := [3]) (by simp) (e_var rfl ⟨_, .d _, by rw [List.length_map]; omega, fun i acc ms' => acc = ((others.take i).map fun row => row.map fun p => p + rows.length).map rwL ∧ ms' = ms, ⟨rfl, rfl⟩, ?_, ?_⟩))))
  · rintro i e acc ms' he ⟨rfl, rfl⟩
    rw [List.getElem?_map] at he
    cases q : others[i]? with
    | none => rw [q] at he; cases he
    | some row =>
      rw [q] at he
      cases he
      have rl := h3 row (List.mem_of_getElem? q)
      refine eg_name (et_yes ⟨fun _ => e_lcL (js := [4]) (by simp) (e_var rfl ⟨_, .d _, by rw [List.length_map]; omega, fun j acc2 ms2 => acc2 = nI ((row.take j).map fun p => p + rows.length) ∧ ms2 = ms', ⟨rfl, rfl⟩, ?_, ?_⟩), nofun⟩)
      · rintro j e acc2 ms2 he ⟨rfl, rfl⟩
        rw [List.getElem?_map] at he
        cases q2 : row[j]? with
        | none => rw [q2] at he; cases he
        | some p =>
          rw [q2] at he
          cases he
          refine eg_name (et_yes ⟨fun _ => e_op (e_var rfl (e_var rfl (rr_I0 ⟨_, _, rfl, rfl, _, rfl, ?_, rfl⟩))), nofun⟩)
          rw [take_snoc q2, List.map_append, nI_app]
          have : ((p : Int) + (rows.length : Int)) = ((p + rows.length : Nat) : Int) := by omega
          rw [this]
          rfl
      · rintro acc2 ms2 ⟨rfl, rfl⟩
        rw [List.length_map, List.take_length]
        refine ⟨_, rfl, ?_, rfl⟩
        rw [take_snoc q, List.map_append, List.map_append]
        rfl
  · rintro acc ms' ⟨rfl, rfl⟩
    rw [List.length_map, List.take_length]
    refine rr_cat ⟨_, _, rfl, rfl, by rw [List.length_map, List.length_map, List.length_map]; omega, ?_⟩
    unfold twoR at r
    rw [List.map_append] at r
    exact r

/-- rows of a web: who stands beside whom -/
structure RkW (rows : List (List Nat)) : Prop where
  nd : ∀ p, (rows.getD p []).Nodup
  lt : ∀ p q, q ∈ rows.getD p [] → p < rows.length ∧ q < rows.length ∧ q ≠ p
  sym : ∀ p q, q ∈ rows.getD p [] → p ∈ rows.getD q []
theorem RkOk.w {rows : List (List Nat)} (h : RkOk rows) : RkW rows := ⟨h.nd, h.lt, h.sym⟩
theorem RkW.rl {rows : List (List Nat)} (h : RkW rows) (p : Nat) : (rows.getD p []).length ≤ rows.length := by
  have := nodup_sub (rows.getD p []) (List.range rows.length) (h.nd p) fun q hq => List.mem_range.mpr (h.lt p q hq).2.1
  rwa [List.length_range] at this
theorem twoR_len (rows others : List (List Nat)) : (twoR rows others).length = rows.length + others.length := by simp [twoR]
theorem twoR_getD (rows others : List (List Nat)) (p : Nat) : (twoR rows others).getD p [] = if p < rows.length then rows.getD p [] else (others.getD (p - rows.length) []).map fun q => q + rows.length := by
  unfold twoR List.getD
  by_cases h : p < rows.length
  · rw [List.getElem?_append_left h, if_pos h]
  · rw [List.getElem?_append_right (by omega), if_neg h, List.getElem?_map]
    cases others[p - rows.length]? <;> rfl
theorem RkW.two {rows others : List (List Nat)} (h : RkW rows) (g : RkW others) : RkW (twoR rows others) := by
  refine ⟨fun p => ?_, fun p q hq => ?_, fun p q hq => ?_⟩
  · rw [twoR_getD]
    split
    · exact h.nd p
    · rw [List.nodup_iff_pairwise_ne, List.pairwise_map]
      exact (List.nodup_iff_pairwise_ne.mp (g.nd _)).imp fun {a b} z e => z (by omega)
  · rw [twoR_getD] at hq
    rw [twoR_len]
    split at hq
    · have := h.lt p q hq; omega
    · obtain ⟨x, hx, rfl⟩ := List.mem_map.mp hq
      have := g.lt _ _ hx
      omega
  · rw [twoR_getD] at hq
    rw [twoR_getD]
    split at hq
    · have := h.lt p q hq
      rw [if_pos this.2.1]
      exact h.sym p q hq
    · obtain ⟨x, hx, rfl⟩ := List.mem_map.mp hq
      rw [if_neg (by omega)]
      refine List.mem_map.mpr ⟨p - rows.length, ?_, by omega⟩
      rw [Nat.add_sub_cancel]
      exact g.sym _ _ hx
theorem apart_perm {a b : List Tie} (h : a.Perm b) (ha : Apart b) : Apart a :=
  h.symm.pairwise ha fun {x y} z => fun w => z ⟨w.1.symm, w.2.symm⟩
/-- the ties written down so far: of the first k points all, of the k-th those of the first i beside it -/
structure TsOk (rows : List (List Nat)) (nm : Nat → Nat) (k i : Nat) (ts : List Tie) : Prop where
  ok : ∀ t ∈ ts, TieOk rows.length t
  ap : Apart ts
  out : ∀ t ∈ ts, ∃ a b, t.1 = nm a ∧ t.2.1 = nm b ∧ b ∈ rows.getD a [] ∧ nm a < nm b ∧ (a < k ∨ (a = k ∧ b ∈ (rows.getD k []).take i))
  all : ∀ a b, b ∈ rows.getD a [] → nm a < nm b → (a < k ∨ (a = k ∧ b ∈ (rows.getD k []).take i)) → ∃ t ∈ ts, t.1 = nm a ∧ t.2.1 = nm b
theorem TsOk.next {rows : List (List Nat)} {nm : Nat → Nat} {k : Nat} {ts : List Tie} (h : TsOk rows nm k (rows.getD k []).length ts) : TsOk rows nm (k + 1) 0 ts := by
  refine ⟨h.ok, h.ap, fun t ht => ?_, fun a b hb lt ho => ?_⟩
  · obtain ⟨a, b, h1, h2, h3, h4, h5⟩ := h.out t ht
    exact ⟨a, b, h1, h2, h3, h4, .inl (by omega)⟩
  · refine h.all a b hb lt ?_
    rcases ho with ho | ⟨_, ho⟩
    · by_cases e : a = k
      · subst e
        exact .inr ⟨rfl, by rw [List.take_length]; exact hb⟩
      · exact .inl (by omega)
    · simp at ho
theorem sum_named {n : Nat} {ps : List Nat} (pm : ps.Perm (List.range n)) (pl : ps.length = n) {tt rows : List (List Nat)} (tl : tt.length = n) {nm : Nat → Nat} (enm : ∀ a, ps.getD a 0 = nm a) (tp : ∀ a, a < n → tt.getD (nm a) [] = (rows.getD a []).map nm) (rl : rows.length = n := by rfl) : (tt.map (·.length)).sum = (rows.map (·.length)).sum := by
  have rg : ∀ (l : List (List Nat)), l.length = n → l.map (·.length) = (List.range n).map fun p => (l.getD p []).length := fun l hl => by
    refine List.ext_getElem? fun i => ?_
    by_cases hi : i < n
    · rw [List.getElem?_map, List.getElem?_map, List.getElem?_range hi, List.getElem?_eq_getElem (by omega)]
      simp [List.getD, hl, hi]
    · rw [List.getElem?_eq_none (by rw [List.length_map]; omega), List.getElem?_eq_none (by rw [List.length_map, List.length_range]; omega)]
  have h4 : ps.map (fun p => (tt.getD p []).length) = (List.range n).map fun a => (rows.getD a []).length := by
    refine List.ext_getElem? fun i => ?_
    by_cases hi : i < n
    · rw [List.getElem?_map, List.getElem?_map, List.getElem?_range hi, List.getElem?_eq_getElem (by omega)]
      have e : ps[i]'(by omega) = nm i := by
        rw [← enm i]
        simp [List.getD, pl, hi]
      show some (tt.getD (ps[i]'(by omega)) []).length = some (rows.getD i []).length
      rw [e, tp i hi, List.length_map]
    · rw [List.getElem?_eq_none (by rw [List.length_map]; omega), List.getElem?_eq_none (by rw [List.length_map, List.length_range]; omega)]
  rw [rg tt tl, rg rows rl, ← h4]
  exact ((pm.map fun p => (tt.getD p []).length).symm).sum_nat
def Φ__law_named : Ph := ph2 fun a b ms R => ∃ (k : Nat) (xs : List Nat) (rows : List (List Nat)), a = .m k ∧ b = .d (.list (rows.map rwL)) ∧ Dk xs ∧ ms[k]? = some (.l (dkL xs)) ∧ RkW rows ∧ 1 ≤ rows.length ∧ rows.length ≤ 12 ∧
  ∀ (ts : List Tie) (tt : List (List Nat)) (xs' : List Nat), WebOk rows.length ts → Apart ts → TurnOk rows.length ts tt → (tt.map (·.length)).sum = (rows.map (·.length)).sum → Dk xs' → R (.d (.tuple [encW rows.length ts, .tuple (tt.map rwN)])) (dm ms k xs')
theorem len__law_named : ∀ as ms R, Φ__law_named as ms R → as.length = 2 := ph2_len
theorem rd__law_named {K : PySem.W.Frag} : ∀ as ms R, Φ__law_named as ms R → S K (t__law_named K Φ__law_order Φ__law_weight) (as ++ List.replicate (7 - as.length) .u) ms (fin R) := by
  rintro as ms R ⟨a, b, rfl, k, xs, rows, rfl, rfl, hx, hk, ok, n1, n12, r⟩
  have kl : k < ms.length := (List.getElem?_eq_some_iff.mp hk).1
  have rl : ∀ p, (rows.getD p []).length ≤ 12 := fun p => Nat.le_trans (ok.rl p) n12
  unfold t__law_named
  refine s_seq (s_asg (e_call (ea_cons (e_varm rfl (ea_cons (e_cb (ea_cons (e_var rfl (ea_nil (rc_len ⟨_, _, rfl, .inl (.d _), ?_⟩)))))))))) 
  rw [List.length_map]
  refine ea_nil ⟨_, _, rfl, k, xs, rows.length, rfl, rfl, hx, hk, by omega, fun ps xs1 pm hx1 => ?_⟩
  have pl : ps.length = rows.length := by have := pm.length_eq; rwa [List.length_range] at this
  have pnd : ps.Nodup := pm.nodup_iff.mpr List.nodup_range
  have nml : ∀ a, a < rows.length → ps.getD a 0 < rows.length := fun a ha => perm_lt pm (by rw [getD_ix (by omega)]; exact List.getElem_mem _)
  have inj : ∀ a b, a < rows.length → b < rows.length → ps.getD a 0 = ps.getD b 0 → a = b := fun a b ha hb e => nd_ix pnd (by omega) (by omega) e
  have sur : ∀ p, p < rows.length → ∃ a, a < rows.length ∧ ps.getD a 0 = p := fun p hp => by
    obtain ⟨a, ha, e⟩ := List.getElem_of_mem (pm.mem_iff.mpr (List.mem_range.mpr hp))
    exact ⟨a, by omega, by rw [getD_ix ha, e]⟩
  generalize hnm : (fun a => ps.getD a 0) = nm
  have enm : ∀ a, ps.getD a 0 = nm a := fun a => by rw [← hnm]
  simp only [enm] at nml inj sur
  have atn : ∀ a, a < rows.length → (nI ps)[a]? = some (.int ((nm a : Nat) : Int)) := fun a ha => by rw [← enm]; exact natN_at (by omega)
  refine s_new (e_op (e_lst (ea_cons (e_tup (ea_nil ⟨[], rfl, Nat.zero_le _, ea_nil ⟨[_], rfl, Nat.le_of_ble_eq_true rfl, ?_⟩⟩)))))
  refine e_cb (ea_cons (e_var rfl (ea_nil (rc_len ⟨_, _, rfl, .inl (.d _), ?_⟩))))
  rw [List.length_map]
  refine rr_rep ⟨_, _, rfl, rfl, by omega, by omega, _, rfl, ?_⟩
  have e0 : List.replicate ((rows.length : Nat) : Int).toNat (PyData.tuple []) = (List.replicate rows.length ([] : List Nat)).map rwN := by simp
  rw [e0]
  refine s_new (e_lst (ea_nil ⟨[], rfl, Nat.zero_le _, _, rfl, ?_⟩))
  rw [dm_l1, dm_len]
  refine s_seq (s_forR (js := [5]) (ea_cons (e_cb (ea_cons (e_var rfl (ea_nil (rc_len ⟨_, _, rfl, .inl (.d _), ?_⟩)))))))
  rw [List.length_map]
  refine ea_nil ⟨_, rfl, by omega, fun i ds' ms' => ∃ (tt : List (List Nat)) (ts : List Tie) (xs' : List Nat) (o5 o6 : SD), tt.length = rows.length ∧ (∀ a, a < i → tt.getD (nm a) [] = (rows.getD a []).map nm) ∧ TsOk rows nm i 0 ts ∧ ts.length ≤ i * rows.length ∧ Dk xs' ∧
    ds' = [.m k, .d (.list (rows.map rwL)), .d (.list (nI ps)), .m ms.length, .m (ms.length + 1), o5, o6] ∧ ms' = dm ms k xs' ++ [.l (tt.map rwN)] ++ [.l (ts.map encT)],
    ⟨List.replicate rows.length [], [], xs1, _, _, by simp, nofun, ⟨nofun, List.Pairwise.nil, nofun, fun a b _ _ h => ?_⟩, Nat.zero_le _, hx1, rfl, rfl⟩, ?_, ?_⟩
  · rcases h with h | ⟨_, h⟩
    · omega
    · simp at h
  · rintro i ds' ms' hi ⟨tt, ts, xs2, o5, o6, tl, tp, tk, tsl, hx2, rfl, rfl⟩
    have hi : i < rows.length := by simpa using hi
    have rli := ok.rl i
    refine eg_name (s_seq (s_setL (e_cb (ea_cons (e_lcL (js := [6]) (by simp) (e_op (e_var rfl (e_var rfl (rr_ix ⟨_, _, _, .inl (.d _), rfl, atI_nat (rows_at hi), ?_⟩)))))))))
    refine ⟨_, .d _, by rw [List.length_map]; omega, fun j acc ms' => acc = nI (((rows.getD i []).take j).map nm) ∧ ms' = dm ms k xs2 ++ [.l (tt.map rwN)] ++ [.l (ts.map encT)], ⟨rfl, rfl⟩, ?_, ?_⟩
    · rintro j e acc ms' he ⟨rfl, rfl⟩
      rw [List.getElem?_map] at he
      cases q : (rows.getD i [])[j]? with
      | none => rw [q] at he; cases he
      | some b =>
        rw [q] at he
        cases he
        have hb := (ok.lt i b (List.mem_of_getElem? q)).2.1
        refine eg_name (et_yes ⟨fun _ => e_op (e_var rfl (e_var rfl (rr_ix ⟨_, _, _, .inl (.d _), rfl, atI_nat (atn b hb), _, rfl, ?_, rfl⟩))), nofun⟩)
        rw [take_snoc q, List.map_append, nI_app]
        rfl
    rintro acc ms' ⟨rfl, rfl⟩
    rw [List.length_map, List.take_length]
    refine ea_nil (rc_tuple ⟨_, _, rfl, .inl (.d _), ?_⟩)
    refine ⟨_, rfl, e_varm rfl ⟨_, rfl, e_op (e_var rfl (e_var rfl (rr_ix ⟨_, _, _, .inl (.d _), rfl, atI_nat (atn i hi), ?_⟩)))⟩⟩
    refine ⟨_, nm i, _, rfl, dm_g2a _ _ _ _ _, ixN_nat (by rw [List.length_map, tl]; exact nml i hi), ?_⟩
    rw [dm_s2a]
    have es : (tt.map rwN).set (nm i) (.tuple (nI ((rows.getD i []).map nm))) = (tt.set (nm i) ((rows.getD i []).map nm)).map rwN := by rw [List.map_set]
    rw [es]
    have tp2 : ∀ a, a < i + 1 → (tt.set (nm i) ((rows.getD i []).map nm)).getD (nm a) [] = (rows.getD a []).map nm := fun a ha => by
      rw [set_getD]
      by_cases e : a = i
      · subst e
        rw [if_pos ⟨rfl, by rw [tl]; exact nml a hi⟩]
      · rw [if_neg fun z => e (inj a i (by omega) hi z.1)]
        exact tp a (by omega)
    have tl2 : (tt.set (nm i) ((rows.getD i []).map nm)).length = rows.length := by rw [List.length_set]; exact tl
    generalize tt.set (nm i) ((rows.getD i []).map nm) = tt2 at tp2 tl2 ⊢
    refine s_forL (js := [6]) (e_op (e_var rfl (e_var rfl (rr_ix ⟨_, _, _, .inl (.d _), rfl, atI_nat (rows_at hi), ?_⟩))))
    refine ⟨_, .d _, fun j ds' ms' => ∃ (ts : List Tie) (xs' : List Nat) (o6 : SD), TsOk rows nm i j ts ∧ ts.length ≤ i * rows.length + j ∧ Dk xs' ∧
      ds' = [.m k, .d (.list (rows.map rwL)), .d (.list (nI ps)), .m ms.length, .m (ms.length + 1), .d (.int (i : Nat)), o6] ∧ ms' = dm ms k xs' ++ [.l (tt2.map rwN)] ++ [.l (ts.map encT)], ⟨ts, xs2, _, tk, by omega, hx2, rfl, rfl⟩, ?_, ?_⟩
    · rintro j e ds' ms' he ⟨ts, xs3, o6, tk, tsl, hx3, rfl, rfl⟩
      rw [List.getElem?_map] at he
      cases q : (rows.getD i [])[j]? with
      | none => rw [q] at he; cases he
      | some b =>
        rw [q] at he
        cases he
        have bm := List.mem_of_getElem? q
        have hb := (ok.lt i b bm).2.1
        have hj := (List.getElem?_eq_some_iff.mp q).1
        have mul : i * rows.length + rows.length ≤ 144 := by
          have : (i + 1) * rows.length ≤ 12 * 12 := Nat.mul_le_mul (by omega) n12
          rw [Nat.add_mul] at this
          omega
        refine eg_name (s_if (et_test (e_op (e_op (e_var rfl (e_var rfl (rr_ix ⟨_, _, _, .inl (.d _), rfl, atI_nat (atn i hi), ?_⟩)))))))
        refine e_op (e_var rfl (e_var rfl (rr_ix ⟨_, _, _, .inl (.d _), rfl, atI_nat (atn b hb), rr_B0 ⟨_, _, rfl, rfl, _, rfl, fun z => ?_, fun z => ?_⟩⟩)))
        · have z : ((nm i : Nat) : Int) < (nm b : Nat) := of_decide_eq_true z
          have z : nm i < nm b := by omega
          refine s_drop (e_append (e_varm rfl ⟨_, rfl, e_tup (ea_cons (e_op (e_var rfl (e_var rfl (rr_ix ⟨_, _, _, .inl (.d _), rfl, atI_nat (atn i hi), ?_⟩)))))⟩))
          refine ea_cons (e_op (e_var rfl (e_var rfl (rr_ix ⟨_, _, _, .inl (.d _), rfl, atI_nat (atn b hb), ?_⟩))))
          refine ea_cons (e_call (ea_cons (e_varm rfl (ea_nil ⟨_, rfl, k, xs3, rfl, hx3, dm_at2 kl _ _ _, fun f xs4 hf hx4 => ?_⟩))))
          rw [show dm (dm ms k xs3 ++ [MD.l (tt2.map rwN)] ++ [MD.l (ts.map encT)]) k xs4 = dm ms k xs4 ++ [.l (tt2.map rwN)] ++ [.l (ts.map encT)] from dm_set2 kl _ _ _ _]
          refine ea_nil ⟨[_, _, _], rfl, Nat.le_of_ble_eq_true rfl, _, _, rfl, dm_g2b _ _ _ _ _, by rw [List.length_map]; omega, ?_⟩
          rw [dm_s2b]
          refine ⟨ts ++ [(nm i, nm b, f)], xs4, _, ⟨fun t ht => ?_, ?_, fun t ht => ?_, fun a c hc lt ho => ?_⟩, by simp; omega, hx4, rfl, by rw [List.map_append]; rfl⟩
          · rcases List.mem_append.mp ht with h | h
            · exact tk.ok t h
            · rw [List.mem_singleton.mp h]
              exact ⟨z, nml b hb, hf⟩
          · unfold Apart
            refine List.pairwise_append.mpr ⟨tk.ap, List.pairwise_singleton _ _, fun t ht u hu => ?_⟩
            rw [List.mem_singleton.mp hu]
            rintro ⟨e1, e2⟩
            obtain ⟨x, y, h1, h2, h3, h4, h5⟩ := tk.out t ht
            have l3 := ok.lt x y h3
            have ex : x = i := inj x i l3.1 hi (h1.symm.trans e1)
            have ey : y = b := inj y b l3.2.1 hb (h2.symm.trans e2)
            rcases h5 with h5 | ⟨_, h5⟩
            · omega
            · rw [ey] at h5
              have n2 : ((rows.getD i []).take (j + 1)).Nodup := (ok.nd i).sublist (List.take_sublist _ _)
              rw [take_snoc q] at n2
              exact (List.nodup_append.mp n2).2.2 b h5 b (by simp) rfl
          · rcases List.mem_append.mp ht with h | h
            · obtain ⟨x, y, h1, h2, h3, h4, h5⟩ := tk.out t h
              refine ⟨x, y, h1, h2, h3, h4, ?_⟩
              rw [take_snoc q]
              rcases h5 with h5 | ⟨h5, h6⟩
              · exact .inl h5
              · exact .inr ⟨h5, List.mem_append_left _ h6⟩
            · rw [List.mem_singleton.mp h]
              exact ⟨i, b, rfl, rfl, bm, z, .inr ⟨rfl, by rw [take_snoc q]; simp⟩⟩
          · rw [take_snoc q] at ho
            have old : (a < i ∨ (a = i ∧ c ∈ (rows.getD i []).take j)) → ∃ t ∈ ts ++ [(nm i, nm b, f)], t.1 = nm a ∧ t.2.1 = nm c := fun h => by
              obtain ⟨t, ht, e⟩ := tk.all a c hc lt h
              exact ⟨t, List.mem_append_left _ ht, e⟩
            rcases ho with ho | ⟨ho, h6⟩
            · exact old (.inl ho)
            · rcases List.mem_append.mp h6 with h6 | h6
              · exact old (.inr ⟨ho, h6⟩)
              · refine ⟨(nm i, nm b, f), by simp, by rw [ho], ?_⟩
                rw [List.mem_singleton.mp h6]
        · have z : ¬ ((nm i : Nat) : Int) < (nm b : Nat) := of_decide_eq_false z
          refine s_next ⟨ts, xs3, _, ⟨tk.ok, tk.ap, fun t ht => ?_, fun a c hc lt ho => ?_⟩, by omega, hx3, rfl, rfl⟩
          · obtain ⟨x, y, h1, h2, h3, h4, h5⟩ := tk.out t ht
            refine ⟨x, y, h1, h2, h3, h4, ?_⟩
            rw [take_snoc q]
            rcases h5 with h5 | ⟨h5, h6⟩
            · exact .inl h5
            · exact .inr ⟨h5, List.mem_append_left _ h6⟩
          · rw [take_snoc q] at ho
            refine tk.all a c hc lt ?_
            rcases ho with ho | ⟨ho, h6⟩
            · exact .inl ho
            · rcases List.mem_append.mp h6 with h6 | h6
              · exact .inr ⟨ho, h6⟩
              · rw [List.mem_singleton.mp h6, ho] at lt
                omega
    · rintro ds' ms' ⟨ts, xs3, o6, tk, tsl, hx3, rfl, rfl⟩
      rw [List.length_map] at tk tsl
      exact ⟨tt2, ts, xs3, _, _, tl2, tp2, tk.next, by rw [Nat.add_mul]; omega, hx3, rfl, rfl⟩
  rintro ds' ms' ⟨tt, ts, xs2, o5, o6, tl, tp, tk, tsl, hx2, rfl, rfl⟩
  have tp : ∀ a, a < rows.length → tt.getD (nm a) [] = (rows.getD a []).map nm := fun a ha => tp a (by simpa using ha)
  have tk : TsOk rows nm rows.length 0 ts := by simpa using tk
  have tsl : ts.length ≤ rows.length * rows.length := by simpa using tsl
  obtain ⟨s1, s2, s3⟩ := ties_sort ts
  obtain ⟨ts', et, pt⟩ := perm_enc encT (l := ts) (List.mergeSort_perm (ts.map encT) (PySem.W.dataLe false id))
  refine s_ret (e_tup (ea_cons (e_tup (ea_cons (e_cb (ea_cons (e_var rfl (ea_nil (rc_len ⟨_, _, rfl, .inl (.d _), ?_⟩))))))))) 
  rw [List.length_map]
  refine ea_cons (e_cb (ea_cons (e_cb (ea_cons (e_varm rfl (ea_nil (rc_sortD ⟨_, _, rfl, .m (dm_g2b _ _ _ _ _), s1, s2, s3, ?_⟩)))))))
  rw [show sortD (ts.map encT) = ts'.map encT from et]
  refine ea_nil (rc_tuple ⟨_, _, rfl, .inl (.d _), ea_nil ⟨[_, _], rfl, Nat.le_of_ble_eq_true rfl, ?_⟩⟩)
  refine ea_cons (e_cb (ea_cons (e_varm rfl (ea_nil (rc_tuple ⟨_, _, rfl, .inl (.m (dm_g2a _ _ _ _ _)), ?_⟩)))))
  refine ea_nil ⟨[_, _], rfl, Nat.le_of_ble_eq_true rfl, ?_⟩
  refine ⟨dm ms k xs2 ++ [.l (tt.map rwN)], _, rfl, dm_l1 _ _ _ _, dm ms k xs2, _, rfl, dm_len _ _ _, ?_⟩
  have sq : rows.length * rows.length ≤ 144 := Nat.mul_le_mul n12 n12
  have hw : ∀ t ∈ ts', TieOk rows.length t := fun t h => tk.ok t (pt.mem_iff.mp h)
  have ap : Apart ts' := apart_perm pt tk.ap
  refine r ts' tt xs2 ⟨hw, by rw [pt.length_eq]; omega, n1, by omega⟩ ap ⟨tl, fun p hp => ?_⟩ (sum_named pm pl tl enm tp) hx2
  obtain ⟨a, ha, rfl⟩ := sur p hp
  rw [tp a ha]
  have nd1 : ((rows.getD a []).map nm).Nodup := by
    rw [List.nodup_iff_pairwise_ne, List.pairwise_map]
    refine List.Pairwise.imp_of_mem (fun {x y} hx hy z e => ?_) (List.nodup_iff_pairwise_ne.mp (ok.nd a))
    exact z (inj x y (ok.lt a x hx).2.1 (ok.lt a y hy).2.1 e)
  refine (List.perm_ext_iff_of_nodup nd1 (nb_nd hw ap _)).mpr fun q => ?_
  rw [nb_mem, List.mem_map]
  constructor
  · rintro ⟨b, hb, rfl⟩
    have lb := ok.lt a b hb
    by_cases z : nm a < nm b
    · obtain ⟨t, ht, e1, e2⟩ := tk.all a b hb z (.inl ha)
      exact ⟨t, pt.mem_iff.mpr ht, .inl ⟨e1, e2⟩⟩
    · have ne : nm a ≠ nm b := fun e => lb.2.2 (inj a b ha lb.2.1 e).symm
      obtain ⟨t, ht, e1, e2⟩ := tk.all b a (ok.sym a b hb) (by omega) (.inl lb.2.1)
      exact ⟨t, pt.mem_iff.mpr ht, .inr ⟨by omega, e2, e1⟩⟩
  · rintro ⟨t, ht, h⟩
    obtain ⟨x, y, h1, h2, h3, h4, _⟩ := tk.out t (pt.mem_iff.mp ht)
    have l3 := ok.lt x y h3
    rcases h with ⟨e1, e2⟩ | ⟨_, e1, e2⟩
    · have : x = a := inj x a l3.1 ha (h1.symm.trans e1)
      subst this
      exact ⟨y, h3, h2.symm.trans e2⟩
    · have : y = a := inj y a l3.2.1 ha (h2.symm.trans e1)
      subst this
      exact ⟨x, ok.sym x y h3, h1.symm.trans e2⟩

def jOk (m : Nat) (j : Jn) : Prop := j.1 < m ∧ j.2.1 < m ∧ j.1 ≠ j.2.1 ∧ j.2.2 < 2
/-! ### groups and marks, told by the sides that keep the wishes -/
def KeepF (js : List Jn) (s : Nat → Nat) : Prop := ∀ j ∈ js, (s j.1 + s j.2.1) % 2 = j.2.2
/-- s is on each group as the marks, or turned -/
def FolF (m : Nat) (gs cs : List Nat) (s : Nat → Nat) : Prop := ∀ i j, i < m → j < m → gs.getD i 0 = gs.getD j 0 → (cs.getD i 0 + s i) % 2 = (cs.getD j 0 + s j) % 2
structure GrOk (m : Nat) (js : List Jn) (gs cs : List Nat) : Prop where
  lg : gs.length = m
  lc : cs.length = m
  lt : ∀ g ∈ gs, g < m
  bit : ∀ c ∈ cs, c < 2
  iff : ∀ s : Nat → Nat, KeepF js s ↔ FolF m gs cs s
section
variable {m : Nat} {js : List Jn} {gs cs gs' cs' : List Nat}
theorem GrOk.own (b : GrOk m js gs cs) : KeepF js fun x => cs.getD x 0 := (b.iff _).mpr fun x y _ _ _ => by omega
theorem GrOk.part (a : GrOk m js gs cs) (b : GrOk m js gs' cs') {i j : Nat} (hi : i < m) (hj : j < m) (h : gs.getD i 0 = gs.getD j 0) : gs'.getD i 0 = gs'.getD j 0 := by
  apply Classical.byContradiction
  intro hne
  have q1 := (a.iff _).mp b.own i j hi hj h
  have k2 : KeepF js fun x => cs'.getD x 0 + if gs'.getD x 0 = gs'.getD i 0 then 1 else 0 := (b.iff _).mpr fun x y _ _ e => by
    show (cs'.getD x 0 + (cs'.getD x 0 + if gs'.getD x 0 = gs'.getD i 0 then 1 else 0)) % 2 = (cs'.getD y 0 + (cs'.getD y 0 + if gs'.getD y 0 = gs'.getD i 0 then 1 else 0)) % 2
    rw [e]
    omega
  have q2 := (a.iff _).mp k2 i j hi hj h
  have hne' : ¬ gs'.getD j 0 = gs'.getD i 0 := fun z => hne z.symm
  simp only [if_true, if_neg hne'] at q1 q2
  omega
theorem GrOk.mark (a : GrOk m js gs cs) (b : GrOk m js gs' cs') {i j : Nat} (hi : i < m) (hj : j < m) (h : gs.getD i 0 = gs.getD j 0) : (cs.getD i 0 + cs'.getD i 0) % 2 = (cs.getD j 0 + cs'.getD j 0) % 2 :=
  (a.iff _).mp b.own i j hi hj h
theorem getD_all {p : Nat → Prop} {l : List Nat} (h : ∀ x ∈ l, p x) {i : Nat} (hi : i < l.length) : p (l.getD i 0) := h _ (by simp [List.getD, hi])
end
theorem bit_at {cs : List Nat} (h : ∀ c ∈ cs, c < 2) (i : Nat) : cs.getD i 0 < 2 := by
  by_cases hi : i < cs.length
  · exact getD_all (p := (· < 2)) h hi
  · simp [List.getD, hi]
theorem rise_len {m : Nat} : ∀ {fs : List Nat} {a : Nat}, fs.Pairwise (· < ·) → (∀ x ∈ fs, a ≤ x ∧ x < m) → fs.length + a ≤ m ∨ fs = []
  | [], _, _, _ => .inr rfl
  | x :: r, a, hp, h => by
    obtain ⟨h1, h2⟩ := h x (by simp)
    rw [List.pairwise_cons] at hp
    rcases rise_len (m := m) (a := x + 1) hp.2 (fun y hy => ⟨hp.1 y hy, (h y (by simp [hy])).2⟩) with z | z
    · left; simp only [List.length_cons]; omega
    · left; subst z; simp only [List.length_cons, List.length_nil]; omega
theorem gr_of {m : Nat} {js : List Jn} {fs : List Nat} {rs : List Row} {G C : Nat → Nat} (hw : JOk m js) (s : SOk m js fs rs) (hall : ∀ p, p < m → ∃ w, ((G p, p, C p, w) : Row) ∈ rs)
    (hfit : ∀ (k : Nat) (j : Jn), js[k]? = some j → Fits js (rs.map (·.2)) k) : GrOk m js ((List.range m).map G) ((List.range m).map C) := by
  have gd : ∀ (F : Nat → Nat) i, i < m → ((List.range m).map F).getD i 0 = F i := fun F i hi => by
    simp [List.getD, hi]
  have fl : fs.length ≤ m := by
    rcases rise_len (m := m) (a := 0) s.rise (fun x hx => ⟨Nat.zero_le _, by
      obtain ⟨g, hg, e⟩ := List.getElem_of_mem hx
      have := s.lt _ (s.fst g x (by rw [List.getElem?_eq_getElem hg, e]))
      exact this⟩) with z | z
    · omega
    · subst z; exact Nat.zero_le _
  refine ⟨by simp, by simp, fun g hg => ?_, fun c hc => ?_, fun t => ⟨fun h i j hi hj he => ?_, fun h j hj => ?_⟩⟩
  · obtain ⟨p, hp, rfl⟩ := List.mem_map.mp hg
    obtain ⟨w, rw_⟩ := hall p (List.mem_range.mp hp)
    obtain ⟨f, h1, _⟩ := s.ok _ rw_
    have := (List.getElem?_eq_some_iff.mp h1).1
    exact Nat.lt_of_lt_of_le this fl
  · obtain ⟨p, hp, rfl⟩ := List.mem_map.mp hc
    obtain ⟨w, rw_⟩ := hall p (List.mem_range.mp hp)
    obtain ⟨f, _, h2, _⟩ := s.ok _ rw_
    exact h2.bit
  · have hk : ∀ (k : Nat) (j : Jn), js[k]? = some j → (t j.1 + t j.2.1) % 2 = j.2.2 := fun k j hj => h j (List.mem_of_getElem? hj)
    rw [gd G i hi, gd G j hj] at he
    obtain ⟨wi, ri⟩ := hall i hi
    obtain ⟨wj, rj⟩ := hall j hj
    obtain ⟨f1, q1, ok1, _⟩ := s.ok _ ri
    obtain ⟨f2, q2, ok2, _⟩ := s.ok _ rj
    have q1 : fs[G i]? = some f1 := q1
    have q2 : fs[G j]? = some f2 := q2
    rw [← he, q1] at q2
    cases q2
    have a1 : (t f1 + t i) % 2 = C i := ok1.side t hk
    have a2 : (t f1 + t j) % 2 = C j := ok2.side t hk
    rw [gd C i hi, gd C j hj]
    omega
  · obtain ⟨k, hk, ek⟩ := List.getElem_of_mem hj
    have hjk : js[k]? = some j := by rw [List.getElem?_eq_getElem hk, ek]
    obtain ⟨t1, t2, tn, t3⟩ := hw.all j hj
    obtain ⟨j2, c1, w1, c2, w2, g1, g2, g3, g4⟩ := hfit k j hjk
    rw [hjk] at g1
    cases g1
    obtain ⟨wa, ra⟩ := hall j.1 t1
    obtain ⟨wb, rb⟩ := hall j.2.1 t2
    obtain ⟨r1, hr1, er1⟩ := List.mem_map.mp g2
    obtain ⟨r2, hr2, er2⟩ := List.mem_map.mp g3
    have i1 : r1 = (G j.1, j.1, C j.1, wa) := row_inj s hr1 ra (by rw [er1])
    have i2 : r2 = (G j.2.1, j.2.1, C j.2.1, wb) := row_inj s hr2 rb (by rw [er2])
    rw [i1] at er1
    rw [i2] at er2
    have ec1 : C j.1 = c1 := congrArg (fun e : Ent => e.2.1) er1
    have ec2 : C j.2.1 = c2 := congrArg (fun e : Ent => e.2.1) er2
    obtain ⟨n1, _⟩ := nbr_of hjk tn
    obtain ⟨r', hr', g', p'⟩ := s.cl _ ra _ _ _ n1
    have i3 : r' = (G j.2.1, j.2.1, C j.2.1, wb) := row_inj s hr' rb p'
    rw [i3] at g'
    have g' : G j.2.1 = G j.1 := g'
    have hf := h j.1 j.2.1 t1 t2 (by rw [gd G _ t1, gd G _ t2, g'])
    rw [gd C _ t1, gd C _ t2] at hf
    omega
/-! ### groups told by their least points -/
section
variable {m : Nat} {js : List Jn} {gs cs : List Nat}
/-- a join's points are of one group -/
theorem join_one (gr : GrOk m js gs cs) (hw : ∀ j ∈ js, jOk m j) {j : Jn} (hj : j ∈ js) : gs.getD j.1 0 = gs.getD j.2.1 0 := by
  obtain ⟨h1, h2, hne, h4⟩ := hw j hj
  apply Classical.byContradiction
  intro z
  have own := gr.own j hj
  have k2 : KeepF js fun x => cs.getD x 0 + if gs.getD x 0 = gs.getD j.1 0 then 1 else 0 := (gr.iff _).mpr fun x y _ _ e => by
    show (cs.getD x 0 + (cs.getD x 0 + if gs.getD x 0 = gs.getD j.1 0 then 1 else 0)) % 2 = (cs.getD y 0 + (cs.getD y 0 + if gs.getD y 0 = gs.getD j.1 0 then 1 else 0)) % 2
    rw [e]
    omega
  have q := k2 j hj
  have z' : ¬ gs.getD j.2.1 0 = gs.getD j.1 0 := fun y => z y.symm
  simp only [if_true, if_neg z'] at q
  have own : (cs.getD j.1 0 + cs.getD j.2.1 0) % 2 = j.2.2 := own
  omega
/-- what is alike at each join's points is alike on each group -/
theorem alike_one (gr : GrOk m js gs cs) (f : Nat → Nat) (h : ∀ j ∈ js, f j.1 = f j.2.1) {p q : Nat} (hp : p < m) (hq : q < m) (e : gs.getD p 0 = gs.getD q 0) : f p = f q := by
  have k2 : KeepF js fun x => cs.getD x 0 + if f x = f p then 1 else 0 := fun j hj => by
    have own : (cs.getD j.1 0 + cs.getD j.2.1 0) % 2 = j.2.2 := gr.own j hj
    show (cs.getD j.1 0 + (if f j.1 = f p then 1 else 0) + (cs.getD j.2.1 0 + if f j.2.1 = f p then 1 else 0)) % 2 = j.2.2
    rw [h j hj]
    split <;> omega
  have z := (gr.iff _).mp k2 p q hp hq e
  apply Classical.byContradiction
  intro y
  have y' : ¬ f q = f p := fun x => y x.symm
  simp only [if_true, if_neg y'] at z
  omega
end
/-- how it stands while they are brought together -/
structure Dn (m : Nat) (gs : List Nat) (fd : List Nat) : Prop where
  len : fd.length = m
  le : ∀ p, p < m → fd.getD p 0 ≤ p
  own : ∀ p, p < m → gs.getD (fd.getD p 0) 0 = gs.getD p 0
theorem getD_setN {l : List Nat} {i x v : Nat} (hi : i < l.length) : (l.set i v).getD x 0 = if x = i then v else l.getD x 0 := by
  by_cases h : x = i
  · subst h; simp [List.getD, hi]
  · have h' : ¬ i = x := fun z => h z.symm
    simp [List.getD, h', h]
/-- one wish's points brought together -/
def brg (fd : List Nat) (j : Jn) : List Nat := (fd.set j.1 (min (fd.getD j.1 0) (fd.getD j.2.1 0))).set j.2.1 (min (fd.getD j.1 0) (fd.getD j.2.1 0))
theorem brg_at {fd : List Nat} {j : Jn} (h1 : j.1 < fd.length) (h2 : j.2.1 < fd.length) (x : Nat) : (brg fd j).getD x 0 = if x = j.1 ∨ x = j.2.1 then min (fd.getD j.1 0) (fd.getD j.2.1 0) else fd.getD x 0 := by
  unfold brg
  rw [getD_setN (by rw [List.length_set]; exact h2), getD_setN h1]
  by_cases z : x = j.2.1
  · rw [if_pos z, if_pos (.inr z)]
  · rw [if_neg z]
    by_cases y : x = j.1
    · rw [if_pos y, if_pos (.inl y)]
    · rw [if_neg y, if_neg (fun q => q.elim y z)]
theorem Dn.brg {m : Nat} {gs fd : List Nat} (d : Dn m gs fd) {j : Jn} (hj : jOk m j) (hg : gs.getD j.1 0 = gs.getD j.2.1 0) : Dn m gs (brg fd j) := by
  obtain ⟨h1, h2, hne, h4⟩ := hj
  have l := d.len
  refine ⟨by unfold K51.brg; rw [List.length_set, List.length_set]; exact l, fun p hp => ?_, fun p hp => ?_⟩
  · rw [brg_at (by omega) (by omega)]
    have a1 := d.le _ h1
    have a2 := d.le _ h2
    have a3 := d.le _ hp
    split
    · rename_i z
      rcases z with z | z <;> subst z <;> omega
    · exact a3
  · rw [brg_at (by omega) (by omega)]
    split
    · rename_i z
      have mn : gs.getD (min (fd.getD j.1 0) (fd.getD j.2.1 0)) 0 = gs.getD j.1 0 := by
        rcases Nat.le_total (fd.getD j.1 0) (fd.getD j.2.1 0) with q | q
        · rw [Nat.min_eq_left q]; exact d.own _ h1
        · rw [Nat.min_eq_right q, d.own _ h2, hg]
      rcases z with z | z <;> subst z
      · exact mn
      · rw [mn, hg]
    · exact d.own _ hp
/-- they never grow -/
theorem brg_le {fd : List Nat} {j : Jn} (h1 : j.1 < fd.length) (h2 : j.2.1 < fd.length) (x : Nat) : (brg fd j).getD x 0 ≤ fd.getD x 0 := by
  rw [brg_at h1 h2]
  split
  · rename_i z
    rcases z with z | z <;> subst z <;> omega
  · exact Nat.le_refl _
def rnd (js : List Jn) (fd : List Nat) : List Nat := js.foldl brg fd
theorem brg_len (fd : List Nat) (j : Jn) : (brg fd j).length = fd.length := by unfold brg; rw [List.length_set, List.length_set]
theorem rnd_le {m : Nat} : ∀ (js : List Jn) (fd : List Nat), fd.length = m → (∀ j ∈ js, jOk m j) → ∀ x, (rnd js fd).getD x 0 ≤ fd.getD x 0
  | [], _, _, _, _ => Nat.le_refl _
  | j :: r, fd, hl, hj, x => by
    obtain ⟨h1, h2, _, _⟩ := hj j (by simp)
    exact Nat.le_trans (rnd_le r (brg fd j) (by rw [brg_len]; exact hl) (fun i hi => hj i (by simp [hi])) x) (brg_le (by omega) (by omega) x)
theorem rnd_len : ∀ (js : List Jn) (fd : List Nat), (rnd js fd).length = fd.length
  | [], _ => rfl
  | j :: r, fd => by
    show (rnd r (brg fd j)).length = _
    rw [rnd_len r, brg_len]
/-- a round that changes nothing: all are together -/
theorem rnd_fix {m : Nat} : ∀ (js : List Jn) (fd : List Nat), fd.length = m → (∀ j ∈ js, jOk m j) → (∀ x, x < m → (rnd js fd).getD x 0 = fd.getD x 0) → ∀ j ∈ js, fd.getD j.1 0 = fd.getD j.2.1 0
  | [], _, _, _, _, _, h => by cases h
  | i :: r, fd, hl, hj, h, j, hm => by
    obtain ⟨h1, h2, _, _⟩ := hj i (by simp)
    have hl' : (brg fd i).length = m := by rw [brg_len]; exact hl
    have hj' : ∀ k ∈ r, jOk m k := fun k hk => hj k (by simp [hk])
    have step : ∀ x, x < m → (brg fd i).getD x 0 = fd.getD x 0 := fun x hx => by
      have a1 := rnd_le r (brg fd i) hl' hj' x
      have a2 := brg_le (fd := fd) (j := i) (by omega) (by omega) x
      have a3 : (rnd r (brg fd i)).getD x 0 = fd.getD x 0 := h x hx
      omega
    have own : fd.getD i.1 0 = fd.getD i.2.1 0 := by
      have s1 := step i.1 h1
      have s2 := step i.2.1 h2
      rw [brg_at (by omega) (by omega), if_pos (.inl rfl)] at s1
      rw [brg_at (by omega) (by omega), if_pos (.inr rfl)] at s2
      omega
    rcases List.mem_cons.mp hm with rfl | hm
    · exact own
    · have e : brg fd i = fd := by
        apply List.ext_getElem?
        intro x
        by_cases hx : x < m
        · have := step x hx
          rw [List.getElem?_eq_getElem (by rw [hl']; exact hx), List.getElem?_eq_getElem (by rw [hl]; exact hx)]
          simp only [List.getD, List.getElem?_eq_getElem (show x < (brg fd i).length by rw [hl']; exact hx), List.getElem?_eq_getElem (show x < fd.length by rw [hl]; exact hx), Option.getD_some] at this
          rw [this]
        · rw [List.getElem?_eq_none (by omega), List.getElem?_eq_none (by omega)]
      exact rnd_fix r fd hl hj' (fun x hx => by
        have : (rnd r (brg fd i)).getD x 0 = fd.getD x 0 := h x hx
        rw [e] at this
        exact this) j hm
/-- the groups' first points -/
structure Fst (m : Nat) (gs fs : List Nat) : Prop where
  rise : fs.Pairwise (· < ·)
  own : ∀ g f, fs[g]? = some f → f < m ∧ gs.getD f 0 = g
  le : ∀ p, p < m → ∃ f, fs[gs.getD p 0]? = some f ∧ f ≤ p

/-! ### who hangs together -/
def Sm (ts : List Tie) (x y : Nat) : Prop := ∀ f : Nat → Nat, (∀ t ∈ ts, f t.1 = f t.2.1) → f x = f y
theorem Sm.refl {ts : List Tie} (x : Nat) : Sm ts x x := fun _ _ => rfl
theorem Sm.symm {ts : List Tie} {x y : Nat} (h : Sm ts x y) : Sm ts y x := fun f k => (h f k).symm
theorem Sm.trans {ts : List Tie} {x y z : Nat} (h : Sm ts x y) (g : Sm ts y z) : Sm ts x z := fun f k => (h f k).trans (g f k)
theorem Sm.tie {ts : List Tie} {t : Tie} (h : t ∈ ts) : Sm ts t.1 t.2.1 := fun _ k => k t h
def jnT (ts : List Tie) : List Jn := ts.map fun t => (t.1, t.2.1, 0)
theorem jn_ok {m : Nat} {ts : List Tie} (hw : ∀ t ∈ ts, TieOk m t) : ∀ j ∈ jnT ts, jOk m j := fun j hj => by
  obtain ⟨t, ht, rfl⟩ := List.mem_map.mp hj
  have h := hw t ht
  exact ⟨Nat.lt_trans h.lt h.lm, h.lm, Nat.ne_of_lt h.lt, Nat.le_of_ble_eq_true rfl⟩
theorem gr_sm {m : Nat} {ts : List Tie} {gs cs : List Nat} (hw : ∀ t ∈ ts, TieOk m t) (gr : GrOk m (jnT ts) gs cs) {x y : Nat} (hx : x < m) (hy : y < m) : gs.getD x 0 = gs.getD y 0 ↔ Sm ts x y := by
  constructor
  · intro h f k
    exact alike_one gr f (fun j hj => by obtain ⟨t, ht, rfl⟩ := List.mem_map.mp hj; exact k t ht) hx hy h
  · intro h
    exact h (fun p => gs.getD p 0) fun t ht => join_one gr (jn_ok hw) (List.mem_map.mpr ⟨t, ht, rfl⟩ : ((t.1, t.2.1, 0) : Jn) ∈ jnT ts)
theorem lstS_ex (ts : List Tie) : ∀ n x : Nat, x ≤ n → ∃ l, Sm ts x l ∧ ∀ y, Sm ts x y → l ≤ y
  | 0, x, h => ⟨x, .refl x, fun y _ => by omega⟩
  | n + 1, x, h => by
    by_cases z : ∃ y, Sm ts x y ∧ y < x
    · obtain ⟨y, s, lt⟩ := z
      obtain ⟨l, h1, h2⟩ := lstS_ex ts n y (by omega)
      exact ⟨l, s.trans h1, fun w hw => h2 w (s.symm.trans hw)⟩
    · exact ⟨x, .refl x, fun y s => by
        apply Classical.byContradiction
        intro q
        exact z ⟨y, s, by omega⟩⟩
noncomputable def lst (ts : List Tie) (x : Nat) : Nat := Classical.choose (lstS_ex ts x x (Nat.le_refl x))
theorem lst_sm (ts : List Tie) (x : Nat) : Sm ts x (lst ts x) := (Classical.choose_spec (lstS_ex ts x x (Nat.le_refl x))).1
theorem lst_le {ts : List Tie} {x y : Nat} (h : Sm ts x y) : lst ts x ≤ y := (Classical.choose_spec (lstS_ex ts x x (Nat.le_refl x))).2 y h
theorem lst_eq {ts : List Tie} {x y : Nat} (h : Sm ts x y) : lst ts x = lst ts y := by
  have h1 := lst_le (h.trans (lst_sm ts y))
  have h2 := lst_le (h.symm.trans (lst_sm ts x))
  omega
structure Ds (m : Nat) (ts : List Tie) (fd : List Nat) : Prop where
  len : fd.length = m
  le : ∀ p, p < m → fd.getD p 0 ≤ p
  sm : ∀ p, p < m → Sm ts p (fd.getD p 0)
abbrev jt (t : Tie) : Jn := (t.1, t.2.1, 0)
theorem Ds.brg {m : Nat} {ts : List Tie} {fd : List Nat} (d : Ds m ts fd) {t : Tie} (ht : t ∈ ts) (hw : TieOk m t) : Ds m ts (brg fd (jt t)) := by
  have l := d.len
  have h2 := hw.lm
  have h1 : t.1 < m := Nat.lt_trans hw.lt h2
  refine ⟨by rw [brg_len]; exact l, fun p hp => ?_, fun p hp => ?_⟩
  · rw [brg_at (j := jt t) (by show t.1 < _; omega) (by show t.2.1 < _; omega)]
    have a1 := d.le _ h1
    have a2 := d.le _ h2
    have a3 := d.le _ hp
    split
    · rename_i z
      rcases z with z | z
      · have z : p = t.1 := z
        show min (fd.getD t.1 0) (fd.getD t.2.1 0) ≤ p
        omega
      · have z : p = t.2.1 := z
        show min (fd.getD t.1 0) (fd.getD t.2.1 0) ≤ p
        omega
    · exact a3
  · rw [brg_at (j := jt t) (by show t.1 < _; omega) (by show t.2.1 < _; omega)]
    split
    · rename_i z
      have z : p = t.1 ∨ p = t.2.1 := z
      show Sm ts p (min (fd.getD t.1 0) (fd.getD t.2.1 0))
      have b1 := d.sm _ h1
      have b2 := d.sm _ h2
      have tt := Sm.tie ht
      rcases Nat.le_total (fd.getD t.1 0) (fd.getD t.2.1 0) with q | q
      · rw [Nat.min_eq_left q]
        rcases z with rfl | rfl
        · exact b1
        · exact tt.symm.trans b1
      · rw [Nat.min_eq_right q]
        rcases z with rfl | rfl
        · exact tt.trans b2
        · exact b2
    · exact d.sm _ hp
def Hit (ts : List Tie) (fd : List Nat) (p : Nat) : Prop := fd.getD p 0 = lst ts p
theorem Ds.ge {m : Nat} {ts : List Tie} {fd : List Nat} (d : Ds m ts fd) {p : Nat} (hp : p < m) : lst ts p ≤ fd.getD p 0 := lst_le (d.sm p hp)
theorem hit_mono {m : Nat} {ts : List Tie} {fd : List Nat} (d : Ds m ts fd) {t : Tie} (ht : t ∈ ts) (hw : TieOk m t) {p : Nat} (hp : p < m) (h : Hit ts fd p) : Hit ts (brg fd (jt t)) p := by
  have l := d.len
  have h2 := hw.lm
  have h1 : t.1 < m := Nat.lt_trans hw.lt h2
  have g := (d.brg ht hw).ge hp
  have le := brg_le (fd := fd) (j := jt t) (by show t.1 < _; omega) (by show t.2.1 < _; omega) p
  unfold Hit at h ⊢
  omega
theorem hit_pair {m : Nat} {ts : List Tie} {fd : List Nat} (d : Ds m ts fd) {t : Tie} (ht : t ∈ ts) (hw : TieOk m t) (h : Hit ts fd t.1 ∨ Hit ts fd t.2.1) : Hit ts (brg fd (jt t)) t.1 ∧ Hit ts (brg fd (jt t)) t.2.1 := by
  have l := d.len
  have h2 := hw.lm
  have h1 : t.1 < m := Nat.lt_trans hw.lt h2
  have g1 := (d.brg ht hw).ge h1
  have g2 := (d.brg ht hw).ge h2
  have e := lst_eq (Sm.tie ht)
  have v1 : (brg fd (jt t)).getD t.1 0 = min (fd.getD t.1 0) (fd.getD t.2.1 0) := by
    rw [brg_at (j := jt t) (by show t.1 < _; omega) (by show t.2.1 < _; omega), if_pos (.inl rfl)]
  have v2 : (brg fd (jt t)).getD t.2.1 0 = min (fd.getD t.1 0) (fd.getD t.2.1 0) := by
    rw [brg_at (j := jt t) (by show t.1 < _; omega) (by show t.2.1 < _; omega), if_pos (.inr rfl)]
  unfold Hit at h ⊢
  omega
def rndT (l : List Tie) (fd : List Nat) : List Nat := l.foldl (fun fd t => brg fd (jt t)) fd
theorem rndT_ok {m : Nat} {ts : List Tie} (hw : ∀ t ∈ ts, TieOk m t) : ∀ (l : List Tie) (fd : List Nat), (∀ t ∈ l, t ∈ ts) → Ds m ts fd →
    Ds m ts (rndT l fd) ∧ (∀ p, p < m → Hit ts fd p → Hit ts (rndT l fd) p) ∧ ∀ t ∈ l, (Hit ts fd t.1 ∨ Hit ts fd t.2.1) → Hit ts (rndT l fd) t.1 ∧ Hit ts (rndT l fd) t.2.1
  | [], fd, _, d => ⟨d, fun _ _ h => h, nofun⟩
  | t :: r, fd, hl, d => by
    have ht := hl t (by simp)
    have d1 := d.brg ht (hw t ht)
    obtain ⟨d2, m2, p2⟩ := rndT_ok hw r (brg fd (jt t)) (fun u hu => hl u (by simp [hu])) d1
    have h2 := (hw t ht).lm
    have h1 : t.1 < m := Nat.lt_trans (hw t ht).lt h2
    refine ⟨d2, fun p hp h => m2 p hp (hit_mono d ht (hw t ht) hp h), fun u hu h => ?_⟩
    rcases List.mem_cons.mp hu with rfl | hu
    · obtain ⟨a, b⟩ := hit_pair d ht (hw _ ht) h
      exact ⟨m2 _ h1 a, m2 _ h2 b⟩
    · have hu2 := hl u (by simp [hu])
      have l2 := (hw u hu2).lm
      have l1 : u.1 < m := Nat.lt_trans (hw u hu2).lt l2
      exact p2 u hu (h.imp (hit_mono d ht (hw t ht) l1) (hit_mono d ht (hw t ht) l2))
theorem countP_lt {α : Type} {p q : α → Bool} : ∀ {l : List α}, (∀ x ∈ l, p x = true → q x = true) → (∃ x ∈ l, q x = true ∧ p x = false) → l.countP p < l.countP q
  | [], _, h => by obtain ⟨x, hx, _⟩ := h; cases hx
  | a :: r, hm, h => by
    have hm2 : ∀ x ∈ r, p x = true → q x = true := fun x hx => hm x (by simp [hx])
    have le : r.countP p ≤ r.countP q := List.countP_mono_left hm2
    rw [List.countP_cons, List.countP_cons]
    obtain ⟨x, hx, h1, h2⟩ := h
    rcases List.mem_cons.mp hx with rfl | hx
    · rw [h1, h2]
      simp
      omega
    · have := countP_lt hm2 ⟨x, hx, h1, h2⟩
      have ha := hm a (by simp)
      cases pa : p a with
      | false => simp; omega
      | true => rw [ha pa]; simp; omega
noncomputable def hitB (ts : List Tie) (fd : List Nat) (p : Nat) : Bool := decide (fd.getD p 0 = lst ts p)
/-- a round brings one more to its least point, or all stand there -/
theorem rnd_more {m : Nat} {ts : List Tie} (hw : ∀ t ∈ ts, TieOk m t) {fd : List Nat} (d : Ds m ts fd) (h : ¬ ∀ p, p < m → Hit ts fd p) : (List.range m).countP (hitB ts fd) < (List.range m).countP (hitB ts (rndT ts fd)) := by
  obtain ⟨d2, m2, p2⟩ := rndT_ok hw ts fd (fun _ h => h) d
  have ex : ∃ p, p < m ∧ ¬ Hit ts fd p := by
    apply Classical.byContradiction
    intro z
    exact h fun p hp => Classical.byContradiction fun y => z ⟨p, hp, y⟩
  obtain ⟨p, hp, np⟩ := ex
  have fm : lst ts p < m := Nat.lt_of_le_of_lt (lst_le (.refl p)) hp
  have hf : Hit ts fd (lst ts p) := by
    have e := lst_eq (lst_sm ts p)
    have a := d.le _ fm
    have b := d.ge fm
    unfold Hit
    omega
  have ex2 : ∃ t ∈ ts, ¬ (hitB ts fd t.1 = hitB ts fd t.2.1) := by
    apply Classical.byContradiction
    intro z
    have k : ∀ t ∈ ts, (if hitB ts fd t.1 then 0 else 1) = (if hitB ts fd t.2.1 then 0 else 1) := fun t ht => by
      have : hitB ts fd t.1 = hitB ts fd t.2.1 := Classical.byContradiction fun y => z ⟨t, ht, y⟩
      rw [this]
    have := lst_sm ts p (fun x => if hitB ts fd x then 0 else 1) k
    have e1 : hitB ts fd p = false := decide_eq_false np
    have e2 : hitB ts fd (lst ts p) = true := decide_eq_true hf
    simp only [e1, e2] at this
    cases this
  obtain ⟨t, ht, ne⟩ := ex2
  have l2 := (hw t ht).lm
  have l1 : t.1 < m := Nat.lt_trans (hw t ht).lt l2
  have one : Hit ts fd t.1 ∨ Hit ts fd t.2.1 := by
    by_cases z : Hit ts fd t.1
    · exact .inl z
    · refine .inr (Classical.byContradiction fun y => ne ?_)
      rw [show hitB ts fd t.1 = false from decide_eq_false z, show hitB ts fd t.2.1 = false from decide_eq_false y]
  obtain ⟨a, b⟩ := p2 t ht one
  refine countP_lt (fun x hx q => decide_eq_true (p := (rndT ts fd).getD x 0 = lst ts x) (m2 x (List.mem_range.mp hx) (of_decide_eq_true (p := fd.getD x 0 = lst ts x) q))) ?_
  by_cases z : Hit ts fd t.1
  · have y : ¬ Hit ts fd t.2.1 := fun y => ne (by rw [show hitB ts fd t.1 = true from decide_eq_true z, show hitB ts fd t.2.1 = true from decide_eq_true y])
    exact ⟨t.2.1, List.mem_range.mpr l2, decide_eq_true b, decide_eq_false y⟩
  · exact ⟨t.1, List.mem_range.mpr l1, decide_eq_true a, decide_eq_false z⟩
def rnds (ts : List Tie) (m : Nat) : Nat → List Nat
  | 0 => List.range m
  | k + 1 => rndT ts (rnds ts m k)
theorem rnds_ds {m : Nat} {ts : List Tie} (hw : ∀ t ∈ ts, TieOk m t) : ∀ k, Ds m ts (rnds ts m k)
  | 0 => by
    have rg : ∀ x, x < m → (List.range m).getD x 0 = x := fun x hx => by simp [List.getD, hx]
    exact ⟨by simp [rnds], fun p hp => by show (List.range m).getD p 0 ≤ p; rw [rg p hp]; exact Nat.le_refl _, fun p hp => by show Sm ts p ((List.range m).getD p 0); rw [rg p hp]; exact .refl p⟩
  | k + 1 => (rndT_ok hw ts _ (fun _ h => h) (rnds_ds hw k)).1
theorem rnds_count {m : Nat} {ts : List Tie} (hw : ∀ t ∈ ts, TieOk m t) (m1 : 1 ≤ m) : ∀ k, (∀ p, p < m → Hit ts (rnds ts m k) p) ∨ k + 1 ≤ (List.range m).countP (hitB ts (rnds ts m k))
  | 0 => .inr (List.countP_pos_iff.mpr ⟨0, List.mem_range.mpr m1, by
      have d := rnds_ds hw (m := m) 0
      have a := d.le 0 m1
      have b := d.ge (p := 0) m1
      exact decide_eq_true (by omega)⟩)
  | k + 1 => by
    by_cases z : ∀ p, p < m → Hit ts (rnds ts m k) p
    · exact .inl fun p hp => (rndT_ok hw ts _ (fun _ h => h) (rnds_ds hw k)).2.1 p hp (z p hp)
    · rcases rnds_count hw m1 k with h | h
      · exact absurd h z
      · have := rnd_more hw (rnds_ds hw k) z
        right
        show k + 1 + 1 ≤ (List.range m).countP (hitB ts (rndT ts (rnds ts m k)))
        omega
theorem rnds_all {m : Nat} {ts : List Tie} (hw : ∀ t ∈ ts, TieOk m t) (m1 : 1 ≤ m) {x y : Nat} (hx : x < m) (hy : y < m) : (rnds ts m m).getD x 0 = (rnds ts m m).getD y 0 ↔ Sm ts x y := by
  have d := rnds_ds hw (m := m) m
  have all : ∀ p, p < m → Hit ts (rnds ts m m) p := by
    rcases rnds_count hw m1 m with h | h
    · exact h
    · have := List.countP_le_length (p := hitB ts (rnds ts m m)) (l := List.range m)
      rw [List.length_range] at this
      omega
  constructor
  · intro e
    have s1 := d.sm x hx
    have s2 := d.sm y hy
    rw [e] at s1
    exact s1.trans s2.symm
  · intro s
    have a := all x hx
    have b := all y hy
    unfold Hit at a b
    rw [a, b, lst_eq s]
/-! ### flat, by counting -/
def hdF (f : List Drt) : Nat := (f.headD (0, 0)).1
def flatQ (e : Nat → Nat → Bool) (m : Nat) (ts : List Tie) (F : List (List Drt)) : Bool := ts.all fun t => decide ((List.range m).countP (fun p => e t.1 p) + F.countP (fun f => e t.1 (hdF f)) = ts.countP (fun u => e t.1 u.1) + 2)
noncomputable def smB (ts : List Tie) (x y : Nat) : Bool := @decide (Sm ts x y) (Classical.propDecidable _)
noncomputable def flatS (m : Nat) (ts : List Tie) (F : List (List Drt)) : Bool := flatQ (smB ts) m ts F
theorem flat_same {m : Nat} {ts : List Tie} {F : List (List Drt)} {e : Nat → Nat → Bool} (hw : ∀ t ∈ ts, TieOk m t) (hF : ∀ f ∈ F, hdF f < m) (h : ∀ x y, x < m → y < m → (e x y = true ↔ Sm ts x y)) : flatQ e m ts F = flatS m ts F := by
  have h2 : ∀ x y, x < m → y < m → e x y = smB ts x y := fun x y hx hy => by
    have := h x y hx hy
    unfold smB
    by_cases z : Sm ts x y
    · rw [this.mpr z]
      exact (@decide_eq_true _ (Classical.propDecidable _) z).symm
    · rw [@decide_eq_false _ (Classical.propDecidable _) z]
      cases q : e x y with
      | true => exact absurd (this.mp q) z
      | false => rfl
  unfold flatS flatQ
  have lt : ∀ t ∈ ts, t.1 < m := fun t ht => Nat.lt_trans (hw t ht).lt (hw t ht).lm
  have all : ∀ t ∈ ts, (decide ((List.range m).countP (fun p => e t.1 p) + F.countP (fun f => e t.1 (hdF f)) = ts.countP (fun u => e t.1 u.1) + 2)) = decide ((List.range m).countP (fun p => smB ts t.1 p) + F.countP (fun f => smB ts t.1 (hdF f)) = ts.countP (fun u => smB ts t.1 u.1) + 2) := fun t ht => by
    have e1 : (List.range m).countP (fun p => e t.1 p) = (List.range m).countP (fun p => smB ts t.1 p) := List.countP_congr fun p hp => by rw [h2 _ _ (lt t ht) (List.mem_range.mp hp)]
    have e2 : F.countP (fun f => e t.1 (hdF f)) = F.countP (fun f => smB ts t.1 (hdF f)) := List.countP_congr fun f hf => by rw [h2 _ _ (lt t ht) (hF f hf)]
    have e3 : ts.countP (fun u => e t.1 u.1) = ts.countP (fun u => smB ts t.1 u.1) := List.countP_congr fun u hu => by rw [h2 _ _ (lt t ht) (lt u hu)]
    rw [e1, e2, e3]
  rw [Bool.eq_iff_iff, List.all_eq_true, List.all_eq_true]
  exact ⟨fun k t ht => by rw [← all t ht]; exact k t ht, fun k t ht => by rw [all t ht]; exact k t ht⟩
theorem cnt_map {α : Type} (l : List α) (f : α → Nat) (a : Nat) : (l.map fun x => ((f x : Nat) : Int)).count (a : Int) = l.countP fun x => decide (f x = a) := by
  rw [List.count, List.countP_map]
  refine List.countP_congr fun x _ => ?_
  show ((f x : Int) == (a : Int)) = true ↔ _
  rw [beq_iff_eq, decide_eq_true_iff]
  omega
theorem gs_range {gs : List Nat} {m : Nat} (h : gs.length = m) : gs = (List.range m).map fun p => gs.getD p 0 := by
  refine List.ext_getElem? fun i => ?_
  by_cases hi : i < m
  · rw [List.getElem?_map, List.getElem?_range hi, List.getElem?_eq_getElem (by omega)]
    simp [List.getD, h, hi]
  · rw [List.getElem?_eq_none (by omega), List.getElem?_eq_none (by rw [List.length_map, List.length_range]; omega)]

theorem e_cntI {K : PySem.W.Frag} {ds : List SD} {ms : List MD} {R : RS} {i : Nat} {ns : List Int} (h : ds[i]? = some (tiS ns)) (r : R (tiS ns) ms) : E K (tVar i) ds ms R := e_varw h r
theorem no_ring {ts : List Tie} {ns : List Nat} (h : RingOk (jnT ts) ns) : False := by
  have o := h.odd
  have z : apN (jnT ts) ns = 0 := by
    unfold apN
    have all : ∀ k ∈ ns, aF (jnT ts) k = 0 := fun k hk => by
      have lt := h.lt k hk
      unfold aF
      have e : (jnT ts)[k]? = some (jt (ts[k]'(by unfold jnT at lt; rwa [List.length_map] at lt))) := by
        unfold jnT
        rw [List.getElem?_map, List.getElem?_eq_getElem]
        rfl
      rw [e]
    have key : ∀ l : List Nat, (∀ k ∈ l, aF (jnT ts) k = 0) → (l.map (aF (jnT ts))).sum = 0 := fun l => by
      induction l with
      | nil => intro _; rfl
      | cons k r ih =>
        intro hk
        rw [List.map_cons, List.sum_cons, hk k (by simp), ih fun x hx => hk x (by simp [hx])]
    exact key ns all
  rw [z] at o
  cases o
def Φ_part_of_points : Ph := ph1 fun a ms R => ∃ (m : Nat) (ts : List Tie), a = .d (encW m ts) ∧ WebOk m ts ∧ ∀ gs : List Nat, gs.length = m → (∀ x y, x < m → y < m → (gs.getD x 0 = gs.getD y 0 ↔ Sm ts x y)) → R (tiS (gs.map fun (x : Nat) => (x : Int))) ms
theorem len_part_of_points : ∀ as ms R, Φ_part_of_points as ms R → as.length = 1 := ph1_len
theorem rd_part_of_points {K : PySem.W.Frag} : ∀ as ms R, Φ_part_of_points as ms R → S K (t_part_of_points K Φ_parted) (as ++ List.replicate (7 - as.length) .u) ms (fin R) := by
  rintro as ms R ⟨a, rfl, m, ts, rfl, hw, r⟩
  have hl := hw.len
  unfold t_part_of_points
  refine s_seq (s_get3 (z := "groups") (e_call (ea_cons (e_op (e_var rfl (e_int (rr_ix ⟨_, _, _, .inr (.d _), rfl, atI_nat (j := 0) rfl, ?_⟩)))))))
  refine ea_cons (e_lcT (js := [4, 5, 6]) (by simp) (e_op (e_var rfl (e_int (rr_ix ⟨_, _, _, .inr (.d _), rfl, atI_nat (j := 1) rfl, ?_⟩)))))
  refine ⟨_, rfl, by rw [List.length_map]; omega, fun i acc ms' => acc = (jnT (ts.take i)).map encJ ∧ ms' = ms, ⟨rfl, rfl⟩, ?_, ?_⟩
  · rintro i e acc ms' he ⟨rfl, rfl⟩
    rw [List.getElem?_map] at he
    cases q : ts[i]? with
    | none => rw [q] at he; cases he
    | some t =>
      rw [q] at he
      cases he
      refine eg_tup rfl (egs_cons (eg_name (egs_cons (eg_name (egs_cons (eg_name (egs_nil ?_)))))))
      refine et_yes ⟨fun _ => e_tup (ea_cons (e_var rfl (ea_cons (e_var rfl (ea_cons (e_int (ea_nil ⟨[_, _, _], rfl, Nat.le_of_ble_eq_true rfl, ?_⟩))))))), nofun⟩
      refine ⟨_, rfl, ?_, rfl⟩
      unfold jnT
      rw [take_snoc q, List.map_append, List.map_append]
      rfl
  rintro acc ms' ⟨rfl, rfl⟩
  rw [List.length_map, List.take_length]
  have jk : JOk m (jnT ts) := ⟨hw.m60, by unfold jnT; rw [List.length_map]; omega, jn_ok hw.all⟩
  refine ea_nil ⟨_, _, rfl, m, jnT ts, rfl, rfl, jk, fun ns h => (no_ring h).elim, fun fs rs G C s hall hfit => ⟨_, _, rfl, ?_⟩⟩
  have gr := gr_of jk s hall hfit
  have rr := r ((List.range m).map G) (by simp) fun x y hx hy => gr_sm hw.all gr hx hy
  have e : ((List.range m).map G).map (fun (x : Nat) => (x : Int)) = (List.range m).map fun p => (G p : Int) := by
    rw [List.map_map]
    rfl
  rw [e] at rr
  exact s_ret (e_varw rfl rr)

theorem e_lcTn {K : PySem.W.Frag} {ds : List SD} {ms : List MD} {R : RS} {g : TG} {tl te : TE} {tt : TT} {js vs : List Nat} (hj : ∀ j ∈ js, j ∈ vs) (h : E K tl ds ms fun s ms0 => ∃ es, s = .d (.tuple es) ∧ es.length ≤ 10000 ∧ ∃ Pv : Nat → List PyData → List MD → Prop, Pv 0 [] ms0 ∧
      (∀ i e acc ms1, es[i]? = some e → Pv i acc ms1 → Lt K g js tt te vs ds (.d e) ms1 acc (Pv (i + 1))) ∧ ∀ acc ms1, Pv es.length acc ms1 → R (.f acc) ms1) : E K (tLc (iTup K tl) g tt te vs) ds ms R := e_lcT hj h
theorem at_nI {gs : List Nat} {p : Nat} (h : p < gs.length) : atI ((gs.map fun (x : Nat) => (x : Int)).map PyData.int) ((p : Nat) : Int) = some (.int ((gs.getD p 0 : Nat) : Int)) := atI_nat (by
  rw [List.getElem?_map, List.getElem?_map, List.getElem?_eq_getElem h]
  simp [List.getD, h])
/-- faces: none empty, their points the web's -/
def FlOk (m : Nat) (F : List (List Drt)) : Prop := ∀ f ∈ F, f ≠ [] ∧ hdF f < m
theorem face_at0 {f : List Drt} (h : f ≠ []) : ∃ b r, f = (hdF f, b) :: r := by
  cases f with
  | nil => exact absurd rfl h
  | cons d r => exact ⟨d.2, r, rfl⟩
def Φ_is_flat : Ph := ph2 fun a b ms R => ∃ (m : Nat) (ts : List Tie) (F : List (List Drt)), a = .d (encW m ts) ∧ b = .d (.tuple (F.map faceD)) ∧ WebOk m ts ∧ F.length ≤ 200 ∧ FlOk m F ∧ R (.d (.bool (flatS m ts F))) ms
theorem len_is_flat : ∀ as ms R, Φ_is_flat as ms R → as.length = 2 := ph2_len
theorem rd_is_flat {K : PySem.W.Frag} : ∀ as ms R, Φ_is_flat as ms R → S K (t_is_flat K Φ_part_of_points) (as ++ List.replicate (10 - as.length) .u) ms (fin R) := by
  rintro as ms R ⟨a, b, rfl, m, ts, F, rfl, rfl, hw, fl, fo, r⟩
  have hl := hw.len
  have lt : ∀ t ∈ ts, t.1 < m := fun t ht => Nat.lt_trans (hw.all t ht).lt (hw.all t ht).lm
  unfold t_is_flat
  refine s_seq (s_asg (e_call (ea_cons (e_var rfl (ea_nil ⟨_, rfl, m, ts, rfl, hw, fun gs gl rel => ?_⟩)))))
  have same : flatQ (fun x y => decide (gs.getD y 0 = gs.getD x 0)) m ts F = flatS m ts F := flat_same hw.all (fun f hf => (fo f hf).2) fun x y hx hy => by
    rw [decide_eq_true_iff]
    exact ⟨fun h => (rel x y hx hy).mp h.symm, fun h => ((rel x y hx hy).mpr h).symm⟩
  refine s_seq (s_asg (e_lcT (js := [4, 5, 6]) (by simp) (e_op (e_var rfl (e_int (rr_ix ⟨_, _, _, .inr (.d _), rfl, atI_nat (j := 1) rfl, ?_⟩))))))
  refine ⟨_, rfl, by rw [List.length_map]; omega, fun i acc ms' => acc = (((ts.take i).map fun t => gs.getD t.1 0).map fun (x : Nat) => (x : Int)).map PyData.int ∧ ms = ms', ⟨rfl, rfl⟩, ?_, ?_⟩
  · rintro i e acc ms' he ⟨rfl, rfl⟩
    rw [List.getElem?_map] at he
    cases q : ts[i]? with
    | none => rw [q] at he; cases he
    | some t =>
      rw [q] at he
      cases he
      have tl := lt t (List.mem_of_getElem? q)
      refine eg_tup rfl (egs_cons (eg_name (egs_cons (eg_name (egs_cons (eg_name (egs_nil ?_)))))))
      refine et_yes ⟨fun _ => e_op (e_varw rfl (e_var rfl (rr_ixI ⟨_, _, _, rfl, rfl, at_nI (by omega), _, rfl, ?_, rfl⟩))), nofun⟩
      rw [take_snoc q, List.map_append, List.map_append, List.map_append]
      rfl
  rintro acc ms' ⟨rfl, rfl⟩
  rw [List.length_map, List.take_length]
  refine s_seq (s_asg (e_lcT (js := [8]) (by simp) (e_var rfl ⟨_, rfl, by rw [List.length_map]; omega, fun i acc ms' => acc = (((F.take i).map fun f => gs.getD (hdF f) 0).map fun (x : Nat) => (x : Int)).map PyData.int ∧ ms = ms', ⟨rfl, rfl⟩, ?_, ?_⟩)))
  · rintro i e acc ms' he ⟨rfl, rfl⟩
    rw [List.getElem?_map] at he
    cases q : F[i]? with
    | none => rw [q] at he; cases he
    | some f =>
      rw [q] at he
      cases he
      obtain ⟨fne, fm⟩ := fo f (List.mem_of_getElem? q)
      obtain ⟨y, rst, ef⟩ := face_at0 fne
      have e0 : (f.map drI)[0]? = some (drI (hdF f, y)) := by
        conv => lhs; rw [ef]
        rfl
      refine eg_name (et_yes ⟨fun _ => e_op (e_varw rfl (e_op (e_op (e_var rfl (e_int (rr_ix ⟨_, _, _, .inr (.d _), rfl, atI_nat (j := 0) e0, ?_⟩)))))), nofun⟩)
      refine e_int (rr_ix ⟨_, _, _, .inr (.d _), rfl, atI_nat (j := 0) rfl, ?_⟩)
      refine rr_ixI ⟨_, _, _, rfl, rfl, at_nI (by omega), _, rfl, ?_, rfl⟩
      rw [take_snoc q, List.map_append, List.map_append, List.map_append]
      rfl
  rintro acc ms' ⟨rfl, rfl⟩
  rw [List.length_map, List.take_length]
  refine s_seq (s_forL (js := [9]) (e_var rfl ⟨_, .d _, fun i ds' ms' => ∃ o9 : SD, ((ts.take i).all fun t => decide ((List.range m).countP (fun p => decide (gs.getD p 0 = gs.getD t.1 0)) + F.countP (fun f => decide (gs.getD (hdF f) 0 = gs.getD t.1 0)) = ts.countP (fun u => decide (gs.getD u.1 0 = gs.getD t.1 0)) + 2)) = true ∧
    ds' = [.d (encW m ts), .d (.tuple (F.map faceD)), tiS (gs.map fun (x : Nat) => (x : Int)), .d (.list (((ts.map fun t => gs.getD t.1 0).map fun (x : Nat) => (x : Int)).map PyData.int)), .u, .u, .u, .d (.list (((F.map fun f => gs.getD (hdF f) 0).map fun (x : Nat) => (x : Int)).map PyData.int)), .u, o9] ∧ ms = ms', ⟨_, rfl, rfl, rfl⟩, ?_, ?_⟩))
  · rintro i e ds' ms' he ⟨o9, ok, rfl, rfl⟩
    rw [List.getElem?_map, List.getElem?_map, List.getElem?_map] at he
    cases q : ts[i]? with
    | none => rw [q] at he; cases he
    | some t =>
      rw [q] at he
      cases he
      have tm := List.mem_of_getElem? q
      refine eg_name (s_if (et_test (e_op (e_op (e_tcnt (e_varw rfl ⟨_, rfl, e_var rfl ⟨_, rfl, ?_⟩⟩))))))
      refine e_count (e_var rfl ⟨_, .d _, e_var rfl ⟨_, rfl, rfl, rr_I0 ⟨_, _, rfl, rfl, ?_⟩⟩⟩)
      refine e_op (e_count (e_var rfl ⟨_, .d _, e_var rfl ⟨_, rfl, rfl, e_int (rr_I0 ⟨_, _, rfl, rfl, rr_ne ⟨_, _, .d _, .d _, shaped_int _, shaped_int _, ?_⟩⟩)⟩⟩))
      have c1 : (gs.map fun (x : Nat) => (x : Int)).count ((gs.getD t.1 0 : Nat) : Int) = (List.range m).countP fun p => decide (gs.getD p 0 = gs.getD t.1 0) := by
        conv => lhs; rw [gs_range gl, List.map_map]
        rw [← cnt_map]
        have e : gs.getD t.1 0 = ((List.range m).map fun p => gs.getD p 0).getD t.1 0 := by rw [← gs_range gl]
        rw [← e]
        rfl
      have c2 : ((F.map fun f => gs.getD (hdF f) 0).map fun (x : Nat) => (x : Int)).count ((gs.getD t.1 0 : Nat) : Int) = F.countP fun f => decide (gs.getD (hdF f) 0 = gs.getD t.1 0) := by
        rw [List.map_map, ← cnt_map]
        rfl
      have c3 : ((ts.map fun t => gs.getD t.1 0).map fun (x : Nat) => (x : Int)).count ((gs.getD t.1 0 : Nat) : Int) = ts.countP fun u => decide (gs.getD u.1 0 = gs.getD t.1 0) := by
        rw [List.map_map, ← cnt_map]
        rfl
      rw [c1, c2, c3, eqv_int]
      refine ⟨_, rfl, fun z => ?_, fun z => ?_⟩
      · have no : flatQ (fun x y => decide (gs.getD y 0 = gs.getD x 0)) m ts F = false := by
          unfold flatQ
          refine Bool.eq_false_iff.mpr fun w => ?_
          have k : (List.range m).countP (fun p => decide (gs.getD p 0 = gs.getD t.1 0)) + F.countP (fun f => decide (gs.getD (hdF f) 0 = gs.getD t.1 0)) = ts.countP (fun u => decide (gs.getD u.1 0 = gs.getD t.1 0)) + 2 := of_decide_eq_true (List.all_eq_true.mp w t tm)
          simp only [Bool.not_eq_true', decide_eq_false_iff_not] at z
          generalize (List.range m).countP (fun p => decide (gs.getD p 0 = gs.getD t.1 0)) = A at k z
          generalize F.countP (fun f => decide (gs.getD (hdF f) 0 = gs.getD t.1 0)) = B at k z
          generalize ts.countP (fun u => decide (gs.getD u.1 0 = gs.getD t.1 0)) = C at k z
          omega
        rw [← same, no] at r
        exact s_ret (e_bl r)
      · refine s_next ⟨_, ?_, rfl, rfl⟩
        rw [take_snoc q, List.all_append, ok]
        simp only [Bool.not_eq_false', decide_eq_true_eq] at z
        have k : (List.range m).countP (fun p => decide (gs.getD p 0 = gs.getD t.1 0)) + F.countP (fun f => decide (gs.getD (hdF f) 0 = gs.getD t.1 0)) = ts.countP (fun u => decide (gs.getD u.1 0 = gs.getD t.1 0)) + 2 := by
          generalize (List.range m).countP (fun p => decide (gs.getD p 0 = gs.getD t.1 0)) = A at z ⊢
          generalize F.countP (fun f => decide (gs.getD (hdF f) 0 = gs.getD t.1 0)) = B at z ⊢
          generalize ts.countP (fun u => decide (gs.getD u.1 0 = gs.getD t.1 0)) = C at z ⊢
          omega
        show (true && (decide ((List.range m).countP (fun p => decide (gs.getD p 0 = gs.getD t.1 0)) + F.countP (fun f => decide (gs.getD (hdF f) 0 = gs.getD t.1 0)) = ts.countP (fun u => decide (gs.getD u.1 0 = gs.getD t.1 0)) + 2) && true)) = true
        rw [decide_eq_true k]
        rfl
  rintro ds' ms' ⟨o9, ok, rfl, rfl⟩
  rw [List.length_map, List.length_map, List.length_map, List.take_length] at ok
  have yes : flatQ (fun x y => decide (gs.getD y 0 = gs.getD x 0)) m ts F = true := ok
  rw [← same, yes] at r
  exact s_ret (e_bl r)

/-! `if not f(..):` where the call, or its arguments, may raise -/
section
variable {K : PySem.W.Frag} {ue : XK → TE} {ds : List SD} {ms : List MD} {P : Po} {Y : Addr → List MD → Prop}
theorem sy_ifNB {t u : XK → TS} (h : EX K ue ds ms (fun s ms1 => ∃ b, s = .d (.bool b) ∧ (b = false → SY K t ds ms1 P Y) ∧ (b = true → SY K u ds ms1 P Y)) Y) : SY K (fun X => tIfS (tNot (L2.tB (ue X))) (t X) (u X)) ds ms P Y := fun L M σ H hS hA D X n r b c x =>
  h L M σ H hS hA X x _ fun s v H1 ms1 w o ⟨k, e, h1, h2⟩ => by
    subst e
    obtain ⟨a, z⟩ := o
    cases z
    refine ⟨k, rfl, ?_⟩
    cases k with
    | false => exact h1 rfl L M σ H1 (hS.mono hA w) a D X (n.on w) (r.on a w) (b.on w) (c.on w) (x.on w)
    | true => exact h2 rfl L M σ H1 (hS.mono hA w) a D X (n.on w) (r.on a w) (b.on w) (c.on w) (x.on w)
end
theorem facesL_ok {m : Nat} {ts : List Tie} {tt : List (List Nat)} (hw : ∀ t ∈ ts, TieOk m t) (ha : Apart ts) (h : TurnOk m ts tt) : (facesL tt).flatten.Nodup ∧ ∀ d, d ∈ (facesL tt).flatten ↔ d ∈ drts tt := by
  obtain ⟨f, g⟩ := faces_ok (h.beh hw ha) (l := srtDr (drts tt)) fun d => srtDr_mem
  refine ⟨?_, g⟩
  have := f.nd
  rw [f.flat] at this
  exact this
theorem fold_ne {m : List (List Key × PyData)} {D : List Drt} {β : Drt → Drt} (b : BehOk m D β) : ∀ (l : List Drt) (s : List (List Drt) × List Drt), (∀ d ∈ l, d ∈ D) → (∀ f ∈ s.1, f ≠ []) → ∀ f ∈ (l.foldl (stepF β) s).1, f ≠ []
  | [], s, _, h => h
  | d :: r, s, hl, h => by
    refine fold_ne b r _ (fun x hx => hl x (by simp [hx])) ?_
    unfold stepF
    split
    · exact h
    · intro f hf
      rcases List.mem_append.mp hf with hf | hf
      · exact h f hf
      · rw [List.mem_singleton.mp hf]
        have p := (per_of b (hl d (by simp))).1
        intro e
        have := congrArg List.length e
        unfold orbD at this
        rw [List.length_map, List.length_range] at this
        simp at this
        omega
theorem faces_okF {m : Nat} {ts : List Tie} {tt : List (List Nat)} (hw : ∀ t ∈ ts, TieOk m t) (ha : Apart ts) (h : TurnOk m ts tt) (hs : (tt.map (·.length)).sum ≤ 62) : (facesL tt).length ≤ 200 ∧ FlOk m (facesL tt) := by
  obtain ⟨nd, all⟩ := facesL_ok hw ha h
  have dl : (drts tt).length ≤ 62 := by
    unfold drts
    rw [List.length_map, entL_len tt _ (Nat.le_refl _), List.take_length]
    exact hs
  have e1 : (srtDr (drts tt)).length = (drts tt).length := (List.mergeSort_perm ..).length_eq
  refine ⟨Nat.le_trans (facesS_len _ _) (by rw [e1]; omega), fun f hf => ?_⟩
  have ne : f ≠ [] := fold_ne (h.beh hw ha) (srtDr (drts tt)) ([], []) (fun d hd => srtDr_mem.mp hd) nofun f hf
  refine ⟨ne, ?_⟩
  cases f with
  | nil => exact absurd rfl ne
  | cons d r =>
    have hd : d ∈ drts tt := (all d).mp (List.mem_flatten.mpr ⟨_, hf, by simp⟩)
    have hd2 := (drW_perm hw ha h).1.mem_iff.mpr hd
    show d.1 < m
    unfold drW at hd2
    rcases List.mem_append.mp hd2 with z | z
    · obtain ⟨t, ht, rfl⟩ := List.mem_map.mp z
      exact Nat.lt_trans (hw t ht).lt (hw t ht).lm
    · obtain ⟨t, ht, rfl⟩ := List.mem_map.mp z
      exact (hw t ht).lm
def Φ_flat_web (C_CutError C_NoWeb C_NoTurns C_NotFlat C_NoPaper C_TooGreat : Addr) : PhY := phy2 fun a b ms R Y => ∃ (m : Nat) (ts : List Tie) (x : PyData), a = .d (encW m ts) ∧ b = .d x ∧ WebOk m ts ∧ RowsT x ∧
  ((turnsB m ts x = false ∧ Y C_NoTurns ms) ∨ ∃ tt, x = .tuple (tt.map rwN) ∧ Apart ts ∧ TurnOk m ts tt ∧ (tt.map (·.length)).sum ≤ 62 ∧ (flatS m ts (facesL tt) = false → Y C_NotFlat ms) ∧ (flatS m ts (facesL tt) = true → R (.d (.tuple [encW m ts, .tuple (tt.map rwN)])) ms))
theorem len_flat_web {C_CutError C_NoWeb C_NoTurns C_NotFlat C_NoPaper C_TooGreat : Addr} : ∀ as ms R Y, Φ_flat_web C_CutError C_NoWeb C_NoTurns C_NotFlat C_NoPaper C_TooGreat as ms R Y → as.length = 2 := phy2_len
theorem rd_flat_web {K : PySem.W.Frag} {C_CutError C_NoWeb C_NoTurns C_NotFlat C_NoPaper C_TooGreat : Addr} : ∀ as ms R Y, Φ_flat_web C_CutError C_NoWeb C_NoTurns C_NotFlat C_NoPaper C_TooGreat as ms R Y → SY K (t_flat_web K C_CutError C_NoWeb C_NoTurns C_NotFlat C_NoPaper C_TooGreat Φ_is_flat Φ_faces_of) (as ++ List.replicate (2 - as.length) .u) ms (fin R) Y := by
  rintro as ms R Y ⟨a, b, rfl, m, ts, x, rfl, rfl, hw, ht, h⟩
  unfold t_flat_web
  rcases h with ⟨no, y⟩ | ⟨tt, rfl, ap, tk, hs, yN, r⟩
  · exact sy_seq (sy_ifNB (ex_call (eax_cons (ex_of (e_var rfl (eax_cons (ex_callX (eax_cons (ex_of (e_var rfl (eax_cons (ex_of (e_var rfl (eax_nil ⟨_, _, rfl, m, ts, x, rfl, rfl, hw, ht, .inl ⟨no, y⟩⟩))))))))))))) )
  · obtain ⟨fl, fo⟩ := faces_okF hw.all ap tk hs
    refine sy_seq (sy_ifNB (ex_call (eax_cons (ex_of (e_var rfl (eax_cons (ex_callX (eax_cons (ex_of (e_var rfl (eax_cons (ex_of (e_var rfl (eax_nil ⟨_, _, rfl, m, ts, _, rfl, rfl, hw, ht, .inr ⟨tt, rfl, ap, tk, hs, ?_⟩⟩))))))))))))) )
    refine eax_nil ⟨_, _, rfl, m, ts, facesL tt, rfl, rfl, hw, fl, fo, _, rfl, fun z => sy_raise (yN z), fun z => sy_of (s_next (sy_of (s_ret ?_)))⟩
    exact e_tup (ea_cons (e_var rfl (ea_cons (e_var rfl (ea_nil ⟨[_, _], rfl, Nat.le_of_ble_eq_true rfl, r z⟩)))))

def Φ__law_parts : Ph := ph1 fun a ms R => ∃ (m : Nat) (ts : List Tie), a = .d (encW m ts) ∧ WebOk m ts ∧ R (.f (nI (rnds ts m m))) ms
theorem len__law_parts : ∀ as ms R, Φ__law_parts as ms R → as.length = 1 := ph1_len
theorem rd__law_parts {K : PySem.W.Frag} : ∀ as ms R, Φ__law_parts as ms R → S K (t__law_parts K) (as ++ List.replicate (7 - as.length) .u) ms (fin R) := by
  rintro as ms R ⟨a, rfl, m, ts, rfl, hw, r⟩
  have m60 := hw.m60
  have la : ∀ A : MD, (ms ++ [A])[ms.length]? = some A := fun A => get1 ms A
  have sa : ∀ A B : MD, (ms ++ [A]).set ms.length B = ms ++ [B] := fun A B => set1 ms A B
  unfold t__law_parts
  refine s_new (e_lrg (e_op (e_var rfl (e_int (rr_ix ⟨_, _, _, .inr (.d _), rfl, atI_nat (j := 0) rfl, m, rfl, by omega, _, rfl, ?_⟩)))))
  refine s_seq (s_forR (js := [2]) (ea_cons (e_op (e_var rfl (e_int (rr_ix ⟨_, _, _, .inr (.d _), rfl, atI_nat (j := 0) rfl, ?_⟩))))))
  refine ea_nil ⟨_, rfl, by omega, fun k ds' ms' => ∃ o2 o3 o4 o5 o6 : SD, ds' = [.d (encW m ts), .m ms.length, o2, o3, o4, o5, o6] ∧ ms' = ms ++ [.l (nI (rnds ts m k))], ⟨_, _, _, _, _, rfl, rfl⟩, ?_, ?_⟩
  · rintro k ds' ms' hk ⟨o2, o3, o4, o5, o6, rfl, rfl⟩
    have d := rnds_ds hw.all k
    refine eg_name (s_forT (js := [3, 4, 5]) (e_op (e_var rfl (e_int (rr_ix ⟨_, _, _, .inr (.d _), rfl, atI_nat (j := 1) rfl, ?_⟩)))))
    refine ⟨_, rfl, fun i ds' ms' => ∃ o3 o4 o5 o6 : SD, ds' = [.d (encW m ts), .m ms.length, .d (.int (k : Nat)), o3, o4, o5, o6] ∧ ms' = ms ++ [.l (nI (rndT (ts.take i) (rnds ts m k)))], ⟨_, _, _, _, rfl, rfl⟩, ?_, ?_⟩
    · rintro i e ds' ms' he ⟨o3, o4, o5, o6, rfl, rfl⟩
      rw [List.getElem?_map] at he
      cases q : ts[i]? with
      | none => rw [q] at he; cases he
      | some t =>
        rw [q] at he
        cases he
        have tm := List.mem_of_getElem? q
        have h2 := (hw.all t tm).lm
        have h1 : t.1 < m := Nat.lt_trans (hw.all t tm).lt h2
        have nl := (rndT_ok hw.all (ts.take i) _ (fun u hu => List.mem_of_mem_take hu) d).1.len
        have tk : rndT (ts.take (i + 1)) (rnds ts m k) = brg (rndT (ts.take i) (rnds ts m k)) (jt t) := by
          unfold rndT
          rw [take_snoc q, List.foldl_append]
          rfl
        generalize rndT (ts.take i) (rnds ts m k) = N at nl tk ⊢
        refine eg_tup rfl (egs_cons (eg_name (egs_cons (eg_name (egs_cons (eg_name (egs_nil ?_)))))))
        refine s_seq (s_asg (e_cb (ea_cons (e_op (e_varm rfl (e_var rfl (rr_ix ⟨_, _, _, .inl (.m (la _)), rfl, atI_nat (natN_at (i := t.1) (by omega)), ?_⟩)))))))
        refine ea_cons (e_op (e_varm rfl (e_var rfl (rr_ix ⟨_, _, _, .inl (.m (la _)), rfl, atI_nat (natN_at (i := t.2.1) (by omega)), ea_nil (rc_min ⟨_, _, rfl, ?_⟩)⟩))))
        have em : (if ((N.getD t.2.1 0 : Nat) : Int) < ((N.getD t.1 0 : Nat) : Int) then ((N.getD t.2.1 0 : Nat) : Int) else ((N.getD t.1 0 : Nat) : Int)) = ((min (N.getD t.1 0) (N.getD t.2.1 0) : Nat) : Int) := by
          split <;> omega
        rw [em]
        refine s_seq (s_setL (e_var rfl ⟨_, rfl, e_varm rfl ⟨_, rfl, e_var rfl ⟨_, t.1, _, rfl, la _, ixN_nat (by rw [List.length_map]; omega), ?_⟩⟩⟩))
        rw [sa]
        refine s_setL (e_var rfl ⟨_, rfl, e_varm rfl ⟨_, rfl, e_var rfl ⟨_, t.2.1, _, rfl, la _, ixN_nat (by rw [List.length_set, List.length_map]; omega), ?_⟩⟩⟩)
        rw [sa]
        refine ⟨_, _, _, _, rfl, ?_⟩
        rw [tk]
        unfold K51.brg nI
        rw [List.map_set, List.map_set]
    · rintro ds' ms' ⟨o3, o4, o5, o6, rfl, rfl⟩
      rw [List.length_map, List.take_length]
      exact ⟨_, _, _, _, _, rfl, rfl⟩
  rintro ds' ms' ⟨o2, o3, o4, o5, o6, rfl, rfl⟩
  refine s_ret (e_varm rfl ⟨ms, _, rfl, rfl, ?_⟩)
  have e : frzR ms.length (nI (rnds ts m ((m : Nat) : Int).toNat)) (.m ms.length) = .f (nI (rnds ts m m)) := if_pos rfl
  show R _ _
  rw [e]
  exact r

def Φ__law_is_flat : Ph := ph2 fun a b ms R => ∃ (m : Nat) (ts : List Tie) (tt : List (List Nat)), a = .d (encW m ts) ∧ b = .d (.tuple (tt.map rwN)) ∧ WebOk m ts ∧ Apart ts ∧ TurnOk m ts tt ∧ ts.length ≤ 60 ∧ (tt.map (·.length)).sum ≤ 62 ∧ R (.d (.bool (flatS m ts (facesL tt)))) ms
theorem len__law_is_flat : ∀ as ms R, Φ__law_is_flat as ms R → as.length = 2 := ph2_len
theorem filt_snoc {α : Type} (p : α → Bool) {l : List α} {i : Nat} {x : α} (h : l[i]? = some x) : (l.take (i + 1)).filter p = (l.take i).filter p ++ if p x then [x] else [] := by
  rw [take_snoc h, List.filter_append, List.filter_cons, List.filter_nil]
theorem rd__law_is_flat {K : PySem.W.Frag} : ∀ as ms R, Φ__law_is_flat as ms R → S K (t__law_is_flat K Φ__law_parts Φ__law_faces) (as ++ List.replicate (10 - as.length) .u) ms (fin R) := by
  rintro as ms R ⟨a, b, rfl, m, ts, tt, rfl, rfl, hw, ap, tk, hl, hs, r⟩
  obtain ⟨fl, fo⟩ := faces_okF hw.all ap tk hs
  have lt : ∀ t ∈ ts, t.1 < m := fun t ht => Nat.lt_trans (hw.all t ht).lt (hw.all t ht).lm
  have gl := (rnds_ds hw.all (m := m) m).len
  have rel : ∀ x y, x < m → y < m → ((rnds ts m m).getD x 0 = (rnds ts m m).getD y 0 ↔ Sm ts x y) := fun x y hx hy => rnds_all hw.all hw.m1 hx hy
  have m60 := hw.m60
  unfold t__law_is_flat
  refine s_seq (s_asg (e_call (ea_cons (e_var rfl (ea_nil ⟨_, rfl, m, ts, rfl, hw, ?_⟩)))))
  refine s_seq (s_asg (e_call (ea_cons (e_var rfl (ea_cons (e_var rfl (ea_nil ⟨_, _, rfl, m, ts, tt, rfl, rfl, hw, ap, tk, hl, ?_⟩)))))))
  generalize facesL tt = F at fl fo r ⊢
  generalize rnds ts m m = fd at gl rel ⊢
  have same : flatQ (fun x y => decide (fd.getD y 0 = fd.getD x 0)) m ts F = flatS m ts F := flat_same hw.all (fun f hf => (fo f hf).2) fun x y hx hy => by
    rw [decide_eq_true_iff]
    exact ⟨fun h => (rel x y hx hy).mp h.symm, fun h => ((rel x y hx hy).mpr h).symm⟩
  refine s_seq (s_forL (js := [4]) (e_sortSet (e_lcT (js := [7]) (by simp) (e_op (e_var rfl (e_int (rr_ix ⟨_, _, _, .inr (.d _), rfl, atI_nat (j := 1) rfl, ?_⟩)))))))
  refine ⟨_, rfl, by rw [List.length_map]; omega, fun i acc ms' => acc = (((ts.take i).map fun t => fd.getD t.1 0).map fun (x : Nat) => (x : Int)).map PyData.int ∧ ms = ms', ⟨rfl, rfl⟩, ?_, ?_⟩
  · rintro i e acc ms' he ⟨rfl, rfl⟩
    rw [List.getElem?_map] at he
    cases q : ts[i]? with
    | none => rw [q] at he; cases he
    | some t =>
      rw [q] at he
      cases he
      have tl := lt t (List.mem_of_getElem? q)
      refine eg_name (et_yes ⟨fun _ => e_op (e_var rfl (e_op (e_var rfl (e_int (rr_ix ⟨_, _, _, .inr (.d _), rfl, atI_nat (j := 0) rfl, ?_⟩))))), nofun⟩)
      refine rr_ix ⟨_, _, _, .inl (.d _), rfl, atI_nat (natN_at (i := t.1) (by omega)), _, rfl, ?_, rfl⟩
      rw [take_snoc q, List.map_append, List.map_append, List.map_append]
      rfl
  rintro acc ms' ⟨rfl, rfl⟩
  rw [List.length_map, List.take_length]
  refine ⟨(ts.map fun t => fd.getD t.1 0).map fun (x : Nat) => (x : Int), .inl (.d _), by rw [List.length_map, List.length_map]; omega, fun out _ mem => ?_⟩
  refine ⟨_, .d _, fun i ds' ms' => ∃ o4 o5 o6 : SD, (∀ t ∈ ts, ((fd.getD t.1 0 : Nat) : Int) ∈ out.take i → (List.range m).countP (fun p => decide (fd.getD p 0 = fd.getD t.1 0)) + F.countP (fun f => decide (fd.getD (hdF f) 0 = fd.getD t.1 0)) = ts.countP (fun u => decide (fd.getD u.1 0 = fd.getD t.1 0)) + 2) ∧
    ds' = [.d (encW m ts), .d (.tuple (tt.map rwN)), .d (.list (nI fd)), .d (.tuple (F.map faceD)), o4, o5, o6, .u, .u, .u] ∧ ms = ms', ⟨_, _, _, nofun, rfl, rfl⟩, ?_, ?_⟩
  · rintro i e ds' ms' he ⟨o4, o5, o6, ok, rfl, rfl⟩
    rw [List.getElem?_map] at he
    cases q : out[i]? with
    | none => rw [q] at he; cases he
    | some z =>
      rw [q] at he
      cases he
      obtain ⟨c, hc, rfl⟩ := List.mem_map.mp ((mem z).mp (List.mem_of_getElem? q))
      obtain ⟨t, tm, rfl⟩ := List.mem_map.mp hc
      have c1 : (fd.filter fun x => decide (x = fd.getD t.1 0)).length = (List.range m).countP fun p => decide (fd.getD p 0 = fd.getD t.1 0) := by
        rw [← List.countP_eq_length_filter]
        conv => lhs; rw [gs_range gl]
        rw [List.countP_map]
        refine List.countP_congr fun x hx => ?_
        have e : fd.getD t.1 0 = ((List.range m).map fun p => fd.getD p 0).getD t.1 0 := by rw [← gs_range gl]
        rw [← e]
        rfl
      have c2 : (F.filter fun f => decide (fd.getD (hdF f) 0 = fd.getD t.1 0)).length = F.countP fun f => decide (fd.getD (hdF f) 0 = fd.getD t.1 0) := List.countP_eq_length_filter.symm
      have c3 : (ts.filter fun u => decide (fd.getD u.1 0 = fd.getD t.1 0)).length = ts.countP fun u => decide (fd.getD u.1 0 = fd.getD t.1 0) := List.countP_eq_length_filter.symm
      have keyT : ∀ u ∈ ts, fd.getD u.1 0 = fd.getD t.1 0 → ((List.range m).countP (fun p => decide (fd.getD p 0 = fd.getD t.1 0)) + F.countP (fun f => decide (fd.getD (hdF f) 0 = fd.getD t.1 0)) = ts.countP (fun u => decide (fd.getD u.1 0 = fd.getD t.1 0)) + 2) → (List.range m).countP (fun p => decide (fd.getD p 0 = fd.getD u.1 0)) + F.countP (fun f => decide (fd.getD (hdF f) 0 = fd.getD u.1 0)) = ts.countP (fun v => decide (fd.getD v.1 0 = fd.getD u.1 0)) + 2 := fun u hu e k => by
        rw [e]
        exact k
      have no : ¬ ((List.range m).countP (fun p => decide (fd.getD p 0 = fd.getD t.1 0)) + F.countP (fun f => decide (fd.getD (hdF f) 0 = fd.getD t.1 0)) = ts.countP (fun u => decide (fd.getD u.1 0 = fd.getD t.1 0)) + 2) → flatS m ts F = false := fun k => by
        rw [← same]
        unfold flatQ
        exact Bool.eq_false_iff.mpr fun w => k (of_decide_eq_true (List.all_eq_true.mp w t tm))
      rw [← c1, ← c2, ← c3] at no keyT
      generalize hcc : fd.getD t.1 0 = c at no keyT ⊢
      have snoc : ∀ u ∈ ts, ((fd.getD u.1 0 : Nat) : Int) ∈ out.take (i + 1) → ((fd.getD u.1 0 : Nat) : Int) ∈ out.take i ∨ fd.getD u.1 0 = c := fun u hu h => by
        rw [take_snoc q] at h
        rcases List.mem_append.mp h with h | h
        · exact .inl h
        · have := List.mem_singleton.mp h
          exact .inr (by omega)
      refine eg_name (s_seq (s_asg (e_cb (ea_cons (e_lcL (js := [8]) (by simp) (e_var rfl ⟨_, .d _, by rw [List.length_map]; omega, fun j acc ms' => acc = nI ((fd.take j).filter fun x => decide (x = c)) ∧ ms = ms', ⟨rfl, rfl⟩, ?_, ?_⟩))))))
      · rintro j e acc ms' he ⟨rfl, rfl⟩
        rw [List.getElem?_map] at he
        cases q2 : fd[j]? with
        | none => rw [q2] at he; cases he
        | some x =>
          rw [q2] at he
          cases he
          refine eg_name (et_test (e_op (e_var rfl (e_var rfl (rr_eq ⟨_, _, .d _, .d _, shaped_int _, shaped_int _, ?_⟩)))))
          rw [eqv_int]
          refine ⟨_, rfl, fun z => ?_, fun z => ?_⟩
          · have z := of_decide_eq_true z
            refine e_var rfl ⟨_, rfl, ?_, rfl⟩
            rw [filt_snoc _ q2, if_pos (decide_eq_true (by omega)), nI_app]
            rfl
          · have z := of_decide_eq_false z
            refine ⟨?_, rfl⟩
            rw [filt_snoc _ q2, if_neg (by rw [decide_eq_false (by omega)]; decide), List.append_nil]
      rintro acc ms' ⟨rfl, rfl⟩
      rw [List.length_map, List.take_length]
      refine ea_nil (rc_len ⟨_, _, rfl, .inl (.d _), ?_⟩)
      rw [List.length_map]
      refine s_seq (s_asg (e_cb (ea_cons (e_lcT (js := [7]) (by simp) (e_op (e_var rfl (e_int (rr_ix ⟨_, _, _, .inr (.d _), rfl, atI_nat (j := 1) rfl, ?_⟩))))))))
      refine ⟨_, rfl, by rw [List.length_map]; omega, fun j acc ms' => acc = ((ts.take j).filter fun u => decide (fd.getD u.1 0 = c)).map encT ∧ ms = ms', ⟨rfl, rfl⟩, ?_, ?_⟩
      · rintro j e acc ms' he ⟨rfl, rfl⟩
        rw [List.getElem?_map] at he
        cases q2 : ts[j]? with
        | none => rw [q2] at he; cases he
        | some u =>
          rw [q2] at he
          cases he
          have ul := lt u (List.mem_of_getElem? q2)
          refine eg_name (et_test (e_op (e_op (e_var rfl (e_op (e_var rfl (e_int (rr_ix ⟨_, _, _, .inr (.d _), rfl, atI_nat (j := 0) rfl, ?_⟩))))))))
          refine rr_ix ⟨_, _, _, .inl (.d _), rfl, atI_nat (natN_at (i := u.1) (by omega)), e_var rfl (rr_eq ⟨_, _, .d _, .d _, shaped_int _, shaped_int _, ?_⟩)⟩
          rw [eqv_int]
          refine ⟨_, rfl, fun z => ?_, fun z => ?_⟩
          · have z := of_decide_eq_true z
            refine e_var rfl ⟨_, rfl, ?_, rfl⟩
            rw [filt_snoc _ q2, if_pos (decide_eq_true (by omega)), List.map_append]
            rfl
          · have z := of_decide_eq_false z
            refine ⟨?_, rfl⟩
            rw [filt_snoc _ q2, if_neg (by rw [decide_eq_false (by omega)]; decide), List.append_nil]
      rintro acc ms' ⟨rfl, rfl⟩
      rw [List.length_map, List.take_length]
      refine ea_nil (rc_len ⟨_, _, rfl, .inl (.d _), ?_⟩)
      rw [List.length_map]
      refine s_if (et_test (e_op (e_op (e_op (e_var rfl (e_var rfl (rr_I0 ⟨_, _, rfl, rfl, ?_⟩)))))))
      refine e_cb (ea_cons (e_lcT (js := [9]) (by simp) (e_var rfl ⟨_, rfl, by rw [List.length_map]; omega, fun j acc ms' => acc = ((F.take j).filter fun f => decide (fd.getD (hdF f) 0 = c)).map faceD ∧ ms = ms', ⟨rfl, rfl⟩, ?_, ?_⟩)))
      · rintro j e acc ms' he ⟨rfl, rfl⟩
        rw [List.getElem?_map] at he
        cases q2 : F[j]? with
        | none => rw [q2] at he; cases he
        | some f =>
          rw [q2] at he
          cases he
          obtain ⟨fne, fm⟩ := fo f (List.mem_of_getElem? q2)
          obtain ⟨y, rst, ef⟩ := face_at0 fne
          have e0 : (f.map drI)[0]? = some (drI (hdF f, y)) := by
            conv => lhs; rw [ef]
            rfl
          refine eg_name (et_test (e_op (e_op (e_var rfl (e_op (e_op (e_var rfl (e_int (rr_ix ⟨_, _, _, .inr (.d _), rfl, atI_nat (j := 0) e0, ?_⟩)))))))))
          refine e_int (rr_ix ⟨_, _, _, .inr (.d _), rfl, atI_nat (j := 0) rfl, ?_⟩)
          refine rr_ix ⟨_, _, _, .inl (.d _), rfl, atI_nat (natN_at (i := hdF f) (by omega)), e_var rfl (rr_eq ⟨_, _, .d _, .d _, shaped_int _, shaped_int _, ?_⟩)⟩
          rw [eqv_int]
          refine ⟨_, rfl, fun z => ?_, fun z => ?_⟩
          · have z := of_decide_eq_true z
            refine e_var rfl ⟨_, rfl, ?_, rfl⟩
            rw [filt_snoc _ q2, if_pos (decide_eq_true (by omega)), List.map_append]
            rfl
          · have z := of_decide_eq_false z
            refine ⟨?_, rfl⟩
            rw [filt_snoc _ q2, if_neg (by rw [decide_eq_false (by omega)]; decide), List.append_nil]
      rintro acc ms' ⟨rfl, rfl⟩
      rw [List.length_map, List.take_length]
      refine ea_nil (rc_len ⟨_, _, rfl, .inl (.d _), ?_⟩)
      rw [List.length_map]
      refine rr_I0 ⟨_, _, rfl, rfl, e_int (rr_ne ⟨_, _, .d _, .d _, shaped_int _, shaped_int _, ?_⟩)⟩
      rw [eqv_int]
      refine ⟨_, rfl, fun z => ?_, fun z => ?_⟩
      · simp only [Bool.not_eq_true', decide_eq_false_iff_not] at z
        rw [no (by omega)] at r
        exact s_ret (e_bl r)
      · simp only [Bool.not_eq_false', decide_eq_true_eq] at z
        refine s_next ⟨_, _, _, fun u hu h => ?_, rfl, rfl⟩
        rcases snoc u hu h with h | h
        · exact ok u hu h
        · exact keyT u hu h (by omega)
  rintro ds' ms' ⟨o4, o5, o6, ok, rfl, rfl⟩
  rw [List.length_map, List.take_length] at ok
  have yes : flatQ (fun x y => decide (fd.getD y 0 = fd.getD x 0)) m ts F = true := List.all_eq_true.mpr fun t ht => decide_eq_true (ok t ht ((mem _).mpr (List.mem_map.mpr ⟨_, List.mem_map.mpr ⟨t, ht, rfl⟩, rfl⟩)))
  rw [← same, yes] at r
  exact s_ret (e_bl r)

/-- what is due: the flat web, or that it is not flat -/
noncomputable def dueD (m : Nat) (ts : List Tie) (tt : List (List Nat)) : PyData := if flatS m ts (facesL tt) = true then .tuple [encW m ts, .tuple (tt.map rwN)] else .str "flat"
def Φ__law_told : Ph := ph2 fun a b ms R => ∃ (m : Nat) (ts : List Tie) (x : PyData), a = .d (encW m ts) ∧ b = .d x ∧ WebOk m ts ∧ RowsT x ∧
  ((turnsB m ts x = false ∧ R (.d (.str "turns")) ms) ∨ ∃ tt, x = .tuple (tt.map rwN) ∧ Apart ts ∧ TurnOk m ts tt ∧ (tt.map (·.length)).sum ≤ 62 ∧ R (.d (dueD m ts tt)) ms)
theorem len__law_told : ∀ as ms R, Φ__law_told as ms R → as.length = 2 := ph2_len
theorem rd__law_told {K : PySem.W.Frag} {mg : Str → Option Value} {C_CutError C_NoWeb C_NoTurns C_NotFlat C_NoPaper C_TooGreat : Addr} (cl : Cls K mg C_CutError C_NoWeb C_NoTurns C_NotFlat C_NoPaper C_TooGreat) : ∀ as ms R, Φ__law_told as ms R →
    S K (t__law_told K C_CutError C_NoWeb C_NoTurns C_NotFlat C_NoPaper C_TooGreat (Φ_flat_web C_CutError C_NoWeb C_NoTurns C_NotFlat C_NoPaper C_TooGreat)) (as ++ List.replicate (4 - as.length) .u) ms (fin R) := by
  rintro as ms R ⟨a, b, rfl, m, ts, x, rfl, rfl, hw, ht, h⟩
  have e1 := cl.er_NoTurns
  have e2 := cl.er_NotFlat
  have m1 := PySem.W.exm_ref e1.b e1.e.hd e1.t e1.s
  have m2 := PySem.W.exm_ref e2.b e2.e.hd e2.t e2.s
  have n1 : PySem.W.exmAny K (.ref C_NoTurns) [.ref C_NoPaper, .ref C_NoWeb, .ref C_TooGreat] = some false := by
    simp only [PySem.W.exmAny, cl.q_NoTurns_NoPaper, cl.q_NoTurns_NoWeb, cl.q_NoTurns_TooGreat]
    rfl
  have n2 : PySem.W.exmAny K (.ref C_NotFlat) [.ref C_NoPaper, .ref C_NoWeb, .ref C_TooGreat] = some false := by
    simp only [PySem.W.exmAny, cl.q_NotFlat_NoPaper, cl.q_NotFlat_NoWeb, cl.q_NotFlat_TooGreat]
    rfl
  unfold t__law_told
  refine s_seq (s_asg (e_str (s_seq (s_tryN2 n1 n2 m1 cl.q_NotFlat_NoTurns m2 (ea_cons (e_var rfl (ea_cons (e_var rfl (ea_nil ?_)))))))))
  refine ⟨_, _, rfl, m, ts, x, rfl, rfl, hw, ht, ?_⟩
  rcases h with ⟨no, r⟩ | ⟨tt, rfl, ap, tk, hs, r⟩
  · refine .inl ⟨no, .inl ⟨rfl, fun a => ?_⟩⟩
    refine s_asg (e_op (e_lst (ea_cons (e_str (ea_cons (e_str (ea_nil ⟨[_, _], rfl, Nat.le_of_ble_eq_true rfl, ?_⟩)))))))
    refine e_cb (ea_cons (e_and (e_isE rfl (fun u h => h) cl.k_NoTurns_CutError ⟨_, rfl, fun _ => ?_, nofun⟩)))
    refine e_isE rfl (fun u h => h) cl.k_NoTurns_ValueError (ea_nil (rc_intB ⟨_, rfl, rr_ix ⟨_, _, _, .inl (.d _), rfl, atI_nat (j := 1) rfl, ?_⟩⟩))
    exact s_ret (e_var rfl r)
  · unfold dueD at r
    refine .inr ⟨tt, rfl, ap, tk, hs, fun z => .inr ⟨rfl, fun a => ?_⟩, fun z => ?_⟩
    · rw [z] at r
      refine s_asg (e_op (e_lst (ea_cons (e_str (ea_cons (e_str (ea_nil ⟨[_, _], rfl, Nat.le_of_ble_eq_true rfl, ?_⟩)))))))
      refine e_cb (ea_cons (e_and (e_isE rfl (fun u h => h) cl.k_NotFlat_CutError ⟨_, rfl, fun _ => ?_, nofun⟩)))
      refine e_isE rfl (fun u h => h) cl.k_NotFlat_ValueError (ea_nil (rc_intB ⟨_, rfl, rr_ix ⟨_, _, _, .inl (.d _), rfl, atI_nat (j := 1) rfl, ?_⟩⟩))
      exact s_ret (e_var rfl r)
    · rw [z] at r
      exact s_ret (e_var rfl r)

theorem cut_to {l : List PyData} {k : Nat} (h : k ≤ l.length) : Hc.cutD l none (some (k : Int)) = l.take k := by
  unfold Hc.cutD
  rw [HT.sIx_none, HT.sIx_nat, List.drop_zero, Nat.sub_zero, Nat.min_eq_left h]
theorem cut_from {l : List PyData} {k : Nat} (h : k ≤ l.length) : Hc.cutD l (some (k : Int)) none = l.drop k := by
  unfold Hc.cutD
  rw [HT.sIx_none, HT.sIx_nat, Nat.min_eq_left h, List.take_of_length_le (by simp)]
theorem swap_row {row : List Nat} {j : Nat} (h : j + 1 < row.length) : (row.take j ++ [row.getD (j + 1) 0, row.getD j 0] ++ row.drop (j + 2)).Perm row := by
  have e1 : row.drop j = row.getD j 0 :: row.drop (j + 1) := by
    rw [List.drop_eq_getElem_cons (by omega)]
    simp [List.getD, show j < row.length by omega]
  have e2 : row.drop (j + 1) = row.getD (j + 1) 0 :: row.drop (j + 2) := by
    rw [List.drop_eq_getElem_cons h]
    simp [List.getD, h]
  have e : row = row.take j ++ [row.getD j 0, row.getD (j + 1) 0] ++ row.drop (j + 2) := by
    conv => lhs; rw [← List.take_append_drop j row, e1, e2]
    simp
  conv => rhs; rw [e]
  refine List.Perm.append_right _ (List.Perm.append_left _ ?_)
  exact List.Perm.swap _ _ _
def Φ__law_changed : Ph := ph2 fun a b ms R => ∃ (k : Nat) (xs : List Nat) (m : Nat) (ts : List Tie) (tt : List (List Nat)), a = .m k ∧ b = .d (.tuple (tt.map rwN)) ∧ Dk xs ∧ ms[k]? = some (.l (dkL xs)) ∧ 1 ≤ m ∧ m ≤ 60 ∧ TurnOk m ts tt ∧ (∀ p, p < m → (tt.getD p []).length ≤ 62) ∧
  ∀ (tt' : List (List Nat)) (xs' : List Nat), TurnOk m ts tt' → Dk xs' → R (.d (.tuple (tt'.map rwN))) (dm ms k xs')
theorem len__law_changed : ∀ as ms R, Φ__law_changed as ms R → as.length = 2 := ph2_len
theorem rd__law_changed {K : PySem.W.Frag} : ∀ as ms R, Φ__law_changed as ms R → S K (t__law_changed K Φ__law_next) (as ++ List.replicate (6 - as.length) .u) ms (fin R) := by
  rintro as ms R ⟨a, b, rfl, k, xs, m, ts, tt, rfl, rfl, hx, hk, m1, m60, tk, rl, r⟩
  have kl : k < ms.length := (List.getElem?_eq_some_iff.mp hk).1
  have tl := tk.len
  unfold t__law_changed
  refine s_seq (s_asg (e_op (e_next rfl hk hx fun z1 xs1 hz1 hx1 => e_cb (ea_cons (e_var rfl (ea_nil (rc_len ⟨_, _, rfl, .inr (.d _), ?_⟩)))))))
  rw [List.length_map, tl]
  refine rr_I ⟨_, _, rfl, rfl, by omega, ?_⟩
  obtain ⟨i, hi, ei⟩ := fm_ex (z1 : Int) (m := (m : Int)) (by omega)
  rw [ei]
  have hi : i < m := by omega
  have ati : (tt.map rwN)[i]? = some (rwN (tt.getD i [])) := by
    rw [List.getElem?_map, List.getElem?_eq_getElem (by omega)]
    simp [List.getD, tl, hi]
  have rli := rl i hi
  have rp := tk.row i hi
  refine s_seq (s_asg (e_op (e_var rfl (e_var rfl (rr_ix ⟨_, _, _, .inr (.d _), rfl, atI_nat ati, ?_⟩)))))
  generalize hrow : tt.getD i [] = row at rli rp
  refine s_seq (s_if (et_test (e_op (e_cb (ea_cons (e_var rfl (ea_nil (rc_len ⟨_, _, rfl, .inr (.d _), ?_⟩))))))))
  rw [List.length_map]
  refine e_int (rr_B0 ⟨_, _, rfl, rfl, _, rfl, fun z => s_ret (e_var rfl (r tt xs1 tk hx1)), fun z => s_next ?_⟩)
  have z : ¬ (row.length : Int) < 3 := of_decide_eq_false z
  refine s_seq (s_asg (e_op (e_next rfl (dm_at kl _) hx1 fun z2 xs2 hz2 hx2 => e_op (e_cb (ea_cons (e_var rfl (ea_nil (rc_len ⟨_, _, rfl, .inr (.d _), ?_⟩))))))))
  rw [List.length_map, dm_dm]
  refine e_int (rr_I0 ⟨_, _, rfl, rfl, rr_I ⟨_, _, rfl, rfl, by omega, ?_⟩⟩)
  obtain ⟨j, hj, ej⟩ := fm_ex (z2 : Int) (m := (row.length : Int) - 1) (by omega)
  rw [ej]
  have hj : j + 1 < row.length := by omega
  refine s_seq (s_asg (e_op (e_op (e_slA (e_var rfl (eo_none (eo_some (e_var rfl ⟨_, rfl, _, rfl, ?_⟩))))))))
  rw [cut_to (by rw [List.length_map]; omega)]
  refine e_tup (ea_cons (e_op (e_var rfl (e_op (e_var rfl (e_int (rr_I0 ⟨_, _, rfl, rfl, ?_⟩)))))))
  rw [show (j : Int) + 1 = ((j + 1 : Nat) : Int) by omega]
  refine rr_ix ⟨_, _, _, .inr (.d _), rfl, atI_nat (natN_at (i := j + 1) hj), ?_⟩
  refine ea_cons (e_op (e_var rfl (e_var rfl (rr_ix ⟨_, _, _, .inr (.d _), rfl, atI_nat (natN_at (i := j) (by omega)), ?_⟩))))
  refine ea_nil ⟨[_, _], rfl, Nat.le_of_ble_eq_true rfl, rr_catA ⟨_, _, rfl, rfl, by rw [List.length_take, List.length_map]; simp; omega, ?_⟩⟩
  refine e_slA (e_var rfl (eo_some (e_op (e_var rfl (e_int (rr_I0 ⟨_, _, rfl, rfl, _, rfl, eo_none ⟨_, rfl, ?_⟩⟩))))))
  rw [show (j : Int) + 2 = ((j + 2 : Nat) : Int) by omega, cut_from (by rw [List.length_map]; omega)]
  refine rr_catA ⟨_, _, rfl, rfl, by rw [List.length_append, List.length_take, List.length_drop, List.length_map]; simp; omega, ?_⟩
  have eR : (PyData.tuple ((nI row).take j ++ [.int ((row.getD (j + 1) 0 : Nat) : Int), .int ((row.getD j 0 : Nat) : Int)] ++ (nI row).drop (j + 2))) = rwN (row.take j ++ [row.getD (j + 1) 0, row.getD j 0] ++ row.drop (j + 2)) := by
    show PyData.tuple _ = .tuple (nI _)
    rw [nI_app, nI_app, ← List.map_take, ← List.map_drop]
    rfl
  rw [eR]
  have pr2 := (swap_row hj).trans rp
  generalize row.take j ++ [row.getD (j + 1) 0, row.getD j 0] ++ row.drop (j + 2) = row2 at pr2
  refine s_ret (e_op (e_op (e_slA (e_var rfl (eo_none (eo_some (e_var rfl ⟨_, rfl, _, rfl, ?_⟩)))))))
  rw [cut_to (by rw [List.length_map]; omega)]
  refine e_tup (ea_cons (e_var rfl (ea_nil ⟨[_], rfl, Nat.le_of_ble_eq_true rfl, rr_catA ⟨_, _, rfl, rfl, by rw [List.length_take, List.length_map]; simp; omega, ?_⟩⟩)))
  refine e_slA (e_var rfl (eo_some (e_op (e_var rfl (e_int (rr_I0 ⟨_, _, rfl, rfl, _, rfl, eo_none ⟨_, rfl, ?_⟩⟩))))))
  rw [show (i : Int) + 1 = ((i + 1 : Nat) : Int) by omega, cut_from (by rw [List.length_map]; omega)]
  refine rr_catA ⟨_, _, rfl, rfl, by rw [List.length_append, List.length_take, List.length_drop, List.length_map]; simp; omega, ?_⟩
  have eT : (tt.map rwN).take i ++ [rwN row2] ++ (tt.map rwN).drop (i + 1) = (tt.set i row2).map rwN := by
    rw [List.set_eq_take_append_cons_drop, if_pos (by omega), List.map_append, List.map_cons, List.map_take, List.map_drop]
    simp
  rw [eT]
  refine r _ xs2 ⟨by rw [List.length_set]; exact tl, fun p hp => ?_⟩ hx2
  rw [set_getD]
  by_cases e : p = i
  · subst e
    rw [if_pos ⟨rfl, by omega⟩]
    exact pr2
  · rw [if_neg fun z => e z.1]
    exact tk.row p hp

theorem drW_nd {m : Nat} {ts : List Tie} (hw : ∀ t ∈ ts, TieOk m t) (ha : Apart ts) : (drW ts).Nodup := by
  unfold drW
  have p : ∀ f : Nat × Nat → Nat × Nat, (∀ x y, f x = f y → x = y) → (ts.map fun t => f (t.1, t.2.1)).Nodup := fun f inj => by
    rw [List.nodup_iff_pairwise_ne, List.pairwise_map]
    exact List.Pairwise.imp (fun {a b} z e => z (Prod.mk.inj (inj _ _ e))) ha
  refine List.nodup_append.mpr ⟨p id fun x y e => e, p (fun x => (x.2, x.1)) fun x y e => Prod.ext (congrArg Prod.snd e) (congrArg Prod.fst e), fun a ha b hb e => ?_⟩
  obtain ⟨t, ht, rfl⟩ := List.mem_map.mp ha
  obtain ⟨u, hu, rfl⟩ := List.mem_map.mp hb
  have h1 := (hw t ht).lt
  have h2 := (hw u hu).lt
  have e1 : t.1 = u.2.1 := congrArg Prod.fst e
  have e2 : t.2.1 = u.1 := congrArg Prod.snd e
  omega
/-- ties are few -/
theorem ties_few {m : Nat} {ts : List Tie} (hw : ∀ t ∈ ts, TieOk m t) (ha : Apart ts) : 2 * ts.length ≤ m * m := by
  have n := drW_nd hw ha
  have s := nodup_sub (drW ts) ((List.range m).flatMap fun a => (List.range m).map fun b => (a, b)) n fun d hd => by
    have both : d.1 < m ∧ d.2 < m := by
      unfold drW at hd
      rcases List.mem_append.mp hd with h | h
      · obtain ⟨t, ht, rfl⟩ := List.mem_map.mp h
        have h1 := (hw t ht).lt
        have h2 := (hw t ht).lm
        exact ⟨Nat.lt_trans h1 h2, h2⟩
      · obtain ⟨t, ht, rfl⟩ := List.mem_map.mp h
        have h1 := (hw t ht).lt
        have h2 := (hw t ht).lm
        exact ⟨h2, Nat.lt_trans h1 h2⟩
    exact List.mem_flatMap.mpr ⟨d.1, List.mem_range.mpr both.1, List.mem_map.mpr ⟨d.2, List.mem_range.mpr both.2, rfl⟩⟩
  have e1 : (drW ts).length = 2 * ts.length := by
    unfold drW
    rw [List.length_append, List.length_map, List.length_map]
    omega
  have e2 : ((List.range m).flatMap fun a => (List.range m).map fun b => (a, b)).length = m * m := by
    have rep : ∀ l : List Nat, (l.map fun _ => m).sum = l.length * m := fun l => by
      induction l with
      | nil => simp
      | cons a r ih => rw [List.map_cons, List.sum_cons, ih, List.length_cons, Nat.succ_mul, Nat.add_comm]
    rw [List.length_flatMap]
    have e : (fun a : Nat => ((List.range m).map fun b => (a, b)).length) = fun _ => m := funext fun a => by rw [List.length_map, List.length_range]
    rw [e, rep, List.length_range]
  omega
theorem turn_sum {m : Nat} {ts : List Tie} {tt : List (List Nat)} (hw : ∀ t ∈ ts, TieOk m t) (ha : Apart ts) (h : TurnOk m ts tt) : (tt.map (·.length)).sum = 2 * ts.length := by
  have p := (drW_perm hw ha h).1.length_eq
  have e1 : (drW ts).length = 2 * ts.length := by
    unfold drW
    rw [List.length_append, List.length_map, List.length_map]
    omega
  have e2 : (drts tt).length = (tt.map (·.length)).sum := by
    unfold drts
    rw [List.length_map, entL_len tt _ (Nat.le_refl _), List.take_length]
  omega

theorem sum_le {c : Nat} : ∀ {l : List (List Nat)}, (∀ r ∈ l, r.length ≤ c) → (l.map (·.length)).sum ≤ l.length * c
  | [], _ => Nat.zero_le _
  | r :: t, h => by
    have h1 := h r (by simp)
    have h2 := sum_le (l := t) fun x hx => h x (by simp [hx])
    rw [List.map_cons, List.sum_cons, List.length_cons, Nat.succ_mul]
    omega
theorem rk_sum {rows : List (List Nat)} (h : RkW rows) : (rows.map (·.length)).sum ≤ rows.length * (rows.length - 1) := sum_le fun r hr => by
  obtain ⟨p, hp, e⟩ := List.mem_iff_getElem.mp hr
  have g : rows.getD p [] = r := by simp [List.getD, hp, e]
  have n := h.nd p
  have lt := h.lt p
  rw [g] at n lt
  have := nodup_sub r ((List.range rows.length).erase p) n fun q hq => (List.Nodup.mem_erase_iff List.nodup_range).mpr ⟨(lt q hq).2.2, List.mem_range.mpr (lt q hq).2.1⟩
  rw [List.length_erase_of_mem (List.mem_range.mpr hp), List.length_range] at this
  exact this
theorem two_sum (rows others : List (List Nat)) : ((twoR rows others).map (·.length)).sum = (rows.map (·.length)).sum + (others.map (·.length)).sum := by
  unfold twoR
  rw [List.map_append, List.sum_append, List.map_map]
  congr 2
  exact List.map_congr_left fun r _ => by show (List.map _ r).length = _; rw [List.length_map]
theorem dm_dm2 (ms : List MD) (k : Nat) (xs ys : List Nat) : dm (dm ms k xs) k ys = dm ms k ys := List.set_set ..
theorem lone_get (n p : Nat) : (List.replicate n ([] : List Nat)).getD p [] = [] := by
  unfold List.getD
  rw [List.getElem?_replicate]
  split <;> rfl
theorem lone_ok (n : Nat) : RkW (List.replicate n []) := ⟨fun p => (by rw [lone_get]; exact List.nodup_nil), fun p q h => (by rw [lone_get] at h; cases h), fun p q h => (by rw [lone_get] at h; cases h)⟩
theorem lone_sum (n : Nat) : ((List.replicate n ([] : List Nat)).map (·.length)).sum = 0 := by
  induction n with
  | zero => rfl
  | succ n ih => rw [List.replicate_succ, List.map_cons, List.sum_cons, ih]; rfl
def RwsOk (e : PyData) : Prop := ∃ rows : List (List Nat), e = .list (rows.map rwL) ∧ RkW rows ∧ 1 ≤ rows.length ∧ rows.length ≤ 12 ∧ (rows.map (·.length)).sum ≤ 60
structure CaseOk (e : PyData) (m : Nat) (ts : List Tie) (tt : List (List Nat)) : Prop where
  eq : e = .tuple [encW m ts, .tuple (tt.map rwN)]
  w : WebOk m ts
  ap : Apart ts
  tk : TurnOk m ts tt
  sm : ts.length ≤ 30
theorem case_rows {m : Nat} {ts : List Tie} {tt : List (List Nat)} (hw : ∀ t ∈ ts, TieOk m t) (ap : Apart ts) (tk : TurnOk m ts tt) (sm : ts.length ≤ 30) : (tt.map (·.length)).sum ≤ 62 ∧ ∀ p, p < m → (tt.getD p []).length ≤ 62 := by
  have h2 := turn_sum hw ap tk
  refine ⟨by omega, fun p hp => ?_⟩
  have tl := tk.len
  have : tt.getD p [] ∈ tt := by simp [List.getD, tl, hp]
  have := sum_mem (List.mem_map.mpr ⟨_, this, rfl⟩ : (tt.getD p []).length ∈ tt.map (·.length))
  omega
def Φ__law_webs : Ph := ph1 fun a ms R => ∃ (k : Nat) (xs : List Nat), a = .m k ∧ Dk xs ∧ ms[k]? = some (.l (dkL xs)) ∧ ∀ (fs : List PyData) (xs' : List Nat), (∀ e ∈ fs, ∃ m ts tt, CaseOk e m ts tt) → Dk xs' → R (.d (.list fs)) (dm ms k xs')
theorem len__law_webs : ∀ as ms R, Φ__law_webs as ms R → as.length = 1 := ph1_len
theorem rd__law_webs {K : PySem.W.Frag} : ∀ as ms R, Φ__law_webs as ms R → S K (t__law_webs K Φ__law_any_web Φ__law_turns Φ__law_grown Φ__law_next Φ__law_two_parts Φ__law_named Φ__law_changed) (as ++ List.replicate (8 - as.length) .u) ms (fin R) := by
  rintro as ms R ⟨a, rfl, k, xs, rfl, hx, hk, r⟩
  have kl : k < ms.length := (List.getElem?_eq_some_iff.mp hk).1
  unfold t__law_webs
  refine s_seq (s_asg (e_call (ea_cons (e_varm rfl (ea_cons (e_int (ea_nil ⟨_, _, rfl, k, xs, 6, rfl, rfl, hx, hk, by decide, by decide, fun m ts xs1 hm m1 htl hw ap hx1 => ?_⟩)))))))
  have few : ts.length ≤ 30 := by
    have h1 := ties_few hw.all ap
    have h2 : m * m ≤ 6 * 6 := Nat.mul_le_mul hm hm
    omega
  refine s_seq (s_asg (e_lst (ea_cons (e_tup (ea_cons (e_var rfl (ea_cons (e_call (ea_cons (e_varm rfl (ea_cons (e_var rfl (ea_nil ⟨_, _, rfl, k, xs1, m, ts, rfl, rfl, hx1, dm_at kl _, hw, htl, fun tt xs2 tk hx2 => ?_⟩)))))))))))))
  rw [dm_dm2]
  refine ea_nil ⟨[_, _], rfl, Nat.le_of_ble_eq_true rfl, ?_⟩
  refine ea_cons (e_tup (ea_cons (e_var rfl (ea_cons (e_call (ea_cons (e_varm rfl (ea_cons (e_var rfl (ea_nil ⟨_, _, rfl, k, xs2, m, ts, rfl, rfl, hx2, dm_at kl _, hw, htl, fun tt2 xs3 tk2 hx3 => ?_⟩))))))))))
  rw [dm_dm2]
  refine ea_nil ⟨[_, _], rfl, Nat.le_of_ble_eq_true rfl, ea_nil ⟨[_, _], rfl, Nat.le_of_ble_eq_true rfl, ?_⟩⟩
  have c1 : CaseOk (.tuple [encW m ts, .tuple (tt.map rwN)]) m ts tt := ⟨rfl, hw, ap, tk, few⟩
  have c2 : CaseOk (.tuple [encW m ts, .tuple (tt2.map rwN)]) m ts tt2 := ⟨rfl, hw, ap, tk2, few⟩
  generalize (PyData.tuple [encW m ts, .tuple (tt.map rwN)]) = e1 at c1
  generalize (PyData.tuple [encW m ts, .tuple (tt2.map rwN)]) = e2 at c2
  refine s_seq (s_asg (e_call (ea_cons (e_varm rfl (ea_cons (e_op (e_int (e_op (e_next rfl (dm_at kl _) hx3 fun z1 xs4 hz1 hx4 => e_int (rr_I ⟨_, _, rfl, rfl, by decide, ?_⟩))))))))))
  rw [dm_dm]
  obtain ⟨i1, hi1, ei1⟩ := fm_ex (z1 : Int) (m := 5) (by decide)
  rw [ei1]
  refine rr_I0 ⟨_, _, rfl, rfl, ?_⟩
  rw [show (2 : Int) + (i1 : Int) = ((i1 + 2 : Nat) : Int) by omega]
  refine ea_cons (e_op (e_next rfl (dm_at kl _) hx4 fun z2 xs5 hz2 hx5 => e_int (rr_I ⟨_, _, rfl, rfl, by decide, ?_⟩)))
  rw [dm_dm]
  obtain ⟨j1, hj1, ej1⟩ := fm_ex (z2 : Int) (m := 5) (by decide)
  rw [ej1]
  refine ea_nil ⟨_, _, _, rfl, k, xs5, i1 + 2, j1, rfl, rfl, rfl, hx5, dm_at kl _, by omega, by omega, by omega, fun rs xs6 ok1 hl1 hx6 => ?_⟩
  rw [dm_dm2]
  refine s_seq (s_asg (e_call (ea_cons (e_varm rfl (ea_cons (e_op (e_int (e_op (e_next rfl (dm_at kl _) hx6 fun z3 xs7 hz3 hx7 => e_int (rr_I ⟨_, _, rfl, rfl, by decide, ?_⟩))))))))))
  rw [dm_dm]
  obtain ⟨i2, hi2, ei2⟩ := fm_ex (z3 : Int) (m := 4) (by decide)
  rw [ei2]
  refine rr_I0 ⟨_, _, rfl, rfl, ?_⟩
  rw [show (2 : Int) + (i2 : Int) = ((i2 + 2 : Nat) : Int) by omega]
  refine ea_cons (e_op (e_next rfl (dm_at kl _) hx7 fun z4 xs8 hz4 hx8 => e_int (rr_I ⟨_, _, rfl, rfl, by decide, ?_⟩)))
  rw [dm_dm]
  obtain ⟨j2, hj2, ej2⟩ := fm_ex (z4 : Int) (m := 4) (by decide)
  rw [ej2]
  refine ea_nil ⟨_, _, _, rfl, k, xs8, i2 + 2, j2, rfl, rfl, rfl, hx8, dm_at kl _, by omega, by omega, by omega, fun rs2 xs9 ok2 hl2 hx9 => ?_⟩
  rw [dm_dm2]
  refine s_seq (s_asg (e_op (e_lst (ea_cons (e_lst (ea_nil ⟨[], rfl, Nat.zero_le _, ea_nil ⟨[_], rfl, Nat.le_of_ble_eq_true rfl, e_op (e_int (e_op (e_next rfl (dm_at kl _) hx9 fun z5 xs10 hz5 hx10 => e_int (rr_I ⟨_, _, rfl, rfl, by decide, ?_⟩))))⟩⟩))))))
  rw [dm_dm]
  obtain ⟨c, hc, ec⟩ := fm_ex (z5 : Int) (m := 3) (by decide)
  rw [ec]
  refine rr_I0 ⟨_, _, rfl, rfl, rr_rep ⟨_, _, rfl, rfl, by omega, by omega, ?_⟩⟩
  have eL : List.replicate ((1 : Int) + (c : Int)).toNat (PyData.list []) = (List.replicate (c + 1) ([] : List Nat)).map rwL := by
    rw [show ((1 : Int) + (c : Int)).toNat = c + 1 by omega, List.map_replicate]
    rfl
  rw [eL]
  have s1 : (rs.map (·.length)).sum ≤ 30 := Nat.le_trans (rk_sum ok1.w) (Nat.le_trans (Nat.mul_le_mul (show rs.length ≤ 6 by omega) (show rs.length - 1 ≤ 5 by omega)) (by decide))
  have s2 : (rs2.map (·.length)).sum ≤ 20 := Nat.le_trans (rk_sum ok2.w) (Nat.le_trans (Nat.mul_le_mul (show rs2.length ≤ 5 by omega) (show rs2.length - 1 ≤ 4 by omega)) (by decide))
  have rl2 : ∀ r ∈ rs2, r.length ≤ 20 := fun r hr => by
    obtain ⟨p, hp, e⟩ := List.mem_iff_getElem.mp hr
    have := ok2.w.rl p
    have g : rs2.getD p [] = r := by simp [List.getD, hp, e]
    rw [g] at this
    omega
  have ln : (List.replicate (c + 1) ([] : List Nat)).length = c + 1 := List.length_replicate
  have lo := lone_ok (c + 1)
  have ls := lone_sum (c + 1)
  have rl3 : ∀ r ∈ List.replicate (c + 1) ([] : List Nat), r.length ≤ 20 := fun r hr => by
    rw [(List.mem_replicate.mp hr).2]
    exact Nat.zero_le _
  generalize List.replicate (c + 1) ([] : List Nat) = lone at ln lo ls rl3
  refine s_seq (s_forL (js := [6]) (e_lst (ea_cons (e_var rfl (ea_cons (e_call (ea_cons (e_var rfl (ea_cons (e_var rfl (ea_nil ⟨_, _, rfl, rs, rs2, rfl, rfl, by omega, by omega, rl2, ?_⟩)))))))))))
  refine ea_cons (e_call (ea_cons (e_var rfl (ea_cons (e_var rfl (ea_nil ⟨_, _, rfl, rs, lone, rfl, rfl, by omega, by omega, rl3, ?_⟩))))))
  refine ea_cons (e_var rfl (ea_nil ⟨[_, _, _, _], rfl, Nat.le_of_ble_eq_true rfl, _, .d _, ?_⟩))
  have t1 := two_sum rs rs2
  have t2 := two_sum rs lone
  have l1 := twoR_len rs rs2
  have l2 := twoR_len rs lone
  have all : ∀ e ∈ ([.list (rs.map rwL), .list ((twoR rs rs2).map rwL), .list ((twoR rs lone).map rwL), .list (lone.map rwL)] : List PyData), RwsOk e := by
    refine List.forall_mem_cons.mpr ⟨⟨_, rfl, ok1.w, by omega, by omega, by omega⟩, List.forall_mem_cons.mpr ⟨⟨_, rfl, ok1.w.two ok2.w, by omega, by omega, by omega⟩, List.forall_mem_cons.mpr ⟨⟨_, rfl, ok1.w.two lo, by omega, by omega, by omega⟩, List.forall_mem_cons.mpr ⟨⟨_, rfl, lo, by omega, by omega, by omega⟩, nofun⟩⟩⟩⟩
  have four : ([.list (rs.map rwL), .list ((twoR rs rs2).map rwL), .list ((twoR rs lone).map rwL), .list (lone.map rwL)] : List PyData).length = 4 := rfl
  generalize ([.list (rs.map rwL), .list ((twoR rs rs2).map rwL), .list ((twoR rs lone).map rwL), .list (lone.map rwL)] : List PyData) = Q at all four ⊢
  refine ⟨fun i ds' ms' => ∃ (fs : List PyData) (xs' : List Nat) (o1 o6 o7 : SD), (∀ e ∈ fs, ∃ m ts tt, CaseOk e m ts tt) ∧ fs.length = 2 + 3 * i ∧ Dk xs' ∧ ds' = [.m k, o1, .d (.list fs), .d (.list (rs.map rwL)), .d (.list (rs2.map rwL)), .d (.list (lone.map rwL)), o6, o7] ∧ ms' = dm ms k xs', ⟨[e1, e2], xs10, _, _, _, fun e he => ?_, rfl, hx10, rfl, rfl⟩, ?_, ?_⟩
  · simp only [List.mem_cons, List.not_mem_nil, or_false] at he
    rcases he with rfl | rfl
    · exact ⟨_, _, _, c1⟩
    · exact ⟨_, _, _, c2⟩
  · rintro i e ds' ms' he ⟨fs, xs11, o1, o6, o7, al, fl, hx11, rfl, rfl⟩
    have iq := (List.getElem?_eq_some_iff.mp he).1
    obtain ⟨rows, rfl, rw_, n1, n12, sm⟩ := all e (List.mem_of_getElem? he)
    refine eg_name (s_seq (s_asgG (js := [1, 7]) (e_call (ea_cons (e_varm rfl (ea_cons (e_var rfl (ea_nil ⟨_, _, rfl, k, xs11, rows, rfl, rfl, hx11, dm_at kl _, rw_, n1, n12, fun ts tt xs12 hw ap tk es hx12 => ?_⟩))))))))
    rw [dm_dm2]
    have h2 := turn_sum hw.all ap tk
    have few : ts.length ≤ 30 := by omega
    obtain ⟨hs, rl⟩ := case_rows hw.all ap tk few
    refine eg_tup rfl (egs_cons (eg_name (egs_cons (eg_name (egs_nil ?_)))))
    refine s_asg (e_op (e_var rfl (e_lst (ea_cons (e_tup (ea_cons (e_var rfl (ea_cons (e_var rfl (ea_nil ⟨[_, _], rfl, Nat.le_of_ble_eq_true rfl, ?_⟩))))))))))
    refine ea_cons (e_tup (ea_cons (e_var rfl (ea_cons (e_call (ea_cons (e_varm rfl (ea_cons (e_var rfl (ea_nil ⟨_, _, rfl, k, xs12, rows.length, ts, tt, rfl, rfl, hx12, dm_at kl _, hw.m1, hw.m60, tk, rl, fun tt2 xs13 tk2 hx13 => ?_⟩))))))))))
    rw [dm_dm2]
    refine ea_nil ⟨[_, _], rfl, Nat.le_of_ble_eq_true rfl, ?_⟩
    refine ea_cons (e_tup (ea_cons (e_var rfl (ea_cons (e_call (ea_cons (e_varm rfl (ea_cons (e_var rfl (ea_nil ⟨_, _, rfl, k, xs13, rows.length, ts, tt, rfl, rfl, hx13, dm_at kl _, hw.m1, hw.m60, tk, rl, fun tt3 xs14 tk3 hx14 => ?_⟩))))))))))
    rw [dm_dm2]
    refine ea_nil ⟨[_, _], rfl, Nat.le_of_ble_eq_true rfl, ea_nil ⟨[_, _, _], rfl, Nat.le_of_ble_eq_true rfl, rr_cat ⟨_, _, rfl, rfl, by rw [fl]; simp; omega, ?_⟩⟩⟩
    refine ⟨_, xs14, _, _, _, fun e he => ?_, ?_, hx14, rfl, rfl⟩
    · rcases List.mem_append.mp he with he | he
      · exact al e he
      · simp only [List.mem_cons, List.not_mem_nil, or_false] at he
        rcases he with rfl | rfl | rfl
        · exact ⟨_, _, _, rfl, hw, ap, tk, few⟩
        · exact ⟨_, _, _, rfl, hw, ap, tk2, few⟩
        · exact ⟨_, _, _, rfl, hw, ap, tk3, few⟩
    · rw [List.length_append, fl]
      simp
      omega
  rintro ds' ms' ⟨fs, xs11, o1, o6, o7, al, fl, hx11, rfl, rfl⟩
  exact s_ret (e_var rfl (r fs xs11 al hx11))

/-- what are turns are rows of numbers, each all who stand beside its point -/
theorem turns_ok {m : Nat} {ts : List Tie} {x : PyData} (h : turnsB m ts x = true) : ∃ tt, x = .tuple (tt.map rwN) ∧ TurnOk m ts tt := by
  obtain ⟨rows, rfl⟩ : ∃ rows, x = .tuple rows := by
    cases x with
    | tuple rows => exact ⟨rows, rfl⟩
    | _ => cases h
  have h : (decide (rows.length = m) && (List.range m).all fun p => roundB m (nbS ts p) (rows.getD p .none)) = true := h
  rw [Bool.and_eq_true] at h
  obtain ⟨hl, ha⟩ := h
  have hl := of_decide_eq_true hl
  rw [List.all_eq_true] at ha
  have one : ∀ p, ∃ l : List Nat, p < m → rows.getD p .none = rwN l ∧ l.Perm (nb ts p) := fun p => by
    by_cases hp : p < m
    · have hr := ha p (List.mem_range.mpr hp)
      generalize rows.getD p .none = e at hr
      cases e with
      | tuple es =>
        have hr : (es.all (numB m) && decide (srtI (intsOf es) = nbS ts p)) = true := hr
        rw [Bool.and_eq_true] at hr
        obtain ⟨i1, i2⟩ := ints_inv hr.1
        have so := of_decide_eq_true hr.2
        have pm : (intsOf es).Perm ((nb ts p).map fun (k : Nat) => (k : Int)) := ((srtI_perm _).symm.trans (by rw [so]; exact List.Perm.refl _)).trans (srtI_perm _)
        refine ⟨(intsOf es).map Int.toNat, fun _ => ⟨?_, ?_⟩⟩
        · have e : (intsOf es).map PyData.int = nI ((intsOf es).map Int.toNat) := by
            show _ = ((intsOf es).map Int.toNat).map fun (k : Nat) => PyData.int k
            rw [List.map_map]
            refine List.map_congr_left fun i hi => ?_
            have := i2 i hi
            show PyData.int i = .int ((i.toNat : Nat) : Int)
            congr 1
            omega
          exact congrArg PyData.tuple (i1.trans e)
        · have := pm.map Int.toNat
          rw [List.map_map] at this
          have e : (nb ts p).map (Int.toNat ∘ fun (k : Nat) => (k : Int)) = nb ts p := (List.map_congr_left fun x _ => by simp).trans (List.map_id _)
          rwa [e] at this
      | _ => cases hr
    · exact ⟨[], fun z => absurd z hp⟩
  obtain ⟨F, hF⟩ := Classical.axiomOfChoice one
  refine ⟨(List.range m).map F, ?_, by simp, fun p hp => ?_⟩
  · congr 1
    refine List.ext_getElem? fun p => ?_
    by_cases hp : p < m
    · have hp2 : p < rows.length := by omega
      have := (hF p hp).1
      rw [List.getElem?_map, List.getElem?_map, List.getElem?_range hp, List.getElem?_eq_getElem hp2]
      have e : rows.getD p .none = rows[p] := by simp [List.getD, hp2]
      rw [e] at this
      rw [this]
      rfl
    · rw [List.getElem?_eq_none (by omega), List.getElem?_eq_none (by rw [List.length_map, List.length_map, List.length_range]; omega)]
  · have e : ((List.range m).map F).getD p [] = F p := by simp [List.getD, hp]
    rw [e]
    exact (hF p hp).2

/-- not too long, if a tuple -/
def Sho (e : PyData) : Prop := ∀ es, e = .tuple es → es.length ≤ 9000
theorem Sho.row (l : List Nat) (h : l.length ≤ 9000) : Sho (rwN l) := fun es e => by
  have e := PyData.tuple.inj e
  rw [← e, List.length_map]
  exact h
theorem sho_no {e : PyData} (h : ∀ es, e ≠ .tuple es) : Sho e := fun es z => absurd z (h es)
theorem rowsT_of {T : List PyData} (l : T.length ≤ 9000) (h : ∀ e ∈ T, Sho e) : RowsT (.tuple T) := fun rows e => by
  have e := PyData.tuple.inj e
  subst e
  exact ⟨by omega, fun x hx es e => by have := h x hx es e; omega⟩
theorem rowsT_no {x : PyData} (h : ∀ rows, x ≠ .tuple rows) : RowsT x := fun rows e => absurd e (h rows)
theorem shp_encT (t : Tie) : Shp 2 (encT t) := Shp.tup fun e he => by
  simp only [List.mem_cons, List.not_mem_nil, or_false] at he
  rcases he with rfl | rfl | rfl
  · exact (Shp.int _).mono (by decide)
  · exact (Shp.int _).mono (by decide)
  · exact Shp.pr _
theorem shp_web (m : Nat) (ts : List Tie) : Shp 4 (encW m ts) := Shp.tup fun e he => by
  simp only [List.mem_cons, List.not_mem_nil, or_false] at he
  rcases he with rfl | rfl
  · exact (Shp.int _).mono (by decide)
  · exact Shp.tup fun e he => by
      obtain ⟨t, _, rfl⟩ := List.mem_map.mp he
      exact shp_encT t
theorem sIx_neg1 (n : Nat) (h : 1 ≤ n) : HT.sIx n n (some (-1)) = n - 1 := by
  unfold HT.sIx
  simp
  omega
theorem cut_but1 (es : List PyData) (h : 1 ≤ es.length) : Hc.cutD es none (some (-1)) = es.take (es.length - 1) := by
  unfold Hc.cutD
  rw [HT.sIx_none, sIx_neg1 _ h]
  simp

def Φ_law : Ph := ph1 fun a ms R => ∃ ns : List Int, a = .s ns ∧ ns.length ≤ 63 ∧ ms = [] ∧ R (.d (.bool true)) ms
theorem len_law : ∀ as ms R, Φ_law as ms R → as.length = 1 := ph1_len
theorem law_at {K : PySem.W.Frag} {H : Hp} {a : Addr} {ns : List Int} (hl : ns.length ≤ 63) (hO : Only H) (hS : SqL K H a (ns.map V.int)) : SpD K Φ_law [.ref a] H (fun v _ => v = .bl true) fun _ _ _ => False :=
  ⟨[], [], [], [.s ns], fun s _ => s = .d (.bool true), at_nil, ⟨.ref a, [], rfl, at_door hO hS, rfl⟩, ⟨_, rfl, ns, rfl, hl, rfl, rfl⟩, fun s v H' ms' w o e => by
    subst e
    obtain ⟨_, h⟩ := o
    cases h
    rfl⟩
theorem shp_rw (l : List Nat) : Shp 1 (rwN l) := Shp.tup fun e he => by
  rw [nI_int] at he
  exact Shp.ints _ e he
theorem shp_flat : Shp 0 (.str "flat") := ⟨by decide +kernel, Nat.le_refl _⟩
theorem shp_turns : Shp 0 (.str "turns") := ⟨by decide +kernel, Nat.le_refl _⟩
theorem shp_due (m : Nat) (ts : List Tie) (tt : List (List Nat)) : Shp 5 (dueD m ts tt) := by
  unfold dueD
  split
  · exact Shp.tup fun e he => by
      simp only [List.mem_cons, List.not_mem_nil, or_false] at he
      rcases he with rfl | rfl
      · exact shp_web m ts
      · exact (Shp.tup fun e he => by
          obtain ⟨l, _, rfl⟩ := List.mem_map.mp he
          exact shp_rw l : Shp 2 _).mono (by decide)
  · exact shp_flat.mono (by decide)
/-- things that are no turns -/
def noT (m : Nat) (T : List PyData) : List PyData := [.none, .list T, .tuple (T.take (m - 1)), .tuple (T ++ [.tuple []]), .tuple (List.replicate m .none), .int 7, .tuple (T.take (m - 1) ++ [.tuple [.int 0, .int 0]])]
theorem no_turns {m : Nat} {ts : List Tie} {tt : List (List Nat)} (hw : WebOk m ts) (ap : Apart ts) (tk : TurnOk m ts tt) : ∀ x ∈ noT m (tt.map rwN), turnsB m ts x = false := by
  have m1 := hw.m1
  have tl : (tt.map rwN).length = m := by rw [List.length_map]; exact tk.len
  have len : ∀ A : List PyData, A.length ≠ m → turnsB m ts (.tuple A) = false := fun A h => Bool.eq_false_iff.mpr fun z => by
    obtain ⟨tt', e, tk'⟩ := turns_ok z
    have e := PyData.tuple.inj e
    have := tk'.len
    rw [e, List.length_map] at h
    exact h this
  generalize tt.map rwN = T at tl
  intro x hx
  unfold noT at hx
  simp only [List.mem_cons, List.not_mem_nil, or_false] at hx
  rcases hx with rfl | rfl | rfl | rfl | rfl | rfl | rfl
  · rfl
  · rfl
  · exact len _ (by rw [List.length_take]; omega)
  · exact len _ (by rw [List.length_append, List.length_singleton]; omega)
  · refine Bool.eq_false_iff.mpr fun z => ?_
    obtain ⟨tt', e, tk'⟩ := turns_ok z
    have e := congrArg (fun l : List PyData => l[0]?) (PyData.tuple.inj e)
    have l' := tk'.len
    simp only [List.getElem?_replicate, List.getElem?_map] at e
    rw [if_pos (by omega), List.getElem?_eq_getElem (by omega)] at e
    cases e
  · rfl
  · refine Bool.eq_false_iff.mpr fun z => ?_
    obtain ⟨tt', e, tk'⟩ := turns_ok z
    have e := congrArg (fun l : List PyData => l[m - 1]?) (PyData.tuple.inj e)
    have l' := tk'.len
    have tl2 : (T.take (m - 1)).length = m - 1 := by rw [List.length_take]; omega
    have e1 : (T.take (m - 1) ++ [PyData.tuple [.int 0, .int 0]])[m - 1]? = some (.tuple [.int 0, .int 0]) := by
      rw [List.getElem?_append_right (by omega), tl2, Nat.sub_self]
      rfl
    simp only [e1, List.getElem?_map] at e
    have e2 : tt'[m - 1]? = some (tt'.getD (m - 1) []) := by
      rw [List.getElem?_eq_getElem (by omega)]
      simp [List.getD, show m - 1 < tt'.length by omega]
    rw [e2] at e
    have e := PyData.tuple.inj (Option.some.inj e)
    have p := tk'.row (m - 1) (by omega)
    have nd := p.nodup_iff.mpr (nb_nd hw.all ap (m - 1))
    generalize tt'.getD (m - 1) [] = row at e nd
    rcases row with _ | ⟨a, _ | ⟨b, _ | ⟨c, r⟩⟩⟩
    · simp at e
    · simp at e
    · simp at e
      simp at nd
      omega
    · simp at e
theorem no_rows {m : Nat} {tt : List (List Nat)} (m60 : m ≤ 60) (tl : tt.length = m) (rl : ∀ l ∈ tt, l.length ≤ 62) : ∀ x ∈ noT m (tt.map rwN), RowsT x := by
  have Tl : (tt.map rwN).length = m := by rw [List.length_map]; exact tl
  have Tsh : ∀ e ∈ tt.map rwN, Sho e := fun e he => by
    obtain ⟨l, hl, rfl⟩ := List.mem_map.mp he
    exact .row l (by have := rl l hl; omega)
  generalize tt.map rwN = T at Tl Tsh
  have nil : ∀ e ∈ [PyData.tuple []], Sho e := fun e he => by
    rw [List.mem_singleton.mp he]
    intro es z
    have z := PyData.tuple.inj z
    subst z
    exact Nat.zero_le _
  have zz : ∀ e ∈ [PyData.tuple [.int 0, .int 0]], Sho e := fun e he => by
    rw [List.mem_singleton.mp he]
    intro es z
    have z := PyData.tuple.inj z
    subst z
    exact Nat.le_of_ble_eq_true rfl
  have catS : ∀ A B : List PyData, (∀ e ∈ A, Sho e) → (∀ e ∈ B, Sho e) → ∀ e ∈ A ++ B, Sho e := fun A B h1 h2 e he => (List.mem_append.mp he).elim (h1 e) (h2 e)
  have tkS : ∀ n, ∀ e ∈ T.take n, Sho e := fun n e he => Tsh e (List.mem_of_mem_take he)
  intro x hx
  unfold noT at hx
  simp only [List.mem_cons, List.not_mem_nil, or_false] at hx
  rcases hx with rfl | rfl | rfl | rfl | rfl | rfl | rfl
  · exact rowsT_no nofun
  · exact rowsT_no nofun
  · exact rowsT_of (by rw [List.length_take]; omega) (tkS _)
  · exact rowsT_of (by rw [List.length_append, List.length_singleton]; omega) (catS _ _ Tsh nil)
  · exact rowsT_of (by rw [List.length_replicate]; omega) fun e he => by rw [(List.mem_replicate.mp he).2]; exact sho_no nofun
  · exact rowsT_no nofun
  · exact rowsT_of (by rw [List.length_append, List.length_take, List.length_singleton]; omega) (catS _ _ (tkS _) zz)
theorem rd_law {K : PySem.W.Frag} : ∀ as ms R, Φ_law as ms R → S K (t_law K Φ__law_deck Φ__law_webs Φ__law_is_flat Φ__law_told) (as ++ List.replicate (6 - as.length) .u) ms (fin R) := by
  rintro as ms R ⟨a, rfl, ns, rfl, hns, rfl, r⟩
  unfold t_law
  refine s_new (e_call (ea_cons (e_vars rfl (ea_cons (e_int (ea_nil ⟨_, _, rfl, ns, 300, rfl, rfl, hns, by decide, fun xs hx => ⟨_, rfl, ?_⟩⟩))))))
  refine s_seq (s_forL (js := [2, 3]) (e_call (ea_cons (e_varm rfl (ea_nil ⟨_, rfl, 0, xs, rfl, hx, rfl, fun fs xs1 al hx1 => ?_⟩)))))
  refine ⟨fs, .d _, fun i ds' ms' => ∃ o2 o3 o4 o5 : SD, ds' = [.s ns, .m 0, o2, o3, o4, o5] ∧ ms' = [.l (dkL xs1)], ⟨_, _, _, _, rfl, rfl⟩, ?_, ?_⟩
  · rintro i e ds' ms' he ⟨o2, o3, o4, o5, rfl, rfl⟩
    obtain ⟨m, ts, tt, c⟩ := al e (List.mem_of_getElem? he)
    obtain ⟨rfl, hw, ap, tk, few⟩ := c
    obtain ⟨hs, rl⟩ := case_rows hw.all ap tk few
    have m1 := hw.m1
    have m60 := hw.m60
    have tl := tk.len
    have rt := turn_rows m60 tl hs
    refine eg_tup rfl (egs_cons (eg_name (egs_cons (eg_name (egs_nil ?_)))))
    refine s_seq (s_asg (e_str ?_))
    refine s_mid (fun ds' ms' => ds' = [.s ns, .m 0, .d (encW m ts), .d (.tuple (tt.map rwN)), .d (dueD m ts tt), o5] ∧ ms' = [.l (dkL xs1)]) (s_if (et_B (e_call (ea_cons (e_var rfl (ea_cons (e_var rfl (ea_nil ⟨_, _, rfl, m, ts, tt, rfl, rfl, hw, ap, tk, by omega, hs, _, rfl, fun z => ?_, fun z => ?_⟩)))))))) ?_
    · refine s_asg (e_tup (ea_cons (e_var rfl (ea_cons (e_var rfl (ea_nil ⟨[_, _], rfl, Nat.le_of_ble_eq_true rfl, ?_, rfl⟩))))))
      unfold dueD
      rw [if_pos z]
      rfl
    · refine s_next ⟨?_, rfl⟩
      unfold dueD
      rw [if_neg (by rw [z]; decide)]
      rfl
    rintro ds' ms' ⟨rfl, rfl⟩
    have sd := shp_due m ts tt
    have told : ∀ {P : RS}, P (.d (dueD m ts tt)) [.l (dkL xs1)] → Φ__law_told [.d (encW m ts), .d (.tuple (tt.map rwN))] [.l (dkL xs1)] P := fun p => ⟨_, _, rfl, m, ts, _, rfl, rfl, hw, rt, .inr ⟨tt, rfl, ap, tk, hs, p⟩⟩
    refine s_seq (s_if (et_or (et_test (e_op (e_call (ea_cons (e_var rfl (ea_cons (e_var rfl (ea_nil (told (e_var rfl (rr_ne ⟨_, _, .d _, .d _, sd.ok (by decide), sd.ok (by decide), ?_⟩)))))))))))))
    rw [eqv_self sd]
    refine ⟨_, rfl, nofun, fun _ => et_test (e_op (e_call (ea_cons (e_var rfl (ea_cons (e_var rfl (ea_nil (told (e_var rfl (rr_ne ⟨_, _, .d _, .d _, sd.ok (by decide), sd.ok (by decide), ?_⟩))))))))))⟩
    rw [eqv_self sd]
    refine ⟨_, rfl, nofun, fun _ => s_next ?_⟩
    have Tl : (tt.map rwN).length = m := by rw [List.length_map]; exact tl
    have bad := no_turns hw ap tk
    have row := no_rows m60 tl fun l hl => by
      obtain ⟨p, hp, e⟩ := List.mem_iff_getElem.mp hl
      have := rl p (by omega)
      have g : tt.getD p [] = l := by simp [List.getD, hp, e]
      rwa [g] at this
    generalize tt.map rwN = T at Tl bad row ⊢
    refine s_forL (js := [5]) (e_lst (ea_cons (e_non (ea_cons (e_cb (ea_cons (e_var rfl (ea_nil (rc_list ⟨_, T, rfl, .inr (.d _), ?_⟩))))))))) 
    refine ea_cons (e_slA (e_var rfl (eo_none (eo_some (e_un (e_int (ru_I ⟨_, rfl, _, rfl, _, rfl, ?_⟩)))))))
    rw [cut_but1 _ (by omega), Tl]
    refine ea_cons (e_op (e_var rfl (e_tup (ea_cons (e_tup (ea_nil ⟨[], rfl, Nat.zero_le _, ea_nil ⟨[_], rfl, Nat.le_of_ble_eq_true rfl, rr_catA ⟨_, _, rfl, rfl, by simp; omega, ?_⟩⟩⟩))))))
    refine ea_cons (e_op (e_tup (ea_cons (e_non (ea_nil ⟨[_], rfl, Nat.le_of_ble_eq_true rfl, e_op (e_var rfl (e_int (rr_ix ⟨_, _, _, .inr (.d _), rfl, atI_nat (j := 0) rfl, rr_rep1 ⟨_, _, rfl, rfl, by omega, by omega, ?_⟩⟩)))⟩)))))
    rw [show ((m : Nat) : Int).toNat = m by omega]
    refine ea_cons (e_int (ea_cons (e_op (e_slA (e_var rfl (eo_none (eo_some (e_un (e_int (ru_I ⟨_, rfl, _, rfl, _, rfl, ?_⟩))))))))))
    rw [cut_but1 _ (by omega), Tl]
    refine e_tup (ea_cons (e_tup (ea_cons (e_int (ea_cons (e_int (ea_nil ⟨[_, _], rfl, Nat.le_of_ble_eq_true rfl, ea_nil ⟨[_], rfl, Nat.le_of_ble_eq_true rfl, rr_catA ⟨_, _, rfl, rfl, by simp; omega, ?_⟩⟩⟩)))))))
    refine ea_nil ⟨[_, _, _, _, _, _, _], rfl, Nat.le_of_ble_eq_true rfl, noT m T, .d _, ?_⟩
    refine ⟨fun i ds' ms' => ∃ o5 : SD, ds' = [.s ns, .m 0, .d (encW m ts), .d (.tuple T), .d (dueD m ts tt), o5] ∧ ms' = [.l (dkL xs1)], ⟨_, rfl, rfl⟩, ?_, ?_⟩
    · rintro j x ds' ms' hj ⟨o5, rfl, rfl⟩
      have xm := List.mem_of_getElem? hj
      refine eg_name (s_if (et_test (e_op (e_call (ea_cons (e_var rfl (ea_cons (e_var rfl (ea_nil ⟨_, _, rfl, m, ts, x, rfl, rfl, hw, row x xm, .inl ⟨bad x xm, ?_⟩⟩)))))))))
      refine e_str (rr_ne ⟨_, _, .d _, .d _, shp_turns.ok (by decide), shp_turns.ok (by decide), ?_⟩)
      rw [eqv_self shp_turns]
      exact ⟨_, rfl, nofun, fun _ => s_next ⟨_, rfl, rfl⟩⟩
    · rintro ds' ms' ⟨o5, rfl, rfl⟩
      exact ⟨_, _, _, _, rfl, rfl⟩
  rintro ds' ms' ⟨o2, o3, o4, o5, rfl, rfl⟩
  exact s_ret (e_bl ⟨[], _, rfl, rfl, r⟩)

theorem ok_is_whole {Pg : Program} {w : World} {K : PySem.W.Frag} {mg : Str → Option Value} {base : Heap} {f : Addr} {fd : FuncData} (F : Fun K "is_whole" "is_whole" s_is_whole f fd) (hm : mg "is_whole" = some (.ref f)) (B : ∀ x, x ∈ blt → mg x = none) : Kn Pg w K mg base "is_whole" 1 ["thing"] Φ_is_whole :=
  ⟨f, fd, ok_of F sc_is_whole len_is_whole (by decide) (fun cdv A outer s H E hr => ⟨_, dv_is_whole hr B, rd_is_whole⟩), hm, F.kp, F.binds fun _ _ _ _ _ _ us hl => match us, hl with | [_], _ => rfl⟩
theorem ok_is_number_of {Pg : Program} {w : World} {K : PySem.W.Frag} {mg : Str → Option Value} {base : Heap} {f : Addr} {fd : FuncData} (F : Fun K "is_number_of" "is_number_of" s_is_number_of f fd) (hm : mg "is_number_of" = some (.ref f)) (B : ∀ x, x ∈ blt → mg x = none) (g_is_whole : Kn Pg w K mg base "is_whole" 1 ["thing"] Φ_is_whole) : Kn Pg w K mg base "is_number_of" 2 ["many", "thing"] Φ_is_number_of :=
  ⟨f, fd, ok_of F sc_is_number_of len_is_number_of (by decide) (fun cdv A outer s H E hr => ⟨_, dv_is_number_of hr B g_is_whole, rd_is_number_of⟩), hm, F.kp, F.binds fun _ _ _ _ _ _ us hl => match us, hl with | [_, _], _ => rfl⟩
theorem ok_joins_at {Pg : Program} {w : World} {K : PySem.W.Frag} {mg : Str → Option Value} {base : Heap} {f : Addr} {fd : FuncData} (F : Fun K "joins_at" "joins_at" s_joins_at f fd) (hm : mg "joins_at" = some (.ref f)) (B : ∀ x, x ∈ blt → mg x = none) : Kn Pg w K mg base "joins_at" 1 ["many", "joins"] Φ_joins_at :=
  ⟨f, fd, ok_of F sc_joins_at len_joins_at (by decide) (fun cdv A outer s H E hr => ⟨_, dv_joins_at hr B, rd_joins_at⟩), hm, F.kp, F.binds fun _ _ _ _ _ _ us hl => match us, hl with | [_, _], _ => rfl⟩
theorem ok_group_from {Pg : Program} {w : World} {K : PySem.W.Frag} {mg : Str → Option Value} {base : Heap} {f : Addr} {fd : FuncData} (F : Fun K "group_from" "group_from" s_group_from f fd) (hm : mg "group_from" = some (.ref f)) (B : ∀ x, x ∈ blt → mg x = none) : Kn Pg w K mg base "group_from" 1 ["near", "first"] Φ_group_from :=
  ⟨f, fd, ok_of F sc_group_from len_group_from (by decide) (fun cdv A outer s H E hr => ⟨_, dv_group_from hr B, rd_group_from⟩), hm, F.kp, F.binds fun _ _ _ _ _ _ us hl => match us, hl with | [_, _], _ => rfl⟩
theorem ok_spread {Pg : Program} {w : World} {K : PySem.W.Frag} {mg : Str → Option Value} {base : Heap} {f : Addr} {fd : FuncData} (F : Fun K "spread" "spread" s_spread f fd) (hm : mg "spread" = some (.ref f)) (B : ∀ x, x ∈ blt → mg x = none) (g_joins_at : Kn Pg w K mg base "joins_at" 1 ["many", "joins"] Φ_joins_at) (g_group_from : Kn Pg w K mg base "group_from" 1 ["near", "first"] Φ_group_from) : Kn Pg w K mg base "spread" 2 ["many", "joins"] Φ_spread :=
  ⟨f, fd, ok_of F sc_spread len_spread (by decide) (fun cdv A outer s H E hr => ⟨_, dv_spread hr B g_joins_at g_group_from, rd_spread⟩), hm, F.kp, F.binds fun _ _ _ _ _ _ us hl => match us, hl with | [_, _], _ => rfl⟩
theorem ok_ring_closed {Pg : Program} {w : World} {K : PySem.W.Frag} {mg : Str → Option Value} {base : Heap} {f : Addr} {fd : FuncData} (F : Fun K "ring_closed" "ring_closed" s_ring_closed f fd) (hm : mg "ring_closed" = some (.ref f)) (B : ∀ x, x ∈ blt → mg x = none) : Kn Pg w K mg base "ring_closed" 1 ["way", "other_way", "number"] Φ_ring_closed :=
  ⟨f, fd, ok_of F sc_ring_closed len_ring_closed (by decide) (fun cdv A outer s H E hr => ⟨_, dv_ring_closed hr B, rd_ring_closed⟩), hm, F.kp, F.binds fun _ _ _ _ _ _ us hl => match us, hl with | [_, _, _], _ => rfl⟩
theorem ok_odd_rings {Pg : Program} {w : World} {K : PySem.W.Frag} {mg : Str → Option Value} {base : Heap} {f : Addr} {fd : FuncData} (F : Fun K "odd_rings" "odd_rings" s_odd_rings f fd) (hm : mg "odd_rings" = some (.ref f)) (B : ∀ x, x ∈ blt → mg x = none) (g_ring_closed : Kn Pg w K mg base "ring_closed" 1 ["way", "other_way", "number"] Φ_ring_closed) : Kn Pg w K mg base "odd_rings" 2 ["joins", "marks", "ways"] Φ_odd_rings :=
  ⟨f, fd, ok_of F sc_odd_rings len_odd_rings (by decide) (fun cdv A outer s H E hr => ⟨_, dv_odd_rings hr B g_ring_closed, rd_odd_rings⟩), hm, F.kp, F.binds fun _ _ _ _ _ _ us hl => match us, hl with | [_, _, _], _ => rfl⟩
theorem ok_parted {Pg : Program} {w : World} {K : PySem.W.Frag} {mg : Str → Option Value} {base : Heap} {f : Addr} {fd : FuncData} (F : Fun K "parted" "parted" s_parted f fd) (hm : mg "parted" = some (.ref f)) (B : ∀ x, x ∈ blt → mg x = none) (g_spread : Kn Pg w K mg base "spread" 2 ["many", "joins"] Φ_spread) (g_odd_rings : Kn Pg w K mg base "odd_rings" 2 ["joins", "marks", "ways"] Φ_odd_rings) : Kn Pg w K mg base "parted" 3 ["many", "joins"] Φ_parted :=
  ⟨f, fd, ok_of F sc_parted len_parted (by decide) (fun cdv A outer s H E hr => ⟨_, dv_parted hr B g_spread g_odd_rings, rd_parted⟩), hm, F.kp, F.binds fun _ _ _ _ _ _ us hl => match us, hl with | [_, _], _ => rfl⟩
theorem ok_common_divisor {Pg : Program} {w : World} {K : PySem.W.Frag} {mg : Str → Option Value} {base : Heap} {f : Addr} {fd : FuncData} (F : Fun K "common_divisor" "common_divisor" s_common_divisor f fd) (hm : mg "common_divisor" = some (.ref f)) (B : ∀ x, x ∈ blt → mg x = none) : Kn Pg w K mg base "common_divisor" 1 ["one", "other"] Φ_common_divisor :=
  ⟨f, fd, ok_of F sc_common_divisor len_common_divisor (by decide) (fun cdv A outer s H E hr => ⟨_, dv_common_divisor hr B, rd_common_divisor⟩), hm, F.kp, F.binds fun _ _ _ _ _ _ us hl => match us, hl with | [_, _], _ => rfl⟩
theorem ok_as_fraction {Pg : Program} {w : World} {K : PySem.W.Frag} {mg : Str → Option Value} {base : Heap} {f : Addr} {fd : FuncData} (F : Fun K "as_fraction" "as_fraction" s_as_fraction f fd) (hm : mg "as_fraction" = some (.ref f)) (B : ∀ x, x ∈ blt → mg x = none) (g_common_divisor : Kn Pg w K mg base "common_divisor" 1 ["one", "other"] Φ_common_divisor) : Kn Pg w K mg base "as_fraction" 2 ["top", "bottom"] Φ_as_fraction :=
  ⟨f, fd, ok_of F sc_as_fraction len_as_fraction (by decide) (fun cdv A outer s H E hr => ⟨_, dv_as_fraction hr B g_common_divisor, rd_as_fraction⟩), hm, F.kp, F.binds fun _ _ _ _ _ _ us hl => match us, hl with | [_, _], _ => rfl⟩
theorem ok_neighbours {Pg : Program} {w : World} {K : PySem.W.Frag} {mg : Str → Option Value} {base : Heap} {f : Addr} {fd : FuncData} (F : Fun K "neighbours" "neighbours" s_neighbours f fd) (hm : mg "neighbours" = some (.ref f)) (B : ∀ x, x ∈ blt → mg x = none) : Kn Pg w K mg base "neighbours" 1 ["web"] Φ_neighbours :=
  ⟨f, fd, ok_of F sc_neighbours len_neighbours (by decide) (fun cdv A outer s H E hr => ⟨_, dv_neighbours hr B, rd_neighbours⟩), hm, F.kp, F.binds fun _ _ _ _ _ _ us hl => match us, hl with | [_], _ => rfl⟩
theorem ok_is_round_of {Pg : Program} {w : World} {K : PySem.W.Frag} {mg : Str → Option Value} {base : Heap} {f : Addr} {fd : FuncData} (F : Fun K "is_round_of" "is_round_of" s_is_round_of f fd) (hm : mg "is_round_of" = some (.ref f)) (B : ∀ x, x ∈ blt → mg x = none) (g_is_number_of : Kn Pg w K mg base "is_number_of" 2 ["many", "thing"] Φ_is_number_of) : Kn Pg w K mg base "is_round_of" 3 ["many", "near", "thing"] Φ_is_round_of :=
  ⟨f, fd, ok_of F sc_is_round_of len_is_round_of (by decide) (fun cdv A outer s H E hr => ⟨_, dv_is_round_of hr B g_is_number_of, rd_is_round_of⟩), hm, F.kp, F.binds fun _ _ _ _ _ _ us hl => match us, hl with | [_, _, _], _ => rfl⟩
theorem ok_are_turns {Pg : Program} {w : World} {K : PySem.W.Frag} {mg : Str → Option Value} {base : Heap} {f : Addr} {fd : FuncData} (F : Fun K "are_turns" "are_turns" s_are_turns f fd) (hm : mg "are_turns" = some (.ref f)) (B : ∀ x, x ∈ blt → mg x = none) (g_neighbours : Kn Pg w K mg base "neighbours" 1 ["web"] Φ_neighbours) (g_is_round_of : Kn Pg w K mg base "is_round_of" 3 ["many", "near", "thing"] Φ_is_round_of) : Kn Pg w K mg base "are_turns" 4 ["web", "thing"] Φ_are_turns :=
  ⟨f, fd, ok_of F sc_are_turns len_are_turns (by decide) (fun cdv A outer s H E hr => ⟨_, dv_are_turns hr B g_neighbours g_is_round_of, rd_are_turns⟩), hm, F.kp, F.binds fun _ _ _ _ _ _ us hl => match us, hl with | [_, _], _ => rfl⟩
theorem ok_darts_behind {Pg : Program} {w : World} {K : PySem.W.Frag} {mg : Str → Option Value} {base : Heap} {f : Addr} {fd : FuncData} (F : Fun K "darts_behind" "darts_behind" s_darts_behind f fd) (hm : mg "darts_behind" = some (.ref f)) (B : ∀ x, x ∈ blt → mg x = none) : Kn Pg w K mg base "darts_behind" 1 ["turns"] Φ_darts_behind :=
  ⟨f, fd, ok_of F sc_darts_behind len_darts_behind (by decide) (fun cdv A outer s H E hr => ⟨_, dv_darts_behind hr B, rd_darts_behind⟩), hm, F.kp, F.binds fun _ _ _ _ _ _ us hl => match us, hl with | [_], _ => rfl⟩
theorem ok_face_from {Pg : Program} {w : World} {K : PySem.W.Frag} {mg : Str → Option Value} {base : Heap} {f : Addr} {fd : FuncData} (F : Fun K "face_from" "face_from" s_face_from f fd) (hm : mg "face_from" = some (.ref f)) (B : ∀ x, x ∈ blt → mg x = none) : Kn Pg w K mg base "face_from" 1 ["behind", "first"] Φ_face_from :=
  ⟨f, fd, ok_of F sc_face_from len_face_from (by decide) (fun cdv A outer s H E hr => ⟨_, dv_face_from hr B, rd_face_from⟩), hm, F.kp, F.binds fun _ _ _ _ _ _ us hl => match us, hl with | [_, _], _ => rfl⟩
theorem ok_faces_of {Pg : Program} {w : World} {K : PySem.W.Frag} {mg : Str → Option Value} {base : Heap} {f : Addr} {fd : FuncData} (F : Fun K "faces_of" "faces_of" s_faces_of f fd) (hm : mg "faces_of" = some (.ref f)) (B : ∀ x, x ∈ blt → mg x = none) {C_CutError C_NoWeb C_NoTurns C_NotFlat C_NoPaper C_TooGreat : Addr} (cl : Cls K mg C_CutError C_NoWeb C_NoTurns C_NotFlat C_NoPaper C_TooGreat) (g_are_turns : Kn Pg w K mg base "are_turns" 4 ["web", "thing"] Φ_are_turns) (g_darts_behind : Kn Pg w K mg base "darts_behind" 1 ["turns"] Φ_darts_behind) (g_face_from : Kn Pg w K mg base "face_from" 1 ["behind", "first"] Φ_face_from) : KnX Pg w K mg base "faces_of" 5 ["web", "turns"] C_NoTurns Φ_faces_of :=
  ⟨f, fd, okX_of F sc_faces_of len_faces_of (by decide) (t_faces_of K Pg w C_CutError C_NoWeb C_NoTurns C_NotFlat C_NoPaper C_TooGreat Φ_are_turns Φ_darts_behind Φ_face_from) (fun cdv A outer s H E hr => dv_faces_of hr B cl g_are_turns g_darts_behind g_face_from) rd_faces_of, hm, F.kp, F.binds fun _ _ _ _ _ _ us hl => match us, hl with | [_, _], _ => rfl⟩
theorem ok_part_of_points {Pg : Program} {w : World} {K : PySem.W.Frag} {mg : Str → Option Value} {base : Heap} {f : Addr} {fd : FuncData} (F : Fun K "part_of_points" "part_of_points" s_part_of_points f fd) (hm : mg "part_of_points" = some (.ref f)) (B : ∀ x, x ∈ blt → mg x = none) (g_parted : Kn Pg w K mg base "parted" 3 ["many", "joins"] Φ_parted) : Kn Pg w K mg base "part_of_points" 4 ["web"] Φ_part_of_points :=
  ⟨f, fd, ok_of F sc_part_of_points len_part_of_points (by decide) (fun cdv A outer s H E hr => ⟨_, dv_part_of_points hr B g_parted, rd_part_of_points⟩), hm, F.kp, F.binds fun _ _ _ _ _ _ us hl => match us, hl with | [_], _ => rfl⟩
theorem ok_is_flat {Pg : Program} {w : World} {K : PySem.W.Frag} {mg : Str → Option Value} {base : Heap} {f : Addr} {fd : FuncData} (F : Fun K "is_flat" "is_flat" s_is_flat f fd) (hm : mg "is_flat" = some (.ref f)) (B : ∀ x, x ∈ blt → mg x = none) (g_part_of_points : Kn Pg w K mg base "part_of_points" 4 ["web"] Φ_part_of_points) : Kn Pg w K mg base "is_flat" 5 ["web", "faces"] Φ_is_flat :=
  ⟨f, fd, ok_of F sc_is_flat len_is_flat (by decide) (fun cdv A outer s H E hr => ⟨_, dv_is_flat hr B g_part_of_points, rd_is_flat⟩), hm, F.kp, F.binds fun _ _ _ _ _ _ us hl => match us, hl with | [_, _], _ => rfl⟩
theorem ok_flat_web {Pg : Program} {w : World} {K : PySem.W.Frag} {mg : Str → Option Value} {base : Heap} {f : Addr} {fd : FuncData} (F : Fun K "flat_web" "flat_web" s_flat_web f fd) (hm : mg "flat_web" = some (.ref f)) (B : ∀ x, x ∈ blt → mg x = none) {C_CutError C_NoWeb C_NoTurns C_NotFlat C_NoPaper C_TooGreat : Addr} (cl : Cls K mg C_CutError C_NoWeb C_NoTurns C_NotFlat C_NoPaper C_TooGreat) (g_is_flat : Kn Pg w K mg base "is_flat" 5 ["web", "faces"] Φ_is_flat) (g_faces_of : KnX Pg w K mg base "faces_of" 5 ["web", "turns"] C_NoTurns Φ_faces_of) : KnY Pg w K mg base "flat_web" 6 ["web", "turns"] (Φ_flat_web C_CutError C_NoWeb C_NoTurns C_NotFlat C_NoPaper C_TooGreat) :=
  ⟨f, fd, okY_of F sc_flat_web len_flat_web (by decide) (t_flat_web K C_CutError C_NoWeb C_NoTurns C_NotFlat C_NoPaper C_TooGreat Φ_is_flat Φ_faces_of) (fun cdv A outer s H E hr => dv_flat_web hr B cl g_is_flat g_faces_of) rd_flat_web, hm, F.kp, F.binds fun _ _ _ _ _ _ us hl => match us, hl with | [_, _], _ => rfl⟩
theorem ok__law_mixed {Pg : Program} {w : World} {K : PySem.W.Frag} {mg : Str → Option Value} {base : Heap} {f : Addr} {fd : FuncData} (F : Fun K "_law_mixed" "_law_mixed" s__law_mixed f fd) (hm : mg "_law_mixed" = some (.ref f)) (B : ∀ x, x ∈ blt → mg x = none) : Kn Pg w K mg base "_law_mixed" 1 ["_law_cell", "_law_k"] Φ__law_mixed :=
  ⟨f, fd, ok_of F sc__law_mixed len__law_mixed (by decide) (fun cdv A outer s H E hr => ⟨_, dv__law_mixed hr B, rd__law_mixed⟩), hm, F.kp, F.binds fun _ _ _ _ _ _ us hl => match us, hl with | [_, _], _ => rfl⟩
theorem ok__law_deck {Pg : Program} {w : World} {K : PySem.W.Frag} {mg : Str → Option Value} {base : Heap} {f : Addr} {fd : FuncData} (F : Fun K "_law_deck" "_law_deck" s__law_deck f fd) (hm : mg "_law_deck" = some (.ref f)) (B : ∀ x, x ∈ blt → mg x = none) (g__law_mixed : Kn Pg w K mg base "_law_mixed" 1 ["_law_cell", "_law_k"] Φ__law_mixed) : Kn Pg w K mg base "_law_deck" 2 ["_law_script", "_law_many"] Φ__law_deck :=
  ⟨f, fd, ok_of F sc__law_deck len__law_deck (by decide) (fun cdv A outer s H E hr => ⟨_, dv__law_deck hr B g__law_mixed, rd__law_deck⟩), hm, F.kp, F.binds fun _ _ _ _ _ _ us hl => match us, hl with | [_, _], _ => rfl⟩
theorem ok__law_next {Pg : Program} {w : World} {K : PySem.W.Frag} {mg : Str → Option Value} {base : Heap} {f : Addr} {fd : FuncData} (F : Fun K "_law_next" "_law_next" s__law_next f fd) (hm : mg "_law_next" = some (.ref f)) (B : ∀ x, x ∈ blt → mg x = none) : Kn Pg w K mg base "_law_next" 1 ["_law_deck_here"] Φ__law_next :=
  ⟨f, fd, ok_of F sc__law_next len__law_next (by decide) (fun cdv A outer s H E hr => ⟨_, dv__law_next hr B, rd__law_next⟩), hm, F.kp, F.binds fun _ _ _ _ _ _ us hl => match us, hl with | [_], _ => rfl⟩
theorem ok__law_weight {Pg : Program} {w : World} {K : PySem.W.Frag} {mg : Str → Option Value} {base : Heap} {f : Addr} {fd : FuncData} (F : Fun K "_law_weight" "_law_weight" s__law_weight f fd) (hm : mg "_law_weight" = some (.ref f)) (B : ∀ x, x ∈ blt → mg x = none) (g__law_next : Kn Pg w K mg base "_law_next" 1 ["_law_deck_here"] Φ__law_next) (g_as_fraction : Kn Pg w K mg base "as_fraction" 2 ["top", "bottom"] Φ_as_fraction) : Kn Pg w K mg base "_law_weight" 3 ["_law_deck_here"] Φ__law_weight :=
  ⟨f, fd, ok_of F sc__law_weight len__law_weight (by decide) (fun cdv A outer s H E hr => ⟨_, dv__law_weight hr B g__law_next g_as_fraction, rd__law_weight⟩), hm, F.kp, F.binds fun _ _ _ _ _ _ us hl => match us, hl with | [_], _ => rfl⟩
theorem ok__law_order {Pg : Program} {w : World} {K : PySem.W.Frag} {mg : Str → Option Value} {base : Heap} {f : Addr} {fd : FuncData} (F : Fun K "_law_order" "_law_order" s__law_order f fd) (hm : mg "_law_order" = some (.ref f)) (B : ∀ x, x ∈ blt → mg x = none) (g__law_next : Kn Pg w K mg base "_law_next" 1 ["_law_deck_here"] Φ__law_next) : Kn Pg w K mg base "_law_order" 2 ["_law_deck_here", "_law_many"] Φ__law_order :=
  ⟨f, fd, ok_of F sc__law_order len__law_order (by decide) (fun cdv A outer s H E hr => ⟨_, dv__law_order hr B g__law_next, rd__law_order⟩), hm, F.kp, F.binds fun _ _ _ _ _ _ us hl => match us, hl with | [_, _], _ => rfl⟩
theorem ok__law_beside {Pg : Program} {w : World} {K : PySem.W.Frag} {mg : Str → Option Value} {base : Heap} {f : Addr} {fd : FuncData} (F : Fun K "_law_beside" "_law_beside" s__law_beside f fd) (hm : mg "_law_beside" = some (.ref f)) (B : ∀ x, x ∈ blt → mg x = none) : Kn Pg w K mg base "_law_beside" 1 ["_law_web"] Φ__law_beside :=
  ⟨f, fd, ok_of F sc__law_beside len__law_beside (by decide) (fun cdv A outer s H E hr => ⟨_, dv__law_beside hr B, rd__law_beside⟩), hm, F.kp, F.binds fun _ _ _ _ _ _ us hl => match us, hl with | [_], _ => rfl⟩
theorem ok__law_turns {Pg : Program} {w : World} {K : PySem.W.Frag} {mg : Str → Option Value} {base : Heap} {f : Addr} {fd : FuncData} (F : Fun K "_law_turns" "_law_turns" s__law_turns f fd) (hm : mg "_law_turns" = some (.ref f)) (B : ∀ x, x ∈ blt → mg x = none) (g__law_beside : Kn Pg w K mg base "_law_beside" 1 ["_law_web"] Φ__law_beside) (g__law_order : Kn Pg w K mg base "_law_order" 2 ["_law_deck_here", "_law_many"] Φ__law_order) : Kn Pg w K mg base "_law_turns" 3 ["_law_deck_here", "_law_web"] Φ__law_turns :=
  ⟨f, fd, ok_of F sc__law_turns len__law_turns (by decide) (fun cdv A outer s H E hr => ⟨_, dv__law_turns hr B g__law_beside g__law_order, rd__law_turns⟩), hm, F.kp, F.binds fun _ _ _ _ _ _ us hl => match us, hl with | [_, _], _ => rfl⟩
theorem ok__law_any_web {Pg : Program} {w : World} {K : PySem.W.Frag} {mg : Str → Option Value} {base : Heap} {f : Addr} {fd : FuncData} (F : Fun K "_law_any_web" "_law_any_web" s__law_any_web f fd) (hm : mg "_law_any_web" = some (.ref f)) (B : ∀ x, x ∈ blt → mg x = none) (g__law_next : Kn Pg w K mg base "_law_next" 1 ["_law_deck_here"] Φ__law_next) (g__law_weight : Kn Pg w K mg base "_law_weight" 3 ["_law_deck_here"] Φ__law_weight) : Kn Pg w K mg base "_law_any_web" 4 ["_law_deck_here", "_law_most"] Φ__law_any_web :=
  ⟨f, fd, ok_of F sc__law_any_web len__law_any_web (by decide) (fun cdv A outer s H E hr => ⟨_, dv__law_any_web hr B g__law_next g__law_weight, rd__law_any_web⟩), hm, F.kp, F.binds fun _ _ _ _ _ _ us hl => match us, hl with | [_, _], _ => rfl⟩
theorem ok__law_behind {Pg : Program} {w : World} {K : PySem.W.Frag} {mg : Str → Option Value} {base : Heap} {f : Addr} {fd : FuncData} (F : Fun K "_law_behind" "_law_behind" s__law_behind f fd) (hm : mg "_law_behind" = some (.ref f)) (B : ∀ x, x ∈ blt → mg x = none) : Kn Pg w K mg base "_law_behind" 1 ["_law_turns_here", "_law_dart"] Φ__law_behind :=
  ⟨f, fd, ok_of F sc__law_behind len__law_behind (by decide) (fun cdv A outer s H E hr => ⟨_, dv__law_behind hr B, rd__law_behind⟩), hm, F.kp, F.binds fun _ _ _ _ _ _ us hl => match us, hl with | [_, _], _ => rfl⟩
theorem ok__law_faces {Pg : Program} {w : World} {K : PySem.W.Frag} {mg : Str → Option Value} {base : Heap} {f : Addr} {fd : FuncData} (F : Fun K "_law_faces" "_law_faces" s__law_faces f fd) (hm : mg "_law_faces" = some (.ref f)) (B : ∀ x, x ∈ blt → mg x = none) (g__law_behind : Kn Pg w K mg base "_law_behind" 1 ["_law_turns_here", "_law_dart"] Φ__law_behind) : Kn Pg w K mg base "_law_faces" 2 ["_law_web", "_law_turns_here"] Φ__law_faces :=
  ⟨f, fd, ok_of F sc__law_faces len__law_faces (by decide) (fun cdv A outer s H E hr => ⟨_, dv__law_faces hr B g__law_behind, rd__law_faces⟩), hm, F.kp, F.binds fun _ _ _ _ _ _ us hl => match us, hl with | [_, _], _ => rfl⟩
theorem ok__law_after {Pg : Program} {w : World} {K : PySem.W.Frag} {mg : Str → Option Value} {base : Heap} {f : Addr} {fd : FuncData} (F : Fun K "_law_after" "_law_after" s__law_after f fd) (hm : mg "_law_after" = some (.ref f)) (B : ∀ x, x ∈ blt → mg x = none) : Kn Pg w K mg base "_law_after" 1 ["_law_row", "_law_one", "_law_new"] Φ__law_after :=
  ⟨f, fd, ok_of F sc__law_after len__law_after (by decide) (fun cdv A outer s H E hr => ⟨_, dv__law_after hr B, rd__law_after⟩), hm, F.kp, F.binds fun _ _ _ _ _ _ us hl => match us, hl with | [_, _, _], _ => rfl⟩
theorem ok__law_corners {Pg : Program} {w : World} {K : PySem.W.Frag} {mg : Str → Option Value} {base : Heap} {f : Addr} {fd : FuncData} (F : Fun K "_law_corners" "_law_corners" s__law_corners f fd) (hm : mg "_law_corners" = some (.ref f)) (B : ∀ x, x ∈ blt → mg x = none) (g__law_behind : Kn Pg w K mg base "_law_behind" 1 ["_law_turns_here", "_law_dart"] Φ__law_behind) : Kn Pg w K mg base "_law_corners" 2 ["_law_rows"] Φ__law_corners :=
  ⟨f, fd, ok_of F sc__law_corners len__law_corners (by decide) (fun cdv A outer s H E hr => ⟨_, dv__law_corners hr B g__law_behind, rd__law_corners⟩), hm, F.kp, F.binds fun _ _ _ _ _ _ us hl => match us, hl with | [_], _ => rfl⟩
theorem ok__law_put_point {Pg : Program} {w : World} {K : PySem.W.Frag} {mg : Str → Option Value} {base : Heap} {f : Addr} {fd : FuncData} (F : Fun K "_law_put_point" "_law_put_point" s__law_put_point f fd) (hm : mg "_law_put_point" = some (.ref f)) (B : ∀ x, x ∈ blt → mg x = none) (g__law_corners : Kn Pg w K mg base "_law_corners" 2 ["_law_rows"] Φ__law_corners) (g__law_next : Kn Pg w K mg base "_law_next" 1 ["_law_deck_here"] Φ__law_next) (g__law_after : Kn Pg w K mg base "_law_after" 1 ["_law_row", "_law_one", "_law_new"] Φ__law_after) : Kn Pg w K mg base "_law_put_point" 3 ["_law_deck_here", "_law_rows"] Φ__law_put_point :=
  ⟨f, fd, ok_of F sc__law_put_point len__law_put_point (by decide) (fun cdv A outer s H E hr => ⟨_, dv__law_put_point hr B g__law_corners g__law_next g__law_after, rd__law_put_point⟩), hm, F.kp, F.binds fun _ _ _ _ _ _ us hl => match us, hl with | [_, _], _ => rfl⟩
theorem ok__law_put_tie {Pg : Program} {w : World} {K : PySem.W.Frag} {mg : Str → Option Value} {base : Heap} {f : Addr} {fd : FuncData} (F : Fun K "_law_put_tie" "_law_put_tie" s__law_put_tie f fd) (hm : mg "_law_put_tie" = some (.ref f)) (B : ∀ x, x ∈ blt → mg x = none) (g__law_corners : Kn Pg w K mg base "_law_corners" 2 ["_law_rows"] Φ__law_corners) (g__law_next : Kn Pg w K mg base "_law_next" 1 ["_law_deck_here"] Φ__law_next) (g__law_after : Kn Pg w K mg base "_law_after" 1 ["_law_row", "_law_one", "_law_new"] Φ__law_after) : Kn Pg w K mg base "_law_put_tie" 3 ["_law_deck_here", "_law_rows"] Φ__law_put_tie :=
  ⟨f, fd, ok_of F sc__law_put_tie len__law_put_tie (by decide) (fun cdv A outer s H E hr => ⟨_, dv__law_put_tie hr B g__law_corners g__law_next g__law_after, rd__law_put_tie⟩), hm, F.kp, F.binds fun _ _ _ _ _ _ us hl => match us, hl with | [_, _], _ => rfl⟩
theorem ok__law_grown {Pg : Program} {w : World} {K : PySem.W.Frag} {mg : Str → Option Value} {base : Heap} {f : Addr} {fd : FuncData} (F : Fun K "_law_grown" "_law_grown" s__law_grown f fd) (hm : mg "_law_grown" = some (.ref f)) (B : ∀ x, x ∈ blt → mg x = none) (g__law_put_point : Kn Pg w K mg base "_law_put_point" 3 ["_law_deck_here", "_law_rows"] Φ__law_put_point) (g__law_put_tie : Kn Pg w K mg base "_law_put_tie" 3 ["_law_deck_here", "_law_rows"] Φ__law_put_tie) : Kn Pg w K mg base "_law_grown" 4 ["_law_deck_here", "_law_points", "_law_ties"] Φ__law_grown :=
  ⟨f, fd, ok_of F sc__law_grown len__law_grown (by decide) (fun cdv A outer s H E hr => ⟨_, dv__law_grown hr B g__law_put_point g__law_put_tie, rd__law_grown⟩), hm, F.kp, F.binds fun _ _ _ _ _ _ us hl => match us, hl with | [_, _, _], _ => rfl⟩
theorem ok__law_two_parts {Pg : Program} {w : World} {K : PySem.W.Frag} {mg : Str → Option Value} {base : Heap} {f : Addr} {fd : FuncData} (F : Fun K "_law_two_parts" "_law_two_parts" s__law_two_parts f fd) (hm : mg "_law_two_parts" = some (.ref f)) (B : ∀ x, x ∈ blt → mg x = none) : Kn Pg w K mg base "_law_two_parts" 1 ["_law_rows", "_law_others"] Φ__law_two_parts :=
  ⟨f, fd, ok_of F sc__law_two_parts len__law_two_parts (by decide) (fun cdv A outer s H E hr => ⟨_, dv__law_two_parts hr B, rd__law_two_parts⟩), hm, F.kp, F.binds fun _ _ _ _ _ _ us hl => match us, hl with | [_, _], _ => rfl⟩
theorem ok__law_named {Pg : Program} {w : World} {K : PySem.W.Frag} {mg : Str → Option Value} {base : Heap} {f : Addr} {fd : FuncData} (F : Fun K "_law_named" "_law_named" s__law_named f fd) (hm : mg "_law_named" = some (.ref f)) (B : ∀ x, x ∈ blt → mg x = none) (g__law_order : Kn Pg w K mg base "_law_order" 2 ["_law_deck_here", "_law_many"] Φ__law_order) (g__law_weight : Kn Pg w K mg base "_law_weight" 3 ["_law_deck_here"] Φ__law_weight) : Kn Pg w K mg base "_law_named" 4 ["_law_deck_here", "_law_rows"] Φ__law_named :=
  ⟨f, fd, ok_of F sc__law_named len__law_named (by decide) (fun cdv A outer s H E hr => ⟨_, dv__law_named hr B g__law_order g__law_weight, rd__law_named⟩), hm, F.kp, F.binds fun _ _ _ _ _ _ us hl => match us, hl with | [_, _], _ => rfl⟩
theorem ok__law_parts {Pg : Program} {w : World} {K : PySem.W.Frag} {mg : Str → Option Value} {base : Heap} {f : Addr} {fd : FuncData} (F : Fun K "_law_parts" "_law_parts" s__law_parts f fd) (hm : mg "_law_parts" = some (.ref f)) (B : ∀ x, x ∈ blt → mg x = none) : Kn Pg w K mg base "_law_parts" 1 ["_law_web"] Φ__law_parts :=
  ⟨f, fd, ok_of F sc__law_parts len__law_parts (by decide) (fun cdv A outer s H E hr => ⟨_, dv__law_parts hr B, rd__law_parts⟩), hm, F.kp, F.binds fun _ _ _ _ _ _ us hl => match us, hl with | [_], _ => rfl⟩
theorem ok__law_is_flat {Pg : Program} {w : World} {K : PySem.W.Frag} {mg : Str → Option Value} {base : Heap} {f : Addr} {fd : FuncData} (F : Fun K "_law_is_flat" "_law_is_flat" s__law_is_flat f fd) (hm : mg "_law_is_flat" = some (.ref f)) (B : ∀ x, x ∈ blt → mg x = none) (g__law_parts : Kn Pg w K mg base "_law_parts" 1 ["_law_web"] Φ__law_parts) (g__law_faces : Kn Pg w K mg base "_law_faces" 2 ["_law_web", "_law_turns_here"] Φ__law_faces) : Kn Pg w K mg base "_law_is_flat" 3 ["_law_web", "_law_turns_here"] Φ__law_is_flat :=
  ⟨f, fd, ok_of F sc__law_is_flat len__law_is_flat (by decide) (fun cdv A outer s H E hr => ⟨_, dv__law_is_flat hr B g__law_parts g__law_faces, rd__law_is_flat⟩), hm, F.kp, F.binds fun _ _ _ _ _ _ us hl => match us, hl with | [_, _], _ => rfl⟩
theorem ok__law_told {Pg : Program} {w : World} {K : PySem.W.Frag} {mg : Str → Option Value} {base : Heap} {f : Addr} {fd : FuncData} (F : Fun K "_law_told" "_law_told" s__law_told f fd) (hm : mg "_law_told" = some (.ref f)) (B : ∀ x, x ∈ blt → mg x = none) {C_CutError C_NoWeb C_NoTurns C_NotFlat C_NoPaper C_TooGreat : Addr} (cl : Cls K mg C_CutError C_NoWeb C_NoTurns C_NotFlat C_NoPaper C_TooGreat) (g_flat_web : KnY Pg w K mg base "flat_web" 6 ["web", "turns"] (Φ_flat_web C_CutError C_NoWeb C_NoTurns C_NotFlat C_NoPaper C_TooGreat)) : Kn Pg w K mg base "_law_told" 7 ["_law_web", "_law_thing"] Φ__law_told :=
  ⟨f, fd, ok_of F sc__law_told len__law_told (by decide) (fun cdv A outer s H E hr => ⟨_, dv__law_told hr B cl g_flat_web, rd__law_told cl⟩), hm, F.kp, F.binds fun _ _ _ _ _ _ us hl => match us, hl with | [_, _], _ => rfl⟩
theorem ok__law_changed {Pg : Program} {w : World} {K : PySem.W.Frag} {mg : Str → Option Value} {base : Heap} {f : Addr} {fd : FuncData} (F : Fun K "_law_changed" "_law_changed" s__law_changed f fd) (hm : mg "_law_changed" = some (.ref f)) (B : ∀ x, x ∈ blt → mg x = none) (g__law_next : Kn Pg w K mg base "_law_next" 1 ["_law_deck_here"] Φ__law_next) : Kn Pg w K mg base "_law_changed" 2 ["_law_deck_here", "_law_turns_here"] Φ__law_changed :=
  ⟨f, fd, ok_of F sc__law_changed len__law_changed (by decide) (fun cdv A outer s H E hr => ⟨_, dv__law_changed hr B g__law_next, rd__law_changed⟩), hm, F.kp, F.binds fun _ _ _ _ _ _ us hl => match us, hl with | [_, _], _ => rfl⟩
theorem ok__law_webs {Pg : Program} {w : World} {K : PySem.W.Frag} {mg : Str → Option Value} {base : Heap} {f : Addr} {fd : FuncData} (F : Fun K "_law_webs" "_law_webs" s__law_webs f fd) (hm : mg "_law_webs" = some (.ref f)) (B : ∀ x, x ∈ blt → mg x = none) (g__law_any_web : Kn Pg w K mg base "_law_any_web" 4 ["_law_deck_here", "_law_most"] Φ__law_any_web) (g__law_turns : Kn Pg w K mg base "_law_turns" 3 ["_law_deck_here", "_law_web"] Φ__law_turns) (g__law_grown : Kn Pg w K mg base "_law_grown" 4 ["_law_deck_here", "_law_points", "_law_ties"] Φ__law_grown) (g__law_next : Kn Pg w K mg base "_law_next" 1 ["_law_deck_here"] Φ__law_next) (g__law_two_parts : Kn Pg w K mg base "_law_two_parts" 1 ["_law_rows", "_law_others"] Φ__law_two_parts) (g__law_named : Kn Pg w K mg base "_law_named" 4 ["_law_deck_here", "_law_rows"] Φ__law_named) (g__law_changed : Kn Pg w K mg base "_law_changed" 2 ["_law_deck_here", "_law_turns_here"] Φ__law_changed) : Kn Pg w K mg base "_law_webs" 5 ["_law_deck_here"] Φ__law_webs :=
  ⟨f, fd, ok_of F sc__law_webs len__law_webs (by decide) (fun cdv A outer s H E hr => ⟨_, dv__law_webs hr B g__law_any_web g__law_turns g__law_grown g__law_next g__law_two_parts g__law_named g__law_changed, rd__law_webs⟩), hm, F.kp, F.binds fun _ _ _ _ _ _ us hl => match us, hl with | [_], _ => rfl⟩
theorem all_mk {l : PySem.W.OpenLaw} {w : World} {K : PySem.W.Frag} {h : Heap} {mg : Str → Option Value} {fa f1 f2 f3 f4 f5 f6 f7 f8 f9 f10 f11 f12 f13 f14 f15 f16 f17 f18 f19 f20 f21 f22 f23 f24 f25 f26 f27 f28 f29 f30 f31 f32 f33 f34 f35 f36 f37 f38 f39 f40 f41 f42 C_CutError C_NoWeb C_NoTurns C_NotFlat C_NoPaper C_TooGreat : Addr} (X : K.In h) (G : h.Ns mainGlobals mg) (hfa : mg "law" = some (.ref fa))
    {od1 an1 od2 an2 od3 an3 od4 an4 od5 an5 od6 an6 od7 an7 od8 an8 od9 an9 od10 an10 od11 an11 od12 an12 od13 an13 od14 an14 od15 an15 od16 an16 od17 an17 od18 an18 od19 an19 od20 an20 od21 an21 od22 an22 od23 an23 od24 an24 od25 an25 od26 an26 od27 an27 od28 an28 od29 an29 od30 an30 od31 an31 od32 an32 od33 an33 od34 an34 od35 an35 od36 an36 od37 an37 od38 an38 od39 an39 od40 an40 od41 an41 od42 an42 : Option Addr} {sl1 sl2 sl3 sl4 sl5 sl6 sl7 sl8 sl9 sl10 sl11 sl12 sl13 sl14 sl15 sl16 sl17 sl18 sl19 sl20 sl21 sl22 sl23 sl24 sl25 sl26 sl27 sl28 sl29 sl30 sl31 sl32 sl33 sl34 sl35 sl36 sl37 sl38 sl39 sl40 sl41 sl42 : Array (Option Value)} {oc1 kV1 dc1 pm1 cd1 ct1 oc2 kV2 dc2 pm2 cd2 ct2 oc3 kV3 dc3 pm3 cd3 ct3 oc4 kV4 dc4 pm4 cd4 ct4 oc5 kV5 dc5 pm5 cd5 ct5 oc6 kV6 dc6 pm6 cd6 ct6 oc7 kV7 dc7 pm7 cd7 ct7 oc8 kV8 dc8 pm8 cd8 ct8 oc9 kV9 dc9 pm9 cd9 ct9 oc10 kV10 dc10 pm10 cd10 ct10 oc11 kV11 dc11 pm11 cd11 ct11 oc12 kV12 dc12 pm12 cd12 ct12 oc13 kV13 dc13 pm13 cd13 ct13 oc14 kV14 dc14 pm14 cd14 ct14 oc15 kV15 dc15 pm15 cd15 ct15 oc16 kV16 dc16 pm16 cd16 ct16 oc17 kV17 dc17 pm17 cd17 ct17 oc18 kV18 dc18 pm18 cd18 ct18 oc19 kV19 dc19 pm19 cd19 ct19 oc20 kV20 dc20 pm20 cd20 ct20 oc21 kV21 dc21 pm21 cd21 ct21 oc22 kV22 dc22 pm22 cd22 ct22 oc23 kV23 dc23 pm23 cd23 ct23 oc24 kV24 dc24 pm24 cd24 ct24 oc25 kV25 dc25 pm25 cd25 ct25 oc26 kV26 dc26 pm26 cd26 ct26 oc27 kV27 dc27 pm27 cd27 ct27 oc28 kV28 dc28 pm28 cd28 ct28 oc29 kV29 dc29 pm29 cd29 ct29 oc30 kV30 dc30 pm30 cd30 ct30 oc31 kV31 dc31 pm31 cd31 ct31 oc32 kV32 dc32 pm32 cd32 ct32 oc33 kV33 dc33 pm33 cd33 ct33 oc34 kV34 dc34 pm34 cd34 ct34 oc35 kV35 dc35 pm35 cd35 ct35 oc36 kV36 dc36 pm36 cd36 ct36 oc37 kV37 dc37 pm37 cd37 ct37 oc38 kV38 dc38 pm38 cd38 ct38 oc39 kV39 dc39 pm39 cd39 ct39 oc40 kV40 dc40 pm40 cd40 ct40 oc41 kV41 dc41 pm41 cd41 ct41 oc42 kV42 dc42 pm42 cd42 ct42 : Value}
    (a1 : PySem.W.nsIn K mainGlobals "is_whole" = some (some (.ref f1))) (l1 : K.lookup f1 = some ⟨oc1, od1, .func (PySem.W.fnOf "is_whole" "is_whole" (defArgs s_is_whole) (defBody s_is_whole) (defScope s_is_whole) .none kV1 dc1 pm1 an1 cd1 ct1), sl1⟩) (c1 : PySem.W.codeIn K cd1 "is_whole" = true) (k1 : PySem.W.keepIn K (.ref f1) = true)
    (a2 : PySem.W.nsIn K mainGlobals "is_number_of" = some (some (.ref f2))) (l2 : K.lookup f2 = some ⟨oc2, od2, .func (PySem.W.fnOf "is_number_of" "is_number_of" (defArgs s_is_number_of) (defBody s_is_number_of) (defScope s_is_number_of) .none kV2 dc2 pm2 an2 cd2 ct2), sl2⟩) (c2 : PySem.W.codeIn K cd2 "is_number_of" = true) (k2 : PySem.W.keepIn K (.ref f2) = true)
    (a3 : PySem.W.nsIn K mainGlobals "joins_at" = some (some (.ref f3))) (l3 : K.lookup f3 = some ⟨oc3, od3, .func (PySem.W.fnOf "joins_at" "joins_at" (defArgs s_joins_at) (defBody s_joins_at) (defScope s_joins_at) .none kV3 dc3 pm3 an3 cd3 ct3), sl3⟩) (c3 : PySem.W.codeIn K cd3 "joins_at" = true) (k3 : PySem.W.keepIn K (.ref f3) = true)
    (a4 : PySem.W.nsIn K mainGlobals "group_from" = some (some (.ref f4))) (l4 : K.lookup f4 = some ⟨oc4, od4, .func (PySem.W.fnOf "group_from" "group_from" (defArgs s_group_from) (defBody s_group_from) (defScope s_group_from) .none kV4 dc4 pm4 an4 cd4 ct4), sl4⟩) (c4 : PySem.W.codeIn K cd4 "group_from" = true) (k4 : PySem.W.keepIn K (.ref f4) = true)
    (a5 : PySem.W.nsIn K mainGlobals "spread" = some (some (.ref f5))) (l5 : K.lookup f5 = some ⟨oc5, od5, .func (PySem.W.fnOf "spread" "spread" (defArgs s_spread) (defBody s_spread) (defScope s_spread) .none kV5 dc5 pm5 an5 cd5 ct5), sl5⟩) (c5 : PySem.W.codeIn K cd5 "spread" = true) (k5 : PySem.W.keepIn K (.ref f5) = true)
    (a6 : PySem.W.nsIn K mainGlobals "ring_closed" = some (some (.ref f6))) (l6 : K.lookup f6 = some ⟨oc6, od6, .func (PySem.W.fnOf "ring_closed" "ring_closed" (defArgs s_ring_closed) (defBody s_ring_closed) (defScope s_ring_closed) .none kV6 dc6 pm6 an6 cd6 ct6), sl6⟩) (c6 : PySem.W.codeIn K cd6 "ring_closed" = true) (k6 : PySem.W.keepIn K (.ref f6) = true)
    (a7 : PySem.W.nsIn K mainGlobals "odd_rings" = some (some (.ref f7))) (l7 : K.lookup f7 = some ⟨oc7, od7, .func (PySem.W.fnOf "odd_rings" "odd_rings" (defArgs s_odd_rings) (defBody s_odd_rings) (defScope s_odd_rings) .none kV7 dc7 pm7 an7 cd7 ct7), sl7⟩) (c7 : PySem.W.codeIn K cd7 "odd_rings" = true) (k7 : PySem.W.keepIn K (.ref f7) = true)
    (a8 : PySem.W.nsIn K mainGlobals "parted" = some (some (.ref f8))) (l8 : K.lookup f8 = some ⟨oc8, od8, .func (PySem.W.fnOf "parted" "parted" (defArgs s_parted) (defBody s_parted) (defScope s_parted) .none kV8 dc8 pm8 an8 cd8 ct8), sl8⟩) (c8 : PySem.W.codeIn K cd8 "parted" = true) (k8 : PySem.W.keepIn K (.ref f8) = true)
    (a9 : PySem.W.nsIn K mainGlobals "common_divisor" = some (some (.ref f9))) (l9 : K.lookup f9 = some ⟨oc9, od9, .func (PySem.W.fnOf "common_divisor" "common_divisor" (defArgs s_common_divisor) (defBody s_common_divisor) (defScope s_common_divisor) .none kV9 dc9 pm9 an9 cd9 ct9), sl9⟩) (c9 : PySem.W.codeIn K cd9 "common_divisor" = true) (k9 : PySem.W.keepIn K (.ref f9) = true)
    (a10 : PySem.W.nsIn K mainGlobals "as_fraction" = some (some (.ref f10))) (l10 : K.lookup f10 = some ⟨oc10, od10, .func (PySem.W.fnOf "as_fraction" "as_fraction" (defArgs s_as_fraction) (defBody s_as_fraction) (defScope s_as_fraction) .none kV10 dc10 pm10 an10 cd10 ct10), sl10⟩) (c10 : PySem.W.codeIn K cd10 "as_fraction" = true) (k10 : PySem.W.keepIn K (.ref f10) = true)
    (a11 : PySem.W.nsIn K mainGlobals "neighbours" = some (some (.ref f11))) (l11 : K.lookup f11 = some ⟨oc11, od11, .func (PySem.W.fnOf "neighbours" "neighbours" (defArgs s_neighbours) (defBody s_neighbours) (defScope s_neighbours) .none kV11 dc11 pm11 an11 cd11 ct11), sl11⟩) (c11 : PySem.W.codeIn K cd11 "neighbours" = true) (k11 : PySem.W.keepIn K (.ref f11) = true)
    (a12 : PySem.W.nsIn K mainGlobals "is_round_of" = some (some (.ref f12))) (l12 : K.lookup f12 = some ⟨oc12, od12, .func (PySem.W.fnOf "is_round_of" "is_round_of" (defArgs s_is_round_of) (defBody s_is_round_of) (defScope s_is_round_of) .none kV12 dc12 pm12 an12 cd12 ct12), sl12⟩) (c12 : PySem.W.codeIn K cd12 "is_round_of" = true) (k12 : PySem.W.keepIn K (.ref f12) = true)
    (a13 : PySem.W.nsIn K mainGlobals "are_turns" = some (some (.ref f13))) (l13 : K.lookup f13 = some ⟨oc13, od13, .func (PySem.W.fnOf "are_turns" "are_turns" (defArgs s_are_turns) (defBody s_are_turns) (defScope s_are_turns) .none kV13 dc13 pm13 an13 cd13 ct13), sl13⟩) (c13 : PySem.W.codeIn K cd13 "are_turns" = true) (k13 : PySem.W.keepIn K (.ref f13) = true)
    (a14 : PySem.W.nsIn K mainGlobals "darts_behind" = some (some (.ref f14))) (l14 : K.lookup f14 = some ⟨oc14, od14, .func (PySem.W.fnOf "darts_behind" "darts_behind" (defArgs s_darts_behind) (defBody s_darts_behind) (defScope s_darts_behind) .none kV14 dc14 pm14 an14 cd14 ct14), sl14⟩) (c14 : PySem.W.codeIn K cd14 "darts_behind" = true) (k14 : PySem.W.keepIn K (.ref f14) = true)
    (a15 : PySem.W.nsIn K mainGlobals "face_from" = some (some (.ref f15))) (l15 : K.lookup f15 = some ⟨oc15, od15, .func (PySem.W.fnOf "face_from" "face_from" (defArgs s_face_from) (defBody s_face_from) (defScope s_face_from) .none kV15 dc15 pm15 an15 cd15 ct15), sl15⟩) (c15 : PySem.W.codeIn K cd15 "face_from" = true) (k15 : PySem.W.keepIn K (.ref f15) = true)
    (a16 : PySem.W.nsIn K mainGlobals "faces_of" = some (some (.ref f16))) (l16 : K.lookup f16 = some ⟨oc16, od16, .func (PySem.W.fnOf "faces_of" "faces_of" (defArgs s_faces_of) (defBody s_faces_of) (defScope s_faces_of) .none kV16 dc16 pm16 an16 cd16 ct16), sl16⟩) (c16 : PySem.W.codeIn K cd16 "faces_of" = true) (k16 : PySem.W.keepIn K (.ref f16) = true)
    (a17 : PySem.W.nsIn K mainGlobals "part_of_points" = some (some (.ref f17))) (l17 : K.lookup f17 = some ⟨oc17, od17, .func (PySem.W.fnOf "part_of_points" "part_of_points" (defArgs s_part_of_points) (defBody s_part_of_points) (defScope s_part_of_points) .none kV17 dc17 pm17 an17 cd17 ct17), sl17⟩) (c17 : PySem.W.codeIn K cd17 "part_of_points" = true) (k17 : PySem.W.keepIn K (.ref f17) = true)
    (a18 : PySem.W.nsIn K mainGlobals "is_flat" = some (some (.ref f18))) (l18 : K.lookup f18 = some ⟨oc18, od18, .func (PySem.W.fnOf "is_flat" "is_flat" (defArgs s_is_flat) (defBody s_is_flat) (defScope s_is_flat) .none kV18 dc18 pm18 an18 cd18 ct18), sl18⟩) (c18 : PySem.W.codeIn K cd18 "is_flat" = true) (k18 : PySem.W.keepIn K (.ref f18) = true)
    (a19 : PySem.W.nsIn K mainGlobals "flat_web" = some (some (.ref f19))) (l19 : K.lookup f19 = some ⟨oc19, od19, .func (PySem.W.fnOf "flat_web" "flat_web" (defArgs s_flat_web) (defBody s_flat_web) (defScope s_flat_web) .none kV19 dc19 pm19 an19 cd19 ct19), sl19⟩) (c19 : PySem.W.codeIn K cd19 "flat_web" = true) (k19 : PySem.W.keepIn K (.ref f19) = true)
    (a20 : PySem.W.nsIn K mainGlobals "_law_mixed" = some (some (.ref f20))) (l20 : K.lookup f20 = some ⟨oc20, od20, .func (PySem.W.fnOf "_law_mixed" "_law_mixed" (defArgs s__law_mixed) (defBody s__law_mixed) (defScope s__law_mixed) .none kV20 dc20 pm20 an20 cd20 ct20), sl20⟩) (c20 : PySem.W.codeIn K cd20 "_law_mixed" = true) (k20 : PySem.W.keepIn K (.ref f20) = true)
    (a21 : PySem.W.nsIn K mainGlobals "_law_deck" = some (some (.ref f21))) (l21 : K.lookup f21 = some ⟨oc21, od21, .func (PySem.W.fnOf "_law_deck" "_law_deck" (defArgs s__law_deck) (defBody s__law_deck) (defScope s__law_deck) .none kV21 dc21 pm21 an21 cd21 ct21), sl21⟩) (c21 : PySem.W.codeIn K cd21 "_law_deck" = true) (k21 : PySem.W.keepIn K (.ref f21) = true)
    (a22 : PySem.W.nsIn K mainGlobals "_law_next" = some (some (.ref f22))) (l22 : K.lookup f22 = some ⟨oc22, od22, .func (PySem.W.fnOf "_law_next" "_law_next" (defArgs s__law_next) (defBody s__law_next) (defScope s__law_next) .none kV22 dc22 pm22 an22 cd22 ct22), sl22⟩) (c22 : PySem.W.codeIn K cd22 "_law_next" = true) (k22 : PySem.W.keepIn K (.ref f22) = true)
    (a23 : PySem.W.nsIn K mainGlobals "_law_weight" = some (some (.ref f23))) (l23 : K.lookup f23 = some ⟨oc23, od23, .func (PySem.W.fnOf "_law_weight" "_law_weight" (defArgs s__law_weight) (defBody s__law_weight) (defScope s__law_weight) .none kV23 dc23 pm23 an23 cd23 ct23), sl23⟩) (c23 : PySem.W.codeIn K cd23 "_law_weight" = true) (k23 : PySem.W.keepIn K (.ref f23) = true)
    (a24 : PySem.W.nsIn K mainGlobals "_law_order" = some (some (.ref f24))) (l24 : K.lookup f24 = some ⟨oc24, od24, .func (PySem.W.fnOf "_law_order" "_law_order" (defArgs s__law_order) (defBody s__law_order) (defScope s__law_order) .none kV24 dc24 pm24 an24 cd24 ct24), sl24⟩) (c24 : PySem.W.codeIn K cd24 "_law_order" = true) (k24 : PySem.W.keepIn K (.ref f24) = true)
    (a25 : PySem.W.nsIn K mainGlobals "_law_beside" = some (some (.ref f25))) (l25 : K.lookup f25 = some ⟨oc25, od25, .func (PySem.W.fnOf "_law_beside" "_law_beside" (defArgs s__law_beside) (defBody s__law_beside) (defScope s__law_beside) .none kV25 dc25 pm25 an25 cd25 ct25), sl25⟩) (c25 : PySem.W.codeIn K cd25 "_law_beside" = true) (k25 : PySem.W.keepIn K (.ref f25) = true)
    (a26 : PySem.W.nsIn K mainGlobals "_law_turns" = some (some (.ref f26))) (l26 : K.lookup f26 = some ⟨oc26, od26, .func (PySem.W.fnOf "_law_turns" "_law_turns" (defArgs s__law_turns) (defBody s__law_turns) (defScope s__law_turns) .none kV26 dc26 pm26 an26 cd26 ct26), sl26⟩) (c26 : PySem.W.codeIn K cd26 "_law_turns" = true) (k26 : PySem.W.keepIn K (.ref f26) = true)
    (a27 : PySem.W.nsIn K mainGlobals "_law_any_web" = some (some (.ref f27))) (l27 : K.lookup f27 = some ⟨oc27, od27, .func (PySem.W.fnOf "_law_any_web" "_law_any_web" (defArgs s__law_any_web) (defBody s__law_any_web) (defScope s__law_any_web) .none kV27 dc27 pm27 an27 cd27 ct27), sl27⟩) (c27 : PySem.W.codeIn K cd27 "_law_any_web" = true) (k27 : PySem.W.keepIn K (.ref f27) = true)
    (a28 : PySem.W.nsIn K mainGlobals "_law_behind" = some (some (.ref f28))) (l28 : K.lookup f28 = some ⟨oc28, od28, .func (PySem.W.fnOf "_law_behind" "_law_behind" (defArgs s__law_behind) (defBody s__law_behind) (defScope s__law_behind) .none kV28 dc28 pm28 an28 cd28 ct28), sl28⟩) (c28 : PySem.W.codeIn K cd28 "_law_behind" = true) (k28 : PySem.W.keepIn K (.ref f28) = true)
    (a29 : PySem.W.nsIn K mainGlobals "_law_faces" = some (some (.ref f29))) (l29 : K.lookup f29 = some ⟨oc29, od29, .func (PySem.W.fnOf "_law_faces" "_law_faces" (defArgs s__law_faces) (defBody s__law_faces) (defScope s__law_faces) .none kV29 dc29 pm29 an29 cd29 ct29), sl29⟩) (c29 : PySem.W.codeIn K cd29 "_law_faces" = true) (k29 : PySem.W.keepIn K (.ref f29) = true)
    (a30 : PySem.W.nsIn K mainGlobals "_law_after" = some (some (.ref f30))) (l30 : K.lookup f30 = some ⟨oc30, od30, .func (PySem.W.fnOf "_law_after" "_law_after" (defArgs s__law_after) (defBody s__law_after) (defScope s__law_after) .none kV30 dc30 pm30 an30 cd30 ct30), sl30⟩) (c30 : PySem.W.codeIn K cd30 "_law_after" = true) (k30 : PySem.W.keepIn K (.ref f30) = true)
    (a31 : PySem.W.nsIn K mainGlobals "_law_corners" = some (some (.ref f31))) (l31 : K.lookup f31 = some ⟨oc31, od31, .func (PySem.W.fnOf "_law_corners" "_law_corners" (defArgs s__law_corners) (defBody s__law_corners) (defScope s__law_corners) .none kV31 dc31 pm31 an31 cd31 ct31), sl31⟩) (c31 : PySem.W.codeIn K cd31 "_law_corners" = true) (k31 : PySem.W.keepIn K (.ref f31) = true)
    (a32 : PySem.W.nsIn K mainGlobals "_law_put_point" = some (some (.ref f32))) (l32 : K.lookup f32 = some ⟨oc32, od32, .func (PySem.W.fnOf "_law_put_point" "_law_put_point" (defArgs s__law_put_point) (defBody s__law_put_point) (defScope s__law_put_point) .none kV32 dc32 pm32 an32 cd32 ct32), sl32⟩) (c32 : PySem.W.codeIn K cd32 "_law_put_point" = true) (k32 : PySem.W.keepIn K (.ref f32) = true)
    (a33 : PySem.W.nsIn K mainGlobals "_law_put_tie" = some (some (.ref f33))) (l33 : K.lookup f33 = some ⟨oc33, od33, .func (PySem.W.fnOf "_law_put_tie" "_law_put_tie" (defArgs s__law_put_tie) (defBody s__law_put_tie) (defScope s__law_put_tie) .none kV33 dc33 pm33 an33 cd33 ct33), sl33⟩) (c33 : PySem.W.codeIn K cd33 "_law_put_tie" = true) (k33 : PySem.W.keepIn K (.ref f33) = true)
    (a34 : PySem.W.nsIn K mainGlobals "_law_grown" = some (some (.ref f34))) (l34 : K.lookup f34 = some ⟨oc34, od34, .func (PySem.W.fnOf "_law_grown" "_law_grown" (defArgs s__law_grown) (defBody s__law_grown) (defScope s__law_grown) .none kV34 dc34 pm34 an34 cd34 ct34), sl34⟩) (c34 : PySem.W.codeIn K cd34 "_law_grown" = true) (k34 : PySem.W.keepIn K (.ref f34) = true)
    (a35 : PySem.W.nsIn K mainGlobals "_law_two_parts" = some (some (.ref f35))) (l35 : K.lookup f35 = some ⟨oc35, od35, .func (PySem.W.fnOf "_law_two_parts" "_law_two_parts" (defArgs s__law_two_parts) (defBody s__law_two_parts) (defScope s__law_two_parts) .none kV35 dc35 pm35 an35 cd35 ct35), sl35⟩) (c35 : PySem.W.codeIn K cd35 "_law_two_parts" = true) (k35 : PySem.W.keepIn K (.ref f35) = true)
    (a36 : PySem.W.nsIn K mainGlobals "_law_named" = some (some (.ref f36))) (l36 : K.lookup f36 = some ⟨oc36, od36, .func (PySem.W.fnOf "_law_named" "_law_named" (defArgs s__law_named) (defBody s__law_named) (defScope s__law_named) .none kV36 dc36 pm36 an36 cd36 ct36), sl36⟩) (c36 : PySem.W.codeIn K cd36 "_law_named" = true) (k36 : PySem.W.keepIn K (.ref f36) = true)
    (a37 : PySem.W.nsIn K mainGlobals "_law_parts" = some (some (.ref f37))) (l37 : K.lookup f37 = some ⟨oc37, od37, .func (PySem.W.fnOf "_law_parts" "_law_parts" (defArgs s__law_parts) (defBody s__law_parts) (defScope s__law_parts) .none kV37 dc37 pm37 an37 cd37 ct37), sl37⟩) (c37 : PySem.W.codeIn K cd37 "_law_parts" = true) (k37 : PySem.W.keepIn K (.ref f37) = true)
    (a38 : PySem.W.nsIn K mainGlobals "_law_is_flat" = some (some (.ref f38))) (l38 : K.lookup f38 = some ⟨oc38, od38, .func (PySem.W.fnOf "_law_is_flat" "_law_is_flat" (defArgs s__law_is_flat) (defBody s__law_is_flat) (defScope s__law_is_flat) .none kV38 dc38 pm38 an38 cd38 ct38), sl38⟩) (c38 : PySem.W.codeIn K cd38 "_law_is_flat" = true) (k38 : PySem.W.keepIn K (.ref f38) = true)
    (a39 : PySem.W.nsIn K mainGlobals "_law_told" = some (some (.ref f39))) (l39 : K.lookup f39 = some ⟨oc39, od39, .func (PySem.W.fnOf "_law_told" "_law_told" (defArgs s__law_told) (defBody s__law_told) (defScope s__law_told) .none kV39 dc39 pm39 an39 cd39 ct39), sl39⟩) (c39 : PySem.W.codeIn K cd39 "_law_told" = true) (k39 : PySem.W.keepIn K (.ref f39) = true)
    (a40 : PySem.W.nsIn K mainGlobals "_law_changed" = some (some (.ref f40))) (l40 : K.lookup f40 = some ⟨oc40, od40, .func (PySem.W.fnOf "_law_changed" "_law_changed" (defArgs s__law_changed) (defBody s__law_changed) (defScope s__law_changed) .none kV40 dc40 pm40 an40 cd40 ct40), sl40⟩) (c40 : PySem.W.codeIn K cd40 "_law_changed" = true) (k40 : PySem.W.keepIn K (.ref f40) = true)
    (a41 : PySem.W.nsIn K mainGlobals "_law_webs" = some (some (.ref f41))) (l41 : K.lookup f41 = some ⟨oc41, od41, .func (PySem.W.fnOf "_law_webs" "_law_webs" (defArgs s__law_webs) (defBody s__law_webs) (defScope s__law_webs) .none kV41 dc41 pm41 an41 cd41 ct41), sl41⟩) (c41 : PySem.W.codeIn K cd41 "_law_webs" = true) (k41 : PySem.W.keepIn K (.ref f41) = true)
    (a42 : PySem.W.nsIn K mainGlobals "law" = some (some (.ref f42))) (l42 : K.lookup f42 = some ⟨oc42, od42, .func (PySem.W.fnOf "law" "law" (defArgs s_law) (defBody s_law) (defScope s_law) .none kV42 dc42 pm42 an42 cd42 ct42), sl42⟩) (c42 : PySem.W.codeIn K cd42 "law" = true) (k42 : PySem.W.keepIn K (.ref f42) = true)
    (g_CutError : PySem.W.nsIn K mainGlobals "CutError" = some (some (.ref C_CutError)))
    (g_NoWeb : PySem.W.nsIn K mainGlobals "NoWeb" = some (some (.ref C_NoWeb)))
    (g_NoTurns : PySem.W.nsIn K mainGlobals "NoTurns" = some (some (.ref C_NoTurns)))
    (g_NotFlat : PySem.W.nsIn K mainGlobals "NotFlat" = some (some (.ref C_NotFlat)))
    (g_NoPaper : PySem.W.nsIn K mainGlobals "NoPaper" = some (some (.ref C_NoPaper)))
    (g_TooGreat : PySem.W.nsIn K mainGlobals "TooGreat" = some (some (.ref C_TooGreat)))
    (iq_CutError : PySem.W.isClsIn K C_CutError = true)
    (yq_CutError : PySem.W.typeIn K (.ref C_CutError) = some (.type "type"))
    (iq_NoWeb : PySem.W.isClsIn K C_NoWeb = true)
    (yq_NoWeb : PySem.W.typeIn K (.ref C_NoWeb) = some (.type "type"))
    (iq_NoTurns : PySem.W.isClsIn K C_NoTurns = true)
    (yq_NoTurns : PySem.W.typeIn K (.ref C_NoTurns) = some (.type "type"))
    (iq_NotFlat : PySem.W.isClsIn K C_NotFlat = true)
    (yq_NotFlat : PySem.W.typeIn K (.ref C_NotFlat) = some (.type "type"))
    (iq_NoPaper : PySem.W.isClsIn K C_NoPaper = true)
    (yq_NoPaper : PySem.W.typeIn K (.ref C_NoPaper) = some (.type "type"))
    (iq_TooGreat : PySem.W.isClsIn K C_TooGreat = true)
    (yq_TooGreat : PySem.W.typeIn K (.ref C_TooGreat) = some (.type "type"))
    (bq_NoPaper : PySem.W.subIn K (.ref C_NoPaper) (.type "BaseException") = some true)
    (bq_NoTurns : PySem.W.subIn K (.ref C_NoTurns) (.type "BaseException") = some true)
    (bq_NoWeb : PySem.W.subIn K (.ref C_NoWeb) (.type "BaseException") = some true)
    (bq_TooGreat : PySem.W.subIn K (.ref C_TooGreat) (.type "BaseException") = some true)
    (bq_CutError : PySem.W.subIn K (.ref C_CutError) (.type "BaseException") = some true)
    (x_NoTurns : PySem.W.excIn K C_NoTurns [.type "ValueError", .type "Exception", .type "BaseException", .type "object"] "ValueError.__new__" = true)
    (k_NoTurns : PySem.W.keepIn K (.ref C_NoTurns) = true)
    (b_NoTurns : PySem.W.subIn K (.ref C_NoTurns) (.type "BaseException") = some true)
    (t_NoTurns : PySem.W.typeIn K (.ref C_NoTurns) = some (.type "type"))
    (s_NoTurns : PySem.W.subIn K (.ref C_NoTurns) (.ref C_NoTurns) = some true)
    (e0_NoTurns : PySem.W.findIn K (.ref C_NoTurns) "__getattribute__" = some (some (.builtin "BaseException.__getattribute__")))
    (e1_NoTurns : PySem.W.findIn K (.ref C_NoTurns) "__getattr__" = some none)
    (e2_NoTurns : PySem.W.subIn K (.ref C_NoTurns) (.type "BaseException") = some true)
    (e3_NoTurns : PySem.W.hasDictIn K C_NoTurns = true)
    (e4_NoTurns : PySem.W.findIn K (.ref C_NoTurns) "__class__" = some (some (.builtin "object.__class__")))
    (e5_NoTurns : PySem.W.specialIn K (.builtin "object.__class__") "__get__" = some (some (.builtin "getset_descriptor.__get__")))
    (e6_NoTurns : PySem.W.takesIn K (.builtin "object.__class__") = some true)
    (e7_NoTurns : PySem.W.mroIn K C_NoTurns (.type "object") = some true)
    (n_NoTurns_NoWeb : PySem.W.subIn K (.ref C_NoTurns) (.ref C_NoWeb) = some false)
    (n_NoTurns_NotFlat : PySem.W.subIn K (.ref C_NoTurns) (.ref C_NotFlat) = some false)
    (n_NoTurns_NoPaper : PySem.W.subIn K (.ref C_NoTurns) (.ref C_NoPaper) = some false)
    (n_NoTurns_TooGreat : PySem.W.subIn K (.ref C_NoTurns) (.ref C_TooGreat) = some false)
    (i_NoTurns_CutError : PySem.W.isClsIn K C_CutError = true)
    (y_NoTurns_CutError : PySem.W.typeIn K (.ref C_CutError) = some (.type "type"))
    (u_NoTurns_CutError : PySem.W.subIn K (.ref C_NoTurns) (.ref C_CutError) = some true)
    (v_NoTurns : PySem.W.subIn K (.ref C_NoTurns) (.type "ValueError") = some true)
    (x_NotFlat : PySem.W.excIn K C_NotFlat [.type "ValueError", .type "Exception", .type "BaseException", .type "object"] "ValueError.__new__" = true)
    (k_NotFlat : PySem.W.keepIn K (.ref C_NotFlat) = true)
    (b_NotFlat : PySem.W.subIn K (.ref C_NotFlat) (.type "BaseException") = some true)
    (t_NotFlat : PySem.W.typeIn K (.ref C_NotFlat) = some (.type "type"))
    (s_NotFlat : PySem.W.subIn K (.ref C_NotFlat) (.ref C_NotFlat) = some true)
    (e0_NotFlat : PySem.W.findIn K (.ref C_NotFlat) "__getattribute__" = some (some (.builtin "BaseException.__getattribute__")))
    (e1_NotFlat : PySem.W.findIn K (.ref C_NotFlat) "__getattr__" = some none)
    (e2_NotFlat : PySem.W.subIn K (.ref C_NotFlat) (.type "BaseException") = some true)
    (e3_NotFlat : PySem.W.hasDictIn K C_NotFlat = true)
    (e4_NotFlat : PySem.W.findIn K (.ref C_NotFlat) "__class__" = some (some (.builtin "object.__class__")))
    (e5_NotFlat : PySem.W.specialIn K (.builtin "object.__class__") "__get__" = some (some (.builtin "getset_descriptor.__get__")))
    (e6_NotFlat : PySem.W.takesIn K (.builtin "object.__class__") = some true)
    (e7_NotFlat : PySem.W.mroIn K C_NotFlat (.type "object") = some true)
    (n_NotFlat_NoWeb : PySem.W.subIn K (.ref C_NotFlat) (.ref C_NoWeb) = some false)
    (n_NotFlat_NoTurns : PySem.W.subIn K (.ref C_NotFlat) (.ref C_NoTurns) = some false)
    (n_NotFlat_NoPaper : PySem.W.subIn K (.ref C_NotFlat) (.ref C_NoPaper) = some false)
    (n_NotFlat_TooGreat : PySem.W.subIn K (.ref C_NotFlat) (.ref C_TooGreat) = some false)
    (i_NotFlat_CutError : PySem.W.isClsIn K C_CutError = true)
    (y_NotFlat_CutError : PySem.W.typeIn K (.ref C_CutError) = some (.type "type"))
    (u_NotFlat_CutError : PySem.W.subIn K (.ref C_NotFlat) (.ref C_CutError) = some true)
    (v_NotFlat : PySem.W.subIn K (.ref C_NotFlat) (.type "ValueError") = some true)
    (z0 : PySem.W.nsIn K mainGlobals "bool" = some none) (z1 : PySem.W.nsIn K mainGlobals "isinstance" = some none) (z2 : PySem.W.nsIn K mainGlobals "int" = some none) (z3 : PySem.W.nsIn K mainGlobals "range" = some none) (z4 : PySem.W.nsIn K mainGlobals "enumerate" = some none) (z5 : PySem.W.nsIn K mainGlobals "sorted" = some none) (z6 : PySem.W.nsIn K mainGlobals "tuple" = some none) (z7 : PySem.W.nsIn K mainGlobals "min" = some none) (z8 : PySem.W.nsIn K mainGlobals "len" = some none) (z9 : PySem.W.nsIn K mainGlobals "abs" = some none) (z10 : PySem.W.nsIn K mainGlobals "all" = some none) (z11 : PySem.W.nsIn K mainGlobals "zip" = some none) (z12 : PySem.W.nsIn K mainGlobals "set" = some none) (z13 : PySem.W.nsIn K mainGlobals "list" = some none) (z14 : PySem.W.nsIn K mainGlobals "reversed" = some none) (z15 : PySem.W.nsIn K mainGlobals "ValueError" = some none) :
    ∃ fd : FuncData, (∀ (s : Shared) (v : Value), BindsTo s fd ⟨[v], []⟩ [("_law_script", v)]) ∧ ∀ base : Heap, K.In base → base.Ns mainGlobals mg → FnOk l.prog w K mg base CX0 8 fa fd ["_law_script"] (SpD K Φ_law) := by
  have B : ∀ x, x ∈ blt → mg x = none := by
    intro x hx
    simp only [blt, List.mem_cons, List.not_mem_nil, or_false] at hx
    rcases hx with rfl | rfl | rfl | rfl | rfl | rfl | rfl | rfl | rfl | rfl | rfl | rfl | rfl | rfl | rfl | rfl
    · exact PySem.W.mg_none_of X G z0
    · exact PySem.W.mg_none_of X G z1
    · exact PySem.W.mg_none_of X G z2
    · exact PySem.W.mg_none_of X G z3
    · exact PySem.W.mg_none_of X G z4
    · exact PySem.W.mg_none_of X G z5
    · exact PySem.W.mg_none_of X G z6
    · exact PySem.W.mg_none_of X G z7
    · exact PySem.W.mg_none_of X G z8
    · exact PySem.W.mg_none_of X G z9
    · exact PySem.W.mg_none_of X G z10
    · exact PySem.W.mg_none_of X G z11
    · exact PySem.W.mg_none_of X G z12
    · exact PySem.W.mg_none_of X G z13
    · exact PySem.W.mg_none_of X G z14
    · exact PySem.W.mg_none_of X G z15
  have cl : Cls K mg C_CutError C_NoWeb C_NoTurns C_NotFlat C_NoPaper C_TooGreat := ⟨PySem.W.mg_of X G g_CutError, PySem.W.mg_of X G g_NoWeb, PySem.W.mg_of X G g_NoTurns, PySem.W.mg_of X G g_NotFlat, PySem.W.mg_of X G g_NoPaper, PySem.W.mg_of X G g_TooGreat, ⟨PySem.W.mg_of X G g_NoTurns, x_NoTurns, k_NoTurns, b_NoTurns, t_NoTurns, s_NoTurns, ⟨e0_NoTurns, e1_NoTurns, e2_NoTurns, e3_NoTurns, e4_NoTurns, e5_NoTurns, e6_NoTurns, e7_NoTurns⟩⟩, kit_up i_NoTurns_CutError y_NoTurns_CutError u_NoTurns_CutError, kit_no iq_NoWeb yq_NoWeb n_NoTurns_NoWeb s_NoTurns, kit_no iq_NotFlat yq_NotFlat n_NoTurns_NotFlat s_NoTurns, kit_no iq_NoPaper yq_NoPaper n_NoTurns_NoPaper s_NoTurns, kit_no iq_TooGreat yq_TooGreat n_NoTurns_TooGreat s_NoTurns, exm_up bq_CutError iq_CutError yq_CutError u_NoTurns_CutError, exm_up bq_NoPaper iq_NoPaper yq_NoPaper n_NoTurns_NoPaper, exm_up bq_NoWeb iq_NoWeb yq_NoWeb n_NoTurns_NoWeb, exm_up bq_TooGreat iq_TooGreat yq_TooGreat n_NoTurns_TooGreat, kit_upT (by decide +kernel) v_NoTurns, ⟨PySem.W.mg_of X G g_NotFlat, x_NotFlat, k_NotFlat, b_NotFlat, t_NotFlat, s_NotFlat, ⟨e0_NotFlat, e1_NotFlat, e2_NotFlat, e3_NotFlat, e4_NotFlat, e5_NotFlat, e6_NotFlat, e7_NotFlat⟩⟩, kit_up i_NotFlat_CutError y_NotFlat_CutError u_NotFlat_CutError, kit_no iq_NoWeb yq_NoWeb n_NotFlat_NoWeb s_NotFlat, kit_no iq_NoTurns yq_NoTurns n_NotFlat_NoTurns s_NotFlat, kit_no iq_NoPaper yq_NoPaper n_NotFlat_NoPaper s_NotFlat, kit_no iq_TooGreat yq_TooGreat n_NotFlat_TooGreat s_NotFlat, exm_up bq_CutError iq_CutError yq_CutError u_NotFlat_CutError, exm_up bq_NoPaper iq_NoPaper yq_NoPaper n_NotFlat_NoPaper, exm_up bq_NoWeb iq_NoWeb yq_NoWeb n_NotFlat_NoWeb, exm_up bq_TooGreat iq_TooGreat yq_TooGreat n_NotFlat_TooGreat, exm_up bq_NoTurns iq_NoTurns yq_NoTurns n_NotFlat_NoTurns, kit_upT (by decide +kernel) v_NotFlat⟩
  have e := hfa.symm.trans (PySem.W.mg_of X G a42)
  cases e
  have F1 := fun_mk (st := s_is_whole) l1 c1 k1
  have F2 := fun_mk (st := s_is_number_of) l2 c2 k2
  have F3 := fun_mk (st := s_joins_at) l3 c3 k3
  have F4 := fun_mk (st := s_group_from) l4 c4 k4
  have F5 := fun_mk (st := s_spread) l5 c5 k5
  have F6 := fun_mk (st := s_ring_closed) l6 c6 k6
  have F7 := fun_mk (st := s_odd_rings) l7 c7 k7
  have F8 := fun_mk (st := s_parted) l8 c8 k8
  have F9 := fun_mk (st := s_common_divisor) l9 c9 k9
  have F10 := fun_mk (st := s_as_fraction) l10 c10 k10
  have F11 := fun_mk (st := s_neighbours) l11 c11 k11
  have F12 := fun_mk (st := s_is_round_of) l12 c12 k12
  have F13 := fun_mk (st := s_are_turns) l13 c13 k13
  have F14 := fun_mk (st := s_darts_behind) l14 c14 k14
  have F15 := fun_mk (st := s_face_from) l15 c15 k15
  have F16 := fun_mk (st := s_faces_of) l16 c16 k16
  have F17 := fun_mk (st := s_part_of_points) l17 c17 k17
  have F18 := fun_mk (st := s_is_flat) l18 c18 k18
  have F19 := fun_mk (st := s_flat_web) l19 c19 k19
  have F20 := fun_mk (st := s__law_mixed) l20 c20 k20
  have F21 := fun_mk (st := s__law_deck) l21 c21 k21
  have F22 := fun_mk (st := s__law_next) l22 c22 k22
  have F23 := fun_mk (st := s__law_weight) l23 c23 k23
  have F24 := fun_mk (st := s__law_order) l24 c24 k24
  have F25 := fun_mk (st := s__law_beside) l25 c25 k25
  have F26 := fun_mk (st := s__law_turns) l26 c26 k26
  have F27 := fun_mk (st := s__law_any_web) l27 c27 k27
  have F28 := fun_mk (st := s__law_behind) l28 c28 k28
  have F29 := fun_mk (st := s__law_faces) l29 c29 k29
  have F30 := fun_mk (st := s__law_after) l30 c30 k30
  have F31 := fun_mk (st := s__law_corners) l31 c31 k31
  have F32 := fun_mk (st := s__law_put_point) l32 c32 k32
  have F33 := fun_mk (st := s__law_put_tie) l33 c33 k33
  have F34 := fun_mk (st := s__law_grown) l34 c34 k34
  have F35 := fun_mk (st := s__law_two_parts) l35 c35 k35
  have F36 := fun_mk (st := s__law_named) l36 c36 k36
  have F37 := fun_mk (st := s__law_parts) l37 c37 k37
  have F38 := fun_mk (st := s__law_is_flat) l38 c38 k38
  have F39 := fun_mk (st := s__law_told) l39 c39 k39
  have F40 := fun_mk (st := s__law_changed) l40 c40 k40
  have F41 := fun_mk (st := s__law_webs) l41 c41 k41
  have F42 := fun_mk (st := s_law) l42 c42 k42
  have g_is_whole : ∀ base : Heap, Kn l.prog w K mg base "is_whole" 1 ["thing"] Φ_is_whole := fun base => ok_is_whole F1 (PySem.W.mg_of X G a1) B
  have g_joins_at : ∀ base : Heap, Kn l.prog w K mg base "joins_at" 1 ["many", "joins"] Φ_joins_at := fun base => ok_joins_at F3 (PySem.W.mg_of X G a3) B
  have g_group_from : ∀ base : Heap, Kn l.prog w K mg base "group_from" 1 ["near", "first"] Φ_group_from := fun base => ok_group_from F4 (PySem.W.mg_of X G a4) B
  have g_ring_closed : ∀ base : Heap, Kn l.prog w K mg base "ring_closed" 1 ["way", "other_way", "number"] Φ_ring_closed := fun base => ok_ring_closed F6 (PySem.W.mg_of X G a6) B
  have g_common_divisor : ∀ base : Heap, Kn l.prog w K mg base "common_divisor" 1 ["one", "other"] Φ_common_divisor := fun base => ok_common_divisor F9 (PySem.W.mg_of X G a9) B
  have g_neighbours : ∀ base : Heap, Kn l.prog w K mg base "neighbours" 1 ["web"] Φ_neighbours := fun base => ok_neighbours F11 (PySem.W.mg_of X G a11) B
  have g_darts_behind : ∀ base : Heap, Kn l.prog w K mg base "darts_behind" 1 ["turns"] Φ_darts_behind := fun base => ok_darts_behind F14 (PySem.W.mg_of X G a14) B
  have g_face_from : ∀ base : Heap, Kn l.prog w K mg base "face_from" 1 ["behind", "first"] Φ_face_from := fun base => ok_face_from F15 (PySem.W.mg_of X G a15) B
  have g__law_mixed : ∀ base : Heap, Kn l.prog w K mg base "_law_mixed" 1 ["_law_cell", "_law_k"] Φ__law_mixed := fun base => ok__law_mixed F20 (PySem.W.mg_of X G a20) B
  have g__law_next : ∀ base : Heap, Kn l.prog w K mg base "_law_next" 1 ["_law_deck_here"] Φ__law_next := fun base => ok__law_next F22 (PySem.W.mg_of X G a22) B
  have g__law_beside : ∀ base : Heap, Kn l.prog w K mg base "_law_beside" 1 ["_law_web"] Φ__law_beside := fun base => ok__law_beside F25 (PySem.W.mg_of X G a25) B
  have g__law_behind : ∀ base : Heap, Kn l.prog w K mg base "_law_behind" 1 ["_law_turns_here", "_law_dart"] Φ__law_behind := fun base => ok__law_behind F28 (PySem.W.mg_of X G a28) B
  have g__law_after : ∀ base : Heap, Kn l.prog w K mg base "_law_after" 1 ["_law_row", "_law_one", "_law_new"] Φ__law_after := fun base => ok__law_after F30 (PySem.W.mg_of X G a30) B
  have g__law_two_parts : ∀ base : Heap, Kn l.prog w K mg base "_law_two_parts" 1 ["_law_rows", "_law_others"] Φ__law_two_parts := fun base => ok__law_two_parts F35 (PySem.W.mg_of X G a35) B
  have g__law_parts : ∀ base : Heap, Kn l.prog w K mg base "_law_parts" 1 ["_law_web"] Φ__law_parts := fun base => ok__law_parts F37 (PySem.W.mg_of X G a37) B
  have g_is_number_of : ∀ base : Heap, Kn l.prog w K mg base "is_number_of" 2 ["many", "thing"] Φ_is_number_of := fun base => ok_is_number_of F2 (PySem.W.mg_of X G a2) B (g_is_whole base)
  have g_spread : ∀ base : Heap, Kn l.prog w K mg base "spread" 2 ["many", "joins"] Φ_spread := fun base => ok_spread F5 (PySem.W.mg_of X G a5) B (g_joins_at base) (g_group_from base)
  have g_odd_rings : ∀ base : Heap, Kn l.prog w K mg base "odd_rings" 2 ["joins", "marks", "ways"] Φ_odd_rings := fun base => ok_odd_rings F7 (PySem.W.mg_of X G a7) B (g_ring_closed base)
  have g_as_fraction : ∀ base : Heap, Kn l.prog w K mg base "as_fraction" 2 ["top", "bottom"] Φ_as_fraction := fun base => ok_as_fraction F10 (PySem.W.mg_of X G a10) B (g_common_divisor base)
  have g__law_deck : ∀ base : Heap, Kn l.prog w K mg base "_law_deck" 2 ["_law_script", "_law_many"] Φ__law_deck := fun base => ok__law_deck F21 (PySem.W.mg_of X G a21) B (g__law_mixed base)
  have g__law_order : ∀ base : Heap, Kn l.prog w K mg base "_law_order" 2 ["_law_deck_here", "_law_many"] Φ__law_order := fun base => ok__law_order F24 (PySem.W.mg_of X G a24) B (g__law_next base)
  have g__law_faces : ∀ base : Heap, Kn l.prog w K mg base "_law_faces" 2 ["_law_web", "_law_turns_here"] Φ__law_faces := fun base => ok__law_faces F29 (PySem.W.mg_of X G a29) B (g__law_behind base)
  have g__law_corners : ∀ base : Heap, Kn l.prog w K mg base "_law_corners" 2 ["_law_rows"] Φ__law_corners := fun base => ok__law_corners F31 (PySem.W.mg_of X G a31) B (g__law_behind base)
  have g__law_changed : ∀ base : Heap, Kn l.prog w K mg base "_law_changed" 2 ["_law_deck_here", "_law_turns_here"] Φ__law_changed := fun base => ok__law_changed F40 (PySem.W.mg_of X G a40) B (g__law_next base)
  have g_parted : ∀ base : Heap, Kn l.prog w K mg base "parted" 3 ["many", "joins"] Φ_parted := fun base => ok_parted F8 (PySem.W.mg_of X G a8) B (g_spread base) (g_odd_rings base)
  have g_is_round_of : ∀ base : Heap, Kn l.prog w K mg base "is_round_of" 3 ["many", "near", "thing"] Φ_is_round_of := fun base => ok_is_round_of F12 (PySem.W.mg_of X G a12) B (g_is_number_of base)
  have g__law_weight : ∀ base : Heap, Kn l.prog w K mg base "_law_weight" 3 ["_law_deck_here"] Φ__law_weight := fun base => ok__law_weight F23 (PySem.W.mg_of X G a23) B (g__law_next base) (g_as_fraction base)
  have g__law_turns : ∀ base : Heap, Kn l.prog w K mg base "_law_turns" 3 ["_law_deck_here", "_law_web"] Φ__law_turns := fun base => ok__law_turns F26 (PySem.W.mg_of X G a26) B (g__law_beside base) (g__law_order base)
  have g__law_put_point : ∀ base : Heap, Kn l.prog w K mg base "_law_put_point" 3 ["_law_deck_here", "_law_rows"] Φ__law_put_point := fun base => ok__law_put_point F32 (PySem.W.mg_of X G a32) B (g__law_corners base) (g__law_next base) (g__law_after base)
  have g__law_put_tie : ∀ base : Heap, Kn l.prog w K mg base "_law_put_tie" 3 ["_law_deck_here", "_law_rows"] Φ__law_put_tie := fun base => ok__law_put_tie F33 (PySem.W.mg_of X G a33) B (g__law_corners base) (g__law_next base) (g__law_after base)
  have g__law_is_flat : ∀ base : Heap, Kn l.prog w K mg base "_law_is_flat" 3 ["_law_web", "_law_turns_here"] Φ__law_is_flat := fun base => ok__law_is_flat F38 (PySem.W.mg_of X G a38) B (g__law_parts base) (g__law_faces base)
  have g_are_turns : ∀ base : Heap, Kn l.prog w K mg base "are_turns" 4 ["web", "thing"] Φ_are_turns := fun base => ok_are_turns F13 (PySem.W.mg_of X G a13) B (g_neighbours base) (g_is_round_of base)
  have g_part_of_points : ∀ base : Heap, Kn l.prog w K mg base "part_of_points" 4 ["web"] Φ_part_of_points := fun base => ok_part_of_points F17 (PySem.W.mg_of X G a17) B (g_parted base)
  have g__law_any_web : ∀ base : Heap, Kn l.prog w K mg base "_law_any_web" 4 ["_law_deck_here", "_law_most"] Φ__law_any_web := fun base => ok__law_any_web F27 (PySem.W.mg_of X G a27) B (g__law_next base) (g__law_weight base)
  have g__law_grown : ∀ base : Heap, Kn l.prog w K mg base "_law_grown" 4 ["_law_deck_here", "_law_points", "_law_ties"] Φ__law_grown := fun base => ok__law_grown F34 (PySem.W.mg_of X G a34) B (g__law_put_point base) (g__law_put_tie base)
  have g__law_named : ∀ base : Heap, Kn l.prog w K mg base "_law_named" 4 ["_law_deck_here", "_law_rows"] Φ__law_named := fun base => ok__law_named F36 (PySem.W.mg_of X G a36) B (g__law_order base) (g__law_weight base)
  have g_faces_of : ∀ base : Heap, KnX l.prog w K mg base "faces_of" 5 ["web", "turns"] C_NoTurns Φ_faces_of := fun base => ok_faces_of F16 (PySem.W.mg_of X G a16) B cl (g_are_turns base) (g_darts_behind base) (g_face_from base)
  have g_is_flat : ∀ base : Heap, Kn l.prog w K mg base "is_flat" 5 ["web", "faces"] Φ_is_flat := fun base => ok_is_flat F18 (PySem.W.mg_of X G a18) B (g_part_of_points base)
  have g__law_webs : ∀ base : Heap, Kn l.prog w K mg base "_law_webs" 5 ["_law_deck_here"] Φ__law_webs := fun base => ok__law_webs F41 (PySem.W.mg_of X G a41) B (g__law_any_web base) (g__law_turns base) (g__law_grown base) (g__law_next base) (g__law_two_parts base) (g__law_named base) (g__law_changed base)
  have g_flat_web : ∀ base : Heap, KnY l.prog w K mg base "flat_web" 6 ["web", "turns"] (Φ_flat_web C_CutError C_NoWeb C_NoTurns C_NotFlat C_NoPaper C_TooGreat) := fun base => ok_flat_web F19 (PySem.W.mg_of X G a19) B cl (g_is_flat base) (g_faces_of base)
  have g__law_told : ∀ base : Heap, Kn l.prog w K mg base "_law_told" 7 ["_law_web", "_law_thing"] Φ__law_told := fun base => ok__law_told F39 (PySem.W.mg_of X G a39) B cl (g_flat_web base)
  exact ⟨PySem.W.fnOf "law" "law" (defArgs s_law) (defBody s_law) (defScope s_law) .none kV42 dc42 pm42 an42 cd42 ct42, fun s v => .of_eq rfl, fun base _ _ => ok_of F42 sc_law len_law (by decide) (fun cdv A outer s H E hr => ⟨_, dv_law hr B (g__law_deck base) (g__law_webs base) (g__law_is_flat base) (g__law_told base), rd_law⟩)⟩
end K51
open PySem PySem.W PyProof.Rows
set_option maxRecDepth 100000 in
set_option maxHeartbeats 0 in
theorem PySem.Challenge.cw_heavycut_k51_flat_or_not_holds : PySem.Challenge.rw_heavycut_k51_flat_or_not.Holds := by
  w_on; o_law; k_head; (case hw => w_witness2)
  k_fill
  refine L2.walk_of (l := PySem.Challenge.rw_heavycut_k51_flat_or_not) (n := 63) (k := 8) (x := "_law_script") (CX := fun _ => L2.CX0) (sp := fun w => Hc.SpD _ K51.Φ_law) rfl (by decide) rfl ⟨rfl, by decide, by decide⟩ (fun w h Y => PySem.W.kIn_of Y) ?F (fun _ _ a ns hl hO hS => K51.law_at hl hO hS) (fun _ _ _ _ _ h => h)
  case F =>
    intro w mg fa h KX G hmg
    refine' K51.all_mk KX G hmg ?a1 ?l1 ?c1 ?k1 ?a2 ?l2 ?c2 ?k2 ?a3 ?l3 ?c3 ?k3 ?a4 ?l4 ?c4 ?k4 ?a5 ?l5 ?c5 ?k5 ?a6 ?l6 ?c6 ?k6 ?a7 ?l7 ?c7 ?k7 ?a8 ?l8 ?c8 ?k8 ?a9 ?l9 ?c9 ?k9 ?a10 ?l10 ?c10 ?k10 ?a11 ?l11 ?c11 ?k11 ?a12 ?l12 ?c12 ?k12 ?a13 ?l13 ?c13 ?k13 ?a14 ?l14 ?c14 ?k14 ?a15 ?l15 ?c15 ?k15 ?a16 ?l16 ?c16 ?k16 ?a17 ?l17 ?c17 ?k17 ?a18 ?l18 ?c18 ?k18 ?a19 ?l19 ?c19 ?k19 ?a20 ?l20 ?c20 ?k20 ?a21 ?l21 ?c21 ?k21 ?a22 ?l22 ?c22 ?k22 ?a23 ?l23 ?c23 ?k23 ?a24 ?l24 ?c24 ?k24 ?a25 ?l25 ?c25 ?k25 ?a26 ?l26 ?c26 ?k26 ?a27 ?l27 ?c27 ?k27 ?a28 ?l28 ?c28 ?k28 ?a29 ?l29 ?c29 ?k29 ?a30 ?l30 ?c30 ?k30 ?a31 ?l31 ?c31 ?k31 ?a32 ?l32 ?c32 ?k32 ?a33 ?l33 ?c33 ?k33 ?a34 ?l34 ?c34 ?k34 ?a35 ?l35 ?c35 ?k35 ?a36 ?l36 ?c36 ?k36 ?a37 ?l37 ?c37 ?k37 ?a38 ?l38 ?c38 ?k38 ?a39 ?l39 ?c39 ?k39 ?a40 ?l40 ?c40 ?k40 ?a41 ?l41 ?c41 ?k41 ?a42 ?l42 ?c42 ?k42 ?g_CutError ?g_NoWeb ?g_NoTurns ?g_NotFlat ?g_NoPaper ?g_TooGreat ?iq_CutError ?yq_CutError ?iq_NoWeb ?yq_NoWeb ?iq_NoTurns ?yq_NoTurns ?iq_NotFlat ?yq_NotFlat ?iq_NoPaper ?yq_NoPaper ?iq_TooGreat ?yq_TooGreat ?bq_NoPaper ?bq_NoTurns ?bq_NoWeb ?bq_TooGreat ?bq_CutError ?x_NoTurns ?k_NoTurns ?b_NoTurns ?t_NoTurns ?s_NoTurns ?e0_NoTurns ?e1_NoTurns ?e2_NoTurns ?e3_NoTurns ?e4_NoTurns ?e5_NoTurns ?e6_NoTurns ?e7_NoTurns ?n_NoTurns_NoWeb ?n_NoTurns_NotFlat ?n_NoTurns_NoPaper ?n_NoTurns_TooGreat ?i_NoTurns_CutError ?y_NoTurns_CutError ?u_NoTurns_CutError ?v_NoTurns ?x_NotFlat ?k_NotFlat ?b_NotFlat ?t_NotFlat ?s_NotFlat ?e0_NotFlat ?e1_NotFlat ?e2_NotFlat ?e3_NotFlat ?e4_NotFlat ?e5_NotFlat ?e6_NotFlat ?e7_NotFlat ?n_NotFlat_NoWeb ?n_NotFlat_NoTurns ?n_NotFlat_NoPaper ?n_NotFlat_TooGreat ?i_NotFlat_CutError ?y_NotFlat_CutError ?u_NotFlat_CutError ?v_NotFlat ?z0 ?z1 ?z2 ?z3 ?z4 ?z5 ?z6 ?z7 ?z8 ?z9 ?z10 ?z11 ?z12 ?z13 ?z14 ?z15
    (case a1 => k_is); (case l1 => k_is); (case c1 => k_is); (case k1 => k_is); (case a2 => k_is); (case l2 => k_is); (case c2 => k_is); (case k2 => k_is); (case a3 => k_is); (case l3 => k_is); (case c3 => k_is); (case k3 => k_is); (case a4 => k_is); (case l4 => k_is); (case c4 => k_is); (case k4 => k_is); (case a5 => k_is); (case l5 => k_is); (case c5 => k_is); (case k5 => k_is); (case a6 => k_is); (case l6 => k_is); (case c6 => k_is); (case k6 => k_is); (case a7 => k_is); (case l7 => k_is); (case c7 => k_is); (case k7 => k_is); (case a8 => k_is); (case l8 => k_is); (case c8 => k_is); (case k8 => k_is); (case a9 => k_is); (case l9 => k_is); (case c9 => k_is); (case k9 => k_is); (case a10 => k_is); (case l10 => k_is); (case c10 => k_is); (case k10 => k_is); (case a11 => k_is); (case l11 => k_is); (case c11 => k_is); (case k11 => k_is); (case a12 => k_is); (case l12 => k_is); (case c12 => k_is); (case k12 => k_is); (case a13 => k_is); (case l13 => k_is); (case c13 => k_is); (case k13 => k_is); (case a14 => k_is); (case l14 => k_is); (case c14 => k_is); (case k14 => k_is); (case a15 => k_is); (case l15 => k_is); (case c15 => k_is); (case k15 => k_is); (case a16 => k_is); (case l16 => k_is); (case c16 => k_is); (case k16 => k_is); (case a17 => k_is); (case l17 => k_is); (case c17 => k_is); (case k17 => k_is); (case a18 => k_is); (case l18 => k_is); (case c18 => k_is); (case k18 => k_is); (case a19 => k_is); (case l19 => k_is); (case c19 => k_is); (case k19 => k_is); (case a20 => k_is); (case l20 => k_is); (case c20 => k_is); (case k20 => k_is); (case a21 => k_is); (case l21 => k_is); (case c21 => k_is); (case k21 => k_is); (case a22 => k_is); (case l22 => k_is); (case c22 => k_is); (case k22 => k_is); (case a23 => k_is); (case l23 => k_is); (case c23 => k_is); (case k23 => k_is); (case a24 => k_is); (case l24 => k_is); (case c24 => k_is); (case k24 => k_is); (case a25 => k_is); (case l25 => k_is); (case c25 => k_is); (case k25 => k_is); (case a26 => k_is); (case l26 => k_is); (case c26 => k_is); (case k26 => k_is); (case a27 => k_is); (case l27 => k_is); (case c27 => k_is); (case k27 => k_is); (case a28 => k_is); (case l28 => k_is); (case c28 => k_is); (case k28 => k_is); (case a29 => k_is); (case l29 => k_is); (case c29 => k_is); (case k29 => k_is); (case a30 => k_is); (case l30 => k_is); (case c30 => k_is); (case k30 => k_is); (case a31 => k_is); (case l31 => k_is); (case c31 => k_is); (case k31 => k_is); (case a32 => k_is); (case l32 => k_is); (case c32 => k_is); (case k32 => k_is); (case a33 => k_is); (case l33 => k_is); (case c33 => k_is); (case k33 => k_is); (case a34 => k_is); (case l34 => k_is); (case c34 => k_is); (case k34 => k_is); (case a35 => k_is); (case l35 => k_is); (case c35 => k_is); (case k35 => k_is); (case a36 => k_is); (case l36 => k_is); (case c36 => k_is); (case k36 => k_is); (case a37 => k_is); (case l37 => k_is); (case c37 => k_is); (case k37 => k_is); (case a38 => k_is); (case l38 => k_is); (case c38 => k_is); (case k38 => k_is); (case a39 => k_is); (case l39 => k_is); (case c39 => k_is); (case k39 => k_is); (case a40 => k_is); (case l40 => k_is); (case c40 => k_is); (case k40 => k_is); (case a41 => k_is); (case l41 => k_is); (case c41 => k_is); (case k41 => k_is); (case a42 => k_is); (case l42 => k_is); (case c42 => k_is); (case k42 => k_is); (case g_CutError => k_is); (case g_NoWeb => k_is); (case g_NoTurns => k_is); (case g_NotFlat => k_is); (case g_NoPaper => k_is); (case g_TooGreat => k_is); (case iq_CutError => k_is); (case yq_CutError => k_is); (case iq_NoWeb => k_is); (case yq_NoWeb => k_is); (case iq_NoTurns => k_is); (case yq_NoTurns => k_is); (case iq_NotFlat => k_is); (case yq_NotFlat => k_is); (case iq_NoPaper => k_is); (case yq_NoPaper => k_is); (case iq_TooGreat => k_is); (case yq_TooGreat => k_is); (case bq_NoPaper => k_is); (case bq_NoTurns => k_is); (case bq_NoWeb => k_is); (case bq_TooGreat => k_is); (case bq_CutError => k_is); (case x_NoTurns => k_exc); (case k_NoTurns => k_is); (case b_NoTurns => k_is); (case t_NoTurns => k_is); (case s_NoTurns => first | rfl | k_is); (case e0_NoTurns => k_is); (case e1_NoTurns => k_is); (case e2_NoTurns => k_is); (case e3_NoTurns => k_is); (case e4_NoTurns => k_is); (case e5_NoTurns => k_is); (case e6_NoTurns => k_is); (case e7_NoTurns => k_is); (case n_NoTurns_NoWeb => k_is); (case n_NoTurns_NotFlat => k_is); (case n_NoTurns_NoPaper => k_is); (case n_NoTurns_TooGreat => k_is); (case i_NoTurns_CutError => k_is); (case y_NoTurns_CutError => k_is); (case u_NoTurns_CutError => k_is); (case v_NoTurns => k_is); (case x_NotFlat => k_exc); (case k_NotFlat => k_is); (case b_NotFlat => k_is); (case t_NotFlat => k_is); (case s_NotFlat => first | rfl | k_is); (case e0_NotFlat => k_is); (case e1_NotFlat => k_is); (case e2_NotFlat => k_is); (case e3_NotFlat => k_is); (case e4_NotFlat => k_is); (case e5_NotFlat => k_is); (case e6_NotFlat => k_is); (case e7_NotFlat => k_is); (case n_NotFlat_NoWeb => k_is); (case n_NotFlat_NoTurns => k_is); (case n_NotFlat_NoPaper => k_is); (case n_NotFlat_TooGreat => k_is); (case i_NotFlat_CutError => k_is); (case y_NotFlat_CutError => k_is); (case u_NotFlat_CutError => k_is); (case v_NotFlat => k_is); (case z0 => k_is); (case z1 => k_is); (case z2 => k_is); (case z3 => k_is); (case z4 => k_is); (case z5 => k_is); (case z6 => k_is); (case z7 => k_is); (case z8 => k_is); (case z9 => k_is); (case z10 => k_is); (case z11 => k_is); (case z12 => k_is); (case z13 => k_is); (case z14 => k_is); (case z15 => k_is)
#print axioms PySem.Challenge.cw_heavycut_k51_flat_or_not_holds
